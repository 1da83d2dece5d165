/-
  'LexNames': the law of layer 5 on the examples returns true, and leaves memory as it was. No condition.
-/
import Derived.Test.YtbcjffjifocaeaaLexCat
namespace Go.Proofs.Ytbcjffjifocaeaa.lexNames
open Go Go.ChangeShapes Go.WideShapes Go.ChangeAt Go.RowKit
set_option linter.unusedSimpArgs false
set_option linter.unusedVariables false

abbrev txA : ByteArray := ⟨#[97, 114, 103, 48, 32, 38, 32, 48, 120, 49, 102, 62, 61, 50, 59, 35, 32, 120]⟩
abbrev txB : ByteArray := ⟨#[97, 32, 61, 32, 98]⟩
abbrev txC : ByteArray := ⟨#[48, 48]⟩
abbrev txD : ByteArray := ⟨#[97, 98, 99, 100, 101, 102, 103, 104, 105, 106, 97, 98, 99, 100, 101, 102, 103, 104, 105, 106, 97, 98, 99, 100, 101, 102, 103, 104, 105, 106, 97, 98, 99]⟩
abbrev txF : ByteArray := ⟨#[97]⟩
abbrev lsA : List Nx := [⟨2, ⟨#[97, 114, 103, 48]⟩, 0, 0, 4, 0⟩, ⟨4, ⟨#[38]⟩, 0, 5, 6, 0⟩, ⟨3, ⟨#[48, 120, 49, 102]⟩, 31, 7, 11, 0⟩, ⟨4, ⟨#[62, 61]⟩, 0, 11, 13, 0⟩, ⟨3, ⟨#[50]⟩, 2, 13, 14, 0⟩, ⟨4, ⟨#[59]⟩, 0, 14, 15, 0⟩, ⟨1, ⟨#[]⟩, 0, 18, 18, 0⟩]
theorem tA : toksF txA = (lsA, 0, 0) := by kernel_rfl
theorem tB : (toksF txB).2 = (51, 2) := by kernel_rfl
theorem tC : (toksF txC).2 = (53, 0) := by kernel_rfl
theorem tD : (toksF txD).2 = (52, 0) := by kernel_rfl
theorem tF : nextF txF 2 = ⟨0, ⟨#[]⟩, 0, 0, 0, 1⟩ := by kernel_rfl
theorem lA : lstF txA = lsA := by unfold lstF; rw [tA]; rfl
/-- A text with an error. -/
theorem bad {s : ByteArray} {E : Int} {p : Nat} (h : (toksF s).2 = (E, p)) (hE : E ≠ 0) (hm : s.size ≤ maxLen) (w : World) : Calls Try.prog 9 #[.string s] w fun e w' => ∃ A cap, e = .returned (.tuple #[.slice A 0 cap, .int .i64 E, .int .i64 (p : Int)]) ∧ Below w.heap.size w w' :=
  (lex_List s hm w).mono fun e w' h' => by
    have h1 : (toksF s).2.1 = E := by rw [h]
    have h2 : (toksF s).2.2 = p := by rw [h]
    have hl : lstF s = [] := if_neg (by rw [h1]; exact hE)
    unfold LstP at h'
    rw [h1, h2, hl] at h'
    obtain ⟨A, cap, he, _, hb⟩ := h'
    exact ⟨A, cap, he, hb⟩
/-- The list that is asked for, and the one that was told. -/
abbrev St (w W : World) (A : Option Addr) (g : Nat) : Prop := TokAt W A 7 (fun i => lsA.getD i noTok) ∧ TokAt W (some ⟨g, 0, none⟩) 7 (fun i => lsA.getD i noTok) ∧ Below w.heap.size w W
theorem st_below {w W W' : World} {A : Option Addr} {g : Nat} (h : St w W A g) (hb : Below W.heap.size W W') : St w W' A g := ⟨h.1.below hb, h.2.1.below hb, h.2.2.trans (hb.mono h.2.2.size)⟩
abbrev wantO : Obj := .cells #[.int .i64 2, .string ⟨#[97, 114, 103, 48]⟩, .int .u64 0, .int .i64 0, .int .i64 4, .string ⟨#[38]⟩, .int .u64 0, .int .i64 5, .int .i64 3, .string ⟨#[48, 120, 49, 102]⟩, .int .u64 31, .int .i64 7, .int .i64 4, .string ⟨#[62, 61]⟩, .int .u64 0, .int .i64 11, .int .i64 3, .string ⟨#[50]⟩, .int .u64 2, .int .i64 13, .int .i64 4, .string ⟨#[59]⟩, .int .u64 0, .int .i64 14, .int .i64 1, .string ⟨#[]⟩, .int .u64 0, .int .i64 18] 30
theorem want_new (w : World) : TokAt (w.alloc wantO) (some ⟨w.heap.size, 0, none⟩) 7 (fun i => lsA.getD i noTok) := fun _ => by
  refine ⟨w.heap.size, 0, rfl, by simp, fun i hi => ?_⟩
  have : i = 0 ∨ i = 1 ∨ i = 2 ∨ i = 3 ∨ i = 4 ∨ i = 5 ∨ i = 6 := by omega
  rcases this with rfl | rfl | rfl | rfl | rfl | rfl | rfl <;> exact ⟨by simp, by simp, by simp, by simp⟩
theorem want_at {w wb W' : World} {A : Option Addr} (hb : Below (wb.alloc wantO).heap.size (wb.alloc wantO) W') (hT : TokAt wb A 7 (fun i => lsA.getD i noTok)) (hB : Below w.heap.size w wb) : St w W' A wb.heap.size :=
  st_below ⟨hT.below (lbox _ _), want_new wb, hB.alloc hB.size _⟩ hb
theorem info_b : (Try.prog.info? 5).map (fun i => (i.zero, i.size, i.bytes)) = some (some (.int .u8 0), 1, 1) := by kernel_rfl
abbrev zeroO : Obj := .cells #[.int .i64 0, .string ⟨#[]⟩, .int .u64 0, .int .i64 0] 30
/-- Bytes that are made and turned into a text, and how List takes it. -/
theorem made : ∃ (Z : Array Value) (T : ByteArray), T.size = 65537 ∧ ∀ w : World,
    (Instr.makeSlice 31 (.int .i64 65537) (.int .i64 65537)).run Try.prog w = .ok (.slice (some ⟨w.heap.size, 0, none⟩) 65537 65537) (w.alloc (.cells Z 5)) ∧
    (convert 31 9 (.slice (some ⟨w.heap.size, 0, none⟩) 65537 65537)).run Try.prog (w.alloc (.cells Z 5)) = .ok (.string T) (w.alloc (.cells Z 5)) := by
  obtain ⟨i, hi, hz, hsize, hby⟩ := info_parts info_b
  refine ⟨madeCells #[.int .u8 0] 65537, strOf 65537 (fun _ => 0), by unfold strOf; rw [strOfNums_size]; simp, fun w => ⟨?_, ?_⟩⟩
  · exact run_make_row (P := Try.prog) 31 5 i _ Try.underlying31 hi hz hsize rfl .i64 .i64 65537 (by rw [hby]; decide) (by decide) w
  · exact run_string_of (P := Try.prog) _ 31 9 5 Try.underlying31 Try.underlying5 Try.underlying9 _ 65537 65537 (fun _ => 0) (holds_of_row (World.rowIs_made w _ 65537 5) (Nat.le_refl _))
theorem long {s : ByteArray} (h : s.size = 65537) : (toksF s).2 = (54, 0) := by rw [toks_long (by omega)]
set_option maxRecDepth 100000 in
set_option maxHeartbeats 4000000 in
theorem walk (w : World) :
    Calls Try.prog 3 #[] w fun e w' => e = .returned (.bool true) ∧ Below w.heap.size w w' := by
  have HA := Lib.hid (fun w => lex_List txA (by decide) w)
  unfold LstP at HA
  rw [lA, tA] at HA
  have HB := Lib.hid (fun w => bad tB (by decide) (by decide) w)
  have HC := Lib.hid (fun w => bad tC (by decide) (by decide) w)
  have HD := Lib.hid (fun w => bad tD (by decide) (by decide) w)
  have HF := Lib.hid (fun w => lex_Next txF (by decide) 2 tF w)
  obtain ⟨Z, T, hT, hM⟩ := made
  have hM1 := fun w => (hM w).1
  have hM2 := fun w => (hM w).2
  clear hM
  have HE := Lib.hid (fun w => bad (long hT) (by decide) (by rw [hT]; decide) w)
  clear hT
  go_enter Try.func3, Try.ntmps3
  go_wp2_with (first
    | (go_at_call 8; (with_reducible refine (lives_is _).mono ?_); rintro e wa ⟨rfl, hb⟩; have HS1 := Lib.hid hb; clear hb)
    | (go_at_call 9; (with_reducible refine (HA.out _).mono ?_); rintro e wb ⟨A, cap, rfl, ht, hb⟩; have HT := Lib.hid ht; have HS2 := Lib.hid (HS1.out.trans (hb.mono HS1.out.size)); clear HA HS1 ht hb)
    | (go_at_call 9; (with_reducible refine (HB.out _).mono ?_); rintro e wc ⟨A2, cap2, rfl, hb⟩; have HS3 := Lib.hid (want_at hb HT.out HS2.out); clear HB HS2 HT hb)
    | (go_at_call 9; (with_reducible refine (HC.out _).mono ?_); rintro e wd ⟨A3, cap3, rfl, hb⟩; have HS4 := Lib.hid (st_below HS3.out hb); clear HC HS3 hb)
    | (go_at_call 9; (with_reducible refine (HD.out _).mono ?_); rintro e we ⟨A4, cap4, rfl, hb⟩; have HS5 := Lib.hid (st_below HS4.out hb); clear HD HS4 hb)
    | (go_at_call 9; (with_reducible refine (HE.out _).mono ?_); rintro e wf ⟨A5, cap5, rfl, hb⟩; have HS6 := Lib.hid (st_below HS5.out ((lbox we _).trans (hb.mono (by simp)))); clear HE HS5 hb)
    | (go_at_call 10; (with_reducible refine (HF.out _).mono ?_); rintro e wg ⟨rfl, hb⟩; have HS7 := Lib.hid (st_below HS6.out hb); clear HF HS6 hb)
    | (go_at_call 11; (with_reducible refine (ref_Same5 (wg.alloc zeroO) _ _ 7 _ _ (fun i => lsA.getD i noTok) (by decide) (HS7.out.1.below (lbox wg zeroO)) (HS7.out.2.1.below (lbox wg zeroO))).mono ?_); rintro e wh ⟨rfl, m, rfl⟩; have HS8 := Lib.hid (st_below HS7.out (below_drawn (lbox wg zeroO) m)); clear HS7))
  go_ret
  exact ⟨rfl, HS8.out.2.2⟩

/-! ### The row's step and the statement -/
set_option maxRecDepth 100000 in
theorem lifted (os : Os) (started : os.Started) (H : Type) (enc : TypeId × Value → H) :
    ReturnsInHanded {} Try.checked os 3 .any (Rows.lexNamesSpec.pre6 enc Try.prog Try.f3 Rows.lexNamesRow.domain false) (Rows.lexNamesSpec.post enc Try.prog Try.f3 false true false false) := by
  refine returnsInHanded_of_change (C := Try.checked) own started (by kernel_rfl) Try.func3
    (ChangeSpec.witness6 (enc := enc) (C := Try.checked) false ⟨#[], #[], []⟩ 8 (by kernel_rfl) (by kernel_rfl) (by kernel_rfl) (by kernel_rfl)) ?_
  intro W base args ds gs before hval0 hW hcnd _
  have hval : ∀ (j : Nat) t v, Try.f3.params[j]? = some t → args[j]? = some v → Value.okWide Try.prog W .any base t v := hval0
  have hW' := hW
  obtain ⟨p, q, hA0, hV, rfl, hfz, hnd⟩ := hW
  have hA : DataW.TrodAll enc Try.prog W 0 (fun _ => true) true Try.f3.params.toList args.toList ds p := hA0
  rw [Try.params3] at hA hval
  obtain ⟨hargs, rfl, rfl⟩ := trodAll_nil hA
  obtain rfl : args = #[] := by cases args; simp_all
  obtain ⟨rfl, rfl⟩ := trodVars_none hV
  clear hA0 hval0
  refine (walk  W ).mono fun e W' ⟨he, bel⟩ => ?_
  subst he
  exact ⟨_, rfl, _, _, _, [], _, [], hW', trodAll_mk1 (shut_bool Try.underlying4 _), trodAll_mk0, rfl, bel.frame _, fun h => by cases h⟩

theorem over : Rows.lexNamesRow.holds Try.pinned (OpenSpec.ofChange Rows.lexNamesSpec) :=
  OpenClaim.holds_of_wide 3 Try.f3 rfl rfl rfl rfl rfl rfl rfl ⟨rfl, rfl, rfl, rfl, rfl⟩ rfl rfl rfl rfl rfl (by kernel_rfl) Try.func3 (by kernel_rfl)
    (of_decide_eq_true (by kernel_rfl)) (by unfold Func.isWrapper; first | (rw [if_pos (by decide +kernel)]; kernel_rfl) | (rw [if_neg (by decide +kernel)]; exact ⟨rfl, rfl⟩))
    (fun os started H enc _ => lifted os started H enc)

/-- The statement. -/
theorem proved : Rows.LexNamesSaid := over
end Go.Proofs.Ytbcjffjifocaeaa.lexNames

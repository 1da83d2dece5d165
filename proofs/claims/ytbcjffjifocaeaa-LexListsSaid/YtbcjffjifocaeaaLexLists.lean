/-
  'LexLists': for every text and all places, the law of layer 5 on List and Next returns true, and leaves memory as it was. No condition.
-/
import Derived.Test.YtbcjffjifocaeaaLexProg
import Derived.Test.YtbcjffjifocaeaaStrRows
namespace Go.Proofs.Ytbcjffjifocaeaa.lexLists
open Go Go.ChangeShapes Go.WideShapes Go.ChangeAt Go.RowKit
set_option linter.unusedSimpArgs false
set_option linter.unusedVariables false

/-- What stands while the law goes on. -/
abbrev St (w W : World) (a1 : Option Addr) (len1 : Nat) (z1 : List Int) : Prop := Holds W a1 len1 (fun i => .int .i64 (z1.getD i 0)) ∧ Below w.heap.size w W
theorem st_below {w W W' : World} {a1 : Option Addr} {len1 : Nat} {z1 : List Int} (h : St w W a1 len1 z1) (hb : Below W.heap.size W W') : St w W' a1 len1 z1 := ⟨h.1.below hb, h.2.trans (hb.mono h.2.size)⟩
theorem isRow_max {k : IntKind} {w : World} {a : Option Addr} {len cap : Nat} {zs : List Int} (h : IsRow k w a len cap zs) : len ≤ maxLen := by
  rcases h with ⟨_, rfl, _, _⟩ | ⟨x, rfl, hl, hm, _⟩
  · exact Nat.zero_le _
  · exact Nat.le_trans hl hm
abbrev tokO (x : Nx) : Obj := .cells #[.int .i64 x.kind, .string x.text, .int .u64 (x.num : Int), .int .i64 (x.pos : Int)] 30
theorem two_new (w : World) (B : Nat) (hB : B = w.heap.size) (x : Nx) : TokAt ((w.alloc (tokO x)).alloc (tokO x)) (some ⟨B, 0, none⟩) 1 (fun _ => x) ∧ TokAt ((w.alloc (tokO x)).alloc (tokO x)) (some ⟨B + 1, 0, none⟩) 1 (fun _ => x) :=
  ⟨(tok_new w _ hB x).below (lbox _ _), tok_new _ _ (by rw [hB]; simp) x⟩
set_option maxHeartbeats 2000000 in
theorem walk (s0 : ByteArray) (a1 : Option Addr) (len1 cap1 : Nat) (z1 : List Int) (w : World) (w0 : s0.size ≤ maxLen) (w1 : IsRow .i64 w a1 len1 cap1 z1) :
    Calls Try.prog 4 #[.string s0, .slice a1 len1 cap1] w fun e w' => e = .returned (.bool true) ∧ Below w.heap.size w w' := by
  have hm1 := isRow_max w1
  unfold maxLen at hm1
  have HS := Lib.hid (show St w w a1 len1 z1 from ⟨holds_of_isRow w1, Below.refl _ _⟩)
  have HL := Lib.hid (fun w => lex_List s0 w0 w)
  have HR := Lib.hid (fun w => ref_Lst s0 w0 w)
  have hsm := lst_small s0
  have HM := Lib.hid w0
  clear w1 w0
  unfold LstP at HL HR
  generalize (lstF s0).length = n at HL HR hsm
  generalize (toksF s0).2.1 = E at HL HR
  generalize (toksF s0).2.2 = P at HL HR
  go_enter Try.func4, Try.ntmps4
  go_wp2_with (first
    | (go_at_call 8; (with_reducible refine (lives_is _).mono ?_); rintro e wa ⟨rfl, hb⟩; have HS1 := Lib.hid (st_below HS.out hb); clear hb HS)
    | (go_at_call 9; (with_reducible refine (HL.out _).mono ?_); rintro e wb ⟨A, cap, rfl, ht, hb⟩; have HS2 := Lib.hid (st_below HS1.out hb); have HT := Lib.hid ht; clear hb HS1 ht HL)
    | (go_at_call 12; (with_reducible refine (HR.out _).mono ?_); rintro e wc ⟨A', cap', rfl, ht, hb⟩; have HS3 := Lib.hid (st_below HS2.out hb); have HT2 := Lib.hid (And.intro (HT.out.below hb) ht); clear hb HS2 ht HR HT)
    | (go_at_call 11; (with_reducible refine (ref_Same5 _ _ _ _ _ _ _ (by omega) HT2.out.1 HT2.out.2).mono ?_); rintro e wd ⟨rfl, m, rfl⟩; have HS4 := Lib.hid (show St w (wc.drewN m) a1 len1 z1 from ⟨HS3.out.1.drawn m, below_drawn HS3.out.2 m⟩); clear HS3 HT2))
  go_loopw [13] (fun v wr => ∃ k : Nat, k ≤ len1 ∧ v = .int .i64 (k : Int) ∧ St w wr a1 len1 z1) (fun v _ => len1 - (intOf v).toNat)
  case atStart => exact ⟨0, by omega, rfl, HS4.out⟩
  case round =>
    obtain ⟨k, hk, rfl, hF⟩ := hrel
    clear HS4
    have HF := Lib.hid hF
    clear hF
    by_cases hlt : k < len1
    · have hlt' : (k : Int) < (len1 : Int) := by omega
      obtain ⟨pb, po, rfl, hpl, hpc⟩ := HF.out.1 (by omega)
      have hk1 := hpc k hlt
      clear hpc
      simp only at hk1
      have hw : IntKind.i64.wrap ((k : Int) + 1) = ((k + 1 : Nat) : Int) := by rw [IntWalk.i64_in _ (by omega)]; omega
      generalize z1.getD k 0 = p at hk1
      obtain ⟨kind, text, num, pos, next, err, hx⟩ : ∃ kind text num pos next err, nextF s0 p = ⟨kind, text, num, pos, next, err⟩ := ⟨_, _, _, _, _, _, rfl⟩
      have HN := Lib.hid (fun w => lex_Next s0 HM.out p hx w)
      have HQ := Lib.hid (fun w => ref_Next_is s0 w HM.out p hx)
      clear hx
      have hmark : True := trivial
      go_wp2_with (first
        | (go_at_call 10; (with_reducible refine (HN.out _).mono ?_); rintro e we ⟨rfl, hb⟩; have hb2 := hb.trans (lbox_up we (.cells #[.int .i64 kind, .string text, .int .u64 (num : Int), .int .i64 (pos : Int)] 30) hb.size); have HF2 := Lib.hid (st_below HF.out hb2); have hk2 := (hb2.cell (p := ⟨pb, po + k, none⟩) (cell_lt hk1)).trans hk1; have HC := Lib.hid (tok_new we _ rfl ⟨kind, text, num, pos, next, err⟩); clear hb hb2 HN HF)
        | (go_at_call 13; (with_reducible refine (HQ.out _).mono ?_); rintro e wf ⟨rfl, hb⟩; have hb2 := hb.trans (lbox_up wf (.cells #[.int .i64 kind, .string text, .int .u64 (num : Int), .int .i64 (pos : Int)] 30) hb.size); have HF3 := Lib.hid (st_below HF2.out hb2); obtain ⟨qb, qo, qe, _, qc⟩ := (HC.out.below hb2) (by decide); injection qe with qe; injection qe with qe1 qe2; subst qe1; subst qe2; obtain ⟨q0, q1, q2, q3⟩ := qc 0 (by decide); have HT3 := Lib.hid (two_new (wf.alloc (.cells #[.int .i64 kind, .string text, .int .u64 (num : Int), .int .i64 (pos : Int)] 30)) (wf.heap.size + 1) (by simp) ⟨kind, text, num, pos, next, err⟩); clear hb hb2 HQ HF2 HC qc)
        | (go_at_call 11; (with_reducible refine (ref_Same5 _ _ _ _ _ _ _ (by decide) HT3.out.1 HT3.out.2).mono ?_); rintro e wg ⟨rfl, m, rfl⟩; have HF4 := Lib.hid (st_below HF3.out (below_drawn ((lbox (wf.alloc (tokO ⟨kind, text, num, pos, next, err⟩)) (tokO ⟨kind, text, num, pos, next, err⟩)).trans (lbox_up _ (tokO ⟨kind, text, num, pos, next, err⟩) (by simp))) m))))
      exact ⟨⟨k + 1, by omega, by go_num, HF4.out⟩, by simp [intOf]; omega⟩
    · go_wp2
      go_ret
      exact ⟨rfl, HF.out.2⟩

/-! ### The row's step and the statement -/
set_option maxRecDepth 100000 in
theorem lifted (os : Os) (started : os.Started) (H : Type) (enc : TypeId × Value → H) :
    ReturnsInHanded {} Try.checked os 4 .any (Rows.lexListsSpec.pre6 enc Try.prog Try.f4 Rows.lexListsRow.domain false) (Rows.lexListsSpec.post enc Try.prog Try.f4 false true false false) := by
  refine returnsInHanded_of_change (C := Try.checked) own started (by kernel_rfl) Try.func4
    (ChangeSpec.witness6 (enc := enc) (C := Try.checked) false ⟨#[], #[.string ⟨#[]⟩, .slice none 0 0], []⟩ 8 (by kernel_rfl) (by kernel_rfl) (by kernel_rfl) (by kernel_rfl)) ?_
  intro W base args ds gs before hval0 hW hcnd _
  have hval : ∀ (j : Nat) t v, Try.f4.params[j]? = some t → args[j]? = some v → Value.okWide Try.prog W .any base t v := hval0
  have hW' := hW
  obtain ⟨p, q, hA0, hV, rfl, hfz, hnd⟩ := hW
  have hA : DataW.TrodAll enc Try.prog W 0 (fun _ => true) true Try.f4.params.toList args.toList ds p := hA0
  rw [Try.params4] at hA hval
  obtain ⟨v0, vs0, d0, ds0, p0, q0, hargs, rfl, rfl, h0, r0⟩ := trodAll_cons hA
  obtain ⟨v1, vs1, d1, ds1, p1, q1, rfl, rfl, rfl, h1, r1⟩ := trodAll_cons r0
  obtain ⟨rfl, rfl, rfl⟩ := trodAll_nil r1
  obtain rfl : args = #[v0, v1] := by cases args; simp_all
  obtain ⟨rfl, rfl⟩ := trodVars_none hV
  obtain ⟨s0, rfl, rfl, rfl, w0⟩ := Go.ChangeMaps.open_string Try.underlying9 (hval 0 9 v0 rfl rfl) h0
  obtain ⟨a1, len1, cap1, rfl⟩ := okWide_slice Try.underlying35 (hval 1 35 v1 rfl rfl)
  have k1 := h1
  have lt1 : ∀ x ∈ p1, x.block < W.heap.size := by obtain ⟨m, hm⟩ := k1; exact DataW.trod_lt m _ _ _ hm
  obtain ⟨z1, w1⟩ : ∃ zs, IsRow .i64 W a1 len1 cap1 zs := by
    obtain ⟨fuel, hf⟩ := h1
    rcases open_ints Try.underlying35 Try.underlying3 (by kernel_rfl) hf with ⟨hcs, _⟩ | ⟨x, l, c, zs, hcs, _, hl, hm, hz, hx, hcell, hwz⟩
    · simp [Value.cells] at hcs
      obtain ⟨rfl, rfl, rfl⟩ := hcs
      exact ⟨[], .inl ⟨rfl, rfl, rfl, rfl⟩⟩
    · simp [Value.cells] at hcs
      obtain ⟨rfl, rfl, rfl⟩ := hcs
      exact ⟨zs, .inr ⟨_, rfl, hl, hm, by simpa using hz, hcell, hwz⟩⟩
  clear hA0 hval0
  refine (walk s0 a1 len1 cap1 z1 W w0 w1).mono fun e W' ⟨he, bel⟩ => ?_
  subst he
  exact ⟨_, rfl, _, _, _, [], _, [], hW', trodAll_mk1 (shut_bool Try.underlying4 _), (trodAll_cons_mk (Go.ChangeMaps.shut_string Try.underlying9 w0) (trodAll_cons_mk (Below.trod laidOut (by kernel_rfl) (of_decide_eq_true (by kernel_rfl)) k1 bel lt1) trodAll_mk0)), rfl, bel.frame _, fun h => by cases h⟩

theorem over : Rows.lexListsRow.holds Try.pinned (OpenSpec.ofChange Rows.lexListsSpec) :=
  OpenClaim.holds_of_wide 4 Try.f4 rfl rfl rfl rfl rfl rfl rfl ⟨rfl, rfl, rfl, rfl, rfl⟩ rfl rfl rfl rfl rfl (by kernel_rfl) Try.func4 (by kernel_rfl)
    (of_decide_eq_true (by kernel_rfl)) (by unfold Func.isWrapper; first | (rw [if_pos (by decide +kernel)]; kernel_rfl) | (rw [if_neg (by decide +kernel)]; exact ⟨rfl, rfl⟩))
    (fun os started H enc _ => lifted os started H enc)

/-- The statement. -/
theorem proved : Rows.LexListsSaid := over
end Go.Proofs.Ytbcjffjifocaeaa.lexLists

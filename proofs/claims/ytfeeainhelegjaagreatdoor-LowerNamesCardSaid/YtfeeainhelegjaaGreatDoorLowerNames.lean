/-
  'LowerNames': the law of layer 9 on the errors' numbers and the chapter's examples returns true, and leaves memory as it was. No condition but the statement's own card.
-/
import Derived.Test.YtfeeainhelegjaaGreatDoorLowNm
import Derived.Test.YtfeeainhelegjaaGreatDoorCards
import Derived.Test.YtfeeainhelegjaaGreatDoorTie
import Derived.SevenTiedAt
import Derived.ChangeMaps5
import Derived.LaidMore
import Derived.OpenShut
import Derived.Stop.Joined
import Derived.MakeChecks
import Derived.Deep.Cut
namespace Go.Proofs.YtfeeainhelegjaaGreatDoor.lowerNames
open Go Go.ChangeShapes Go.WideShapes Go.ChangeAt Go.RowKit
set_option linter.unusedSimpArgs false
set_option linter.unusedVariables false

/-- What the card lists is not asked for. -/
theorem tab_of_laid {p : Prop} (_ : p) : True := trivial
abbrev exO1 : Obj := .cells #[.bool false, .int .u32 0, .int .i64 0, .int .u32 4294967295, .int .i64 1, .int .u32 7, .int .i64 1, .int .i64 2, .bool true, .int .u32 1, .int .i64 0, .int .u32 0, .int .i64 0, .int .u32 0, .int .i64 0, .int .i64 0, .bool true, .int .u32 2, .int .i64 0, .int .u32 0, .int .i64 0, .int .u32 0, .int .i64 0, .int .i64 0] 26
abbrev exO2 : Obj := .cells #[.bool false, .int .u32 0, .int .i64 0, .int .u32 255, .int .i64 1, .int .u32 7, .int .i64 1, .int .i64 2, .bool true, .int .u32 1, .int .i64 0, .int .u32 0, .int .i64 0, .int .u32 0, .int .i64 0, .int .i64 0, .bool true, .int .u32 2, .int .i64 0, .int .u32 0, .int .i64 0, .int .u32 0, .int .i64 0, .int .i64 0] 26
abbrev xs1 : List I4 := [(32, 0, 0, 0), (21, 0, 1, 7), (6, 0, 0, 1), (6, 0, 0, 2)]
abbrev xs2 : List I4 := [(32, 0, 0, 0), (84, 0, 0, 255), (21, 0, 1, 7), (6, 0, 0, 1), (6, 0, 0, 2)]
theorem ex_at1 {W : World} {b : Nat} (h : W.heap[b]? = some exO1) : NdAt W (some ⟨b, 0, none⟩) 3 (exN 4294967295) := nd_block (l := exL 4294967295) h (by show 3 ≤ 1000; decide)
theorem ex_at2 {W : World} {b : Nat} (h : W.heap[b]? = some exO2) : NdAt W (some ⟨b, 0, none⟩) 3 (exN 255) := nd_block (l := exL 255) h (by show 3 ≤ 1000; decide)
theorem n_emit1 {V : World} {b : Nat} (h : V.heap[b]? = some exO1) : Calls Tryz.prog 5 #[.slice (some ⟨b, 0, none⟩) 3 3] V fun e w' => ∃ v, e = .returned (.tuple #[v, .int .i64 0]) ∧ w'.ownsRow V.heap.size 45 4 v 4 (i4L xs1) ∧ Below V.heap.size V w' := by
  have q := p_LEmit V (some ⟨b, 0, none⟩) 3 3 (exN 4294967295) (ex_at1 h)
  rw [ex_emit1] at q; exact q
theorem n_emit2 {V : World} {b : Nat} (h : V.heap[b]? = some exO2) : Calls Tryz.prog 5 #[.slice (some ⟨b, 0, none⟩) 3 3] V fun e w' => ∃ v, e = .returned (.tuple #[v, .int .i64 0]) ∧ w'.ownsRow V.heap.size 45 4 v 5 (i4L xs2) ∧ Below V.heap.size V w' := by
  have q := p_LEmit V (some ⟨b, 0, none⟩) 3 3 (exN 255) (ex_at2 h)
  rw [ex_emit2] at q; exact q
theorem n_size2 {V : World} {b : Nat} (h : V.heap[b]? = some exO2) : Calls Tryz.prog 6 #[.slice (some ⟨b, 0, none⟩) 3 3] V fun e w' => e = .returned (.tuple #[.int .i64 5, .int .i64 0]) ∧ Below V.heap.size V w' := by
  have q := p_LSize V (some ⟨b, 0, none⟩) 3 3 (exN 255) (ex_at2 h)
  rw [ex_size2] at q; exact q
theorem n_emit0 (V : World) : Calls Tryz.prog 5 #[.slice none 0 0] V fun e w' => ∃ v, e = .returned (.tuple #[v, .int .i64 83]) ∧ Below V.heap.size V w' := by
  have q := p_LEmit V none 0 0 (fun _ => ndZ) ⟨by unfold maxLen; omega, fun h => absurd h (by decide)⟩
  rw [ex_none] at q
  exact q.mono fun e w' ⟨v, h1, _, h2⟩ => ⟨v, h1, h2⟩
theorem n_same1 {V w8 : World} {B : Nat} {v : Value} (hV : V = w8.alloc (.cells #[.int .u16 32, .int .u8 0, .int .u8 0, .int .u32 0, .int .u16 21, .int .u8 0, .int .u8 1, .int .u32 7, .int .u16 6, .int .u8 0, .int .u8 0, .int .u32 1, .int .u16 6, .int .u8 0, .int .u8 0, .int .u32 2] 45)) (h : w8.ownsRow B 45 4 v 4 (i4L xs1)) :
    Calls Tryz.prog 8 #[v, .slice (some ⟨w8.heap.size, 0, none⟩) 4 4] V fun e w' => e = .returned (.bool true) ∧ Below w8.heap.size w8 w' := by
  subst hV
  have q := r_Same (xs := xs1) (own_below h (lboxL w8 (.cells (i4L xs1).toArray 45))) (prog_block w8 xs1 (by show 4 ≤ 1000; decide)) (by show 4 ≤ 100000; decide)
  exact Calls.mono q fun e w' ⟨h1, h2⟩ => ⟨h1, (lboxL w8 _).trans (h2.mono (by simp))⟩
theorem n_same2 {V w8 : World} {B : Nat} {v : Value} (hV : V = w8.alloc (.cells #[.int .u16 32, .int .u8 0, .int .u8 0, .int .u32 0, .int .u16 84, .int .u8 0, .int .u8 0, .int .u32 255, .int .u16 21, .int .u8 0, .int .u8 1, .int .u32 7, .int .u16 6, .int .u8 0, .int .u8 0, .int .u32 1, .int .u16 6, .int .u8 0, .int .u8 0, .int .u32 2] 45)) (h : w8.ownsRow B 45 4 v 5 (i4L xs2)) :
    Calls Tryz.prog 8 #[v, .slice (some ⟨w8.heap.size, 0, none⟩) 5 5] V fun e w' => e = .returned (.bool true) ∧ Below w8.heap.size w8 w' := by
  subst hV
  have q := r_Same (xs := xs2) (own_below h (lboxL w8 (.cells (i4L xs2).toArray 45))) (prog_block w8 xs2 (by show 5 ≤ 1000; decide)) (by show 5 ≤ 100000; decide)
  exact Calls.mono q fun e w' ⟨h1, h2⟩ => ⟨h1, (lboxL w8 _).trans (h2.mono (by simp))⟩
set_option maxHeartbeats 8000000 in
set_option maxRecDepth 100000 in
theorem walk (W : World) (hL : True) : Calls Tryz.prog 3 #[] W fun e W' => e = .returned (.bool true) ∧ Below W.heap.size W W' := by
  have HV := Lib.hid (fun w => p_lives9 w)
  have HLW := Lib.hid (fun w => n_Lower w)
  have HNI := Lib.hid (fun w => n_emit0 w)
  go_enter Tryz.func3, Tryz.ntmps3
  go_upto_region 4 with (first
    | (go_at_call 5; (with_reducible refine (n_emit1 (World.alloc_heap_new w1 _)).mono ?_); rintro e w3 ⟨v3, rfl, ho3, hb3⟩; have H3 : Hid (w3.heap[w1.heap.size]? = some exO1 ∧ w3.ownsRow (w1.heap.size + 1) 45 4 v3 4 (i4L xs1) ∧ Below W.heap.size W w3 ∧ W.heap.size ≤ w1.heap.size) := Lib.hid ⟨(hb3.block w1.heap.size (by simp)).trans (World.alloc_heap_new w1 _), by simpa using ho3, (H1.out.trans ((lboxL w1 _).mono H1.out.size)).trans (hb3.mono (Nat.le_trans H1.out.size (by simp))), H1.out.size⟩; clear ho3 hb3)
    | (go_at_call 4; (with_reducible refine (HV.out _).mono ?_); rintro e w1 ⟨rfl, hb1⟩; have H1 := Lib.hid hb1; clear hb1))
  have c3 := cellL H3.out.1 3 (v := .int .u32 4294967295) rfl
  have z3 := frozenL H3.out.1 3
  have H4 : Hid ((w3.setCell ⟨w1.heap.size, 3, none⟩ (.int .u32 255)).heap[w1.heap.size]? = some exO2 ∧ (w3.setCell ⟨w1.heap.size, 3, none⟩ (.int .u32 255)).ownsRow (w1.heap.size + 1) 45 4 v3 4 (i4L xs1) ∧ Below W.heap.size W (w3.setCell ⟨w1.heap.size, 3, none⟩ (.int .u32 255))) :=
    Lib.hid ⟨heap_setL H3.out.1 3 _, own_set H3.out.2.1 (own_apart H3.out.2.1 (Nat.lt_succ_self _)), H3.out.2.2.1.setCell (p := ⟨w1.heap.size, 3, none⟩) H3.out.2.2.2 _⟩
  go_upto_region 5 with fail
  clear c3 z3 H3
  generalize w3.setCell _ _ = w4 at H4 ⊢
  generalize w1.heap.size = b at H4 ⊢
  go_wp2_with (first
    | (go_at_call 8; (with_reducible refine (n_same2 rfl H9.out.1).mono ?_); rintro e w10 ⟨rfl, hb10⟩; have H10 : Hid (Below W.heap.size W w10) := Lib.hid (H9.out.2.trans (hb10.mono H9.out.2.size)); clear hb10)
    | (go_at_call 8; (with_reducible refine (n_same1 rfl H8.out.1).mono ?_); rintro e w9 ⟨rfl, hb9⟩; have H9 : Hid (w9.ownsRow w4.heap.size 45 4 v5 5 (i4L xs2) ∧ Below W.heap.size W w9) := Lib.hid ⟨own_below H8.out.2.1 hb9, H8.out.2.2.trans (hb9.mono H8.out.2.2.size)⟩; clear hb9)
    | (go_at_call 7; (with_reducible refine (HLW.out _).mono ?_); rintro e w8 ⟨rfl, hb8⟩; have H8 : Hid (w8.ownsRow (b + 1) 45 4 v3 4 (i4L xs1) ∧ w8.ownsRow w4.heap.size 45 4 v5 5 (i4L xs2) ∧ Below W.heap.size W w8) := Lib.hid ⟨own_below H7.out.1 hb8, own_below H7.out.2.1 hb8, H7.out.2.2.trans (hb8.mono H7.out.2.2.size)⟩; clear hb8)
    | (go_at_call 5; (with_reducible refine (HNI.out w6).mono ?_); rintro e w7 ⟨v7, rfl, hb7⟩; have H7 : Hid (w7.ownsRow (b + 1) 45 4 v3 4 (i4L xs1) ∧ w7.ownsRow w4.heap.size 45 4 v5 5 (i4L xs2) ∧ Below W.heap.size W w7) := Lib.hid ⟨own_below H6.out.1 hb7, own_below H6.out.2.1 hb7, H6.out.2.2.trans (hb7.mono H6.out.2.2.size)⟩; clear hb7)
    | (go_at_call 6; (with_reducible refine (n_size2 H5.out.1).mono ?_); rintro e w6 ⟨rfl, hb6⟩; have H6 : Hid (w6.ownsRow (b + 1) 45 4 v3 4 (i4L xs1) ∧ w6.ownsRow w4.heap.size 45 4 v5 5 (i4L xs2) ∧ Below W.heap.size W w6) := Lib.hid ⟨own_below H5.out.2.1 hb6, own_below H5.out.2.2.1 hb6, H5.out.2.2.2.trans (hb6.mono H5.out.2.2.2.size)⟩; clear hb6)
    | (go_at_call 5; (with_reducible refine (n_emit2 H4.out.1).mono ?_); rintro e w5 ⟨v5, rfl, ho5, hb5⟩; have H5 : Hid (w5.heap[b]? = some exO2 ∧ w5.ownsRow (b + 1) 45 4 v3 4 (i4L xs1) ∧ w5.ownsRow w4.heap.size 45 4 v5 5 (i4L xs2) ∧ Below W.heap.size W w5) := Lib.hid ⟨(hb5.block b (Array.getElem?_eq_some_iff.1 H4.out.1).1).trans H4.out.1, own_below H4.out.2.1 hb5, ho5, H4.out.2.2.trans (hb5.mono H4.out.2.2.size)⟩; clear ho5 hb5))
  go_ret
  exact ⟨rfl, H10.out⟩

/-! ### The row's step, the statement, and the card -/
theorem door_met (os : Os) (args : Array Value) : laidMetH Tryz.prog [("ravelin/secdata.rows", Rows.laid_ravelin_secdata_rows)] ((World.doorLaid Tryz.prog 400 os).forCall (fun _ _ => 0) ⟨#[], args, []⟩).memory :=
  laidMetH_of_parts3 (fuel := 8) (laidMet_of_run' 8 (by kernel_rfl) (by kernel_rfl)) (by kernel_rfl) (by kernel_rfl)

set_option maxRecDepth 100000 in
theorem lifted (os : Os) (started : os.Started) (H : Type) (enc : TypeId × Value → H) :
    ReturnsInHanded {} Tryz.checked os 3 .any (fun w args => (Rows.lowerNamesSpec.pre enc Tryz.prog Tryz.f3 [] false w args ∧ laidMetH Tryz.prog [("ravelin/secdata.rows", Rows.laid_ravelin_secdata_rows)] w) ∧ sizedMet enc Tryz.prog Tryz.f3 (OpenSpec.ofChange Rows.lowerNamesSpec) false w args)
      (Rows.lowerNamesSpec.post enc Tryz.prog Tryz.f3 false true false false) := by
  refine returnsInHanded_of_change_and (C := Tryz.checked) (X := fun w _ => laidMetH Tryz.prog [("ravelin/secdata.rows", Rows.laid_ravelin_secdata_rows)] w) (fun _ _ _ hh h => h.of_heap hh) own started (by kernel_rfl) Tryz.func3
    (ChangeSpec.witness_shaped (enc := enc) (C := Tryz.checked) (os := os) (X := fun w _ => laidMetH Tryz.prog [("ravelin/secdata.rows", Rows.laid_ravelin_secdata_rows)] w) false (World.doorLaid Tryz.prog 400 os) #[] 8 rfl (World.shaped_of_RefB (by kernel_rfl) (by kernel_rfl)) (by kernel_rfl) (by kernel_rfl) (by kernel_rfl) (door_met os _)) ?_
  intro W base args ds gs before hval0 hW _ _ hL _
  have hval : ∀ (j : Nat) t v, Tryz.f3.params[j]? = some t → args[j]? = some v → Value.okWide Tryz.prog W .any base t v := hval0
  have hW' := hW
  obtain ⟨p, q, hA0, hV, rfl, hfz, hnd⟩ := hW
  have hA : DataW.TrodAll enc Tryz.prog W 0 (fun _ => true) true Tryz.f3.params.toList args.toList ds p := hA0
  rw [Tryz.params3] at hA hval
  obtain ⟨hargs, rfl, rfl⟩ := trodAll_nil hA
  obtain rfl : args = #[] := by cases args; simp_all
  obtain ⟨rfl, rfl⟩ := trodVars_none hV
  clear hA0 hval0
  refine (walk  W  (tab_of_laid hL)).mono fun e W' ⟨he, bel⟩ => ?_
  subst he
  exact ⟨_, rfl, _, _, _, [], _, [], hW', trodAll_mk1 (shut_bool Tryz.underlying4 _), trodAll_mk0, rfl, bel.frame _, fun h => by cases h⟩

theorem over : Rows.lowerNamesRow.holds Tryz.pinned (OpenSpec.ofChange Rows.lowerNamesSpec) :=
  OpenClaim.holds_of_wide 3 Tryz.f3 rfl rfl rfl rfl rfl rfl rfl ⟨rfl, rfl, rfl, rfl, rfl⟩ rfl rfl rfl rfl rfl (by kernel_rfl) Tryz.func3 (by kernel_rfl)
    (of_decide_eq_true (by kernel_rfl)) (by unfold Func.isWrapper; first | (rw [if_pos (by decide +kernel)]; kernel_rfl) | (rw [if_neg (by decide +kernel)]; exact ⟨rfl, rfl⟩))
    (fun os started H enc _ => lifted os started H enc)

/-- The statement: the row's card, what it lists tied to the program's text. -/
theorem proved : Rows.LowerNamesCardSaid :=
  Claim7.holds_tied_plain_at .later [] [.data] true Rows.lowerNamesCard.stood.harness Rows.lowerNamesCard.stood.looks
    over (fun _ h => by cases h) (by kernel_rfl) (fun _ h => by cases h) lowerNames_row_tie rfl ⟨rfl, rfl⟩ (by kernel_rfl) rfl
    (fun f fn hf hfn => by
      obtain rfl : f = 3 := Option.some.inj ((show Tryz.prog.funcNamed "ravelin/ravelinlaw09.LowerNames" = some 3 by kernel_rfl).symm.trans hf) |>.symm
      obtain rfl : fn = Tryz.f3 := (Option.some.inj (Tryz.func3.symm.trans hfn)).symm
      exact ⟨by kernel_rfl, fun j t ht => by
        have hm : t ∈ Tryz.f3.params.toList := by
          have := Array.mem_of_getElem? ht
          simp at this
        have hall : (Tryz.f3.params.toList.all fun u => !Tryz.prog.wantsStandIn u) = true := by kernel_rfl
        exact (show Tryz.prog.wantsStandIn t = false by simpa using List.all_eq_true.1 hall t hm)⟩)
    (by kernel_rfl)
end Go.Proofs.YtfeeainhelegjaaGreatDoor.lowerNames

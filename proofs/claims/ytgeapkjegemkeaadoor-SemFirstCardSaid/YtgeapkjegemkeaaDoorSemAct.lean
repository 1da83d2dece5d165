/-
  What verdicts say: contracts on both sides; the program's over any memory in which the table of the kinds stands. Conditions: those that each names.
-/
import Derived.Test.YtgeapkjegemkeaaDoorGSemSys
import Derived.Test.YtgeapkjegemkeaaDoorSecCode
namespace Go.Proofs.YtgeapkjegemkeaaDoor
open Go Go.RowKit
set_option linter.unusedSimpArgs false
set_option linter.unusedVariables false

/-- How great a verdict's number may be, by its kind. -/
def mostI (kind : Int) : Int := if kind = 4 then 4095 else 65535
def actOK (kind d : Int) : Prop := d ≤ mostI kind ∧ codeOK kind d
instance (kind d : Int) : Decidable (actOK kind d) := by unfold actOK; infer_instance
def actW (kind d : Int) : Int := if actOK kind d then rowW (kind - 1).toNat + d else 0
abbrev vdV7 (kind : Int) (d : Nat) : Value := .agg #[.int .i64 kind, .int .u64 (d : Int)]
abbrev vdO7 (kind : Int) (d : Nat) : Obj := .cells #[.int .i64 kind, .int .u64 (d : Int)] 25
def ActC (kind : Int) (d : Nat) (w : World) (e : Ending) (w' : World) : Prop := e = .returned (.tuple #[.int .u32 (actW kind d), .bool (decide (actOK kind d))]) ∧ Below w.heap.size w w'
theorem actC_yes {kind x : Int} {d : Nat} {w w' : World} (h : actOK kind d) (hx : x = rowW (kind - 1).toNat + d) (hb : Below w.heap.size w w') : ActC kind d w (.returned (.tuple #[.int .u32 x, .bool true])) w' := by
  refine ⟨?_, hb⟩
  rw [actW, if_pos h, decide_eq_true h, hx]
theorem actC_no {kind : Int} {d : Nat} {w w' : World} (h : ¬ actOK kind d) (hb : Below w.heap.size w w') : ActC kind d w (.returned (.tuple #[.int .u32 0, .bool false])) w' := by
  refine ⟨?_, hb⟩
  rw [actW, if_neg h, decide_eq_false h]
set_option maxRecDepth 100000 in
theorem p_mostData (kind : Int) (w : World) : Calls Tryd.prog 21 #[.int .i64 kind] w fun e w' => e = .returned (.int .u64 (mostI kind)) ∧ w = w' := by
  by_cases h : kind = 4
  · have hE : mostI kind = 4095 := if_pos h
    rw [hE, h]
    clear h hE
    go_enter Tryd.func21, Tryd.ntmps21
    go_wp2
    go_ret
    exact ⟨rfl, rfl⟩
  · have hE : mostI kind = 65535 := if_neg h
    have q : (kind == 4) = false := beq_false_of_ne h
    rw [hE]
    clear hE
    go_enter Tryd.func21, Tryd.ntmps21
    go_wp2
    go_ret
    exact ⟨rfl, rfl⟩
set_option maxRecDepth 100000 in
set_option maxHeartbeats 1000000 in
theorem p_Action7 (kind : Int) (d : Nat) (w : World) (hT : Tab w) : Calls Tryd.prog 13 #[vdV7 kind d] w (ActC kind d w) := by
  have hb := lbox w (vdO7 kind d)
  have HT := Lib.hid (hT.below hb hT.1)
  have HB := Lib.hid hb
  have HM := Lib.hid (fun V => p_mostData kind V)
  have hm0 : mostI kind ≤ 65535 := by unfold mostI; split <;> omega
  by_cases h : (d : Int) ≤ mostI kind
  · have h6 : (d : Int) < 65536 := by omega
    have HC := Lib.hid (fun V hV => secdata_Code kind d (by omega) h6 V hV)
    have hu : IntKind.u16.wrap (d : Int) = (d : Int) := by rw [IntKind.wrap_u16]; omega
    have HD := Lib.hid h
    generalize hM : mostI kind = m at HM h
    have g : ¬ m < (d : Int) := by omega
    by_cases hc : codeOK kind d
    · have HO : Hid (actOK kind d) := Lib.hid ⟨HD.out, hc⟩
      have HC2 : Hid (∀ V, Tab V → Calls Tryd.prog 22 #[.agg #[.int .i64 kind, .int .u16 (d : Int)]] V fun e w' => e = .returned (.tuple #[.int .u32 (rowW (kind - 1).toNat + d), .int .i64 0]) ∧ Below V.heap.size V w') := Lib.hid (fun V hV => by
        have := HC.out V hV
        unfold CodeP at this
        rwa [codeW, codeE, if_pos hc, if_pos hc] at this)
      generalize hx : rowW (kind - 1).toNat + (d : Int) = x at HC2
      have HX := Lib.hid hx
      clear hT hb hm0 HC hM hc hx
      go_enter Tryd.func13, Tryd.ntmps13
      go_wp2_with (first
        | go_quiet ((go_at_call 21; exact quietL (HM.out _)))
        | (go_at_call 22; (with_reducible refine (HC2.out _ (HT.out.drawn _)).mono ?_); rintro e w2 ⟨rfl, hb2⟩; have HB2 := Lib.hid ((below_drawn HB.out _).trans (hb2.mono (below_drawn HB.out _).size)); clear hb2))
      go_ret2
      exact actC_yes HO.out HX.out.symm HB2.out
    · have HO : Hid (¬ actOK kind d) := Lib.hid (fun g => hc g.2)
      have HC2 : Hid (∀ V, Tab V → Calls Tryd.prog 22 #[.agg #[.int .i64 kind, .int .u16 (d : Int)]] V fun e w' => e = .returned (.tuple #[.int .u32 0, .int .i64 23]) ∧ Below V.heap.size V w') := Lib.hid (fun V hV => by
        have := HC.out V hV
        unfold CodeP at this
        rwa [codeW, codeE, if_neg hc, if_neg hc] at this)
      clear hT hb hm0 HC hM hc
      go_enter Tryd.func13, Tryd.ntmps13
      go_wp2_with (first
        | go_quiet ((go_at_call 21; exact quietL (HM.out _)))
        | (go_at_call 22; (with_reducible refine (HC2.out _ (HT.out.drawn _)).mono ?_); rintro e w2 ⟨rfl, hb2⟩; have HB2 := Lib.hid ((below_drawn HB.out _).trans (hb2.mono (below_drawn HB.out _).size)); clear hb2))
      go_ret2
      exact actC_no HO.out HB2.out
  · have HO : Hid (¬ actOK kind d) := Lib.hid (fun g => h g.1)
    generalize hM : mostI kind = m at HM h
    have g : m < (d : Int) := by omega
    clear hT hb hm0 hM h
    go_enter Tryd.func13, Tryd.ntmps13
    go_wp2_with (go_quiet ((go_at_call 21; exact quietL (HM.out _))))
    go_ret2
    exact actC_no HO.out (below_drawn HB.out _)
end Go.Proofs.YtgeapkjegemkeaaDoor

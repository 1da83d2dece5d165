/-
  What the document's Check and Right of programs of registers answer: contracts. Conditions: those that each names.
-/
import Derived.Test.YtoajommeiocfpaaDoorMirOne2
import Derived.Test.YtoajommeiocfpaaDoorMirChkP
namespace Go.Proofs.YtoajommeiocfpaaDoor
open Go Go.RowKit
set_option linter.unusedSimpArgs false
set_option linter.unusedVariables false

section
variable (regs : Int) (A : Option Addr) (n cap : Nat) (q : Nat → Irx) (w : World)
set_option maxHeartbeats 2000000 in
theorem r_ChkM (h : IrAt w A n q) : Calls Tryd.prog 26 #[mirV regs A n cap] w (ChkMP regs q n w) := by
  have HF := Lib.hid (FM.first (regs := regs) (cap := cap) h)
  clear h
  unfold ChkMP
  by_cases h1 : regs < 1
  · have HV := Lib.hid (chk_regs regs n q (.inl h1))
    go_enter Tryd.func26, Tryd.ntmps26
    go_wp2
    go_ret2
    exact ⟨by rw [HV.out.1, HV.out.2]; rfl, HF.out.2.1⟩
  by_cases h2 : 64 < regs
  · have HV := Lib.hid (chk_regs regs n q (.inr h2))
    go_enter Tryd.func26, Tryd.ntmps26
    go_wp2
    go_ret2
    exact ⟨by rw [HV.out.1, HV.out.2]; rfl, HF.out.2.1⟩
  by_cases h3 : n = 0
  · subst h3
    have HV := Lib.hid (chk_len regs 0 q (by omega) (.inl rfl))
    go_enter Tryd.func26, Tryd.ntmps26
    go_wp2
    go_ret2
    exact ⟨by rw [HV.out.1, HV.out.2]; rfl, HF.out.2.1⟩
  have h3' : ((n : Int) == 0) = false := beq_false_of_ne (by omega)
  have h3'' : ¬ (n : Int) = 0 := by omega
  by_cases h4 : 65536 < n
  · have HV := Lib.hid (chk_len regs n q (by omega) (.inr h4))
    have h4' : (65536 : Int) < (n : Int) := by omega
    go_enter Tryd.func26, Tryd.ntmps26
    go_wp2
    go_ret2
    exact ⟨by rw [HV.out.1, HV.out.2]; rfl, HF.out.2.1⟩
  have h4' : ¬ (65536 : Int) < (n : Int) := by omega
  have H1 : Hid (∀ V i, i < n → IrAt V A n q → Calls Tryd.prog 45 #[mirV regs A n cap, .int .i64 (i : Int)] V (OneMP regs n (q i) i V)) := Lib.hid fun V i hi hV => r_One regs A n cap q i V hi hV
  unfold OneMP at H1
  go_enter Tryd.func26, Tryd.ntmps26
  go_wp2
  go_loopw [4] (fun v wr => ∃ k : Nat, k ≤ n ∧ v = .int .i64 (k : Int) ∧ (∀ j, j < k → oneM regs n (q j) j = 0) ∧ FM w wr regs A n cap q) (fun v _ => n - (intOf v).toNat)
  case atStart => exact ⟨0, by omega, rfl, fun j hj => absurd hj (by omega), HF.out⟩
  case round =>
    obtain ⟨k, hk, rfl, hbad, hF⟩ := hrel
    clear HF
    have HF := Lib.hid hF
    have HBad := Lib.hid hbad
    have b0 := cellM hF.2.2 0 rfl
    have b1 := cellM hF.2.2 1 rfl
    clear hF hbad
    by_cases hlt : k < n
    · have hlt' : (k : Int) < (n : Int) := by omega
      have HC := Lib.hid (H1.out wr k hlt HF.out.1)
      by_cases hE : oneM regs n (q k) k = 0
      · rw [hE] at HC
        have HE := Lib.hid hE
        clear hE
        go_wp2_with (go_at_call 45; (with_reducible refine HC.out.mono ?_); rintro e w2 ⟨rfl, hB⟩; have HF2 := Lib.hid (HF.out.up hB); clear hB HF)
        exact ⟨⟨k + 1, by omega, by go_num, fun j hj => by
          rcases Nat.lt_or_ge j k with g | g
          · exact HBad.out j g
          · rw [show j = k by omega]; exact HE.out, HF2.out⟩, by simp [intOf]; omega⟩
      · have HV := Lib.hid (chk_first regs n q (by omega) (by omega) hlt HBad.out hE)
        have hE' : (oneM regs n (q k) k != 0) = true := bne_iff_ne.2 hE
        generalize oneM regs n (q k) k = E at HC HV hE hE'
        go_wp2_with (go_at_call 45; (with_reducible refine HC.out.mono ?_); rintro e w2 ⟨rfl, hB⟩; have HF2 := Lib.hid (HF.out.up hB); clear hB HF)
        go_ret2
        exact ⟨by rw [HV.out.1, HV.out.2]; rfl, HF2.out.2.1⟩
    · obtain rfl : k = n := by omega
      have HV := Lib.hid (chk_last regs k q (by omega) (by omega) HBad.out)
      obtain ⟨qb, qo, rfl, hl, c0, _⟩ := ir_at HF.out.1 (show k - 1 < k by omega)
      have hw : IntKind.i64.wrap ((k : Int) - 1) = ((k - 1 : Nat) : Int) := by rw [IntWalk.i64_in _ (by have := HF.out.1.1; unfold maxLen at this; omega)]; omega
      have hB := Lib.hid HF.out.2.1
      clear HF
      by_cases hr : (q (k - 1)).op = 19
      · rw [hr] at c0
        rw [if_pos hr, if_pos hr] at HV
        clear hr
        go_wp2
        go_ret2
        exact ⟨by rw [HV.out.1, HV.out.2]; rfl, hB.out⟩
      · rw [if_neg hr, if_neg hr] at HV
        have hr' : ((q (k - 1)).op != 19) = true := bne_iff_ne.2 hr
        generalize (q (k - 1)).op = op at c0 hr hr'
        go_wp2
        go_quiet (fail)
        go_wp2
        go_ret2
        exact ⟨by rw [HV.out.1, HV.out.2]; rfl, below_drawn hB.out _⟩
theorem r_RightM (h : IrAt w A n q) : Calls Tryd.prog 13 #[mirV regs A n cap] w fun e w' => e = .returned (.bool (chkE regs q n == 0)) ∧ Below w.heap.size w w' := by
  have HF := Lib.hid (FM.first (regs := regs) (cap := cap) h)
  have HC := Lib.hid (r_ChkM regs A n cap q _ HF.out.1)
  unfold ChkMP at HC
  clear h
  generalize chkE regs q n = E at HC ⊢
  generalize chkP regs q n = P at HC
  go_enter Tryd.func13, Tryd.ntmps13
  go_wp2_with (go_at_call 26; (with_reducible refine HC.out.mono ?_); rintro e w2 ⟨rfl, hB⟩; have HF2 := Lib.hid (onM HF.out.2.1 hB); clear hB)
  go_ret
  exact ⟨rfl, HF2.out⟩
end
end Go.Proofs.YtoajommeiocfpaaDoor

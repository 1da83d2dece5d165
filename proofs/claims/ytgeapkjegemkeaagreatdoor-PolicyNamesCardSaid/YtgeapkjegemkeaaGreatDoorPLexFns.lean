/-
  What the program's functions on the bytes of a text answer: beginsWord, isDigit, isPart, digit, oneOf, noneOf, behindRun, behindGap, and what they call of the library: contracts. Conditions: those that each names.
-/
import Derived.Test.YtgeapkjegemkeaaGreatDoorLexFns
import Derived.Lib.Bytealg
import Derived.Lib.Strings
import Derived.Lib.Walk
import Derived.BigCall
import Derived.Laws.Strings
namespace Go.Proofs.YtgeapkjegemkeaaGreatDoor
open Go Go.RowKit
set_option linter.unusedSimpArgs false
set_option linter.unusedVariables false

theorem p_begins (c : Nat) (w : World) : Calls Tryz.prog 110 #[.int .u8 (c : Int)] w fun e w' => e = .returned (.bool (letB c)) ∧ w = w' := by
  go_enter Tryz.func110, Tryz.ntmps110
  go_wp2
  all_goals
    go_ret
    refine ⟨congrArg (fun b => Ending.returned (Value.bool b)) ?_, rfl⟩
    unfold letB
    first
    | (rw [Bool.eq_iff_iff]; simp only [Bool.or_eq_true, Bool.and_eq_true, beq_iff_eq, decide_eq_true_eq, Bool.false_eq_true, false_iff, true_iff]; omega)
    | exact decide_eq_decide.2 (by omega)
    | exact (decide_eq_true (by omega)).symm
    | exact (decide_eq_false (by omega)).symm
theorem p_isDigit (c : Nat) (w : World) : Calls Tryz.prog 131 #[.int .u8 (c : Int)] w fun e w' => e = .returned (.bool (digB c)) ∧ w = w' := by
  go_enter Tryz.func131, Tryz.ntmps131
  go_wp2
  all_goals
    go_ret
    refine ⟨congrArg (fun b => Ending.returned (Value.bool b)) ?_, rfl⟩
    unfold digB
    first
    | exact decide_eq_decide.2 (by omega)
    | exact (decide_eq_true (by omega)).symm
    | exact (decide_eq_false (by omega)).symm
theorem p_begins_is {c : Nat} {b : Bool} (h : letB c = b) (w : World) : Calls Tryz.prog 110 #[.int .u8 (c : Int)] w fun e w' => e = .returned (.bool b) ∧ w = w' := h ▸ p_begins c w
theorem p_isDigit_is {c : Nat} {b : Bool} (h : digB c = b) (w : World) : Calls Tryz.prog 131 #[.int .u8 (c : Int)] w fun e w' => e = .returned (.bool b) ∧ w = w' := h ▸ p_isDigit c w
theorem p_isPart (c : Nat) (w : World) : Calls Tryz.prog 112 #[.int .u8 (c : Int)] w fun e w' => e = .returned (.bool (worB c)) ∧ w = w' := by
  unfold worB
  cases hl : letB c with
  | _ =>
    have HL := Lib.hid (p_begins_is hl)
    cases hd : digB c with
    | _ =>
      have HD := Lib.hid (p_isDigit_is hd)
      clear hl hd
      go_enter Tryz.func112, Tryz.ntmps112
      go_wp2_with (first
        | (go_at_call 110; (with_reducible refine (HL.out _).mono ?_); rintro e w' ⟨rfl, rfl⟩)
        | (go_at_call 131; (with_reducible refine (HD.out _).mono ?_); rintro e w' ⟨rfl, rfl⟩))
      go_ret
      exact ⟨rfl, rfl⟩
/-- What a digit stands for. -/
def digN (c : Nat) : Nat := if 48 ≤ c ∧ c ≤ 57 then c - 48 else if 97 ≤ c ∧ c ≤ 102 then c - 87 else 18446744073709551615
theorem p_digit (c : Nat) (hc : c < 256) (w : World) : Calls Tryz.prog 153 #[.int .u8 (c : Int)] w fun e w' => e = .returned (.int .u64 (digN c : Int)) ∧ w = w' := by
  cases hd : digB c with
  | true =>
    have HD := Lib.hid (p_isDigit_is hd)
    have h1 : 48 ≤ c ∧ c ≤ 57 := of_decide_eq_true hd
    have HN := Lib.hid (show digN c = c - 48 from if_pos h1)
    have hw : IntKind.u8.wrap ((c : Int) - 48) = ((c - 48 : Nat) : Int) := by rw [IntWalk.u8_in _ (by omega)]; omega
    clear hd
    go_enter Tryz.func153, Tryz.ntmps153
    go_wp2_with (go_at_call 131; (with_reducible refine (HD.out _).mono ?_); rintro e w' ⟨rfl, rfl⟩)
    go_ret
    exact ⟨by rw [HN.out]; go_num, rfl⟩
  | false =>
    have HD := Lib.hid (p_isDigit_is hd)
    have h1 : ¬ (48 ≤ c ∧ c ≤ 57) := of_decide_eq_false hd
    clear hd
    by_cases h2 : 97 ≤ c ∧ c ≤ 102
    · have HN := Lib.hid (show digN c = c - 87 from (if_neg h1).trans (if_pos h2))
      have g1 : (97 : Int) ≤ (c : Int) := by omega
      have g2 : (c : Int) ≤ 102 := by omega
      clear h1 h2
      go_enter Tryz.func153, Tryz.ntmps153
      go_wp2_with (go_at_call 131; (with_reducible refine (HD.out _).mono ?_); rintro e w' ⟨rfl, rfl⟩)
      go_ret
      exact ⟨by rw [HN.out]; go_num, rfl⟩
    · have HN := Lib.hid (show digN c = 18446744073709551615 from (if_neg h1).trans (if_neg h2))
      go_enter Tryz.func153, Tryz.ntmps153
      go_wp2_with (go_at_call 131; (with_reducible refine (HD.out _).mono ?_); rintro e w' ⟨rfl, rfl⟩)
      all_goals first
        | (exfalso; omega)
        | (go_ret; exact ⟨by rw [HN.out]; rfl, rfl⟩)
end Go.Proofs.YtgeapkjegemkeaaGreatDoor

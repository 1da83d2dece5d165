/-
  What the document's functions on codes of classic BPF answer: contracts, for every code. No condition but those that each names.
-/
import Derived.Test.YtoajommeiocfpaaChecked
import Derived.Test.YtoajommeiocfpaaCbpfSpec
import Derived.WalkSpells
import Derived.WalkLawsBesides
import Derived.Lib.Hide
namespace Go.Proofs.Ytoajommeiocfpaa
open Go Go.RowKit
set_option linter.unusedSimpArgs false
set_option linter.unusedVariables false

theorem ref_alu (c : Int) (w : World) : Calls Try.prog 68 #[.int .u16 c] w fun e w' => e = .returned (.bool (aluC c)) ∧ w = w' := by
  rcases hb : aluC c with _ | _
  · have h : ¬ (c = 4 ∨ c = 20 ∨ c = 36 ∨ c = 52 ∨ c = 68 ∨ c = 84 ∨ c = 100 ∨ c = 116 ∨ c = 164 ∨ c = 12 ∨ c = 28 ∨ c = 44 ∨ c = 60 ∨ c = 76 ∨ c = 92 ∨ c = 108 ∨ c = 124 ∨ c = 172) := by
      simpa [aluC, aluL] using hb
    simp only [not_or] at h
    clear hb
    go_enter Try.func68, Try.ntmps68
    go_wp2
    go_ret
    exact ⟨rfl, rfl⟩
  · rcases alu_cases hb with rfl | rfl | rfl | rfl | rfl | rfl | rfl | rfl | rfl | rfl | rfl | rfl | rfl | rfl | rfl | rfl | rfl | rfl
    all_goals
      clear hb
      go_enter Try.func68, Try.ntmps68
      go_wp2
      go_ret
      exact ⟨rfl, rfl⟩

theorem ref_Jump (c : Int) (w : World) : Calls Try.prog 49 #[.int .u16 c] w fun e w' => e = .returned (.bool (jumpC c)) ∧ w = w' := by
  rcases hb : jumpC c with _ | _
  · have h : ¬ (c = 21 ∨ c = 37 ∨ c = 53 ∨ c = 69 ∨ c = 29 ∨ c = 45 ∨ c = 61 ∨ c = 77) := by
      simpa [jumpC, jumpL] using hb
    simp only [not_or] at h
    clear hb
    go_enter Try.func49, Try.ntmps49
    go_wp2
    go_ret
    exact ⟨rfl, rfl⟩
  · rcases jump_cases hb with rfl | rfl | rfl | rfl | rfl | rfl | rfl | rfl
    all_goals
      clear hb
      go_enter Try.func49, Try.ntmps49
      go_wp2
      go_ret
      exact ⟨rfl, rfl⟩

theorem ref_alu_is {c : Int} {b : Bool} (h : aluC c = b) (w : World) : Calls Try.prog 68 #[.int .u16 c] w fun e w' => e = .returned (.bool b) ∧ w = w' := by rw [← h]; exact ref_alu c w
theorem ref_Jump_is {c : Int} {b : Bool} (h : jumpC c = b) (w : World) : Calls Try.prog 49 #[.int .u16 c] w fun e w' => e = .returned (.bool b) ∧ w = w' := by rw [← h]; exact ref_Jump c w

theorem ref_Seals (c : Int) (w : World) : Calls Try.prog 48 #[.int .u16 c] w fun e w' => e = .returned (.bool (sealsC c)) ∧ w = w' := by
  rcases ha : aluC c with _ | _
  · have HA := Lib.hid ha
    rcases hj : jumpC c with _ | _
    · have HJ := Lib.hid hj
      rcases hb : restC c with _ | _
      · have h : ¬ (c = 32 ∨ c = 128 ∨ c = 129 ∨ c = 0 ∨ c = 1 ∨ c = 96 ∨ c = 97 ∨ c = 2 ∨ c = 3 ∨ c = 132 ∨ c = 5 ∨ c = 6 ∨ c = 22 ∨ c = 7 ∨ c = 135) := by
          simpa [restC, restL] using hb
        simp only [not_or] at h
        have HB := Lib.hid hb
        clear ha hj hb
        go_enter Try.func48, Try.ntmps48
        go_wp2_with (first | (go_at_call 68; refine (ref_alu_is HA.out _).mono ?_; rintro e w' ⟨rfl, rfl⟩) | (go_at_call 49; refine (ref_Jump_is HJ.out _).mono ?_; rintro e w' ⟨rfl, rfl⟩))
        go_ret
        exact ⟨by rw [sealsC, HA.out, HJ.out, HB.out]; rfl, rfl⟩
      · rcases rest_cases hb with rfl | rfl | rfl | rfl | rfl | rfl | rfl | rfl | rfl | rfl | rfl | rfl | rfl | rfl | rfl
        all_goals
          clear ha hj hb
          go_enter Try.func48, Try.ntmps48
          go_wp2_with (first | (go_at_call 68; refine (ref_alu_is HA.out _).mono ?_; rintro e w' ⟨rfl, rfl⟩) | (go_at_call 49; refine (ref_Jump_is HJ.out _).mono ?_; rintro e w' ⟨rfl, rfl⟩))
          go_ret
          exact ⟨rfl, rfl⟩
    · have HJ := Lib.hid hj
      clear ha hj
      go_enter Try.func48, Try.ntmps48
      go_wp2_with (first | (go_at_call 68; refine (ref_alu_is HA.out _).mono ?_; rintro e w' ⟨rfl, rfl⟩) | (go_at_call 49; refine (ref_Jump_is HJ.out _).mono ?_; rintro e w' ⟨rfl, rfl⟩))
      go_ret
      exact ⟨by rw [sealsC, HA.out, HJ.out]; rfl, rfl⟩
  · have HA := Lib.hid ha
    clear ha
    go_enter Try.func48, Try.ntmps48
    go_wp2_with (first | (go_at_call 68; refine (ref_alu_is HA.out _).mono ?_; rintro e w' ⟨rfl, rfl⟩) | (go_at_call 49; refine (ref_Jump _ _).mono ?_; rintro e w' ⟨rfl, rfl⟩))
    go_ret
    exact ⟨by rw [sealsC, HA.out]; rfl, rfl⟩

theorem and_op {c : Int} (h : aluC c = true ∨ jumpC c = true) : bits .and .u16 c 240 = opN c := by
  rcases h with h | h
  · rcases alu_cases h with rfl | rfl | rfl | rfl | rfl | rfl | rfl | rfl | rfl | rfl | rfl | rfl | rfl | rfl | rfl | rfl | rfl | rfl <;> decide
  · rcases jump_cases h with rfl | rfl | rfl | rfl | rfl | rfl | rfl | rfl <;> decide

theorem ret_i {k : IntKind} {a b : Int} (h : a = b) : Ending.returned (.int k a) = .returned (.int k b) := by rw [h]
theorem ret_b {a b : Bool} (h : a = b) : Ending.returned (.bool a) = .returned (.bool b) := by rw [h]
theorem alu_op {c : Int} (h : aluC c = true) : (opN c = 0 ∨ opN c = 16 ∨ opN c = 32 ∨ opN c = 48 ∨ opN c = 64 ∨ opN c = 80 ∨ opN c = 96 ∨ opN c = 112 ∨ opN c = 160) ∧ (opN c = 48 → c = 52 ∨ c = 60) := by
  rcases alu_cases h with rfl | rfl | rfl | rfl | rfl | rfl | rfl | rfl | rfl | rfl | rfl | rfl | rfl | rfl | rfl | rfl | rfl | rfl <;> decide
theorem jump_op {c : Int} (h : jumpC c = true) : opN c = 16 ∨ opN c = 32 ∨ opN c = 48 ∨ opN c = 64 := by
  rcases jump_cases h with rfl | rfl | rfl | rfl | rfl | rfl | rfl | rfl <;> decide
/-- What an instruction's value is. -/
theorem ref_Seals_is {c : Int} {b : Bool} (h : sealsC c = b) (w : World) : Calls Try.prog 48 #[.int .u16 c] w fun e w' => e = .returned (.bool b) ∧ w = w' := by rw [← h]; exact ref_Seals c w
end Go.Proofs.Ytoajommeiocfpaa

/-
  What the document's functions on signs, numbers and words of a text answer: contracts. Conditions: those that each names.
-/
import Derived.Test.YtgeapkjegemkeaaGreatDoorLexFns
namespace Go.Proofs.YtgeapkjegemkeaaGreatDoor
open Go Go.RowKit
set_option linter.unusedSimpArgs false
set_option linter.unusedVariables false

section
variable (s : ByteArray) (hs : s.size ≤ maxLen) (i : Nat) (hi : i < s.size) (w : World)
include hs hi
theorem ref_sign : Calls Tryz.prog 119 #[.string s, .int .i64 (i : Int)] w fun e w' => e = .returned (.int .i64 (sigF (byt s) s.size i : Int)) ∧ w = w' := by
  unfold maxLen at hs
  have hi' : (i : Int) < (s.size : Int) := by omega
  have e := byt_is hi
  have hc : (byt s i = 59 ∨ byt s i = 44 ∨ byt s i = 40 ∨ byt s i = 41 ∨ byt s i = 38 ∨ byt s i = 60 ∨ byt s i = 62 ∨ byt s i = 61 ∨ byt s i = 33) ∨ ¬ (byt s i = 59 ∨ byt s i = 44 ∨ byt s i = 40 ∨ byt s i = 41 ∨ byt s i = 38 ∨ byt s i = 60 ∨ byt s i = 62 ∨ byt s i = 61 ∨ byt s i = 33) := Classical.em _
  by_cases h2 : i + 1 < s.size
  · have h2' : (i : Int) + 1 < (s.size : Int) := by omega
    have e2 := byt_is h2
    by_cases h61 : byt s (i + 1) = 61
    · rcases hc with (h | h | h | h | h | h | h | h | h) | h
      rotate_right
      · have HS := Lib.hid (show sigF (byt s) s.size i = 0 by unfold sigF; rw [if_neg (by omega), if_neg (by omega), if_neg (by omega)])
        have n59 : ¬ ((byt s i : Nat) : Int) = 59 := by omega
        have n44 : ¬ ((byt s i : Nat) : Int) = 44 := by omega
        have n40 : ¬ ((byt s i : Nat) : Int) = 40 := by omega
        have n41 : ¬ ((byt s i : Nat) : Int) = 41 := by omega
        have n38 : ¬ ((byt s i : Nat) : Int) = 38 := by omega
        have n60 : ¬ ((byt s i : Nat) : Int) = 60 := by omega
        have n62 : ¬ ((byt s i : Nat) : Int) = 62 := by omega
        have n61 : ¬ ((byt s i : Nat) : Int) = 61 := by omega
        have n33 : ¬ ((byt s i : Nat) : Int) = 33 := by omega
        have b59 : (((byt s i : Nat) : Int) == 59) = false := beq_false_of_ne n59
        have b44 : (((byt s i : Nat) : Int) == 44) = false := beq_false_of_ne n44
        have b40 : (((byt s i : Nat) : Int) == 40) = false := beq_false_of_ne n40
        have b41 : (((byt s i : Nat) : Int) == 41) = false := beq_false_of_ne n41
        have b38 : (((byt s i : Nat) : Int) == 38) = false := beq_false_of_ne n38
        have b60 : (((byt s i : Nat) : Int) == 60) = false := beq_false_of_ne n60
        have b62 : (((byt s i : Nat) : Int) == 62) = false := beq_false_of_ne n62
        have b61 : (((byt s i : Nat) : Int) == 61) = false := beq_false_of_ne n61
        have b33 : (((byt s i : Nat) : Int) == 33) = false := beq_false_of_ne n33
        rw [h61] at e2
        clear h h61
        generalize byt s i = c at e n59 b59 n44 b44 n40 b40 n41 b41 n38 b38 n60 b60 n62 b62 n61 b61 n33 b33
        go_enter Tryz.func119, Tryz.ntmps119
        go_wp2
        go_ret
        exact ⟨by rw [HS.out]; rfl, rfl⟩
      all_goals
        have HS := Lib.hid (show sigF (byt s) s.size i = _ by unfold sigF; simp only [h, h2, h61]; rfl)
        rw [h61] at e2
        rw [h] at e
        clear h h61
        go_enter Tryz.func119, Tryz.ntmps119
        go_wp2
        go_ret
        exact ⟨by rw [HS.out]; rfl, rfl⟩
    · rcases hc with (h | h | h | h | h | h | h | h | h) | h
      rotate_right
      · have HS := Lib.hid (show sigF (byt s) s.size i = 0 by unfold sigF; rw [if_neg (by omega), if_neg (by omega), if_neg (by omega)])
        have n59 : ¬ ((byt s i : Nat) : Int) = 59 := by omega
        have n44 : ¬ ((byt s i : Nat) : Int) = 44 := by omega
        have n40 : ¬ ((byt s i : Nat) : Int) = 40 := by omega
        have n41 : ¬ ((byt s i : Nat) : Int) = 41 := by omega
        have n38 : ¬ ((byt s i : Nat) : Int) = 38 := by omega
        have n60 : ¬ ((byt s i : Nat) : Int) = 60 := by omega
        have n62 : ¬ ((byt s i : Nat) : Int) = 62 := by omega
        have n61 : ¬ ((byt s i : Nat) : Int) = 61 := by omega
        have n33 : ¬ ((byt s i : Nat) : Int) = 33 := by omega
        have b59 : (((byt s i : Nat) : Int) == 59) = false := beq_false_of_ne n59
        have b44 : (((byt s i : Nat) : Int) == 44) = false := beq_false_of_ne n44
        have b40 : (((byt s i : Nat) : Int) == 40) = false := beq_false_of_ne n40
        have b41 : (((byt s i : Nat) : Int) == 41) = false := beq_false_of_ne n41
        have b38 : (((byt s i : Nat) : Int) == 38) = false := beq_false_of_ne n38
        have b60 : (((byt s i : Nat) : Int) == 60) = false := beq_false_of_ne n60
        have b62 : (((byt s i : Nat) : Int) == 62) = false := beq_false_of_ne n62
        have b61 : (((byt s i : Nat) : Int) == 61) = false := beq_false_of_ne n61
        have b33 : (((byt s i : Nat) : Int) == 33) = false := beq_false_of_ne n33
        have m61 : ¬ ((byt s (i + 1) : Nat) : Int) = 61 := by omega
        have c61 : (((byt s (i + 1) : Nat) : Int) == 61) = false := beq_false_of_ne m61
        generalize byt s (i + 1) = d at e2 m61 c61
        clear h h61
        generalize byt s i = c at e n59 b59 n44 b44 n40 b40 n41 b41 n38 b38 n60 b60 n62 b62 n61 b61 n33 b33
        go_enter Tryz.func119, Tryz.ntmps119
        go_wp2
        go_ret
        exact ⟨by rw [HS.out]; rfl, rfl⟩
      all_goals
        have HS := Lib.hid (show sigF (byt s) s.size i = _ by unfold sigF; simp only [h, h2, h61]; rfl)
        have m61 : ¬ ((byt s (i + 1) : Nat) : Int) = 61 := by omega
        have c61 : (((byt s (i + 1) : Nat) : Int) == 61) = false := beq_false_of_ne m61
        generalize byt s (i + 1) = d at e2 m61 c61
        rw [h] at e
        clear h h61
        go_enter Tryz.func119, Tryz.ntmps119
        go_wp2
        go_ret
        exact ⟨by rw [HS.out]; rfl, rfl⟩
  · have h2' : ¬ (i : Int) + 1 < (s.size : Int) := by omega
    rcases hc with (h | h | h | h | h | h | h | h | h) | h
    rotate_right
    · have HS := Lib.hid (show sigF (byt s) s.size i = 0 by unfold sigF; rw [if_neg (by omega), if_neg (by omega), if_neg (by omega)])
      have n59 : ¬ ((byt s i : Nat) : Int) = 59 := by omega
      have n44 : ¬ ((byt s i : Nat) : Int) = 44 := by omega
      have n40 : ¬ ((byt s i : Nat) : Int) = 40 := by omega
      have n41 : ¬ ((byt s i : Nat) : Int) = 41 := by omega
      have n38 : ¬ ((byt s i : Nat) : Int) = 38 := by omega
      have n60 : ¬ ((byt s i : Nat) : Int) = 60 := by omega
      have n62 : ¬ ((byt s i : Nat) : Int) = 62 := by omega
      have n61 : ¬ ((byt s i : Nat) : Int) = 61 := by omega
      have n33 : ¬ ((byt s i : Nat) : Int) = 33 := by omega
      have b59 : (((byt s i : Nat) : Int) == 59) = false := beq_false_of_ne n59
      have b44 : (((byt s i : Nat) : Int) == 44) = false := beq_false_of_ne n44
      have b40 : (((byt s i : Nat) : Int) == 40) = false := beq_false_of_ne n40
      have b41 : (((byt s i : Nat) : Int) == 41) = false := beq_false_of_ne n41
      have b38 : (((byt s i : Nat) : Int) == 38) = false := beq_false_of_ne n38
      have b60 : (((byt s i : Nat) : Int) == 60) = false := beq_false_of_ne n60
      have b62 : (((byt s i : Nat) : Int) == 62) = false := beq_false_of_ne n62
      have b61 : (((byt s i : Nat) : Int) == 61) = false := beq_false_of_ne n61
      have b33 : (((byt s i : Nat) : Int) == 33) = false := beq_false_of_ne n33
      clear h
      generalize byt s i = c at e n59 b59 n44 b44 n40 b40 n41 b41 n38 b38 n60 b60 n62 b62 n61 b61 n33 b33
      go_enter Tryz.func119, Tryz.ntmps119
      go_wp2
      go_ret
      exact ⟨by rw [HS.out]; rfl, rfl⟩
    all_goals
      have HS := Lib.hid (show sigF (byt s) s.size i = _ by unfold sigF; simp only [h, h2, false_and]; rfl)
      rw [h] at e
      clear h
      go_enter Tryz.func119, Tryz.ntmps119
      go_wp2
      go_ret
      exact ⟨by rw [HS.out]; rfl, rfl⟩
end
end Go.Proofs.YtgeapkjegemkeaaGreatDoor

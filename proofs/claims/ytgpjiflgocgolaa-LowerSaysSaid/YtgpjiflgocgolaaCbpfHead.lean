/-
  The verifier's own Head of layer 3, a question whose answer is fixed, and how many steps a run takes: contracts. No condition.
-/
import Derived.Test.YtgpjiflgocgolaaPRun
import Derived.Test.YtgpjiflgocgolaaCbpfLent
import Derived.Test.YtgpjiflgocgolaaSecData
namespace Go.Proofs.Ytgpjiflgocgolaa
open Go Go.RowKit
set_option linter.unusedSimpArgs false
set_option linter.unusedVariables false

theorem iter_within (q : Nat → Ins) (n len : Nat) (word : Nat → BitVec 32) : ∀ k, (iterS q n len word k).steps ≤ n
  | 0 => Nat.zero_le _
  | k + 1 => by
    have ih := iter_within q n len word k
    have hg := iter_going q n len word k
    show ((iterS q n len word k).step q n len word).steps ≤ n
    generalize iterS q n len word k = s at ih hg ⊢
    rcases hd : s.done with _ | _
    · have hg := hg hd
      by_cases hl : len = 64
      · by_cases hp : n ≤ s.place
        · rw [show s.step q n len word = s.fails 33 by simp [Mach.step, hd, hl, hp]]; exact ih
        · have := step_steps q n len word s; omega
      · rw [show s.step q n len word = s.fails 21 by simp [Mach.step, hd, hl]]; exact ih
    · rw [step_of_done q n len word _ hd]; exact ih
end Go.Proofs.Ytgpjiflgocgolaa

/-
  What the document's Step of classic BPF does to its machine: one contract for every program and all data. Conditions: Ready's.
-/
import Derived.Test.YtoajommeiocfpaaCbpfGoes
namespace Go.Proofs.Ytoajommeiocfpaa
open Go Go.RowKit
set_option linter.unusedSimpArgs false
set_option linter.unusedVariables false

theorem seals_three {c : Int} {k : BitVec 32} (h : wrongE c k = 0) : aluC c = true ∨ (aluC c = false ∧ jumpC c = true) ∨ (aluC c = false ∧ jumpC c = false ∧ restC c = true) := by
  rcases ha : aluC c with _ | _
  · rcases hj : jumpC c with _ | _
    · rcases hr : restC c with _ | _
      · rw [wrongE, if_pos (by rw [sealsC, ha, hj, hr]; rfl)] at h; cases h
      · exact .inr (.inr ⟨rfl, rfl, rfl⟩)
    · exact .inr (.inl ⟨rfl, rfl⟩)
  · exact .inl rfl
theorem wrong_52 {k : BitVec 32} (h : wrongE 52 k = 0) : k ≠ 0#32 := fun hk => by
  subst hk; exact absurd h (by decide)
theorem usesX_52 : usesX 52 = false := rfl
theorem usesX_60 : usesX 60 = true := rfl

end Go.Proofs.Ytoajommeiocfpaa

/-
  What the document's functions on codes of classic BPF answer: contracts, for every code. No condition but those that each names.
-/
import Derived.Test.YtoajommeiocfpaaDoorChecked
import Derived.Test.YtoajommeiocfpaaDoorCbpfSpec
import Derived.WalkSpells
import Derived.WalkLawsBesides
import Derived.Lib.Hide
namespace Go.Proofs.YtoajommeiocfpaaDoor
open Go Go.RowKit
set_option linter.unusedSimpArgs false
set_option linter.unusedVariables false

theorem and_op {c : Int} (h : aluC c = true ∨ jumpC c = true) : bits .and .u16 c 240 = opN c := by
  rcases h with h | h
  · rcases alu_cases h with rfl | rfl | rfl | rfl | rfl | rfl | rfl | rfl | rfl | rfl | rfl | rfl | rfl | rfl | rfl | rfl | rfl | rfl <;> decide
  · rcases jump_cases h with rfl | rfl | rfl | rfl | rfl | rfl | rfl | rfl <;> decide

theorem ret_i {k : IntKind} {a b : Int} (h : a = b) : Ending.returned (.int k a) = .returned (.int k b) := by rw [h]
theorem ret_b {a b : Bool} (h : a = b) : Ending.returned (.bool a) = .returned (.bool b) := by rw [h]
theorem alu_op {c : Int} (h : aluC c = true) : (opN c = 0 ∨ opN c = 16 ∨ opN c = 32 ∨ opN c = 48 ∨ opN c = 64 ∨ opN c = 80 ∨ opN c = 96 ∨ opN c = 112 ∨ opN c = 160) ∧ (opN c = 48 → c = 52 ∨ c = 60) := by
  rcases alu_cases h with rfl | rfl | rfl | rfl | rfl | rfl | rfl | rfl | rfl | rfl | rfl | rfl | rfl | rfl | rfl | rfl | rfl | rfl <;> decide
theorem jump_op {c : Int} (h : jumpC c = true) : opN c = 16 ∨ opN c = 32 ∨ opN c = 48 ∨ opN c = 64 := by
  rcases jump_cases h with rfl | rfl | rfl | rfl | rfl | rfl | rfl | rfl <;> decide
end Go.Proofs.YtoajommeiocfpaaDoor

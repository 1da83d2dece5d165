/-
  What the document's Read and Word answer (layer 2): contracts over whatever memory holds the bytes. Conditions: those that each contract names.
-/
import Derived.Test.YtoajommeiocfpaaSecRead
namespace Go.Proofs.Ytoajommeiocfpaa
open Go Go.RowKit
set_option linter.unusedSimpArgs false
set_option linter.unusedVariables false

theorem wrap_w4 {z : Nat → Int} (hz : ∀ i, 0 ≤ z i ∧ z i < 256) (p : Nat) : IntKind.u32.wrap (w4 z p) = w4 z p := by
  have := w4_bd hz p
  rw [IntKind.wrap_u32]; omega

/-! ### Word -/
/-! ### Read -/
end Go.Proofs.Ytoajommeiocfpaa

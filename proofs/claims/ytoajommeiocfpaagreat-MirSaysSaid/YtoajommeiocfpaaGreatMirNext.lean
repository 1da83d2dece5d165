/-
  Which registers an instruction asks for, which it sets, where it leads, as the program tells: contracts. Conditions: those that each names.
-/
import Derived.Test.YtoajommeiocfpaaGreatMirChkP
import Derived.Test.YtoajommeiocfpaaGreatMirShape
import Derived.Deep.Cut
namespace Go.Proofs.YtoajommeiocfpaaGreat
open Go Go.RowKit
set_option linter.unusedSimpArgs false
set_option linter.unusedVariables false
set_option maxRecDepth 100000

theorem izL_snoc (l : List Int) (z : Int) : izL (l ++ [z]) = izL l ++ [.int .i64 z] := by unfold izL; rw [List.map_append]; rfl
end Go.Proofs.YtoajommeiocfpaaGreat
namespace Go.Proofs.YtoajommeiocfpaaGreat
open Go Go.RowKit
set_option linter.unusedSimpArgs false
set_option linter.unusedVariables false
set_option maxRecDepth 100000

/-! ### The program -/
end Go.Proofs.YtoajommeiocfpaaGreat

/-
  What each function of package word that makes no memory answers: a contract a function, for every argument. No condition but those that a contract names.
-/
import Derived.Test.YtoajommeiocfpaaDoorChecked
import Derived.Test.YtoajommeiocfpaaDoorWordMath
import Derived.WalkSpells
import Derived.WalkLawsBesides
namespace Go.Proofs.YtoajommeiocfpaaDoor
open Go Go.RowKit
set_option linter.unusedSimpArgs false
set_option linter.unusedVariables false

theorem ret_int {k : IntKind} {a b : Int} (h : a = b) : Ending.returned (.int k a) = .returned (.int k b) := by rw [h]
theorem ret_bool {a b : Bool} (h : a = b) : Ending.returned (.bool a) = .returned (.bool b) := by rw [h]

end Go.Proofs.YtoajommeiocfpaaDoor

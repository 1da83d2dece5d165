/-
  What each function of the document's answer to layer 1 that makes no memory answers: a contract a function, for every argument. No condition.
-/
import Derived.Test.YtoajommeiocfpaaDoorWordFns
import Derived.Lib.Hide
namespace Go.Proofs.YtoajommeiocfpaaDoor
open Go Go.RowKit
set_option linter.unusedSimpArgs false
set_option linter.unusedVariables false

end Go.Proofs.YtoajommeiocfpaaDoor

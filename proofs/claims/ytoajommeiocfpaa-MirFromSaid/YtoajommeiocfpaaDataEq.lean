/-
  What '==' says of two data. No condition.
-/
import Derived.Test.YtoajommeiocfpaaChecked
import Derived.WalkKit
import Derived.Laws.StructEq
import Derived.KernelRfl
import Derived.Below
namespace Go.Proofs.Ytoajommeiocfpaa
open Go
set_option linter.unusedSimpArgs false

end Go.Proofs.Ytoajommeiocfpaa

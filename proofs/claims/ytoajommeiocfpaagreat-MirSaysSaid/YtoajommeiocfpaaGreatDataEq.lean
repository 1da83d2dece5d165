/-
  What '==' says of two data. No condition.
-/
import Derived.Test.YtoajommeiocfpaaGreatChecked
import Derived.WalkKit
import Derived.Laws.StructEq
import Derived.KernelRfl
import Derived.Below
namespace Go.Proofs.YtoajommeiocfpaaGreat
open Go
set_option linter.unusedSimpArgs false

end Go.Proofs.YtoajommeiocfpaaGreat

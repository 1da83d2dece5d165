/-
  What '==' says of two data. No condition.
-/
import Derived.Test.YtaphbcjehcnggaaChecked
import Derived.WalkKit
import Derived.Laws.StructEq
import Derived.KernelRfl
import Derived.Below
namespace Go.Proofs.Ytaphbcjehcnggaa
open Go
set_option linter.unusedSimpArgs false

end Go.Proofs.Ytaphbcjehcnggaa

/-
  'append(append([]byte{}, b...), 77)': plain laws on the two rows. No condition but those that each names.
-/
import Derived.Test.YtoajommeiocfpaaGreatMemory
namespace Go.Proofs.YtoajommeiocfpaaGreat
open Go Go.RowKit
set_option linter.unusedSimpArgs false
set_option linter.unusedVariables false

end Go.Proofs.YtoajommeiocfpaaGreat

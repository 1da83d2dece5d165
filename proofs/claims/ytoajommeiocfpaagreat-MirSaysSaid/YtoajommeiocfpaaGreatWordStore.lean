/-
  What Store of package word leaves in a row of bytes, and what the document's Store makes: contracts. Conditions: those that each contract names.
-/
import Derived.Test.YtoajommeiocfpaaGreatWordLoad
import Derived.Test.YtoajommeiocfpaaGreatMemory
namespace Go.Proofs.YtoajommeiocfpaaGreat
open Go Go.RowKit
set_option linter.unusedSimpArgs false
set_option linter.unusedVariables false

/-- Byte i of a number. -/
def byteI (x : Int) (i : Nat) : Int := x / 2 ^ (8 * i) % 256
end Go.Proofs.YtoajommeiocfpaaGreat

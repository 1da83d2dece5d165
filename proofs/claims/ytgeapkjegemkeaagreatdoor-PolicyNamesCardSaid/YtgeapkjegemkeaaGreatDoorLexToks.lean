/-
  What the document's Tokens and List of a text answer: contracts. Conditions: those that each names.
-/
import Derived.Test.YtgeapkjegemkeaaGreatDoorLexNext
import Derived.Test.YtgeapkjegemkeaaGreatDoorRowsOwn
import Derived.OwnWalk
namespace Go.Proofs.YtgeapkjegemkeaaGreatDoor
open Go Go.RowKit
set_option linter.unusedSimpArgs false
set_option linter.unusedVariables false

section
variable (s : ByteArray) (w : World)
end
end Go.Proofs.YtgeapkjegemkeaaGreatDoor

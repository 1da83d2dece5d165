/-
  What the document's Word and Next of a text answer: contracts. Conditions: those that each names.
-/
import Derived.Test.YtgeapkjegemkeaaGreatDoorLexNum
import Derived.Test.YtgeapkjegemkeaaGreatDoorLexSign
namespace Go.Proofs.YtgeapkjegemkeaaGreatDoor
open Go Go.RowKit
set_option linter.unusedSimpArgs false
set_option linter.unusedVariables false

section
variable (s : ByteArray) (hs : s.size ≤ maxLen) (w : World)
include hs
end
section
variable (s : ByteArray) (w : World)
end
end Go.Proofs.YtgeapkjegemkeaaGreatDoor

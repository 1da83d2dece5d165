/-
  What the document's functions on signs, numbers and words of a text answer: contracts. Conditions: those that each names.
-/
import Derived.Test.YtgeapkjegemkeaaGreatDoorLexFns
namespace Go.Proofs.YtgeapkjegemkeaaGreatDoor
open Go Go.RowKit
set_option linter.unusedSimpArgs false
set_option linter.unusedVariables false

section
variable (s : ByteArray) (hs : s.size ≤ maxLen) (i : Nat) (hi : i < s.size) (w : World)
include hs hi
end
end Go.Proofs.YtgeapkjegemkeaaGreatDoor

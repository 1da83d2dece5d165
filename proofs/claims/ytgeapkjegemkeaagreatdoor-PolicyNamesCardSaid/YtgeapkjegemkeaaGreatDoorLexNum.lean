/-
  What the document's Number of a text answers: a contract. Conditions: those that each names.
-/
import Derived.Test.YtgeapkjegemkeaaGreatDoorLexFns
namespace Go.Proofs.YtgeapkjegemkeaaGreatDoor
open Go Go.RowKit
set_option linter.unusedSimpArgs false
set_option linter.unusedVariables false

/-- What Number leaves. -/
def NumP (w : World) (V : Nat) (B : Bool) (e : Ending) (w' : World) : Prop := e = .returned (.tuple #[.int .u64 (V : Int), .bool B]) ∧ w = w'
section
variable (s : ByteArray) (hs : s.size ≤ maxLen) (w : World)
include hs
end
end Go.Proofs.YtgeapkjegemkeaaGreatDoor

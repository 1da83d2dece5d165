/-
  The reader's call: its contract. Condition: its place.
-/
import Derived.Test.YtgeapkjegemkeaaGreatDoorPolTest
import Derived.Test.YtgeapkjegemkeaaGreatDoorPolPure
namespace Go.Proofs.YtgeapkjegemkeaaGreatDoor
open Go Go.RowKit
set_option linter.unusedSimpArgs false
set_option linter.unusedVariables false
section
variable (w : World) (b : Nat) (A : Option Addr) (cap : Nat) (S : Src) (r : Rd) (h : RdAt w b A cap S r)
include h
end
end Go.Proofs.YtgeapkjegemkeaaGreatDoor

/-
  The document's SameExpr of one expression in two places: true. Condition: that both lie in memory.
-/
import Derived.Test.YtgeapkjegemkeaaGreatDoorPolMem
import Derived.Test.YtgeapkjegemkeaaGreatDoorPolRd
import Derived.Test.YtgeapkjegemkeaaGreatDoorPolPure
import Derived.Test.YtgeapkjegemkeaaGreatDoorRegion
namespace Go.Proofs.YtgeapkjegemkeaaGreatDoor
open Go Go.RowKit
set_option linter.unusedSimpArgs false
set_option linter.unusedVariables false

abbrev exCell (x : Ex) (A : Option Addr) (cap : Nat) : Obj := .cells #[.int .i64 x.op, .slice A x.args.length cap, .int .i64 x.field, .int .u64 (x.mask : Int), .int .i64 x.rel, .int .u64 (x.value : Int)] 39
end Go.Proofs.YtgeapkjegemkeaaGreatDoor

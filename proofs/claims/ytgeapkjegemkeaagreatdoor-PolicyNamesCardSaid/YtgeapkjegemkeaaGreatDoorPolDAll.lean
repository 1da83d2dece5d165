/-
  The document's reader's all and Expr: contracts, of a contract of what stands between the words. Conditions: those that each names.
-/
import Derived.Test.YtgeapkjegemkeaaGreatDoorPolDOne
namespace Go.Proofs.YtgeapkjegemkeaaGreatDoor
open Go Go.RowKit
set_option linter.unusedSimpArgs false
set_option linter.unusedVariables false

section
variable {w0 wr wa wb wd : World} {b : Nat} {A : Option Addr} {cap : Nat} {S : Src} {r0 r r' : Rd} {word : ByteArray} {item : Rd → Option (Ex × Rd)} {z : List Ex × Rd} {v v' : Value} {l : List Ex} {xs : List Value} {m : Nat} {x : Ex} {Ax : Option Addr} {cx : Nat} {O : Obj}
end
end Go.Proofs.YtgeapkjegemkeaaGreatDoor

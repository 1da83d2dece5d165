/-
  What the document's Check of classic BPF answers: contracts. Conditions: those that each names.
-/
import Derived.Test.YtgpjiflgocgolaaCheckFns
import Derived.Test.YtgpjiflgocgolaaCbpfLent
namespace Go.Proofs.Ytgpjiflgocgolaa
open Go Go.RowKit
set_option linter.unusedSimpArgs false
set_option linter.unusedVariables false

section
variable (w : World) (A : Option Addr) (n cap : Nat) (q : Nat → Ins)
/-- What a look at a whole program leaves. -/
def CheckP (w : World) (q : Nat → Ins) (n : Nat) (e : Ending) (w' : World) : Prop := e = .returned (.tuple #[.int .i64 (checkE q n), .int .i64 (checkP q n : Int)]) ∧ Below w.heap.size w w'
end
end Go.Proofs.Ytgpjiflgocgolaa

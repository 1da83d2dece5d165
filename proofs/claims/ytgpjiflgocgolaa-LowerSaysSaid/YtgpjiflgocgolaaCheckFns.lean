/-
  Which instruction of classic BPF may be, and which program: what the document's One and Check answer: contracts. Conditions: those that each names.
-/
import Derived.Test.YtgpjiflgocgolaaCheckSpec
import Derived.Test.YtgpjiflgocgolaaChecked
import Derived.Test.YtgpjiflgocgolaaCbpfAll
import Derived.WalkSpells
import Derived.WalkLawsBesides
import Derived.Lib.Hide
import Derived.Test.YtgpjiflgocgolaaPMach
namespace Go.Proofs.Ytgpjiflgocgolaa
open Go Go.RowKit
set_option linter.unusedSimpArgs false
set_option linter.unusedVariables false

/-- What a look at a program leaves: memory as it was, but for new blocks. -/
def LookP (w : World) (E : Int) (e : Ending) (w' : World) : Prop := e = .returned (.int .i64 E) ∧ Below w.heap.size w w'
section
variable (w : World) (A : Option Addr) (n cap : Nat)
end
section
variable (w : World) (b o n cap i l : Nat) (c : Int) (jt jf : Nat) (k : BitVec 32)
end
end Go.Proofs.Ytgpjiflgocgolaa

/-
  What keeps an instruction of classic BPF from being done: the document's 'wrong', a contract for every instruction. No condition.
-/
import Derived.Test.YtoajommeiocfpaaDoorCbpfFns
namespace Go.Proofs.YtoajommeiocfpaaDoor
open Go Go.RowKit
set_option linter.unusedSimpArgs false
set_option linter.unusedVariables false

def WrongP (w : World) (v : Int) (e : Ending) (w' : World) : Prop := e = .returned (.int .i64 v) ∧ Below w.heap.size w w'
theorem box_below (w : World) (o : Obj) : Below w.heap.size w (w.alloc o) := (Below.refl _ _).alloc (Nat.le_refl _) o
end Go.Proofs.YtoajommeiocfpaaDoor

/-
  What the program's machine of registers asks for, sets and tests: contracts of holds, asked and result. Conditions: those that each names.
-/
import Derived.Test.YtoajommeiocfpaaDoorMirShape
import Derived.Test.YtoajommeiocfpaaDoorMirRegs
import Derived.Test.YtoajommeiocfpaaDoorSecRead
namespace Go.Proofs.YtoajommeiocfpaaDoor
open Go Go.RowKit
set_option linter.unusedSimpArgs false
set_option linter.unusedVariables false
set_option maxRecDepth 100000

theorem heap_setM {w : World} {B : Nat} {c : Array Value} {T : TypeId} {z : Nat × Nat} (h : w.heap[B]? = some (.cells c T z)) (i : Nat) (v : Value) : (w.setCell ⟨B, i, none⟩ v).heap[B]? = some (.cells (c.setIfInBounds i v) T z) := by
  unfold World.setCell
  simp only [Array.getElem?_modify, if_true, h]
  rfl
theorem frozenM {W : World} {B : Nat} {c : Array Value} {t : TypeId} (h : W.heap[B]? = some (.cells c t (0, 0))) (i : Nat) : W.frozen? ⟨B, i, none⟩ = false := by
  unfold World.frozen?; rw [h]; simp

end Go.Proofs.YtoajommeiocfpaaDoor

/-
  What Check tells of programs of registers, by its cases; what stands while the instructions are gone through. No condition but those that each names.
-/
import Derived.Test.YtoajommeiocfpaaDoorMirMem
import Derived.RangeFuncRecord
namespace Go.Proofs.YtoajommeiocfpaaDoor
open Go Go.RowKit
set_option linter.unusedSimpArgs false
set_option linter.unusedVariables false

/-- What a look at a whole program leaves. -/
def ChkMP (regs : Int) (q : Nat → Irx) (n : Nat) (w : World) (e : Ending) (w' : World) : Prop := e = .returned (.tuple #[.int .i64 (chkE regs q n), .int .i64 (chkP regs q n : Int)]) ∧ Below w.heap.size w w'
section
variable (regs : Int) (A : Option Addr) (n cap : Nat) (q : Nat → Irx) (w : World)
theorem chk_regs (h : regs < 1 ∨ 64 < regs) : chkE regs q n = 121 ∧ chkP regs q n = 0 := ⟨by unfold chkE; rw [if_pos h], by unfold chkP; rw [if_pos h]⟩
theorem chk_len (h : ¬ (regs < 1 ∨ 64 < regs)) (h2 : n = 0 ∨ 65536 < n) : chkE regs q n = 122 ∧ chkP regs q n = 0 := ⟨by unfold chkE; rw [if_neg h, if_pos h2], by unfold chkP; rw [if_neg h, if_pos h2]⟩
theorem chk_first (h : ¬ (regs < 1 ∨ 64 < regs)) (h2 : ¬ (n = 0 ∨ 65536 < n)) {k : Nat} (hk : k < n) (hj : ∀ j, j < k → oneM regs n (q j) j = 0) (hb : oneM regs n (q k) k ≠ 0) : chkE regs q n = oneM regs n (q k) k ∧ chkP regs q n = k := by
  have hf := firstM_some hk hj hb
  exact ⟨by unfold chkE; rw [if_neg h, if_neg h2, hf], by unfold chkP; rw [if_neg h, if_neg h2, hf]⟩
theorem chk_last (h : ¬ (regs < 1 ∨ 64 < regs)) (h2 : ¬ (n = 0 ∨ 65536 < n)) (hj : ∀ j, j < n → oneM regs n (q j) j = 0) : chkE regs q n = (if (q (n - 1)).op = 19 then 0 else 127) ∧ chkP regs q n = (if (q (n - 1)).op = 19 then 0 else n - 1) := by
  have hf := firstM_none hj
  exact ⟨by unfold chkE; rw [if_neg h, if_neg h2, hf], by unfold chkP; rw [if_neg h, if_neg h2, hf]⟩
/-- What stands while the instructions are gone through. -/
abbrev FM (w W : World) (regs : Int) (A : Option Addr) (n cap : Nat) (q : Nat → Irx) : Prop := IrAt W A n q ∧ Below w.heap.size w W ∧ W.heap[w.heap.size]? = some (mirO regs A n cap)
theorem FM.up {w W W' : World} {regs : Int} {A : Option Addr} {n cap : Nat} {q : Nat → Irx} (h : FM w W regs A n cap q) (hb : Below W.heap.size W W') : FM w W' regs A n cap q := ⟨h.1.below hb, onM h.2.1 hb, keepM h.2.2 hb⟩
theorem FM.first {w : World} {regs : Int} {A : Option Addr} {n cap : Nat} {q : Nat → Irx} (h : IrAt w A n q) : FM w (w.alloc (mirO regs A n cap)) regs A n cap q := ⟨h.below (lboxM w _), lboxM w _, World.alloc_heap_new w _⟩
end
end Go.Proofs.YtoajommeiocfpaaDoor

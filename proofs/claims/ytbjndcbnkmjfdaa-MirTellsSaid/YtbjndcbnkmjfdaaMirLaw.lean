/-
  What stands while a law of layer 12 goes on: the argument in its box, the lent program in its own, the mark behind it. No condition but those that each names.
-/
import Derived.Test.YtbjndcbnkmjfdaaMirHead
import Derived.Test.YtbjndcbnkmjfdaaMirLent
import Derived.Test.YtbjndcbnkmjfdaaMirArg
namespace Go.Proofs.Ytbjndcbnkmjfdaa
open Go Go.RowKit
set_option linter.unusedSimpArgs false
set_option linter.unusedVariables false

abbrev SL (w W : World) (regs : Int) (A : Option Addr) (n cap g cap' bx : Nat) (q : Nat → Irx) : Prop :=
  FM w W regs A n cap q ∧ IrAt W (some ⟨g, 0, none⟩) n q ∧ W.cell? ⟨g, n * 7, none⟩ = some (.int .i64 77) ∧ g < W.heap.size ∧ W.heap[bx]? = some (mirO regs (some ⟨g, 0, none⟩) n cap')
theorem SL.up {w W W' : World} {regs : Int} {A : Option Addr} {n cap g cap' bx : Nat} {q : Nat → Irx} (h : SL w W regs A n cap g cap' bx q) (hb : Below W.heap.size W W') : SL w W' regs A n cap g cap' bx q :=
  ⟨h.1.up hb, h.2.1.below hb, (hb.cell (p := ⟨g, n * 7, none⟩) h.2.2.2.1).trans h.2.2.1, Nat.lt_of_lt_of_le h.2.2.2.1 hb.size, keepM h.2.2.2.2 hb⟩
theorem SL.first {w w1 w2 : World} {regs : Int} {A : Option Addr} {n cap g cap' : Nat} {q : Nat → Irx} (h : FM w w1 regs A n cap q) (hl : LentM w1 w2 g cap' n q) : SL w (w2.alloc (mirO regs (some ⟨g, 0, none⟩) n cap')) regs A n cap g cap' w2.heap.size q :=
  have hb := lboxM w2 (mirO regs (some ⟨g, 0, none⟩) n cap')
  ⟨(h.up hl.bel).up hb, hl.prog.below hb, (hb.cell (p := ⟨g, n * 7, none⟩) hl.lt).trans hl.mark, Nat.lt_of_lt_of_le hl.lt hb.size, World.alloc_heap_new w2 _⟩
theorem dat_of_row {w : World} {a : Option Addr} {len cap : Nat} {zs : List Int} (h : IsRow .u8 w a len cap zs) : DatAt w a len (fun i => zs.getD i 0) := fun h64 => by
  obtain ⟨b, off, rfl, hl, hc⟩ := holds_of_isRow h (by omega)
  exact ⟨b, off, rfl, hl, isRow_byte h, fun i hi => hc i (by omega)⟩
theorem dat_of_holds {w : World} {A : Option Addr} {len : Nat} {z : Nat → Int} (h : Holds w A len (fun i => .int .u8 (z i))) (hz : ∀ i, 0 ≤ z i ∧ z i < 256) : DatAt w A len z := fun h64 => by
  obtain ⟨b, off, rfl, hl, hc⟩ := h (by omega)
  exact ⟨b, off, rfl, hl, hz, fun i hi => hc i (by omega)⟩
end Go.Proofs.Ytbjndcbnkmjfdaa

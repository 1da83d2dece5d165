/-
  Tokens in memory, and the document's Same of two lists that are the same: a contract. Conditions: those that it names.
-/
import Derived.Test.YtgeapkjegemkeaaGreatDoorLexToks
import Derived.Test.YtgeapkjegemkeaaGreatDoorMemory
namespace Go.Proofs.YtgeapkjegemkeaaGreatDoor
open Go Go.RowKit
set_option linter.unusedSimpArgs false
set_option linter.unusedVariables false

/-- A token's four cells. -/
def TokCells (w : World) (b o : Nat) (x : Nx) : Prop := w.cell? ⟨b, o, none⟩ = some (.int .i64 x.kind) ∧ w.cell? ⟨b, o + 1, none⟩ = some (.string x.text) ∧ w.cell? ⟨b, o + 2, none⟩ = some (.int .u64 (x.num : Int)) ∧ w.cell? ⟨b, o + 3, none⟩ = some (.int .i64 (x.pos : Int))
theorem TokCells.below {w w' : World} {B b o : Nat} {x : Nx} (h : TokCells w b o x) (hb : Below B w w') (hlt : b < B) : TokCells w' b o x :=
  ⟨(hb.cell (p := ⟨b, o, none⟩) hlt).trans h.1, (hb.cell (p := ⟨b, o + 1, none⟩) hlt).trans h.2.1, (hb.cell (p := ⟨b, o + 2, none⟩) hlt).trans h.2.2.1, (hb.cell (p := ⟨b, o + 3, none⟩) hlt).trans h.2.2.2⟩
/-- A list of n tokens lies from A on. -/
def TokAt (w : World) (A : Option Addr) (n : Nat) (f : Nat → Nx) : Prop := 0 < n → ∃ b o, A = some ⟨b, o, none⟩ ∧ b < w.heap.size ∧ ∀ i, i < n → TokCells w b (o + i * 4) (f i)
theorem TokAt.below {w w' : World} {A : Option Addr} {n : Nat} {f : Nat → Nx} (h : TokAt w A n f) (hb : Below w.heap.size w w') : TokAt w' A n f := fun hn => by
  obtain ⟨b, o, rfl, hl, hc⟩ := h hn
  exact ⟨b, o, rfl, Nat.lt_of_lt_of_le hl hb.size, fun i hi => (hc i hi).below hb hl⟩
theorem text_ne {s t : ByteArray} (h : ¬ s = t) : (s.toList == t.toList) = false := by
  refine beq_false_of_ne fun e => h ?_
  rw [ByteArray.toList_eq, ByteArray.toList_eq] at e
  cases s; cases t
  simp only [ByteArray.mk.injEq] at *
  exact Array.toList_inj.1 e
end Go.Proofs.YtgeapkjegemkeaaGreatDoor

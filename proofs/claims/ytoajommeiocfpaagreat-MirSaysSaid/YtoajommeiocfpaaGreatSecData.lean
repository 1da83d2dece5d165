/-
  What the functions of package secdata on data answer, and the document's: contracts. Conditions: those that each contract names.
-/
import Derived.Test.YtoajommeiocfpaaGreatWordStore
import Derived.Test.YtoajommeiocfpaaGreatSecCode
import Derived.Laws.ResultCell
namespace Go.Proofs.YtoajommeiocfpaaGreat
open Go Go.RowKit
set_option linter.unusedSimpArgs false
set_option linter.unusedVariables false

/-- Byte k of the data. -/
def dbyte (nr arch ip : Int) (a : Nat → Int) (k : Nat) : Int :=
  if k < 4 then byteI nr k else if k < 8 then byteI arch (k - 4) else if k < 16 then byteI ip (k - 8) else byteI (a ((k - 16) / 8)) ((k - 16) % 8)
/-- The data's nine cells. -/
def Box (w : World) (b : Nat) (nr arch ip : Int) (a : Nat → Int) : Prop :=
  b < w.heap.size ∧ w.cell? ⟨b, 0, none⟩ = some (.int .u32 nr) ∧ w.cell? ⟨b, 1, none⟩ = some (.int .u32 arch) ∧ w.cell? ⟨b, 2, none⟩ = some (.int .u64 ip) ∧ ∀ i, i < 6 → w.cell? ⟨b, 3 + i, none⟩ = some (.int .u64 (a i))
theorem Box.below {w w' : World} {B b : Nat} {nr arch ip : Int} {a : Nat → Int} (h : Box w b nr arch ip a) (hb : Below B w w') (hlt : b < B) : Box w' b nr arch ip a :=
  ⟨Nat.lt_of_lt_of_le h.1 hb.size, (hb.cell (p := ⟨b, 0, none⟩) hlt).trans h.2.1, (hb.cell (p := ⟨b, 1, none⟩) hlt).trans h.2.2.1, (hb.cell (p := ⟨b, 2, none⟩) hlt).trans h.2.2.2.1, fun i hi => (hb.cell (p := ⟨b, 3 + i, none⟩) hlt).trans (h.2.2.2.2 i hi)⟩
theorem Box.grown {w w' : World} {b g : Nat} {nr arch ip : Int} {a : Nat → Int} (h : Box w b nr arch ip a) (hb : w.grownBy w' (some g)) (hne : b ≠ g) : Box w' b nr arch ip a :=
  have hn : some b ≠ some g := fun e => hne (by injection e)
  ⟨Nat.lt_of_lt_of_le h.1 hb.size, hb.cell h.2.1 hn, hb.cell h.2.2.1 hn, hb.cell h.2.2.2.1 hn, fun i hi => hb.cell (h.2.2.2.2 i hi) hn⟩
/-- How far the bytes have been laid, while they are laid. -/
def Laying (w wr : World) (g n : Nat) (nr arch ip : Int) (a : Nat → Int) : Prop :=
  Box wr w.heap.size nr arch ip a ∧ (∃ F, wr.rowIs g 5 64 F ∧ ∀ j, j < n → F j = .int .u8 (dbyte nr arch ip a j)) ∧ Below w.heap.size w wr ∧ w.heap.size < g
theorem Laying.drawn {w wr : World} {g n : Nat} {nr arch ip : Int} {a : Nat → Int} (h : Laying w wr g n nr arch ip a) (N : Nat) : Laying w (wr.drewN N) g n nr arch ip a :=
  ⟨h.1, h.2.1, below_drawn h.2.2.1 N, h.2.2.2⟩
theorem Laying.drew {w wr : World} {g n : Nat} {nr arch ip : Int} {a : Nat → Int} (h : Laying w wr g n nr arch ip a) : Laying w wr.drew g n nr arch ip a :=
  ⟨h.1, h.2.1, h.2.2.1.drew, h.2.2.2⟩
end Go.Proofs.YtoajommeiocfpaaGreat

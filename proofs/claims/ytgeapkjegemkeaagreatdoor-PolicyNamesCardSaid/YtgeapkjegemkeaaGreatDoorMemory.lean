/-
  Plain laws on memory that this seat's walks share: rows of bytes that came in, rows that the call itself made, what append leaves, and what a conversion of bytes to a string answers. No condition but those that each names.
-/
import Derived.Test.YtgeapkjegemkeaaGreatDoorFrame
import Derived.Lib.Hide
import Derived.WalkSpells
import Derived.WalkLawsBesides
import Derived.Maps.AppendAt
import Derived.Deep.AppendLies
import Derived.Deep.OwnRows
import Derived.Laws.BytesArg
import Derived.StillTailTactics
import Derived.SizedLaws
namespace Go.Proofs.YtgeapkjegemkeaaGreatDoor
open Go Go.RowKit
set_option linter.unusedSimpArgs false
set_option linter.unusedVariables false

/-- The first n places from address A on read as f says: nothing is said of A where n is 0. -/
def Holds (w : World) (A : Option Addr) (n : Nat) (f : Nat → Value) : Prop :=
  0 < n → ∃ b off, A = some ⟨b, off, none⟩ ∧ b < w.heap.size ∧ ∀ i, i < n → w.cell? ⟨b, off + i, none⟩ = some (f i)

theorem Holds.below {w w' : World} {A : Option Addr} {n : Nat} {f : Nat → Value} (h : Holds w A n f) (hb : Below w.heap.size w w') : Holds w' A n f := fun hn => by
  obtain ⟨b, off, e, hl, hc⟩ := h hn
  exact ⟨b, off, e, Nat.lt_of_lt_of_le hl hb.size, fun i hi => (hb.cell (p := ⟨b, off + i, none⟩) hl).trans (hc i hi)⟩

theorem rowIs_below {w w' : World} {B b : Nat} {t : TypeId} {n : Nat} {f : Nat → Value} (h : w.rowIs b t n f) (hb : Below B w w') (hlt : b < B) : w'.rowIs b t n f :=
  h.of_block (hb.block b hlt)
theorem grown_set {a w : World} {g : Nat} (h : a.grownBy w (some g)) (i : Nat) (u : Value) : a.grownBy (w.setCell ⟨g, i, none⟩ u) (some g) :=
  ⟨h.os, h.tape, h.output, by simpa [World.setCell] using h.size, fun k hk hne => (Below.heap_setCell w ⟨g, i, none⟩ u k (fun e => hne (by rw [e]))).trans (h.block k hk hne)⟩
theorem grown_trans {a b c : World} {row : Option Nat} (h : a.grownBy b row) (k : b.grownBy c row) : a.grownBy c row :=
  ⟨k.os.trans h.os, k.tape.trans h.tape, k.output.trans h.output, Nat.le_trans h.size k.size, fun i hi hne => (k.block i (Nat.lt_of_lt_of_le hi h.size) hne).trans (h.block i hi hne)⟩
theorem grown_of_below {a w : World} (h : Below a.heap.size a w) (row : Option Nat) : a.grownBy w row := ⟨h.os, h.tape, h.output, h.size, fun i hi _ => h.block i hi⟩
theorem Holds.congr {w : World} {A : Option Addr} {n : Nat} {f g : Nat → Value} (h : Holds w A n f) (e : ∀ i, i < n → f i = g i) : Holds w A n g := fun hn => by
  obtain ⟨b, off, e', hl, hc⟩ := h hn
  exact ⟨b, off, e', hl, fun i hi => by rw [hc i hi, e i hi]⟩
theorem Holds.grown {w w' : World} {A : Option Addr} {n : Nat} {f : Nat → Value} {row : Option Nat} (h : Holds w A n f) (hg : w.grownBy w' row) (hne : ∀ ad, A = some ad → some ad.block ≠ row) : Holds w' A n f := fun hn => by
  obtain ⟨b, off, e, hl, hc⟩ := h hn
  exact ⟨b, off, e, Nat.lt_of_lt_of_le hl hg.size, fun i hi => (World.cell?_of_block (a := ⟨b, off + i, none⟩) (hg.block b hl (hne _ e))).trans (hc i hi)⟩
end Go.Proofs.YtgeapkjegemkeaaGreatDoor

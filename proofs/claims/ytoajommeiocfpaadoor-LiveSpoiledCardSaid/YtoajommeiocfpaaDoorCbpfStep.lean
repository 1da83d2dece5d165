/-
  What the document's Step of classic BPF does to its machine: a contract, for every program and all data. Conditions: those that it names.
-/
import Derived.Test.YtoajommeiocfpaaDoorCbpfMoves
namespace Go.Proofs.YtoajommeiocfpaaDoor
open Go Go.RowKit
set_option linter.unusedSimpArgs false
set_option linter.unusedVariables false

/-- Instruction i's four cells. -/
def InsCells (w : World) (b o : Nat) (i : Ins) : Prop := w.cell? ⟨b, o, none⟩ = some (.int .u16 i.code) ∧ w.cell? ⟨b, o + 1, none⟩ = some (.int .u8 (i.jt : Int)) ∧ w.cell? ⟨b, o + 2, none⟩ = some (.int .u8 (i.jf : Int)) ∧ w.cell? ⟨b, o + 3, none⟩ = some (.int .u32 (i.k.toNat : Int))
theorem InsCells.below {w w' : World} {B b o : Nat} {i : Ins} (h : InsCells w b o i) (hb : Below B w w') (hlt : b < B) : InsCells w' b o i :=
  ⟨(hb.cell (p := ⟨b, o, none⟩) hlt).trans h.1, (hb.cell (p := ⟨b, o + 1, none⟩) hlt).trans h.2.1, (hb.cell (p := ⟨b, o + 2, none⟩) hlt).trans h.2.2.1, (hb.cell (p := ⟨b, o + 3, none⟩) hlt).trans h.2.2.2⟩
theorem InsCells.grown {w w' : World} {b g o : Nat} {i : Ins} (h : InsCells w b o i) (hb : w.grownBy w' (some g)) (hne : b ≠ g) : InsCells w' b o i :=
  have hn : some b ≠ some g := fun e => hne (by injection e)
  ⟨hb.cell h.1 hn, hb.cell h.2.1 hn, hb.cell h.2.2.1 hn, hb.cell h.2.2.2 hn⟩
/-- A program's n instructions lie from A on. -/
def ProgAt (w : World) (A : Option Addr) (n : Nat) (q : Nat → Ins) : Prop := 0 < n → ∃ qb qo, A = some ⟨qb, qo, none⟩ ∧ qb < w.heap.size ∧ ∀ i, i < n → InsCells w qb (qo + i * 4) (q i)
theorem ProgAt.below {w w' : World} {A : Option Addr} {n : Nat} {q : Nat → Ins} (h : ProgAt w A n q) (hb : Below w.heap.size w w') : ProgAt w' A n q := fun hn => by
  obtain ⟨qb, qo, rfl, hl, hc⟩ := h hn
  exact ⟨qb, qo, rfl, Nat.lt_of_lt_of_le hl hb.size, fun i hi => (hc i hi).below hb hl⟩
theorem ProgAt.grown {w w' : World} {A : Option Addr} {n g : Nat} {q : Nat → Ins} (h : ProgAt w A n q) (hb : w.grownBy w' (some g)) (hne : ∀ ad, 0 < n → A = some ad → ad.block ≠ g) : ProgAt w' A n q := fun hn => by
  obtain ⟨qb, qo, rfl, hl, hc⟩ := h hn
  exact ⟨qb, qo, rfl, Nat.lt_of_lt_of_le hl hb.size, fun i hi => (hc i hi).grown hb (hne _ hn rfl)⟩

section
variable (w : World) (b : Nat) (qa : Option Addr) (n qcap : Nat) (q : Nat → Ins) (da : Option Addr) (dlen dcap : Nat) (z : Nat → Int) (s : Mach)

end
end Go.Proofs.YtoajommeiocfpaaDoor

/-
  The reach of a slice of structs; a slice of slices of bytes that came in. No condition.
-/
import Derived.Test.YtoajommeiocfpaaGreatFrame
import Derived.SizedLaws
import Derived.ChangeSlices
namespace Go.Proofs.YtoajommeiocfpaaGreat
open Go Go.RowKit Go.Deep
section
variable {H : Type} {enc : TypeId × Value → H} {P : Program} {w : World} {base : Nat} {spare : Nat → Bool} {held : Bool}
theorem rows_sized {t e : TypeId} {fuel : Nat} {cs : List Value} {x : DataW H × List MemPlace} (ht : P.underlying t = some (.slice e)) (h : DataW.trod enc P w base spare held fuel t cs = some x) :
    cs = [.slice none 0 0] ∨ ∃ (a : Addr) (len cap : Nat) (elems rest : List (DataW H)), cs = [.slice (some a) len cap] ∧ x.1 = .slice elems rest ∧ len ≤ elems.length + rest.length := by
  rcases open_slice ht h with ⟨h0, _⟩ | ⟨a, len, cap, m, _, D, Pl, hcs, _, hl, hm, hmm, hx, hi⟩
  · exact .inl h0
  · refine .inr ⟨a, len, cap, _, _, hcs, by rw [hx], ?_⟩
    simp
end
end Go.Proofs.YtoajommeiocfpaaGreat
namespace Go.Proofs.YtoajommeiocfpaaGreat
open Go Go.ChangeShapes Go.WideShapes Go.ChangeAt Go.Deep
set_option linter.unusedSimpArgs false
set_option linter.unusedVariables false

def BysAt (w : World) (a : Option Addr) (len : Nat) : Prop :=
  (a = none ∧ len = 0) ∨
  ∃ x, a = some x ∧ len ≤ maxLen ∧ ∀ i, i < len → ∃ A l c zs, w.cell? (x.add i) = some (.slice A l c) ∧ IsRow .u8 w A l c zs
section
variable {H : Type} {enc : TypeId × Value → H} {P : Program} {w : World} {base : Nat} {held : Bool}
theorem rows_bytes {t e b : TypeId} {fuel : Nat} {cs : List Value} {x : DataW H × List MemPlace} (ht : P.underlying t = some (.slice e)) (he : P.underlying e = some (.slice b)) (hb : P.underlying b = some (.int .u8)) (hc : P.cellsOf b = 1) (hC : P.cellsOf e = 1)
    (h : DataW.trod enc P w base (fun _ => true) held fuel t cs = some x) :
    cs = [.slice none 0 0] ∨ ∃ (a : Addr) (len cap : Nat), cs = [.slice (some a) len cap] ∧ len ≤ cap ∧ cap ≤ maxLen ∧
      ∀ i, i < len → ∃ A l c zs, w.cell? (a.add i) = some (.slice A l c) ∧ IsRow .u8 w A l c zs := by
  rcases open_slice ht h with ⟨h0, _⟩ | ⟨a, len, cap, m, _, D, Pl, hcs, _, hl, hm, hmm, _, hi⟩
  · exact .inl h0
  · refine .inr ⟨a, len, cap, hcs, hl, hm, fun i hil => ?_⟩
    obtain ⟨ds, hcl, hd⟩ := hi i (by rw [hmm]; split <;> omega)
    obtain ⟨_, hlen, hat⟩ := World.cells?_some hcl
    have hcell := hat 0 (by rw [hC]; omega)
    rcases open_ints he hb hc hd with ⟨h0, _⟩ | ⟨x', l, c, zs, h0, _, hll, hmm', hz, _, hce, hw⟩
    · subst h0
      refine ⟨none, 0, 0, [], ?_, .inl ⟨rfl, rfl, rfl, rfl⟩⟩
      rw [hC, Nat.mul_one] at hcell
      simpa [Addr.add] using hcell
    · subst h0
      refine ⟨some x', l, c, zs, ?_, .inr ⟨x', rfl, hll, hmm', by simpa using hz, hce, hw⟩⟩
      rw [hC, Nat.mul_one] at hcell
      simpa [Addr.add] using hcell
end
end Go.Proofs.YtoajommeiocfpaaGreat

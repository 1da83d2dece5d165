/-
  A slice that came in, of elements of any type: its length is no more than what the statement's own reach was counted of. No condition.
-/
import Derived.Test.YtoajommeiocfpaaDoorFrame
import Derived.SizedLaws
namespace Go.Proofs.YtoajommeiocfpaaDoor
open Go Go.RowKit Go.Deep
section
variable {H : Type} {enc : TypeId × Value → H} {P : Program} {w : World} {base : Nat} {spare : Nat → Bool} {held : Bool}
theorem rows_sized {t e : TypeId} {fuel : Nat} {cs : List Value} {x : DataW H × List MemPlace} (ht : P.underlying t = some (.slice e)) (h : DataW.trod enc P w base spare held fuel t cs = some x) :
    cs = [.slice none 0 0] ∨ ∃ (a : Addr) (len cap : Nat) (elems rest : List (DataW H)), cs = [.slice (some a) len cap] ∧ x.1 = .slice elems rest ∧ len ≤ elems.length + rest.length := by
  rcases open_slice ht h with ⟨h0, _⟩ | ⟨a, len, cap, m, _, D, Pl, hcs, _, hl, hm, hmm, hx, hi⟩
  · exact .inl h0
  · refine .inr ⟨a, len, cap, _, _, hcs, by rw [hx], ?_⟩
    simp
end
end Go.Proofs.YtoajommeiocfpaaDoor

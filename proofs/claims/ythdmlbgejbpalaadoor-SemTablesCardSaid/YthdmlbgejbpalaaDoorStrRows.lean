/-
  A slice of strings that came in: where its strings lie. No condition.
-/
import Derived.Test.YthdmlbgejbpalaaDoorMemory
import Derived.SliceStrings
import Derived.ChangeMaps5
namespace Go.Proofs.YthdmlbgejbpalaaDoor
open Go Go.RowKit
set_option linter.unusedSimpArgs false
set_option linter.unusedVariables false

/-- It is empty; or each string lies in its cell, and is no longer than strings may be. -/
def StrRow (w : World) (a : Option Addr) (len : Nat) (f : Nat → ByteArray) : Prop :=
  len = 0 ∨ ∃ b o, a = some ⟨b, o, none⟩ ∧ b < w.heap.size ∧ len ≤ maxLen ∧ ∀ i, i < len → w.cell? ⟨b, o + i, none⟩ = some (.string (f i)) ∧ (f i).size ≤ maxLen
theorem str_row {w : World} {x : Addr} {len cap : Nat} {ss : List ByteArray} (hl : len ≤ cap) (hm : cap ≤ maxLen) (hlen : len ≤ ss.length) (hcell : ∀ i, i < ss.length → w.cell? (x.add i) = some (.string (ss.getD i ByteArray.empty))) (hw : ∀ s ∈ ss, s.size ≤ maxLen) :
    StrRow w (some x) len (fun i => ss.getD i ByteArray.empty) := by
  rcases Nat.eq_zero_or_pos len with h0 | h0
  · exact .inl h0
  · obtain ⟨b, o, spot⟩ := x
    have h := hcell 0 (by omega)
    have hspot : spot = none := by simpa [Addr.add] using World.cell?_spot h
    subst hspot
    have hc : ∀ i, i < ss.length → w.cell? ⟨b, o + i, none⟩ = some (.string (ss.getD i ByteArray.empty)) := fun i hi => by rw [← addr_add]; exact hcell i hi
    exact .inr ⟨b, o, rfl, cell_lt (hc 0 (by omega)), by omega, fun i hi => ⟨hc i (by omega), hw _ (show ss.getD i ByteArray.empty ∈ ss by rw [List.getD_eq_getElem?_getD, List.getElem?_eq_getElem (show i < ss.length by omega)]; exact List.getElem_mem _)⟩⟩
end Go.Proofs.YthdmlbgejbpalaaDoor

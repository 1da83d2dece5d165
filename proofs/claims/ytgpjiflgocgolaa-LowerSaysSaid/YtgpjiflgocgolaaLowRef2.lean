/-
  The document's sizes, places and jumps of nodes: contracts. Conditions: those that each names.
-/
import Derived.Test.YtgpjiflgocgolaaLowPrg
namespace Go.Proofs.Ytgpjiflgocgolaa
open Go Go.RowKit
set_option linter.unusedSimpArgs false
set_option linter.unusedVariables false

/-- Cells of a row of one's own. -/
theorem own_cells {w : World} {B : Nat} {e : TypeId} {sz : Nat} {v : Value} {n : Nat} {xs : List Value} (h : w.ownsRow B e sz v n xs) (hn : 0 < n) : ∃ g c, v = .slice (some ⟨g, 0, none⟩) n c ∧ B ≤ g ∧ g < w.heap.size ∧ n ≤ c ∧ ∀ i u, xs[i]? = some u → w.cell? ⟨g, i, none⟩ = some u := by
  obtain ⟨h1, h⟩ := h
  rcases h with ⟨rfl, rfl⟩ | ⟨g, c, cur, rfl, hB, hg, hc, hm, hs, ht⟩
  · omega
  · refine ⟨g, c, rfl, hB, (Array.getElem?_eq_some_iff.1 hg).1, hc, fun i u hu => ?_⟩
    rw [← ht] at hu
    rw [List.getElem?_take] at hu
    split at hu
    · unfold World.cell?; rw [hg]
      simpa using hu
    · cases hu
end Go.Proofs.Ytgpjiflgocgolaa

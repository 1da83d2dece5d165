/-
  The document's sizes, places and jumps of nodes: contracts. Conditions: those that each names.
-/
import Derived.Test.YtfeeainhelegjaaGreatDoorLowPrg
namespace Go.Proofs.YtfeeainhelegjaaGreatDoor
open Go Go.RowKit
set_option linter.unusedSimpArgs false
set_option linter.unusedVariables false

/-- Where a test's jump stands behind the node's first instruction. -/
def jumpAt (x : Nd) : Nat := if x.mask = 4294967295 then 1 else 2
/-- Cells of a row of one's own. -/
theorem own_cells {w : World} {B : Nat} {e : TypeId} {sz : Nat} {v : Value} {n : Nat} {xs : List Value} (h : w.ownsRow B e sz v n xs) (hn : 0 < n) : ∃ g c, v = .slice (some ⟨g, 0, none⟩) n c ∧ B ≤ g ∧ g < w.heap.size ∧ n ≤ c ∧ ∀ i u, xs[i]? = some u → w.cell? ⟨g, i, none⟩ = some u := by
  obtain ⟨h1, h⟩ := h
  rcases h with ⟨rfl, rfl⟩ | ⟨g, c, cur, rfl, hB, hg, hc, hm, hs, ht⟩
  · omega
  · refine ⟨g, c, rfl, hB, (Array.getElem?_eq_some_iff.1 hg).1, hc, fun i u hu => ?_⟩
    rw [← ht] at hu
    rw [List.getElem?_take] at hu
    split at hu
    · unfold World.cell?; rw [hg]
      simpa using hu
    · cases hu
theorem own_one (W : World) (e : TypeId) (v : Value) : (W.alloc (.cells #[v] e)).ownsRow W.heap.size e 1 (.slice (some ⟨W.heap.size, 0, none⟩) 1 1) 1 [v] :=
  ⟨rfl, .inr ⟨W.heap.size, 1, #[v], rfl, Nat.le_refl _, World.alloc_heap_new W _, Nat.le_refl _, by unfold maxLen; omega, rfl, rfl⟩⟩
def firL (nd : Nat → Nd) (lg : Ways) (k : Nat) : List Value := (List.range k).map (fun i => Value.int .i64 (firstN nd lg i : Int))
theorem firL_succ (nd : Nat → Nd) (lg : Ways) (k : Nat) : firL nd lg (k + 1) = firL nd lg k ++ [.int .i64 (firstN nd lg k : Int)] := by
  unfold firL; rw [List.range_succ, List.map_append]; rfl
theorem firL_get (nd : Nat → Nd) (lg : Ways) {k i : Nat} (h : i < k) : (firL nd lg k)[i]? = some (.int .i64 (firstN nd lg i : Int)) := by
  unfold firL; rw [List.getElem?_map, List.getElem?_range h]; rfl
end Go.Proofs.YtfeeainhelegjaaGreatDoor

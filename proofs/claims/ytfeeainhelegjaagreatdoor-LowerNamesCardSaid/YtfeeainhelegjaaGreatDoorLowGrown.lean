/-
  Nodes with a chain of tests put ahead of them, as the statement makes them: some nodes again, in new memory. Conditions: those that each names.
-/
import Derived.Test.YtfeeainhelegjaaGreatDoorLowPrg
import Derived.Deep.DeepAppendWide
namespace Go.Proofs.YtfeeainhelegjaaGreatDoor
open Go Go.RowKit
set_option linter.unusedSimpArgs false
set_option linter.unusedVariables false

theorem u32_wrapG (z : Int) : IntKind.u32.wrap z = (u32N z : Int) := by
  unfold u32N
  have : IntKind.u32.wrap z = z % 4294967296 := rfl
  rw [this]; omega
def ndL (l : List Nd) : List Value := l.flatMap ndC
theorem ndL_append (a b : List Nd) : ndL (a ++ b) = ndL a ++ ndL b := List.flatMap_append
theorem ndL_get : ∀ (l : List Nd) (i j : Nat) (x : Nd), l[i]? = some x → j < 8 → (ndL l)[i * 8 + j]? = (ndC x)[j]?
  | [], i, j, x, h, _ => by cases h
  | y :: t, 0, j, x, h, hj => by
    have : y = x := by simpa using h
    subst this
    unfold ndL
    rw [List.flatMap_cons, Nat.zero_mul, Nat.zero_add, List.getElem?_append_left (by show j < 8; exact hj)]
  | y :: t, i + 1, j, x, h, hj => by
    have h' : t[i]? = some x := by simpa using h
    have ih := ndL_get t i j x h' hj
    unfold ndL at ih ⊢
    rw [List.flatMap_cons, List.getElem?_append_right (by show 8 ≤ (i + 1) * 8 + j; omega)]
    have e : (i + 1) * 8 + j - (ndC y).length = i * 8 + j := by show (i + 1) * 8 + j - 8 = _; omega
    rw [e]; exact ih
def ndZ : Nd := ⟨true, 0, 0, 0, 0, 0, 0, 0⟩
theorem nd_of_own {w : World} {B : Nat} {A : Option Addr} {m c : Nat} {l : List Nd} (h : w.ownsRow B 26 8 (.slice A m c) m (ndL l)) (hl : l.length = m) (hm : m ≤ 4000000000000) : NdAt w A m (fun i => l.getD i ndZ) := by
  refine ⟨by unfold maxLen; omega, fun hp => ?_⟩
  obtain ⟨h1, h⟩ := h
  rcases h with ⟨h, h0⟩ | ⟨g, c', cur, hv, hB, hg, hc, hmm, hs, ht⟩
  · omega
  · injection hv with hA _ hcc
    subst hA
    refine ⟨g, 0, rfl, (Array.getElem?_eq_some_iff.1 hg).1, fun i hi j u hj => ?_⟩
    have hj8 : j < 8 := (List.getElem?_eq_some_iff.1 hj).1
    have hx : l[i]? = some (l.getD i ndZ) := by
      rw [List.getD_eq_getElem?_getD, List.getElem?_eq_getElem (by omega)]; rfl
    have hq := ndL_get l i j _ hx hj8
    rw [hj, ← ht] at hq
    rw [List.getElem?_take] at hq
    rw [Nat.zero_add]
    split at hq
    · unfold World.cell?; rw [hg]
      simpa using hq
    · cases hq
theorem info_nd : (Tryz.prog.info? 26).map (fun i => (i.zero, i.size, i.bytes)) = some (some (.agg #[.bool false, .int .u32 0, .int .i64 0, .int .u32 0, .int .i64 0, .int .u32 0, .int .i64 0, .int .i64 0]), 8, 56) := by kernel_rfl
theorem nd_new (V : World) (x : Nd) : ∀ j u, (ndC x)[j]? = some u → (V.alloc (ndO x)).cell? ((⟨V.heap.size, 0, none⟩ : Addr).add j) = some u := fun j u hj => by
  rw [addr_add, Nat.zero_add]
  exact cellL (World.alloc_heap_new V (ndO x)) j (v := u) (by simpa using hj)
theorem nd_one (x : Nd) : ∀ u ∈ ndC x, u.oneCell' = true := fun u hu => by
  simp only [List.mem_cons, List.not_mem_nil, or_false] at hu
  rcases hu with rfl | rfl | rfl | rfl | rfl | rfl | rfl | rfl <;> rfl
end Go.Proofs.YtfeeainhelegjaaGreatDoor

/-
  Expressions in memory: which blocks they lie in, what keeps them. No condition: definitions and plain facts of memory.
-/
import Derived.Test.YtgeapkjegemkeaaGreatDoorPolPure
import Derived.Test.YtgeapkjegemkeaaGreatDoorRowsOwn
import Derived.Test.YtgeapkjegemkeaaGreatDoorMemory
namespace Go.Proofs.YtgeapkjegemkeaaGreatDoor
open Go Go.RowKit
set_option linter.unusedSimpArgs false
set_option linter.unusedVariables false

/-- An expression's six cells. -/
def exC (e : Ex) (A : Option Addr) (cap : Nat) : List Value := [.int .i64 e.op, .slice A e.args.length cap, .int .i64 e.field, .int .u64 (e.mask : Int), .int .i64 e.rel, .int .u64 (e.value : Int)]
/-- .. as a value. -/
abbrev exV (e : Ex) (A : Option Addr) (cap : Nat) : Value := .agg #[.int .i64 e.op, .slice A e.args.length cap, .int .i64 e.field, .int .u64 (e.mask : Int), .int .i64 e.rel, .int .u64 (e.value : Int)]
mutual
/-- Its arguments lie in blocks of F. -/
def ExIn (w : World) (F : Nat → Prop) : Ex → Option Addr → Nat → Prop
  | .mk _ l _ _ _ _, A, cap => (l = [] ∧ A = none ∧ cap = 0) ∨ (l ≠ [] ∧ ∃ tb, A = some ⟨tb, 0, none⟩ ∧ F tb ∧ tb < w.heap.size ∧ RowIn w F l tb 0)
/-- .. one behind the other, from a cell on. -/
def RowIn (w : World) (F : Nat → Prop) : List Ex → Nat → Nat → Prop
  | [], _, _ => True
  | e :: l, tb, o => (∃ A cap, ExIn w F e A cap ∧ ∀ j u, (exC e A cap)[j]? = some u → w.cell? ⟨tb, o + j, none⟩ = some u) ∧ RowIn w F l tb (o + 6)
end
mutual
theorem ExIn.keep {w w' : World} {F G : Nat → Prop} (hs : w.heap.size ≤ w'.heap.size) (hF : ∀ k, F k → G k) (hk : ∀ k, F k → k < w.heap.size → w'.heap[k]? = w.heap[k]?) : ∀ {e : Ex} {A : Option Addr} {cap : Nat}, ExIn w F e A cap → ExIn w' G e A cap
  | .mk _ l _ _ _ _, A, cap, h => by
    rcases h with h | ⟨hl, tb, hA, hf, ht, hr⟩
    · exact .inl h
    · exact .inr ⟨hl, tb, hA, hF tb hf, Nat.lt_of_lt_of_le ht hs, RowIn.keep hs hF hk hf ht hr⟩
theorem RowIn.keep {w w' : World} {F G : Nat → Prop} (hs : w.heap.size ≤ w'.heap.size) (hF : ∀ k, F k → G k) (hk : ∀ k, F k → k < w.heap.size → w'.heap[k]? = w.heap[k]?) {tb : Nat} (hf : F tb) (ht : tb < w.heap.size) : ∀ {l : List Ex} {o : Nat}, RowIn w F l tb o → RowIn w' G l tb o
  | [], _, _ => trivial
  | e :: l, o, h => by
    obtain ⟨⟨A, cap, h1, h2⟩, h3⟩ := h
    exact ⟨⟨A, cap, ExIn.keep hs hF hk h1, fun j u hj => (World.cell?_of_block (a := ⟨tb, o + j, none⟩) (hk tb hf ht)).trans (h2 j u hj)⟩, RowIn.keep hs hF hk hf ht h3⟩
end
mutual
/-- Where it lies it lies within the heap. -/
theorem ex_lt {w : World} {F : Nat → Prop} : ∀ {e : Ex} {A : Option Addr} {cap : Nat}, ExIn w F e A cap → ExIn w (fun k => F k ∧ k < w.heap.size) e A cap
  | .mk _ l _ _ _ _, A, cap, h => by
    rcases h with h | ⟨hl, tb, hA, hf, ht, hr⟩
    · exact .inl h
    · exact .inr ⟨hl, tb, hA, ⟨hf, ht⟩, ht, row_lt hr⟩
theorem row_lt {w : World} {F : Nat → Prop} {tb : Nat} : ∀ {l : List Ex} {o : Nat}, RowIn w F l tb o → RowIn w (fun k => F k ∧ k < w.heap.size) l tb o
  | [], _, _ => trivial
  | e :: l, o, h => by
    obtain ⟨⟨A, cap, h1, h2⟩, h3⟩ := h
    exact ⟨⟨A, cap, ex_lt h1, h2⟩, row_lt h3⟩
end
/-- A text of cells is several expressions. -/
def Chunks (w : World) (F : Nat → Prop) : List Ex → List Value → Prop
  | [], xs => xs = []
  | e :: l, xs => ∃ A cap ys, ExIn w F e A cap ∧ xs = exC e A cap ++ ys ∧ Chunks w F l ys
theorem Chunks.keep {w w' : World} {F G : Nat → Prop} (hs : w.heap.size ≤ w'.heap.size) (hF : ∀ k, F k → G k) (hk : ∀ k, F k → k < w.heap.size → w'.heap[k]? = w.heap[k]?) : ∀ {l : List Ex} {xs : List Value}, Chunks w F l xs → Chunks w' G l xs
  | [], _, h => h
  | e :: l, xs, ⟨A, cap, ys, h1, h2, h3⟩ => ⟨A, cap, ys, h1.keep hs hF hk, h2, h3.keep hs hF hk⟩
theorem Chunks.snoc {w : World} {F : Nat → Prop} {e : Ex} {A : Option Addr} {cap : Nat} (he : ExIn w F e A cap) : ∀ {l : List Ex} {xs : List Value}, Chunks w F l xs → Chunks w F (l ++ [e]) (xs ++ exC e A cap)
  | [], xs, h => by
    have : xs = [] := h
    subst this
    exact ⟨A, cap, [], he, by simp, rfl⟩
  | x :: l, xs, ⟨A', cap', ys, h1, h2, h3⟩ => ⟨A', cap', ys ++ exC e A cap, h1, by rw [h2, List.append_assoc], h3.snoc he⟩
theorem Chunks.one {w : World} {F : Nat → Prop} {e : Ex} {A : Option Addr} {cap : Nat} (he : ExIn w F e A cap) : Chunks w F [e] (exC e A cap) := ⟨A, cap, [], he, by simp, rfl⟩
theorem Chunks.length {w : World} {F : Nat → Prop} : ∀ {l : List Ex} {xs : List Value}, Chunks w F l xs → xs.length = l.length * 6
  | [], xs, h => by have : xs = [] := h; subst this; rfl
  | x :: l, xs, ⟨A, cap, ys, _, h2, h3⟩ => by
    have := h3.length
    rw [h2, List.length_append, this]
    simp only [exC, List.length_cons, List.length_nil]
    omega
theorem Chunks.row {w : World} {F : Nat → Prop} {tb : Nat} : ∀ {l : List Ex} {xs : List Value} {o : Nat}, Chunks w F l xs → (∀ j u, xs[j]? = some u → w.cell? ⟨tb, o + j, none⟩ = some u) → RowIn w F l tb o
  | [], _, _, _, _ => trivial
  | e :: l, xs, o, ⟨A, cap, ys, h1, h2, h3⟩, hc => by
    subst h2
    refine ⟨⟨A, cap, h1, fun j u hj => hc j u ?_⟩, h3.row (fun j u hj => ?_)⟩
    · have hlt : j < (exC e A cap).length := (List.getElem?_eq_some_iff.1 hj).1
      rw [List.getElem?_append_left hlt]; exact hj
    · have := hc (6 + j) u (by
        rw [List.getElem?_append_right (by simp [exC])]
        have : 6 + j - (exC e A cap).length = j := by simp [exC]
        rw [this]; exact hj)
      rw [show o + 6 + j = o + (6 + j) by omega]; exact this
theorem ex_one {e : Ex} {A : Option Addr} {cap : Nat} : ∀ u ∈ exC e A cap, u.oneCell' = true := by
  intro u hu
  simp only [exC, List.mem_cons, List.not_mem_nil, or_false] at hu
  rcases hu with rfl | rfl | rfl | rfl | rfl | rfl <;> rfl
end Go.Proofs.YtgeapkjegemkeaaGreatDoor

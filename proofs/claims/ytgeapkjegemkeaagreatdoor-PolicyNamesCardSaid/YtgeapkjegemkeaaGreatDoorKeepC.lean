/-
  What a round of a loop over an iterator keeps: whatever cells lie, but for a few blocks that are the caller's own. No condition.
-/
import Derived.Test.YtgeapkjegemkeaaGreatDoorMemory
import Derived.RangeFuncNested
import Derived.RangeFuncCalls
import Derived.RangeFuncLeaves
namespace Go.Proofs.YtgeapkjegemkeaaGreatDoor
open Go Go.RowKit
set_option linter.unusedSimpArgs false
set_option linter.unusedVariables false

/-- A block of a few cells: a variable's box, a struct's. -/
def few (o : Obj) : Bool := match o with
  | .cells c _ _ => decide (c.size ≤ 4)
  | _ => false
/-- A round keeps whatever block of a few cells lies, but for those of X. -/
structure KeepC (X : Nat → Prop) (W W' : World) : Prop where
  size : W.heap.size ≤ W'.heap.size
  same : ∀ k o, ¬ X k → W.heap[k]? = some o → few o = true → W'.heap[k]? = some o
section
variable {X : Nat → Prop} {W W' W'' : World}
theorem KeepC.refl (X : Nat → Prop) (W : World) : KeepC X W W := ⟨Nat.le_refl _, fun _ _ _ h _ => h⟩
theorem KeepC.trans (h : KeepC X W W') (k : KeepC X W' W'') : KeepC X W W'' := ⟨Nat.le_trans h.size k.size, fun j o hx ho hc => k.same j o hx (h.same j o hx ho hc) hc⟩
theorem KeepC.of_below (h : Below W.heap.size W W') : KeepC X W W' := ⟨h.size, fun j o _ ho _ => (h.block j (Array.getElem?_eq_some_iff.1 ho).1).trans ho⟩
theorem KeepC.alloc (o : Obj) : KeepC X W (W.alloc o) := .of_below ((Below.refl _ _).alloc (Nat.le_refl _) o)
theorem KeepC.drew : KeepC X W W.drew := ⟨Nat.le_refl _, fun _ _ _ h _ => h⟩
theorem KeepC.of_grown {row : Option Nat} (hg : W.grownBy W' row) (hr : ∀ r, row = some r → X r ∨ ∀ o, W.heap[r]? = some o → few o = false) : KeepC X W W' :=
  ⟨hg.size, fun j o hx ho hc => by
    refine (hg.block j (Array.getElem?_eq_some_iff.1 ho).1 (fun e => ?_)).trans ho
    rcases hr j e.symm with h | h
    · exact hx h
    · rw [h o ho] at hc; cases hc⟩
theorem KeepC.setCell {b o : Nat} (hb : X b) (u : Value) : KeepC X W (W.setCell ⟨b, o, none⟩ u) :=
  .of_grown (grown_set (World.grownBy.refl W (some b)) o u) (fun r e => by cases e; exact .inl hb)
theorem KeepC.box {b : Nat} {t : TypeId} {v : Value} (h : KeepC X W W') (hx : ¬ X b) (hb : Boxed W b t v) : Boxed W' b t v := h.same b _ hx hb rfl
end
theorem KeepC.mono {X Y : Nat → Prop} {W W' : World} (h : KeepC X W W') (hXY : ∀ k, X k → Y k) : KeepC Y W W' := ⟨h.size, fun k o hx ho hf => h.same k o (fun g => hx (hXY k g)) ho hf⟩
end Go.Proofs.YtgeapkjegemkeaaGreatDoor

/-
  What a step of the program's machine of registers does: contracts. Conditions: those that each names.
-/
import Derived.Test.YtoajommeiocfpaaDoorMirMach
import Derived.Deep.Cut
namespace Go.Proofs.YtoajommeiocfpaaDoor
open Go Go.RowKit
set_option linter.unusedSimpArgs false
set_option linter.unusedVariables false
set_option maxRecDepth 100000

/-- From one world to another: only two blocks are turned. -/
structure Mv (W W' : World) (mb g : Nat) : Prop where
  os : W'.os = W.os
  tape : W'.tape = W.tape
  output : W'.output = W.output
  size : W.heap.size ≤ W'.heap.size
  block : ∀ k, k < W.heap.size → k ≠ mb → k ≠ g → W'.heap[k]? = W.heap[k]?
theorem Mv.of {W W' : World} {mb g : Nat} (h : Below W.heap.size W W') : Mv W W' mb g := ⟨h.os, h.tape, h.output, h.size, fun k hk _ _ => h.block k hk⟩
theorem Mv.up {W W' W2 : World} {mb g : Nat} (h : Mv W W' mb g) (hb : Below W'.heap.size W' W2) : Mv W W2 mb g := ⟨hb.os.trans h.os, hb.tape.trans h.tape, hb.output.trans h.output, Nat.le_trans h.size hb.size, fun k hk h1 h2 => (hb.block k (Nat.lt_of_lt_of_le hk h.size)).trans (h.block k hk h1 h2)⟩
theorem Mv.setm {W W' : World} {mb g : Nat} (h : Mv W W' mb g) (i : Nat) (v : Value) : Mv W (W'.setCell ⟨mb, i, none⟩ v) mb g := ⟨h.os, h.tape, h.output, by simpa [World.setCell] using h.size, fun k hk h1 h2 => (Below.heap_setCell W' ⟨mb, i, none⟩ v k h1).trans (h.block k hk h1 h2)⟩
theorem Mv.setg {W W' : World} {mb g : Nat} (h : Mv W W' mb g) (i : Nat) (v : Value) : Mv W (W'.setCell ⟨g, i, none⟩ v) mb g := ⟨h.os, h.tape, h.output, by simpa [World.setCell] using h.size, fun k hk h1 h2 => (Below.heap_setCell W' ⟨g, i, none⟩ v k h2).trans (h.block k hk h1 h2)⟩
theorem Mv.below {w W W' : World} {mb g : Nat} (h : Mv W W' mb g) (hb : Below w.heap.size w W) (h1 : w.heap.size ≤ mb) (h2 : w.heap.size ≤ g) : Below w.heap.size w W' :=
  ⟨h.os.trans hb.os, h.tape.trans hb.tape, h.output.trans hb.output, Nat.le_trans hb.size h.size, fun k hk => (h.block k (Nat.lt_of_lt_of_le hk hb.size) (by omega) (by omega)).trans (hb.block k hk)⟩
theorem set_otherM {W : World} {g k : Nat} {v : Value} {p : Nat} (h : p ≠ g) : (W.setCell ⟨g, k, none⟩ v).heap[p]? = W.heap[p]? := Below.heap_setCell W ⟨g, k, none⟩ v p h
end Go.Proofs.YtoajommeiocfpaaDoor

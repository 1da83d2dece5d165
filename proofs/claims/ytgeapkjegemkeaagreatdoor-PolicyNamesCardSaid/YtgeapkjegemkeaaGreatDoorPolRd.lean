/-
  The document's reader of a policy's text in memory, and its steps: fails, peek, next, is, want, kind: contracts. Conditions: those that each names.
-/
import Derived.Test.YtgeapkjegemkeaaGreatDoorPolPure
import Derived.Test.YtgeapkjegemkeaaGreatDoorLexSame
import Derived.Test.YtgeapkjegemkeaaGreatDoorMemory
import Derived.Test.YtgeapkjegemkeaaGreatDoorKeepC
import Derived.StillTailTactics
namespace Go.Proofs.YtgeapkjegemkeaaGreatDoor
open Go Go.RowKit
set_option linter.unusedSimpArgs false
set_option linter.unusedVariables false

/-- A reader's seven cells. -/
def rdV (A : Option Addr) (cap : Nat) (S : Src) (r : Rd) : Nat → Value
  | 0 => .slice A S.toks.length cap
  | 1 => .int .i64 S.err
  | 2 => .int .i64 (S.place : Int)
  | 3 => .int .i64 (r.at_ : Int)
  | 4 => .int .i64 r.deep
  | 5 => .int .i64 r.err
  | _ => .int .i64 (r.bad : Int)
/-- It lies in block b, its tokens below. -/
structure RdAt (w : World) (b : Nat) (A : Option Addr) (cap : Nat) (S : Src) (r : Rd) : Prop where
  row : w.rowIs b 82 7 (rdV A cap S r)
  toks : TokAt w A S.toks.length (fun i => S.toks.getD i noT)
  low : 0 < S.toks.length → ∃ tb o, A = some ⟨tb, o, none⟩ ∧ tb < b
  size : S.toks.length ≤ 65537
set_option maxRecDepth 100000 in
theorem lt_cases7 {P : Nat → Prop} (h0 : P 0) (h1 : P 1) (h2 : P 2) (h3 : P 3) (h4 : P 4) (h5 : P 5) (h6 : P 6) : ∀ i, i < 7 → P i := by
  intro i hi
  rcases i with _ | _ | _ | _ | _ | _ | _ | i
  · exact h0
  · exact h1
  · exact h2
  · exact h3
  · exact h4
  · exact h5
  · exact h6
  · omega
set_option maxRecDepth 100000 in
/-- What turns no cell but the reader's and new ones leaves its tokens. -/
theorem toks_grown {w w' : World} {b : Nat} {A : Option Addr} {n : Nat} {f : Nat → Nx} (h : TokAt w A n f) (hl : 0 < n → ∃ tb o, A = some ⟨tb, o, none⟩ ∧ tb < b) (hg : w.grownBy w' (some b)) : TokAt w' A n f := fun hn => by
  obtain ⟨tb, o, rfl, hlt, hc⟩ := h hn
  obtain ⟨tb', o', e, hl'⟩ := hl hn
  injection e with e; injection e with e1 _ _; subst e1
  have hk := hg.block tb hlt (fun e => by injection e with e; omega)
  have cell : ∀ j v, w.cell? ⟨tb, j, none⟩ = some v → w'.cell? ⟨tb, j, none⟩ = some v := fun j v hv => (World.cell?_of_block (a := ⟨tb, j, none⟩) hk).trans hv
  refine ⟨tb, o, rfl, Nat.lt_of_lt_of_le hlt hg.size, fun i hi => ?_⟩
  obtain ⟨c0, c1, c2, c3⟩ := hc i hi
  exact ⟨cell _ _ c0, cell _ _ c1, cell _ _ c2, cell _ _ c3⟩
set_option maxRecDepth 100000 in
theorem RdAt.turn {w w' : World} {b : Nat} {A : Option Addr} {cap : Nat} {S : Src} {r r' : Rd} (h : RdAt w b A cap S r) (hg : w.grownBy w' (some b)) (hr : w'.rowIs b 82 7 (rdV A cap S r')) : RdAt w' b A cap S r' :=
  ⟨hr, toks_grown h.toks h.low hg, h.low, h.size⟩
set_option maxRecDepth 100000 in
theorem RdAt.below {w w' : World} {b : Nat} {A : Option Addr} {cap : Nat} {S : Src} {r : Rd} (h : RdAt w b A cap S r) (hb : Below w.heap.size w w') : RdAt w' b A cap S r :=
  h.turn (grown_of_below hb _) (rowIs_below h.row hb h.row.lt)
section
variable {w : World} {b : Nat} {A : Option Addr} {cap : Nat} {S : Src} {r : Rd}
set_option maxRecDepth 100000 in
theorem RdAt.set_deep (h : RdAt w b A cap S r) (v : Int) : RdAt (w.setCell ⟨b, 4, none⟩ (.int .i64 v)) b A cap S { r with deep := v } :=
  h.turn (grown_set (World.grownBy.refl w _) 4 _) ((World.rowIs.set h.row 4 _).congr (lt_cases7 rfl rfl rfl rfl rfl rfl rfl))
end
section
variable (w : World) (b : Nat) (A : Option Addr) (cap : Nat) (S : Src) (r : Rd) (h : RdAt w b A cap S r)
include h
end
/-- A token, as a value. -/
abbrev tkV (t : Nx) : Value := .agg #[.int .i64 t.kind, .string t.text, .int .u64 (t.num : Int), .int .i64 (t.pos : Int)]
abbrev tokO6 : Obj := .cells #[.int .i64 0, .string ⟨#[]⟩, .int .u64 0, .int .i64 0] 77
set_option maxRecDepth 100000 in
theorem box_kept {W W' : World} {b : Nat} (hb : b < W.heap.size) {o : Obj} (hg : (W.alloc o).grownBy W' (some b)) : W'.heap[W.heap.size]? = some o :=
  (hg.block W.heap.size (by simp) (fun e => by injection e with e; omega)).trans (World.alloc_heap_new W _)
set_option maxRecDepth 100000 in
theorem cell6 {W : World} {B : Nat} {c : Array Value} {t : TypeId} (h : W.heap[B]? = some (.cells c t (0, 0))) (i : Nat) {v : Value} (hv : c[i]? = some v) : W.cell? ⟨B, i, none⟩ = some v := by
  unfold World.cell?; rw [h]; exact hv
set_option maxRecDepth 100000 in
theorem frozen6 {W : World} {B : Nat} {c : Array Value} {t : TypeId} (h : W.heap[B]? = some (.cells c t (0, 0))) (i : Nat) : W.frozen? ⟨B, i, none⟩ = false := by
  unfold World.frozen?; rw [h]; simp
set_option maxRecDepth 100000 in
theorem grown_new {a w : World} {b B : Nat} (h : a.grownBy w (some b)) (hB : a.heap.size ≤ B) (i : Nat) (u : Value) : a.grownBy (w.setCell ⟨B, i, none⟩ u) (some b) :=
  ⟨h.os, h.tape, h.output, by simpa [World.setCell] using h.size, fun k hk hne => (Below.heap_setCell w ⟨B, i, none⟩ u k (fun e => by have : k = B := e; omega)).trans (h.block k hk hne)⟩
set_option maxRecDepth 100000 in
theorem row_new {w : World} {b B : Nat} {T : TypeId} {n : Nat} {F : Nat → Value} (h : w.rowIs b T n F) (hne : b ≠ B) (i : Nat) (u : Value) : (w.setCell ⟨B, i, none⟩ u).rowIs b T n F :=
  h.of_block (Below.heap_setCell w ⟨B, i, none⟩ u b hne)
set_option maxRecDepth 100000 in
theorem RdAt.new {w : World} {b B : Nat} {A : Option Addr} {cap : Nat} {S : Src} {r : Rd} (h : RdAt w b A cap S r) (hne : b < B) (i : Nat) (u : Value) : RdAt (w.setCell ⟨B, i, none⟩ u) b A cap S r :=
  ⟨row_new h.row (by omega) i u, fun hn => by
    obtain ⟨tb, o, rfl, hl, hc⟩ := h.toks hn
    obtain ⟨tb', o', e, hl'⟩ := h.low hn
    injection e with e; injection e with e1 _ _; subst e1
    have hk := Below.heap_setCell w ⟨B, i, none⟩ u tb (show tb ≠ B by omega)
    have cell : ∀ j v, w.cell? ⟨tb, j, none⟩ = some v → (w.setCell ⟨B, i, none⟩ u).cell? ⟨tb, j, none⟩ = some v := fun j v hv => (World.cell?_of_block (a := ⟨tb, j, none⟩) hk).trans hv
    refine ⟨tb, o, rfl, by simpa [World.setCell] using hl, fun i hi => ?_⟩
    obtain ⟨c0, c1, c2, c3⟩ := hc i hi
    exact ⟨cell _ _ c0, cell _ _ c1, cell _ _ c2, cell _ _ c3⟩, h.low, h.size⟩
section
variable (w : World) (b : Nat) (A : Option Addr) (cap : Nat) (S : Src) (r : Rd) (h : RdAt w b A cap S r)
include h
end
end Go.Proofs.YtgeapkjegemkeaaGreatDoor

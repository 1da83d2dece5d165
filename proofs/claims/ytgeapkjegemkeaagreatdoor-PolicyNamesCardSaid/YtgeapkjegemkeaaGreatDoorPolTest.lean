/-
  The reader's test: its contract. Condition: its place.
-/
import Derived.Test.YtgeapkjegemkeaaGreatDoorPolIs
import Derived.Test.YtgeapkjegemkeaaGreatDoorPolPure
namespace Go.Proofs.YtgeapkjegemkeaaGreatDoor
open Go Go.RowKit
set_option linter.unusedSimpArgs false
set_option linter.unusedVariables false
/-- An expression's six cells, without parts. -/
def exRowF (o f m rl v : Int) : Nat → Value
  | 0 => .int .i64 o
  | 1 => .slice none 0 0
  | 2 => .int .i64 f
  | 3 => .int .u64 m
  | 4 => .int .i64 rl
  | _ => .int .u64 v
/-- A test under way: its result's box, and its own. -/
structure TestW (w V : World) (b : Nat) (A : Option Addr) (cap : Nat) (S : Src) (r : Rd) (f m rl v : Int) : Prop where
  low : b < w.heap.size
  rd : RdAt V b A cap S r
  gr : w.grownBy V (some b)
  res : V.rowIs w.heap.size 39 6 (exRowF 0 0 0 0 0)
  e : V.rowIs (w.heap.size + 1) 39 6 (exRowF 6 f m rl v)
section
variable {w V V' : World} {b : Nat} {A : Option Addr} {cap : Nat} {S : Src} {r r' : Rd} {f m rl v : Int}
set_option maxRecDepth 100000 in
theorem TestW.call (T : TestW w V b A cap S r f m rl v) (hr : RdAt V' b A cap S r') (hg : V.grownBy V' (some b)) : TestW w V' b A cap S r' f m rl v := by
  have hl := T.low
  exact ⟨hl, hr, grown_trans T.gr hg, T.res.of_block (hg.block _ T.res.lt (fun e => by injection e with e; omega)), T.e.of_block (hg.block _ T.e.lt (fun e => by injection e with e; omega))⟩
set_option maxRecDepth 100000 in
theorem TestW.alloc (T : TestW w V b A cap S r f m rl v) (o : Obj) : TestW w (V.alloc o) b A cap S r f m rl v :=
  ⟨T.low, T.rd.below (lbox V o), grown_trans T.gr (grown_of_below (lbox V o) (some b)), World.rowIs.alloc T.res o, World.rowIs.alloc T.e o⟩
set_option maxRecDepth 100000 in
theorem TestW.set (T : TestW w V b A cap S r f m rl v) (i : Nat) (u : Value) {m' rl' v' : Int} (hu : ∀ j, j < 6 → (if j = i then u else exRowF 6 f m rl v j) = exRowF 6 f m' rl' v' j) : TestW w (V.setCell ⟨w.heap.size + 1, i, none⟩ u) b A cap S r f m' rl' v' := by
  have hl := T.low
  exact ⟨hl, T.rd.new (by omega) i u, grown_new T.gr (by omega) i u, row_new T.res (by omega) i u, (World.rowIs.set T.e i u).congr hu⟩
end
section
variable (w : World) (b : Nat) (A : Option Addr) (cap : Nat) (S : Src) (r : Rd) (h : RdAt w b A cap S r)
include h
end
end Go.Proofs.YtgeapkjegemkeaaGreatDoor

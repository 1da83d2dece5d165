/-
  The document's machine of classic BPF in memory: its 25 cells, what a store into each leaves, and what its small methods do: contracts. Conditions: those that each names.
-/
import Derived.Test.YtoajommeiocfpaaDoorCbpfWrong
import Derived.Test.YtoajommeiocfpaaDoorMemory
import Derived.Test.YtoajommeiocfpaaDoorRegion
namespace Go.Proofs.YtoajommeiocfpaaDoor
open Go Go.RowKit
set_option linter.unusedSimpArgs false
set_option linter.unusedVariables false

theorem lt_zero {p : Nat → Prop} : ∀ i, i < 0 → p i := fun i hi => absurd hi (Nat.not_lt_zero i)
theorem lt_more {n : Nat} {p : Nat → Prop} (h : ∀ i, i < n → p i) (hn : p n) : ∀ i, i < n + 1 → p i := fun i hi => by
  rcases Nat.lt_or_ge i n with g | g
  · exact h i g
  · obtain rfl : i = n := by omega
    exact hn
/-- The 25 values of a machine. -/
def machV (qv dv : Value) (s : Mach) : Nat → Value
  | 0 => qv
  | 1 => dv
  | 2 => .int .u32 (s.a.toNat : Int)
  | 3 => .int .u32 (s.x.toNat : Int)
  | 4 => .int .u32 ((s.m 0).toNat : Int)
  | 5 => .int .u32 ((s.m 1).toNat : Int)
  | 6 => .int .u32 ((s.m 2).toNat : Int)
  | 7 => .int .u32 ((s.m 3).toNat : Int)
  | 8 => .int .u32 ((s.m 4).toNat : Int)
  | 9 => .int .u32 ((s.m 5).toNat : Int)
  | 10 => .int .u32 ((s.m 6).toNat : Int)
  | 11 => .int .u32 ((s.m 7).toNat : Int)
  | 12 => .int .u32 ((s.m 8).toNat : Int)
  | 13 => .int .u32 ((s.m 9).toNat : Int)
  | 14 => .int .u32 ((s.m 10).toNat : Int)
  | 15 => .int .u32 ((s.m 11).toNat : Int)
  | 16 => .int .u32 ((s.m 12).toNat : Int)
  | 17 => .int .u32 ((s.m 13).toNat : Int)
  | 18 => .int .u32 ((s.m 14).toNat : Int)
  | 19 => .int .u32 ((s.m 15).toNat : Int)
  | 20 => .int .i64 (s.place : Int)
  | 21 => .int .i64 (s.steps : Int)
  | 22 => .bool s.done
  | 23 => .int .u32 (s.ans.toNat : Int)
  | _ => .int .i64 s.err
theorem machV_m (qv dv : Value) (s : Mach) : ∀ j, j < 16 → machV qv dv s (4 + j) = .int .u32 ((s.m j).toNat : Int) := by
  iterate 16 (refine lt_more ?_ rfl)
  exact lt_zero
theorem grown_cell {w w' : World} {b : Nat} (h : w.grownBy w' (some b)) (i : Nat) (u : Value) : w.grownBy (w'.setCell ⟨b, i, none⟩ u) (some b) := grown_set h i u

end Go.Proofs.YtoajommeiocfpaaDoor

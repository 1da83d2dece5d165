/-
  Plain facts on words of 64 bits, and how the model's integer operations spell them. No condition: nothing here speaks of a program.
-/
import Derived.WalkKit
namespace Go.Proofs.YtoajommeiocfpaaDoor
open Go
set_option linter.unusedSimpArgs false

/-! ### The model's operations on numbers that are words -/
theorem ofInt_toNat (a : BitVec 64) : BitVec.ofInt 64 (a.toNat : Int) = a := by
  apply BitVec.eq_of_toNat_eq; simp
theorem wrapU_toNat (a : BitVec 64) : IntKind.u64.wrap (a.toNat : Int) = a.toNat := by
  rw [IntKind.wrap_u64]; have := a.isLt; omega
theorem bits_and (a b : BitVec 64) : bits .and .u64 (a.toNat : Int) (b.toNat : Int) = ((a &&& b).toNat : Int) := by
  show IntKind.u64.wrap ((BitVec.ofInt 64 (a.toNat : Int) &&& BitVec.ofInt 64 (b.toNat : Int)).toNat : Int) = _
  rw [ofInt_toNat, ofInt_toNat, wrapU_toNat]
theorem bits_or (a b : BitVec 64) : bits .or .u64 (a.toNat : Int) (b.toNat : Int) = ((a ||| b).toNat : Int) := by
  show IntKind.u64.wrap ((BitVec.ofInt 64 (a.toNat : Int) ||| BitVec.ofInt 64 (b.toNat : Int)).toNat : Int) = _
  rw [ofInt_toNat, ofInt_toNat, wrapU_toNat]
theorem bits_xor (a b : BitVec 64) : bits .xor .u64 (a.toNat : Int) (b.toNat : Int) = ((a ^^^ b).toNat : Int) := by
  show IntKind.u64.wrap ((BitVec.ofInt 64 (a.toNat : Int) ^^^ BitVec.ofInt 64 (b.toNat : Int)).toNat : Int) = _
  rw [ofInt_toNat, ofInt_toNat, wrapU_toNat]
theorem bits_andNot (a b : BitVec 64) : bits .andNot .u64 (a.toNat : Int) (b.toNat : Int) = ((a &&& ~~~b).toNat : Int) := by
  show IntKind.u64.wrap ((BitVec.ofInt 64 (a.toNat : Int) &&& ~~~BitVec.ofInt 64 (b.toNat : Int)).toNat : Int) = _
  rw [ofInt_toNat, ofInt_toNat, wrapU_toNat]
theorem wrapU_emod (n : Nat) : IntKind.u64.wrap (n : Int) = ((n % 18446744073709551616 : Nat) : Int) := by
  rw [IntKind.wrap_u64]; omega
theorem shl_word (a : BitVec 64) (k : Nat) : IntKind.u64.wrap ((a.toNat : Int) * 2 ^ min k 64) = ((a <<< k).toNat : Int) := by
  have e : ((a.toNat : Int) * 2 ^ min k 64) = ((a.toNat * 2 ^ min k 64 : Nat) : Int) := by simp
  rw [e, wrapU_emod, BitVec.toNat_shiftLeft, Nat.shiftLeft_eq]
  by_cases h : k ≤ 64
  · rw [Nat.min_eq_left h]
  · rw [Nat.min_eq_right (by omega)]
    have hk : k = (k - 64) + 64 := by omega
    congr 1
    rw [show (18446744073709551616 : Nat) = 2 ^ 64 from rfl, Nat.mul_mod_left, hk, Nat.pow_add, ← Nat.mul_assoc, Nat.mul_mod_left]
theorem shr_word (a : BitVec 64) (k : Nat) : (a.toNat : Int) / 2 ^ min k 64 = ((a >>> k).toNat : Int) := by
  have e : ((a.toNat : Int) / 2 ^ min k 64) = ((a.toNat / 2 ^ min k 64 : Nat) : Int) := by simp
  rw [e, BitVec.toNat_ushiftRight, Nat.shiftRight_eq_div_pow]
  by_cases h : k ≤ 64
  · rw [Nat.min_eq_left h]
  · rw [Nat.min_eq_right (by omega), Nat.div_eq_of_lt a.isLt, Nat.div_eq_of_lt]
    exact Nat.lt_of_lt_of_le a.isLt (Nat.pow_le_pow_right (by decide) (by omega))
theorem wrapI_toNat (a : BitVec 64) : IntKind.i64.wrap (a.toNat : Int) = a.toInt := by
  rw [IntKind.wrap_i64, BitVec.toInt_eq_toNat_cond]; have := a.isLt; split <;> omega
theorem wrap64_toNat (a : BitVec 64) : RowKit.wrap64 (a.toNat : Int) = a.toInt := by
  unfold RowKit.wrap64; rw [BitVec.toInt_eq_toNat_cond]; have := a.isLt; split <;> omega
theorem wrapU_toInt (a : BitVec 64) : IntKind.u64.wrap a.toInt = a.toNat := by
  rw [IntKind.wrap_u64, BitVec.toInt_eq_toNat_cond]; have := a.isLt; split <;> omega
theorem sshr_word (a : BitVec 64) (k : Nat) (h : k ≤ 64) : a.toInt / 2 ^ min k 64 = (a.sshiftRight k).toInt := by
  rw [BitVec.toInt_sshiftRight, Int.shiftRight_eq_div_pow, Nat.min_eq_left h]; simp

/-! ### The document's functions, as bits -/
/-- The lowest bits. -/
def zext (v : BitVec 64) (n : Int) : BitVec 64 := BitVec.ofNat 64 (v.toNat % 2 ^ n.toNat)
theorem zext_lsb (v : BitVec 64) (n : Int) (i : Nat) : (zext v n).getLsbD i = (decide ((i : Int) < n) && v.getLsbD i) := by
  unfold zext
  rw [BitVec.getLsbD_ofNat, Nat.testBit_mod_two_pow, BitVec.testBit_toNat]
  by_cases h : i < 64
  · have e : decide (i < n.toNat) = decide ((i : Int) < n) := by rw [decide_eq_decide]; omega
    rw [e]; simp [h]
  · have := BitVec.getLsbD_of_ge v i (by omega); simp [this]
/-- The lowest bits as a signed number. -/
def sext (v : BitVec 64) (n : Int) : BitVec 64 :=
  if n < 1 then 0#64 else if 64 ≤ n then v else (v <<< (64 - n).toNat).sshiftRight (64 - n).toNat
theorem sext_lsb (v : BitVec 64) (n : Int) (i : Nat) : (sext v n).getLsbD i = (decide (1 ≤ n) && decide (i < 64) && (if (i : Int) < n then v.getLsbD i else v.getLsbD (n.toNat - 1))) := by
  unfold sext
  by_cases h1 : n < 1
  · have : ¬ 1 ≤ n := by omega
    simp [h1, this]
  · have h1' : 1 ≤ n := by omega
    rw [if_neg h1]
    by_cases h2 : 64 ≤ n
    · rw [if_pos h2]
      by_cases hi : i < 64
      · have : (i : Int) < n := by omega
        simp [h1', hi, this]
      · have := BitVec.getLsbD_of_ge v i (by omega); simp [hi, this]
    · rw [if_neg h2, BitVec.getLsbD_sshiftRight]
      have hk : (64 - n).toNat = 64 - n.toNat := by omega
      rw [hk]
      by_cases hi : i < 64
      · have hnge : ¬ 64 ≤ i := by omega
        simp only [h1', hi, hnge, decide_true, decide_false, Bool.not_false, Bool.true_and, Bool.and_true]
        by_cases hlt : (i : Int) < n
        · have : 64 - n.toNat + i < 64 := by omega
          rw [if_pos this, if_pos hlt, BitVec.getLsbD_shiftLeft]
          have a1 : 64 - n.toNat + i - (64 - n.toNat) = i := by omega
          have a2 : ¬ (64 - n.toNat + i < 64 - n.toNat) := by omega
          simp [this, a1, a2]
        · have : ¬ (64 - n.toNat + i < 64) := by omega
          rw [if_neg this, if_neg hlt, BitVec.msb_eq_getLsbD_last, BitVec.getLsbD_shiftLeft]
          have a1 : 64 - 1 - (64 - n.toNat) = n.toNat - 1 := by omega
          have a2 : ¬ (64 - 1 < 64 - n.toNat) := by omega
          simp [a1, a2]
      · have : 64 ≤ i := by omega
        simp [this, hi]
/-- Bits of a word. -/
def bitsB (v : BitVec 64) (lo n : Int) : BitVec 64 := if lo < 0 ∨ 63 < lo then 0#64 else zext (v >>> lo.toNat) n
theorem sext_low (v : BitVec 64) (n : Int) (h : n < 1) : sext v n = 0#64 := by rw [sext, if_pos h]
theorem sext_all (v : BitVec 64) (n : Int) (h : 64 ≤ n) : sext v n = v := by rw [sext, if_neg (by omega), if_pos h]
theorem sext_mid (v : BitVec 64) (n : Int) (h : 1 ≤ n) (g : n < 64) : sext v n = (v <<< (64 - n).toNat).sshiftRight (64 - n).toNat := by
  rw [sext, if_neg (by omega), if_neg (by omega)]
theorem bitsB_in (v : BitVec 64) (lo n : Int) (h : 0 ≤ lo) (g : lo ≤ 63) : bitsB v lo n = zext (v >>> lo.toNat) n := by rw [bitsB, if_neg (by omega)]
theorem bitsB_out (v : BitVec 64) (lo n : Int) (h : lo < 0 ∨ 63 < lo) : bitsB v lo n = 0#64 := by rw [bitsB, if_pos h]
theorem bitsB_lsb (v : BitVec 64) (lo n : Int) (i : Nat) : (bitsB v lo n).getLsbD i = (decide (0 ≤ lo ∧ lo ≤ 63) && (decide ((i : Int) < n) && v.getLsbD (lo.toNat + i))) := by
  unfold bitsB
  by_cases h : lo < 0 ∨ 63 < lo
  · have : ¬ (0 ≤ lo ∧ lo ≤ 63) := by omega
    rw [if_pos h]; simp only [this, decide_false, Bool.false_and]; simp
  · have : 0 ≤ lo ∧ lo ≤ 63 := by omega
    rw [if_neg h, zext_lsb, BitVec.getLsbD_ushiftRight]
    simp [this]
/-- A word with other bits there. -/
def putB (v : BitVec 64) (lo n : Int) (x : BitVec 64) : BitVec 64 :=
  if lo < 0 ∨ 63 < lo then v else (v &&& ~~~(zext (BitVec.allOnes 64) n <<< lo.toNat)) ||| ((x <<< lo.toNat) &&& (zext (BitVec.allOnes 64) n <<< lo.toNat))
theorem putB_in (v : BitVec 64) (lo n : Int) (x : BitVec 64) (h : 0 ≤ lo) (g : lo ≤ 63) :
    putB v lo n x = (v &&& ~~~(zext (BitVec.allOnes 64) n <<< lo.toNat)) ||| ((x <<< lo.toNat) &&& (zext (BitVec.allOnes 64) n <<< lo.toNat)) := by
  rw [putB, if_neg (by omega)]
theorem putB_out (v : BitVec 64) (lo n : Int) (x : BitVec 64) (h : lo < 0 ∨ 63 < lo) : putB v lo n x = v := by rw [putB, if_pos h]
theorem putB_lsb (v : BitVec 64) (lo n : Int) (x : BitVec 64) (i : Nat) :
    (putB v lo n x).getLsbD i = if 0 ≤ lo ∧ lo ≤ 63 ∧ lo ≤ i ∧ (i : Int) - lo < n ∧ i < 64 then x.getLsbD (i - lo.toNat) else v.getLsbD i := by
  unfold putB
  by_cases h : lo < 0 ∨ 63 < lo
  · rw [if_pos h, if_neg (by omega)]
  · rw [if_neg h]
    by_cases hi : i < 64
    · by_cases hl : i < lo.toNat
      · rw [if_neg (by omega)]; simp [hl, hi]
      · have h64 : i - lo.toNat < 64 := by omega
        have he : ((i - lo.toNat : Nat) : Int) = (i : Int) - lo := by omega
        have hz : (zext (BitVec.allOnes 64) n).getLsbD (i - lo.toNat) = decide ((i : Int) - lo < n) := by
          rw [zext_lsb, he, BitVec.getLsbD_allOnes]; simp [h64]
        rw [BitVec.getLsbD_or, BitVec.getLsbD_and, BitVec.getLsbD_and, BitVec.getLsbD_not, BitVec.getLsbD_shiftLeft, BitVec.getLsbD_shiftLeft, hz]
        by_cases hn : (i : Int) - lo < n
        · rw [if_pos (by omega)]; simp [hl, hi, hn, h64]
        · rw [if_neg (by omega)]; simp [hl, hi, hn]
    · rw [if_neg (by omega)]
      simp [hi, BitVec.getLsbD_of_ge v i (by omega)]
def fitsB (v : BitVec 64) (n : Int) : Bool := sext v n == v

/-! ### One bit, and words that grow bit by bit -/
def bitv (v : BitVec 64) (k : Nat) : BitVec 64 := (v >>> k) &&& 1#64
theorem one_lsb (i : Nat) : (1#64).getLsbD i = decide (i = 0) := by
  rcases i with _ | i
  · rfl
  · rw [BitVec.getLsbD_ofNat, Nat.testBit_succ]; simp
theorem bitv_lsb (v : BitVec 64) (k i : Nat) : (bitv v k).getLsbD i = (decide (i = 0) && v.getLsbD k) := by
  unfold bitv
  rw [BitVec.getLsbD_and, BitVec.getLsbD_ushiftRight, one_lsb]
  by_cases h : i = 0
  · subst h; simp
  · simp [h]
theorem bitv_congr {v y : BitVec 64} {k m : Nat} (h : v.getLsbD k = y.getLsbD m) : bitv v k = bitv y m := by
  apply BitVec.eq_of_getLsbD_eq; intro i _; rw [bitv_lsb, bitv_lsb, h]
theorem zext_step (y : BitVec 64) (k : Nat) : zext y ((k : Int) + 1) = zext y k ||| (bitv y k <<< k) := by
  apply BitVec.eq_of_getLsbD_eq
  intro i hi
  rw [BitVec.getLsbD_or, zext_lsb, zext_lsb, BitVec.getLsbD_shiftLeft, bitv_lsb]
  by_cases h1 : i < k
  · have a : (i : Int) < (k : Int) := by omega
    have b : (i : Int) < (k : Int) + 1 := by omega
    simp [h1, a, b]
  · by_cases h2 : i = k
    · subst h2; have a : (i : Int) < (i : Int) + 1 := by omega
      simp [a, hi]
    · have a : ¬ (i : Int) < (k : Int) := by omega
      have b : ¬ (i : Int) < (k : Int) + 1 := by omega
      have c : ¬ (i - k = 0) := by omega
      simp [a, b, c]
theorem zext_zero (y : BitVec 64) : zext y 0 = 0#64 := by
  apply BitVec.eq_of_getLsbD_eq; intro i _
  have : ¬ ((i : Int) < 0) := by omega
  rw [zext_lsb]; simp [this]
theorem zext_low (y : BitVec 64) (n : Int) (h : n < 1) : zext y n = 0#64 := by
  apply BitVec.eq_of_getLsbD_eq; intro i _
  have : ¬ ((i : Int) < n) := by omega
  rw [zext_lsb]; simp [this]
theorem zext_all (y : BitVec 64) (n : Int) (h : 64 ≤ n) : zext y n = y := by
  apply BitVec.eq_of_getLsbD_eq; intro i hi
  have : ((i : Int) < n) := by omega
  rw [zext_lsb]; simp [this]
theorem zext_mask (v : BitVec 64) (n : Nat) (h : n < 64) : v &&& ((1#64 <<< n) - 1#64) = zext v n := by
  apply BitVec.eq_of_toNat_eq
  have h1 : (1#64 <<< n).toNat = 2 ^ n := by
    rw [BitVec.toNat_shiftLeft, Nat.shiftLeft_eq]; simp
    exact Nat.pow_lt_pow_right (by decide) h
  have hp : 0 < 2 ^ n := Nat.two_pow_pos n
  have hb : 2 ^ n < 2 ^ 64 := Nat.pow_lt_pow_right (by decide) h
  have h2 : ((1#64 <<< n) - 1#64).toNat = 2 ^ n - 1 := by
    rw [BitVec.toNat_sub, h1]; simp; omega
  rw [BitVec.toNat_and, h2, Nat.and_two_pow_sub_one_eq_mod]
  unfold zext
  rw [BitVec.toNat_ofNat, Int.toNat_natCast]
  exact (Nat.mod_eq_of_lt (Nat.lt_trans (Nat.mod_lt _ hp) hb)).symm

theorem eq_toInt (a b : BitVec 64) : (a.toInt == b.toInt) = (a == b) := by
  rw [Bool.eq_iff_iff]; simp [BitVec.toInt_inj]
theorem eq_toNat (a b : BitVec 64) : ((a.toNat : Int) == (b.toNat : Int)) = (a == b) := by
  rw [Bool.eq_iff_iff]; simp [← BitVec.toNat_inj]; omega
theorem or_halves (a b : Int) (ha : 0 ≤ a) (ha' : a < 4294967296) (hb : 0 ≤ b) (hb' : b < 4294967296) : bits .or .u64 (a * 4294967296) b = a * 4294967296 + b :=
  bits_join .u64 64 (by decide) (fun n h0 h1 => by rw [IntKind.wrap_u64]; omega) 32 _ _ (by omega) (by omega) (by omega) hb (by omega) (by omega)

/-! ### The walk's own spellings -/
theorem shl_in (a : BitVec 64) (n : Int) (h : n ≤ 64) : IntKind.u64.wrap ((a.toNat : Int) * 2 ^ n.toNat) = ((a <<< n.toNat).toNat : Int) := by
  have := shl_word a n.toNat
  rwa [Nat.min_eq_left (by omega)] at this
theorem shr_in (a : BitVec 64) (n : Int) (h : n ≤ 64) : (a.toNat : Int) / 2 ^ n.toNat = ((a >>> n.toNat).toNat : Int) := by
  have := shr_word a n.toNat
  rwa [Nat.min_eq_left (by omega)] at this
theorem sshr_in (a : BitVec 64) (n : Int) (h : n ≤ 64) : a.toInt / 2 ^ n.toNat = (a.sshiftRight n.toNat).toInt := by
  have := sshr_word a n.toNat (by omega)
  rwa [Nat.min_eq_left (by omega)] at this
theorem pow_in (n : Int) (h : n ≤ 64) : IntKind.u64.wrap (2 ^ n.toNat) = ((1#64 <<< n.toNat).toNat : Int) := by
  have := shl_in 1#64 n h
  simpa using this
theorem wrap_pred (a : BitVec 64) : IntKind.u64.wrap ((a.toNat : Int) - 1) = ((a - 1#64).toNat : Int) := by
  rw [IntKind.wrap_u64, BitVec.toNat_sub]; have := a.isLt; simp; omega
theorem mask_in (v : BitVec 64) (n : Int) (h0 : 0 ≤ n) (h : n < 64) :
    bits .and .u64 (v.toNat : Int) (IntKind.u64.wrap (IntKind.u64.wrap (2 ^ n.toNat) - 1)) = ((zext v n).toNat : Int) := by
  have e := zext_mask v n.toNat (by omega)
  rw [pow_in n (by omega), wrap_pred, bits_and, e]
  congr 3; omega
theorem bit_in (v : BitVec 64) (k : Nat) : bits .and .u64 ((v >>> k).toNat : Int) 1 = ((bitv v k).toNat : Int) := by
  have := bits_and (v >>> k) 1#64
  simpa [bitv] using this
theorem bit_word (v : BitVec 64) (k : Nat) (h : k < 64) : bits .and .u64 ((v.toNat : Int) / 2 ^ k) 1 = ((bitv v k).toNat : Int) := by
  have := shr_word v k
  rw [Nat.min_eq_left (by omega)] at this
  rw [this, bit_in]
/-- A word that has grown up to bit k takes bit k in. -/
theorem grow (y v : BitVec 64) (k m : Nat) (h : k < 64) (hb : v.getLsbD m = y.getLsbD k) :
    bits .or .u64 ((zext y (k : Int)).toNat : Int) (IntKind.u64.wrap (((bitv v m).toNat : Int) * 2 ^ k)) = ((zext y ((k + 1 : Nat) : Int)).toNat : Int) := by
  have e := shl_word (bitv v m) k
  rw [Nat.min_eq_left (by omega)] at e
  rw [e, bits_or, bitv_congr hb, ← zext_step]
  rfl
theorem zext_zext (y : BitVec 64) (n : Int) : zext (zext y n) n = zext y n := by
  apply BitVec.eq_of_getLsbD_eq; intro i _; simp only [zext_lsb]; by_cases h : (i : Int) < n <;> simp [h]
/-- What a loop has grown, where it ends. -/
theorem zext_grown (v : BitVec 64) (n : Int) (k : Nat) (hk : k ≤ 64) (hn : (k : Int) ≤ n ∨ k = 0) (he : n ≤ k ∨ 64 ≤ k) : zext v (k : Int) = zext v n := by
  apply BitVec.eq_of_getLsbD_eq; intro i _
  rw [zext_lsb, zext_lsb]
  have : ((i : Int) < (k : Int)) ↔ ((i : Int) < n) := by omega
  rw [decide_eq_decide.2 this]
theorem bitsB_grown (v : BitVec 64) (lo n : Int) (k : Nat) (hlo : 0 ≤ lo) (he : n ≤ k ∨ 64 ≤ lo + k) : zext (bitsB v lo n) (k : Int) = bitsB v lo n := by
  apply BitVec.eq_of_getLsbD_eq; intro i _
  rw [zext_lsb, bitsB_lsb]
  by_cases h : (i : Int) < (k : Int)
  · simp [h]
  · by_cases h1 : (i : Int) < n
    · have := BitVec.getLsbD_of_ge v (lo.toNat + i) (by omega)
      simp [this]
    · simp [h1]
theorem sext_grown (v : BitVec 64) (n : Int) (h : 1 ≤ n) : zext (sext v n) n = zext v n := by
  apply BitVec.eq_of_getLsbD_eq; intro i hi
  rw [zext_lsb, zext_lsb, sext_lsb]
  by_cases h1 : (i : Int) < n
  · simp [h, h1, hi]
  · simp [h1]
theorem sext_top (v : BitVec 64) (m k : Nat) (hk : m + 1 ≤ k) (h : k < 64) : v.getLsbD m = (sext v ((m : Int) + 1)).getLsbD k := by
  rw [sext_lsb, if_neg (by omega)]
  have e : ((m : Int) + 1).toNat - 1 = m := by omega
  have : (1 : Int) ≤ (m : Int) + 1 := by omega
  simp only [e, this, h, decide_true, Bool.true_and]
theorem bitsB_at (v : BitVec 64) (l : Nat) (n : Int) (k : Nat) (hl : l ≤ 63) (h : (k : Int) < n) : v.getLsbD (l + k) = (bitsB v (l : Int) n).getLsbD k := by
  rw [bitsB_lsb, Int.toNat_natCast]
  have : (0 : Int) ≤ (l : Int) ∧ (l : Int) ≤ 63 := by omega
  simp only [this, h, decide_true, Bool.true_and, and_self]
theorem putB_at (v : BitVec 64) (l : Nat) (n : Int) (x : BitVec 64) (k : Nat) (hl : l ≤ 63) (hk : k < 64) (h : l ≤ k) (g : (k : Int) - l < n) :
    x.getLsbD (k - l) = (putB v (l : Int) n x).getLsbD k := by
  rw [putB_lsb, if_pos (by omega), Int.toNat_natCast]
theorem putB_far (v : BitVec 64) (l : Nat) (n : Int) (x : BitVec 64) (k : Nat) (h : ¬ (l ≤ k ∧ (k : Int) - l < n)) :
    v.getLsbD k = (putB v (l : Int) n x).getLsbD k := by
  rw [putB_lsb, if_neg (by omega)]
theorem putB_low (v : BitVec 64) (lo n : Int) (x : BitVec 64) (h : n < 1) : putB v lo n x = v := by
  apply BitVec.eq_of_getLsbD_eq; intro i _; rw [putB_lsb, if_neg (by omega)]

/-! ### What a reading hands over, as words -/
theorem word_of {a : Int} (h : (Lit.int .u64 a).wf = true) : ∃ v : BitVec 64, a = (v.toNat : Int) := by
  have hb : 0 ≤ a ∧ a ≤ 18446744073709551615 := by simpa [Lit.wf, IntKind.min, IntKind.max, IntKind.bits, IntKind.signed] using h
  exact ⟨BitVec.ofNat 64 a.toNat, by rw [BitVec.toNat_ofNat]; omega⟩
theorem sword_of {a : Int} (h : (Lit.int .i64 a).wf = true) : ∃ v : BitVec 64, a = v.toInt := by
  have hb : -9223372036854775808 ≤ a ∧ a ≤ 9223372036854775807 := by simpa [Lit.wf, IntKind.min, IntKind.max, IntKind.bits, IntKind.signed] using h
  exact ⟨BitVec.ofInt 64 a, by rw [BitVec.toInt_ofInt]; simp [Int.bmod]; omega⟩
theorem int_of {a : Int} (h : (Lit.int .i64 a).wf = true) : -9223372036854775808 ≤ a ∧ a ≤ 9223372036854775807 := by
  simpa [Lit.wf, IntKind.min, IntKind.max, IntKind.bits, IntKind.signed] using h
theorem half_of {a : Int} (h : (Lit.int .u32 a).wf = true) : 0 ≤ a ∧ a < 4294967296 := by
  have hb : 0 ≤ a ∧ a ≤ 4294967295 := by simpa [Lit.wf, IntKind.min, IntKind.max, IntKind.bits, IntKind.signed] using h
  omega
end Go.Proofs.YtoajommeiocfpaaDoor

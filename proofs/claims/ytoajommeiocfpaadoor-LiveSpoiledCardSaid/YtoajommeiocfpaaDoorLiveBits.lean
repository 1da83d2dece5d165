/-
  The bits of a set one after another: plain facts. No condition.
-/
import Derived.Test.YtoajommeiocfpaaDoorLivePure
import Derived.Lib.TrailingZeros
import Derived.Shelf.Spec.TrailingZeros
namespace Go.Proofs.YtoajommeiocfpaaDoor
open Go
set_option linter.unusedSimpArgs false
set_option linter.unusedVariables false

/-- The set's members below k, rising. -/
def bitsTo (s : BitVec 64) (k : Nat) : List Nat := (List.range k).filter (fun i => s.getLsbD i)
abbrev bitsOf (s : BitVec 64) : List Nat := bitsTo s 64
theorem mem_bitsTo {s : BitVec 64} {k i : Nat} : i ∈ bitsTo s k ↔ i < k ∧ s.getLsbD i = true := by
  unfold bitsTo; rw [List.mem_filter, List.mem_range]
theorem bitsTo_skip (s : BitVec 64) {k t : Nat} (hkt : k ≤ t) (h : ∀ i, k ≤ i → i < t → s.getLsbD i = false) : bitsTo s t = bitsTo s k := by
  induction t with
  | zero => obtain rfl : k = 0 := by omega
            rfl
  | succ t ih =>
    rcases Nat.lt_or_ge t k with g | g
    · obtain rfl : k = t + 1 := by omega
      rfl
    · have := ih g (fun i h1 h2 => h i h1 (by omega))
      unfold bitsTo at *
      rw [List.range_succ, List.filter_append, this]
      simp [h t g (by omega)]
theorem bitsTo_hit (s : BitVec 64) {t : Nat} (h : s.getLsbD t = true) : bitsTo s (t + 1) = bitsTo s t ++ [t] := by
  unfold bitsTo
  rw [List.range_succ, List.filter_append]
  simp [h]
theorem bitsTo_pre (s : BitVec 64) {k m : Nat} (h : k ≤ m) : bitsTo s k <+: bitsTo s m := by
  unfold bitsTo
  obtain ⟨d, rfl⟩ : ∃ d, m = k + d := ⟨m - k, by omega⟩
  rw [List.range_add, List.filter_append]
  exact List.prefix_append _ _
theorem clear_low (t m : Nat) : (2 ^ t * (2 * m + 1)) &&& (2 ^ t * (2 * m + 1) - 1) = 2 ^ t * (2 * m) := by
  have hp : 0 < 2 ^ t := Nat.two_pow_pos t
  have e1 : 2 ^ t * (2 * m + 1) = 2 ^ t * (2 * m + 1) + 0 := rfl
  have e2 : 2 ^ t * (2 * m + 1) - 1 = 2 ^ t * (2 * m) + (2 ^ t - 1) := by rw [Nat.mul_add, Nat.mul_one]; omega
  have e3 : 2 ^ t * (2 * m) = 2 ^ t * (2 * m) + 0 := rfl
  apply Nat.eq_of_testBit_eq
  intro j
  rw [Nat.testBit_and, e2]
  rw [show (2 ^ t * (2 * m + 1)).testBit j = (2 ^ t * (2 * m + 1) + 0).testBit j from rfl, show (2 ^ t * (2 * m)).testBit j = (2 ^ t * (2 * m) + 0).testBit j from rfl]
  rw [Nat.testBit_two_pow_mul_add _ hp, Nat.testBit_two_pow_mul_add _ (by omega), Nat.testBit_two_pow_mul_add _ hp]
  by_cases g : j < t
  · rw [if_pos g, if_pos g, if_pos g]; simp
  · rw [if_neg g, if_neg g, if_neg g]
    cases h : j - t with
    | zero => simp [Nat.testBit_zero, Nat.mul_mod_right, Nat.add_mod]
    | succ d =>
      rw [Nat.testBit_succ, Nat.testBit_succ, show (2 * m + 1) / 2 = m by omega, show 2 * m / 2 = m by omega, Bool.and_self]
/-- The lowest bit, and what is left without it. -/
theorem low_bit {s : BitVec 64} (h : s ≠ 0#64) : ∃ t, t < 64 ∧ Lib.ctz 64 s.toNat = t ∧ s.getLsbD t = true ∧ (∀ i, i < t → s.getLsbD i = false) ∧ ∀ i, (s &&& (s - 1#64)).getLsbD i = (s.getLsbD i && decide (t < i)) := by
  have h0 : s.toNat ≠ 0 := fun e => h (BitVec.eq_of_toNat_eq (by simpa using e))
  obtain ⟨m, hm, hk⟩ := Lib.ctzFrom_spec 64 s.toNat (by omega) s.isLt
  have e : Lib.ctz 64 s.toNat = Lib.ctzFrom 64 s.toNat := by simp [Lib.ctz, h0]
  generalize Lib.ctzFrom 64 s.toNat = t at *
  have hp : 0 < 2 ^ t := Nat.two_pow_pos t
  have hbit : ∀ i, s.getLsbD i = (2 ^ t * (2 * m + 1) + 0).testBit i := fun i => by rw [BitVec.getLsbD, hm]; rfl
  refine ⟨t, hk, e, ?_, fun i hi => ?_, fun i => ?_⟩
  · rw [hbit, Nat.testBit_two_pow_mul_add _ hp, if_neg (by omega), Nat.sub_self]
    simp [Nat.testBit_zero, Nat.add_mod, Nat.mul_mod_right]
  · rw [hbit, Nat.testBit_two_pow_mul_add _ hp, if_pos hi]; simp
  · have e1 : (s - 1#64).toNat = s.toNat - 1 := by
      rw [BitVec.toNat_sub]
      have := s.isLt
      simp; omega
    have e2 : (s &&& (s - 1#64)).getLsbD i = (2 ^ t * (2 * m) + 0).testBit i := by
      rw [BitVec.getLsbD, BitVec.toNat_and, e1, hm, clear_low]; rfl
    rw [e2, hbit, Nat.testBit_two_pow_mul_add _ hp, Nat.testBit_two_pow_mul_add _ hp]
    by_cases g : i < t
    · rw [if_pos g, if_pos g]; simp
    · rw [if_neg g, if_neg g]
      cases h2 : i - t with
      | zero =>
        have : ¬ t < i := by omega
        simp [Nat.testBit_zero, Nat.mul_mod_right, this]
      | succ d =>
        have : t < i := by omega
        rw [Nat.testBit_succ, Nat.testBit_succ, show (2 * m + 1) / 2 = m by omega, show 2 * m / 2 = m by omega, decide_eq_true this, Bool.and_true]
end Go.Proofs.YtoajommeiocfpaaDoor

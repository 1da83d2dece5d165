/-
  What Load and Store of package word answer, and the same of the document's answer: contracts over whatever memory holds the bytes. Conditions: those that each contract names.
-/
import Derived.Test.YtoajommeiocfpaaDoorWordRefs
namespace Go.Proofs.YtoajommeiocfpaaDoor
open Go Go.RowKit
set_option linter.unusedSimpArgs false
set_option linter.unusedVariables false

/-- The number of the first n bytes, the lowest first. -/
def leB (f : Nat → Int) : Nat → Int
  | 0 => 0
  | n + 1 => leB f n + f n * 2 ^ (8 * n)

theorem leB_bd (f : Nat → Int) (hf : ∀ i, 0 ≤ f i ∧ f i < 256) : ∀ n, 0 ≤ leB f n ∧ leB f n < 2 ^ (8 * n)
  | 0 => by simp [leB]
  | n + 1 => by
    obtain ⟨h0, h1⟩ := leB_bd f hf n
    obtain ⟨g0, g1⟩ := hf n
    have hp : (0 : Int) < 2 ^ (8 * n) := Int.pow_pos (by decide)
    have e : (2 : Int) ^ (8 * (n + 1)) = 2 ^ (8 * n) * 256 := by rw [Nat.mul_add, Int.pow_add]; rfl
    rw [leB, e]
    have a1 : 0 ≤ f n * 2 ^ (8 * n) := Int.mul_nonneg g0 (by omega)
    have a2 : f n * 2 ^ (8 * n) ≤ 255 * 2 ^ (8 * n) := Int.mul_le_mul_of_nonneg_right (by omega) (by omega)
    omega
theorem bits_or_comm (x y : Int) : bits .or .u64 x y = bits .or .u64 y x := by
  show IntKind.u64.wrap ((BitVec.ofInt 64 x ||| BitVec.ofInt 64 y).toNat : Int) = IntKind.u64.wrap ((BitVec.ofInt 64 y ||| BitVec.ofInt 64 x).toNat : Int)
  rw [BitVec.or_comm]
theorem pow_le64 (k : Nat) (h : k ≤ 8) : (2 : Int) ^ (8 * k) ≤ 18446744073709551616 := by
  have : (2 : Nat) ^ (8 * k) ≤ 2 ^ 64 := Nat.pow_le_pow_right (by decide) (by omega)
  have h2 : (2 : Int) ^ (8 * k) = ((2 ^ (8 * k) : Nat) : Int) := by simp
  rw [h2]; omega
theorem leB_or (f : Nat → Int) (hf : ∀ i, 0 ≤ f i ∧ f i < 256) (k : Nat) (h : k < 8) :
    bits .or .u64 (leB f k) (IntKind.u64.wrap (f k * 2 ^ (8 * k))) = leB f (k + 1) := by
  obtain ⟨h0, h1⟩ := leB_bd f hf k
  obtain ⟨b0, b1⟩ := leB_bd f hf (k + 1)
  obtain ⟨g0, g1⟩ := hf k
  have hp : (0 : Int) < 2 ^ (8 * k) := Int.pow_pos (by decide)
  have a1 : 0 ≤ f k * 2 ^ (8 * k) := Int.mul_nonneg g0 (by omega)
  have hle := pow_le64 (k + 1) (by omega)
  have hle' := pow_le64 k (by omega)
  have e : leB f (k + 1) = leB f k + f k * 2 ^ (8 * k) := rfl
  have hw : IntKind.u64.wrap (f k * 2 ^ (8 * k)) = f k * 2 ^ (8 * k) := by rw [IntKind.wrap_u64]; omega
  rw [hw, bits_or_comm, bits_join .u64 64 (by decide) (fun n h0 h1 => by rw [IntKind.wrap_u64]; omega) (8 * k) _ _ a1 (Int.mul_emod_left _ _) (by omega) h0 h1 (by omega), e]
  omega
theorem leB_cons (f : Nat → Int) (k : Nat) : ∀ m, leB (fun j => f (k + j)) (m + 1) = f k + 256 * leB (fun j => f (k + 1 + j)) m
  | 0 => by simp [leB]
  | m + 1 => by
    rw [leB, leB_cons f k m, leB]
    have e : (2 : Int) ^ (8 * (m + 1)) = 2 ^ (8 * m) * 256 := by rw [Nat.mul_add, Int.pow_add]; rfl
    have e2 : k + (m + 1) = k + 1 + m := by omega
    rw [e, e2, ← Int.mul_assoc]
    generalize f (k + 1 + m) * 2 ^ (8 * m) = t
    omega
theorem leB_or_down (f : Nat → Int) (hf : ∀ i, 0 ≤ f i ∧ f i < 256) (k m : Nat) (h : m < 8) :
    bits .or .u64 (IntKind.u64.wrap (leB (fun j => f (k + 1 + j)) m * 256)) (f k) = leB (fun j => f (k + j)) (m + 1) := by
  obtain ⟨h0, h1⟩ := leB_bd (fun j => f (k + 1 + j)) (fun i => hf _) m
  obtain ⟨b0, b1⟩ := leB_bd (fun j => f (k + j)) (fun i => hf _) (m + 1)
  obtain ⟨g0, g1⟩ := hf k
  have hle := pow_le64 (m + 1) (by omega)
  rw [leB_cons] at b0 b1
  have hw : IntKind.u64.wrap (leB (fun j => f (k + 1 + j)) m * 256) = leB (fun j => f (k + 1 + j)) m * 256 := by rw [IntKind.wrap_u64]; omega
  rw [hw, bits_join .u64 64 (by decide) (fun n h0 h1 => by rw [IntKind.wrap_u64]; omega) 8 _ _ (by omega) (by omega) (by omega) g0 (by omega) (by omega), leB_cons]
  omega

theorem ref_Load (b off len cap : Nat) (f : Nat → Int) (p n : Nat) (w : World) (hl : len ≤ maxLen) (h1 : 1 ≤ n) (h8 : n ≤ 8) (hp : p + n ≤ len)
    (hc : ∀ i, i < n → w.cell? ⟨b, off + (p + i), none⟩ = some (.int .u8 (f i))) (hf : ∀ i, 0 ≤ f i ∧ f i < 256) :
    Calls Tryd.prog 46 #[.slice (some ⟨b, off, none⟩) len cap, .int .i64 (p : Int), .int .i64 (n : Int)] w
      fun e w' => e = .returned (.tuple #[.int .u64 (leB f n), .int .i64 0]) ∧ w = w' := by
  have hl' := hl
  unfold maxLen at hl'
  have a1 : (1 : Int) ≤ (n : Int) := by omega
  have a2 : (n : Int) ≤ 8 := by omega
  have a3 : (p : Int) ≤ (len : Int) := by omega
  have a4 : (n : Int) ≤ (len : Int) - (p : Int) := by omega
  go_enter Tryd.func46, Tryd.ntmps46
  go_wp2
  go_loop [8, 9] (fun v i => ∃ m : Nat, m ≤ n ∧ i = .int .i64 ((m : Int) - 1) ∧ v = .int .u64 (leB (fun j => f (m + j)) (n - m))) (fun _ i => (intOf i + 1).toNat)
  case atStart => exact ⟨n, by omega, rfl, by rw [Nat.sub_self]; rfl⟩
  case round =>
    obtain ⟨m, hm, rfl, rfl⟩ := hrel
    by_cases hlt : 1 ≤ m
    · obtain ⟨k, rfl⟩ : ∃ k, m = k + 1 := ⟨m - 1, by omega⟩
      have hck := hc k (by omega)
      obtain ⟨hf0, hf1⟩ := hf k
      have hk' : ((k + 1 : Nat) : Int) - 1 = (k : Int) := by omega
      rw [hk']
      clear hk' hlt
      go_wp2
      go_round
      case rel => exact ⟨k, by omega, rfl, by rw [leB_or_down f hf k (n - (k + 1)) (by omega), show n - (k + 1) + 1 = n - k by omega]⟩
      case measure => simp [intOf]
    · go_wp2
      go_ret2
      obtain rfl : m = 0 := by omega
      exact ⟨by simp, rfl⟩

theorem ref_Load_no (a : Option Addr) (len cap : Nat) (p n : Int) (w : World) (hl : len ≤ maxLen) (h : ¬ (1 ≤ n ∧ n ≤ 8 ∧ 0 ≤ p ∧ p + n ≤ len)) :
    Calls Tryd.prog 46 #[.slice a len cap, .int .i64 p, .int .i64 n] w
      fun e w' => e = .returned (.tuple #[.int .u64 0, .int .i64 1]) ∧ w = w' := by
  unfold maxLen at hl
  by_cases h1 : n < 1
  · clear h
    go_enter Tryd.func46, Tryd.ntmps46
    go_wp2
    go_ret2
    exact ⟨rfl, rfl⟩
  · by_cases h2 : 8 < n
    · clear h
      go_enter Tryd.func46, Tryd.ntmps46
      go_wp2
      go_ret2
      exact ⟨rfl, rfl⟩
    · by_cases h3 : p < 0
      · clear h
        go_enter Tryd.func46, Tryd.ntmps46
        go_wp2
        go_ret2
        exact ⟨rfl, rfl⟩
      · by_cases h4 : (len : Int) < p
        · clear h
          go_enter Tryd.func46, Tryd.ntmps46
          go_wp2
          go_ret2
          exact ⟨rfl, rfl⟩
        · have h5 : (len : Int) - p < n := by omega
          clear h
          go_enter Tryd.func46, Tryd.ntmps46
          go_wp2
          go_ret2
          exact ⟨rfl, rfl⟩

end Go.Proofs.YtoajommeiocfpaaDoor

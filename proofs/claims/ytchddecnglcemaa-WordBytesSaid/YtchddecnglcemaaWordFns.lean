/-
  What each function of package word that makes no memory answers: a contract a function, for every argument. No condition but those that a contract names.
-/
import Derived.Test.YtchddecnglcemaaChecked
import Derived.Test.YtchddecnglcemaaWordMath
import Derived.WalkSpells
import Derived.WalkLawsBesides
namespace Go.Proofs.Ytchddecnglcemaa
open Go Go.RowKit
set_option linter.unusedSimpArgs false
set_option linter.unusedVariables false

theorem ret_int {k : IntKind} {a b : Int} (h : a = b) : Ending.returned (.int k a) = .returned (.int k b) := by rw [h]
theorem ret_bool {a b : Bool} (h : a = b) : Ending.returned (.bool a) = .returned (.bool b) := by rw [h]

theorem word_inWord (b : Int) (w : World) :
    Calls Try.prog 28 #[.int .i64 b] w fun e w' => e = .returned (.bool (decide (0 ≤ b ∧ b ≤ 63))) ∧ w = w' := by
  by_cases h1 : 0 ≤ b
  · by_cases h2 : b < 64
    · go_enter Try.func28, Try.ntmps28
      go_wp2
      go_ret
      exact ⟨ret_bool (by simp; omega), rfl⟩
    · go_enter Try.func28, Try.ntmps28
      go_wp2
      go_ret
      exact ⟨ret_bool (by simp; omega), rfl⟩
  · go_enter Try.func28, Try.ntmps28
    go_wp2
    go_ret
    exact ⟨ret_bool (by simp; omega), rfl⟩

theorem word_Zext (v : BitVec 64) (n : Int) (w : World) :
    Calls Try.prog 11 #[.int .u64 (v.toNat : Int), .int .i64 n] w fun e w' => e = .returned (.int .u64 ((zext v n).toNat : Int)) ∧ w = w' := by
  by_cases h1 : n < 1
  · go_enter Try.func11, Try.ntmps11
    go_wp2
    go_ret
    exact ⟨ret_int (by rw [zext_low v n h1]; rfl), rfl⟩
  · by_cases h2 : 64 ≤ n
    · go_enter Try.func11, Try.ntmps11
      go_wp2
      go_ret
      exact ⟨ret_int (by rw [zext_all v n h2]), rfl⟩
    · go_enter Try.func11, Try.ntmps11
      go_wp2
      go_ret
      exact ⟨ret_int (mask_in v n (by omega) h2), rfl⟩

theorem word_Sext (v : BitVec 64) (n : Int) (w : World) :
    Calls Try.prog 13 #[.int .u64 (v.toNat : Int), .int .i64 n] w fun e w' => e = .returned (.int .i64 (sext v n).toInt) ∧ w = w' := by
  by_cases h1 : n < 1
  · go_enter Try.func13, Try.ntmps13
    go_wp2
    go_ret
    exact ⟨ret_int (by rw [sext_low v n h1]; rfl), rfl⟩
  · by_cases h2 : 64 ≤ n
    · go_enter Try.func13, Try.ntmps13
      go_wp2
      go_ret
      exact ⟨ret_int (by rw [sext_all v n h2]; exact wrap64_toNat v), rfl⟩
    · go_enter Try.func13, Try.ntmps13
      go_wp2
      go_ret
      exact ⟨ret_int (by rw [sext_mid v n h1 h2, shl_in _ _ (by omega), wrap64_toNat, sshr_in _ _ (by omega)]), rfl⟩

theorem word_Bits (v : BitVec 64) (lo n : Int) (w : World) :
    Calls Try.prog 15 #[.int .u64 (v.toNat : Int), .int .i64 lo, .int .i64 n] w fun e w' => e = .returned (.int .u64 ((bitsB v lo n).toNat : Int)) ∧ w = w' := by
  by_cases h : 0 ≤ lo ∧ lo ≤ 63
  · have hd : decide (0 ≤ lo ∧ lo ≤ 63) = true := by simpa using h
    obtain ⟨ha, hb⟩ := h
    go_enter Try.func15, Try.ntmps15
    go_wp2_with (first | (go_at_call 28; refine (word_inWord _ _).mono ?_; rintro e w' ⟨rfl, rfl⟩) | (go_at_call 11; rw [shr_in _ _ (by omega)]; refine (word_Zext _ _ _).mono ?_; rintro e w' ⟨rfl, rfl⟩))
    go_ret
    exact ⟨ret_int (by rw [bitsB_in v lo n ha hb]), rfl⟩
  · have hd : decide (0 ≤ lo ∧ lo ≤ 63) = false := by simpa using h
    have h' : lo < 0 ∨ 63 < lo := by omega
    clear h
    go_enter Try.func15, Try.ntmps15
    go_wp2_with (first | (go_at_call 28; refine (word_inWord _ _).mono ?_; rintro e w' ⟨rfl, rfl⟩) | (go_at_call 11; rw [shr_in _ _ (by omega)]; refine (word_Zext _ _ _).mono ?_; rintro e w' ⟨rfl, rfl⟩))
    go_ret
    exact ⟨ret_int (by rw [bitsB_out v lo n h']; rfl), rfl⟩

theorem word_Zext_ones (n : Int) (w : World) :
    Calls Try.prog 11 #[.int .u64 18446744073709551615, .int .i64 n] w fun e w' => e = .returned (.int .u64 ((zext (BitVec.allOnes 64) n).toNat : Int)) ∧ w = w' :=
  word_Zext (BitVec.allOnes 64) n w

theorem word_Put (v : BitVec 64) (lo n : Int) (x : BitVec 64) (w : World) :
    Calls Try.prog 17 #[.int .u64 (v.toNat : Int), .int .i64 lo, .int .i64 n, .int .u64 (x.toNat : Int)] w fun e w' => e = .returned (.int .u64 ((putB v lo n x).toNat : Int)) ∧ w = w' := by
  by_cases h : 0 ≤ lo ∧ lo ≤ 63
  · have hd : decide (0 ≤ lo ∧ lo ≤ 63) = true := by simpa using h
    obtain ⟨ha, hb⟩ := h
    go_enter Try.func17, Try.ntmps17
    go_wp2_with (first | (go_at_call 28; refine (word_inWord _ _).mono ?_; rintro e w' ⟨rfl, rfl⟩) | (go_at_call 11; refine (word_Zext_ones _ _).mono ?_; rintro e w' ⟨rfl, rfl⟩))
    go_ret
    exact ⟨ret_int (by rw [putB_in v lo n x ha hb, shl_in _ _ (by omega), shl_in _ _ (by omega), bits_andNot, bits_and, bits_or]; rfl), rfl⟩
  · have hd : decide (0 ≤ lo ∧ lo ≤ 63) = false := by simpa using h
    have h' : lo < 0 ∨ 63 < lo := by omega
    clear h
    go_enter Try.func17, Try.ntmps17
    go_wp2_with (first | (go_at_call 28; refine (word_inWord _ _).mono ?_; rintro e w' ⟨rfl, rfl⟩) | (go_at_call 11; refine (word_Zext_ones _ _).mono ?_; rintro e w' ⟨rfl, rfl⟩))
    go_ret
    exact ⟨ret_int (by rw [putB_out v lo n x h']), rfl⟩

theorem word_Fits (v : BitVec 64) (n : Int) (w : World) :
    Calls Try.prog 19 #[.int .i64 v.toInt, .int .i64 n] w fun e w' => e = .returned (.bool (fitsB v n)) ∧ w = w' := by
  have hw := wrapU_toInt v
  go_enter Try.func19, Try.ntmps19
  go_wp2_with (go_at_call 13; go_must (refine (word_Sext v _ _).mono ?_; rintro e w' ⟨rfl, rfl⟩))
  go_ret
  exact ⟨ret_bool (by rw [eq_toInt]; rfl), rfl⟩

theorem word_Halves (v : BitVec 64) (w : World) :
    Calls Try.prog 25 #[.int .u64 (v.toNat : Int)] w fun e w' => e = .returned (.tuple #[.int .u32 ((v.toNat : Int) / 4294967296), .int .u32 ((v.toNat : Int) % 4294967296)]) ∧ w = w' := by
  have hv := v.isLt
  go_enter Try.func25, Try.ntmps25
  go_wp2
  go_ret2
  exact ⟨rfl, rfl⟩

theorem word_Whole (a b : Int) (w : World) (ha : 0 ≤ a) (ha' : a < 4294967296) (hb : 0 ≤ b) (hb' : b < 4294967296) :
    Calls Try.prog 26 #[.int .u32 a, .int .u32 b] w fun e w' => e = .returned (.int .u64 (a * 4294967296 + b)) ∧ w = w' := by
  go_enter Try.func26, Try.ntmps26
  go_wp2
  go_ret
  exact ⟨ret_int (or_halves a b ha ha' hb hb'), rfl⟩

theorem word_Halves_whole (a b : Int) (w : World) (ha : 0 ≤ a) (ha' : a < 4294967296) (hb : 0 ≤ b) (hb' : b < 4294967296) :
    Calls Try.prog 25 #[.int .u64 (a * 4294967296 + b)] w fun e w' => e = .returned (.tuple #[.int .u32 a, .int .u32 b]) ∧ w = w' := by
  obtain ⟨v, hv⟩ : ∃ v : BitVec 64, a * 4294967296 + b = (v.toNat : Int) := ⟨BitVec.ofNat 64 (a * 4294967296 + b).toNat, by rw [BitVec.toNat_ofNat]; omega⟩
  have h := word_Halves v w
  rw [← hv] at h
  rwa [show (a * 4294967296 + b) / 4294967296 = a by omega, show (a * 4294967296 + b) % 4294967296 = b by omega] at h
theorem word_Whole_halves (v : BitVec 64) (w : World) :
    Calls Try.prog 26 #[.int .u32 ((v.toNat : Int) / 4294967296), .int .u32 ((v.toNat : Int) % 4294967296)] w fun e w' => e = .returned (.int .u64 (v.toNat : Int)) ∧ w = w' := by
  have hv := v.isLt
  have h := word_Whole ((v.toNat : Int) / 4294967296) ((v.toNat : Int) % 4294967296) w (by omega) (by omega) (by omega) (by omega)
  rwa [show (v.toNat : Int) / 4294967296 * 4294967296 + (v.toNat : Int) % 4294967296 = (v.toNat : Int) by omega] at h
end Go.Proofs.Ytchddecnglcemaa

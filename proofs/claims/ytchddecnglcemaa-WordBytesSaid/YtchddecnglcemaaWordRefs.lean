/-
  What each function of the document's answer to layer 1 that makes no memory answers: a contract a function, for every argument. No condition.
-/
import Derived.Test.YtchddecnglcemaaWordFns
import Derived.Lib.Hide
namespace Go.Proofs.Ytchddecnglcemaa
open Go Go.RowKit
set_option linter.unusedSimpArgs false
set_option linter.unusedVariables false

theorem ref_bit (v : BitVec 64) (k : Nat) (hk : k < 64) (w : World) :
    Calls Try.prog 27 #[.int .u64 (v.toNat : Int), .int .i64 (k : Int)] w fun e w' => e = .returned (.int .u64 ((bitv v k).toNat : Int)) ∧ w = w' := by
  go_enter Try.func27, Try.ntmps27
  go_wp2
  go_ret
  exact ⟨ret_int (bit_word v k hk), rfl⟩

theorem ref_bitI (v : BitVec 64) (i : Int) (h0 : 0 ≤ i) (h1 : i < 64) (w : World) :
    Calls Try.prog 27 #[.int .u64 (v.toNat : Int), .int .i64 i] w fun e w' => e = .returned (.int .u64 ((bitv v i.toNat).toNat : Int)) ∧ w = w' := by
  obtain ⟨k, rfl⟩ := Int.eq_ofNat_of_zero_le h0
  exact ref_bit v k (by omega) w

theorem ref_Zext (v : BitVec 64) (n : Int) (w : World) :
    Calls Try.prog 12 #[.int .u64 (v.toNat : Int), .int .i64 n] w fun e w' => e = .returned (.int .u64 ((zext v n).toNat : Int)) ∧ w = w' := by
  go_enter Try.func12, Try.ntmps12
  go_wp2
  go_loop [5, 6] (fun o i => ∃ k : Nat, k ≤ 64 ∧ ((k : Int) ≤ n ∨ k = 0) ∧ i = .int .i64 (k : Int) ∧ o = .int .u64 ((zext v (k : Int)).toNat : Int)) (fun _ i => 64 - (intOf i).toNat)
  case atStart => exact ⟨0, by omega, by omega, rfl, by rw [show ((0 : Nat) : Int) = 0 from rfl, zext_zero]; rfl⟩
  case round =>
    obtain ⟨k, hk, hkn, rfl, rfl⟩ := hrel
    by_cases h1 : (k : Int) < n
    · by_cases h2 : k < 64
      · go_wp2_with (go_at_call 27; refine (ref_bit _ _ (by omega) _).mono ?_; rintro e w' ⟨rfl, rfl⟩)
        go_round
        case rel => exact ⟨k + 1, by omega, by omega, by go_num, by rw [grow v v k k h2 rfl]⟩
        case measure => simp [intOf]; omega
      · go_wp2
        go_ret
        exact ⟨ret_int (by rw [zext_grown v n k hk hkn (by omega)]), rfl⟩
    · go_wp2
      go_ret
      exact ⟨ret_int (by rw [zext_grown v n k hk hkn (by omega)]), rfl⟩

theorem ref_Sext (v : BitVec 64) (n : Int) (w : World) :
    Calls Try.prog 14 #[.int .u64 (v.toNat : Int), .int .i64 n] w fun e w' => e = .returned (.int .i64 (sext v n).toInt) ∧ w = w' := by
  by_cases h1 : n < 1
  · go_enter Try.func14, Try.ntmps14
    go_wp2
    go_ret
    exact ⟨ret_int (by rw [sext_low v n h1]; rfl), rfl⟩
  · by_cases h2 : 64 ≤ n
    · go_enter Try.func14, Try.ntmps14
      go_wp2
      go_ret
      exact ⟨ret_int (by rw [sext_all v n h2]; exact wrap64_toNat v), rfl⟩
    · obtain ⟨m, rfl⟩ : ∃ m : Nat, n = (m : Int) + 1 := ⟨n.toNat - 1, by omega⟩
      have hm : m < 63 := by omega
      clear h1 h2
      go_enter Try.func14, Try.ntmps14
      go_wp2_with (go_at_call 12; refine (ref_Zext _ _ _).mono ?_; rintro e w' ⟨rfl, rfl⟩)
      go_loop [5, 6] (fun o i => ∃ k : Nat, k ≤ 64 ∧ m + 1 ≤ k ∧ i = .int .i64 (k : Int) ∧ o = .int .u64 ((zext (sext v ((m : Int) + 1)) (k : Int)).toNat : Int)) (fun _ i => 64 - (intOf i).toNat)
      case atStart => exact ⟨m + 1, by omega, by omega, by go_num, by rw [show ((m + 1 : Nat) : Int) = (m : Int) + 1 from rfl, sext_grown v _ (by omega)]⟩
      case round =>
        obtain ⟨k, hk, hkm, rfl, rfl⟩ := hrel
        by_cases h2 : k < 64
        · go_wp2_with (go_at_call 27; refine (ref_bit _ m (by omega) _).mono ?_; rintro e w' ⟨rfl, rfl⟩)
          go_round
          case rel => exact ⟨k + 1, by omega, by omega, by go_num, by rw [grow _ v k m h2 (sext_top v m k hkm h2)]⟩
          case measure => simp [intOf]; omega
        · go_wp2
          go_ret
          exact ⟨ret_int (by rw [zext_all _ _ (by omega), wrap64_toNat]), rfl⟩

theorem ref_Bits (v : BitVec 64) (lo n : Int) (w : World) :
    Calls Try.prog 16 #[.int .u64 (v.toNat : Int), .int .i64 lo, .int .i64 n] w fun e w' => e = .returned (.int .u64 ((bitsB v lo n).toNat : Int)) ∧ w = w' := by
  by_cases h1 : 0 ≤ lo
  · by_cases h2 : lo ≤ 63
    · by_cases h3 : 1 ≤ n
      · obtain ⟨l, rfl⟩ : ∃ l : Nat, lo = (l : Int) := ⟨lo.toNat, by omega⟩
        have hl : l < 64 := by omega
        have hl' : l ≤ 63 := by omega
        clear h1 h2
        go_enter Try.func16, Try.ntmps16
        go_wp2
        go_loop [7, 8] (fun o i => ∃ k : Nat, k ≤ 64 ∧ (k : Int) ≤ n ∧ l + k ≤ 64 ∧ i = .int .i64 (k : Int) ∧ o = .int .u64 ((zext (bitsB v (l : Int) n) (k : Int)).toNat : Int)) (fun _ i => 64 - (intOf i).toNat)
        case atStart => exact ⟨0, by omega, by omega, by omega, rfl, by rw [show ((0 : Nat) : Int) = 0 from rfl, zext_zero]; rfl⟩
        case round =>
          obtain ⟨k, hk, hkn, hlk, rfl, rfl⟩ := hrel
          by_cases h4 : (k : Int) < n
          · by_cases h5 : l + k < 64
            · have h5' : (l : Int) + (k : Int) < 64 := by omega
              go_wp2_with (go_at_call 27; refine (ref_bit _ (l + k) (by omega) _).mono ?_; rintro e w' ⟨rfl, rfl⟩)
              go_round
              case rel => exact ⟨k + 1, by omega, by omega, by omega, by go_num, by rw [grow _ v k (l + k) (by omega) (bitsB_at v l n k (by omega) h4)]⟩
              case measure => simp [intOf]; omega
            · have h5' : ¬ (l : Int) + (k : Int) < 64 := by omega
              go_wp2
              go_ret
              exact ⟨ret_int (by rw [bitsB_grown v l n k (by omega) (by omega)]), rfl⟩
          · go_wp2
            go_ret
            exact ⟨ret_int (by rw [bitsB_grown v l n k (by omega) (by omega)]), rfl⟩
      · have h3' : n < 1 := by omega
        clear h3
        go_enter Try.func16, Try.ntmps16
        go_wp2
        go_ret
        exact ⟨ret_int (by rw [bitsB_in v lo n h1 h2, zext_low _ _ h3']; rfl), rfl⟩
    · go_enter Try.func16, Try.ntmps16
      go_wp2
      go_ret
      exact ⟨ret_int (by rw [bitsB_out v lo n (by omega)]; rfl), rfl⟩
  · go_enter Try.func16, Try.ntmps16
    go_wp2
    go_ret
    exact ⟨ret_int (by rw [bitsB_out v lo n (by omega)]; rfl), rfl⟩

theorem ref_Put (v : BitVec 64) (lo n : Int) (x : BitVec 64) (w : World) :
    Calls Try.prog 18 #[.int .u64 (v.toNat : Int), .int .i64 lo, .int .i64 n, .int .u64 (x.toNat : Int)] w fun e w' => e = .returned (.int .u64 ((putB v lo n x).toNat : Int)) ∧ w = w' := by
  by_cases h1 : 0 ≤ lo
  · by_cases h2 : lo ≤ 63
    · by_cases h3 : 1 ≤ n
      · obtain ⟨l, rfl⟩ : ∃ l : Nat, lo = (l : Int) := ⟨lo.toNat, by omega⟩
        have hl' : l ≤ 63 := by omega
        clear h1 h2
        go_enter Try.func18, Try.ntmps18
        go_wp2
        go_loop [9, 10, 11] (fun o i _ => ∃ k : Nat, k ≤ 64 ∧ i = .int .i64 (k : Int) ∧ o = .int .u64 ((zext (putB v (l : Int) n x) (k : Int)).toNat : Int)) (fun _ i _ => 64 - (intOf i).toNat)
        case atStart => exact ⟨0, by omega, rfl, by rw [show ((0 : Nat) : Int) = 0 from rfl, zext_zero]; rfl⟩
        case round =>
          obtain ⟨k, hk, rfl, rfl⟩ := hrel
          by_cases h4 : k < 64
          · by_cases h5 : l ≤ k
            · by_cases h6 : (k : Int) - l < n
              · go_wp2_with (go_at_call 27; refine (ref_bitI _ _ (by omega) (by omega) _).mono ?_; rintro e w' ⟨rfl, rfl⟩)
                go_round
                case rel => exact ⟨k + 1, by omega, by go_num, by rw [grow _ x k (k - l) h4 (putB_at v l n x k hl' h4 h5 h6)]⟩
                case measure => simp [intOf]; omega
              · go_wp2_with (go_at_call 27; refine (ref_bit v k h4 _).mono ?_; rintro e w' ⟨rfl, rfl⟩)
                go_round
                case rel => exact ⟨k + 1, by omega, by go_num, by rw [grow _ v k k h4 (putB_far v l n x k (by omega))]⟩
                case measure => simp [intOf]; omega
            · go_wp2_with (go_at_call 27; refine (ref_bit v k h4 _).mono ?_; rintro e w' ⟨rfl, rfl⟩)
              go_round
              case rel => exact ⟨k + 1, by omega, by go_num, by rw [grow _ v k k h4 (putB_far v l n x k (by omega))]⟩
              case measure => simp [intOf]; omega
          · go_wp2
            go_ret
            exact ⟨ret_int (by rw [zext_all _ _ (by omega)]), rfl⟩
      · have h3' : n < 1 := by omega
        clear h3
        go_enter Try.func18, Try.ntmps18
        go_wp2
        go_ret
        exact ⟨ret_int (by rw [putB_low v lo n x h3']), rfl⟩
    · go_enter Try.func18, Try.ntmps18
      go_wp2
      go_ret
      exact ⟨ret_int (by rw [putB_out v lo n x (by omega)]), rfl⟩
  · go_enter Try.func18, Try.ntmps18
    go_wp2
    go_ret
    exact ⟨ret_int (by rw [putB_out v lo n x (by omega)]), rfl⟩

theorem ref_Fits (v : BitVec 64) (n : Int) (w : World) :
    Calls Try.prog 20 #[.int .i64 v.toInt, .int .i64 n] w fun e w' => e = .returned (.bool (fitsB v n)) ∧ w = w' := by
  have hw := wrapU_toInt v
  by_cases h1 : n < 1
  · go_enter Try.func20, Try.ntmps20
    go_wp2
    go_ret
    exact ⟨ret_bool (by rw [fitsB, sext_low v n h1, ← eq_toInt, BitVec.toInt_zero, Bool.eq_iff_iff]; simp; omega), rfl⟩
  · by_cases h2 : 64 ≤ n
    · go_enter Try.func20, Try.ntmps20
      go_wp2
      go_ret
      exact ⟨ret_bool (by rw [fitsB, sext_all v n h2]; simp), rfl⟩
    · go_enter Try.func20, Try.ntmps20
      go_wp2_with (go_at_call 14; refine (ref_Sext v _ _).mono ?_; rintro e w' ⟨rfl, rfl⟩)
      go_ret
      exact ⟨ret_bool (by rw [eq_toInt]; rfl), rfl⟩
end Go.Proofs.Ytchddecnglcemaa

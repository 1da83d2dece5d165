/-
  What the document's Number of a text answers: a contract. Conditions: those that each names.
-/
import Derived.Test.YtgeapkjegemkeaaGreatDoorLexFns
namespace Go.Proofs.YtgeapkjegemkeaaGreatDoor
open Go Go.RowKit
set_option linter.unusedSimpArgs false
set_option linter.unusedVariables false

/-- What Number leaves. -/
def NumP (w : World) (V : Nat) (B : Bool) (e : Ending) (w' : World) : Prop := e = .returned (.tuple #[.int .u64 (V : Int), .bool B]) ∧ w = w'
theorem hex_none {f : Nat → Nat} {n : Nat} (h0 : 2 ≤ n ∧ f 0 = 48 ∧ f 1 = 120) (h : n < 3 ∨ 18 < n ∨ upTo hexB f n 2 ≠ n) : numV f n = 0 ∧ numB f n = false := by
  unfold numV numB numF; rw [if_pos h0, if_pos h]; exact ⟨rfl, rfl⟩
theorem hex_some {f : Nat → Nat} {n : Nat} (h0 : 2 ≤ n ∧ f 0 = 48 ∧ f 1 = 120) (h3 : 3 ≤ n) (h18 : n ≤ 18) (h : upTo hexB f n 2 = n) : numV f n = valF 16 hexN f 2 (n - 2) ∧ numB f n = true := by
  unfold numV numB numF; rw [if_pos h0, if_neg (by omega)]; exact ⟨rfl, rfl⟩
theorem dec_none {f : Nat → Nat} {n : Nat} (h0 : ¬ (2 ≤ n ∧ f 0 = 48 ∧ f 1 = 120)) (h : n < 1 ∨ 20 < n ∨ (f 0 = 48 ∧ 1 < n) ∨ upTo digB f n 0 ≠ n ∨ 18446744073709551616 ≤ valF 10 decN f 0 n) : numV f n = 0 ∧ numB f n = false := by
  unfold numV numB numF; rw [if_neg h0, if_pos h]; exact ⟨rfl, rfl⟩
theorem dec_some {f : Nat → Nat} {n : Nat} (h0 : ¬ (2 ≤ n ∧ f 0 = 48 ∧ f 1 = 120)) (h1 : 1 ≤ n) (h20 : n ≤ 20) (hz : ¬ (f 0 = 48 ∧ 1 < n)) (h : upTo digB f n 0 = n) (hv : valF 10 decN f 0 n < 18446744073709551616) : numV f n = valF 10 decN f 0 n ∧ numB f n = true := by
  unfold numV numB numF; rw [if_neg h0, if_neg (by omega)]; exact ⟨rfl, rfl⟩
theorem hexN_lt {c : Nat} (h : hexB c = true) : hexN c < 16 := by
  have := of_decide_eq_true h; unfold hexN; split <;> omega
theorem hex_lt {f : Nat → Nat} {n k : Nat} (h : upTo hexB f n 2 = upTo hexB f n k) (h2 : 2 ≤ k) (hk : k ≤ n) : valF 16 hexN f 2 (k - 2) < 16 ^ (k - 2) :=
  val_lt 16 hexN f 2 (k - 2) fun j hj => hexN_lt (upTo_all hexB f n 2 (2 + j) (by omega) (by rw [h]; have := upTo_ge hexB f n k; omega))
section
variable (s : ByteArray) (hs : s.size ≤ maxLen) (w : World)
include hs
theorem ref_Number_hex_no (h0 : 2 ≤ s.size ∧ byt s 0 = 48 ∧ byt s 1 = 120) (h : s.size < 3 ∨ 18 < s.size) : Calls Tryz.prog 118 #[.string s] w (NumP w (numV (byt s) s.size) (numB (byt s) s.size)) := by
  unfold maxLen at hs
  have hn := hex_none h0 (by omega : s.size < 3 ∨ 18 < s.size ∨ upTo hexB (byt s) s.size 2 ≠ s.size)
  rw [hn.1, hn.2]
  have hp : 0 < s.size := by have := h0.1; omega
  have hp1 : 1 < s.size := by have := h0.1; omega
  have e0 := byt_is hp
  have e1 := byt_is hp1
  rw [h0.2.1] at e0
  rw [h0.2.2] at e1
  have h2 : (2 : Int) ≤ (s.size : Int) := by omega
  have h00 := h0.1
  clear hn h0
  rcases h with h | h
  · have h3 : (s.size : Int) < 3 := by omega
    go_enter Tryz.func118, Tryz.ntmps118
    go_wp2
    go_ret2
    exact ⟨rfl, rfl⟩
  · have h3 : ¬ (s.size : Int) < 3 := by omega
    have h4 : (18 : Int) < (s.size : Int) := by omega
    go_enter Tryz.func118, Tryz.ntmps118
    go_wp2
    go_ret2
    exact ⟨rfl, rfl⟩
theorem ref_Number_hex (h0 : 2 ≤ s.size ∧ byt s 0 = 48 ∧ byt s 1 = 120) (h3 : 3 ≤ s.size) (h18 : s.size ≤ 18) : Calls Tryz.prog 118 #[.string s] w (NumP w (numV (byt s) s.size) (numB (byt s) s.size)) := by
  unfold maxLen at hs
  have H0 := Lib.hid h0
  have hp : 0 < s.size := by have := h0.1; omega
  have hp1 : 1 < s.size := by have := h0.1; omega
  have e0 := byt_is hp
  have e1 := byt_is hp1
  rw [h0.2.1] at e0
  rw [h0.2.2] at e1
  have h2 : (2 : Int) ≤ (s.size : Int) := by omega
  have h3' : ¬ (s.size : Int) < 3 := by omega
  have h4' : ¬ (18 : Int) < (s.size : Int) := by omega
  clear h0
  go_enter Tryz.func118, Tryz.ntmps118
  go_wp2
  go_loop [4, 5] (fun u v => ∃ k : Nat, 2 ≤ k ∧ k ≤ s.size ∧ v = .int .i64 (k : Int) ∧ u = .int .u64 (valF 16 hexN (byt s) 2 (k - 2) : Int) ∧ upTo hexB (byt s) s.size 2 = upTo hexB (byt s) s.size k) (fun _ v => s.size - (intOf v).toNat)
  case atStart => exact ⟨2, Nat.le_refl _, by omega, rfl, rfl, rfl⟩
  case round =>
    obtain ⟨k, h2k, hk, rfl, rfl, hU⟩ := hrel
    by_cases hlt : k < s.size
    · have hlt' : (k : Int) < (s.size : Int) := by omega
      have e := byt_is hlt
      have hV : valF 16 hexN (byt s) 2 (k - 2) < 1152921504606846976 := by
        have h1 := hex_lt hU h2k hk
        have h2 : 16 ^ (k - 2) ≤ 16 ^ 15 := Nat.pow_le_pow_right (by decide) (by omega)
        have h3 : 16 ^ 15 = 1152921504606846976 := by decide
        omega
      have hst : valF 16 hexN (byt s) 2 (k + 1 - 2) = valF 16 hexN (byt s) 2 (k - 2) * 16 + hexN (byt s k) := by
        rw [show k + 1 - 2 = (k - 2) + 1 by omega]
        show valF 16 hexN (byt s) 2 (k - 2) * 16 + hexN (byt s (2 + (k - 2))) = _
        rw [show 2 + (k - 2) = k by omega]
      have HU := Lib.hid hU
      have HT := Lib.hid hst
      clear hU hst
      have hc256 := byt_lt s k
      cases hh : hexB (byt s k) with
      | true =>
        have HS := Lib.hid (HU.out.trans (upTo_on hlt hh))
        have hc := of_decide_eq_true hh
        have HT2 : Hid (valF 16 hexN (byt s) 2 (k + 1 - 2) = valF 16 hexN (byt s) 2 (k - 2) * 16 + (if byt s k ≤ 57 then byt s k - 48 else byt s k - 87)) := Lib.hid HT.out
        clear hh HU HT
        generalize byt s k = c at e HT2 hc hc256
        generalize valF 16 hexN (byt s) 2 (k - 2) = V at hV HT2
        rcases hc with ⟨c1, c2⟩ | ⟨c1, c2⟩
        · have c1' : (48 : Int) ≤ (c : Int) := by omega
          have c2' : (c : Int) ≤ 57 := by omega
          go_wp2
          exact ⟨⟨k + 1, by omega, by omega, by go_num, by rw [HT2.out, if_pos c2]; exact congrArg (Value.int .u64) (by omega), HS.out⟩, by simp [intOf]; omega⟩
        · have c1' : (97 : Int) ≤ (c : Int) := by omega
          have c2' : (c : Int) ≤ 102 := by omega
          go_wp2
          exact ⟨⟨k + 1, by omega, by omega, by go_num, by rw [HT2.out, if_neg (by omega)]; exact congrArg (Value.int .u64) (by omega), HS.out⟩, by simp [intOf]; omega⟩
      | false =>
        have HS := Lib.hid (HU.out.trans (upTo_off (fun g => by have := g.2; rw [hh] at this; cases this)))
        have hc := of_decide_eq_false hh
        have HN := Lib.hid (hex_none H0.out (.inr (.inr (by rw [HS.out]; omega))))
        clear hh HU HT HS hV
        generalize byt s k = c at e hc hc256
        generalize valF 16 hexN (byt s) 2 (k - 2) = V
        by_cases c1 : c < 48
        · have c1' : (c : Int) < 48 := by omega
          have c2' : ¬ (97 : Int) ≤ (c : Int) := by omega
          clear hc
          go_wp2
          go_ret2
          exact ⟨by rw [HN.out.1, HN.out.2]; rfl, rfl⟩
        · by_cases c2 : c < 97
          · have c1' : ¬ (c : Int) ≤ 57 := by omega
            have c2' : (c : Int) < 97 := by omega
            clear hc
            go_wp2
            go_ret2
            exact ⟨by rw [HN.out.1, HN.out.2]; rfl, rfl⟩
          · have c1' : ¬ (c : Int) ≤ 57 := by omega
            have c2' : ¬ (c : Int) ≤ 102 := by omega
            clear hc
            go_wp2
            go_ret2
            exact ⟨by rw [HN.out.1, HN.out.2]; rfl, rfl⟩
    · obtain rfl : k = s.size := by omega
      have HN := Lib.hid (hex_some H0.out h3 h18 (hU.trans (upTo_off (fun g => hlt g.1))))
      clear hU
      go_wp2
      go_ret2
      exact ⟨by rw [HN.out.1, HN.out.2]; rfl, rfl⟩
theorem ref_Number_dec_no (h0 : ¬ (2 ≤ s.size ∧ byt s 0 = 48 ∧ byt s 1 = 120)) (h : s.size < 1 ∨ 20 < s.size ∨ (byt s 0 = 48 ∧ 1 < s.size)) : Calls Tryz.prog 118 #[.string s] w (NumP w (numV (byt s) s.size) (numB (byt s) s.size)) := by
  unfold maxLen at hs
  have hn := dec_none h0 (by rcases h with h | h | h <;> simp [h] : s.size < 1 ∨ 20 < s.size ∨ (byt s 0 = 48 ∧ 1 < s.size) ∨ upTo digB (byt s) s.size 0 ≠ s.size ∨ 18446744073709551616 ≤ valF 10 decN (byt s) 0 s.size)
  rw [hn.1, hn.2]
  clear hn
  by_cases hz : s.size < 1
  · have h2 : ¬ (2 : Int) ≤ (s.size : Int) := by omega
    have h3 : (s.size : Int) < 1 := by omega
    clear h h0
    go_enter Tryz.func118, Tryz.ntmps118
    go_wp2
    go_ret2
    exact ⟨rfl, rfl⟩
  have h1 : ¬ (s.size : Int) < 1 := by omega
  have hp : 0 < s.size := by omega
  have e0 := byt_is hp
  have h2 : (2 : Int) ≤ (s.size : Int) := by omega
  by_cases h48 : byt s 0 = 48
  · have hp1 : 1 < s.size := by omega
    have hp1' : (1 : Int) < (s.size : Int) := by omega
    have e1 := byt_is hp1
    have g1 : ¬ ((byt s 1 : Nat) : Int) = 120 := fun g => h0 ⟨by omega, h48, by omega⟩
    have g2 : (((byt s 1 : Nat) : Int) == 120) = false := beq_false_of_ne g1
    rw [h48] at e0
    clear h h0 h48
    generalize byt s 1 = d at e1 g1 g2
    by_cases h20 : 20 < s.size
    · have h20' : (20 : Int) < (s.size : Int) := by omega
      go_enter Tryz.func118, Tryz.ntmps118
      go_wp2
      go_ret2
      exact ⟨rfl, rfl⟩
    · have h20' : ¬ (20 : Int) < (s.size : Int) := by omega
      go_enter Tryz.func118, Tryz.ntmps118
      go_wp2
      go_ret2
      exact ⟨rfl, rfl⟩
  · have h20 : 20 < s.size := by omega
    have h20' : (20 : Int) < (s.size : Int) := by omega
    have g1 : ¬ ((byt s 0 : Nat) : Int) = 48 := by omega
    have g2 : (((byt s 0 : Nat) : Int) == 48) = false := beq_false_of_ne g1
    clear h h0 h48
    generalize byt s 0 = d at e0 g1 g2
    go_enter Tryz.func118, Tryz.ntmps118
    go_wp2
    go_ret2
    exact ⟨rfl, rfl⟩
set_option maxRecDepth 100000 in
set_option maxHeartbeats 2000000 in
theorem ref_Number_dec (h0 : ¬ (2 ≤ s.size ∧ byt s 0 = 48 ∧ byt s 1 = 120)) (h1 : 1 ≤ s.size) (h20 : s.size ≤ 20) (hz : ¬ (byt s 0 = 48 ∧ 1 < s.size)) : Calls Tryz.prog 118 #[.string s] w (NumP w (numV (byt s) s.size) (numB (byt s) s.size)) := by
  unfold maxLen at hs
  have H0 := Lib.hid h0
  have HZ := Lib.hid hz
  have hn1 : ¬ (s.size : Int) < 1 := by omega
  have hp : 0 < s.size := by omega
  have h20' : ¬ (20 : Int) < (s.size : Int) := by omega
  have e0 := byt_is hp
  have hcase : (s.size = 1 ∧ byt s 0 = 48) ∨ (s.size = 1 ∧ ¬ byt s 0 = 48) ∨ (2 ≤ s.size ∧ ¬ byt s 0 = 48) := by omega
  clear h0 hz
  rcases hcase with ⟨h2, h48⟩ | ⟨h2, h48⟩ | ⟨h2, h48⟩
  · have h2' : ¬ (2 : Int) ≤ (s.size : Int) := by omega
    have h2'' : ¬ (1 : Int) < (s.size : Int) := by omega
    rw [h48] at e0
    clear h48 h2
    go_enter Tryz.func118, Tryz.ntmps118
    go_wp2
    go_loop [7, 8] (fun u v => ∃ k : Nat, k ≤ s.size ∧ v = .int .i64 (k : Int) ∧ u = .int .u64 (valF 10 decN (byt s) 0 k : Int) ∧ upTo digB (byt s) s.size 0 = upTo digB (byt s) s.size k ∧ valF 10 decN (byt s) 0 k < 18446744073709551616) (fun _ v => s.size - (intOf v).toNat)
    case atStart => exact ⟨0, by omega, rfl, rfl, rfl, by show 0 < 18446744073709551616; decide⟩
    case round =>
      obtain ⟨k, hk, rfl, rfl, hU, hV⟩ := hrel
      by_cases hlt : k < s.size
      · have hlt' : (k : Int) < (s.size : Int) := by omega
        have e := byt_is hlt
        have HT := Lib.hid (show valF 10 decN (byt s) 0 (k + 1) = valF 10 decN (byt s) 0 k * 10 + (byt s k - 48) by
          show valF 10 decN (byt s) 0 k * 10 + decN (byt s (0 + k)) = _
          rw [Nat.zero_add]; rfl)
        have HG := Lib.hid (show valF 10 decN (byt s) 0 (k + 1) ≤ valF 10 decN (byt s) 0 s.size by
          have := val_le 10 decN (byt s) 0 (by decide) (k + 1) (s.size - (k + 1))
          rwa [show k + 1 + (s.size - (k + 1)) = s.size by omega] at this)
        have HU := Lib.hid hU
        clear hU
        have hc256 := byt_lt s k
        cases hd : digB (byt s k) with
        | false =>
          have HD := Lib.hid (ref_digit_is hd)
          have HS := Lib.hid (HU.out.trans (upTo_off (fun g => by have := g.2; rw [hd] at this; cases this)))
          have HN := Lib.hid (dec_none H0.out (.inr (.inr (.inr (.inl (by rw [HS.out]; omega))))))
          clear hd HU HS HT HG hV
          generalize byt s k = c at e HD hc256
          generalize valF 10 decN (byt s) 0 k = V
          go_wp2_with (go_at_call 116; (with_reducible refine (HD.out _).mono ?_); rintro e w' ⟨rfl, rfl⟩)
          go_ret2
          exact ⟨by rw [HN.out.1, HN.out.2]; rfl, rfl⟩
        | true =>
          have HD := Lib.hid (ref_digit_is hd)
          have HS := Lib.hid (HU.out.trans (upTo_on hlt hd))
          have hc := of_decide_eq_true hd
          obtain ⟨c1, c2⟩ := hc
          have HO := Lib.hid (show 18446744073709551616 ≤ valF 10 decN (byt s) 0 (k + 1) → numV (byt s) s.size = 0 ∧ numB (byt s) s.size = false from fun h => dec_none H0.out (.inr (.inr (.inr (.inr (Nat.le_trans h HG.out))))))
          clear hd HU HG
          generalize byt s k = c at e HD hc256 HT c1 c2
          generalize valF 10 decN (byt s) 0 k = V at hV HT
          generalize hv1 : valF 10 decN (byt s) 0 (k + 1) = V1 at HT HO
          have HV1 := Lib.hid hv1
          clear hv1
          have c1' : (48 : Int) ≤ (c : Int) := by omega
          have c2' : (c : Int) ≤ 57 := by omega
          by_cases hgt : 1844674407370955161 < V
          · have hgt' : (1844674407370955161 : Int) < (V : Int) := by omega
            have HN := Lib.hid (HO.out (by rw [HT.out]; omega))
            clear HO HT hgt
            go_wp2_with (go_at_call 116; (with_reducible refine (HD.out _).mono ?_); rintro e w' ⟨rfl, rfl⟩)
            go_ret2
            exact ⟨by rw [HN.out.1, HN.out.2]; rfl, rfl⟩
          · have hgt' : ¬ (1844674407370955161 : Int) < (V : Int) := by omega
            by_cases heq : V = 1844674407370955161
            · subst heq
              by_cases h5 : 53 < c
              · have h5' : (5 : Int) < (c : Int) - 48 := by omega
                have HN := Lib.hid (HO.out (by rw [HT.out]; omega))
                clear HO HT hgt h5
                go_wp2_with (go_at_call 116; (with_reducible refine (HD.out _).mono ?_); rintro e w' ⟨rfl, rfl⟩)
                go_ret2
                exact ⟨by rw [HN.out.1, HN.out.2]; rfl, rfl⟩
              · have h5' : ¬ (5 : Int) < (c : Int) - 48 := by omega
                have hb := Lib.hid (show V1 < 18446744073709551616 by rw [HT.out]; omega)
                clear HO hgt h5
                go_wp2_with (go_at_call 116; (with_reducible refine (HD.out _).mono ?_); rintro e w' ⟨rfl, rfl⟩)
                exact ⟨⟨k + 1, by omega, by go_num, by rw [HV1.out, HT.out]; exact congrArg (Value.int .u64) (by omega), HS.out, by rw [HV1.out]; exact hb.out⟩, by simp [intOf]; omega⟩
            · have heq' : ¬ (V : Int) = 1844674407370955161 := by omega
              have heq2 : ((V : Int) == 1844674407370955161) = false := beq_false_of_ne heq'
              have hb := Lib.hid (show V1 < 18446744073709551616 by rw [HT.out]; omega)
              clear HO hgt heq
              go_wp2_with (go_at_call 116; (with_reducible refine (HD.out _).mono ?_); rintro e w' ⟨rfl, rfl⟩)
              exact ⟨⟨k + 1, by omega, by go_num, by rw [HV1.out, HT.out]; exact congrArg (Value.int .u64) (by omega), HS.out, by rw [HV1.out]; exact hb.out⟩, by simp [intOf]; omega⟩
      · obtain rfl : k = s.size := by omega
        have HN := Lib.hid (dec_some H0.out h1 h20 HZ.out (hU.trans (upTo_off (fun g => hlt g.1))) hV)
        clear hU hV
        go_wp2
        go_ret2
        exact ⟨by rw [HN.out.1, HN.out.2]; rfl, rfl⟩
  · have h2' : ¬ (2 : Int) ≤ (s.size : Int) := by omega
    have h2'' : ¬ (1 : Int) < (s.size : Int) := by omega
    have g1 : ¬ ((byt s 0 : Nat) : Int) = 48 := by omega
    have g2 : (((byt s 0 : Nat) : Int) == 48) = false := beq_false_of_ne g1
    clear h48 h2
    generalize byt s 0 = d0 at e0 g1 g2
    go_enter Tryz.func118, Tryz.ntmps118
    go_wp2
    go_loop [7, 8] (fun u v => ∃ k : Nat, k ≤ s.size ∧ v = .int .i64 (k : Int) ∧ u = .int .u64 (valF 10 decN (byt s) 0 k : Int) ∧ upTo digB (byt s) s.size 0 = upTo digB (byt s) s.size k ∧ valF 10 decN (byt s) 0 k < 18446744073709551616) (fun _ v => s.size - (intOf v).toNat)
    case atStart => exact ⟨0, by omega, rfl, rfl, rfl, by show 0 < 18446744073709551616; decide⟩
    case round =>
      obtain ⟨k, hk, rfl, rfl, hU, hV⟩ := hrel
      by_cases hlt : k < s.size
      · have hlt' : (k : Int) < (s.size : Int) := by omega
        have e := byt_is hlt
        have HT := Lib.hid (show valF 10 decN (byt s) 0 (k + 1) = valF 10 decN (byt s) 0 k * 10 + (byt s k - 48) by
          show valF 10 decN (byt s) 0 k * 10 + decN (byt s (0 + k)) = _
          rw [Nat.zero_add]; rfl)
        have HG := Lib.hid (show valF 10 decN (byt s) 0 (k + 1) ≤ valF 10 decN (byt s) 0 s.size by
          have := val_le 10 decN (byt s) 0 (by decide) (k + 1) (s.size - (k + 1))
          rwa [show k + 1 + (s.size - (k + 1)) = s.size by omega] at this)
        have HU := Lib.hid hU
        clear hU
        have hc256 := byt_lt s k
        cases hd : digB (byt s k) with
        | false =>
          have HD := Lib.hid (ref_digit_is hd)
          have HS := Lib.hid (HU.out.trans (upTo_off (fun g => by have := g.2; rw [hd] at this; cases this)))
          have HN := Lib.hid (dec_none H0.out (.inr (.inr (.inr (.inl (by rw [HS.out]; omega))))))
          clear hd HU HS HT HG hV
          generalize byt s k = c at e HD hc256
          generalize valF 10 decN (byt s) 0 k = V
          go_wp2_with (go_at_call 116; (with_reducible refine (HD.out _).mono ?_); rintro e w' ⟨rfl, rfl⟩)
          go_ret2
          exact ⟨by rw [HN.out.1, HN.out.2]; rfl, rfl⟩
        | true =>
          have HD := Lib.hid (ref_digit_is hd)
          have HS := Lib.hid (HU.out.trans (upTo_on hlt hd))
          have hc := of_decide_eq_true hd
          obtain ⟨c1, c2⟩ := hc
          have HO := Lib.hid (show 18446744073709551616 ≤ valF 10 decN (byt s) 0 (k + 1) → numV (byt s) s.size = 0 ∧ numB (byt s) s.size = false from fun h => dec_none H0.out (.inr (.inr (.inr (.inr (Nat.le_trans h HG.out))))))
          clear hd HU HG
          generalize byt s k = c at e HD hc256 HT c1 c2
          generalize valF 10 decN (byt s) 0 k = V at hV HT
          generalize hv1 : valF 10 decN (byt s) 0 (k + 1) = V1 at HT HO
          have HV1 := Lib.hid hv1
          clear hv1
          have c1' : (48 : Int) ≤ (c : Int) := by omega
          have c2' : (c : Int) ≤ 57 := by omega
          by_cases hgt : 1844674407370955161 < V
          · have hgt' : (1844674407370955161 : Int) < (V : Int) := by omega
            have HN := Lib.hid (HO.out (by rw [HT.out]; omega))
            clear HO HT hgt
            go_wp2_with (go_at_call 116; (with_reducible refine (HD.out _).mono ?_); rintro e w' ⟨rfl, rfl⟩)
            go_ret2
            exact ⟨by rw [HN.out.1, HN.out.2]; rfl, rfl⟩
          · have hgt' : ¬ (1844674407370955161 : Int) < (V : Int) := by omega
            by_cases heq : V = 1844674407370955161
            · subst heq
              by_cases h5 : 53 < c
              · have h5' : (5 : Int) < (c : Int) - 48 := by omega
                have HN := Lib.hid (HO.out (by rw [HT.out]; omega))
                clear HO HT hgt h5
                go_wp2_with (go_at_call 116; (with_reducible refine (HD.out _).mono ?_); rintro e w' ⟨rfl, rfl⟩)
                go_ret2
                exact ⟨by rw [HN.out.1, HN.out.2]; rfl, rfl⟩
              · have h5' : ¬ (5 : Int) < (c : Int) - 48 := by omega
                have hb := Lib.hid (show V1 < 18446744073709551616 by rw [HT.out]; omega)
                clear HO hgt h5
                go_wp2_with (go_at_call 116; (with_reducible refine (HD.out _).mono ?_); rintro e w' ⟨rfl, rfl⟩)
                exact ⟨⟨k + 1, by omega, by go_num, by rw [HV1.out, HT.out]; exact congrArg (Value.int .u64) (by omega), HS.out, by rw [HV1.out]; exact hb.out⟩, by simp [intOf]; omega⟩
            · have heq' : ¬ (V : Int) = 1844674407370955161 := by omega
              have heq2 : ((V : Int) == 1844674407370955161) = false := beq_false_of_ne heq'
              have hb := Lib.hid (show V1 < 18446744073709551616 by rw [HT.out]; omega)
              clear HO hgt heq
              go_wp2_with (go_at_call 116; (with_reducible refine (HD.out _).mono ?_); rintro e w' ⟨rfl, rfl⟩)
              exact ⟨⟨k + 1, by omega, by go_num, by rw [HV1.out, HT.out]; exact congrArg (Value.int .u64) (by omega), HS.out, by rw [HV1.out]; exact hb.out⟩, by simp [intOf]; omega⟩
      · obtain rfl : k = s.size := by omega
        have HN := Lib.hid (dec_some H0.out h1 h20 HZ.out (hU.trans (upTo_off (fun g => hlt g.1))) hV)
        clear hU hV
        go_wp2
        go_ret2
        exact ⟨by rw [HN.out.1, HN.out.2]; rfl, rfl⟩
  · have h2' : (2 : Int) ≤ (s.size : Int) := by omega
    have g1 : ¬ ((byt s 0 : Nat) : Int) = 48 := by omega
    have g2 : (((byt s 0 : Nat) : Int) == 48) = false := beq_false_of_ne g1
    clear h48 h2
    generalize byt s 0 = d0 at e0 g1 g2
    go_enter Tryz.func118, Tryz.ntmps118
    go_wp2
    go_loop [7, 8] (fun u v => ∃ k : Nat, k ≤ s.size ∧ v = .int .i64 (k : Int) ∧ u = .int .u64 (valF 10 decN (byt s) 0 k : Int) ∧ upTo digB (byt s) s.size 0 = upTo digB (byt s) s.size k ∧ valF 10 decN (byt s) 0 k < 18446744073709551616) (fun _ v => s.size - (intOf v).toNat)
    case atStart => exact ⟨0, by omega, rfl, rfl, rfl, by show 0 < 18446744073709551616; decide⟩
    case round =>
      obtain ⟨k, hk, rfl, rfl, hU, hV⟩ := hrel
      by_cases hlt : k < s.size
      · have hlt' : (k : Int) < (s.size : Int) := by omega
        have e := byt_is hlt
        have HT := Lib.hid (show valF 10 decN (byt s) 0 (k + 1) = valF 10 decN (byt s) 0 k * 10 + (byt s k - 48) by
          show valF 10 decN (byt s) 0 k * 10 + decN (byt s (0 + k)) = _
          rw [Nat.zero_add]; rfl)
        have HG := Lib.hid (show valF 10 decN (byt s) 0 (k + 1) ≤ valF 10 decN (byt s) 0 s.size by
          have := val_le 10 decN (byt s) 0 (by decide) (k + 1) (s.size - (k + 1))
          rwa [show k + 1 + (s.size - (k + 1)) = s.size by omega] at this)
        have HU := Lib.hid hU
        clear hU
        have hc256 := byt_lt s k
        cases hd : digB (byt s k) with
        | false =>
          have HD := Lib.hid (ref_digit_is hd)
          have HS := Lib.hid (HU.out.trans (upTo_off (fun g => by have := g.2; rw [hd] at this; cases this)))
          have HN := Lib.hid (dec_none H0.out (.inr (.inr (.inr (.inl (by rw [HS.out]; omega))))))
          clear hd HU HS HT HG hV
          generalize byt s k = c at e HD hc256
          generalize valF 10 decN (byt s) 0 k = V
          go_wp2_with (go_at_call 116; (with_reducible refine (HD.out _).mono ?_); rintro e w' ⟨rfl, rfl⟩)
          go_ret2
          exact ⟨by rw [HN.out.1, HN.out.2]; rfl, rfl⟩
        | true =>
          have HD := Lib.hid (ref_digit_is hd)
          have HS := Lib.hid (HU.out.trans (upTo_on hlt hd))
          have hc := of_decide_eq_true hd
          obtain ⟨c1, c2⟩ := hc
          have HO := Lib.hid (show 18446744073709551616 ≤ valF 10 decN (byt s) 0 (k + 1) → numV (byt s) s.size = 0 ∧ numB (byt s) s.size = false from fun h => dec_none H0.out (.inr (.inr (.inr (.inr (Nat.le_trans h HG.out))))))
          clear hd HU HG
          generalize byt s k = c at e HD hc256 HT c1 c2
          generalize valF 10 decN (byt s) 0 k = V at hV HT
          generalize hv1 : valF 10 decN (byt s) 0 (k + 1) = V1 at HT HO
          have HV1 := Lib.hid hv1
          clear hv1
          have c1' : (48 : Int) ≤ (c : Int) := by omega
          have c2' : (c : Int) ≤ 57 := by omega
          by_cases hgt : 1844674407370955161 < V
          · have hgt' : (1844674407370955161 : Int) < (V : Int) := by omega
            have HN := Lib.hid (HO.out (by rw [HT.out]; omega))
            clear HO HT hgt
            go_wp2_with (go_at_call 116; (with_reducible refine (HD.out _).mono ?_); rintro e w' ⟨rfl, rfl⟩)
            go_ret2
            exact ⟨by rw [HN.out.1, HN.out.2]; rfl, rfl⟩
          · have hgt' : ¬ (1844674407370955161 : Int) < (V : Int) := by omega
            by_cases heq : V = 1844674407370955161
            · subst heq
              by_cases h5 : 53 < c
              · have h5' : (5 : Int) < (c : Int) - 48 := by omega
                have HN := Lib.hid (HO.out (by rw [HT.out]; omega))
                clear HO HT hgt h5
                go_wp2_with (go_at_call 116; (with_reducible refine (HD.out _).mono ?_); rintro e w' ⟨rfl, rfl⟩)
                go_ret2
                exact ⟨by rw [HN.out.1, HN.out.2]; rfl, rfl⟩
              · have h5' : ¬ (5 : Int) < (c : Int) - 48 := by omega
                have hb := Lib.hid (show V1 < 18446744073709551616 by rw [HT.out]; omega)
                clear HO hgt h5
                go_wp2_with (go_at_call 116; (with_reducible refine (HD.out _).mono ?_); rintro e w' ⟨rfl, rfl⟩)
                exact ⟨⟨k + 1, by omega, by go_num, by rw [HV1.out, HT.out]; exact congrArg (Value.int .u64) (by omega), HS.out, by rw [HV1.out]; exact hb.out⟩, by simp [intOf]; omega⟩
            · have heq' : ¬ (V : Int) = 1844674407370955161 := by omega
              have heq2 : ((V : Int) == 1844674407370955161) = false := beq_false_of_ne heq'
              have hb := Lib.hid (show V1 < 18446744073709551616 by rw [HT.out]; omega)
              clear HO hgt heq
              go_wp2_with (go_at_call 116; (with_reducible refine (HD.out _).mono ?_); rintro e w' ⟨rfl, rfl⟩)
              exact ⟨⟨k + 1, by omega, by go_num, by rw [HV1.out, HT.out]; exact congrArg (Value.int .u64) (by omega), HS.out, by rw [HV1.out]; exact hb.out⟩, by simp [intOf]; omega⟩
      · obtain rfl : k = s.size := by omega
        have HN := Lib.hid (dec_some H0.out h1 h20 HZ.out (hU.trans (upTo_off (fun g => hlt g.1))) hV)
        clear hU hV
        go_wp2
        go_ret2
        exact ⟨by rw [HN.out.1, HN.out.2]; rfl, rfl⟩
/-- .. all in one. -/
theorem ref_Number : Calls Tryz.prog 118 #[.string s] w (NumP w (numV (byt s) s.size) (numB (byt s) s.size)) := by
  by_cases h0 : 2 ≤ s.size ∧ byt s 0 = 48 ∧ byt s 1 = 120
  · by_cases h : s.size < 3 ∨ 18 < s.size
    · exact ref_Number_hex_no s hs w h0 h
    · exact ref_Number_hex s hs w h0 (by omega) (by omega)
  · by_cases h : s.size < 1 ∨ 20 < s.size ∨ (byt s 0 = 48 ∧ 1 < s.size)
    · exact ref_Number_dec_no s hs w h0 h
    · exact ref_Number_dec s hs w h0 (by omega) (by omega) (by omega)
end
end Go.Proofs.YtgeapkjegemkeaaGreatDoor

/-
  What the document's functions on the bytes of a text answer: letter, digit, run, skip, sign: contracts. Conditions: those that each names.
-/
import Derived.Test.YtgeapkjegemkeaaGreatDoorLexSpec
import Derived.Test.YtgeapkjegemkeaaGreatDoorChecked
import Derived.Test.YtgeapkjegemkeaaGreatDoorFrame
import Derived.WalkSpells
import Derived.WalkLawsBesides
import Derived.Lib.Hide
namespace Go.Proofs.YtgeapkjegemkeaaGreatDoor
open Go Go.RowKit
set_option linter.unusedSimpArgs false
set_option linter.unusedVariables false

theorem lbox (w : World) (o : Obj) : Below w.heap.size w (w.alloc o) := (Below.refl _ _).alloc (Nat.le_refl _) o
theorem ref_letter (c : Nat) (w : World) : Calls Tryz.prog 115 #[.int .u8 (c : Int)] w fun e w' => e = .returned (.bool (letB c)) ∧ w = w' := by
  go_enter Tryz.func115, Tryz.ntmps115
  go_wp2
  all_goals
    go_ret
    refine ⟨congrArg (fun b => Ending.returned (Value.bool b)) ?_, rfl⟩
    unfold letB
    first
    | (rw [Bool.eq_iff_iff]; simp only [Bool.or_eq_true, Bool.and_eq_true, beq_iff_eq, decide_eq_true_eq, Bool.false_eq_true, false_iff, true_iff]; omega)
    | exact decide_eq_decide.2 (by omega)
    | exact (decide_eq_true (by omega)).symm
    | exact (decide_eq_false (by omega)).symm
theorem ref_digit (c : Nat) (w : World) : Calls Tryz.prog 116 #[.int .u8 (c : Int)] w fun e w' => e = .returned (.bool (digB c)) ∧ w = w' := by
  go_enter Tryz.func116, Tryz.ntmps116
  go_wp2
  all_goals
    go_ret
    refine ⟨congrArg (fun b => Ending.returned (Value.bool b)) ?_, rfl⟩
    unfold digB
    first
    | exact decide_eq_decide.2 (by omega)
    | exact (decide_eq_true (by omega)).symm
    | exact (decide_eq_false (by omega)).symm
theorem ref_letter_is {c : Nat} {b : Bool} (h : letB c = b) (w : World) : Calls Tryz.prog 115 #[.int .u8 (c : Int)] w fun e w' => e = .returned (.bool b) ∧ w = w' := h ▸ ref_letter c w
theorem ref_digit_is {c : Nat} {b : Bool} (h : digB c = b) (w : World) : Calls Tryz.prog 116 #[.int .u8 (c : Int)] w fun e w' => e = .returned (.bool b) ∧ w = w' := h ▸ ref_digit c w

theorem ref_run (s : ByteArray) (hs : s.size ≤ maxLen) (i : Nat) (hi : i ≤ s.size) (w : World) : Calls Tryz.prog 117 #[.string s, .int .i64 (i : Int)] w fun e w' => e = .returned (.int .i64 (upTo worB (byt s) s.size i : Int)) ∧ w = w' := by
  unfold maxLen at hs
  go_enter Tryz.func117, Tryz.ntmps117
  go_wp2
  go_loop [1] (fun v => ∃ k : Nat, i ≤ k ∧ k ≤ s.size ∧ v = .int .i64 (k : Int) ∧ upTo worB (byt s) s.size i = upTo worB (byt s) s.size k) (fun v => s.size - (intOf v).toNat)
  case atStart => exact ⟨i, Nat.le_refl _, hi, rfl, rfl⟩
  case round =>
    obtain ⟨k, hik, hk, rfl, hU⟩ := hrel
    have HU := Lib.hid hU
    clear hU
    by_cases hlt : k < s.size
    · have hlt' : (k : Int) < (s.size : Int) := by omega
      have e := byt_is hlt
      cases hl : letB (byt s k) with
      | true =>
        have HL := Lib.hid (ref_letter_is hl)
        have HS := Lib.hid (HU.out.trans (upTo_on hlt (by unfold worB; rw [hl]; rfl)))
        cases hd : digB (byt s k) with
        | _ =>
        have HD := Lib.hid (ref_digit_is hd)
        clear hl hd HU
        generalize byt s k = c at e HL HD
        go_wp2_with (first
          | (go_at_call 115; (with_reducible refine (HL.out _).mono ?_); rintro e w' ⟨rfl, rfl⟩)
          | (go_at_call 116; (with_reducible refine (HD.out _).mono ?_); rintro e w' ⟨rfl, rfl⟩))
        exact ⟨⟨k + 1, by omega, by omega, by go_num, HS.out⟩, by simp [intOf]; omega⟩
      | false =>
        have HL := Lib.hid (ref_letter_is hl)
        cases hd : digB (byt s k) with
        | true =>
          have HD := Lib.hid (ref_digit_is hd)
          have HS := Lib.hid (HU.out.trans (upTo_on hlt (by unfold worB; rw [hd]; simp)))
          clear hl hd HU
          generalize byt s k = c at e HL HD
          go_wp2_with (first
          | (go_at_call 115; (with_reducible refine (HL.out _).mono ?_); rintro e w' ⟨rfl, rfl⟩)
          | (go_at_call 116; (with_reducible refine (HD.out _).mono ?_); rintro e w' ⟨rfl, rfl⟩))
          exact ⟨⟨k + 1, by omega, by omega, by go_num, HS.out⟩, by simp [intOf]; omega⟩
        | false =>
          have HD := Lib.hid (ref_digit_is hd)
          have HS := Lib.hid (HU.out.trans (upTo_off (fun g => by have := g.2; unfold worB at this; rw [hl, hd] at this; cases this)))
          clear hl hd HU
          generalize byt s k = c at e HL HD
          go_wp2_with (first
          | (go_at_call 115; (with_reducible refine (HL.out _).mono ?_); rintro e w' ⟨rfl, rfl⟩)
          | (go_at_call 116; (with_reducible refine (HD.out _).mono ?_); rintro e w' ⟨rfl, rfl⟩))
          go_ret
          exact ⟨by rw [HS.out]; rfl, rfl⟩
    · have HS := Lib.hid (HU.out.trans (upTo_off (fun g => hlt g.1)))
      clear HU
      go_wp2
      go_ret
      exact ⟨by rw [HS.out]; rfl, rfl⟩
theorem lin_is (f : Nat → Nat) (n k : Nat) (h : k < n) (hf : f k = 35) : upTo linB f n k = upTo linB f n (k + 1) := upTo_on h (by rw [hf]; rfl)
theorem ref_skip (s : ByteArray) (hs : s.size ≤ maxLen) (i : Nat) (hi : i ≤ s.size) (w : World) : Calls Tryz.prog 114 #[.string s, .int .i64 (i : Int)] w fun e w' => e = .returned (.int .i64 (skipF (byt s) s.size i : Int)) ∧ w = w' := by
  unfold maxLen at hs
  go_enter Tryz.func114, Tryz.ntmps114
  go_wp2
  go_loop [1] (fun v => ∃ k : Nat, i ≤ k ∧ k ≤ s.size ∧ v = .int .i64 (k : Int) ∧ skipF (byt s) s.size i = skipF (byt s) s.size k) (fun v => s.size - (intOf v).toNat)
  case atStart => exact ⟨i, Nat.le_refl _, hi, rfl, rfl⟩
  case round =>
    obtain ⟨k, hik, hk, rfl, hU⟩ := hrel
    have HU := Lib.hid hU
    clear hU
    by_cases hlt : k < s.size
    · have hlt' : (k : Int) < (s.size : Int) := by omega
      have e := byt_is hlt
      by_cases h35 : byt s k = 35
      · have HN := Lib.hid (skip_remark hlt h35)
        have HL := Lib.hid (lin_is (byt s) s.size k hlt h35)
        rw [h35] at e
        clear h35
        go_wp2
        go_loop [1] (fun v => ∃ j : Nat, k ≤ j ∧ j ≤ s.size ∧ v = .int .i64 (j : Int) ∧ upTo linB (byt s) s.size k = upTo linB (byt s) s.size j) (fun v => s.size - (intOf v).toNat)
        case atStart => exact ⟨k, Nat.le_refl _, by omega, rfl, rfl⟩
        case round =>
          obtain ⟨j, hkj, hj, rfl, hV⟩ := hrel
          have HV := Lib.hid hV
          clear hV
          by_cases hlj : j < s.size
          · have hlj' : (j : Int) < (s.size : Int) := by omega
            have e2 := byt_is hlj
            by_cases h10 : byt s j = 10
            · have HS := Lib.hid (HV.out.trans (upTo_off (fun g => by have := g.2; rw [h10] at this; cases this)))
              have hgt : k < j := by
                have h1 := upTo_ge linB (byt s) s.size (k + 1)
                have h2 := HL.out
                have h3 := HS.out
                omega
              have HW := Lib.hid (show skipF (byt s) s.size i = skipF (byt s) s.size j by rw [HU.out, HN.out, ← HL.out, HS.out])
              rw [h10] at e2
              clear h10 HU HV HS HN HL
              go_wp2
              exact ⟨⟨j, by omega, by omega, by go_num, HW.out⟩, by simp [intOf]; omega⟩
            · have HS := Lib.hid (HV.out.trans (upTo_on hlj (decide_eq_true h10)))
              have g1 : ¬ ((byt s j : Nat) : Int) = 10 := by omega
              have g2 : (((byt s j : Nat) : Int) != 10) = true := bne_iff_ne.2 g1
              clear h10 HV
              generalize byt s j = c at e2 g1 g2
              go_wp2
              exact ⟨⟨j + 1, by omega, by omega, by go_num, HS.out⟩, by simp [intOf]; omega⟩
          · have HS := Lib.hid (HV.out.trans (upTo_off (fun g => hlj g.1)))
            have hgt : k < j := by omega
            have HW := Lib.hid (show skipF (byt s) s.size i = skipF (byt s) s.size j by rw [HU.out, HN.out, ← HL.out, HS.out])
            clear HU HV HS HN HL
            go_wp2
            exact ⟨⟨j, by omega, by omega, by go_num, HW.out⟩, by simp [intOf]; omega⟩
      · have b35 : (((byt s k : Nat) : Int) == 35) = false := beq_false_of_ne (by omega)
        have n35 : ¬ ((byt s k : Nat) : Int) = 35 := by omega
        cases hb : blaB (byt s k) with
        | true =>
          have HS := Lib.hid (HU.out.trans (skip_blank hlt hb))
          have hc : byt s k = 9 ∨ byt s k = 10 ∨ byt s k = 13 ∨ byt s k = 32 := of_decide_eq_true hb
          clear hb HU h35 b35 n35
          rcases hc with h | h | h | h
          all_goals
            rw [h] at e
            clear h
            go_wp2
            exact ⟨⟨k + 1, by omega, by omega, by go_num, HS.out⟩, by simp [intOf]; omega⟩
        | false =>
          have HS := Lib.hid (HU.out.trans (skip_stop h35 hb))
          have hc : ¬ (byt s k = 9 ∨ byt s k = 10 ∨ byt s k = 13 ∨ byt s k = 32) := of_decide_eq_false hb
          have g1 : (((byt s k : Nat) : Int) != 9) = true := bne_iff_ne.2 (by omega)
          have g2 : (((byt s k : Nat) : Int) != 10) = true := bne_iff_ne.2 (by omega)
          have g3 : (((byt s k : Nat) : Int) != 13) = true := bne_iff_ne.2 (by omega)
          have g4 : (((byt s k : Nat) : Int) != 32) = true := bne_iff_ne.2 (by omega)
          clear hb HU h35 hc
          generalize byt s k = c at e b35 n35 g1 g2 g3 g4
          go_wp2
          go_ret
          exact ⟨by rw [HS.out]; rfl, rfl⟩
    · have HS := Lib.hid (HU.out.trans (skip_end hlt))
      clear HU
      go_wp2
      go_ret
      exact ⟨by rw [HS.out]; rfl, rfl⟩
end Go.Proofs.YtgeapkjegemkeaaGreatDoor

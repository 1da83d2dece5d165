/-
  What the document's functions on codes of classic BPF answer: contracts, for every code. No condition but those that each names.
-/
import Derived.Test.YtoajommeiocfpaaGreatChecked
import Derived.Test.YtoajommeiocfpaaGreatCbpfSpec
import Derived.WalkSpells
import Derived.WalkLawsBesides
import Derived.Lib.Hide
namespace Go.Proofs.YtoajommeiocfpaaGreat
open Go Go.RowKit
set_option linter.unusedSimpArgs false
set_option linter.unusedVariables false

theorem ref_alu (c : Int) (w : World) : Calls Tryz.prog 35 #[.int .u16 c] w fun e w' => e = .returned (.bool (aluC c)) ∧ w = w' := by
  rcases hb : aluC c with _ | _
  · have h : ¬ (c = 4 ∨ c = 20 ∨ c = 36 ∨ c = 52 ∨ c = 68 ∨ c = 84 ∨ c = 100 ∨ c = 116 ∨ c = 164 ∨ c = 12 ∨ c = 28 ∨ c = 44 ∨ c = 60 ∨ c = 76 ∨ c = 92 ∨ c = 108 ∨ c = 124 ∨ c = 172) := by
      simpa [aluC, aluL] using hb
    simp only [not_or] at h
    clear hb
    go_enter Tryz.func35, Tryz.ntmps35
    go_wp2
    go_ret
    exact ⟨rfl, rfl⟩
  · rcases alu_cases hb with rfl | rfl | rfl | rfl | rfl | rfl | rfl | rfl | rfl | rfl | rfl | rfl | rfl | rfl | rfl | rfl | rfl | rfl
    all_goals
      clear hb
      go_enter Tryz.func35, Tryz.ntmps35
      go_wp2
      go_ret
      exact ⟨rfl, rfl⟩

theorem ref_Jump (c : Int) (w : World) : Calls Tryz.prog 36 #[.int .u16 c] w fun e w' => e = .returned (.bool (jumpC c)) ∧ w = w' := by
  rcases hb : jumpC c with _ | _
  · have h : ¬ (c = 21 ∨ c = 37 ∨ c = 53 ∨ c = 69 ∨ c = 29 ∨ c = 45 ∨ c = 61 ∨ c = 77) := by
      simpa [jumpC, jumpL] using hb
    simp only [not_or] at h
    clear hb
    go_enter Tryz.func36, Tryz.ntmps36
    go_wp2
    go_ret
    exact ⟨rfl, rfl⟩
  · rcases jump_cases hb with rfl | rfl | rfl | rfl | rfl | rfl | rfl | rfl
    all_goals
      clear hb
      go_enter Tryz.func36, Tryz.ntmps36
      go_wp2
      go_ret
      exact ⟨rfl, rfl⟩

theorem ref_alu_is {c : Int} {b : Bool} (h : aluC c = b) (w : World) : Calls Tryz.prog 35 #[.int .u16 c] w fun e w' => e = .returned (.bool b) ∧ w = w' := by rw [← h]; exact ref_alu c w
theorem ref_Jump_is {c : Int} {b : Bool} (h : jumpC c = b) (w : World) : Calls Tryz.prog 36 #[.int .u16 c] w fun e w' => e = .returned (.bool b) ∧ w = w' := by rw [← h]; exact ref_Jump c w

theorem ref_Seals (c : Int) (w : World) : Calls Tryz.prog 54 #[.int .u16 c] w fun e w' => e = .returned (.bool (sealsC c)) ∧ w = w' := by
  rcases ha : aluC c with _ | _
  · have HA := Lib.hid ha
    rcases hj : jumpC c with _ | _
    · have HJ := Lib.hid hj
      rcases hb : restC c with _ | _
      · have h : ¬ (c = 32 ∨ c = 128 ∨ c = 129 ∨ c = 0 ∨ c = 1 ∨ c = 96 ∨ c = 97 ∨ c = 2 ∨ c = 3 ∨ c = 132 ∨ c = 5 ∨ c = 6 ∨ c = 22 ∨ c = 7 ∨ c = 135) := by
          simpa [restC, restL] using hb
        simp only [not_or] at h
        have HB := Lib.hid hb
        clear ha hj hb
        go_enter Tryz.func54, Tryz.ntmps54
        go_wp2_with (first | (go_at_call 35; refine (ref_alu_is HA.out _).mono ?_; rintro e w' ⟨rfl, rfl⟩) | (go_at_call 36; refine (ref_Jump_is HJ.out _).mono ?_; rintro e w' ⟨rfl, rfl⟩))
        go_ret
        exact ⟨by rw [sealsC, HA.out, HJ.out, HB.out]; rfl, rfl⟩
      · rcases rest_cases hb with rfl | rfl | rfl | rfl | rfl | rfl | rfl | rfl | rfl | rfl | rfl | rfl | rfl | rfl | rfl
        all_goals
          clear ha hj hb
          go_enter Tryz.func54, Tryz.ntmps54
          go_wp2_with (first | (go_at_call 35; refine (ref_alu_is HA.out _).mono ?_; rintro e w' ⟨rfl, rfl⟩) | (go_at_call 36; refine (ref_Jump_is HJ.out _).mono ?_; rintro e w' ⟨rfl, rfl⟩))
          go_ret
          exact ⟨rfl, rfl⟩
    · have HJ := Lib.hid hj
      clear ha hj
      go_enter Tryz.func54, Tryz.ntmps54
      go_wp2_with (first | (go_at_call 35; refine (ref_alu_is HA.out _).mono ?_; rintro e w' ⟨rfl, rfl⟩) | (go_at_call 36; refine (ref_Jump_is HJ.out _).mono ?_; rintro e w' ⟨rfl, rfl⟩))
      go_ret
      exact ⟨by rw [sealsC, HA.out, HJ.out]; rfl, rfl⟩
  · have HA := Lib.hid ha
    clear ha
    go_enter Tryz.func54, Tryz.ntmps54
    go_wp2_with (first | (go_at_call 35; refine (ref_alu_is HA.out _).mono ?_; rintro e w' ⟨rfl, rfl⟩) | (go_at_call 36; refine (ref_Jump _ _).mono ?_; rintro e w' ⟨rfl, rfl⟩))
    go_ret
    exact ⟨by rw [sealsC, HA.out]; rfl, rfl⟩

theorem and_op {c : Int} (h : aluC c = true ∨ jumpC c = true) : bits .and .u16 c 240 = opN c := by
  rcases h with h | h
  · rcases alu_cases h with rfl | rfl | rfl | rfl | rfl | rfl | rfl | rfl | rfl | rfl | rfl | rfl | rfl | rfl | rfl | rfl | rfl | rfl <;> decide
  · rcases jump_cases h with rfl | rfl | rfl | rfl | rfl | rfl | rfl | rfl <;> decide

theorem ret_i {k : IntKind} {a b : Int} (h : a = b) : Ending.returned (.int k a) = .returned (.int k b) := by rw [h]
theorem ret_b {a b : Bool} (h : a = b) : Ending.returned (.bool a) = .returned (.bool b) := by rw [h]
/-- Of two numbers, the operation's bits known. -/
theorem ref_TwoN (c h : Int) (a b : BitVec 32) (hc : bits .and .u16 c 240 = h) (hh : h = 0 ∨ h = 16 ∨ h = 32 ∨ h = 48 ∨ h = 64 ∨ h = 80 ∨ h = 96 ∨ h = 112 ∨ h = 160) (hb : h = 48 → b ≠ 0#32) (w : World) :
    Calls Tryz.prog 38 #[.int .u16 c, .int .u32 (a.toNat : Int), .int .u32 (b.toNat : Int)] w fun e w' => e = .returned (.int .u32 ((twoN h a b).toNat : Int)) ∧ w = w' := by
  rcases hh with rfl | rfl | rfl | rfl | rfl | rfl | rfl | rfl | rfl
  · have e1 := add32 a b
    go_enter Tryz.func38, Tryz.ntmps38
    go_wp2
    go_ret
    exact ⟨rfl, rfl⟩
  · have e1 := sub32 a b
    go_enter Tryz.func38, Tryz.ntmps38
    go_wp2
    go_ret
    exact ⟨rfl, rfl⟩
  · have e1 := mul32 a b
    go_enter Tryz.func38, Tryz.ntmps38
    go_wp2
    go_ret
    exact ⟨rfl, rfl⟩
  · have hz : ¬ (b.toNat : Int) = 0 := fun h => hb rfl (BitVec.eq_of_toNat_eq (by simpa using h))
    clear hb
    go_enter Tryz.func38, Tryz.ntmps38
    go_wp2
    go_ret
    exact ⟨ret_i (by rw [div32, Int.emod_eq_of_lt (by omega) (by have := (a / b).isLt; omega)]; rfl), rfl⟩
  · have e1 := or32 a b
    go_enter Tryz.func38, Tryz.ntmps38
    go_wp2
    go_ret
    exact ⟨rfl, rfl⟩
  · have e1 := and32 a b
    go_enter Tryz.func38, Tryz.ntmps38
    go_wp2
    go_ret
    exact ⟨rfl, rfl⟩
  · have e8 := low5 b
    go_enter Tryz.func38, Tryz.ntmps38
    go_wp2
    go_ret
    exact ⟨ret_i (by have h := shl32 a (b.toNat % 32); rwa [IntKind.wrap_u32] at h), rfl⟩
  · have e8 := low5 b
    go_enter Tryz.func38, Tryz.ntmps38
    go_wp2
    go_ret
    exact ⟨ret_i (shr32 a (b.toNat % 32)), rfl⟩
  · have e1 := xor32 a b
    go_enter Tryz.func38, Tryz.ntmps38
    go_wp2
    go_ret
    exact ⟨rfl, rfl⟩
theorem alu_op {c : Int} (h : aluC c = true) : (opN c = 0 ∨ opN c = 16 ∨ opN c = 32 ∨ opN c = 48 ∨ opN c = 64 ∨ opN c = 80 ∨ opN c = 96 ∨ opN c = 112 ∨ opN c = 160) ∧ (opN c = 48 → c = 52 ∨ c = 60) := by
  rcases alu_cases h with rfl | rfl | rfl | rfl | rfl | rfl | rfl | rfl | rfl | rfl | rfl | rfl | rfl | rfl | rfl | rfl | rfl | rfl <;> decide
theorem ref_Two (c : Int) (a b : BitVec 32) (hc : aluC c = true) (hb : c = 52 ∨ c = 60 → b ≠ 0#32) (w : World) :
    Calls Tryz.prog 38 #[.int .u16 c, .int .u32 (a.toNat : Int), .int .u32 (b.toNat : Int)] w fun e w' => e = .returned (.int .u32 ((twoN (opN c) a b).toNat : Int)) ∧ w = w' :=
  ref_TwoN c (opN c) a b (and_op (.inl hc)) (alu_op hc).1 (fun h => hb ((alu_op hc).2 h)) w

theorem ref_SaysN (c h : Int) (a b : BitVec 32) (hc : bits .and .u16 c 240 = h) (hh : h = 16 ∨ h = 32 ∨ h = 48 ∨ h = 64) (w : World) :
    Calls Tryz.prog 39 #[.int .u16 c, .int .u32 (a.toNat : Int), .int .u32 (b.toNat : Int)] w fun e w' => e = .returned (.bool (saysN h a b)) ∧ w = w' := by
  rcases hh with rfl | rfl | rfl | rfl
  · go_enter Tryz.func39, Tryz.ntmps39
    go_wp2
    go_ret
    exact ⟨ret_b (eq32 a b), rfl⟩
  · go_enter Tryz.func39, Tryz.ntmps39
    go_wp2
    go_ret
    exact ⟨ret_b (by rw [saysN]), rfl⟩
  · go_enter Tryz.func39, Tryz.ntmps39
    go_wp2
    go_ret
    exact ⟨ret_b (by rw [saysN]), rfl⟩
  · have e := and32 a b
    go_enter Tryz.func39, Tryz.ntmps39
    go_wp2
    go_ret
    exact ⟨ret_b (by show _ = (a &&& b != 0#32); rw [bne, bne, ← eq32 (a &&& b) 0#32]; rfl), rfl⟩
theorem jump_op {c : Int} (h : jumpC c = true) : opN c = 16 ∨ opN c = 32 ∨ opN c = 48 ∨ opN c = 64 := by
  rcases jump_cases h with rfl | rfl | rfl | rfl | rfl | rfl | rfl | rfl <;> decide
theorem ref_Says (c : Int) (a b : BitVec 32) (hc : jumpC c = true) (w : World) :
    Calls Tryz.prog 39 #[.int .u16 c, .int .u32 (a.toNat : Int), .int .u32 (b.toNat : Int)] w fun e w' => e = .returned (.bool (saysN (opN c) a b)) ∧ w = w' :=
  ref_SaysN c (opN c) a b (and_op (.inr hc)) (jump_op hc) w

/-- What an instruction's value is. -/
theorem ref_Seals_is {c : Int} {b : Bool} (h : sealsC c = b) (w : World) : Calls Tryz.prog 54 #[.int .u16 c] w fun e w' => e = .returned (.bool b) ∧ w = w' := by rw [← h]; exact ref_Seals c w
end Go.Proofs.YtoajommeiocfpaaGreat

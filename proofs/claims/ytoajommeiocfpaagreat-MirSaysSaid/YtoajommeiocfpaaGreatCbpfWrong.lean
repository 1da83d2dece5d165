/-
  What keeps an instruction of classic BPF from being done: the document's 'wrong', a contract for every instruction. No condition.
-/
import Derived.Test.YtoajommeiocfpaaGreatCbpfFns
namespace Go.Proofs.YtoajommeiocfpaaGreat
open Go Go.RowKit
set_option linter.unusedSimpArgs false
set_option linter.unusedVariables false

def WrongP (w : World) (v : Int) (e : Ending) (w' : World) : Prop := e = .returned (.int .i64 v) ∧ Below w.heap.size w w'
theorem box_below (w : World) (o : Obj) : Below w.heap.size w (w.alloc o) := (Below.refl _ _).alloc (Nat.le_refl _) o
set_option maxHeartbeats 2000000 in
theorem ref_wrong (i : Ins) (w : World) :
    Calls Tryz.prog 34 #[.agg #[.int .u16 i.code, .int .u8 (i.jt : Int), .int .u8 (i.jf : Int), .int .u32 (i.k.toNat : Int)]] w (WrongP w (wrongE i.code i.k)) := by
  obtain ⟨c, jt, jf, k⟩ := i
  show Calls _ _ #[.agg #[.int .u16 c, .int .u8 (jt : Int), .int .u8 (jf : Int), .int .u32 (k.toNat : Int)]] w (WrongP w (wrongE c k))
  rcases hs : sealsC c with _ | _
  · have hr : wrongE c k = 32 := by rw [wrongE, if_pos hs]
    rw [hr]
    have HS := Lib.hid hs
    clear hs hr
    go_enter Tryz.func34, Tryz.ntmps34
    go_wp2_with (go_at_call 54; refine (ref_Seals_is HS.out _).mono ?_; rintro e w' ⟨rfl, rfl⟩)
    go_ret
    exact ⟨rfl, box_below _ _⟩
  · have hr : wrongE c k = if c = 32 ∧ (60 < k.toNat ∨ k.toNat % 4 ≠ 0) then 34 else if (c = 96 ∨ c = 97 ∨ c = 2 ∨ c = 3) ∧ 15 < k.toNat then 35 else if c = 52 ∧ k = 0#32 then 36 else 0 := by
      rw [wrongE, if_neg (by rw [hs]; decide)]
    rw [hr]
    clear hr
    have HS := Lib.hid hs
    clear hs
    by_cases h32 : c = 32
    · subst h32
      by_cases h60 : 60 < k.toNat
      · rw [if_pos ⟨rfl, .inl h60⟩]
        have h1 : (60 : Int) < (k.toNat : Int) := by omega
        go_enter Tryz.func34, Tryz.ntmps34
        go_wp2_with (go_at_call 54; refine (ref_Seals_is HS.out _).mono ?_; rintro e w' ⟨rfl, rfl⟩)
        go_ret
        exact ⟨rfl, box_below _ _⟩
      · by_cases h4 : k.toNat % 4 = 0
        · rw [if_neg (fun h => h.2.elim (fun g => h60 g) (fun g => g h4)), if_neg (fun h => by rcases h.1 with g | g | g | g <;> cases g), if_neg (fun h => by cases h.1)]
          have h1 : ¬ (60 : Int) < (k.toNat : Int) := by omega
          have h2 : ((k.toNat : Int) % 4 != 0) = false := by rw [bne_eq_false_iff_eq]; omega
          have h3 : decide ((60 : Int) < (k.toNat : Int)) = false := by rw [decide_eq_false_iff_not]; omega
          clear h4 h1
          go_enter Tryz.func34, Tryz.ntmps34
          go_wp2_with (go_at_call 54; refine (ref_Seals_is HS.out _).mono ?_; rintro e w' ⟨rfl, rfl⟩)
          go_ret
          exact ⟨rfl, box_below _ _⟩
        · rw [if_pos ⟨rfl, .inr h4⟩]
          have h1 : ¬ (60 : Int) < (k.toNat : Int) := by omega
          have h2 : ((k.toNat : Int) % 4 != 0) = true := by rw [bne_iff_ne]; omega
          have h3 : decide ((60 : Int) < (k.toNat : Int)) = false := by rw [decide_eq_false_iff_not]; omega
          clear h4 h1
          go_enter Tryz.func34, Tryz.ntmps34
          go_wp2_with (go_at_call 54; refine (ref_Seals_is HS.out _).mono ?_; rintro e w' ⟨rfl, rfl⟩)
          go_ret
          exact ⟨rfl, box_below _ _⟩
    · rw [if_neg (fun h => h32 h.1)]
      by_cases hm : c = 96 ∨ c = 97 ∨ c = 2 ∨ c = 3
      · by_cases h15 : 15 < k.toNat
        · rw [if_pos ⟨hm, h15⟩]
          have h1 : (15 : Int) < (k.toNat : Int) := by omega
          rcases hm with rfl | rfl | rfl | rfl
          all_goals
            go_enter Tryz.func34, Tryz.ntmps34
            go_wp2_with (go_at_call 54; refine (ref_Seals_is HS.out _).mono ?_; rintro e w' ⟨rfl, rfl⟩)
            go_ret
            exact ⟨rfl, box_below _ _⟩
        · rw [if_neg (fun h => h15 h.2), if_neg (fun h => by rcases hm with g | g | g | g <;> (rw [g] at h; cases h.1))]
          have h1 : ¬ (15 : Int) < (k.toNat : Int) := by omega
          rcases hm with rfl | rfl | rfl | rfl
          all_goals
            go_enter Tryz.func34, Tryz.ntmps34
            go_wp2_with (go_at_call 54; refine (ref_Seals_is HS.out _).mono ?_; rintro e w' ⟨rfl, rfl⟩)
            go_ret
            exact ⟨rfl, box_below _ _⟩
      · rw [if_neg (fun h => hm h.1)]
        simp only [not_or] at hm
        by_cases h52 : c = 52
        · subst h52
          by_cases h0 : k = 0#32
          · subst h0
            rw [if_pos ⟨rfl, rfl⟩]
            go_enter Tryz.func34, Tryz.ntmps34
            go_wp2_with (go_at_call 54; refine (ref_Seals_is HS.out _).mono ?_; rintro e w' ⟨rfl, rfl⟩)
            go_ret
            exact ⟨rfl, box_below _ _⟩
          · rw [if_neg (fun h => h0 h.2)]
            have h1 : ¬ (k.toNat : Int) = 0 := fun h => h0 (BitVec.eq_of_toNat_eq (by simpa using h))
            clear h0
            go_enter Tryz.func34, Tryz.ntmps34
            go_wp2_with (go_at_call 54; refine (ref_Seals_is HS.out _).mono ?_; rintro e w' ⟨rfl, rfl⟩)
            go_ret
            exact ⟨rfl, box_below _ _⟩
        · rw [if_neg (fun h => h52 h.1)]
          go_enter Tryz.func34, Tryz.ntmps34
          go_wp2_with (go_at_call 54; refine (ref_Seals_is HS.out _).mono ?_; rintro e w' ⟨rfl, rfl⟩)
          go_ret
          exact ⟨rfl, box_below _ _⟩
end Go.Proofs.YtoajommeiocfpaaGreat

/-
  The program's rules of acceptance: codes, the table of rules, who is looked up: contracts. Conditions: those that each names.
-/
import Derived.Test.YtoajommeiocfpaaGreatCbpfFns
import Derived.Test.YtoajommeiocfpaaGreatPMach
import Derived.Shelf.Abstract
import Derived.Test.YtoajommeiocfpaaGreatCheckFns
import Derived.Laws.EntriesVeiled
namespace Go.Proofs.YtoajommeiocfpaaGreat
open Go Go.RowKit
set_option linter.unusedSimpArgs false
set_option linter.unusedVariables false

theorem clr16 (v : BitVec 16) : bits .andNot .u16 (v.toNat : Int) 8 = ((v &&& ~~~8#16).toNat : Int) := by
  have h : ∀ a : BitVec 16, BitVec.ofInt 16 (a.toNat : Int) = a := fun a => by simp
  have hw : ∀ a : BitVec 16, IntKind.u16.wrap (a.toNat : Int) = (a.toNat : Int) := fun a => by
    rw [IntKind.wrap_u16]; have := a.isLt; omega
  show IntKind.u16.wrap ((BitVec.ofInt 16 (v.toNat : Int) &&& ~~~BitVec.ofInt 16 8).toNat : Int) = _
  rw [h, hw]
  rfl
theorem clr_inv (v X : BitVec 16) (h : v &&& ~~~8#16 = X) : v = X ∨ v = X ||| 8#16 := by
  have h2 : v = (v &&& ~~~8#16) ||| (v &&& 8#16) := by
    ext i hi
    simp only [BitVec.getElem_or, BitVec.getElem_and, BitVec.getElem_not]
    cases v[i] <;> cases (8#16)[i] <;> rfl
  have h3 : v &&& 8#16 = if v.getLsbD 3 then 8#16 else 0#16 := by
    have := BitVec.and_twoPow v 3
    exact this
  rw [h, h3] at h2
  split at h2
  · exact .inr h2
  · exact .inl (by rw [h2]; simp)
theorem clr_not {c : Int} (h0 : 0 ≤ c) (h1 : c < 65536) (X : BitVec 16) (hx : ¬ c = (X.toNat : Int)) (hy : ¬ c = ((X ||| 8#16).toNat : Int)) : ¬ bits .andNot .u16 c 8 = (X.toNat : Int) := fun h => by
  have hc : c = ((BitVec.ofNat 16 c.toNat).toNat : Int) := by rw [BitVec.toNat_ofNat, Nat.mod_eq_of_lt (by omega)]; omega
  rw [hc] at h hx hy
  rw [clr16] at h
  generalize BitVec.ofNat 16 c.toNat = v at h hx hy
  rcases clr_inv v X (BitVec.eq_of_toNat_eq (Int.ofNat.inj h)) with rfl | rfl
  · exact hx rfl
  · exact hy rfl

def loadL : List Int := [32, 128, 129, 0, 1, 96, 97]
def loadC (c : Int) : Bool := loadL.contains c
theorem load_cases {c : Int} (h : loadC c = true) : c = 32 ∨ c = 128 ∨ c = 129 ∨ c = 0 ∨ c = 1 ∨ c = 96 ∨ c = 97 := by
  simpa [loadC, loadL] using h
theorem check_isLoad (c : Int) (w : World) : Calls Tryz.prog 106 #[.int .u16 c] w fun e w' => e = .returned (.bool (loadC c)) ∧ w = w' := by
  rcases hb : loadC c with _ | _
  · have h : ¬ (c = 32 ∨ c = 128 ∨ c = 129 ∨ c = 0 ∨ c = 1 ∨ c = 96 ∨ c = 97) := by simpa [loadC, loadL] using hb
    simp only [not_or] at h
    clear hb
    go_enter Tryz.func106, Tryz.ntmps106
    go_wp2
    go_ret
    exact ⟨rfl, rfl⟩
  · rcases load_cases hb with rfl | rfl | rfl | rfl | rfl | rfl | rfl
    all_goals
      clear hb
      go_enter Tryz.func106, Tryz.ntmps106
      go_wp2
      go_ret
      exact ⟨rfl, rfl⟩
theorem check_isAlu (c : Int) (hc : 0 ≤ c ∧ c < 65536) (w : World) : Calls Tryz.prog 108 #[.int .u16 c] w fun e w' => e = .returned (.bool (aluC c || c == 132)) ∧ w = w' := by
  rcases hb : aluC c with _ | _
  · have h : ¬ (c = 4 ∨ c = 20 ∨ c = 36 ∨ c = 52 ∨ c = 68 ∨ c = 84 ∨ c = 100 ∨ c = 116 ∨ c = 164 ∨ c = 12 ∨ c = 28 ∨ c = 44 ∨ c = 60 ∨ c = 76 ∨ c = 92 ∨ c = 108 ∨ c = 124 ∨ c = 172) := by
      simpa [aluC, aluL] using hb
    simp only [not_or] at h
    obtain ⟨a1, a2, a3, a4, a5, a6, a7, a8, a9, b1, b2, b3, b4, b5, b6, b7, b8, b9⟩ := h
    have g1 := clr_not hc.1 hc.2 4#16 a1 b1
    have g2 := clr_not hc.1 hc.2 20#16 a2 b2
    have g3 := clr_not hc.1 hc.2 36#16 a3 b3
    have g4 := clr_not hc.1 hc.2 52#16 a4 b4
    have g5 := clr_not hc.1 hc.2 68#16 a5 b5
    have g6 := clr_not hc.1 hc.2 84#16 a6 b6
    have g7 := clr_not hc.1 hc.2 100#16 a7 b7
    have g8 := clr_not hc.1 hc.2 116#16 a8 b8
    have g9 := clr_not hc.1 hc.2 164#16 a9 b9
    simp at g1 g2 g3 g4 g5 g6 g7 g8 g9
    clear hb a1 a2 a3 a4 a5 a6 a7 a8 a9 b1 b2 b3 b4 b5 b6 b7 b8 b9 hc
    go_enter Tryz.func108, Tryz.ntmps108
    go_wp2
    go_ret
    exact ⟨rfl, rfl⟩
  · rcases alu_cases hb with rfl | rfl | rfl | rfl | rfl | rfl | rfl | rfl | rfl | rfl | rfl | rfl | rfl | rfl | rfl | rfl | rfl | rfl
    all_goals
      clear hb
      go_enter Tryz.func108, Tryz.ntmps108
      go_wp2
      go_ret
      exact ⟨rfl, rfl⟩
theorem check_isBranch (c : Int) (hc : 0 ≤ c ∧ c < 65536) (w : World) : Calls Tryz.prog 109 #[.int .u16 c] w fun e w' => e = .returned (.bool (jumpC c)) ∧ w = w' := by
  rcases hb : jumpC c with _ | _
  · have h : ¬ (c = 21 ∨ c = 37 ∨ c = 53 ∨ c = 69 ∨ c = 29 ∨ c = 45 ∨ c = 61 ∨ c = 77) := by
      simpa [jumpC, jumpL] using hb
    simp only [not_or] at h
    obtain ⟨a1, a2, a3, a4, b1, b2, b3, b4⟩ := h
    have g1 := clr_not hc.1 hc.2 21#16 a1 b1
    have g2 := clr_not hc.1 hc.2 37#16 a2 b2
    have g3 := clr_not hc.1 hc.2 53#16 a3 b3
    have g4 := clr_not hc.1 hc.2 69#16 a4 b4
    simp at g1 g2 g3 g4
    clear hb a1 a2 a3 a4 b1 b2 b3 b4 hc
    go_enter Tryz.func109, Tryz.ntmps109
    go_wp2
    go_ret
    exact ⟨rfl, rfl⟩
  · rcases jump_cases hb with rfl | rfl | rfl | rfl | rfl | rfl | rfl | rfl
    all_goals
      clear hb
      go_enter Tryz.func109, Tryz.ntmps109
      go_wp2
      go_ret
      exact ⟨rfl, rfl⟩
theorem check_isStore (c : Int) (w : World) : Calls Tryz.prog 107 #[.int .u16 c] w fun e w' => e = .returned (.bool (c == 2 || c == 3)) ∧ w = w' := by
  go_enter Tryz.func107, Tryz.ntmps107
  go_wp2
  all_goals
    go_ret
    refine ⟨?_, rfl⟩
    simp_all
theorem check_isShift (c : Int) (w : World) : Calls Tryz.prog 62 #[.int .u16 c] w fun e w' => e = .returned (.bool (c == 100 || c == 116)) ∧ w = w' := by
  go_enter Tryz.func62, Tryz.ntmps62
  go_wp2
  all_goals
    go_ret
    refine ⟨?_, rfl⟩
    simp_all
theorem check_isReturn (c : Int) (w : World) : Calls Tryz.prog 28 #[.int .u16 c] w fun e w' => e = .returned (.bool (c == 6 || c == 22)) ∧ w = w' := by
  go_enter Tryz.func28, Tryz.ntmps28
  go_wp2
  all_goals
    go_ret
    refine ⟨?_, rfl⟩
    simp_all
theorem check_isCopy (c : Int) (w : World) : Calls Tryz.prog 110 #[.int .u16 c] w fun e w' => e = .returned (.bool (c == 7 || c == 135)) ∧ w = w' := by
  go_enter Tryz.func110, Tryz.ntmps110
  go_wp2
  all_goals
    go_ret
    refine ⟨?_, rfl⟩
    simp_all
theorem check_asksScratch (c : Int) (w : World) : Calls Tryz.prog 64 #[.int .u16 c] w fun e w' => e = .returned (.bool (c == 96 || c == 97 || (c == 2 || c == 3))) ∧ w = w' := by
  go_enter Tryz.func64, Tryz.ntmps64
  go_wp2_with (go_at_call 107; (with_reducible refine (check_isStore c _).mono ?_); rintro e w' ⟨rfl, rfl⟩)
  all_goals
    go_ret
    refine ⟨?_, rfl⟩
    simp_all
theorem seals_is (c : Int) : sealsC c = (loadC c || (c == 2 || c == 3) || (aluC c || c == 132) || c == 5 || jumpC c || (c == 6 || c == 22) || (c == 7 || c == 135)) := by
  rw [Bool.eq_iff_iff]
  simp only [sealsC, restC, restL, loadC, loadL, Bool.or_eq_true, beq_iff_eq, List.contains_cons, List.contains_nil, Bool.or_false]
  grind
theorem check_Seals_0 (c : Int) (hc : 0 ≤ c ∧ c < 65536) (h0 : loadC c = true) (w : World) : Calls Tryz.prog 56 #[.int .u16 c] w fun e w' => e = .returned (.bool true) ∧ w = w' := by
  have H0 : Hid (∀ w, Calls Tryz.prog 106 #[.int .u16 c] w fun e w' => e = .returned (.bool true) ∧ w = w') := Lib.hid (fun w => by have := check_isLoad c w; rw [h0] at this; exact this)
  clear hc h0
  go_enter Tryz.func56, Tryz.ntmps56
  go_wp2_with (first
    | (go_at_call 106; (with_reducible refine (H0.out _).mono ?_); rintro e w' ⟨rfl, rfl⟩))
  go_ret
  exact ⟨rfl, rfl⟩
theorem check_Seals_1 (c : Int) (hc : 0 ≤ c ∧ c < 65536) (h0 : loadC c = false) (h1 : (c == 2 || c == 3) = true) (w : World) : Calls Tryz.prog 56 #[.int .u16 c] w fun e w' => e = .returned (.bool true) ∧ w = w' := by
  have H0 : Hid (∀ w, Calls Tryz.prog 106 #[.int .u16 c] w fun e w' => e = .returned (.bool false) ∧ w = w') := Lib.hid (fun w => by have := check_isLoad c w; rw [h0] at this; exact this)
  have H1 : Hid (∀ w, Calls Tryz.prog 107 #[.int .u16 c] w fun e w' => e = .returned (.bool true) ∧ w = w') := Lib.hid (fun w => by have := check_isStore c w; rw [h1] at this; exact this)
  clear hc h0 h1
  go_enter Tryz.func56, Tryz.ntmps56
  go_wp2_with (first
    | (go_at_call 106; (with_reducible refine (H0.out _).mono ?_); rintro e w' ⟨rfl, rfl⟩)
    | (go_at_call 107; (with_reducible refine (H1.out _).mono ?_); rintro e w' ⟨rfl, rfl⟩))
  go_ret
  exact ⟨rfl, rfl⟩
theorem check_Seals_2 (c : Int) (hc : 0 ≤ c ∧ c < 65536) (h0 : loadC c = false) (h1 : (c == 2 || c == 3) = false) (h2 : (aluC c || c == 132) = true) (w : World) : Calls Tryz.prog 56 #[.int .u16 c] w fun e w' => e = .returned (.bool true) ∧ w = w' := by
  have H0 : Hid (∀ w, Calls Tryz.prog 106 #[.int .u16 c] w fun e w' => e = .returned (.bool false) ∧ w = w') := Lib.hid (fun w => by have := check_isLoad c w; rw [h0] at this; exact this)
  have H1 : Hid (∀ w, Calls Tryz.prog 107 #[.int .u16 c] w fun e w' => e = .returned (.bool false) ∧ w = w') := Lib.hid (fun w => by have := check_isStore c w; rw [h1] at this; exact this)
  have H2 : Hid (∀ w, Calls Tryz.prog 108 #[.int .u16 c] w fun e w' => e = .returned (.bool true) ∧ w = w') := Lib.hid (fun w => by have := check_isAlu c hc w; rw [h2] at this; exact this)
  clear hc h0 h1 h2
  go_enter Tryz.func56, Tryz.ntmps56
  go_wp2_with (first
    | (go_at_call 106; (with_reducible refine (H0.out _).mono ?_); rintro e w' ⟨rfl, rfl⟩)
    | (go_at_call 107; (with_reducible refine (H1.out _).mono ?_); rintro e w' ⟨rfl, rfl⟩)
    | (go_at_call 108; (with_reducible refine (H2.out _).mono ?_); rintro e w' ⟨rfl, rfl⟩))
  go_ret
  exact ⟨rfl, rfl⟩
theorem check_Seals_3 (c : Int) (hc : 0 ≤ c ∧ c < 65536) (h0 : loadC c = false) (h1 : (c == 2 || c == 3) = false) (h2 : (aluC c || c == 132) = false) (h3 : c = 5) (w : World) : Calls Tryz.prog 56 #[.int .u16 c] w fun e w' => e = .returned (.bool true) ∧ w = w' := by
  subst h3
  have H0 : Hid (∀ w, Calls Tryz.prog 106 #[.int .u16 5] w fun e w' => e = .returned (.bool false) ∧ w = w') := Lib.hid (fun w => by have := check_isLoad 5 w; rw [h0] at this; exact this)
  have H1 : Hid (∀ w, Calls Tryz.prog 107 #[.int .u16 5] w fun e w' => e = .returned (.bool false) ∧ w = w') := Lib.hid (fun w => by have := check_isStore 5 w; rw [h1] at this; exact this)
  have H2 : Hid (∀ w, Calls Tryz.prog 108 #[.int .u16 5] w fun e w' => e = .returned (.bool false) ∧ w = w') := Lib.hid (fun w => by have := check_isAlu 5 hc w; rw [h2] at this; exact this)
  clear hc h0 h1 h2
  go_enter Tryz.func56, Tryz.ntmps56
  go_wp2_with (first
    | (go_at_call 106; (with_reducible refine (H0.out _).mono ?_); rintro e w' ⟨rfl, rfl⟩)
    | (go_at_call 107; (with_reducible refine (H1.out _).mono ?_); rintro e w' ⟨rfl, rfl⟩)
    | (go_at_call 108; (with_reducible refine (H2.out _).mono ?_); rintro e w' ⟨rfl, rfl⟩))
  go_ret
  exact ⟨rfl, rfl⟩
theorem check_Seals_4 (c : Int) (hc : 0 ≤ c ∧ c < 65536) (h0 : loadC c = false) (h1 : (c == 2 || c == 3) = false) (h2 : (aluC c || c == 132) = false) (h3 : ¬ c = 5) (h4 : jumpC c = true) (w : World) : Calls Tryz.prog 56 #[.int .u16 c] w fun e w' => e = .returned (.bool true) ∧ w = w' := by
  have H0 : Hid (∀ w, Calls Tryz.prog 106 #[.int .u16 c] w fun e w' => e = .returned (.bool false) ∧ w = w') := Lib.hid (fun w => by have := check_isLoad c w; rw [h0] at this; exact this)
  have H1 : Hid (∀ w, Calls Tryz.prog 107 #[.int .u16 c] w fun e w' => e = .returned (.bool false) ∧ w = w') := Lib.hid (fun w => by have := check_isStore c w; rw [h1] at this; exact this)
  have H2 : Hid (∀ w, Calls Tryz.prog 108 #[.int .u16 c] w fun e w' => e = .returned (.bool false) ∧ w = w') := Lib.hid (fun w => by have := check_isAlu c hc w; rw [h2] at this; exact this)
  have H4 : Hid (∀ w, Calls Tryz.prog 109 #[.int .u16 c] w fun e w' => e = .returned (.bool true) ∧ w = w') := Lib.hid (fun w => by have := check_isBranch c hc w; rw [h4] at this; exact this)
  have b5 : (c == 5) = false := beq_false_of_ne h3
  clear hc h0 h1 h2 h4
  go_enter Tryz.func56, Tryz.ntmps56
  go_wp2_with (first
    | (go_at_call 106; (with_reducible refine (H0.out _).mono ?_); rintro e w' ⟨rfl, rfl⟩)
    | (go_at_call 107; (with_reducible refine (H1.out _).mono ?_); rintro e w' ⟨rfl, rfl⟩)
    | (go_at_call 108; (with_reducible refine (H2.out _).mono ?_); rintro e w' ⟨rfl, rfl⟩)
    | (go_at_call 109; (with_reducible refine (H4.out _).mono ?_); rintro e w' ⟨rfl, rfl⟩))
  go_ret
  exact ⟨rfl, rfl⟩
theorem check_Seals_5 (c : Int) (hc : 0 ≤ c ∧ c < 65536) (h0 : loadC c = false) (h1 : (c == 2 || c == 3) = false) (h2 : (aluC c || c == 132) = false) (h3 : ¬ c = 5) (h4 : jumpC c = false) (h5 : (c == 6 || c == 22) = true) (w : World) : Calls Tryz.prog 56 #[.int .u16 c] w fun e w' => e = .returned (.bool true) ∧ w = w' := by
  have H0 : Hid (∀ w, Calls Tryz.prog 106 #[.int .u16 c] w fun e w' => e = .returned (.bool false) ∧ w = w') := Lib.hid (fun w => by have := check_isLoad c w; rw [h0] at this; exact this)
  have H1 : Hid (∀ w, Calls Tryz.prog 107 #[.int .u16 c] w fun e w' => e = .returned (.bool false) ∧ w = w') := Lib.hid (fun w => by have := check_isStore c w; rw [h1] at this; exact this)
  have H2 : Hid (∀ w, Calls Tryz.prog 108 #[.int .u16 c] w fun e w' => e = .returned (.bool false) ∧ w = w') := Lib.hid (fun w => by have := check_isAlu c hc w; rw [h2] at this; exact this)
  have H4 : Hid (∀ w, Calls Tryz.prog 109 #[.int .u16 c] w fun e w' => e = .returned (.bool false) ∧ w = w') := Lib.hid (fun w => by have := check_isBranch c hc w; rw [h4] at this; exact this)
  have H5 : Hid (∀ w, Calls Tryz.prog 28 #[.int .u16 c] w fun e w' => e = .returned (.bool true) ∧ w = w') := Lib.hid (fun w => by have := check_isReturn c w; rw [h5] at this; exact this)
  have b5 : (c == 5) = false := beq_false_of_ne h3
  clear hc h0 h1 h2 h4 h5
  go_enter Tryz.func56, Tryz.ntmps56
  go_wp2_with (first
    | (go_at_call 106; (with_reducible refine (H0.out _).mono ?_); rintro e w' ⟨rfl, rfl⟩)
    | (go_at_call 107; (with_reducible refine (H1.out _).mono ?_); rintro e w' ⟨rfl, rfl⟩)
    | (go_at_call 108; (with_reducible refine (H2.out _).mono ?_); rintro e w' ⟨rfl, rfl⟩)
    | (go_at_call 109; (with_reducible refine (H4.out _).mono ?_); rintro e w' ⟨rfl, rfl⟩)
    | (go_at_call 28; (with_reducible refine (H5.out _).mono ?_); rintro e w' ⟨rfl, rfl⟩))
  go_ret
  exact ⟨rfl, rfl⟩
theorem check_Seals_6 (c : Int) (hc : 0 ≤ c ∧ c < 65536) (h0 : loadC c = false) (h1 : (c == 2 || c == 3) = false) (h2 : (aluC c || c == 132) = false) (h3 : ¬ c = 5) (h4 : jumpC c = false) (h5 : (c == 6 || c == 22) = false) (h6 : (c == 7 || c == 135) = true) (w : World) : Calls Tryz.prog 56 #[.int .u16 c] w fun e w' => e = .returned (.bool true) ∧ w = w' := by
  have H0 : Hid (∀ w, Calls Tryz.prog 106 #[.int .u16 c] w fun e w' => e = .returned (.bool false) ∧ w = w') := Lib.hid (fun w => by have := check_isLoad c w; rw [h0] at this; exact this)
  have H1 : Hid (∀ w, Calls Tryz.prog 107 #[.int .u16 c] w fun e w' => e = .returned (.bool false) ∧ w = w') := Lib.hid (fun w => by have := check_isStore c w; rw [h1] at this; exact this)
  have H2 : Hid (∀ w, Calls Tryz.prog 108 #[.int .u16 c] w fun e w' => e = .returned (.bool false) ∧ w = w') := Lib.hid (fun w => by have := check_isAlu c hc w; rw [h2] at this; exact this)
  have H4 : Hid (∀ w, Calls Tryz.prog 109 #[.int .u16 c] w fun e w' => e = .returned (.bool false) ∧ w = w') := Lib.hid (fun w => by have := check_isBranch c hc w; rw [h4] at this; exact this)
  have H5 : Hid (∀ w, Calls Tryz.prog 28 #[.int .u16 c] w fun e w' => e = .returned (.bool false) ∧ w = w') := Lib.hid (fun w => by have := check_isReturn c w; rw [h5] at this; exact this)
  have H6 : Hid (∀ w, Calls Tryz.prog 110 #[.int .u16 c] w fun e w' => e = .returned (.bool true) ∧ w = w') := Lib.hid (fun w => by have := check_isCopy c w; rw [h6] at this; exact this)
  have b5 : (c == 5) = false := beq_false_of_ne h3
  clear hc h0 h1 h2 h4 h5 h6
  go_enter Tryz.func56, Tryz.ntmps56
  go_wp2_with (first
    | (go_at_call 106; (with_reducible refine (H0.out _).mono ?_); rintro e w' ⟨rfl, rfl⟩)
    | (go_at_call 107; (with_reducible refine (H1.out _).mono ?_); rintro e w' ⟨rfl, rfl⟩)
    | (go_at_call 108; (with_reducible refine (H2.out _).mono ?_); rintro e w' ⟨rfl, rfl⟩)
    | (go_at_call 109; (with_reducible refine (H4.out _).mono ?_); rintro e w' ⟨rfl, rfl⟩)
    | (go_at_call 28; (with_reducible refine (H5.out _).mono ?_); rintro e w' ⟨rfl, rfl⟩)
    | (go_at_call 110; (with_reducible refine (H6.out _).mono ?_); rintro e w' ⟨rfl, rfl⟩))
  go_ret
  exact ⟨rfl, rfl⟩
theorem check_Seals_7 (c : Int) (hc : 0 ≤ c ∧ c < 65536) (h0 : loadC c = false) (h1 : (c == 2 || c == 3) = false) (h2 : (aluC c || c == 132) = false) (h3 : ¬ c = 5) (h4 : jumpC c = false) (h5 : (c == 6 || c == 22) = false) (h6 : (c == 7 || c == 135) = false) (w : World) : Calls Tryz.prog 56 #[.int .u16 c] w fun e w' => e = .returned (.bool false) ∧ w = w' := by
  have H0 : Hid (∀ w, Calls Tryz.prog 106 #[.int .u16 c] w fun e w' => e = .returned (.bool false) ∧ w = w') := Lib.hid (fun w => by have := check_isLoad c w; rw [h0] at this; exact this)
  have H1 : Hid (∀ w, Calls Tryz.prog 107 #[.int .u16 c] w fun e w' => e = .returned (.bool false) ∧ w = w') := Lib.hid (fun w => by have := check_isStore c w; rw [h1] at this; exact this)
  have H2 : Hid (∀ w, Calls Tryz.prog 108 #[.int .u16 c] w fun e w' => e = .returned (.bool false) ∧ w = w') := Lib.hid (fun w => by have := check_isAlu c hc w; rw [h2] at this; exact this)
  have H4 : Hid (∀ w, Calls Tryz.prog 109 #[.int .u16 c] w fun e w' => e = .returned (.bool false) ∧ w = w') := Lib.hid (fun w => by have := check_isBranch c hc w; rw [h4] at this; exact this)
  have H5 : Hid (∀ w, Calls Tryz.prog 28 #[.int .u16 c] w fun e w' => e = .returned (.bool false) ∧ w = w') := Lib.hid (fun w => by have := check_isReturn c w; rw [h5] at this; exact this)
  have H6 : Hid (∀ w, Calls Tryz.prog 110 #[.int .u16 c] w fun e w' => e = .returned (.bool false) ∧ w = w') := Lib.hid (fun w => by have := check_isCopy c w; rw [h6] at this; exact this)
  have b5 : (c == 5) = false := beq_false_of_ne h3
  clear hc h0 h1 h2 h4 h5 h6
  go_enter Tryz.func56, Tryz.ntmps56
  go_wp2_with (first
    | (go_at_call 106; (with_reducible refine (H0.out _).mono ?_); rintro e w' ⟨rfl, rfl⟩)
    | (go_at_call 107; (with_reducible refine (H1.out _).mono ?_); rintro e w' ⟨rfl, rfl⟩)
    | (go_at_call 108; (with_reducible refine (H2.out _).mono ?_); rintro e w' ⟨rfl, rfl⟩)
    | (go_at_call 109; (with_reducible refine (H4.out _).mono ?_); rintro e w' ⟨rfl, rfl⟩)
    | (go_at_call 28; (with_reducible refine (H5.out _).mono ?_); rintro e w' ⟨rfl, rfl⟩)
    | (go_at_call 110; (with_reducible refine (H6.out _).mono ?_); rintro e w' ⟨rfl, rfl⟩))
  go_ret
  exact ⟨rfl, rfl⟩
theorem check_Seals (c : Int) (hc : 0 ≤ c ∧ c < 65536) (w : World) : Calls Tryz.prog 56 #[.int .u16 c] w fun e w' => e = .returned (.bool (sealsC c)) ∧ w = w' := by
  rw [seals_is]
  cases h0 : loadC c with
  | true => simpa [h0] using check_Seals_0 c hc h0 w
  | false =>
  cases h1 : (c == 2 || c == 3) with
  | true => simpa [h0, h1] using check_Seals_1 c hc h0 h1 w
  | false =>
  cases h2 : (aluC c || c == 132) with
  | true => simpa [h0, h1, h2] using check_Seals_2 c hc h0 h1 h2 w
  | false =>
  by_cases h3 : c = 5
  · simpa [h0, h1, h2, h3] using check_Seals_3 c hc h0 h1 h2 h3 w
  have b3 : (c == 5) = false := beq_false_of_ne h3
  cases h4 : jumpC c with
  | true => simpa [h0, h1, h2, b3, h4] using check_Seals_4 c hc h0 h1 h2 h3 h4 w
  | false =>
  cases h5 : (c == 6 || c == 22) with
  | true => simpa [h0, h1, h2, b3, h4, h5] using check_Seals_5 c hc h0 h1 h2 h3 h4 h5 w
  | false =>
  cases h6 : (c == 7 || c == 135) with
  | true => simpa [h0, h1, h2, b3, h4, h5, h6] using check_Seals_6 c hc h0 h1 h2 h3 h4 h5 h6 w
  | false =>
  simpa [h0, h1, h2, b3, h4, h5, h6] using check_Seals_7 c hc h0 h1 h2 h3 h4 h5 h6 w
end Go.Proofs.YtoajommeiocfpaaGreat
namespace Go.Proofs.YtoajommeiocfpaaGreat
open Go Go.RowKit
set_option linter.unusedSimpArgs false
set_option linter.unusedVariables false
set_option maxRecDepth 100000

/-- The function of rule k, what it captures, its error. -/
def ruleF (k : Nat) : Nat := ([55, 57, 59, 60, 61, 63] : List Nat).getD k 0
def ruleC (c : Nat) (k : Nat) : Array Value := if k = 1 then #[.pointer (some ⟨c, 0, none⟩)] else #[]
/-- A table of rules lies in block b, the number of instructions that it speaks of in block c. -/
structure RulesAt (w : World) (b c n : Nat) : Prop where
  num : w.cell? ⟨c, 0, none⟩ = some (.int .i64 (n : Int))
  err : ∀ k, k < 6 → w.cell? ⟨b, k * 2, none⟩ = some (.int .i64 (42 + (k : Int)))
  fn : ∀ k, k < 6 → w.cell? ⟨b, k * 2 + 1, none⟩ = some (.func (.func (ruleF k)) #[] (ruleC c k))
theorem RulesAt.below {w w' : World} {B b c n : Nat} (h : RulesAt w b c n) (hb : Below B w w') (h1 : b < B) (h2 : c < B) : RulesAt w' b c n :=
  ⟨(hb.cell (p := ⟨c, 0, none⟩) h2).trans h.num, fun k hk => (hb.cell (p := ⟨b, k * 2, none⟩) h1).trans (h.err k hk), fun k hk => (hb.cell (p := ⟨b, k * 2 + 1, none⟩) h1).trans (h.fn k hk)⟩
theorem six_cases {k : Nat} (h : k < 6) : k = 0 ∨ k = 1 ∨ k = 2 ∨ k = 3 ∨ k = 4 ∨ k = 5 := by omega
theorem rules_made (w : World) (n : Nat) (o : Obj) (ho : o = .cells #[.int .i64 42, .func (.func 55) #[] #[], .int .i64 43, .func (.func 57) #[] #[.pointer (some ⟨w.heap.size, 0, none⟩)], .int .i64 44, .func (.func 59) #[] #[], .int .i64 45, .func (.func 60) #[] #[], .int .i64 46, .func (.func 61) #[] #[], .int .i64 47, .func (.func 63) #[] #[]] 107) :
    RulesAt ((w.alloc (.cells #[.int .i64 (n : Int)] 3)).alloc o) (w.heap.size + 1) w.heap.size n := by
  subst ho
  have h1 : (w.alloc (.cells #[.int .i64 (n : Int)] 3)).heap.size = w.heap.size + 1 := by simp
  have h0 : (w.alloc (.cells #[.int .i64 (n : Int)] 3)).cell? ⟨w.heap.size, 0, none⟩ = some (.int .i64 (n : Int)) := by simp
  generalize w.alloc (.cells #[.int .i64 (n : Int)] 3) = W at h1 h0 ⊢
  rw [← h1]
  refine ⟨((box_below W _).cell (p := ⟨w.heap.size, 0, none⟩) (by show w.heap.size < W.heap.size; omega)).trans h0, fun k hk => ?_, fun k hk => ?_⟩
  · rcases six_cases hk with rfl | rfl | rfl | rfl | rfl | rfl <;> simp
  · rcases six_cases hk with rfl | rfl | rfl | rfl | rfl | rfl <;> simp [ruleF, ruleC]
theorem check_rules (n : Nat) (w : World) : Calls Tryz.prog 26 #[.int .i64 (n : Int)] w fun e w' => ∃ b c, e = .returned (.slice (some ⟨b, 0, none⟩) 6 6) ∧ RulesAt w' b c n ∧ b < w'.heap.size ∧ c < w'.heap.size ∧ Below w.heap.size w w' := by
  have hmf : ∀ (fn : Fn) (first cap : Array Value) (w : World), (Instr.makeFunc fn first cap).run Tryz.prog w = .ok (.func fn first cap) w := fun _ _ _ _ => rfl
  go_enter Tryz.func26, Tryz.ntmps26
  go_wp2
  go_ret
  exact ⟨w.heap.size + 1, w.heap.size, rfl, rules_made w n _ rfl, by simp, by simp; omega, (box_below w _).trans ((box_below _ _).mono (by simp))⟩
/-- What a rule leaves. -/
def RuleP (w : World) (B : Bool) (e : Ending) (w' : World) : Prop := e = .returned (.bool B) ∧ Below w.heap.size w w'
section
variable (w : World) (c : Int) (jt jf : Nat) (k : BitVec 32) (p : Int)
theorem rule_code (hc : 0 ≤ c ∧ c < 65536) : Calls Tryz.prog 55 #[.agg #[.int .u16 c, .int .u8 (jt : Int), .int .u8 (jf : Int), .int .u32 (k.toNat : Int)], .int .i64 p] w (RuleP w (!sealsC c)) := by
  have HC := Lib.hid hc
  clear hc
  go_enter Tryz.func55, Tryz.ntmps55
  go_wp2_with (go_at_call 56; (with_reducible refine (check_Seals c HC.out _).mono ?_); rintro e w' ⟨rfl, rfl⟩)
  go_ret
  exact ⟨rfl, box_below w _⟩
theorem rule_load_32 (hk : ¬ (60 < k.toNat ∨ k.toNat % 4 ≠ 0)) : Calls Tryz.prog 59 #[.agg #[.int .u16 32, .int .u8 (jt : Int), .int .u8 (jf : Int), .int .u32 (k.toNat : Int)], .int .i64 p] w (RuleP w false) := by
  have g0 : ¬ (64 : Int) ≤ (k.toNat : Int) := by omega
  have g1 : (k.toNat : Int).tmod 4 = 0 := by rw [Int.tmod_eq_emod_of_nonneg (by omega)]; omega
  clear hk
  go_enter Tryz.func59, Tryz.ntmps59
  go_wp2
  go_ret
  exact ⟨rfl, box_below w _⟩
theorem rule_load_far (hk : 64 ≤ k.toNat) : Calls Tryz.prog 59 #[.agg #[.int .u16 32, .int .u8 (jt : Int), .int .u8 (jf : Int), .int .u32 (k.toNat : Int)], .int .i64 p] w (RuleP w true) := by
  have g0 : (64 : Int) ≤ (k.toNat : Int) := by omega
  clear hk
  go_enter Tryz.func59, Tryz.ntmps59
  go_wp2
  go_ret
  exact ⟨rfl, box_below w _⟩
theorem rule_load_odd (hk0 : ¬ 64 ≤ k.toNat) (hk : k.toNat % 4 ≠ 0) : Calls Tryz.prog 59 #[.agg #[.int .u16 32, .int .u8 (jt : Int), .int .u8 (jf : Int), .int .u32 (k.toNat : Int)], .int .i64 p] w (RuleP w true) := by
  have g0 : ¬ (64 : Int) ≤ (k.toNat : Int) := by omega
  have g00 : decide (64 ≤ k.toNat) = false := decide_eq_false hk0
  have g1 : (k.toNat : Int).tmod 4 = ((k.toNat % 4 : Nat) : Int) := by rw [Int.tmod_eq_emod_of_nonneg (by omega)]; omega
  have g2 : ((k.toNat : Int) % 4 != 0) = true := bne_iff_ne.2 (by omega)
  clear hk hk0
  go_enter Tryz.func59, Tryz.ntmps59
  go_wp2
  go_ret
  exact ⟨rfl, box_below w _⟩
theorem rule_load_no (h : ¬ c = 32) : Calls Tryz.prog 59 #[.agg #[.int .u16 c, .int .u8 (jt : Int), .int .u8 (jf : Int), .int .u32 (k.toNat : Int)], .int .i64 p] w (RuleP w false) := by
  have b := beq_false_of_ne h
  go_enter Tryz.func59, Tryz.ntmps59
  go_wp2
  go_ret
  exact ⟨rfl, box_below w _⟩
theorem rule_div_yes (h : k = 0#32) : Calls Tryz.prog 60 #[.agg #[.int .u16 52, .int .u8 (jt : Int), .int .u8 (jf : Int), .int .u32 (k.toNat : Int)], .int .i64 p] w (RuleP w true) := by
  have g1 : (k.toNat : Int) = 0 := by rw [h]; rfl
  clear h
  go_enter Tryz.func60, Tryz.ntmps60
  go_wp2
  go_ret
  exact ⟨rfl, box_below w _⟩
theorem rule_div_no (h : ¬ k = 0#32) : Calls Tryz.prog 60 #[.agg #[.int .u16 52, .int .u8 (jt : Int), .int .u8 (jf : Int), .int .u32 (k.toNat : Int)], .int .i64 p] w (RuleP w false) := by
  have g1 : ¬ (k.toNat : Int) = 0 := fun g => h (BitVec.eq_of_toNat_eq (by simpa using g))
  have g2 : ((k.toNat : Int) == 0) = false := beq_false_of_ne g1
  clear h
  go_enter Tryz.func60, Tryz.ntmps60
  go_wp2
  go_ret
  exact ⟨rfl, box_below w _⟩
theorem rule_div_other (h : ¬ c = 52) : Calls Tryz.prog 60 #[.agg #[.int .u16 c, .int .u8 (jt : Int), .int .u8 (jf : Int), .int .u32 (k.toNat : Int)], .int .i64 p] w (RuleP w false) := by
  have b := beq_false_of_ne h
  go_enter Tryz.func60, Tryz.ntmps60
  go_wp2
  go_ret
  exact ⟨rfl, box_below w _⟩
theorem rule_shift_no (h : (c == 100 || c == 116) = false) : Calls Tryz.prog 61 #[.agg #[.int .u16 c, .int .u8 (jt : Int), .int .u8 (jf : Int), .int .u32 (k.toNat : Int)], .int .i64 p] w (RuleP w false) := by
  have H : Hid (∀ w, Calls Tryz.prog 62 #[.int .u16 c] w fun e w' => e = .returned (.bool false) ∧ w = w') := Lib.hid (fun w => by have := check_isShift c w; rw [h] at this; exact this)
  clear h
  go_enter Tryz.func61, Tryz.ntmps61
  go_wp2_with (go_at_call 62; (with_reducible refine (H.out _).mono ?_); rintro e w' ⟨rfl, rfl⟩)
  go_ret
  exact ⟨rfl, box_below w _⟩
theorem rule_shift_yes (h : (c == 100 || c == 116) = true) (B : Bool) (hk : decide (32 ≤ k.toNat) = B) : Calls Tryz.prog 61 #[.agg #[.int .u16 c, .int .u8 (jt : Int), .int .u8 (jf : Int), .int .u32 (k.toNat : Int)], .int .i64 p] w (RuleP w B) := by
  have H : Hid (∀ w, Calls Tryz.prog 62 #[.int .u16 c] w fun e w' => e = .returned (.bool true) ∧ w = w') := Lib.hid (fun w => by have := check_isShift c w; rw [h] at this; exact this)
  have HB : Hid (decide ((32 : Int) ≤ (k.toNat : Int)) = B) := Lib.hid ((decide_eq_decide.2 (by omega)).trans hk)
  clear h hk
  go_enter Tryz.func61, Tryz.ntmps61
  go_wp2_with (go_at_call 62; (with_reducible refine (H.out _).mono ?_); rintro e w' ⟨rfl, rfl⟩)
  go_ret
  exact ⟨by rw [← HB.out]; rfl, box_below w _⟩
theorem rule_scratch_no (h : (c == 96 || c == 97 || (c == 2 || c == 3)) = false) : Calls Tryz.prog 63 #[.agg #[.int .u16 c, .int .u8 (jt : Int), .int .u8 (jf : Int), .int .u32 (k.toNat : Int)], .int .i64 p] w (RuleP w false) := by
  have H : Hid (∀ w, Calls Tryz.prog 64 #[.int .u16 c] w fun e w' => e = .returned (.bool false) ∧ w = w') := Lib.hid (fun w => by have := check_asksScratch c w; rw [h] at this; exact this)
  clear h
  go_enter Tryz.func63, Tryz.ntmps63
  go_wp2_with (go_at_call 64; (with_reducible refine (H.out _).mono ?_); rintro e w' ⟨rfl, rfl⟩)
  go_ret
  exact ⟨rfl, box_below w _⟩
theorem rule_scratch_yes (h : (c == 96 || c == 97 || (c == 2 || c == 3)) = true) (B : Bool) (hk : decide (16 ≤ k.toNat) = B) : Calls Tryz.prog 63 #[.agg #[.int .u16 c, .int .u8 (jt : Int), .int .u8 (jf : Int), .int .u32 (k.toNat : Int)], .int .i64 p] w (RuleP w B) := by
  have H : Hid (∀ w, Calls Tryz.prog 64 #[.int .u16 c] w fun e w' => e = .returned (.bool true) ∧ w = w') := Lib.hid (fun w => by have := check_asksScratch c w; rw [h] at this; exact this)
  have HB : Hid (decide ((16 : Int) ≤ (k.toNat : Int)) = B) := Lib.hid ((decide_eq_decide.2 (by omega)).trans hk)
  clear h hk
  go_enter Tryz.func63, Tryz.ntmps63
  go_wp2_with (go_at_call 64; (with_reducible refine (H.out _).mono ?_); rintro e w' ⟨rfl, rfl⟩)
  go_ret
  exact ⟨by rw [← HB.out]; rfl, box_below w _⟩
theorem goes_ja (l : Nat) (hl : l ≤ 140737488351232) (B : Bool) (hB : decide (l ≤ k.toNat) = B) : Calls Tryz.prog 58 #[.agg #[.int .u16 5, .int .u8 (jt : Int), .int .u8 (jf : Int), .int .u32 (k.toNat : Int)], .int .i64 (l : Int)] w (RuleP w B) := by
  have hk1 := k.isLt
  have hw3 : IntKind.u64.wrap (l : Int) = (l : Int) := by rw [IntKind.wrap_u64]; omega
  have hw4 : IntKind.u64.wrap (k.toNat : Int) = (k.toNat : Int) := by rw [IntKind.wrap_u64]; omega
  have HB : Hid (decide (l ≤ k.toNat) = B) := Lib.hid hB
  clear hB
  go_enter Tryz.func58, Tryz.ntmps58
  go_wp2
  go_ret
  exact ⟨by rw [← HB.out]; rfl, box_below w _⟩
theorem goes_no (h5 : ¬ c = 5) (hc : 0 ≤ c ∧ c < 65536) (hj : jumpC c = false) : Calls Tryz.prog 58 #[.agg #[.int .u16 c, .int .u8 (jt : Int), .int .u8 (jf : Int), .int .u32 (k.toNat : Int)], .int .i64 p] w (RuleP w false) := by
  have b := beq_false_of_ne h5
  have H : Hid (∀ w, Calls Tryz.prog 109 #[.int .u16 c] w fun e w' => e = .returned (.bool false) ∧ w = w') := Lib.hid (fun w => by have := check_isBranch c hc w; rw [hj] at this; exact this)
  clear hj hc
  go_enter Tryz.func58, Tryz.ntmps58
  go_wp2_with (go_at_call 109; (with_reducible refine (H.out _).mono ?_); rintro e w' ⟨rfl, rfl⟩)
  go_ret
  exact ⟨rfl, box_below w _⟩
theorem goes_jump (h5 : ¬ c = 5) (hc : 0 ≤ c ∧ c < 65536) (hj : jumpC c = true) (hjt : jt < 256) (hjf : jf < 256) (l : Nat) (hl : l ≤ 140737488351232) (B : Bool) (hB : decide (l ≤ jt ∨ l ≤ jf) = B) : Calls Tryz.prog 58 #[.agg #[.int .u16 c, .int .u8 (jt : Int), .int .u8 (jf : Int), .int .u32 (k.toNat : Int)], .int .i64 (l : Int)] w (RuleP w B) := by
  have b := beq_false_of_ne h5
  have H : Hid (∀ w, Calls Tryz.prog 109 #[.int .u16 c] w fun e w' => e = .returned (.bool true) ∧ w = w') := Lib.hid (fun w => by have := check_isBranch c hc w; rw [hj] at this; exact this)
  have HB : Hid (decide (l ≤ jt ∨ l ≤ jf) = B) := Lib.hid hB
  have hw5 : IntKind.i64.wrap (jt : Int) = (jt : Int) := IntWalk.i64_in _ (by omega)
  have hw6 : IntKind.i64.wrap (jf : Int) = (jf : Int) := IntWalk.i64_in _ (by omega)
  clear hj hc hB
  go_enter Tryz.func58, Tryz.ntmps58
  go_wp2_with (go_at_call 109; (with_reducible refine (H.out _).mono ?_); rintro e w' ⟨rfl, rfl⟩)
  all_goals
    go_ret
    refine ⟨?_, box_below w _⟩
    rw [← HB.out]
    exact congrArg (fun b => Ending.returned (Value.bool b)) (decide_eq_decide.2 (by omega))
theorem rule_goes (b n i : Nat) (hc : 0 ≤ c ∧ c < 65536) (hjt : jt < 256) (hjf : jf < 256) (hn : n ≤ 140737488351232) (hi : i < n) (h0 : w.cell? ⟨b, 0, none⟩ = some (.int .i64 (n : Int))) (B : Bool)
    (hB : (if c = 5 then decide (n - i - 1 ≤ k.toNat) else jumpC c && decide (n - i - 1 ≤ jt ∨ n - i - 1 ≤ jf)) = B) : Calls Tryz.prog 57 #[.agg #[.int .u16 c, .int .u8 (jt : Int), .int .u8 (jf : Int), .int .u32 (k.toNat : Int)], .int .i64 (i : Int), .pointer (some ⟨b, 0, none⟩)] w (RuleP w B) := by
  have H : Hid (∀ w, Calls Tryz.prog 58 #[.agg #[.int .u16 c, .int .u8 (jt : Int), .int .u8 (jf : Int), .int .u32 (k.toNat : Int)], .int .i64 ((n - i - 1 : Nat) : Int)] w (RuleP w B)) := Lib.hid fun w => by
    by_cases h5 : c = 5
    · subst h5
      rw [if_pos rfl] at hB
      exact goes_ja w jt jf k (n - i - 1) (by omega) B hB
    · rw [if_neg h5] at hB
      cases hj : jumpC c with
      | false => rw [hj] at hB; subst hB; exact goes_no w c jt jf k _ h5 hc hj
      | true => rw [hj, Bool.true_and] at hB; exact goes_jump w c jt jf k h5 hc hj hjt hjf (n - i - 1) (by omega) B hB
  have hw1 : IntKind.i64.wrap ((n : Int) - 1) = (n : Int) - 1 := IntWalk.i64_in _ (by omega)
  have hw2 : IntKind.i64.wrap ((n : Int) - 1 - (i : Int)) = ((n - i - 1 : Nat) : Int) := by rw [IntWalk.i64_in _ (by omega)]; omega
  have h0' : (w.alloc (insO c jt jf k)).cell? ⟨b, 0, none⟩ = some (.int .i64 (n : Int)) := ((box_below w _).cell (p := ⟨b, 0, none⟩) (cell_lt h0)).trans h0
  clear hB hc
  go_enter Tryz.func57, Tryz.ntmps57
  go_wp2_with (go_at_call 58; (with_reducible refine (H.out _).mono ?_); rintro e w' ⟨rfl, hb⟩)
  go_ret
  exact ⟨rfl, (box_below w _).trans (hb.mono (by simp))⟩
/-- What rule k says of an instruction with l behind it. -/
def ruleB (j : Nat) (x : Ins) (l : Nat) : Bool :=
  match j with
  | 0 => !sealsC x.code
  | 1 => if x.code = 5 then decide (l ≤ x.k.toNat) else jumpC x.code && decide (l ≤ x.jt ∨ l ≤ x.jf)
  | 2 => decide (x.code = 32 ∧ (60 < x.k.toNat ∨ x.k.toNat % 4 ≠ 0))
  | 3 => decide (x.code = 52 ∧ x.k = 0#32)
  | 4 => (x.code == 100 || x.code == 116) && decide (32 ≤ x.k.toNat)
  | 5 => (x.code == 96 || x.code == 97 || (x.code == 2 || x.code == 3)) && decide (16 ≤ x.k.toNat)
  | _ => false
end
/-- .. and does. -/
theorem rule_is (w : World) (j : Nat) (hj : j < 6) (x : Ins) (hx : x.OK) (b n i : Nat) (hn : n ≤ 140737488351232) (hi : i < n) (h0 : w.cell? ⟨b, 0, none⟩ = some (.int .i64 (n : Int))) :
    Calls Tryz.prog (ruleF j) (#[.agg #[.int .u16 x.code, .int .u8 (x.jt : Int), .int .u8 (x.jf : Int), .int .u32 (x.k.toNat : Int)], .int .i64 (i : Int)] ++ ruleC b j) w (RuleP w (ruleB j x (n - i - 1))) := by
  obtain ⟨c, jt, jf, k⟩ := x
  obtain ⟨hc0, hc1, hjt, hjf⟩ := hx
  simp only at hc0 hc1 hjt hjf
  rcases six_cases hj with rfl | rfl | rfl | rfl | rfl | rfl
  · exact rule_code w c jt jf k _ ⟨hc0, hc1⟩
  · exact rule_goes w c jt jf k b n i ⟨hc0, hc1⟩ hjt hjf hn hi h0 _ rfl
  · show Calls _ _ _ w (RuleP w (decide (c = 32 ∧ (60 < k.toNat ∨ k.toNat % 4 ≠ 0))))
    by_cases h : c = 32
    · subst h
      by_cases hf : 64 ≤ k.toNat
      · rw [decide_eq_true ⟨rfl, .inl (by omega)⟩]; exact rule_load_far w jt jf k _ hf
      · by_cases ho : k.toNat % 4 ≠ 0
        · rw [decide_eq_true ⟨rfl, .inr ho⟩]; exact rule_load_odd w jt jf k _ hf ho
        · rw [decide_eq_false (by omega)]; exact rule_load_32 w jt jf k _ (by omega)
    · rw [decide_eq_false (fun g => h g.1)]; exact rule_load_no w c jt jf k _ h
  · show Calls _ _ _ w (RuleP w (decide (c = 52 ∧ k = 0#32)))
    by_cases h : c = 52
    · subst h
      by_cases hf : k = 0#32
      · rw [decide_eq_true ⟨rfl, hf⟩]; exact rule_div_yes w jt jf k _ hf
      · rw [decide_eq_false (fun g => hf g.2)]; exact rule_div_no w jt jf k _ hf
    · rw [decide_eq_false (fun g => h g.1)]; exact rule_div_other w c jt jf k _ h
  · show Calls _ _ _ w (RuleP w ((c == 100 || c == 116) && decide (32 ≤ k.toNat)))
    cases h : (c == 100 || c == 116) with
    | false => exact rule_shift_no w c jt jf k _ h
    | true => exact rule_shift_yes w c jt jf k _ h _ rfl
  · show Calls _ _ _ w (RuleP w ((c == 96 || c == 97 || (c == 2 || c == 3)) && decide (16 ≤ k.toNat)))
    cases h : (c == 96 || c == 97 || (c == 2 || c == 3)) with
    | false => exact rule_scratch_no w c jt jf k _ h
    | true => exact rule_scratch_yes w c jt jf k _ h _ rfl
theorem rule_enters (j : Nat) (hj : j < 6) : Go.Proofs.Enters Tryz.prog (ruleF j) := by
  rcases six_cases hj with rfl | rfl | rfl | rfl | rfl | rfl
  · exact Go.Proofs.enters_of Tryz.func55 (by kernel_rfl) rfl
  · exact Go.Proofs.enters_of Tryz.func57 (by kernel_rfl) rfl
  · exact Go.Proofs.enters_of Tryz.func59 (by kernel_rfl) rfl
  · exact Go.Proofs.enters_of Tryz.func60 (by kernel_rfl) rfl
  · exact Go.Proofs.enters_of Tryz.func61 (by kernel_rfl) rfl
  · exact Go.Proofs.enters_of Tryz.func63 (by kernel_rfl) rfl
end Go.Proofs.YtoajommeiocfpaaGreat
namespace Go.Proofs.YtoajommeiocfpaaGreat
open Go Go.RowKit
set_option linter.unusedSimpArgs false
set_option linter.unusedVariables false
set_option maxRecDepth 100000

theorem one_none {q : Nat → Ins} {n i : Nat} {x : Ins} (hx : q i = x) (h : ∀ j, j < 6 → ruleB j x (n - i - 1) = false) : oneE q n i = 0 := by
  subst hx
  have h0 := h 0 (by decide); have h1 := h 1 (by decide); have h2 := h 2 (by decide); have h3 := h 3 (by decide); have h4 := h 4 (by decide); have h5 := h 5 (by decide)
  simp only [ruleB] at h0 h1 h2 h3 h4 h5
  refine one_ok.2 ⟨by simpa using h0, fun e => ?_, fun e => ?_, fun e => ?_, fun e => ?_, fun e => ?_, fun e => ?_⟩
  · rw [if_pos e] at h1; have := of_decide_eq_false h1; omega
  · have e5 : ¬ (q i).code = 5 := fun g => by rw [g] at e; cases e
    rw [if_neg e5, e, Bool.true_and] at h1; have := of_decide_eq_false h1; omega
  · have := of_decide_eq_false h2; omega
  · have := of_decide_eq_false h3; exact fun g => this ⟨e, g⟩
  · have g : ((q i).code == 100 || (q i).code == 116) = true := by rcases e with e | e <;> simp [e]
    rw [g, Bool.true_and] at h4; have := of_decide_eq_false h4; omega
  · have g : ((q i).code == 96 || (q i).code == 97 || ((q i).code == 2 || (q i).code == 3)) = true := by rcases e with e | e | e | e <;> simp [e]
    rw [g, Bool.true_and] at h5; have := of_decide_eq_false h5; omega
theorem one_some {q : Nat → Ins} {n i j : Nat} {x : Ins} (hx : q i = x) (hj : j < 6) (h : ∀ j', j' < j → ruleB j' x (n - i - 1) = false) (hb : ruleB j x (n - i - 1) = true) : oneE q n i = 42 + (j : Int) := by
  subst hx
  have s0 : 0 < j → sealsC (q i).code = true := fun g => by simpa [ruleB] using h 0 g
  have s1 : 1 < j → ¬ ((q i).code = 5 ∧ n - i - 1 ≤ (q i).k.toNat) ∧ ¬ (jumpC (q i).code = true ∧ (n - i - 1 ≤ (q i).jt ∨ n - i - 1 ≤ (q i).jf)) := fun g => by
    have h1 := h 1 g
    simp only [ruleB] at h1
    refine ⟨fun e => ?_, fun e => ?_⟩
    · rw [if_pos e.1] at h1; exact of_decide_eq_false h1 e.2
    · have e5 : ¬ (q i).code = 5 := fun g => by rw [g] at e; cases e.1
      rw [if_neg e5, e.1, Bool.true_and] at h1; exact of_decide_eq_false h1 e.2
  have s2 : 2 < j → ¬ ((q i).code = 32 ∧ (60 < (q i).k.toNat ∨ (q i).k.toNat % 4 ≠ 0)) := fun g => of_decide_eq_false (h 2 g)
  have s3 : 3 < j → ¬ ((q i).code = 52 ∧ (q i).k = 0#32) := fun g => of_decide_eq_false (h 3 g)
  have s4 : 4 < j → ¬ (((q i).code = 100 ∨ (q i).code = 116) ∧ 32 ≤ (q i).k.toNat) := fun g e => by
    have h4 := h 4 g
    simp only [ruleB] at h4
    have g : ((q i).code == 100 || (q i).code == 116) = true := by rcases e.1 with e | e <;> simp [e]
    rw [g, Bool.true_and] at h4; exact of_decide_eq_false h4 e.2
  unfold oneE
  rcases six_cases hj with rfl | rfl | rfl | rfl | rfl | rfl
  · simp only [ruleB] at hb
    rw [if_pos (by simpa using hb)]; rfl
  · rw [if_neg (by rw [s0 (by decide)]; decide)]
    simp only [ruleB] at hb
    by_cases e5 : (q i).code = 5
    · rw [if_pos e5] at hb
      rw [if_pos ⟨e5, of_decide_eq_true hb⟩]; rfl
    · rw [if_neg e5, Bool.and_eq_true] at hb
      rw [if_neg (fun g => e5 g.1), if_pos ⟨hb.1, of_decide_eq_true hb.2⟩]; rfl
  · rw [if_neg (by rw [s0 (by decide)]; decide), if_neg (s1 (by decide)).1, if_neg (s1 (by decide)).2, if_pos (of_decide_eq_true hb)]; rfl
  · rw [if_neg (by rw [s0 (by decide)]; decide), if_neg (s1 (by decide)).1, if_neg (s1 (by decide)).2, if_neg (s2 (by decide)), if_pos (of_decide_eq_true hb)]; rfl
  · simp only [ruleB, Bool.and_eq_true, Bool.or_eq_true, beq_iff_eq] at hb
    rw [if_neg (by rw [s0 (by decide)]; decide), if_neg (s1 (by decide)).1, if_neg (s1 (by decide)).2, if_neg (s2 (by decide)), if_neg (s3 (by decide)), if_pos ⟨hb.1, of_decide_eq_true hb.2⟩]; rfl
  · simp only [ruleB, Bool.and_eq_true, Bool.or_eq_true, beq_iff_eq] at hb
    rw [if_neg (by rw [s0 (by decide)]; decide), if_neg (s1 (by decide)).1, if_neg (s1 (by decide)).2, if_neg (s2 (by decide)), if_neg (s3 (by decide)), if_neg (s4 (by decide)), if_pos ⟨by rcases hb.1 with (h | h) | (h | h) <;> simp [h], of_decide_eq_true hb.2⟩]; rfl

/-- What stands while the rules are gone through. -/
def FB (w W : World) (b c n : Nat) (x : Ins) : Prop := RulesAt W b c n ∧ InsCells W w.heap.size 0 x ∧ Below w.heap.size w W ∧ w.heap.size < W.heap.size
theorem FB.below {w W W' : World} {b c n : Nat} {x : Ins} (h : FB w W b c n x) (hb : Below W.heap.size W W') (h1 : b < w.heap.size) (h2 : c < w.heap.size) : FB w W' b c n x :=
  ⟨h.1.below hb (Nat.lt_of_lt_of_le h1 h.2.2.1.size) (Nat.lt_of_lt_of_le h2 h.2.2.1.size), h.2.1.below hb h.2.2.2, h.2.2.1.trans (hb.mono h.2.2.1.size), Nat.lt_of_lt_of_le h.2.2.2 hb.size⟩
section
variable (w : World) (b c n i : Nat) (q : Nat → Ins) (x : Ins)
set_option maxHeartbeats 1000000 in
theorem check_firstBroken (hR : RulesAt w b c n) (hb : b < w.heap.size) (hc : c < w.heap.size) (hq : q i = x) (hx : x.OK) (hn : n ≤ 140737488351232) (hi : i < n) :
    Calls Tryz.prog 27 #[.slice (some ⟨b, 0, none⟩) 6 6, .agg #[.int .u16 x.code, .int .u8 (x.jt : Int), .int .u8 (x.jf : Int), .int .u32 (x.k.toNat : Int)], .int .i64 (i : Int)] w (LookP w (oneE q n i)) := by
  have HE := Lib.hid (fun j (hj : j < 6) => (rule_enters j hj : ∀ args w, (callFunc (ruleF j) args).run Tryz.prog w = .ok (.enter (ruleF j) args) w))
  have HS : Hid (FB w (w.alloc (insO x.code x.jt x.jf x.k)) b c n x) := Lib.hid ⟨hR.below (box_below w _) hb hc, ⟨by simp, by simp, by simp, by simp⟩, box_below w _, by simp⟩
  have HX := Lib.hid hx
  have HQ := Lib.hid hq
  clear hR hx hq
  go_enter Tryz.func27, Tryz.ntmps27
  go_wp2
  go_loopw [11] (fun v wr => ∃ k : Nat, k ≤ 6 ∧ v = .int .i64 (k : Int) ∧ (∀ j, j < k → ruleB j x (n - i - 1) = false) ∧ FB w wr b c n x) (fun v _ => 6 - (intOf v).toNat)
  case atStart => exact ⟨0, by omega, rfl, fun j hj => absurd hj (by omega), HS.out⟩
  case round =>
    obtain ⟨k, hk, rfl, hbad, hF⟩ := hrel
    by_cases hlt : k < 6
    · have hlt' : (k : Int) < 6 := by omega
      have e0 := hF.1.err k hlt
      have f0 := hF.1.fn k hlt
      obtain ⟨i0, i1, i2, i3⟩ := hF.2.1
      have he : ∀ args w, (callFunc (ruleF k) args).run Tryz.prog w = .ok (.enter (ruleF k) args) w := HE.out k hlt
      have B1 := box_below wr (.cells #[.int .i64 (42 + (k : Int)), .func (.func (ruleF k)) #[] (ruleC c k)] 107)
      have HF1 := Lib.hid (hF.below B1 hb hc)
      obtain ⟨j0, j1, j2, j3⟩ := HF1.out.2.1
      clear i0 i1 i2 i3 B1
      go_wp2
      refine (rule_is _ k hlt x HX.out c n i hn hi HF1.out.1.num).mono ?_
      rintro e w2 ⟨rfl, hb2⟩
      have HF2 := Lib.hid (HF1.out.below hb2 hb hc)
      have e2 : w2.cell? ⟨wr.heap.size, 0, none⟩ = some (.int .i64 (42 + (k : Int))) := (hb2.cell (p := ⟨wr.heap.size, 0, none⟩) (by simp)).trans (by simp)
      have HBad := Lib.hid hbad
      clear hb2 HF1 hF hbad e0 f0 j0 j1 j2 j3 he
      rcases hB : ruleB k x (n - i - 1) with _ | _
      · have HB := Lib.hid hB
        clear hB
        go_wp2
        exact ⟨⟨k + 1, by omega, by go_num, fun j hj => by
          rcases Nat.lt_or_ge j k with g | g
          · exact HBad.out j g
          · rw [show j = k by omega]; exact HB.out, HF2.out⟩, by simp [intOf]; omega⟩
      · have HO := Lib.hid (one_some HQ.out hlt HBad.out hB)
        clear hB
        go_wp2
        go_ret
        exact ⟨by rw [HO.out]; rfl, HF2.out.2.2.1⟩
    · have HO := Lib.hid (one_none HQ.out (fun j hj => hbad j (by omega)))
      go_wp2
      go_ret
      exact ⟨by rw [HO.out]; rfl, hF.2.2.1⟩
end
section
variable (w : World) (A : Option Addr) (n cap : Nat) (q : Nat → Ins)
end
end Go.Proofs.YtoajommeiocfpaaGreat

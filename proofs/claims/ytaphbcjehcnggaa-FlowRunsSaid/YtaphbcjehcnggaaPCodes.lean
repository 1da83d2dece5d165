/-
  What the program's functions on codes of classic BPF answer, in its package check: contracts, for every code. Conditions: those that each names.
-/
import Derived.Test.YtaphbcjehcnggaaCbpfFns
namespace Go.Proofs.Ytaphbcjehcnggaa
open Go Go.RowKit
set_option linter.unusedSimpArgs false
set_option linter.unusedVariables false

theorem clr16 (v : BitVec 16) : bits .andNot .u16 (v.toNat : Int) 8 = ((v &&& ~~~8#16).toNat : Int) := by
  have h : ∀ a : BitVec 16, BitVec.ofInt 16 (a.toNat : Int) = a := fun a => by simp
  have hw : ∀ a : BitVec 16, IntKind.u16.wrap (a.toNat : Int) = (a.toNat : Int) := fun a => by
    rw [IntKind.wrap_u16]; have := a.isLt; omega
  show IntKind.u16.wrap ((BitVec.ofInt 16 (v.toNat : Int) &&& ~~~BitVec.ofInt 16 8).toNat : Int) = _
  rw [h, hw]
  rfl
theorem clr_inv (v X : BitVec 16) (h : v &&& ~~~8#16 = X) : v = X ∨ v = X ||| 8#16 := by
  have h2 : v = (v &&& ~~~8#16) ||| (v &&& 8#16) := by
    ext i hi
    simp only [BitVec.getElem_or, BitVec.getElem_and, BitVec.getElem_not]
    cases v[i] <;> cases (8#16)[i] <;> rfl
  have h3 : v &&& 8#16 = if v.getLsbD 3 then 8#16 else 0#16 := by
    have := BitVec.and_twoPow v 3
    exact this
  rw [h, h3] at h2
  split at h2
  · exact .inr h2
  · exact .inl (by rw [h2]; simp)
theorem clr_not {c : Int} (h0 : 0 ≤ c) (h1 : c < 65536) (X : BitVec 16) (hx : ¬ c = (X.toNat : Int)) (hy : ¬ c = ((X ||| 8#16).toNat : Int)) : ¬ bits .andNot .u16 c 8 = (X.toNat : Int) := fun h => by
  have hc : c = ((BitVec.ofNat 16 c.toNat).toNat : Int) := by rw [BitVec.toNat_ofNat, Nat.mod_eq_of_lt (by omega)]; omega
  rw [hc] at h hx hy
  rw [clr16] at h
  generalize BitVec.ofNat 16 c.toNat = v at h hx hy
  rcases clr_inv v X (BitVec.eq_of_toNat_eq (Int.ofNat.inj h)) with rfl | rfl
  · exact hx rfl
  · exact hy rfl

def loadL : List Int := [32, 128, 129, 0, 1, 96, 97]
def loadC (c : Int) : Bool := loadL.contains c
theorem load_cases {c : Int} (h : loadC c = true) : c = 32 ∨ c = 128 ∨ c = 129 ∨ c = 0 ∨ c = 1 ∨ c = 96 ∨ c = 97 := by
  simpa [loadC, loadL] using h
theorem check_isLoad (c : Int) (w : World) : Calls Try.prog 76 #[.int .u16 c] w fun e w' => e = .returned (.bool (loadC c)) ∧ w = w' := by
  rcases hb : loadC c with _ | _
  · have h : ¬ (c = 32 ∨ c = 128 ∨ c = 129 ∨ c = 0 ∨ c = 1 ∨ c = 96 ∨ c = 97) := by simpa [loadC, loadL] using hb
    simp only [not_or] at h
    clear hb
    go_enter Try.func76, Try.ntmps76
    go_wp2
    go_ret
    exact ⟨rfl, rfl⟩
  · rcases load_cases hb with rfl | rfl | rfl | rfl | rfl | rfl | rfl
    all_goals
      clear hb
      go_enter Try.func76, Try.ntmps76
      go_wp2
      go_ret
      exact ⟨rfl, rfl⟩
theorem check_isAlu (c : Int) (hc : 0 ≤ c ∧ c < 65536) (w : World) : Calls Try.prog 78 #[.int .u16 c] w fun e w' => e = .returned (.bool (aluC c || c == 132)) ∧ w = w' := by
  rcases hb : aluC c with _ | _
  · have h : ¬ (c = 4 ∨ c = 20 ∨ c = 36 ∨ c = 52 ∨ c = 68 ∨ c = 84 ∨ c = 100 ∨ c = 116 ∨ c = 164 ∨ c = 12 ∨ c = 28 ∨ c = 44 ∨ c = 60 ∨ c = 76 ∨ c = 92 ∨ c = 108 ∨ c = 124 ∨ c = 172) := by
      simpa [aluC, aluL] using hb
    simp only [not_or] at h
    obtain ⟨a1, a2, a3, a4, a5, a6, a7, a8, a9, b1, b2, b3, b4, b5, b6, b7, b8, b9⟩ := h
    have g1 := clr_not hc.1 hc.2 4#16 a1 b1
    have g2 := clr_not hc.1 hc.2 20#16 a2 b2
    have g3 := clr_not hc.1 hc.2 36#16 a3 b3
    have g4 := clr_not hc.1 hc.2 52#16 a4 b4
    have g5 := clr_not hc.1 hc.2 68#16 a5 b5
    have g6 := clr_not hc.1 hc.2 84#16 a6 b6
    have g7 := clr_not hc.1 hc.2 100#16 a7 b7
    have g8 := clr_not hc.1 hc.2 116#16 a8 b8
    have g9 := clr_not hc.1 hc.2 164#16 a9 b9
    simp at g1 g2 g3 g4 g5 g6 g7 g8 g9
    clear hb a1 a2 a3 a4 a5 a6 a7 a8 a9 b1 b2 b3 b4 b5 b6 b7 b8 b9 hc
    go_enter Try.func78, Try.ntmps78
    go_wp2
    go_ret
    exact ⟨rfl, rfl⟩
  · rcases alu_cases hb with rfl | rfl | rfl | rfl | rfl | rfl | rfl | rfl | rfl | rfl | rfl | rfl | rfl | rfl | rfl | rfl | rfl | rfl
    all_goals
      clear hb
      go_enter Try.func78, Try.ntmps78
      go_wp2
      go_ret
      exact ⟨rfl, rfl⟩
theorem check_isBranch (c : Int) (hc : 0 ≤ c ∧ c < 65536) (w : World) : Calls Try.prog 79 #[.int .u16 c] w fun e w' => e = .returned (.bool (jumpC c)) ∧ w = w' := by
  rcases hb : jumpC c with _ | _
  · have h : ¬ (c = 21 ∨ c = 37 ∨ c = 53 ∨ c = 69 ∨ c = 29 ∨ c = 45 ∨ c = 61 ∨ c = 77) := by
      simpa [jumpC, jumpL] using hb
    simp only [not_or] at h
    obtain ⟨a1, a2, a3, a4, b1, b2, b3, b4⟩ := h
    have g1 := clr_not hc.1 hc.2 21#16 a1 b1
    have g2 := clr_not hc.1 hc.2 37#16 a2 b2
    have g3 := clr_not hc.1 hc.2 53#16 a3 b3
    have g4 := clr_not hc.1 hc.2 69#16 a4 b4
    simp at g1 g2 g3 g4
    clear hb a1 a2 a3 a4 b1 b2 b3 b4 hc
    go_enter Try.func79, Try.ntmps79
    go_wp2
    go_ret
    exact ⟨rfl, rfl⟩
  · rcases jump_cases hb with rfl | rfl | rfl | rfl | rfl | rfl | rfl | rfl
    all_goals
      clear hb
      go_enter Try.func79, Try.ntmps79
      go_wp2
      go_ret
      exact ⟨rfl, rfl⟩
theorem check_isStore (c : Int) (w : World) : Calls Try.prog 77 #[.int .u16 c] w fun e w' => e = .returned (.bool (c == 2 || c == 3)) ∧ w = w' := by
  go_enter Try.func77, Try.ntmps77
  go_wp2
  all_goals
    go_ret
    refine ⟨?_, rfl⟩
    simp_all
theorem check_isShift (c : Int) (w : World) : Calls Try.prog 72 #[.int .u16 c] w fun e w' => e = .returned (.bool (c == 100 || c == 116)) ∧ w = w' := by
  go_enter Try.func72, Try.ntmps72
  go_wp2
  all_goals
    go_ret
    refine ⟨?_, rfl⟩
    simp_all
theorem check_isReturn (c : Int) (w : World) : Calls Try.prog 59 #[.int .u16 c] w fun e w' => e = .returned (.bool (c == 6 || c == 22)) ∧ w = w' := by
  go_enter Try.func59, Try.ntmps59
  go_wp2
  all_goals
    go_ret
    refine ⟨?_, rfl⟩
    simp_all
theorem check_isCopy (c : Int) (w : World) : Calls Try.prog 80 #[.int .u16 c] w fun e w' => e = .returned (.bool (c == 7 || c == 135)) ∧ w = w' := by
  go_enter Try.func80, Try.ntmps80
  go_wp2
  all_goals
    go_ret
    refine ⟨?_, rfl⟩
    simp_all
theorem check_asksScratch (c : Int) (w : World) : Calls Try.prog 74 #[.int .u16 c] w fun e w' => e = .returned (.bool (c == 96 || c == 97 || (c == 2 || c == 3))) ∧ w = w' := by
  go_enter Try.func74, Try.ntmps74
  go_wp2_with (go_at_call 77; (with_reducible refine (check_isStore c _).mono ?_); rintro e w' ⟨rfl, rfl⟩)
  all_goals
    go_ret
    refine ⟨?_, rfl⟩
    simp_all
theorem seals_is (c : Int) : sealsC c = (loadC c || (c == 2 || c == 3) || (aluC c || c == 132) || c == 5 || jumpC c || (c == 6 || c == 22) || (c == 7 || c == 135)) := by
  rw [Bool.eq_iff_iff]
  simp only [sealsC, restC, restL, loadC, loadL, Bool.or_eq_true, beq_iff_eq, List.contains_cons, List.contains_nil, Bool.or_false]
  grind
theorem check_Seals_0 (c : Int) (hc : 0 ≤ c ∧ c < 65536) (h0 : loadC c = true) (w : World) : Calls Try.prog 66 #[.int .u16 c] w fun e w' => e = .returned (.bool true) ∧ w = w' := by
  have H0 : Hid (∀ w, Calls Try.prog 76 #[.int .u16 c] w fun e w' => e = .returned (.bool true) ∧ w = w') := Lib.hid (fun w => by have := check_isLoad c w; rw [h0] at this; exact this)
  clear hc h0
  go_enter Try.func66, Try.ntmps66
  go_wp2_with (first
    | (go_at_call 76; (with_reducible refine (H0.out _).mono ?_); rintro e w' ⟨rfl, rfl⟩))
  go_ret
  exact ⟨rfl, rfl⟩
theorem check_Seals_1 (c : Int) (hc : 0 ≤ c ∧ c < 65536) (h0 : loadC c = false) (h1 : (c == 2 || c == 3) = true) (w : World) : Calls Try.prog 66 #[.int .u16 c] w fun e w' => e = .returned (.bool true) ∧ w = w' := by
  have H0 : Hid (∀ w, Calls Try.prog 76 #[.int .u16 c] w fun e w' => e = .returned (.bool false) ∧ w = w') := Lib.hid (fun w => by have := check_isLoad c w; rw [h0] at this; exact this)
  have H1 : Hid (∀ w, Calls Try.prog 77 #[.int .u16 c] w fun e w' => e = .returned (.bool true) ∧ w = w') := Lib.hid (fun w => by have := check_isStore c w; rw [h1] at this; exact this)
  clear hc h0 h1
  go_enter Try.func66, Try.ntmps66
  go_wp2_with (first
    | (go_at_call 76; (with_reducible refine (H0.out _).mono ?_); rintro e w' ⟨rfl, rfl⟩)
    | (go_at_call 77; (with_reducible refine (H1.out _).mono ?_); rintro e w' ⟨rfl, rfl⟩))
  go_ret
  exact ⟨rfl, rfl⟩
theorem check_Seals_2 (c : Int) (hc : 0 ≤ c ∧ c < 65536) (h0 : loadC c = false) (h1 : (c == 2 || c == 3) = false) (h2 : (aluC c || c == 132) = true) (w : World) : Calls Try.prog 66 #[.int .u16 c] w fun e w' => e = .returned (.bool true) ∧ w = w' := by
  have H0 : Hid (∀ w, Calls Try.prog 76 #[.int .u16 c] w fun e w' => e = .returned (.bool false) ∧ w = w') := Lib.hid (fun w => by have := check_isLoad c w; rw [h0] at this; exact this)
  have H1 : Hid (∀ w, Calls Try.prog 77 #[.int .u16 c] w fun e w' => e = .returned (.bool false) ∧ w = w') := Lib.hid (fun w => by have := check_isStore c w; rw [h1] at this; exact this)
  have H2 : Hid (∀ w, Calls Try.prog 78 #[.int .u16 c] w fun e w' => e = .returned (.bool true) ∧ w = w') := Lib.hid (fun w => by have := check_isAlu c hc w; rw [h2] at this; exact this)
  clear hc h0 h1 h2
  go_enter Try.func66, Try.ntmps66
  go_wp2_with (first
    | (go_at_call 76; (with_reducible refine (H0.out _).mono ?_); rintro e w' ⟨rfl, rfl⟩)
    | (go_at_call 77; (with_reducible refine (H1.out _).mono ?_); rintro e w' ⟨rfl, rfl⟩)
    | (go_at_call 78; (with_reducible refine (H2.out _).mono ?_); rintro e w' ⟨rfl, rfl⟩))
  go_ret
  exact ⟨rfl, rfl⟩
theorem check_Seals_3 (c : Int) (hc : 0 ≤ c ∧ c < 65536) (h0 : loadC c = false) (h1 : (c == 2 || c == 3) = false) (h2 : (aluC c || c == 132) = false) (h3 : c = 5) (w : World) : Calls Try.prog 66 #[.int .u16 c] w fun e w' => e = .returned (.bool true) ∧ w = w' := by
  subst h3
  have H0 : Hid (∀ w, Calls Try.prog 76 #[.int .u16 5] w fun e w' => e = .returned (.bool false) ∧ w = w') := Lib.hid (fun w => by have := check_isLoad 5 w; rw [h0] at this; exact this)
  have H1 : Hid (∀ w, Calls Try.prog 77 #[.int .u16 5] w fun e w' => e = .returned (.bool false) ∧ w = w') := Lib.hid (fun w => by have := check_isStore 5 w; rw [h1] at this; exact this)
  have H2 : Hid (∀ w, Calls Try.prog 78 #[.int .u16 5] w fun e w' => e = .returned (.bool false) ∧ w = w') := Lib.hid (fun w => by have := check_isAlu 5 hc w; rw [h2] at this; exact this)
  clear hc h0 h1 h2
  go_enter Try.func66, Try.ntmps66
  go_wp2_with (first
    | (go_at_call 76; (with_reducible refine (H0.out _).mono ?_); rintro e w' ⟨rfl, rfl⟩)
    | (go_at_call 77; (with_reducible refine (H1.out _).mono ?_); rintro e w' ⟨rfl, rfl⟩)
    | (go_at_call 78; (with_reducible refine (H2.out _).mono ?_); rintro e w' ⟨rfl, rfl⟩))
  go_ret
  exact ⟨rfl, rfl⟩
theorem check_Seals_4 (c : Int) (hc : 0 ≤ c ∧ c < 65536) (h0 : loadC c = false) (h1 : (c == 2 || c == 3) = false) (h2 : (aluC c || c == 132) = false) (h3 : ¬ c = 5) (h4 : jumpC c = true) (w : World) : Calls Try.prog 66 #[.int .u16 c] w fun e w' => e = .returned (.bool true) ∧ w = w' := by
  have H0 : Hid (∀ w, Calls Try.prog 76 #[.int .u16 c] w fun e w' => e = .returned (.bool false) ∧ w = w') := Lib.hid (fun w => by have := check_isLoad c w; rw [h0] at this; exact this)
  have H1 : Hid (∀ w, Calls Try.prog 77 #[.int .u16 c] w fun e w' => e = .returned (.bool false) ∧ w = w') := Lib.hid (fun w => by have := check_isStore c w; rw [h1] at this; exact this)
  have H2 : Hid (∀ w, Calls Try.prog 78 #[.int .u16 c] w fun e w' => e = .returned (.bool false) ∧ w = w') := Lib.hid (fun w => by have := check_isAlu c hc w; rw [h2] at this; exact this)
  have H4 : Hid (∀ w, Calls Try.prog 79 #[.int .u16 c] w fun e w' => e = .returned (.bool true) ∧ w = w') := Lib.hid (fun w => by have := check_isBranch c hc w; rw [h4] at this; exact this)
  have b5 : (c == 5) = false := beq_false_of_ne h3
  clear hc h0 h1 h2 h4
  go_enter Try.func66, Try.ntmps66
  go_wp2_with (first
    | (go_at_call 76; (with_reducible refine (H0.out _).mono ?_); rintro e w' ⟨rfl, rfl⟩)
    | (go_at_call 77; (with_reducible refine (H1.out _).mono ?_); rintro e w' ⟨rfl, rfl⟩)
    | (go_at_call 78; (with_reducible refine (H2.out _).mono ?_); rintro e w' ⟨rfl, rfl⟩)
    | (go_at_call 79; (with_reducible refine (H4.out _).mono ?_); rintro e w' ⟨rfl, rfl⟩))
  go_ret
  exact ⟨rfl, rfl⟩
theorem check_Seals_5 (c : Int) (hc : 0 ≤ c ∧ c < 65536) (h0 : loadC c = false) (h1 : (c == 2 || c == 3) = false) (h2 : (aluC c || c == 132) = false) (h3 : ¬ c = 5) (h4 : jumpC c = false) (h5 : (c == 6 || c == 22) = true) (w : World) : Calls Try.prog 66 #[.int .u16 c] w fun e w' => e = .returned (.bool true) ∧ w = w' := by
  have H0 : Hid (∀ w, Calls Try.prog 76 #[.int .u16 c] w fun e w' => e = .returned (.bool false) ∧ w = w') := Lib.hid (fun w => by have := check_isLoad c w; rw [h0] at this; exact this)
  have H1 : Hid (∀ w, Calls Try.prog 77 #[.int .u16 c] w fun e w' => e = .returned (.bool false) ∧ w = w') := Lib.hid (fun w => by have := check_isStore c w; rw [h1] at this; exact this)
  have H2 : Hid (∀ w, Calls Try.prog 78 #[.int .u16 c] w fun e w' => e = .returned (.bool false) ∧ w = w') := Lib.hid (fun w => by have := check_isAlu c hc w; rw [h2] at this; exact this)
  have H4 : Hid (∀ w, Calls Try.prog 79 #[.int .u16 c] w fun e w' => e = .returned (.bool false) ∧ w = w') := Lib.hid (fun w => by have := check_isBranch c hc w; rw [h4] at this; exact this)
  have H5 : Hid (∀ w, Calls Try.prog 59 #[.int .u16 c] w fun e w' => e = .returned (.bool true) ∧ w = w') := Lib.hid (fun w => by have := check_isReturn c w; rw [h5] at this; exact this)
  have b5 : (c == 5) = false := beq_false_of_ne h3
  clear hc h0 h1 h2 h4 h5
  go_enter Try.func66, Try.ntmps66
  go_wp2_with (first
    | (go_at_call 76; (with_reducible refine (H0.out _).mono ?_); rintro e w' ⟨rfl, rfl⟩)
    | (go_at_call 77; (with_reducible refine (H1.out _).mono ?_); rintro e w' ⟨rfl, rfl⟩)
    | (go_at_call 78; (with_reducible refine (H2.out _).mono ?_); rintro e w' ⟨rfl, rfl⟩)
    | (go_at_call 79; (with_reducible refine (H4.out _).mono ?_); rintro e w' ⟨rfl, rfl⟩)
    | (go_at_call 59; (with_reducible refine (H5.out _).mono ?_); rintro e w' ⟨rfl, rfl⟩))
  go_ret
  exact ⟨rfl, rfl⟩
theorem check_Seals_6 (c : Int) (hc : 0 ≤ c ∧ c < 65536) (h0 : loadC c = false) (h1 : (c == 2 || c == 3) = false) (h2 : (aluC c || c == 132) = false) (h3 : ¬ c = 5) (h4 : jumpC c = false) (h5 : (c == 6 || c == 22) = false) (h6 : (c == 7 || c == 135) = true) (w : World) : Calls Try.prog 66 #[.int .u16 c] w fun e w' => e = .returned (.bool true) ∧ w = w' := by
  have H0 : Hid (∀ w, Calls Try.prog 76 #[.int .u16 c] w fun e w' => e = .returned (.bool false) ∧ w = w') := Lib.hid (fun w => by have := check_isLoad c w; rw [h0] at this; exact this)
  have H1 : Hid (∀ w, Calls Try.prog 77 #[.int .u16 c] w fun e w' => e = .returned (.bool false) ∧ w = w') := Lib.hid (fun w => by have := check_isStore c w; rw [h1] at this; exact this)
  have H2 : Hid (∀ w, Calls Try.prog 78 #[.int .u16 c] w fun e w' => e = .returned (.bool false) ∧ w = w') := Lib.hid (fun w => by have := check_isAlu c hc w; rw [h2] at this; exact this)
  have H4 : Hid (∀ w, Calls Try.prog 79 #[.int .u16 c] w fun e w' => e = .returned (.bool false) ∧ w = w') := Lib.hid (fun w => by have := check_isBranch c hc w; rw [h4] at this; exact this)
  have H5 : Hid (∀ w, Calls Try.prog 59 #[.int .u16 c] w fun e w' => e = .returned (.bool false) ∧ w = w') := Lib.hid (fun w => by have := check_isReturn c w; rw [h5] at this; exact this)
  have H6 : Hid (∀ w, Calls Try.prog 80 #[.int .u16 c] w fun e w' => e = .returned (.bool true) ∧ w = w') := Lib.hid (fun w => by have := check_isCopy c w; rw [h6] at this; exact this)
  have b5 : (c == 5) = false := beq_false_of_ne h3
  clear hc h0 h1 h2 h4 h5 h6
  go_enter Try.func66, Try.ntmps66
  go_wp2_with (first
    | (go_at_call 76; (with_reducible refine (H0.out _).mono ?_); rintro e w' ⟨rfl, rfl⟩)
    | (go_at_call 77; (with_reducible refine (H1.out _).mono ?_); rintro e w' ⟨rfl, rfl⟩)
    | (go_at_call 78; (with_reducible refine (H2.out _).mono ?_); rintro e w' ⟨rfl, rfl⟩)
    | (go_at_call 79; (with_reducible refine (H4.out _).mono ?_); rintro e w' ⟨rfl, rfl⟩)
    | (go_at_call 59; (with_reducible refine (H5.out _).mono ?_); rintro e w' ⟨rfl, rfl⟩)
    | (go_at_call 80; (with_reducible refine (H6.out _).mono ?_); rintro e w' ⟨rfl, rfl⟩))
  go_ret
  exact ⟨rfl, rfl⟩
theorem check_Seals_7 (c : Int) (hc : 0 ≤ c ∧ c < 65536) (h0 : loadC c = false) (h1 : (c == 2 || c == 3) = false) (h2 : (aluC c || c == 132) = false) (h3 : ¬ c = 5) (h4 : jumpC c = false) (h5 : (c == 6 || c == 22) = false) (h6 : (c == 7 || c == 135) = false) (w : World) : Calls Try.prog 66 #[.int .u16 c] w fun e w' => e = .returned (.bool false) ∧ w = w' := by
  have H0 : Hid (∀ w, Calls Try.prog 76 #[.int .u16 c] w fun e w' => e = .returned (.bool false) ∧ w = w') := Lib.hid (fun w => by have := check_isLoad c w; rw [h0] at this; exact this)
  have H1 : Hid (∀ w, Calls Try.prog 77 #[.int .u16 c] w fun e w' => e = .returned (.bool false) ∧ w = w') := Lib.hid (fun w => by have := check_isStore c w; rw [h1] at this; exact this)
  have H2 : Hid (∀ w, Calls Try.prog 78 #[.int .u16 c] w fun e w' => e = .returned (.bool false) ∧ w = w') := Lib.hid (fun w => by have := check_isAlu c hc w; rw [h2] at this; exact this)
  have H4 : Hid (∀ w, Calls Try.prog 79 #[.int .u16 c] w fun e w' => e = .returned (.bool false) ∧ w = w') := Lib.hid (fun w => by have := check_isBranch c hc w; rw [h4] at this; exact this)
  have H5 : Hid (∀ w, Calls Try.prog 59 #[.int .u16 c] w fun e w' => e = .returned (.bool false) ∧ w = w') := Lib.hid (fun w => by have := check_isReturn c w; rw [h5] at this; exact this)
  have H6 : Hid (∀ w, Calls Try.prog 80 #[.int .u16 c] w fun e w' => e = .returned (.bool false) ∧ w = w') := Lib.hid (fun w => by have := check_isCopy c w; rw [h6] at this; exact this)
  have b5 : (c == 5) = false := beq_false_of_ne h3
  clear hc h0 h1 h2 h4 h5 h6
  go_enter Try.func66, Try.ntmps66
  go_wp2_with (first
    | (go_at_call 76; (with_reducible refine (H0.out _).mono ?_); rintro e w' ⟨rfl, rfl⟩)
    | (go_at_call 77; (with_reducible refine (H1.out _).mono ?_); rintro e w' ⟨rfl, rfl⟩)
    | (go_at_call 78; (with_reducible refine (H2.out _).mono ?_); rintro e w' ⟨rfl, rfl⟩)
    | (go_at_call 79; (with_reducible refine (H4.out _).mono ?_); rintro e w' ⟨rfl, rfl⟩)
    | (go_at_call 59; (with_reducible refine (H5.out _).mono ?_); rintro e w' ⟨rfl, rfl⟩)
    | (go_at_call 80; (with_reducible refine (H6.out _).mono ?_); rintro e w' ⟨rfl, rfl⟩))
  go_ret
  exact ⟨rfl, rfl⟩
theorem check_Seals (c : Int) (hc : 0 ≤ c ∧ c < 65536) (w : World) : Calls Try.prog 66 #[.int .u16 c] w fun e w' => e = .returned (.bool (sealsC c)) ∧ w = w' := by
  rw [seals_is]
  cases h0 : loadC c with
  | true => simpa [h0] using check_Seals_0 c hc h0 w
  | false =>
  cases h1 : (c == 2 || c == 3) with
  | true => simpa [h0, h1] using check_Seals_1 c hc h0 h1 w
  | false =>
  cases h2 : (aluC c || c == 132) with
  | true => simpa [h0, h1, h2] using check_Seals_2 c hc h0 h1 h2 w
  | false =>
  by_cases h3 : c = 5
  · simpa [h0, h1, h2, h3] using check_Seals_3 c hc h0 h1 h2 h3 w
  have b3 : (c == 5) = false := beq_false_of_ne h3
  cases h4 : jumpC c with
  | true => simpa [h0, h1, h2, b3, h4] using check_Seals_4 c hc h0 h1 h2 h3 h4 w
  | false =>
  cases h5 : (c == 6 || c == 22) with
  | true => simpa [h0, h1, h2, b3, h4, h5] using check_Seals_5 c hc h0 h1 h2 h3 h4 h5 w
  | false =>
  cases h6 : (c == 7 || c == 135) with
  | true => simpa [h0, h1, h2, b3, h4, h5, h6] using check_Seals_6 c hc h0 h1 h2 h3 h4 h5 h6 w
  | false =>
  simpa [h0, h1, h2, b3, h4, h5, h6] using check_Seals_7 c hc h0 h1 h2 h3 h4 h5 h6 w
end Go.Proofs.Ytaphbcjehcnggaa

/-
  The program's table of rules on instructions of classic BPF: what it holds, what each rule answers: contracts. Conditions: those that each names.
-/
import Derived.Test.YtaphbcjehcnggaaPCodes
import Derived.Test.YtaphbcjehcnggaaPMach
import Derived.Shelf.Abstract
namespace Go.Proofs.Ytaphbcjehcnggaa
open Go Go.RowKit
set_option linter.unusedSimpArgs false
set_option linter.unusedVariables false
set_option maxRecDepth 100000

/-- The function of rule k, what it captures, its error. -/
def ruleF (k : Nat) : Nat := ([65, 67, 69, 70, 71, 73] : List Nat).getD k 0
def ruleC (c : Nat) (k : Nat) : Array Value := if k = 1 then #[.pointer (some ⟨c, 0, none⟩)] else #[]
/-- A table of rules lies in block b, the number of instructions that it speaks of in block c. -/
structure RulesAt (w : World) (b c n : Nat) : Prop where
  num : w.cell? ⟨c, 0, none⟩ = some (.int .i64 (n : Int))
  err : ∀ k, k < 6 → w.cell? ⟨b, k * 2, none⟩ = some (.int .i64 (42 + (k : Int)))
  fn : ∀ k, k < 6 → w.cell? ⟨b, k * 2 + 1, none⟩ = some (.func (.func (ruleF k)) #[] (ruleC c k))
theorem RulesAt.below {w w' : World} {B b c n : Nat} (h : RulesAt w b c n) (hb : Below B w w') (h1 : b < B) (h2 : c < B) : RulesAt w' b c n :=
  ⟨(hb.cell (p := ⟨c, 0, none⟩) h2).trans h.num, fun k hk => (hb.cell (p := ⟨b, k * 2, none⟩) h1).trans (h.err k hk), fun k hk => (hb.cell (p := ⟨b, k * 2 + 1, none⟩) h1).trans (h.fn k hk)⟩
theorem six_cases {k : Nat} (h : k < 6) : k = 0 ∨ k = 1 ∨ k = 2 ∨ k = 3 ∨ k = 4 ∨ k = 5 := by omega
theorem rules_made (w : World) (n : Nat) (o : Obj) (ho : o = .cells #[.int .i64 42, .func (.func 65) #[] #[], .int .i64 43, .func (.func 67) #[] #[.pointer (some ⟨w.heap.size, 0, none⟩)], .int .i64 44, .func (.func 69) #[] #[], .int .i64 45, .func (.func 70) #[] #[], .int .i64 46, .func (.func 71) #[] #[], .int .i64 47, .func (.func 73) #[] #[]] 97) :
    RulesAt ((w.alloc (.cells #[.int .i64 (n : Int)] 3)).alloc o) (w.heap.size + 1) w.heap.size n := by
  subst ho
  have h1 : (w.alloc (.cells #[.int .i64 (n : Int)] 3)).heap.size = w.heap.size + 1 := by simp
  have h0 : (w.alloc (.cells #[.int .i64 (n : Int)] 3)).cell? ⟨w.heap.size, 0, none⟩ = some (.int .i64 (n : Int)) := by simp
  generalize w.alloc (.cells #[.int .i64 (n : Int)] 3) = W at h1 h0 ⊢
  rw [← h1]
  refine ⟨((box_below W _).cell (p := ⟨w.heap.size, 0, none⟩) (by show w.heap.size < W.heap.size; omega)).trans h0, fun k hk => ?_, fun k hk => ?_⟩
  · rcases six_cases hk with rfl | rfl | rfl | rfl | rfl | rfl <;> simp
  · rcases six_cases hk with rfl | rfl | rfl | rfl | rfl | rfl <;> simp [ruleF, ruleC]
theorem check_rules (n : Nat) (w : World) : Calls Try.prog 57 #[.int .i64 (n : Int)] w fun e w' => ∃ b c, e = .returned (.slice (some ⟨b, 0, none⟩) 6 6) ∧ RulesAt w' b c n ∧ b < w'.heap.size ∧ c < w'.heap.size ∧ Below w.heap.size w w' := by
  have hmf : ∀ (fn : Fn) (first cap : Array Value) (w : World), (Instr.makeFunc fn first cap).run Try.prog w = .ok (.func fn first cap) w := fun _ _ _ _ => rfl
  go_enter Try.func57, Try.ntmps57
  go_wp2
  go_ret
  exact ⟨w.heap.size + 1, w.heap.size, rfl, rules_made w n _ rfl, by simp, by simp; omega, (box_below w _).trans ((box_below _ _).mono (by simp))⟩
/-- What a rule leaves. -/
def RuleP (w : World) (B : Bool) (e : Ending) (w' : World) : Prop := e = .returned (.bool B) ∧ Below w.heap.size w w'
section
variable (w : World) (c : Int) (jt jf : Nat) (k : BitVec 32) (p : Int)
theorem rule_code (hc : 0 ≤ c ∧ c < 65536) : Calls Try.prog 65 #[.agg #[.int .u16 c, .int .u8 (jt : Int), .int .u8 (jf : Int), .int .u32 (k.toNat : Int)], .int .i64 p] w (RuleP w (!sealsC c)) := by
  have HC := Lib.hid hc
  clear hc
  go_enter Try.func65, Try.ntmps65
  go_wp2_with (go_at_call 66; (with_reducible refine (check_Seals c HC.out _).mono ?_); rintro e w' ⟨rfl, rfl⟩)
  go_ret
  exact ⟨rfl, box_below w _⟩
theorem rule_load_32 (hk : ¬ (60 < k.toNat ∨ k.toNat % 4 ≠ 0)) : Calls Try.prog 69 #[.agg #[.int .u16 32, .int .u8 (jt : Int), .int .u8 (jf : Int), .int .u32 (k.toNat : Int)], .int .i64 p] w (RuleP w false) := by
  have g0 : ¬ (64 : Int) ≤ (k.toNat : Int) := by omega
  have g1 : (k.toNat : Int).tmod 4 = 0 := by rw [Int.tmod_eq_emod_of_nonneg (by omega)]; omega
  clear hk
  go_enter Try.func69, Try.ntmps69
  go_wp2
  go_ret
  exact ⟨rfl, box_below w _⟩
theorem rule_load_far (hk : 64 ≤ k.toNat) : Calls Try.prog 69 #[.agg #[.int .u16 32, .int .u8 (jt : Int), .int .u8 (jf : Int), .int .u32 (k.toNat : Int)], .int .i64 p] w (RuleP w true) := by
  have g0 : (64 : Int) ≤ (k.toNat : Int) := by omega
  clear hk
  go_enter Try.func69, Try.ntmps69
  go_wp2
  go_ret
  exact ⟨rfl, box_below w _⟩
theorem rule_load_odd (hk0 : ¬ 64 ≤ k.toNat) (hk : k.toNat % 4 ≠ 0) : Calls Try.prog 69 #[.agg #[.int .u16 32, .int .u8 (jt : Int), .int .u8 (jf : Int), .int .u32 (k.toNat : Int)], .int .i64 p] w (RuleP w true) := by
  have g0 : ¬ (64 : Int) ≤ (k.toNat : Int) := by omega
  have g00 : decide (64 ≤ k.toNat) = false := decide_eq_false hk0
  have g1 : (k.toNat : Int).tmod 4 = ((k.toNat % 4 : Nat) : Int) := by rw [Int.tmod_eq_emod_of_nonneg (by omega)]; omega
  have g2 : ((k.toNat : Int) % 4 != 0) = true := bne_iff_ne.2 (by omega)
  clear hk hk0
  go_enter Try.func69, Try.ntmps69
  go_wp2
  go_ret
  exact ⟨rfl, box_below w _⟩
theorem rule_load_no (h : ¬ c = 32) : Calls Try.prog 69 #[.agg #[.int .u16 c, .int .u8 (jt : Int), .int .u8 (jf : Int), .int .u32 (k.toNat : Int)], .int .i64 p] w (RuleP w false) := by
  have b := beq_false_of_ne h
  go_enter Try.func69, Try.ntmps69
  go_wp2
  go_ret
  exact ⟨rfl, box_below w _⟩
theorem rule_div_yes (h : k = 0#32) : Calls Try.prog 70 #[.agg #[.int .u16 52, .int .u8 (jt : Int), .int .u8 (jf : Int), .int .u32 (k.toNat : Int)], .int .i64 p] w (RuleP w true) := by
  have g1 : (k.toNat : Int) = 0 := by rw [h]; rfl
  clear h
  go_enter Try.func70, Try.ntmps70
  go_wp2
  go_ret
  exact ⟨rfl, box_below w _⟩
theorem rule_div_no (h : ¬ k = 0#32) : Calls Try.prog 70 #[.agg #[.int .u16 52, .int .u8 (jt : Int), .int .u8 (jf : Int), .int .u32 (k.toNat : Int)], .int .i64 p] w (RuleP w false) := by
  have g1 : ¬ (k.toNat : Int) = 0 := fun g => h (BitVec.eq_of_toNat_eq (by simpa using g))
  have g2 : ((k.toNat : Int) == 0) = false := beq_false_of_ne g1
  clear h
  go_enter Try.func70, Try.ntmps70
  go_wp2
  go_ret
  exact ⟨rfl, box_below w _⟩
theorem rule_div_other (h : ¬ c = 52) : Calls Try.prog 70 #[.agg #[.int .u16 c, .int .u8 (jt : Int), .int .u8 (jf : Int), .int .u32 (k.toNat : Int)], .int .i64 p] w (RuleP w false) := by
  have b := beq_false_of_ne h
  go_enter Try.func70, Try.ntmps70
  go_wp2
  go_ret
  exact ⟨rfl, box_below w _⟩
theorem rule_shift_no (h : (c == 100 || c == 116) = false) : Calls Try.prog 71 #[.agg #[.int .u16 c, .int .u8 (jt : Int), .int .u8 (jf : Int), .int .u32 (k.toNat : Int)], .int .i64 p] w (RuleP w false) := by
  have H : Hid (∀ w, Calls Try.prog 72 #[.int .u16 c] w fun e w' => e = .returned (.bool false) ∧ w = w') := Lib.hid (fun w => by have := check_isShift c w; rw [h] at this; exact this)
  clear h
  go_enter Try.func71, Try.ntmps71
  go_wp2_with (go_at_call 72; (with_reducible refine (H.out _).mono ?_); rintro e w' ⟨rfl, rfl⟩)
  go_ret
  exact ⟨rfl, box_below w _⟩
theorem rule_shift_yes (h : (c == 100 || c == 116) = true) (B : Bool) (hk : decide (32 ≤ k.toNat) = B) : Calls Try.prog 71 #[.agg #[.int .u16 c, .int .u8 (jt : Int), .int .u8 (jf : Int), .int .u32 (k.toNat : Int)], .int .i64 p] w (RuleP w B) := by
  have H : Hid (∀ w, Calls Try.prog 72 #[.int .u16 c] w fun e w' => e = .returned (.bool true) ∧ w = w') := Lib.hid (fun w => by have := check_isShift c w; rw [h] at this; exact this)
  have HB : Hid (decide ((32 : Int) ≤ (k.toNat : Int)) = B) := Lib.hid ((decide_eq_decide.2 (by omega)).trans hk)
  clear h hk
  go_enter Try.func71, Try.ntmps71
  go_wp2_with (go_at_call 72; (with_reducible refine (H.out _).mono ?_); rintro e w' ⟨rfl, rfl⟩)
  go_ret
  exact ⟨by rw [← HB.out]; rfl, box_below w _⟩
theorem rule_scratch_no (h : (c == 96 || c == 97 || (c == 2 || c == 3)) = false) : Calls Try.prog 73 #[.agg #[.int .u16 c, .int .u8 (jt : Int), .int .u8 (jf : Int), .int .u32 (k.toNat : Int)], .int .i64 p] w (RuleP w false) := by
  have H : Hid (∀ w, Calls Try.prog 74 #[.int .u16 c] w fun e w' => e = .returned (.bool false) ∧ w = w') := Lib.hid (fun w => by have := check_asksScratch c w; rw [h] at this; exact this)
  clear h
  go_enter Try.func73, Try.ntmps73
  go_wp2_with (go_at_call 74; (with_reducible refine (H.out _).mono ?_); rintro e w' ⟨rfl, rfl⟩)
  go_ret
  exact ⟨rfl, box_below w _⟩
theorem rule_scratch_yes (h : (c == 96 || c == 97 || (c == 2 || c == 3)) = true) (B : Bool) (hk : decide (16 ≤ k.toNat) = B) : Calls Try.prog 73 #[.agg #[.int .u16 c, .int .u8 (jt : Int), .int .u8 (jf : Int), .int .u32 (k.toNat : Int)], .int .i64 p] w (RuleP w B) := by
  have H : Hid (∀ w, Calls Try.prog 74 #[.int .u16 c] w fun e w' => e = .returned (.bool true) ∧ w = w') := Lib.hid (fun w => by have := check_asksScratch c w; rw [h] at this; exact this)
  have HB : Hid (decide ((16 : Int) ≤ (k.toNat : Int)) = B) := Lib.hid ((decide_eq_decide.2 (by omega)).trans hk)
  clear h hk
  go_enter Try.func73, Try.ntmps73
  go_wp2_with (go_at_call 74; (with_reducible refine (H.out _).mono ?_); rintro e w' ⟨rfl, rfl⟩)
  go_ret
  exact ⟨by rw [← HB.out]; rfl, box_below w _⟩
theorem goes_ja (l : Nat) (hl : l ≤ 140737488351232) (B : Bool) (hB : decide (l ≤ k.toNat) = B) : Calls Try.prog 68 #[.agg #[.int .u16 5, .int .u8 (jt : Int), .int .u8 (jf : Int), .int .u32 (k.toNat : Int)], .int .i64 (l : Int)] w (RuleP w B) := by
  have hk1 := k.isLt
  have hw3 : IntKind.u64.wrap (l : Int) = (l : Int) := by rw [IntKind.wrap_u64]; omega
  have hw4 : IntKind.u64.wrap (k.toNat : Int) = (k.toNat : Int) := by rw [IntKind.wrap_u64]; omega
  have HB : Hid (decide (l ≤ k.toNat) = B) := Lib.hid hB
  clear hB
  go_enter Try.func68, Try.ntmps68
  go_wp2
  go_ret
  exact ⟨by rw [← HB.out]; rfl, box_below w _⟩
theorem goes_no (h5 : ¬ c = 5) (hc : 0 ≤ c ∧ c < 65536) (hj : jumpC c = false) : Calls Try.prog 68 #[.agg #[.int .u16 c, .int .u8 (jt : Int), .int .u8 (jf : Int), .int .u32 (k.toNat : Int)], .int .i64 p] w (RuleP w false) := by
  have b := beq_false_of_ne h5
  have H : Hid (∀ w, Calls Try.prog 79 #[.int .u16 c] w fun e w' => e = .returned (.bool false) ∧ w = w') := Lib.hid (fun w => by have := check_isBranch c hc w; rw [hj] at this; exact this)
  clear hj hc
  go_enter Try.func68, Try.ntmps68
  go_wp2_with (go_at_call 79; (with_reducible refine (H.out _).mono ?_); rintro e w' ⟨rfl, rfl⟩)
  go_ret
  exact ⟨rfl, box_below w _⟩
theorem goes_jump (h5 : ¬ c = 5) (hc : 0 ≤ c ∧ c < 65536) (hj : jumpC c = true) (hjt : jt < 256) (hjf : jf < 256) (l : Nat) (hl : l ≤ 140737488351232) (B : Bool) (hB : decide (l ≤ jt ∨ l ≤ jf) = B) : Calls Try.prog 68 #[.agg #[.int .u16 c, .int .u8 (jt : Int), .int .u8 (jf : Int), .int .u32 (k.toNat : Int)], .int .i64 (l : Int)] w (RuleP w B) := by
  have b := beq_false_of_ne h5
  have H : Hid (∀ w, Calls Try.prog 79 #[.int .u16 c] w fun e w' => e = .returned (.bool true) ∧ w = w') := Lib.hid (fun w => by have := check_isBranch c hc w; rw [hj] at this; exact this)
  have HB : Hid (decide (l ≤ jt ∨ l ≤ jf) = B) := Lib.hid hB
  have hw5 : IntKind.i64.wrap (jt : Int) = (jt : Int) := IntWalk.i64_in _ (by omega)
  have hw6 : IntKind.i64.wrap (jf : Int) = (jf : Int) := IntWalk.i64_in _ (by omega)
  clear hj hc hB
  go_enter Try.func68, Try.ntmps68
  go_wp2_with (go_at_call 79; (with_reducible refine (H.out _).mono ?_); rintro e w' ⟨rfl, rfl⟩)
  all_goals
    go_ret
    refine ⟨?_, box_below w _⟩
    rw [← HB.out]
    exact congrArg (fun b => Ending.returned (Value.bool b)) (decide_eq_decide.2 (by omega))
theorem rule_goes (b n i : Nat) (hc : 0 ≤ c ∧ c < 65536) (hjt : jt < 256) (hjf : jf < 256) (hn : n ≤ 140737488351232) (hi : i < n) (h0 : w.cell? ⟨b, 0, none⟩ = some (.int .i64 (n : Int))) (B : Bool)
    (hB : (if c = 5 then decide (n - i - 1 ≤ k.toNat) else jumpC c && decide (n - i - 1 ≤ jt ∨ n - i - 1 ≤ jf)) = B) : Calls Try.prog 67 #[.agg #[.int .u16 c, .int .u8 (jt : Int), .int .u8 (jf : Int), .int .u32 (k.toNat : Int)], .int .i64 (i : Int), .pointer (some ⟨b, 0, none⟩)] w (RuleP w B) := by
  have H : Hid (∀ w, Calls Try.prog 68 #[.agg #[.int .u16 c, .int .u8 (jt : Int), .int .u8 (jf : Int), .int .u32 (k.toNat : Int)], .int .i64 ((n - i - 1 : Nat) : Int)] w (RuleP w B)) := Lib.hid fun w => by
    by_cases h5 : c = 5
    · subst h5
      rw [if_pos rfl] at hB
      exact goes_ja w jt jf k (n - i - 1) (by omega) B hB
    · rw [if_neg h5] at hB
      cases hj : jumpC c with
      | false => rw [hj] at hB; subst hB; exact goes_no w c jt jf k _ h5 hc hj
      | true => rw [hj, Bool.true_and] at hB; exact goes_jump w c jt jf k h5 hc hj hjt hjf (n - i - 1) (by omega) B hB
  have hw1 : IntKind.i64.wrap ((n : Int) - 1) = (n : Int) - 1 := IntWalk.i64_in _ (by omega)
  have hw2 : IntKind.i64.wrap ((n : Int) - 1 - (i : Int)) = ((n - i - 1 : Nat) : Int) := by rw [IntWalk.i64_in _ (by omega)]; omega
  have h0' : (w.alloc (insO c jt jf k)).cell? ⟨b, 0, none⟩ = some (.int .i64 (n : Int)) := ((box_below w _).cell (p := ⟨b, 0, none⟩) (cell_lt h0)).trans h0
  clear hB hc
  go_enter Try.func67, Try.ntmps67
  go_wp2_with (go_at_call 68; (with_reducible refine (H.out _).mono ?_); rintro e w' ⟨rfl, hb⟩)
  go_ret
  exact ⟨rfl, (box_below w _).trans (hb.mono (by simp))⟩
/-- What rule k says of an instruction with l behind it. -/
def ruleB (j : Nat) (x : Ins) (l : Nat) : Bool :=
  match j with
  | 0 => !sealsC x.code
  | 1 => if x.code = 5 then decide (l ≤ x.k.toNat) else jumpC x.code && decide (l ≤ x.jt ∨ l ≤ x.jf)
  | 2 => decide (x.code = 32 ∧ (60 < x.k.toNat ∨ x.k.toNat % 4 ≠ 0))
  | 3 => decide (x.code = 52 ∧ x.k = 0#32)
  | 4 => (x.code == 100 || x.code == 116) && decide (32 ≤ x.k.toNat)
  | 5 => (x.code == 96 || x.code == 97 || (x.code == 2 || x.code == 3)) && decide (16 ≤ x.k.toNat)
  | _ => false
end
/-- .. and does. -/
theorem rule_is (w : World) (j : Nat) (hj : j < 6) (x : Ins) (hx : x.OK) (b n i : Nat) (hn : n ≤ 140737488351232) (hi : i < n) (h0 : w.cell? ⟨b, 0, none⟩ = some (.int .i64 (n : Int))) :
    Calls Try.prog (ruleF j) (#[.agg #[.int .u16 x.code, .int .u8 (x.jt : Int), .int .u8 (x.jf : Int), .int .u32 (x.k.toNat : Int)], .int .i64 (i : Int)] ++ ruleC b j) w (RuleP w (ruleB j x (n - i - 1))) := by
  obtain ⟨c, jt, jf, k⟩ := x
  obtain ⟨hc0, hc1, hjt, hjf⟩ := hx
  simp only at hc0 hc1 hjt hjf
  rcases six_cases hj with rfl | rfl | rfl | rfl | rfl | rfl
  · exact rule_code w c jt jf k _ ⟨hc0, hc1⟩
  · exact rule_goes w c jt jf k b n i ⟨hc0, hc1⟩ hjt hjf hn hi h0 _ rfl
  · show Calls _ _ _ w (RuleP w (decide (c = 32 ∧ (60 < k.toNat ∨ k.toNat % 4 ≠ 0))))
    by_cases h : c = 32
    · subst h
      by_cases hf : 64 ≤ k.toNat
      · rw [decide_eq_true ⟨rfl, .inl (by omega)⟩]; exact rule_load_far w jt jf k _ hf
      · by_cases ho : k.toNat % 4 ≠ 0
        · rw [decide_eq_true ⟨rfl, .inr ho⟩]; exact rule_load_odd w jt jf k _ hf ho
        · rw [decide_eq_false (by omega)]; exact rule_load_32 w jt jf k _ (by omega)
    · rw [decide_eq_false (fun g => h g.1)]; exact rule_load_no w c jt jf k _ h
  · show Calls _ _ _ w (RuleP w (decide (c = 52 ∧ k = 0#32)))
    by_cases h : c = 52
    · subst h
      by_cases hf : k = 0#32
      · rw [decide_eq_true ⟨rfl, hf⟩]; exact rule_div_yes w jt jf k _ hf
      · rw [decide_eq_false (fun g => hf g.2)]; exact rule_div_no w jt jf k _ hf
    · rw [decide_eq_false (fun g => h g.1)]; exact rule_div_other w c jt jf k _ h
  · show Calls _ _ _ w (RuleP w ((c == 100 || c == 116) && decide (32 ≤ k.toNat)))
    cases h : (c == 100 || c == 116) with
    | false => exact rule_shift_no w c jt jf k _ h
    | true => exact rule_shift_yes w c jt jf k _ h _ rfl
  · show Calls _ _ _ w (RuleP w ((c == 96 || c == 97 || (c == 2 || c == 3)) && decide (16 ≤ k.toNat)))
    cases h : (c == 96 || c == 97 || (c == 2 || c == 3)) with
    | false => exact rule_scratch_no w c jt jf k _ h
    | true => exact rule_scratch_yes w c jt jf k _ h _ rfl
theorem rule_enters (j : Nat) (hj : j < 6) : Go.Proofs.Enters Try.prog (ruleF j) := by
  rcases six_cases hj with rfl | rfl | rfl | rfl | rfl | rfl
  · exact Go.Proofs.enters_of Try.func65 (by kernel_rfl) rfl
  · exact Go.Proofs.enters_of Try.func67 (by kernel_rfl) rfl
  · exact Go.Proofs.enters_of Try.func69 (by kernel_rfl) rfl
  · exact Go.Proofs.enters_of Try.func70 (by kernel_rfl) rfl
  · exact Go.Proofs.enters_of Try.func71 (by kernel_rfl) rfl
  · exact Go.Proofs.enters_of Try.func73 (by kernel_rfl) rfl
end Go.Proofs.Ytaphbcjehcnggaa

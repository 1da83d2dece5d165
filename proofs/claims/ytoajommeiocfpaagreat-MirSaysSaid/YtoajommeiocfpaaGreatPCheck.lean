/-
  What the program's Check of classic BPF answers: contracts. Conditions: those that each names.
-/
import Derived.Test.YtoajommeiocfpaaGreatPLook
import Derived.Test.YtoajommeiocfpaaGreatCheckRef
namespace Go.Proofs.YtoajommeiocfpaaGreat
open Go Go.RowKit
set_option linter.unusedSimpArgs false
set_option linter.unusedVariables false
set_option maxRecDepth 100000

section
variable (w : World) (A : Option Addr) (n cap : Nat) (q : Nat → Ins)
theorem check_Check_none : Calls Tryz.prog 12 #[.slice A 0 cap] w (CheckP w q 0) := by
  have h1 : checkE q 0 = 41 := rfl
  have h2 : checkP q 0 = 0 := rfl
  go_enter Tryz.func12, Tryz.ntmps12
  go_wp2
  go_ret2
  exact ⟨rfl, Below.refl _ _⟩
theorem check_Check_long (h : 4096 < n) : Calls Tryz.prog 12 #[.slice A n cap] w (CheckP w q n) := by
  have H1 := Lib.hid (show checkE q n = 41 by unfold checkE; rw [if_pos (.inr h)])
  have H2 := Lib.hid (show checkP q n = 0 by unfold checkP; rw [if_pos (.inr h)])
  have h1 : (4096 : Int) < (n : Int) := by omega
  have h2 : ((n : Int) == 0) = false := beq_false_of_ne (by omega)
  go_enter Tryz.func12, Tryz.ntmps12
  go_wp2
  go_ret2
  exact ⟨by rw [H1.out, H2.out]; rfl, Below.refl _ _⟩
/-- What stands while the instructions are gone through. -/
abbrev FC (w W : World) (A : Option Addr) (b c n : Nat) (q : Nat → Ins) : Prop := ProgAt W A n q ∧ RulesAt W b c n ∧ Below w.heap.size w W ∧ b < W.heap.size ∧ c < W.heap.size
theorem FC.below {w W W' : World} {A : Option Addr} {b c n : Nat} {q : Nat → Ins} (h : FC w W A b c n q) (hb : Below W.heap.size W W') : FC w W' A b c n q :=
  ⟨h.1.below hb, h.2.1.below hb h.2.2.2.1 h.2.2.2.2, h.2.2.1.trans (hb.mono h.2.2.1.size), Nat.lt_of_lt_of_le h.2.2.2.1 hb.size, Nat.lt_of_lt_of_le h.2.2.2.2 hb.size⟩
theorem check_Check_some (h : ProgAt w A n q) (h0 : 0 < n) (hn : n ≤ 4096) (hok : ∀ i, i < n → (q i).OK) : Calls Tryz.prog 12 #[.slice A n cap] w (CheckP w q n) := by
  have h1 : ¬ (4096 : Int) < (n : Int) := by omega
  have h2 : ¬ (n : Int) = 0 := by omega
  have h3 : ((n : Int) == 0) = false := beq_false_of_ne h2
  have hP := Lib.hid h
  have HO := Lib.hid hok
  clear hok h
  go_enter Tryz.func12, Tryz.ntmps12
  go_wp2_with (first
    | (go_at_call 26; (with_reducible refine (check_rules n _).mono ?_); rintro e w1 ⟨b, c, rfl, hR, hb, hcc, hB⟩; have HF := Lib.hid (show FC w w1 A b c n q from ⟨hP.out.below hB, hR, hB, hb, hcc⟩); clear hR hB))
  go_loopw [22] (fun v wr => ∃ k : Nat, k ≤ n ∧ v = .int .i64 (k : Int) ∧ (∀ j, j < k → oneE q n j = 0) ∧ FC w wr A b c n q) (fun v _ => n - (intOf v).toNat)
  case atStart => exact ⟨0, by omega, rfl, fun j hj => absurd hj (by omega), HF.out⟩
  case round =>
    obtain ⟨k, hk, rfl, hbad, hF⟩ := hrel
    clear HF
    have HF := Lib.hid hF
    have HBad := Lib.hid hbad
    clear hF hbad
    by_cases hlt : k < n
    · have hlt' : (k : Int) < (n : Int) := by omega
      obtain ⟨qb, qo, rfl, hl, hc⟩ := HF.out.1 h0
      obtain ⟨i0, i1, i2, i3⟩ := hc k hlt
      clear hc
      have HF1 : Hid (FC w (wr.alloc (insO (q k).code (q k).jt (q k).jf (q k).k)) (some ⟨qb, qo, none⟩) b c n q) := Lib.hid (HF.out.below (box_below wr _))
      by_cases hE : oneE q n k = 0
      · have HE := Lib.hid hE
        have HC : Hid (∀ w, RulesAt w b c n → b < w.heap.size → c < w.heap.size → Calls Tryz.prog 27 #[.slice (some ⟨b, 0, none⟩) 6 6, .agg #[.int .u16 (q k).code, .int .u8 ((q k).jt : Int), .int .u8 ((q k).jf : Int), .int .u32 ((q k).k.toNat : Int)], .int .i64 (k : Int)] w (LookP w 0)) := Lib.hid fun w g1 g2 g3 => hE ▸ check_firstBroken w b c n k q (q k) g1 g2 g3 rfl (HO.out k hlt) (by omega) hlt
        clear hE HF
        go_wp2_with (go_at_call 27; (with_reducible refine (HC.out _ HF1.out.2.1 HF1.out.2.2.2.1 HF1.out.2.2.2.2).mono ?_); rintro e w2 ⟨rfl, hB⟩; have HF2 := Lib.hid (HF1.out.below hB); clear hB HF1)
        exact ⟨⟨k + 1, by omega, by go_num, fun j hj => by
          rcases Nat.lt_or_ge j k with g | g
          · exact HBad.out j g
          · rw [show j = k by omega]; exact HE.out, HF2.out⟩, by simp [intOf]; omega⟩
      · have hf := first_some hlt HBad.out hE
        have H1 := Lib.hid (show checkE q n = oneE q n k by unfold checkE; rw [if_neg (by omega), hf])
        have H2 := Lib.hid (show checkP q n = k by unfold checkP; rw [if_neg (by omega), hf])
        have HC : Hid (∀ w, RulesAt w b c n → b < w.heap.size → c < w.heap.size → Calls Tryz.prog 27 #[.slice (some ⟨b, 0, none⟩) 6 6, .agg #[.int .u16 (q k).code, .int .u8 ((q k).jt : Int), .int .u8 ((q k).jf : Int), .int .u32 ((q k).k.toNat : Int)], .int .i64 (k : Int)] w (LookP w (oneE q n k))) := Lib.hid fun w g1 g2 g3 => check_firstBroken w b c n k q (q k) g1 g2 g3 rfl (HO.out k hlt) (by omega) hlt
        have hE' : (oneE q n k != 0) = true := bne_iff_ne.2 hE
        generalize oneE q n k = E at HC H1 hE hE'
        clear HF hf
        go_wp2_with (go_at_call 27; (with_reducible refine (HC.out _ HF1.out.2.1 HF1.out.2.2.2.1 HF1.out.2.2.2.2).mono ?_); rintro e w2 ⟨rfl, hB⟩; have HF2 := Lib.hid (HF1.out.below hB); clear hB HF1)
        go_ret2
        exact ⟨by rw [H1.out, H2.out]; rfl, HF2.out.2.2.1⟩
    · obtain rfl : k = n := by omega
      have hf := first_none HBad.out
      obtain ⟨qb, qo, rfl, hl, hc⟩ := HF.out.1 h0
      obtain ⟨i0, i1, i2, i3⟩ := hc (k - 1) (by omega)
      have hw : IntKind.i64.wrap ((k : Int) - 1) = ((k - 1 : Nat) : Int) := by rw [IntWalk.i64_in _ (by omega)]; omega
      have HB := Lib.hid HF.out.2.2.1
      clear hc HF
      by_cases hr : isRet (q (k - 1)).code
      · have H1 := Lib.hid (show checkE q k = 0 by unfold checkE; rw [if_neg (by omega), hf]; simp only; rw [if_pos hr])
        have H2 := Lib.hid (show checkP q k = 0 by unfold checkP; rw [if_neg (by omega), hf]; simp only; rw [if_pos hr])
        have HC : Hid (∀ w, Calls Tryz.prog 28 #[.int .u16 (q (k - 1)).code] w fun e w' => e = .returned (.bool true) ∧ w = w') := Lib.hid fun w => by
          have := check_isReturn (q (k - 1)).code w
          rwa [show ((q (k - 1)).code == 6 || (q (k - 1)).code == 22) = true by rcases hr with h | h <;> simp [h]] at this
        clear hf hr
        go_wp2_with (go_at_call 28; (with_reducible refine (HC.out _).mono ?_); rintro e w2 ⟨rfl, rfl⟩)
        go_ret2
        exact ⟨by rw [H1.out, H2.out]; rfl, HB.out⟩
      · have H1 := Lib.hid (show checkE q k = 48 by unfold checkE; rw [if_neg (by omega), hf]; simp only; rw [if_neg hr])
        have H2 := Lib.hid (show checkP q k = k - 1 by unfold checkP; rw [if_neg (by omega), hf]; simp only; rw [if_neg hr])
        have HC : Hid (∀ w, Calls Tryz.prog 28 #[.int .u16 (q (k - 1)).code] w fun e w' => e = .returned (.bool false) ∧ w = w') := Lib.hid fun w => by
          have := check_isReturn (q (k - 1)).code w
          rwa [show ((q (k - 1)).code == 6 || (q (k - 1)).code == 22) = false by simpa [isRet] using hr] at this
        clear hf hr
        go_wp2_with (go_at_call 28; (with_reducible refine (HC.out _).mono ?_); rintro e w2 ⟨rfl, rfl⟩)
        go_ret2
        exact ⟨by rw [H1.out, H2.out]; rfl, HB.out⟩
/-- .. all in one. -/
theorem check_Check (h : ProgAt w A n q) (hok : ∀ i, i < n → (q i).OK) : Calls Tryz.prog 12 #[.slice A n cap] w (CheckP w q n) := by
  by_cases h0 : n = 0
  · subst h0; exact check_Check_none w A cap q
  · by_cases h1 : 4096 < n
    · exact check_Check_long w A n cap q h1
    · exact check_Check_some w A n cap q h (by omega) (by omega) hok
end
end Go.Proofs.YtoajommeiocfpaaGreat

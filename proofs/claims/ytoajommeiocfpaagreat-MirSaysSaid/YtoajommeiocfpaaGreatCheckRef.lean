/-
  What the document's Check of classic BPF answers: contracts. Conditions: those that each names.
-/
import Derived.Test.YtoajommeiocfpaaGreatCheckFns
import Derived.Test.YtoajommeiocfpaaGreatCbpfLent
namespace Go.Proofs.YtoajommeiocfpaaGreat
open Go Go.RowKit
set_option linter.unusedSimpArgs false
set_option linter.unusedVariables false

section
variable (w : World) (A : Option Addr) (n cap : Nat) (q : Nat → Ins)
/-- What a look at a whole program leaves. -/
def CheckP (w : World) (q : Nat → Ins) (n : Nat) (e : Ending) (w' : World) : Prop := e = .returned (.tuple #[.int .i64 (checkE q n), .int .i64 (checkP q n : Int)]) ∧ Below w.heap.size w w'
theorem ref_Check_none : Calls Tryz.prog 11 #[.slice A 0 cap] w (CheckP w q 0) := by
  have h1 : checkE q 0 = 41 := rfl
  have h2 : checkP q 0 = 0 := rfl
  go_enter Tryz.func11, Tryz.ntmps11
  go_wp2
  go_ret2
  exact ⟨rfl, Below.refl _ _⟩
theorem ref_Check_long (h : 4096 < n) : Calls Tryz.prog 11 #[.slice A n cap] w (CheckP w q n) := by
  have H1 := Lib.hid (show checkE q n = 41 by unfold checkE; rw [if_pos (.inr h)])
  have H2 := Lib.hid (show checkP q n = 0 by unfold checkP; rw [if_pos (.inr h)])
  have h1 : (4096 : Int) < (n : Int) := by omega
  have h2 : ((n : Int) == 0) = false := beq_false_of_ne (by omega)
  go_enter Tryz.func11, Tryz.ntmps11
  go_wp2
  go_ret2
  exact ⟨by rw [H1.out, H2.out]; rfl, Below.refl _ _⟩
/-- What stands while the instructions are gone through. -/
abbrev FR (w W : World) (A : Option Addr) (n : Nat) (q : Nat → Ins) : Prop := ProgAt W A n q ∧ Below w.heap.size w W
theorem ref_Check_some (h : ProgAt w A n q) (h0 : 0 < n) (hn : n ≤ 4096) (hok : ∀ i, i < n → (q i).OK) : Calls Tryz.prog 11 #[.slice A n cap] w (CheckP w q n) := by
  have h1 : ¬ (4096 : Int) < (n : Int) := by omega
  have h2 : ¬ (n : Int) = 0 := by omega
  have h3 : ((n : Int) == 0) = false := beq_false_of_ne h2
  have hP := Lib.hid h
  have HO := Lib.hid hok
  clear hok h
  go_enter Tryz.func11, Tryz.ntmps11
  go_wp2
  go_loopw [4] (fun v wr => ∃ k : Nat, k ≤ n ∧ v = .int .i64 (k : Int) ∧ (∀ j, j < k → oneE q n j = 0) ∧ FR w wr A n q) (fun v _ => n - (intOf v).toNat)
  case atStart => exact ⟨0, by omega, rfl, fun j hj => absurd hj (by omega), hP.out, Below.refl _ _⟩
  case round =>
    obtain ⟨k, hk, rfl, hbad, hF⟩ := hrel
    have HF := Lib.hid hF
    have HBad := Lib.hid hbad
    clear hF hbad
    by_cases hlt : k < n
    · have hlt' : (k : Int) < (n : Int) := by omega
      by_cases hE : oneE q n k = 0
      · have HE := Lib.hid hE
        have HC : Hid (∀ w, ProgAt w A n q → Calls Tryz.prog 25 #[.slice A n cap, .int .i64 (k : Int)] w (LookP w 0)) := Lib.hid fun w g1 => hE ▸ ref_One w A n cap k q g1 hlt (by omega) (HO.out k hlt)
        clear hE
        go_wp2_with (go_at_call 25; (with_reducible refine (HC.out _ HF.out.1).mono ?_); rintro e w2 ⟨rfl, hB⟩; have HF2 := Lib.hid (show FR w w2 A n q from ⟨HF.out.1.below hB, HF.out.2.trans (hB.mono HF.out.2.size)⟩); clear hB HF)
        exact ⟨⟨k + 1, by omega, by go_num, fun j hj => by
          rcases Nat.lt_or_ge j k with g | g
          · exact HBad.out j g
          · rw [show j = k by omega]; exact HE.out, HF2.out⟩, by simp [intOf]; omega⟩
      · have hf := first_some hlt HBad.out hE
        have H1 := Lib.hid (show checkE q n = oneE q n k by unfold checkE; rw [if_neg (by omega), hf])
        have H2 := Lib.hid (show checkP q n = k by unfold checkP; rw [if_neg (by omega), hf])
        have HC : Hid (∀ w, ProgAt w A n q → Calls Tryz.prog 25 #[.slice A n cap, .int .i64 (k : Int)] w (LookP w (oneE q n k))) := Lib.hid fun w g1 => ref_One w A n cap k q g1 hlt (by omega) (HO.out k hlt)
        have hE' : (oneE q n k != 0) = true := bne_iff_ne.2 hE
        generalize oneE q n k = E at HC H1 hE hE'
        clear hf
        go_wp2_with (go_at_call 25; (with_reducible refine (HC.out _ HF.out.1).mono ?_); rintro e w2 ⟨rfl, hB⟩; have HF2 := Lib.hid (show FR w w2 A n q from ⟨HF.out.1.below hB, HF.out.2.trans (hB.mono HF.out.2.size)⟩); clear hB HF)
        go_ret2
        exact ⟨by rw [H1.out, H2.out]; rfl, HF2.out.2⟩
    · obtain rfl : k = n := by omega
      have hf := first_none HBad.out
      obtain ⟨qb, qo, rfl, hl, hc⟩ := HF.out.1 h0
      obtain ⟨i0, i1, i2, i3⟩ := hc (k - 1) (by omega)
      have hw : IntKind.i64.wrap ((k : Int) - 1) = ((k - 1 : Nat) : Int) := by rw [IntWalk.i64_in _ (by omega)]; omega
      have HB := Lib.hid HF.out.2
      clear hc HF
      by_cases hr : isRet (q (k - 1)).code
      · have H1 := Lib.hid (show checkE q k = 0 by unfold checkE; rw [if_neg (by omega), hf]; simp only; rw [if_pos hr])
        have H2 := Lib.hid (show checkP q k = 0 by unfold checkP; rw [if_neg (by omega), hf]; simp only; rw [if_pos hr])
        rcases hr with hr | hr
        · rw [hr] at i0
          clear hf
          go_wp2
          go_ret2
          exact ⟨by rw [H1.out, H2.out]; rfl, HB.out⟩
        · rw [hr] at i0
          clear hf
          go_wp2
          go_ret2
          exact ⟨by rw [H1.out, H2.out]; rfl, HB.out⟩
      · have H1 := Lib.hid (show checkE q k = 48 by unfold checkE; rw [if_neg (by omega), hf]; simp only; rw [if_neg hr])
        have H2 := Lib.hid (show checkP q k = k - 1 by unfold checkP; rw [if_neg (by omega), hf]; simp only; rw [if_neg hr])
        have g1 : ¬ (q (k - 1)).code = 6 := fun h => hr (.inl h)
        have g2 : ¬ (q (k - 1)).code = 22 := fun h => hr (.inr h)
        have g3 : ((q (k - 1)).code != 6) = true := bne_iff_ne.2 g1
        have g4 : ((q (k - 1)).code != 22) = true := bne_iff_ne.2 g2
        clear hf hr
        go_wp2
        go_ret2
        exact ⟨by rw [H1.out, H2.out]; rfl, HB.out⟩
/-- .. all in one. -/
theorem ref_Check (h : ProgAt w A n q) (hok : ∀ i, i < n → (q i).OK) : Calls Tryz.prog 11 #[.slice A n cap] w (CheckP w q n) := by
  by_cases h0 : n = 0
  · subst h0; exact ref_Check_none w A cap q
  · by_cases h1 : 4096 < n
    · exact ref_Check_long w A n cap q h1
    · exact ref_Check_some w A n cap q h (by omega) (by omega) hok
end
end Go.Proofs.YtoajommeiocfpaaGreat

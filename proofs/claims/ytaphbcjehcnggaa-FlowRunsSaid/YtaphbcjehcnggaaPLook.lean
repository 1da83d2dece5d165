/-
  What the program's One of classic BPF answers: contracts. Conditions: those that each names.
-/
import Derived.Test.YtaphbcjehcnggaaPRules
import Derived.Test.YtaphbcjehcnggaaCheckFns
import Derived.Laws.EntriesVeiled
namespace Go.Proofs.Ytaphbcjehcnggaa
open Go Go.RowKit
set_option linter.unusedSimpArgs false
set_option linter.unusedVariables false
set_option maxRecDepth 100000

theorem one_none {q : Nat → Ins} {n i : Nat} {x : Ins} (hx : q i = x) (h : ∀ j, j < 6 → ruleB j x (n - i - 1) = false) : oneE q n i = 0 := by
  subst hx
  have h0 := h 0 (by decide); have h1 := h 1 (by decide); have h2 := h 2 (by decide); have h3 := h 3 (by decide); have h4 := h 4 (by decide); have h5 := h 5 (by decide)
  simp only [ruleB] at h0 h1 h2 h3 h4 h5
  refine one_ok.2 ⟨by simpa using h0, fun e => ?_, fun e => ?_, fun e => ?_, fun e => ?_, fun e => ?_, fun e => ?_⟩
  · rw [if_pos e] at h1; have := of_decide_eq_false h1; omega
  · have e5 : ¬ (q i).code = 5 := fun g => by rw [g] at e; cases e
    rw [if_neg e5, e, Bool.true_and] at h1; have := of_decide_eq_false h1; omega
  · have := of_decide_eq_false h2; omega
  · have := of_decide_eq_false h3; exact fun g => this ⟨e, g⟩
  · have g : ((q i).code == 100 || (q i).code == 116) = true := by rcases e with e | e <;> simp [e]
    rw [g, Bool.true_and] at h4; have := of_decide_eq_false h4; omega
  · have g : ((q i).code == 96 || (q i).code == 97 || ((q i).code == 2 || (q i).code == 3)) = true := by rcases e with e | e | e | e <;> simp [e]
    rw [g, Bool.true_and] at h5; have := of_decide_eq_false h5; omega
theorem one_some {q : Nat → Ins} {n i j : Nat} {x : Ins} (hx : q i = x) (hj : j < 6) (h : ∀ j', j' < j → ruleB j' x (n - i - 1) = false) (hb : ruleB j x (n - i - 1) = true) : oneE q n i = 42 + (j : Int) := by
  subst hx
  have s0 : 0 < j → sealsC (q i).code = true := fun g => by simpa [ruleB] using h 0 g
  have s1 : 1 < j → ¬ ((q i).code = 5 ∧ n - i - 1 ≤ (q i).k.toNat) ∧ ¬ (jumpC (q i).code = true ∧ (n - i - 1 ≤ (q i).jt ∨ n - i - 1 ≤ (q i).jf)) := fun g => by
    have h1 := h 1 g
    simp only [ruleB] at h1
    refine ⟨fun e => ?_, fun e => ?_⟩
    · rw [if_pos e.1] at h1; exact of_decide_eq_false h1 e.2
    · have e5 : ¬ (q i).code = 5 := fun g => by rw [g] at e; cases e.1
      rw [if_neg e5, e.1, Bool.true_and] at h1; exact of_decide_eq_false h1 e.2
  have s2 : 2 < j → ¬ ((q i).code = 32 ∧ (60 < (q i).k.toNat ∨ (q i).k.toNat % 4 ≠ 0)) := fun g => of_decide_eq_false (h 2 g)
  have s3 : 3 < j → ¬ ((q i).code = 52 ∧ (q i).k = 0#32) := fun g => of_decide_eq_false (h 3 g)
  have s4 : 4 < j → ¬ (((q i).code = 100 ∨ (q i).code = 116) ∧ 32 ≤ (q i).k.toNat) := fun g e => by
    have h4 := h 4 g
    simp only [ruleB] at h4
    have g : ((q i).code == 100 || (q i).code == 116) = true := by rcases e.1 with e | e <;> simp [e]
    rw [g, Bool.true_and] at h4; exact of_decide_eq_false h4 e.2
  unfold oneE
  rcases six_cases hj with rfl | rfl | rfl | rfl | rfl | rfl
  · simp only [ruleB] at hb
    rw [if_pos (by simpa using hb)]; rfl
  · rw [if_neg (by rw [s0 (by decide)]; decide)]
    simp only [ruleB] at hb
    by_cases e5 : (q i).code = 5
    · rw [if_pos e5] at hb
      rw [if_pos ⟨e5, of_decide_eq_true hb⟩]; rfl
    · rw [if_neg e5, Bool.and_eq_true] at hb
      rw [if_neg (fun g => e5 g.1), if_pos ⟨hb.1, of_decide_eq_true hb.2⟩]; rfl
  · rw [if_neg (by rw [s0 (by decide)]; decide), if_neg (s1 (by decide)).1, if_neg (s1 (by decide)).2, if_pos (of_decide_eq_true hb)]; rfl
  · rw [if_neg (by rw [s0 (by decide)]; decide), if_neg (s1 (by decide)).1, if_neg (s1 (by decide)).2, if_neg (s2 (by decide)), if_pos (of_decide_eq_true hb)]; rfl
  · simp only [ruleB, Bool.and_eq_true, Bool.or_eq_true, beq_iff_eq] at hb
    rw [if_neg (by rw [s0 (by decide)]; decide), if_neg (s1 (by decide)).1, if_neg (s1 (by decide)).2, if_neg (s2 (by decide)), if_neg (s3 (by decide)), if_pos ⟨hb.1, of_decide_eq_true hb.2⟩]; rfl
  · simp only [ruleB, Bool.and_eq_true, Bool.or_eq_true, beq_iff_eq] at hb
    rw [if_neg (by rw [s0 (by decide)]; decide), if_neg (s1 (by decide)).1, if_neg (s1 (by decide)).2, if_neg (s2 (by decide)), if_neg (s3 (by decide)), if_neg (s4 (by decide)), if_pos ⟨by rcases hb.1 with (h | h) | (h | h) <;> simp [h], of_decide_eq_true hb.2⟩]; rfl

/-- What stands while the rules are gone through. -/
def FB (w W : World) (b c n : Nat) (x : Ins) : Prop := RulesAt W b c n ∧ InsCells W w.heap.size 0 x ∧ Below w.heap.size w W ∧ w.heap.size < W.heap.size
theorem FB.below {w W W' : World} {b c n : Nat} {x : Ins} (h : FB w W b c n x) (hb : Below W.heap.size W W') (h1 : b < w.heap.size) (h2 : c < w.heap.size) : FB w W' b c n x :=
  ⟨h.1.below hb (Nat.lt_of_lt_of_le h1 h.2.2.1.size) (Nat.lt_of_lt_of_le h2 h.2.2.1.size), h.2.1.below hb h.2.2.2, h.2.2.1.trans (hb.mono h.2.2.1.size), Nat.lt_of_lt_of_le h.2.2.2 hb.size⟩
section
variable (w : World) (b c n i : Nat) (q : Nat → Ins) (x : Ins)
set_option maxHeartbeats 1000000 in
theorem check_firstBroken (hR : RulesAt w b c n) (hb : b < w.heap.size) (hc : c < w.heap.size) (hq : q i = x) (hx : x.OK) (hn : n ≤ 140737488351232) (hi : i < n) :
    Calls Try.prog 58 #[.slice (some ⟨b, 0, none⟩) 6 6, .agg #[.int .u16 x.code, .int .u8 (x.jt : Int), .int .u8 (x.jf : Int), .int .u32 (x.k.toNat : Int)], .int .i64 (i : Int)] w (LookP w (oneE q n i)) := by
  have HE := Lib.hid (fun j (hj : j < 6) => (rule_enters j hj : ∀ args w, (callFunc (ruleF j) args).run Try.prog w = .ok (.enter (ruleF j) args) w))
  have HS : Hid (FB w (w.alloc (insO x.code x.jt x.jf x.k)) b c n x) := Lib.hid ⟨hR.below (box_below w _) hb hc, ⟨by simp, by simp, by simp, by simp⟩, box_below w _, by simp⟩
  have HX := Lib.hid hx
  have HQ := Lib.hid hq
  clear hR hx hq
  go_enter Try.func58, Try.ntmps58
  go_wp2
  go_loopw [11] (fun v wr => ∃ k : Nat, k ≤ 6 ∧ v = .int .i64 (k : Int) ∧ (∀ j, j < k → ruleB j x (n - i - 1) = false) ∧ FB w wr b c n x) (fun v _ => 6 - (intOf v).toNat)
  case atStart => exact ⟨0, by omega, rfl, fun j hj => absurd hj (by omega), HS.out⟩
  case round =>
    obtain ⟨k, hk, rfl, hbad, hF⟩ := hrel
    by_cases hlt : k < 6
    · have hlt' : (k : Int) < 6 := by omega
      have e0 := hF.1.err k hlt
      have f0 := hF.1.fn k hlt
      obtain ⟨i0, i1, i2, i3⟩ := hF.2.1
      have he : ∀ args w, (callFunc (ruleF k) args).run Try.prog w = .ok (.enter (ruleF k) args) w := HE.out k hlt
      have B1 := box_below wr (.cells #[.int .i64 (42 + (k : Int)), .func (.func (ruleF k)) #[] (ruleC c k)] 97)
      have HF1 := Lib.hid (hF.below B1 hb hc)
      obtain ⟨j0, j1, j2, j3⟩ := HF1.out.2.1
      clear i0 i1 i2 i3 B1
      go_wp2
      refine (rule_is _ k hlt x HX.out c n i hn hi HF1.out.1.num).mono ?_
      rintro e w2 ⟨rfl, hb2⟩
      have HF2 := Lib.hid (HF1.out.below hb2 hb hc)
      have e2 : w2.cell? ⟨wr.heap.size, 0, none⟩ = some (.int .i64 (42 + (k : Int))) := (hb2.cell (p := ⟨wr.heap.size, 0, none⟩) (by simp)).trans (by simp)
      have HBad := Lib.hid hbad
      clear hb2 HF1 hF hbad e0 f0 j0 j1 j2 j3 he
      rcases hB : ruleB k x (n - i - 1) with _ | _
      · have HB := Lib.hid hB
        clear hB
        go_wp2
        exact ⟨⟨k + 1, by omega, by go_num, fun j hj => by
          rcases Nat.lt_or_ge j k with g | g
          · exact HBad.out j g
          · rw [show j = k by omega]; exact HB.out, HF2.out⟩, by simp [intOf]; omega⟩
      · have HO := Lib.hid (one_some HQ.out hlt HBad.out hB)
        clear hB
        go_wp2
        go_ret
        exact ⟨by rw [HO.out]; rfl, HF2.out.2.2.1⟩
    · have HO := Lib.hid (one_none HQ.out (fun j hj => hbad j (by omega)))
      go_wp2
      go_ret
      exact ⟨by rw [HO.out]; rfl, hF.2.2.1⟩
end
section
variable (w : World) (A : Option Addr) (n cap : Nat) (q : Nat → Ins)
end
end Go.Proofs.Ytaphbcjehcnggaa

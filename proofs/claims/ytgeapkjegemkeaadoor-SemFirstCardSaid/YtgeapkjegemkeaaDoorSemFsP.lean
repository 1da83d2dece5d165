/-
  A rule put ahead of another of the same calls; data that no rule asks for: plain facts. No condition: nothing here speaks of a program of Go's.
-/
import Derived.Test.YtgeapkjegemkeaaDoorSemPure
namespace Go.Proofs.YtgeapkjegemkeaaDoor
set_option linter.unusedSimpArgs false
set_option linter.unusedVariables false

mutual
/-- Does an expression test a field? -/
def asksF (f : Int) : Ex → Bool
  | .mk op l fl m r v => if op = 6 then decide (fl = f) else asksL f l
def asksL (f : Int) : List Ex → Bool
  | [] => false
  | e :: l => asksF f e || asksL f l
end
theorem shape_six {op : Int} {n : Nat} {f r : Int} (h : shapeB op n f r = true) : op = 1 ∨ op = 2 ∨ op = 3 ∨ op = 4 ∨ op = 5 ∨ (op = 6 ∧ 0 ≤ f ∧ f ≤ 6) := by
  unfold shapeB at h
  split at h
  · omega
  · split at h
    · omega
    · split at h
      · omega
      · split at h
        · have := of_decide_eq_true h; omega
        · cases h
mutual
theorem holds_alike {d e : Dat} : ∀ (x : Ex) (k : Nat), exF k x = 0 → (∀ f : Int, 0 ≤ f → f ≤ 6 → asksF f x = true → fieldN d f = fieldN e f) → holdsF d x = holdsF e x
  | .mk op l fl m r v, k, h, hf => by
    rw [exF] at h
    by_cases h1 : 200 < k ∨ shapeB op l.length fl r = false
    · rw [if_pos h1] at h; cases h
    · rw [if_neg h1] at h
      have hs : shapeB op l.length fl r = true := by simpa using fun g => h1 (.inr g)
      by_cases h2 : op = 6 ∧ (m = 0 ∨ clearN v m ≠ 0)
      · rw [if_pos h2] at h; cases h
      · rw [if_neg h2] at h
        by_cases h6 : op = 6
        · rcases shape_six hs with g | g | g | g | g | ⟨_, g1, g2⟩
          · omega
          · omega
          · omega
          · omega
          · omega
          · have := hf fl g1 g2 (by rw [asksF, if_pos h6]; simp)
            subst h6
            rw [holdsF, holdsF, this]
            simp
        · have hl := alls_alike l (k + 1) h (fun f g1 g2 g3 => hf f g1 g2 (by rw [asksF, if_neg h6]; exact g3))
          rw [holdsF, holdsF, hl.1, hl.2.1, hl.2.2]
          rcases shape_six hs with g | g | g | g | g | ⟨g, _, _⟩
          · subst g; rfl
          · subst g; rfl
          · subst g; rfl
          · subst g; rfl
          · subst g; rfl
          · exact absurd g h6
theorem alls_alike {d e : Dat} : ∀ (l : List Ex) (k : Nat), exsF k l = 0 → (∀ f : Int, 0 ≤ f → f ≤ 6 → asksL f l = true → fieldN d f = fieldN e f) → firstF d l = firstF e l ∧ allF d l = allF e l ∧ anyF d l = anyF e l
  | [], k, h, hf => by simp [firstF, allF, anyF]
  | x :: l, k, h, hf => by
    rw [exsF] at h
    by_cases h1 : exF k x ≠ 0
    · rw [if_pos h1] at h; exact absurd h h1
    · rw [if_neg h1] at h
      have a := holds_alike x k (Decidable.not_not.1 h1) (fun f g1 g2 g3 => hf f g1 g2 (by rw [asksL, g3]; rfl))
      have b := alls_alike l k h (fun f g1 g2 g3 => hf f g1 g2 (by rw [asksL, g3]; simp))
      rw [firstF, firstF, allF, allF, anyF, anyF, a, b.2.1, b.2.2]
      exact ⟨rfl, rfl, rfl⟩
end
theorem each_mem7 {t : List (ByteArray × Nat)} {l : List Ru} (h : ∀ k, k < l.length → ruleE t (l.getD k zeroR7) = 0) : ∀ r ∈ l, ruleE t r = 0 := fun r hr => by
  obtain ⟨k, hk, rfl⟩ := List.getElem_of_mem hr
  have := h k hk
  rwa [List.getD_eq_getElem?_getD, List.getElem?_eq_getElem hk] at this
theorem rules_ok {t : List (ByteArray × Nat)} : ∀ (l : List Ru) (i : Nat), (∀ r ∈ l, ruleE t r = 0) → rulesE t i l = (0, 0)
  | [], _, _ => rfl
  | x :: l, i, h => by
    rw [rulesE, if_neg (fun g => g (h x (by simp)))]
    exact rules_ok l _ (fun r hr => h r (by simp [hr]))
/-- What a policy of well-formed rules says. -/
theorem check_ok {p : Po} (h1 : (sysF p.arch).2.2 = true) (h2 : (actF p.foreign_).2 = true) (h3 : (actF p.default_).2 = true) (h4 : p.rules.length ≤ 512) (h5 : ∀ r ∈ p.rules, ruleE (sysF p.arch).2.1 r = 0) : checkF p = (0, 0) := by
  unfold checkF
  rw [if_neg (by rw [h1]; decide), if_neg (by rw [h2, h3]; decide), if_neg (by omega)]
  exact rules_ok _ _ h5
theorem pick_alike {t : List (ByteArray × Nat)} {d e : Dat} (hn : d.nr = e.nr) (df : Int × Nat) : ∀ l : List Ru, (∀ r ∈ l, ruleE t r = 0 ∧ ∀ f : Int, 0 ≤ f → f ≤ 6 → asksF f r.when_ = true → fieldN d f = fieldN e f) → pickF t d df l = pickF t e df l
  | [], _ => rfl
  | x :: l, h => by
    obtain ⟨h1, h2⟩ := h x (by simp)
    rw [pickF, pickF, hn, holds_alike x.when_ 0 (rule_parts h1).2.2.1 h2, pick_alike hn df l (fun r hr => h r (by simp [hr]))]
theorem eval_alike {p : Po} (h : (checkF p).1 = 0) {d e : Dat} (hn : d.nr = e.nr) (ha : d.arch = e.arch) (hf : ∀ r ∈ p.rules, ∀ f : Int, 0 ≤ f → f ≤ 6 → asksF f r.when_ = true → fieldN d f = fieldN e f) : evalF p d = evalF p e := by
  obtain ⟨h1, h2, h3, h4, h5⟩ := check_parts h
  have := pick_alike (t := (sysF p.arch).2.1) hn p.default_ p.rules (fun r hr => ⟨each_mem7 h5 r hr, hf r hr⟩)
  unfold evalF verdF
  rw [this, ha]
/-- Rule n with a rule of the same calls ahead of it that always holds. -/
def aheadR (x : Ru) : Ru := ⟨x.calls, .plain 1, x.do_⟩
def behindR (x : Ru) : Ru := ⟨x.calls, x.when_, (6, 7)⟩
def putR (l : List Ru) (n : Nat) : List Ru := l.take n ++ [aheadR (l.getD n zeroR7), behindR (l.getD n zeroR7)] ++ l.drop (n + 1)
def putS (l : List Ru) (n : Nat) : List Ru := l.take n ++ [aheadR (l.getD n zeroR7)] ++ l.drop (n + 1)
theorem ahead_ok {t : List (ByteArray × Nat)} {x : Ru} (h : ruleE t x = 0) : ruleE t (aheadR x) = 0 := by
  obtain ⟨h1, h2, h3, h4⟩ := rule_parts h
  unfold ruleE aheadR
  rw [if_neg h1, if_neg (fun g => g h2), if_neg (by simp [Ex.plain, exF, exsF, shapeB]), if_pos h4]
theorem behind_ok {t : List (ByteArray × Nat)} {x : Ru} (h : ruleE t x = 0) : ruleE t (behindR x) = 0 := by
  obtain ⟨h1, h2, h3, h4⟩ := rule_parts h
  unfold ruleE behindR
  rw [if_neg h1, if_neg (fun g => g h2), if_neg (fun g => g h3), if_pos (by show (actF ((6 : Int), (7 : Nat))).2 = true; decide)]
theorem pick_put {t : List (ByteArray × Nat)} (d : Dat) (df : Int × Nat) (x : Ru) (b : List Ru) : ∀ a : List Ru, pickF t d df (a ++ [aheadR x, behindR x] ++ b) = pickF t d df (a ++ [aheadR x] ++ b)
  | [] => by
    have e : holdsF d (aheadR x).when_ = true := by simp [aheadR, Ex.plain, holdsF]
    by_cases h : hasB t d.nr x.calls = true
    · show pickF t d df (aheadR x :: behindR x :: b) = pickF t d df (aheadR x :: b)
      rw [pickF, if_pos ⟨h, e⟩, pickF, if_pos ⟨h, e⟩]
    · show pickF t d df (aheadR x :: behindR x :: b) = pickF t d df (aheadR x :: b)
      have g : ¬ (hasB t d.nr (aheadR x).calls = true ∧ holdsF d (aheadR x).when_ = true) := fun g => h g.1
      have g2 : ¬ (hasB t d.nr (behindR x).calls = true ∧ holdsF d (behindR x).when_ = true) := fun g => h g.1
      rw [pickF, if_neg g, pickF, if_neg g2, pickF, if_neg g]
  | y :: a => by
    show pickF t d df (y :: (a ++ [aheadR x, behindR x] ++ b)) = pickF t d df (y :: (a ++ [aheadR x] ++ b))
    rw [pickF, pickF, pick_put d df x b a]
theorem eval_put {p : Po} (h : (checkF p).1 = 0) (n : Nat) (hn : n < p.rules.length) (h512 : p.rules.length + 1 ≤ 512) (d : Dat) : evalF ⟨p.arch, p.foreign_, p.default_, putR p.rules n⟩ d = evalF ⟨p.arch, p.foreign_, p.default_, putS p.rules n⟩ d := by
  obtain ⟨h1, h2, h3, h4, h5⟩ := check_parts h
  have hm := each_mem7 h5
  have hx := h5 n hn
  have ht : ∀ r ∈ p.rules.take n, ruleE (sysF p.arch).2.1 r = 0 := fun r hr => hm r (List.mem_of_mem_take hr)
  have hd : ∀ r ∈ p.rules.drop (n + 1), ruleE (sysF p.arch).2.1 r = 0 := fun r hr => hm r (List.mem_of_mem_drop hr)
  have c1 : checkF ⟨p.arch, p.foreign_, p.default_, putR p.rules n⟩ = (0, 0) := check_ok h1 h2 h3 (by simp [putR]; omega) (fun r hr => by
    simp only [putR, List.mem_append, List.mem_cons, List.not_mem_nil, or_false] at hr
    rcases hr with (hr | rfl | rfl) | hr
    · exact ht r hr
    · exact ahead_ok hx
    · exact behind_ok hx
    · exact hd r hr)
  have c2 : checkF ⟨p.arch, p.foreign_, p.default_, putS p.rules n⟩ = (0, 0) := check_ok h1 h2 h3 (by simp [putS]; omega) (fun r hr => by
    simp only [putS, List.mem_append, List.mem_cons, List.not_mem_nil, or_false] at hr
    rcases hr with (hr | rfl) | hr
    · exact ht r hr
    · exact ahead_ok hx
    · exact hd r hr)
  unfold evalF
  rw [c1, c2, if_neg (by decide), if_neg (by decide)]
  unfold verdF
  simp only
  rw [show pickF (sysF p.arch).2.1 d p.default_ (putR p.rules n) = pickF (sysF p.arch).2.1 d p.default_ (putS p.rules n) from pick_put d _ _ _ _]
end Go.Proofs.YtgeapkjegemkeaaDoor

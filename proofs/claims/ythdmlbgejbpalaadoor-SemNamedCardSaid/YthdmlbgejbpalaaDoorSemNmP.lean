/-
  Calls that are named and the same that are numbered; names whose numbers rise: plain facts. No condition: nothing here speaks of a program of Go's.
-/
import Derived.Test.YthdmlbgejbpalaaDoorSemPure
namespace Go.Proofs.YthdmlbgejbpalaaDoor
set_option linter.unusedSimpArgs false
set_option linter.unusedVariables false

/-- A call by its number. -/
def numC (t : List (ByteArray × Nat)) (c : ByteArray × Nat) : ByteArray × Nat := if c.1 = ⟨#[]⟩ then c else (⟨#[]⟩, (findF t c.1).1)
def numR (t : List (ByteArray × Nat)) (r : Ru) : Ru := ⟨r.calls.map (numC t), r.when_, r.do_⟩
def numP (p : Po) : Po := ⟨p.arch, p.foreign_, p.default_, p.rules.map (numR (sysF p.arch).2.1)⟩
theorem nr_num {t : List (ByteArray × Nat)} (h : TabW t) {c : ByteArray × Nat} {n : Nat} (e : nrF t c = some n) : nrF t (numC t c) = some n := by
  unfold numC
  by_cases h0 : c.1 = ⟨#[]⟩
  · rw [if_pos h0]; exact e
  · rw [if_neg h0]
    unfold nrF at e
    rw [if_neg h0] at e
    split at e
    · injection e with e
      have hf := find_w c.1 h
      unfold nrF
      rw [if_pos rfl, if_pos (by show (findF t c.1).1 ≤ 4294967295; omega), ← e]
    · cases e
theorem nr_named {t : List (ByteArray × Nat)} {c : ByteArray × Nat} {n : Nat} (e : nrF t c = some n) (h0 : c.1 ≠ ⟨#[]⟩) : (findF t c.1).2 = true := by
  unfold nrF at e
  rw [if_neg h0] at e
  split at e
  · rename_i h; exact h.2
  · cases e
theorem calls_some {t : List (ByteArray × Nat)} : ∀ {l : List (ByteArray × Nat)} {met : List Nat}, callsE t met l = 0 → ∀ c ∈ l, ∃ n, nrF t c = some n
  | [], _, _, c, hc => absurd hc (by simp)
  | x :: l, met, h, c, hc => by
    rw [callsE] at h
    cases hx : nrF t x with
    | none => rw [hx] at h; cases h
    | some n =>
      rw [hx] at h
      simp only at h
      split at h
      · cases h
      · rcases List.mem_cons.1 hc with rfl | hc
        · exact ⟨n, hx⟩
        · exact calls_some h c hc
theorem calls_num {t : List (ByteArray × Nat)} (hw : TabW t) : ∀ (l : List (ByteArray × Nat)) (met : List Nat), callsE t met l = 0 → callsE t met (l.map (numC t)) = 0
  | [], _, h => h
  | x :: l, met, h => by
    rw [callsE] at h
    rw [List.map_cons, callsE]
    cases hx : nrF t x with
    | none => rw [hx] at h; cases h
    | some n =>
      rw [hx] at h
      rw [nr_num hw hx]
      simp only at h ⊢
      by_cases hm : n ∈ met
      · rw [if_pos hm] at h; cases h
      · rw [if_neg hm] at h ⊢
        exact calls_num hw l _ h
theorem has_num {t : List (ByteArray × Nat)} (hw : TabW t) (k : Nat) : ∀ (l : List (ByteArray × Nat)), (∀ c ∈ l, ∃ n, nrF t c = some n) → hasB t k (l.map (numC t)) = hasB t k l
  | [], _ => rfl
  | x :: l, h => by
    obtain ⟨n, hn⟩ := h x (by simp)
    rw [List.map_cons, hasB, hasB, nr_num hw hn, hn, has_num hw k l (fun c hc => h c (by simp [hc]))]
theorem rule_num {t : List (ByteArray × Nat)} (hw : TabW t) {r : Ru} (h : ruleE t r = 0) : ruleE t (numR t r) = 0 := by
  obtain ⟨h1, h2, h3, h4⟩ := rule_parts h
  have e := calls_num hw _ _ h2
  unfold ruleE numR
  rw [if_neg (by simpa using h1), if_neg (fun g => g e), if_neg (fun g => g h3), if_pos h4]
theorem rules_num {t : List (ByteArray × Nat)} (hw : TabW t) : ∀ (l : List Ru) (i : Nat), (∀ r ∈ l, ruleE t r = 0) → rulesE t i (l.map (numR t)) = (0, 0)
  | [], _, _ => rfl
  | x :: l, i, h => by
    rw [List.map_cons, rulesE, if_neg (fun g => g (rule_num hw (h x (by simp))))]
    exact rules_num hw l _ (fun r hr => h r (by simp [hr]))
theorem each_mem {t : List (ByteArray × Nat)} {l : List Ru} (h : ∀ k, k < l.length → ruleE t (l.getD k zeroR7) = 0) : ∀ r ∈ l, ruleE t r = 0 := fun r hr => by
  obtain ⟨k, hk, rfl⟩ := List.getElem_of_mem hr
  have := h k hk
  rwa [List.getD_eq_getElem?_getD, List.getElem?_eq_getElem hk] at this
theorem check_num {p : Po} (h : (checkF p).1 = 0) : checkF (numP p) = (0, 0) := by
  obtain ⟨h1, h2, h3, h4, h5⟩ := check_parts h
  unfold checkF numP
  simp only
  rw [if_neg (by rw [h1]; decide), if_neg (by rw [h2, h3]; decide), if_neg (by rw [List.length_map]; omega)]
  exact rules_num (sys_w _) _ _ (each_mem h5)
theorem pick_num {t : List (ByteArray × Nat)} (hw : TabW t) (d : Dat) (df : Int × Nat) : ∀ l : List Ru, (∀ r ∈ l, ruleE t r = 0) → pickF t d df (l.map (numR t)) = pickF t d df l
  | [], _ => rfl
  | x :: l, h => by
    obtain ⟨h1, h2, h3, h4⟩ := rule_parts (h x (by simp))
    have e : hasB t d.nr (numR t x).calls = hasB t d.nr x.calls := has_num hw _ _ (calls_some h2)
    rw [List.map_cons, pickF, pickF, e, pick_num hw d df l (fun r hr => h r (by simp [hr]))]
    rfl
theorem eval_num {p : Po} (h : (checkF p).1 = 0) (d : Dat) : evalF (numP p) d = evalF p d := by
  obtain ⟨h1, h2, h3, h4, h5⟩ := check_parts h
  have e : verdF (numP p) d = verdF p d := by
    unfold verdF numP
    simp only
    rw [pick_num (sys_w _) d _ _ (each_mem h5)]
  unfold evalF
  rw [check_num h, e, if_neg (by decide), if_neg (by rw [h]; decide)]
/-- A table's names find their numbers, which rise. -/
def riseB (t : List (ByteArray × Nat)) : Bool := (List.range t.length).all fun k => decide ((findF t (t.getD k (⟨#[]⟩, 0)).1).1 = (t.getD k (⟨#[]⟩, 0)).2) && (findF t (t.getD k (⟨#[]⟩, 0)).1).2 && (decide (t.length ≤ k + 1) || decide ((t.getD k (⟨#[]⟩, 0)).2 < (t.getD (k + 1) (⟨#[]⟩, 0)).2))
theorem old_rise : riseB oldT = true := by kernel_rfl
theorem new_rise : riseB newT = true := by kernel_rfl
theorem sys_rise (s : ByteArray) : riseB (sysF s).2.1 = true := by
  unfold sysF
  split
  · exact old_rise
  · split
    · exact new_rise
    · split
      · exact new_rise
      · rfl
theorem rise_at {t : List (ByteArray × Nat)} (h : riseB t = true) (k : Nat) (hk : k < t.length) : (findF t (t.getD k (⟨#[]⟩, 0)).1).1 = (t.getD k (⟨#[]⟩, 0)).2 ∧ (findF t (t.getD k (⟨#[]⟩, 0)).1).2 = true ∧ (k + 1 < t.length → (t.getD k (⟨#[]⟩, 0)).2 < (t.getD (k + 1) (⟨#[]⟩, 0)).2) := by
  have := List.all_eq_true.1 h k (List.mem_range.2 hk)
  simp only [Bool.and_eq_true, Bool.or_eq_true, decide_eq_true_eq] at this
  exact ⟨this.1.1, this.1.2, fun g => this.2.resolve_left (by omega)⟩
end Go.Proofs.YthdmlbgejbpalaaDoor

/-
  Plain facts on what policies say: numbers that a rule has are few; what is turned by 'not', 'and', 'or', and by an opposite relation. No condition: nothing here speaks of a program of Go's.
-/
import Derived.Test.YtgeapkjegemkeaaDoorSemSpec
namespace Go.Proofs.YtgeapkjegemkeaaDoor
set_option linter.unusedSimpArgs false
set_option linter.unusedVariables false

/-- Numbers below a bound, each once, are no more than it. -/
theorem nodup_len : ∀ (N : Nat) (l : List Nat), l.Nodup → (∀ x ∈ l, x < N) → l.length ≤ N
  | 0, l, _, h => by
    cases l with
    | nil => simp
    | cons a l => exact absurd (h a (by simp)) (by omega)
  | N + 1, l, hd, h => by
    by_cases hm : N ∈ l
    · have := nodup_len N (l.erase N) (hd.erase N) (fun x hx => by
        have h1 := (hd.mem_erase_iff).1 hx
        have h2 := h x h1.2
        have h3 := h1.1
        omega)
      rw [List.length_erase_of_mem hm] at this
      omega
    · exact Nat.le_trans (nodup_len N l hd (fun x hx => by
        have h1 := h x hx
        have h2 : x ≠ N := fun e => hm (e ▸ hx)
        omega)) (by omega)
/-- A table's numbers are below 2^32. -/
def TabW (t : List (ByteArray × Nat)) : Prop := ∀ x ∈ t, x.2 < 4294967296
theorem old_w : TabW oldT := by unfold TabW oldT; intro x hx; simp only [List.mem_cons, List.not_mem_nil, or_false] at hx; rcases hx with rfl | rfl | rfl | rfl | rfl | rfl | rfl | rfl | rfl | rfl | rfl | rfl | rfl | rfl | rfl | rfl | rfl | rfl | rfl | rfl | rfl | rfl | rfl | rfl <;> decide
theorem new_w : TabW newT := by unfold TabW newT; intro x hx; simp only [List.mem_cons, List.not_mem_nil, or_false] at hx; rcases hx with rfl | rfl | rfl | rfl | rfl | rfl | rfl | rfl | rfl | rfl | rfl | rfl | rfl | rfl | rfl | rfl | rfl | rfl | rfl | rfl | rfl <;> decide
theorem sys_w (s : ByteArray) : TabW (sysF s).2.1 := by
  unfold sysF
  split
  · exact old_w
  · split
    · exact new_w
    · split
      · exact new_w
      · exact fun x hx => absurd hx (by simp)
theorem find_w : ∀ {t : List (ByteArray × Nat)} (n : ByteArray), TabW t → (findF t n).1 < 4294967296
  | [], n, _ => by show (0 : Nat) < 4294967296; decide
  | x :: t, n, h => by
    unfold findF
    split
    · exact h x (by simp)
    · exact find_w n (fun y hy => h y (by simp [hy]))
theorem nr_w {t : List (ByteArray × Nat)} (h : TabW t) {c : ByteArray × Nat} {n : Nat} (e : nrF t c = some n) : n < 4294967296 := by
  unfold nrF at e
  split at e
  · split at e
    · injection e with e; omega
    · cases e
  · split at e
    · injection e with e; have := find_w c.1 h; omega
    · cases e
theorem calls_at (t : List (ByteArray × Nat)) (met : List Nat) (l : List (ByteArray × Nat)) (k : Nat) (hk : k < l.length) : callsE t met (l.drop k) = match nrF t (l.getD k (⟨#[]⟩, 0)) with
    | none => 73
    | some n => if n ∈ met then 74 else callsE t (met ++ [n]) (l.drop (k + 1)) := by
  rw [List.drop_eq_getElem_cons hk]
  have : l.getD k (⟨#[]⟩, 0) = l[k] := by rw [List.getD_eq_getElem?_getD, List.getElem?_eq_getElem hk]; rfl
  rw [this, callsE]
  cases nrF t l[k] <;> rfl
theorem calls_end (t : List (ByteArray × Nat)) (met : List Nat) (l : List (ByteArray × Nat)) (k : Nat) (hk : l.length ≤ k) : callsE t met (l.drop k) = 0 := by
  rw [List.drop_of_length_le hk, callsE]
theorem snoc_nodup {l : List Nat} {n : Nat} (h : l.Nodup) (hn : ¬ n ∈ l) : (l ++ [n]).Nodup := by
  rw [List.nodup_append]
  exact ⟨h, by simp, fun a ha b hb e => hn (by rw [List.mem_singleton.1 hb] at e; exact e ▸ ha)⟩
theorem snoc_below {l : List Nat} {n N : Nat} (h : ∀ x ∈ l, x < N) (hn : n < N) : ∀ x ∈ l ++ [n], x < N := fun x hx => by
  rcases List.mem_append.1 hx with g | g
  · exact h x g
  · rw [List.mem_singleton.1 g]; exact hn
theorem rules_at (t : List (ByteArray × Nat)) (l : List Ru) (k : Nat) (hk : k < l.length) : rulesE t k (l.drop k) = if ruleE t (l.getD k zeroR7) ≠ 0 then (ruleE t (l.getD k zeroR7), (k : Int)) else rulesE t (k + 1) (l.drop (k + 1)) := by
  rw [List.drop_eq_getElem_cons hk]
  have : l.getD k zeroR7 = l[k] := by rw [List.getD_eq_getElem?_getD, List.getElem?_eq_getElem hk]; rfl
  rw [this, rulesE]
theorem rules_end (t : List (ByteArray × Nat)) (l : List Ru) (k : Nat) (hk : l.length ≤ k) : rulesE t k (l.drop k) = (0, 0) := by
  rw [List.drop_of_length_le hk, rulesE]
theorem pick_at (t : List (ByteArray × Nat)) (d : Dat) (df : Int × Nat) (l : List Ru) (k : Nat) (hk : k < l.length) : pickF t d df (l.drop k) = if hasB t d.nr (l.getD k zeroR7).calls = true ∧ holdsF d (l.getD k zeroR7).when_ = true then (l.getD k zeroR7).do_ else pickF t d df (l.drop (k + 1)) := by
  rw [List.drop_eq_getElem_cons hk]
  have : l.getD k zeroR7 = l[k] := by rw [List.getD_eq_getElem?_getD, List.getElem?_eq_getElem hk]; rfl
  rw [this, pickF]
theorem pick_end (t : List (ByteArray × Nat)) (d : Dat) (df : Int × Nat) (l : List Ru) (k : Nat) (hk : l.length ≤ k) : pickF t d df (l.drop k) = df := by
  rw [List.drop_of_length_le hk, pickF]
/-- What a well-formed policy's parts are. -/
theorem rules_each7 (t : List (ByteArray × Nat)) : ∀ (l : List Ru) (i : Nat), (rulesE t i l).1 = 0 → ∀ k, k < l.length → ruleE t (l.getD k zeroR7) = 0
  | [], _, _, k, hk => absurd hk (by simp)
  | x :: l, i, h, k, hk => by
    rw [rulesE] at h
    by_cases hx : ruleE t x ≠ 0
    · rw [if_pos hx] at h; exact absurd h hx
    · rw [if_neg hx] at h
      cases k with
      | zero => exact Decidable.not_not.1 hx
      | succ k => exact rules_each7 t l (i + 1) h k (by simpa using hk)
theorem rule_parts {t : List (ByteArray × Nat)} {x : Ru} (h : ruleE t x = 0) : x.calls ≠ [] ∧ callsE t [] x.calls = 0 ∧ exF 0 x.when_ = 0 ∧ (actF x.do_).2 = true := by
  unfold ruleE at h
  by_cases h1 : x.calls = []
  · rw [if_pos h1] at h; cases h
  · rw [if_neg h1] at h
    by_cases h2 : callsE t [] x.calls ≠ 0
    · rw [if_pos h2] at h; exact absurd h h2
    · rw [if_neg h2] at h
      by_cases h3 : exF 0 x.when_ ≠ 0
      · rw [if_pos h3] at h; exact absurd h h3
      · rw [if_neg h3] at h
        by_cases h4 : (actF x.do_).2 = true
        · exact ⟨h1, Decidable.not_not.1 h2, Decidable.not_not.1 h3, h4⟩
        · rw [if_neg h4] at h; cases h
theorem check_parts {p : Po} (h : (checkF p).1 = 0) : (sysF p.arch).2.2 = true ∧ (actF p.foreign_).2 = true ∧ (actF p.default_).2 = true ∧ p.rules.length ≤ 512 ∧ ∀ k, k < p.rules.length → ruleE (sysF p.arch).2.1 (p.rules.getD k zeroR7) = 0 := by
  unfold checkF at h
  by_cases h1 : (sysF p.arch).2.2 = false
  · rw [if_pos h1] at h; cases h
  · rw [if_neg h1] at h
    by_cases h2 : (actF p.foreign_).2 = false ∨ (actF p.default_).2 = false
    · rw [if_pos h2] at h; cases h
    · rw [if_neg h2] at h
      by_cases h3 : 512 < p.rules.length
      · rw [if_pos h3] at h; cases h
      · rw [if_neg h3] at h
        exact ⟨by simpa using h1, by simpa using fun e => h2 (.inl e), by simpa using fun e => h2 (.inr e), by omega, rules_each7 _ _ _ h⟩
end Go.Proofs.YtgeapkjegemkeaaDoor

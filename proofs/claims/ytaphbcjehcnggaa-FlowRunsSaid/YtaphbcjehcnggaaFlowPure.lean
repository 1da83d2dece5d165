/-
  Where a program's instructions lead to, as plain functions: what can be come to, blocks, what lies above them, the longest way. No condition: nothing here speaks of a program of Go's.
-/
import Derived.Test.YtaphbcjehcnggaaCheckSpec
namespace Go.Proofs.Ytaphbcjehcnggaa
open Go
set_option linter.unusedSimpArgs false
set_option linter.unusedVariables false

section
variable (q : Nat → Ins) (n : Nat)
/-- The places behind an instruction, as it names them. -/
def candF (x : Ins) (p : Nat) : List Nat :=
  if x.code = 6 ∨ x.code = 22 then [] else if x.code = 5 then (if x.k.toNat < n then [p + 1 + x.k.toNat] else [])
  else if jumpC x.code = true then (if x.jt = x.jf then [p + 1 + x.jt] else [p + 1 + x.jt, p + 1 + x.jf]) else [p + 1]
/-- .. those that there are. -/
def nextF10 (p : Nat) : List Nat := if p < n then (candF n (q p) p).filter fun j => decide (j < n) else []
theorem cand_gt {x : Ins} {p j : Nat} (h : j ∈ candF n x p) : p < j := by
  unfold candF at h
  split at h
  · cases h
  · split at h
    · split at h
      · rw [List.mem_singleton.1 h]; omega
      · cases h
    · split at h
      · split at h
        · rw [List.mem_singleton.1 h]; omega
        · simp only [List.mem_cons, List.not_mem_nil, or_false] at h
          rcases h with rfl | rfl <;> omega
      · rw [List.mem_singleton.1 h]; omega
theorem cand_nodup (x : Ins) (p : Nat) : (candF n x p).Nodup := by
  unfold candF
  split
  · exact List.nodup_nil
  · split
    · split
      · simp
      · exact List.nodup_nil
    · split
      · split
        · simp
        · rename_i h
          simp only [List.nodup_cons, List.mem_singleton, List.not_mem_nil, not_false_eq_true, List.nodup_nil, and_true]
          omega
      · simp
variable {q n}
theorem next_in {p j : Nat} (h : j ∈ nextF10 q n p) : p < j ∧ j < n ∧ p < n := by
  unfold nextF10 at h
  split at h
  · have h2 := List.mem_filter.1 h
    exact ⟨cand_gt n h2.1, by simpa using h2.2, by assumption⟩
  · cases h
theorem next_nodup (p : Nat) : (nextF10 q n p).Nodup := by
  unfold nextF10
  split
  · exact (cand_nodup n _ _).filter _
  · exact List.nodup_nil
theorem next_len (p : Nat) : (nextF10 q n p).length ≤ 2 := by
  unfold nextF10
  split
  · refine Nat.le_trans (List.length_filter_le _ _) ?_
    unfold candF
    split
    · exact Nat.zero_le _
    · split
      · split
        · exact Nat.le_succ _
        · exact Nat.zero_le _
      · split
        · split
          · exact Nat.le_succ _
          · exact Nat.le_refl _
        · exact Nat.le_succ _
  · exact Nat.zero_le _
variable (q n)
/-! ### What can be come to -/
/-- .. the first m instructions having been looked at. -/
def reachN : Nat → Nat → Bool
  | 0, j => decide (j = 0)
  | m + 1, j => reachN m j || (reachN m m && (nextF10 q n m).contains j)
def reachF (j : Nat) : Bool := reachN q n n j
variable {q n}
theorem reach_up {m j : Nat} (h : reachN q n m j = true) : ∀ d, reachN q n (m + d) j = true
  | 0 => h
  | d + 1 => by rw [← Nat.add_assoc, reachN, reach_up h d, Bool.true_or]
theorem reach_fix {m j : Nat} (hj : j ≤ m) : ∀ d, reachN q n (m + d) j = reachN q n m j
  | 0 => rfl
  | d + 1 => by
    rw [← Nat.add_assoc, reachN, reach_fix hj d]
    have : (nextF10 q n (m + d)).contains j = false := by
      rw [Bool.eq_false_iff]
      intro h
      have := next_in (List.contains_iff_mem.1 h)
      omega
    rw [this, Bool.and_false, Bool.or_false]
theorem reach_self {m : Nat} (h : m ≤ n) : reachF q n m = reachN q n m m := by
  unfold reachF
  have := reach_fix (q := q) (n := n) (Nat.le_refl m) (n - m)
  rwa [show m + (n - m) = n by omega] at this
theorem reach_zero : reachF q n 0 = true := by
  have := reach_up (q := q) (n := n) (m := 0) (j := 0) rfl n
  unfold reachF
  rwa [Nat.zero_add] at this
theorem reach_next {i j : Nat} (h : reachF q n i = true) (hj : j ∈ nextF10 q n i) : reachF q n j = true := by
  have hi := next_in hj
  rw [reach_self (by omega)] at h
  have h2 : reachN q n (i + 1) j = true := by rw [reachN, h, List.contains_iff_mem.2 hj, Bool.true_and, Bool.or_true]
  have := reach_up h2 (n - (i + 1))
  unfold reachF
  rwa [show i + 1 + (n - (i + 1)) = n by omega] at this
theorem reach_from : ∀ m j, m ≤ n → reachN q n m j = true → j = 0 ∨ ∃ i, i < m ∧ reachF q n i = true ∧ j ∈ nextF10 q n i
  | 0, j, _, h => .inl (by simpa [reachN] using h)
  | m + 1, j, hm, h => by
    rw [reachN, Bool.or_eq_true, Bool.and_eq_true] at h
    rcases h with h | ⟨h1, h2⟩
    · rcases reach_from m j (by omega) h with g | ⟨i, g1, g2, g3⟩
      · exact .inl g
      · exact .inr ⟨i, by omega, g2, g3⟩
    · exact .inr ⟨m, by omega, by rw [reach_self (by omega)]; exact h1, List.contains_iff_mem.1 h2⟩
theorem reach_pred {j : Nat} (h : reachF q n j = true) : j = 0 ∨ ∃ i, i < n ∧ reachF q n i = true ∧ j ∈ nextF10 q n i := reach_from n j (Nat.le_refl _) h
variable (q n)
/-! ### Blocks -/
/-- How many that can be come to lead to it, of the first m. -/
def intoN : Nat → Nat → Nat
  | 0, _ => 0
  | m + 1, j => intoN m j + (if reachF q n m = true ∧ j ∈ nextF10 q n m then 1 else 0)
/-- Does it continue the one ahead? -/
def goesF (i : Nat) : Bool := decide (0 < i) && reachF q n (i - 1) && decide (nextF10 q n (i - 1) = [i]) && !jumpC (q (i - 1)).code && decide ((q (i - 1)).code ≠ 5) && decide (intoN q n n i = 1)
/-- The last one's end is turned. -/
def endF : List (Nat × Nat) → Nat → List (Nat × Nat)
  | [], _ => []
  | [x], e => [(x.1, e)]
  | x :: y :: l, e => x :: endF (y :: l) e
/-- The blocks of the first m instructions: from, to. -/
def blkN : Nat → List (Nat × Nat)
  | 0 => []
  | i + 1 => if reachF q n i = false then blkN i else if goesF q n i = true then endF (blkN i) (i + 1) else blkN i ++ [(i, i + 1)]
def blkF : List (Nat × Nat) := blkN q n n
/-- The number of the block that an instruction is in. -/
def numF (i : Nat) : Nat := (blkN q n (i + 1)).length - 1
/-- The blocks to which a block leads. -/
def leadF (b : Nat) : List Nat := (nextF10 q n (((blkF q n).getD b (0, 0)).2 - 1)).map (numF q n)
/-! ### What lies above -/
/-- Which blocks can be come to without going through c: the first m blocks having been looked at. -/
def canN (c : Nat) : Nat → Nat → Bool
  | 0, j => decide (j = 0 ∧ c ≠ 0)
  | m + 1, j => canN c m j || (canN c m m && decide (m ≠ c) && (leadF q n m).contains j)
def canF (c j : Nat) : Bool := canN q n c (blkF q n).length j
/-- The last of the first m blocks that is above b, or -1. -/
def aboveN (b : Nat) : Nat → Int
  | 0 => -1
  | c + 1 => if b ≠ c ∧ canF q n c b = false then (c : Int) else aboveN b c
def aboveF (b : Nat) : Int := aboveN q n b (blkF q n).length
/-! ### The longest way -/
/-- The last m instructions having been looked at. -/
def farN : Nat → Nat → Nat
  | 0, _ => 0
  | m + 1, j => if j = n - (m + 1) then ((nextF10 q n j).foldl (fun x k => max x (farN m k)) 0) + 1 else farN m j
def farF : Nat := farN q n n 0
end
section
variable {q : Nat → Ins} {n : Nat}
theorem end_len (e : Nat) : ∀ l, (endF l e).length = l.length
  | [] => rfl
  | [x] => rfl
  | x :: y :: l => by rw [endF, List.length_cons, end_len e (y :: l)]; rfl
theorem end_at (e : Nat) : ∀ (l : List (Nat × Nat)) (b : Nat), b < l.length → (endF l e).getD b (0, 0) = if b + 1 = l.length then ((l.getD b (0, 0)).1, e) else l.getD b (0, 0)
  | [], b, h => absurd h (by simp)
  | [x], 0, _ => rfl
  | [x], b + 1, h => absurd h (by simp)
  | x :: y :: l, 0, _ => by
    rw [endF, if_neg (by simp)]; rfl
  | x :: y :: l, b + 1, h => by
    rw [endF]
    have ih := end_at e (y :: l) b (by simpa using h)
    show (endF (y :: l) e).getD b (0, 0) = _
    rw [ih]
    by_cases g : b + 1 = (y :: l).length
    · rw [if_pos g, if_pos (by simp at g ⊢; omega)]; rfl
    · rw [if_neg g, if_neg (by simp at g ⊢; omega)]; rfl
theorem snoc_at (l : List (Nat × Nat)) (x : Nat × Nat) (b : Nat) (h : b < l.length + 1) : (l ++ [x]).getD b (0, 0) = if b = l.length then x else l.getD b (0, 0) := by
  rw [List.getD_eq_getElem?_getD, List.getD_eq_getElem?_getD]
  by_cases g : b = l.length
  · subst g; rw [if_pos rfl, List.getElem?_append_right (Nat.le_refl _), Nat.sub_self]; rfl
  · rw [if_neg g, List.getElem?_append_left (by omega)]
theorem goes_pos {i : Nat} (h : goesF q n i = true) : 0 < i ∧ reachF q n (i - 1) = true ∧ nextF10 q n (i - 1) = [i] ∧ jumpC (q (i - 1)).code = false ∧ (q (i - 1)).code ≠ 5 ∧ intoN q n n i = 1 := by
  unfold goesF at h
  simp only [Bool.and_eq_true, decide_eq_true_eq, Bool.not_eq_true', ne_eq] at h
  obtain ⟨⟨⟨⟨⟨h1, h2⟩, h3⟩, h4⟩, h5⟩, h6⟩ := h
  exact ⟨h1, h2, h3, h4, h5, h6⟩
/-- What the blocks of the first m instructions are. -/
structure BlkInv (m : Nat) (l : List (Nat × Nat)) : Prop where
  each : ∀ b, b < l.length → (l.getD b (0, 0)).1 < (l.getD b (0, 0)).2 ∧ (l.getD b (0, 0)).2 ≤ m
  rise : ∀ b, b + 1 < l.length → (l.getD b (0, 0)).2 ≤ (l.getD (b + 1) (0, 0)).1
  come : ∀ k, k < m → reachF q n k = true → numF q n k < l.length ∧ (l.getD (numF q n k) (0, 0)).1 ≤ k ∧ k < (l.getD (numF q n k) (0, 0)).2
  back : ∀ b k, b < l.length → (l.getD b (0, 0)).1 ≤ k → k < (l.getD b (0, 0)).2 → reachF q n k = true ∧ numF q n k = b
  first : ∀ b, b < l.length → goesF q n (l.getD b (0, 0)).1 = false
  goes : ∀ b k, b < l.length → (l.getD b (0, 0)).1 < k → k < (l.getD b (0, 0)).2 → goesF q n k = true
  last : 0 < m → reachF q n (m - 1) = true → 0 < l.length ∧ (l.getD (l.length - 1) (0, 0)).2 = m
theorem blk_inv : ∀ m, m ≤ n → BlkInv (q := q) (n := n) m (blkN q n m)
  | 0, _ => ⟨fun b h => absurd h (by simp [blkN]), fun b h => absurd h (by simp [blkN]), fun k h => absurd h (Nat.not_lt_zero _), fun b k h => absurd h (by simp [blkN]), fun b h => absurd h (by simp [blkN]), fun b k h => absurd h (by simp [blkN]), fun h => absurd h (Nat.lt_irrefl _)⟩
  | m + 1, hm => by
    have ih := blk_inv m (by omega)
    have hnum : numF q n m = (blkN q n (m + 1)).length - 1 := rfl
    by_cases hr : reachF q n m = false
    · have e : blkN q n (m + 1) = blkN q n m := by rw [blkN, if_pos hr]
      rw [e]
      refine ⟨fun b hb => ⟨(ih.each b hb).1, by have := (ih.each b hb).2; omega⟩, ih.rise, fun k hk hrk => ?_, ih.back, ih.first, ih.goes, fun _ h => ?_⟩
      · have : k ≠ m := fun g => by subst g; rw [hr] at hrk; cases hrk
        exact ih.come k (by omega) hrk
      · rw [Nat.add_sub_cancel, hr] at h; cases h
    · have hr : reachF q n m = true := by simpa using hr
      by_cases hg : goesF q n m = true
      · have hp := goes_pos hg
        have hl := ih.last hp.1 hp.2.1
        have e : blkN q n (m + 1) = endF (blkN q n m) (m + 1) := by rw [blkN, if_neg (by rw [hr]; decide), if_pos hg]
        rw [e] at hnum ⊢
        rw [end_len] at hnum
        have hlen := end_len (m + 1) (blkN q n m)
        have hat := end_at (m + 1) (blkN q n m)
        generalize hL : blkN q n m = l at *
        generalize hE : endF l (m + 1) = l' at *
        refine ⟨fun b hb => ?_, fun b hb => ?_, fun k hk hrk => ?_, fun b k hb h1 h2 => ?_, fun b hb => ?_, fun b k hb h1 h2 => ?_, fun _ _ => ?_⟩
        · rw [hlen] at hb
          rw [hat b hb]
          have := ih.each b hb
          split
          · exact ⟨by show (l.getD b (0, 0)).1 < m + 1; omega, Nat.le_refl _⟩
          · exact ⟨this.1, by omega⟩
        · rw [hlen] at hb
          rw [hat b (by omega), hat (b + 1) hb, if_neg (by omega)]
          have := ih.rise b hb
          split
          · exact this
          · exact this
        · rw [hlen]
          by_cases g : k = m
          · subst g
            rw [hnum, hat _ (by omega), if_pos (by omega)]
            have := ih.each (l.length - 1) (by omega)
            exact ⟨by omega, by show (l.getD (l.length - 1) (0, 0)).1 ≤ k; omega, by show k < k + 1; omega⟩
          · obtain ⟨c1, c2, c3⟩ := ih.come k (by omega) hrk
            rw [hat _ c1]
            refine ⟨c1, ?_, ?_⟩
            · split <;> exact c2
            · split
              · show k < m + 1; omega
              · exact c3
        · rw [hlen] at hb
          rw [hat b hb] at h1 h2
          by_cases g : b + 1 = l.length
          · rw [if_pos g] at h1 h2
            by_cases gk : k = m
            · subst gk; exact ⟨hr, by rw [hnum]; omega⟩
            · have h2 : k < m + 1 := h2
              exact ih.back b k hb h1 (by rw [show b = l.length - 1 by omega, hl.2]; omega)
          · rw [if_neg g] at h1 h2
            exact ih.back b k hb h1 h2
        · rw [hlen] at hb
          rw [hat b hb]
          have := ih.first b hb
          split <;> exact this
        · rw [hlen] at hb
          rw [hat b hb] at h1 h2
          by_cases g : b + 1 = l.length
          · rw [if_pos g] at h1 h2
            by_cases gk : k = m
            · subst gk; exact hg
            · have h2 : k < m + 1 := h2
              exact ih.goes b k hb h1 (by rw [show b = l.length - 1 by omega, hl.2]; omega)
          · rw [if_neg g] at h1 h2
            exact ih.goes b k hb h1 h2
        · rw [hlen]
          refine ⟨hl.1, ?_⟩
          rw [hat _ (by omega), if_pos (by omega)]
      · have hg : goesF q n m = false := by simpa using hg
        have e : blkN q n (m + 1) = blkN q n m ++ [(m, m + 1)] := by rw [blkN, if_neg (by rw [hr]; decide), if_neg (by rw [hg]; decide)]
        rw [e] at hnum ⊢
        rw [List.length_append] at hnum
        have hlen : (blkN q n m ++ [(m, m + 1)]).length = (blkN q n m).length + 1 := by simp
        have hat := snoc_at (blkN q n m) (m, m + 1)
        generalize hL : blkN q n m = l at *
        generalize hE : l ++ [(m, m + 1)] = l' at *
        have hnum : numF q n m = l.length := by simpa using hnum
        refine ⟨fun b hb => ?_, fun b hb => ?_, fun k hk hrk => ?_, fun b k hb h1 h2 => ?_, fun b hb => ?_, fun b k hb h1 h2 => ?_, fun _ _ => ?_⟩
        · rw [hlen] at hb
          rw [hat b hb]
          split
          · exact ⟨by show m < m + 1; omega, Nat.le_refl _⟩
          · have := ih.each b (by omega)
            exact ⟨this.1, by omega⟩
        · rw [hlen] at hb
          rw [hat b (by omega), hat (b + 1) hb, if_neg (by omega)]
          by_cases g : b + 1 = l.length
          · rw [if_pos g]; exact (ih.each b (by omega)).2
          · rw [if_neg g]; exact ih.rise b (by omega)
        · rw [hlen]
          by_cases g : k = m
          · subst g
            rw [hnum, hat _ (by omega), if_pos rfl]
            exact ⟨by omega, Nat.le_refl _, by show k < k + 1; omega⟩
          · obtain ⟨c1, c2, c3⟩ := ih.come k (by omega) hrk
            rw [hat _ (by omega), if_neg (by omega)]
            exact ⟨by omega, c2, c3⟩
        · rw [hlen] at hb
          rw [hat b hb] at h1 h2
          by_cases g : b = l.length
          · rw [if_pos g] at h1 h2
            have h1 : m ≤ k := h1
            have h2 : k < m + 1 := h2
            obtain rfl : k = m := by omega
            exact ⟨hr, by rw [hnum, g]⟩
          · rw [if_neg g] at h1 h2
            exact ih.back b k (by omega) h1 h2
        · rw [hlen] at hb
          rw [hat b hb]
          split
          · exact hg
          · exact ih.first b (by omega)
        · rw [hlen] at hb
          rw [hat b hb] at h1 h2
          by_cases g : b = l.length
          · rw [if_pos g] at h1 h2
            have h1 : m < k := h1
            have h2 : k < m + 1 := h2
            omega
          · rw [if_neg g] at h1 h2
            exact ih.goes b k (by omega) h1 h2
        · rw [hlen]
          refine ⟨by omega, ?_⟩
          rw [hat _ (by omega), if_pos (by omega)]
theorem blk_all : BlkInv (q := q) (n := n) n (blkF q n) := blk_inv n (Nat.le_refl _)
end
end Go.Proofs.Ytaphbcjehcnggaa

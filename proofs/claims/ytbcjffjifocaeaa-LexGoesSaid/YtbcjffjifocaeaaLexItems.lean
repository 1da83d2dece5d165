/-
  What a walk through a text's tokens comes by: the tokens, and the error behind them, if there is one. No condition: nothing here speaks of a program of Go's.
-/
import Derived.Test.YtbcjffjifocaeaaLexSpec
namespace Go.Proofs.Ytbcjffjifocaeaa
set_option linter.unusedSimpArgs false
set_option linter.unusedVariables false

/-- Tokens, then the error. -/
def endI (r : List Nx × Int × Nat) : List Nx := r.1 ++ (if r.2.1 ≠ 0 then [Nx.fail r.2.2 r.2.1] else [])
def itemsN (s : ByteArray) (k i : Nat) : List Nx := endI (toksN s k i)
def itemsF (s : ByteArray) : List Nx := itemsN s (s.size + 1) 0
theorem tok_fail {s : ByteArray} {i : Nat} (h : (tokF s i).err ≠ 0) : tokF s i = Nx.fail (tokF s i).next (tokF s i).err := by
  unfold tokF at h ⊢
  split
  · rename_i h0; rw [if_pos h0] at h; exact absurd rfl h
  · rename_i h0
    rw [if_neg h0] at h
    split
    · rename_i h1
      rw [if_pos h1] at h
      split
      · rfl
      · rename_i h2; rw [if_neg h2] at h; exact absurd rfl h
    · rename_i h1
      rw [if_neg h1] at h
      split
      · rename_i h2
        rw [if_pos h2] at h
        split
        · rfl
        · rename_i h3; rw [if_neg h3] at h; exact absurd rfl h
      · rename_i h2
        rw [if_neg h2] at h
        split
        · rfl
        · rename_i h3; rw [if_neg h3] at h; exact absurd rfl h
theorem next_fail {s : ByteArray} {p : Int} (h : (nextF s p).err ≠ 0) : nextF s p = Nx.fail (nextF s p).next (nextF s p).err := by
  unfold nextF at h ⊢
  split
  · rfl
  · rename_i h0
    rw [if_neg h0] at h
    split
    · rfl
    · rename_i h1
      rw [if_neg h1] at h
      exact tok_fail h
theorem items_err {s : ByteArray} {k i : Nat} (h : (nextF s (i : Int)).err ≠ 0) : itemsN s (k + 1) i = [nextF s (i : Int)] := by
  have hT : toksN s (k + 1) i = ([], (nextF s (i : Int)).err, (nextF s (i : Int)).next) := if_pos h
  unfold itemsN endI
  rw [hT]
  show [] ++ (if (nextF s (i : Int)).err ≠ 0 then _ else _) = _
  rw [if_pos h, List.nil_append, ← next_fail h]
theorem items_end {s : ByteArray} {k i : Nat} (h : (nextF s (i : Int)).err = 0) (hk : (nextF s (i : Int)).kind = 1) : itemsN s (k + 1) i = [nextF s (i : Int)] := by
  have hT : toksN s (k + 1) i = ([nextF s (i : Int)], 0, 0) := (if_neg (fun g => g h)).trans (if_pos hk)
  unfold itemsN endI
  rw [hT]; rfl
theorem items_on {s : ByteArray} {k i : Nat} (h : (nextF s (i : Int)).err = 0) (hk : (nextF s (i : Int)).kind ≠ 1) : itemsN s (k + 1) i = nextF s (i : Int) :: itemsN s k (nextF s (i : Int)).next := by
  have hT : toksN s (k + 1) i = (nextF s (i : Int) :: (toksN s k (nextF s (i : Int)).next).1, (toksN s k (nextF s (i : Int)).next).2) := (if_neg (fun g => g h)).trans (if_neg hk)
  unfold itemsN endI
  rw [hT]; rfl
/-- Where a walk stands: what has come, and the place. -/
structure AtI (s : ByteArray) (pre : List Nx) (i : Nat) : Prop where
  le : i ≤ s.size
  is : ∃ k, s.size - i < k ∧ itemsF s = pre ++ itemsN s k i
theorem at_start (s : ByteArray) : AtI s [] 0 := ⟨Nat.zero_le _, s.size + 1, by omega, rfl⟩
theorem AtI.more {s : ByteArray} {pre : List Nx} {i : Nat} (h : AtI s pre i) : pre.length < (itemsF s).length := by
  obtain ⟨k, hk, e⟩ := h.is
  obtain ⟨k, rfl⟩ : ∃ k', k = k' + 1 := ⟨k - 1, by omega⟩
  rw [e, List.length_append]
  have : 0 < (itemsN s (k + 1) i).length := by
    by_cases h1 : (nextF s (i : Int)).err = 0
    · by_cases h2 : (nextF s (i : Int)).kind = 1
      · rw [items_end h1 h2]; exact Nat.one_pos
      · rw [items_on h1 h2]; exact Nat.succ_pos _
    · rw [items_err h1]; exact Nat.one_pos
  omega
theorem AtI.last {s : ByteArray} {pre : List Nx} {i : Nat} (h : AtI s pre i) (hl : (nextF s (i : Int)).err ≠ 0 ∨ (nextF s (i : Int)).kind = 1) : itemsF s = pre ++ [nextF s (i : Int)] := by
  obtain ⟨k, hk, e⟩ := h.is
  obtain ⟨k, rfl⟩ : ∃ k', k = k' + 1 := ⟨k - 1, by omega⟩
  by_cases h1 : (nextF s (i : Int)).err = 0
  · rw [e, items_end h1 (hl.resolve_left (fun g => g h1))]
  · rw [e, items_err h1]
theorem AtI.prefix_ {s : ByteArray} {pre : List Nx} {i : Nat} (h : AtI s pre i) : pre ++ [nextF s (i : Int)] <+: itemsF s := by
  obtain ⟨k, hk, e⟩ := h.is
  obtain ⟨k, rfl⟩ : ∃ k', k = k' + 1 := ⟨k - 1, by omega⟩
  by_cases h1 : (nextF s (i : Int)).err = 0
  · by_cases h2 : (nextF s (i : Int)).kind = 1
    · rw [e, items_end h1 h2]; exact List.prefix_refl _
    · rw [e, items_on h1 h2]; exact ⟨itemsN s k (nextF s (i : Int)).next, by simp⟩
  · rw [e, items_err h1]; exact List.prefix_refl _
theorem AtI.on {s : ByteArray} {pre : List Nx} {i : Nat} (h : AtI s pre i) (h1 : (nextF s (i : Int)).err = 0) (h2 : (nextF s (i : Int)).kind ≠ 1) : AtI s (pre ++ [nextF s (i : Int)]) (nextF s (i : Int)).next ∧ i < (nextF s (i : Int)).next := by
  have hs : s.size ≤ 65536 := by
    rcases Nat.lt_or_ge 65536 s.size with g | g
    · unfold nextF at h1; rw [if_pos g] at h1; cases h1
    · exact g
  have hg := next_goes hs h.le h1 h2
  obtain ⟨k, hk, e⟩ := h.is
  obtain ⟨k, rfl⟩ : ∃ k', k = k' + 1 := ⟨k - 1, by omega⟩
  exact ⟨⟨hg.2, k, by omega, by rw [e, items_on h1 h2]; simp⟩, hg.1⟩
end Go.Proofs.Ytbcjffjifocaeaa

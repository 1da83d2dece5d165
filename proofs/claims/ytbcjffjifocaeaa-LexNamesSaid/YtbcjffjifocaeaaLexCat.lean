/-
  A text's tokens by their index: where each stands, what it is, and their texts with a blank behind each, as plain facts. No condition: nothing here speaks of a program of Go's.
-/
import Derived.Test.YtbcjffjifocaeaaLexBack
import Derived.Test.YtbcjffjifocaeaaLexProg
namespace Go.Proofs.Ytbcjffjifocaeaa
set_option linter.unusedSimpArgs false
set_option linter.unusedVariables false

/-- Where the tokens ahead of the i-th end. -/
def endF (l : List Nx) : Nat → Nat
  | 0 => 0
  | i + 1 => (l.getD i noTok).pos + (l.getD i noTok).text.size
/-- The texts of the first i tokens, a blank behind each. -/
def catP (l : List Nx) : Nat → ByteArray
  | 0 => ⟨#[]⟩
  | i + 1 => catP l i ++ (l.getD i noTok).text ++ ⟨#[32]⟩
theorem catP_size (l : List Nx) (i : Nat) : (catP l (i + 1)).size = (catP l i).size + (l.getD i noTok).text.size + 1 := by
  show (_ ++ _ ++ _ : ByteArray).size = _
  rw [size_append5, size_append5]; rfl
theorem catP_mono (l : List Nx) (i : Nat) : ∀ m, (catP l i).size ≤ (catP l (i + m)).size ∧ ∀ j, j < (catP l i).size → byt (catP l (i + m)) j = byt (catP l i) j
  | 0 => ⟨Nat.le_refl _, fun _ _ => rfl⟩
  | m + 1 => by
    have ih := catP_mono l i m
    refine ⟨by rw [show i + (m + 1) = i + m + 1 by omega, catP_size]; omega, fun j hj => ?_⟩
    show byt (catP l (i + m) ++ _ ++ _) j = _
    rw [byt_append, if_pos (by rw [size_append5]; omega), byt_append, if_pos (by omega)]
    exact ih.2 j hj
theorem catP_at (l : List Nx) : ∀ r m, r.length = m → ∀ i, l.drop i = r → i + m = l.length → CatAt (catP l l.length) r (catP l i).size
  | [], 0, _, i, _, he => by show (catP l l.length).size = _; rw [← he]; rfl
  | x :: xs, m + 1, hm, i, hd, he => by
    have hi : i < l.length := by omega
    have hx : l.getD i noTok = x := by
      rw [List.getD_eq_getElem?_getD, List.getElem?_eq_getElem hi]
      rw [List.drop_eq_getElem_cons hi] at hd
      exact (List.cons.inj hd).1
    have hxs : l.drop (i + 1) = xs := by
      rw [List.drop_eq_getElem_cons hi] at hd
      exact (List.cons.inj hd).2
    have hsz := catP_size l i
    rw [hx] at hsz
    have hmo := catP_mono l (i + 1) m
    rw [show i + 1 + m = l.length by omega] at hmo
    have hC : catP l (i + 1) = catP l i ++ x.text ++ ⟨#[32]⟩ := by rw [← hx]; rfl
    refine ⟨fun j hj => ?_, ?_, ?_⟩
    · rw [hmo.2 _ (by omega), hC, byt_append, if_pos (by rw [size_append5]; omega), byt_append, if_neg (by omega)]
      congr 1; omega
    · rw [hmo.2 _ (by omega), hC, byt_append, if_neg (by rw [size_append5]; omega), size_append5, Nat.sub_self]; rfl
    · have ih := catP_at l xs m (by simpa using hm) (i + 1) hxs (by omega)
      rw [hsz] at ih
      exact ih
theorem goods_at : ∀ {l : List Nx} {i : Nat}, Goods l → i < l.length → GoodTok (l.getD i noTok) ∧ ((l.getD i noTok).kind = 1 ↔ i = l.length - 1)
  | [], _, h, _ => absurd h (by simp [Goods])
  | x :: xs, 0, h, _ => by
    refine ⟨h.1, ?_⟩
    rcases h.2 with ⟨h1, rfl⟩ | ⟨h1, h2⟩
    · exact ⟨fun _ => rfl, fun _ => h1⟩
    · cases xs with
      | nil => exact absurd h2 (by simp [Goods])
      | cons y ys => exact ⟨fun h => absurd h h1, fun h => by simp at h⟩
  | x :: xs, i + 1, h, hi => by
    rcases h.2 with ⟨h1, rfl⟩ | ⟨h1, h2⟩
    · simp at hi
    · have := goods_at (l := xs) (i := i) h2 (by simpa using hi)
      refine ⟨this.1, this.2.trans ?_⟩
      simp only [List.length_cons] at hi ⊢
      omega
theorem chain_at {s : ByteArray} : ∀ {l : List Nx} {i e : Nat}, Chain s l e → i < l.length → (if i = 0 then e else endF l i) ≤ (l.getD i noTok).pos ∧ (l.getD i noTok).pos + (l.getD i noTok).text.size ≤ s.size ∧ (l.getD i noTok).text = s.extract (l.getD i noTok).pos ((l.getD i noTok).pos + (l.getD i noTok).text.size) ∧ ((l.getD i noTok).kind = 1 → (l.getD i noTok).pos = s.size)
  | [], _, _, _, h => absurd h (by simp)
  | x :: xs, 0, e, h, _ => ⟨h.1, h.2.1, h.2.2.1, h.2.2.2.1⟩
  | x :: xs, i + 1, e, h, hi => by
    have := chain_at (l := xs) (i := i) h.2.2.2.2 (by simpa using hi)
    refine ⟨?_, this.2⟩
    rw [if_neg (by omega)]
    have h1 := this.1
    cases i with
    | zero => exact h1
    | succ j => exact h1
/-- What the i-th of a text's tokens is. -/
structure Stands (s : ByteArray) (n i : Nat) (x : Nx) (c e : Nat) : Prop where
  behind : e ≤ x.pos
  within : x.pos + x.text.size ≤ s.size
  text : x.text = s.extract x.pos (x.pos + x.text.size)
  last : x.text.size = 0 ↔ i + 1 = n
  num : numB (byt x.text) x.text.size = decide (x.kind = 3)
  val : x.kind = 3 → numV (byt x.text) x.text.size = x.num
  word : worOK (byt x.text) x.text.size = decide (x.kind = 2)
  small : c ≤ e + i
  low : i ≤ e
theorem toks_facts {s : ByteArray} (h : (toksF s).2.1 = 0) : s.size ≤ 65536 ∧ Goods (lstF s) ∧ Chain s (lstF s) 0 := by
  have hs : s.size ≤ 65536 := by
    rcases Nat.lt_or_ge 65536 s.size with g | g
    · rw [toks_long g] at h; cases h
    · exact g
  have hl : lstF s = (toksN s (s.size + 1) 0).1 := if_pos h
  have := (toks_good hs (s.size + 1) 0 (Nat.zero_le _) (by omega)).1 h
  rw [hl]
  exact ⟨hs, this⟩
theorem stands {s : ByteArray} (h : (toksF s).2.1 = 0) : ∀ i, i < (lstF s).length → Stands s (lstF s).length i ((lstF s).getD i noTok) (catP (lstF s) i).size (endF (lstF s) i) := by
  obtain ⟨hs, hG, hC⟩ := toks_facts h
  have bool : ∀ {b : Bool} {p : Prop} [Decidable p], (b = true ↔ p) → b = decide p := fun {b p} _ h => by
    cases b with
    | true => exact (decide_eq_true (h.1 rfl)).symm
    | false => exact (decide_eq_false (fun k => by have := h.2 k; cases this)).symm
  intro i hi
  have hg := goods_at hG hi
  have hc := chain_at hC hi
  have hz : ((lstF s).getD i noTok).text.size = 0 ↔ i + 1 = (lstF s).length := by
    constructor
    · intro h0
      have : ((lstF s).getD i noTok).kind = 1 := by
        rcases Decidable.em (((lstF s).getD i noTok).kind = 1) with k | k
        · exact k
        · have := hg.1.some_ k; omega
      have := hg.2.1 this; omega
    · intro h0; exact (hg.1.one (hg.2.2 (by omega))).1
  have hsm : (catP (lstF s) i).size ≤ endF (lstF s) i + i ∧ i ≤ endF (lstF s) i := by
    clear hz hg hc
    induction i with
    | zero => exact ⟨Nat.le_refl _, Nat.le_refl _⟩
    | succ j ih =>
      have ih := ih (by omega)
      have hg := goods_at hG (show j < _ by omega)
      have hc := (chain_at hC (show j < _ by omega)).1
      have hp := hg.1.some_ (fun k => by have := hg.2.1 k; omega)
      rw [catP_size]
      show _ ≤ (_ + _) + _ ∧ j + 1 ≤ _ + _
      have : endF (lstF s) j ≤ ((lstF s).getD j noTok).pos := by
        cases j with
        | zero => exact Nat.zero_le _
        | succ m => exact hc
      omega
  refine ⟨?_, hc.2.1, hc.2.2.1, hz, bool (good_numB hg.1), fun k => (hg.1.three k).2.1.symm, bool (good_worB hg.1), hsm.1, hsm.2⟩
  cases i with
  | zero => exact Nat.zero_le _
  | succ m => exact hc.1
/-- The last is the end. -/
theorem stands_end {s : ByteArray} (h : (toksF s).2.1 = 0) : 0 < (lstF s).length ∧ ((lstF s).getD ((lstF s).length - 1) noTok).kind = 1 ∧ ((lstF s).getD ((lstF s).length - 1) noTok).pos = s.size := by
  obtain ⟨hs, hG, hC⟩ := toks_facts h
  have hn : 0 < (lstF s).length := by
    cases hl : lstF s with
    | nil => rw [hl] at hG; exact absurd hG (by simp [Goods])
    | cons x xs => simp
  have hg := (goods_at hG (show (lstF s).length - 1 < _ by omega)).2.2 rfl
  exact ⟨hn, hg, (chain_at hC (show (lstF s).length - 1 < _ by omega)).2.2.2 hg⟩
/-- Where the error is told: within the text. -/
theorem stands_err (s : ByteArray) (h : (toksF s).2.1 ≠ 0) : (toksF s).2.2 ≤ s.size := by
  rcases Nat.lt_or_ge 65536 s.size with g | g
  · rw [toks_long g]; exact Nat.zero_le _
  · exact (toks_good g (s.size + 1) 0 (Nat.zero_le _) (by omega)).2
/-- Written again, with a blank behind each, they are cut into the same. -/
theorem stands_again {s : ByteArray} (h : (toksF s).2.1 = 0) (hA : (catP (lstF s) (lstF s).length).size ≤ 65536) :
    (toksF (catP (lstF s) (lstF s).length)).2.1 = 0 ∧ (lstF (catP (lstF s) (lstF s).length)).length = (lstF s).length ∧ ∀ i, i < (lstF s).length → ((lstF (catP (lstF s) (lstF s).length)).getD i noTok).kind = ((lstF s).getD i noTok).kind ∧ ((lstF (catP (lstF s) (lstF s).length)).getD i noTok).text = ((lstF s).getD i noTok).text ∧ ((lstF (catP (lstF s) (lstF s).length)).getD i noTok).num = ((lstF s).getD i noTok).num := by
  obtain ⟨hs, hG, hC⟩ := toks_facts h
  have hat := catP_at (lstF s) (lstF s) _ rfl 0 rfl (by omega)
  have hle := cat_le hat
  have ha := toks_again hA (lstF s) (catP (lstF s) 0).size 0 ((catP (lstF s) (lstF s).length).size + 1) hG hat (Nat.zero_le _) rfl (by omega)
  generalize hAA : catP (lstF s) (lstF s).length = A at *
  have hl : lstF A = (toksN A (A.size + 1) 0).1 := if_pos ha.1
  rw [← hl] at ha
  have hlen : (lstF A).length = (lstF s).length := by have := congrArg List.length ha.2; simpa using this
  refine ⟨ha.1, hlen, fun i hi => ?_⟩
  have hi2 : i < (lstF A).length := by omega
  have he := congrArg (fun l => l[i]?) ha.2
  simp only [List.getElem?_map, List.getElem?_eq_getElem hi, List.getElem?_eq_getElem hi2, Option.map_some, Option.some.injEq] at he
  simp only [List.getD_eq_getElem?_getD, List.getElem?_eq_getElem hi, List.getElem?_eq_getElem hi2, Option.getD_some]
  simp only [Nx.core, Prod.mk.injEq] at he
  exact he
end Go.Proofs.Ytbcjffjifocaeaa

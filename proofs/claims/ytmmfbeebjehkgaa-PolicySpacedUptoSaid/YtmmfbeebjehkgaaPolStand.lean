/-
  A text's tokens by their index, where each stands, what it is; two texts with the same tokens are read alike: plain facts, and the document's List of a text. No condition but the text's size.
-/
import Derived.Test.YtmmfbeebjehkgaaLexBack
import Derived.Test.YtmmfbeebjehkgaaLexToks
import Derived.Test.YtmmfbeebjehkgaaLexSame
import Derived.Test.YtmmfbeebjehkgaaPolPure
namespace Go.Proofs.Ytmmfbeebjehkgaa
open Go Go.RowKit
set_option linter.unusedSimpArgs false
set_option linter.unusedVariables false

def lstF (s : ByteArray) : List Nx := if (toksF s).2.1 = 0 then (toksF s).1 else []
def LstP (s : ByteArray) (w : World) (e : Ending) (w' : World) : Prop :=
  ∃ A cap, e = .returned (.tuple #[.slice A (lstF s).length cap, .int .i64 (toksF s).2.1, .int .i64 ((toksF s).2.2 : Int)]) ∧ TokAt w' A (lstF s).length (fun i => (lstF s).getD i noTok) ∧ Below w.heap.size w w'
theorem toks_len (s : ByteArray) : ∀ k i, (toksN s k i).1.length ≤ k
  | 0, _ => Nat.le_refl _
  | k + 1, i => by
    by_cases he : (nextF s (i : Int)).err ≠ 0
    · have hT : toksN s (k + 1) i = ([], (nextF s (i : Int)).err, (nextF s (i : Int)).next) := if_pos he
      rw [hT]; exact Nat.zero_le _
    · by_cases hk : (nextF s (i : Int)).kind = 1
      · have hT : toksN s (k + 1) i = ([nextF s (i : Int)], 0, 0) := (if_neg he).trans (if_pos hk)
        rw [hT]; exact Nat.succ_le_succ (Nat.zero_le _)
      · have hT : toksN s (k + 1) i = (nextF s (i : Int) :: (toksN s k (nextF s (i : Int)).next).1, (toksN s k (nextF s (i : Int)).next).2) := (if_neg he).trans (if_neg hk)
        rw [hT]; exact Nat.succ_le_succ (toks_len s k _)
theorem toks_long {s : ByteArray} (h : 65536 < s.size) : toksF s = ([], 54, 0) := by
  have he : (nextF s ((0 : Nat) : Int)).err ≠ 0 := by unfold nextF; rw [if_pos h]; decide
  have hT : toksN s (s.size + 1) 0 = ([], (nextF s ((0 : Nat) : Int)).err, (nextF s ((0 : Nat) : Int)).next) := if_pos he
  show toksN s (s.size + 1) 0 = _
  rw [hT]; unfold nextF; rw [if_pos h]; rfl
theorem toks_small (s : ByteArray) : (toksF s).1.length ≤ 65537 := by
  rcases Nat.lt_or_ge 65536 s.size with h | h
  · rw [toks_long h]; exact Nat.zero_le _
  · have := toks_len s (s.size + 1) 0
    show (toksN s (s.size + 1) 0).1.length ≤ _
    omega
theorem lst_small (s : ByteArray) : (lstF s).length ≤ 65537 := by
  unfold lstF; split
  · exact toks_small s
  · exact Nat.zero_le _
theorem lst_of {s : ByteArray} {w : World} {e : Ending} {w' : World} (h : ListP s w e w') : LstP s w e w' := by
  rcases h with ⟨h0, v, rfl, ho, hb⟩ | ⟨h0, rfl, hb⟩
  · obtain ⟨A, cap, rfl, ht⟩ := own_tok ho
    have hl : lstF s = (toksF s).1 := if_pos h0
    exact ⟨A, cap, by rw [hl], by rw [hl]; exact ht, hb⟩
  · have hl : lstF s = [] := if_neg h0
    exact ⟨none, 0, by rw [hl]; rfl, fun h => by rw [hl] at h; exact absurd h (by decide), hb⟩
theorem ref_Lst (s : ByteArray) (hm : s.size ≤ maxLen) (w : World) : Calls Try.prog 12 #[.string s] w (LstP s w) := (ref_List s w hm).mono fun _ _ h => lst_of h
/-- Where the tokens ahead of the i-th end. -/
def endF (l : List Nx) : Nat → Nat
  | 0 => 0
  | i + 1 => (l.getD i noTok).pos + (l.getD i noTok).text.size
/-- The texts of the first i tokens, a blank behind each. -/
def catP (l : List Nx) : Nat → ByteArray
  | 0 => ⟨#[]⟩
  | i + 1 => catP l i ++ (l.getD i noTok).text ++ ⟨#[32]⟩
theorem catP_size (l : List Nx) (i : Nat) : (catP l (i + 1)).size = (catP l i).size + (l.getD i noTok).text.size + 1 := by
  show (_ ++ _ ++ _ : ByteArray).size = _
  rw [size_append5, size_append5]; rfl
theorem catP_mono (l : List Nx) (i : Nat) : ∀ m, (catP l i).size ≤ (catP l (i + m)).size ∧ ∀ j, j < (catP l i).size → byt (catP l (i + m)) j = byt (catP l i) j
  | 0 => ⟨Nat.le_refl _, fun _ _ => rfl⟩
  | m + 1 => by
    have ih := catP_mono l i m
    refine ⟨by rw [show i + (m + 1) = i + m + 1 by omega, catP_size]; omega, fun j hj => ?_⟩
    show byt (catP l (i + m) ++ _ ++ _) j = _
    rw [byt_append, if_pos (by rw [size_append5]; omega), byt_append, if_pos (by omega)]
    exact ih.2 j hj
theorem catP_at (l : List Nx) : ∀ r m, r.length = m → ∀ i, l.drop i = r → i + m = l.length → CatAt (catP l l.length) r (catP l i).size
  | [], 0, _, i, _, he => by show (catP l l.length).size = _; rw [← he]; rfl
  | x :: xs, m + 1, hm, i, hd, he => by
    have hi : i < l.length := by omega
    have hx : l.getD i noTok = x := by
      rw [List.getD_eq_getElem?_getD, List.getElem?_eq_getElem hi]
      rw [List.drop_eq_getElem_cons hi] at hd
      exact (List.cons.inj hd).1
    have hxs : l.drop (i + 1) = xs := by
      rw [List.drop_eq_getElem_cons hi] at hd
      exact (List.cons.inj hd).2
    have hsz := catP_size l i
    rw [hx] at hsz
    have hmo := catP_mono l (i + 1) m
    rw [show i + 1 + m = l.length by omega] at hmo
    have hC : catP l (i + 1) = catP l i ++ x.text ++ ⟨#[32]⟩ := by rw [← hx]; rfl
    refine ⟨fun j hj => ?_, ?_, ?_⟩
    · rw [hmo.2 _ (by omega), hC, byt_append, if_pos (by rw [size_append5]; omega), byt_append, if_neg (by omega)]
      congr 1; omega
    · rw [hmo.2 _ (by omega), hC, byt_append, if_neg (by rw [size_append5]; omega), size_append5, Nat.sub_self]; rfl
    · have ih := catP_at l xs m (by simpa using hm) (i + 1) hxs (by omega)
      rw [hsz] at ih
      exact ih
theorem goods_at : ∀ {l : List Nx} {i : Nat}, Goods l → i < l.length → GoodTok (l.getD i noTok) ∧ ((l.getD i noTok).kind = 1 ↔ i = l.length - 1)
  | [], _, h, _ => absurd h (by simp [Goods])
  | x :: xs, 0, h, _ => by
    refine ⟨h.1, ?_⟩
    rcases h.2 with ⟨h1, rfl⟩ | ⟨h1, h2⟩
    · exact ⟨fun _ => rfl, fun _ => h1⟩
    · cases xs with
      | nil => exact absurd h2 (by simp [Goods])
      | cons y ys => exact ⟨fun h => absurd h h1, fun h => by simp at h⟩
  | x :: xs, i + 1, h, hi => by
    rcases h.2 with ⟨h1, rfl⟩ | ⟨h1, h2⟩
    · simp at hi
    · have := goods_at (l := xs) (i := i) h2 (by simpa using hi)
      refine ⟨this.1, this.2.trans ?_⟩
      simp only [List.length_cons] at hi ⊢
      omega
theorem chain_at {s : ByteArray} : ∀ {l : List Nx} {i e : Nat}, Chain s l e → i < l.length → (if i = 0 then e else endF l i) ≤ (l.getD i noTok).pos ∧ (l.getD i noTok).pos + (l.getD i noTok).text.size ≤ s.size ∧ (l.getD i noTok).text = s.extract (l.getD i noTok).pos ((l.getD i noTok).pos + (l.getD i noTok).text.size) ∧ ((l.getD i noTok).kind = 1 → (l.getD i noTok).pos = s.size)
  | [], _, _, _, h => absurd h (by simp)
  | x :: xs, 0, e, h, _ => ⟨h.1, h.2.1, h.2.2.1, h.2.2.2.1⟩
  | x :: xs, i + 1, e, h, hi => by
    have := chain_at (l := xs) (i := i) h.2.2.2.2 (by simpa using hi)
    refine ⟨?_, this.2⟩
    rw [if_neg (by omega)]
    have h1 := this.1
    cases i with
    | zero => exact h1
    | succ j => exact h1
/-- What the i-th of a text's tokens is. -/
structure Stands (s : ByteArray) (n i : Nat) (x : Nx) (c e : Nat) : Prop where
  behind : e ≤ x.pos
  within : x.pos + x.text.size ≤ s.size
  text : x.text = s.extract x.pos (x.pos + x.text.size)
  last : x.text.size = 0 ↔ i + 1 = n
  num : numB (byt x.text) x.text.size = decide (x.kind = 3)
  val : x.kind = 3 → numV (byt x.text) x.text.size = x.num
  word : worOK (byt x.text) x.text.size = decide (x.kind = 2)
  small : c ≤ e + i
  low : i ≤ e
theorem toks_facts {s : ByteArray} (h : (toksF s).2.1 = 0) : s.size ≤ 65536 ∧ Goods (lstF s) ∧ Chain s (lstF s) 0 := by
  have hs : s.size ≤ 65536 := by
    rcases Nat.lt_or_ge 65536 s.size with g | g
    · rw [toks_long g] at h; cases h
    · exact g
  have hl : lstF s = (toksN s (s.size + 1) 0).1 := if_pos h
  have := (toks_good hs (s.size + 1) 0 (Nat.zero_le _) (by omega)).1 h
  rw [hl]
  exact ⟨hs, this⟩
theorem stands {s : ByteArray} (h : (toksF s).2.1 = 0) : ∀ i, i < (lstF s).length → Stands s (lstF s).length i ((lstF s).getD i noTok) (catP (lstF s) i).size (endF (lstF s) i) := by
  obtain ⟨hs, hG, hC⟩ := toks_facts h
  have bool : ∀ {b : Bool} {p : Prop} [Decidable p], (b = true ↔ p) → b = decide p := fun {b p} _ h => by
    cases b with
    | true => exact (decide_eq_true (h.1 rfl)).symm
    | false => exact (decide_eq_false (fun k => by have := h.2 k; cases this)).symm
  intro i hi
  have hg := goods_at hG hi
  have hc := chain_at hC hi
  have hz : ((lstF s).getD i noTok).text.size = 0 ↔ i + 1 = (lstF s).length := by
    constructor
    · intro h0
      have : ((lstF s).getD i noTok).kind = 1 := by
        rcases Decidable.em (((lstF s).getD i noTok).kind = 1) with k | k
        · exact k
        · have := hg.1.some_ k; omega
      have := hg.2.1 this; omega
    · intro h0; exact (hg.1.one (hg.2.2 (by omega))).1
  have hsm : (catP (lstF s) i).size ≤ endF (lstF s) i + i ∧ i ≤ endF (lstF s) i := by
    clear hz hg hc
    induction i with
    | zero => exact ⟨Nat.le_refl _, Nat.le_refl _⟩
    | succ j ih =>
      have ih := ih (by omega)
      have hg := goods_at hG (show j < _ by omega)
      have hc := (chain_at hC (show j < _ by omega)).1
      have hp := hg.1.some_ (fun k => by have := hg.2.1 k; omega)
      rw [catP_size]
      show _ ≤ (_ + _) + _ ∧ j + 1 ≤ _ + _
      have : endF (lstF s) j ≤ ((lstF s).getD j noTok).pos := by
        cases j with
        | zero => exact Nat.zero_le _
        | succ m => exact hc
      omega
  refine ⟨?_, hc.2.1, hc.2.2.1, hz, bool (good_numB hg.1), fun k => (hg.1.three k).2.1.symm, bool (good_worB hg.1), hsm.1, hsm.2⟩
  cases i with
  | zero => exact Nat.zero_le _
  | succ m => exact hc.1
/-- The last is the end. -/
theorem stands_end {s : ByteArray} (h : (toksF s).2.1 = 0) : 0 < (lstF s).length ∧ ((lstF s).getD ((lstF s).length - 1) noTok).kind = 1 ∧ ((lstF s).getD ((lstF s).length - 1) noTok).pos = s.size := by
  obtain ⟨hs, hG, hC⟩ := toks_facts h
  have hn : 0 < (lstF s).length := by
    cases hl : lstF s with
    | nil => rw [hl] at hG; exact absurd hG (by simp [Goods])
    | cons x xs => simp
  have hg := (goods_at hG (show (lstF s).length - 1 < _ by omega)).2.2 rfl
  exact ⟨hn, hg, (chain_at hC (show (lstF s).length - 1 < _ by omega)).2.2.2 hg⟩
/-- Where the error is told: within the text. -/
theorem stands_err (s : ByteArray) (h : (toksF s).2.1 ≠ 0) : (toksF s).2.2 ≤ s.size := by
  rcases Nat.lt_or_ge 65536 s.size with g | g
  · rw [toks_long g]; exact Nat.zero_le _
  · exact (toks_good g (s.size + 1) 0 (Nat.zero_le _) (by omega)).2
/-- Written again, with a blank behind each, they are cut into the same. -/
theorem stands_again {s : ByteArray} (h : (toksF s).2.1 = 0) (hA : (catP (lstF s) (lstF s).length).size ≤ 65536) :
    (toksF (catP (lstF s) (lstF s).length)).2.1 = 0 ∧ (lstF (catP (lstF s) (lstF s).length)).length = (lstF s).length ∧ ∀ i, i < (lstF s).length → ((lstF (catP (lstF s) (lstF s).length)).getD i noTok).kind = ((lstF s).getD i noTok).kind ∧ ((lstF (catP (lstF s) (lstF s).length)).getD i noTok).text = ((lstF s).getD i noTok).text ∧ ((lstF (catP (lstF s) (lstF s).length)).getD i noTok).num = ((lstF s).getD i noTok).num := by
  obtain ⟨hs, hG, hC⟩ := toks_facts h
  have hat := catP_at (lstF s) (lstF s) _ rfl 0 rfl (by omega)
  have hle := cat_le hat
  have ha := toks_again hA (lstF s) (catP (lstF s) 0).size 0 ((catP (lstF s) (lstF s).length).size + 1) hG hat (Nat.zero_le _) rfl (by omega)
  generalize hAA : catP (lstF s) (lstF s).length = A at *
  have hl : lstF A = (toksN A (A.size + 1) 0).1 := if_pos ha.1
  rw [← hl] at ha
  have hlen : (lstF A).length = (lstF s).length := by have := congrArg List.length ha.2; simpa using this
  refine ⟨ha.1, hlen, fun i hi => ?_⟩
  have hi2 : i < (lstF A).length := by omega
  have he := congrArg (fun l => l[i]?) ha.2
  simp only [List.getElem?_map, List.getElem?_eq_getElem hi, List.getElem?_eq_getElem hi2, Option.map_some, Option.some.injEq] at he
  simp only [List.getD_eq_getElem?_getD, List.getElem?_eq_getElem hi, List.getElem?_eq_getElem hi2, Option.getD_some]
  simp only [Nx.core, Prod.mk.injEq] at he
  exact he
/-- The same but for places. -/
def GotEq {α : Type} (g g' : Got α) : Prop := match g, g' with
  | .ok x i, .ok y j => x = y ∧ i = j
  | .bad e _, .bad e' _ => e = e'
  | .out, .out => True
  | _, _ => False
/-- The same tokens but for places. -/
structure Alike (S T : Src) : Prop where
  len : S.toks.length = T.toks.length
  err : S.err = T.err
  kind : ∀ i, (tk S i).kind = (tk T i).kind
  text : ∀ i, (tk S i).text = (tk T i).text
  num : ∀ i, (tk S i).num = (tk T i).num
theorem GotEq.andThen {α β : Type} {g g' : Got α} {f f' : α → Nat → Got β} (h : GotEq g g') (k : ∀ x j, GotEq (f x j) (f' x j)) : GotEq (g.andThen f) (g'.andThen f') := by
  rcases g with ⟨x, i⟩ | ⟨e, p⟩ | _ <;> rcases g' with ⟨y, j⟩ | ⟨e', p'⟩ | _
  · obtain ⟨rfl, rfl⟩ := h; exact k x i
  · exact h.elim
  · exact h.elim
  · exact h.elim
  · exact h
  · exact h.elim
  · exact h.elim
  · exact h.elim
  · exact h
theorem GotEq.ite {α : Type} {c c' : Prop} [Decidable c] [Decidable c'] {a b a' b' : Got α} (hc : c ↔ c') (h : GotEq a a') (k : GotEq b b') : GotEq (if c then a else b) (if c' then a' else b') := by
  by_cases hx : c
  · rw [if_pos hx, if_pos (hc.1 hx)]; exact h
  · rw [if_neg hx, if_neg (fun g => hx (hc.2 g))]; exact k
theorem GotEq.ok {α : Type} (x : α) (i : Nat) : GotEq (.ok x i) (.ok x i) := ⟨rfl, rfl⟩
section
variable {S T : Src} (h : Alike S T)
include h
theorem ge_adv {α : Type} (i : Nat) (x : α) : GotEq (adv S i x) (adv T i x) := .ite (by rw [h.len]) (.ok _ _) h.err
omit h in
theorem ge_noG {α : Type} (i : Nat) : GotEq (noG S i : Got α) (noG T i) := show (61 : Int) = 61 from rfl
theorem ge_demand (t : ByteArray) (i : Nat) : GotEq (demandG S t i) (demandG T t i) := .ite (by rw [h.text]) (ge_adv h i ()) (ge_noG i)
theorem ge_name (i : Nat) : GotEq (nameG S i) (nameG T i) := by
  unfold nameG takeG
  rw [h.kind i]
  by_cases hk : (tk T i).kind = 2
  · rw [if_pos hk, if_pos hk]
    unfold adv
    rw [h.len]
    by_cases hl : i + 1 < T.toks.length
    · rw [if_pos hl, if_pos hl]; exact ⟨h.text i, rfl⟩
    · rw [if_neg hl, if_neg hl]; exact h.err
  · rw [if_neg hk, if_neg hk]; exact rfl
theorem ge_num (i : Nat) : GotEq (numG S i) (numG T i) := by
  unfold numG takeG
  rw [h.kind i]
  by_cases hk : (tk T i).kind = 3
  · rw [if_pos hk, if_pos hk]
    unfold adv
    rw [h.len]
    by_cases hl : i + 1 < T.toks.length
    · rw [if_pos hl, if_pos hl]; exact ⟨h.num i, rfl⟩
    · rw [if_neg hl, if_neg hl]; exact h.err
  · rw [if_neg hk, if_neg hk]; exact rfl
theorem ge_verd (i : Nat) : GotEq (verdG S i) (verdG T i) := by
  unfold verdG
  rw [h.text i]
  exact .ite Iff.rfl (ge_noG i) (.andThen (ge_adv h i ()) fun _ j => .ite Iff.rfl (.andThen (ge_num h j) fun _ _ => .ok _ _) (.ok _ _))
theorem ge_call (i : Nat) : GotEq (callG S i) (callG T i) := by
  unfold callG
  rw [h.kind i]
  exact .ite Iff.rfl (.andThen (ge_num h i) fun _ _ => .ok _ _) (.andThen (ge_name h i) fun _ _ => .ok _ _)
theorem ge_mask (i : Nat) : GotEq (maskG S i) (maskG T i) := .ite (by rw [h.text]) (.andThen (ge_adv h i ()) fun _ j => ge_num h j) (.ok _ _)
theorem ge_rel (i : Nat) : GotEq (relG S i) (relG T i) := by
  unfold relG
  rw [h.text i]
  exact .ite Iff.rfl (ge_noG i) (ge_adv h i _)
theorem ge_test (i : Nat) : GotEq (testG S i) (testG T i) := by
  unfold testG
  rw [h.text i]
  exact .ite Iff.rfl (ge_noG i) (.andThen (ge_adv h i ()) fun _ j => .andThen (ge_mask h j) fun m k => .andThen (ge_rel h k) fun r l => .andThen (ge_num h l) fun v e => .ok _ _)
theorem ge_turns {α : Type} (mark : ByteArray) {item item' : Nat → Got α} (hit : ∀ i, GotEq (item i) (item' i)) : ∀ n l i, GotEq (turnsG S mark item n l i) (turnsG T mark item' n l i)
  | 0, l, i => trivial
  | n + 1, l, i => .ite (by rw [h.text]) (.andThen (ge_adv h i ()) fun _ j => .andThen (hit j) fun x k => ge_turns mark hit n _ k) (.ok _ _)
theorem ge_byTurns {α : Type} (mark : ByteArray) {item item' : Nat → Got α} (hit : ∀ i, GotEq (item i) (item' i)) (n i : Nat) : GotEq (byTurnsG S mark item n i) (byTurnsG T mark item' n i) :=
  .andThen (hit i) fun x j => ge_turns h mark hit n _ j
theorem ge_all {one one' : Nat → Got Ex} (hit : ∀ i, GotEq (one i) (one' i)) (n i : Nat) : GotEq (allG S one n i) (allG T one' n i) := .andThen (ge_byTurns h bAnd hit n i) fun _ _ => .ok _ _
theorem ge_exprH {one one' : Nat → Got Ex} (hit : ∀ i, GotEq (one i) (one' i)) (n i : Nat) : GotEq (exprH S one n i) (exprH T one' n i) := .andThen (ge_byTurns h bOr (fun i => ge_all h hit n i) n i) fun _ _ => .ok _ _
theorem ge_open (d i : Nat) : GotEq (openG S d i) (openG T d i) := .ite Iff.rfl (show (62 : Int) = 62 from rfl) (ge_adv h i ())
theorem ge_one : ∀ n d i, GotEq (oneG S n d i) (oneG T n d i)
  | 0, d, i => trivial
  | n + 1, d, i => by
    show GotEq (oneH S (oneG S n) (fun d => exprH S (oneG S n d) n) d i) (oneH T (oneG T n) (fun d => exprH T (oneG T n d) n) d i)
    unfold oneH
    rw [h.text i]
    exact .ite Iff.rfl (.andThen (ge_open h d i) fun _ j => .andThen (ge_one n (d + 1) j) fun _ _ => .ok _ _)
      (.ite Iff.rfl (.andThen (ge_open h d i) fun _ j => .andThen (ge_exprH h (fun i => ge_one n (d + 1) i) n j) fun _ k => .andThen (ge_demand h bShut k) fun _ _ => .ok _ _)
        (.ite Iff.rfl (ge_adv h i _) (.ite Iff.rfl (ge_adv h i _) (ge_test h i))))
theorem ge_expr (n d i : Nat) : GotEq (exprG S n d i) (exprG T n d i) := ge_exprH h (fun i => ge_one h n d i) n i
theorem ge_when (n i : Nat) : GotEq (whenG S n i) (whenG T n i) := .ite (by rw [h.text]) (.andThen (ge_adv h i ()) fun _ j => ge_expr h n 0 j) (.ok _ _)
theorem ge_rule (n i : Nat) : GotEq (ruleG S n i) (ruleG T n i) :=
  .andThen (ge_demand h bOn i) fun _ j => .andThen (ge_byTurns h bComma (fun i => ge_call h i) n j) fun cs k => .andThen (ge_when h n k) fun e l =>
    .andThen (ge_demand h bDo l) fun _ m => .andThen (ge_verd h m) fun v o => .andThen (ge_demand h bSemi o) fun _ p => .ok _ _
theorem ge_rules (n : Nat) : ∀ m l i, GotEq (rulesG S n m l i) (rulesG T n m l i)
  | 0, l, i => trivial
  | m + 1, l, i => .ite (by rw [h.kind]) (.ok _ _) (.ite (by rw [h.text]) (show (63 : Int) = 63 from rfl) (.andThen (ge_rule h n i) fun x j => ge_rules n m _ j))
theorem ge_policy (n i : Nat) : GotEq (policyG S n i) (policyG T n i) :=
  .andThen (ge_demand h bArch i) fun _ a => .andThen (ge_name h a) fun s b => .andThen (ge_demand h bSemi b) fun _ c =>
  .andThen (ge_demand h bForeign c) fun _ d => .andThen (ge_verd h d) fun f e => .andThen (ge_demand h bSemi e) fun _ g =>
  .andThen (ge_demand h bDefault g) fun _ k => .andThen (ge_verd h k) fun v j => .andThen (ge_demand h bSemi j) fun _ l =>
  .andThen (ge_rules h n n [] l) fun l m => .ok _ _
theorem ge_whole (n i : Nat) : GotEq (wholeG S n i) (wholeG T n i) := .andThen (ge_expr h n 0 i) fun e j => .ite (by rw [h.kind]) (.ok _ _) (ge_noG j)
theorem ge_read {α : Type} {whole whole' : Nat → Got α} (hw : ∀ i, GotEq (whole i) (whole' i)) : GotEq (readG S whole) (readG T whole') := .ite (by rw [h.len]) (hw 0) h.err
end
/-- From place o on a text is theirs, with blanks and remarks behind each. -/
def GapAt (A : ByteArray) : List Nx → Nat → Prop
  | [], o => A.size = o
  | x :: xs, o => (∀ j, j < x.text.size → byt A (o + j) = byt x.text j) ∧ byt A (o + x.text.size) = 32 ∧ ∃ o', o + x.text.size + 1 ≤ o' ∧ skipF (byt A) A.size (o + x.text.size) = skipF (byt A) A.size o' ∧ GapAt A xs o'
theorem gap_le {A : ByteArray} : ∀ {l : List Nx} {o : Nat}, GapAt A l o → o + l.length ≤ A.size
  | [], o, h => by have : A.size = o := h; simp; omega
  | x :: xs, o, ⟨_, _, o', h1, _, h2⟩ => by have := gap_le h2; simp only [List.length_cons]; omega
/-- A text of theirs is cut into the same. -/
theorem toks_gaps {A : ByteArray} (hA : A.size ≤ 65536) : ∀ (l : List Nx) (o i k : Nat), Goods l → GapAt A l o → i ≤ A.size → skipF (byt A) A.size i = skipF (byt A) A.size o → l.length ≤ k →
    (toksN A k i).2.1 = 0 ∧ (toksN A k i).1.map Nx.core = l.map Nx.core
  | [], _, _, _, hG, _, _, _, _ => absurd hG (by simp [Goods])
  | x :: xs, o, i, 0, _, _, _, _, hk => by simp at hk
  | x :: xs, o, i, k + 1, hG, ⟨hC1, hC2, o', ho, hsk2, hC3⟩, hi, hsk, hk => by
    have hlen := gap_le hC3
    have hn := next_in hA hi
    rw [hsk] at hn
    rcases hG.2 with ⟨h1, h2⟩ | ⟨h1, h2⟩
    · subst h2
      have hz := (hG.1.one h1).1
      have hc : A.size = o' := hC3
      rw [hz] at hsk2
      rw [show o = o + 0 from rfl, hsk2, ← hc, skip_end (Nat.lt_irrefl _), end_tok] at hn
      have e1 : ¬ (nextF A (i : Int)).err ≠ 0 := by rw [hn]; simp
      have e2 : (nextF A (i : Int)).kind = 1 := by rw [hn]
      simp only [toksN, if_neg e1, if_pos e2]
      refine ⟨trivial, ?_⟩
      rw [hn]
      have ht : x.text = ⟨#[]⟩ := byt_ext (by rw [hz]; rfl) (fun j hj => by omega)
      simp only [List.map_cons, List.map_nil, Nx.core, h1, (hG.1.one h1).2, ht]
    · have ha := tok_again hG.1 h1 hC1 hC2 (by omega)
      rw [ha.1, ha.2] at hn
      have e1 : ¬ (nextF A (i : Int)).err ≠ 0 := by rw [hn]; simp
      have e2 : ¬ (nextF A (i : Int)).kind = 1 := by rw [hn]; exact h1
      simp only [toksN, if_neg e1, if_neg e2]
      have en : (nextF A (i : Int)).next = o + x.text.size := by rw [hn]
      rw [en]
      have ih := toks_gaps hA xs o' (o + x.text.size) k h2 hC3 (by omega) hsk2 (by simpa using hk)
      refine ⟨ih.1, ?_⟩
      rw [List.map_cons, List.map_cons, ih.2, hn]; rfl
theorem core_at {l l' : List Nx} (h : l.map Nx.core = l'.map Nx.core) (i : Nat) : (l.getD i noT).kind = (l'.getD i noT).kind ∧ (l.getD i noT).text = (l'.getD i noT).text ∧ (l.getD i noT).num = (l'.getD i noT).num := by
  have hlen : l.length = l'.length := by have := congrArg List.length h; simpa using this
  by_cases hi : i < l.length
  · have hi2 : i < l'.length := by omega
    have he := congrArg (fun l => l[i]?) h
    simp only [List.getElem?_map, List.getElem?_eq_getElem hi, List.getElem?_eq_getElem hi2, Option.map_some, Option.some.injEq] at he
    simp only [List.getD_eq_getElem?_getD, List.getElem?_eq_getElem hi, List.getElem?_eq_getElem hi2, Option.getD_some]
    simp only [Nx.core, Prod.mk.injEq] at he
    exact he
  · have e1 : l.getD i noT = noT := by rw [List.getD_eq_getElem?_getD, List.getElem?_eq_none (by omega)]; rfl
    have e2 : l'.getD i noT = noT := by rw [List.getD_eq_getElem?_getD, List.getElem?_eq_none (by omega)]; rfl
    rw [e1, e2]; exact ⟨rfl, rfl, rfl⟩
theorem alike_gaps {s A : ByteArray} (hs : s.size ≤ 65536) (h0 : (toksF s).2.1 = 0) (hA : A.size ≤ 65536) (hG : GapAt A (toksF s).1 0) : Alike (srcF s) (srcF A) := by
  have hg := (toks_good hs (s.size + 1) 0 (Nat.zero_le _) (by omega)).1 h0
  have ha := toks_gaps hA (toksF s).1 0 0 (A.size + 1) hg.1 hG (Nat.zero_le _) rfl (by have := gap_le hG; omega)
  have hc : (srcF s).toks.map Nx.core = (srcF A).toks.map Nx.core := ha.2.symm
  exact ⟨by have := congrArg List.length hc; simpa using this, h0.trans ha.1.symm, fun i => (core_at hc i).1, fun i => (core_at hc i).2.1, fun i => (core_at hc i).2.2⟩
/-- A text of blanks and remarks: whatever reads on goes over it. -/
def SkipOK (t : ByteArray) : Prop := ∀ (A : ByteArray) (p : Nat), (∀ j, j < t.size → byt A (p + j) = byt t j) → p + t.size ≤ A.size → skipF (byt A) A.size p = skipF (byt A) A.size (p + t.size)
theorem skip_ok_nil : SkipOK ⟨#[]⟩ := fun A p _ _ => rfl
theorem skip_ok_append {s t : ByteArray} (hs : SkipOK s) (ht : SkipOK t) : SkipOK (s ++ t) := fun A p hb hl => by
  rw [size_append5] at hl
  have h1 := hs A p (fun j hj => by
    rw [hb j (by rw [size_append5]; omega), byt_append, if_pos hj]) (by omega)
  have h2 := ht A (p + s.size) (fun j hj => by
    have := hb (s.size + j) (by rw [size_append5]; omega)
    rw [byt_append, if_neg (by omega), Nat.add_sub_cancel_left] at this
    rw [show p + s.size + j = p + (s.size + j) by omega]; exact this) (by omega)
  rw [h1, h2, size_append5, Nat.add_assoc]
theorem skip_ok_one {c : UInt8} (hc : blaB c.toNat = true) : SkipOK ⟨#[c]⟩ := fun A p hb hl => by
  have h0 : byt A (p + 0) = c.toNat := hb 0 (show 0 < 1 by decide)
  have hl : p + 1 ≤ A.size := hl
  exact skip_blank (by omega) (by rw [show p = p + 0 from rfl, h0]; exact hc)
/-- What the law puts behind a token, byte by byte. -/
def gapN : ByteArray := ⟨#[10]⟩
def gapT : ByteArray := ⟨#[9, 13]⟩
def gapR : ByteArray := ⟨#[35, 32, 97, 114, 99, 104, 32, 59, 32, 111, 110, 10]⟩
theorem skip_gapN : SkipOK gapN := skip_ok_one (by decide)
theorem skip_gapT : SkipOK gapT := by
  have : gapT = ⟨#[9]⟩ ++ ⟨#[13]⟩ := rfl
  rw [this]; exact skip_ok_append (skip_ok_one (by decide)) (skip_ok_one (by decide))
theorem skip_gapR : SkipOK gapR := fun A p hb hl => by
  have hl : p + 12 ≤ A.size := hl
  have h0 : byt A (p + 0) = 35 := hb 0 (by decide)
  have h11 : byt A (p + 11) = 10 := hb 11 (by decide)
  have hu : upTo linB (byt A) A.size (p + 1) = p + 11 := upTo_is (by omega) (by omega) (fun j h1 h2 => by
    obtain ⟨q, rfl⟩ : ∃ q, j = p + q := ⟨j - p, by omega⟩
    have hq : byt A (p + q) = byt gapR q := hb q (show q < 12 by omega)
    rw [hq]
    have : q = 1 ∨ q = 2 ∨ q = 3 ∨ q = 4 ∨ q = 5 ∨ q = 6 ∨ q = 7 ∨ q = 8 ∨ q = 9 ∨ q = 10 := by omega
    rcases this with rfl | rfl | rfl | rfl | rfl | rfl | rfl | rfl | rfl | rfl <;> rfl) (fun h => by rw [h11] at h; exact absurd h.2 (by decide))
  rw [skip_remark (by omega) (by rw [show p = p + 0 from rfl, h0]), hu, skip_blank (by omega) (by rw [h11]; decide)]
  rfl
def gapB (c : Nat) : ByteArray := if c % 4 = 0 then gapN else if c % 4 = 1 then gapT else if c % 4 = 2 then gapR else ⟨#[]⟩
theorem skip_gapB (c : Nat) : SkipOK (gapB c) := by
  unfold gapB
  split
  · exact skip_gapN
  · split
    · exact skip_gapT
    · split
      · exact skip_gapR
      · exact skip_ok_nil
/-- .. of the first k bytes of a text. -/
def gapF (t : ByteArray) : Nat → ByteArray
  | 0 => ⟨#[]⟩
  | k + 1 => gapF t k ++ gapB (byt t k)
theorem skip_gapF (t : ByteArray) : ∀ k, SkipOK (gapF t k)
  | 0 => skip_ok_nil
  | k + 1 => skip_ok_append (skip_gapF t k) (skip_gapB _)
/-- The texts of the first i tokens, a blank and a gap behind each. -/
def catG (l : List Nx) (g : Nat → ByteArray) : Nat → ByteArray
  | 0 => ⟨#[]⟩
  | i + 1 => catG l g i ++ (l.getD i noT).text ++ ⟨#[32]⟩ ++ g i
theorem catG_size (l : List Nx) (g : Nat → ByteArray) (i : Nat) : (catG l g (i + 1)).size = (catG l g i).size + (l.getD i noT).text.size + 1 + (g i).size := by
  show (_ ++ _ ++ _ ++ _ : ByteArray).size = _
  rw [size_append5, size_append5, size_append5]; rfl
theorem catG_mono (l : List Nx) (g : Nat → ByteArray) (i : Nat) : ∀ m, (catG l g i).size ≤ (catG l g (i + m)).size ∧ ∀ j, j < (catG l g i).size → byt (catG l g (i + m)) j = byt (catG l g i) j
  | 0 => ⟨Nat.le_refl _, fun _ _ => rfl⟩
  | m + 1 => by
    have ih := catG_mono l g i m
    refine ⟨by rw [show i + (m + 1) = i + m + 1 by omega, catG_size]; omega, fun j hj => ?_⟩
    show byt (catG l g (i + m) ++ _ ++ _ ++ _) j = _
    rw [byt_append, if_pos (by rw [size_append5, size_append5]; omega), byt_append, if_pos (by rw [size_append5]; omega), byt_append, if_pos (by omega)]
    exact ih.2 j hj
theorem catG_at (l : List Nx) (g : Nat → ByteArray) (hg : ∀ i, SkipOK (g i)) : ∀ r m, r.length = m → ∀ i, l.drop i = r → i + m = l.length → GapAt (catG l g l.length) r (catG l g i).size
  | [], 0, _, i, _, he => by show (catG l g l.length).size = _; rw [← he]; rfl
  | x :: xs, m + 1, hm, i, hd, he => by
    have hi : i < l.length := by omega
    have hx : l.getD i noT = x := by
      rw [List.getD_eq_getElem?_getD, List.getElem?_eq_getElem hi]
      rw [List.drop_eq_getElem_cons hi] at hd
      exact (List.cons.inj hd).1
    have hxs : l.drop (i + 1) = xs := by
      rw [List.drop_eq_getElem_cons hi] at hd
      exact (List.cons.inj hd).2
    have hsz := catG_size l g i
    rw [hx] at hsz
    have hmo := catG_mono l g (i + 1) m
    rw [show i + 1 + m = l.length by omega] at hmo
    have hC : catG l g (i + 1) = catG l g i ++ x.text ++ ⟨#[32]⟩ ++ g i := by rw [← hx]; rfl
    have hle : (catG l g (i + 1)).size ≤ (catG l g l.length).size := hmo.1
    have h32 : byt (catG l g l.length) ((catG l g i).size + x.text.size) = 32 := by
      rw [hmo.2 _ (by omega), hC, byt_append, if_pos (by rw [size_append5, size_append5]; show _ < _ + _ + 1; omega), byt_append, if_neg (by rw [size_append5]; omega), size_append5, Nat.sub_self]; rfl
    refine ⟨fun j hj => ?_, h32, (catG l g (i + 1)).size, by omega, ?_, catG_at l g hg xs m (by simpa using hm) (i + 1) hxs (by omega)⟩
    · rw [hmo.2 _ (by omega), hC, byt_append, if_pos (by rw [size_append5, size_append5]; show _ < _ + _ + 1; omega), byt_append, if_pos (by rw [size_append5]; omega), byt_append, if_neg (by omega)]
      congr 1; omega
    · rw [skip_blank (by omega) (by rw [h32]; decide)]
      have := hg i (catG l g l.length) ((catG l g i).size + x.text.size + 1) (fun j hj => by
        rw [hmo.2 _ (by omega), hC, byt_append, if_neg (by rw [size_append5, size_append5]; show ¬ _ < _ + _ + 1; omega)]
        congr 1
        rw [size_append5, size_append5]; show _ - (_ + _ + 1) = _; omega) (by omega)
      rw [this, hsz]
/-- Two texts with the same tokens are read alike. -/
theorem spaced_alike {s : ByteArray} (hs : s.size ≤ 65536) (h0 : (toksF s).2.1 = 0) (g : Nat → ByteArray) (hg : ∀ i, SkipOK (g i)) (hA : (catG (toksF s).1 g (toksF s).1.length).size ≤ 65536) :
    Alike (srcF s) (srcF (catG (toksF s).1 g (toksF s).1.length)) :=
  alike_gaps hs h0 hA (catG_at (toksF s).1 g hg (toksF s).1 _ rfl 0 rfl (by omega))
end Go.Proofs.Ytmmfbeebjehkgaa

/-
  What a text's tokens are, and that their texts, with a blank behind each, are cut into the same, as plain facts. No condition: nothing here speaks of a program of Go's.
-/
import Derived.Test.YtgeapkjegemkeaaDoorLexSpec
namespace Go.Proofs.YtgeapkjegemkeaaDoor
set_option linter.unusedSimpArgs false
set_option linter.unusedVariables false

theorem byt_list (s : ByteArray) (i : Nat) : byt s i = (s.data.toList.getD i 0).toNat := by
  unfold byt
  by_cases h : i < s.size
  · rw [dif_pos h, List.getD_eq_getElem?_getD, List.getElem?_eq_getElem (by simpa using h)]; rfl
  · rw [dif_neg h, List.getD_eq_getElem?_getD, List.getElem?_eq_none (by simpa using Nat.le_of_not_lt h)]; rfl
theorem size_list (s : ByteArray) : s.size = s.data.toList.length := by simp
theorem byt_ext {s t : ByteArray} (h : s.size = t.size) (hb : ∀ i, i < s.size → byt s i = byt t i) : s = t := by
  have : s.data.toList = t.data.toList := by
    refine List.ext_getElem (by rw [← size_list, ← size_list, h]) fun i h1 h2 => ?_
    have := hb i (by rw [size_list]; exact h1)
    rw [byt_list, byt_list, List.getD_eq_getElem?_getD, List.getD_eq_getElem?_getD, List.getElem?_eq_getElem h1, List.getElem?_eq_getElem h2] at this
    exact UInt8.toNat_inj.1 this
  cases s; cases t
  simp only [ByteArray.mk.injEq] at *
  exact Array.toList_inj.1 this
theorem byt_extract (s : ByteArray) (a b j : Nat) (hb : b ≤ s.size) (hj : j < b - a) : byt (s.extract a b) j = byt s (a + j) := by
  rw [byt_list, byt_list, ByteArray.data_extract, Array.toList_extract]
  rw [List.getD_eq_getElem?_getD, List.getD_eq_getElem?_getD]
  congr 2
  rw [List.extract_eq_take_drop, List.getElem?_take, if_pos hj, List.getElem?_drop]
theorem size_extract5 (s : ByteArray) (a b : Nat) (hb : b ≤ s.size) : (s.extract a b).size = b - a := by
  rw [ByteArray.size_extract, Nat.min_eq_left hb]
theorem byt_append (s t : ByteArray) (i : Nat) : byt (s ++ t) i = if i < s.size then byt s i else byt t (i - s.size) := by
  rw [byt_list, byt_list, byt_list]
  have h : (s ++ t).data.toList = s.data.toList ++ t.data.toList := by rw [ByteArray.data_append, Array.toList_append]
  rw [h, List.getD_eq_getElem?_getD, List.getElem?_append, ← size_list]
  split
  · rw [List.getD_eq_getElem?_getD]
  · rw [List.getD_eq_getElem?_getD]
theorem size_append5 (s t : ByteArray) : (s ++ t).size = s.size + t.size := by
  rw [ByteArray.size_append]

/-- What a token is, by its text alone. -/
structure GoodTok (x : Nx) : Prop where
  kinds : x.kind = 1 ∨ x.kind = 2 ∨ x.kind = 3 ∨ x.kind = 4
  one : x.kind = 1 → x.text.size = 0 ∧ x.num = 0
  some_ : x.kind ≠ 1 → 0 < x.text.size
  two : x.kind = 2 → worOK (byt x.text) x.text.size = true ∧ x.num = 0
  three : x.kind = 3 → numB (byt x.text) x.text.size = true ∧ x.num = numV (byt x.text) x.text.size ∧ digB (byt x.text 0) = true ∧ letB (byt x.text 0) = false ∧ upTo worB (byt x.text) x.text.size 0 = x.text.size
  four : x.kind = 4 → sigF (byt x.text) x.text.size 0 = x.text.size ∧ x.num = 0 ∧ letB (byt x.text 0) = false ∧ digB (byt x.text 0) = false
theorem let_dig {c : Nat} (h : digB c = true) : letB c = false := by
  have := of_decide_eq_true h
  exact decide_eq_false (by omega)
theorem sig_at {f : Nat → Nat} {n i : Nat} (h : sigF f n i ≠ 0) : f i ≠ 35 ∧ blaB (f i) = false ∧ (f i = 59 ∨ f i = 44 ∨ f i = 40 ∨ f i = 41 ∨ f i = 38 ∨ f i = 60 ∨ f i = 62 ∨ f i = 61 ∨ f i = 33) := by
  have hc : f i = 59 ∨ f i = 44 ∨ f i = 40 ∨ f i = 41 ∨ f i = 38 ∨ f i = 60 ∨ f i = 62 ∨ f i = 61 ∨ f i = 33 := by
    unfold sigF at h
    by_cases h1 : f i = 59 ∨ f i = 44 ∨ f i = 40 ∨ f i = 41 ∨ f i = 38
    · omega
    rw [if_neg h1] at h
    by_cases h2 : f i = 60 ∨ f i = 62
    · omega
    rw [if_neg h2] at h
    by_cases h3 : f i = 61 ∨ f i = 33
    · omega
    rw [if_neg h3] at h; exact absurd rfl h
  exact ⟨by omega, decide_eq_false (by omega), hc⟩
/-- The sign's length hangs on its own bytes and the one behind. -/
theorem sig_same {f g : Nat → Nat} {n m i j : Nat} (h0 : f i = g j) (h1 : (i + 1 < n ∧ f (i + 1) = 61) ↔ (j + 1 < m ∧ g (j + 1) = 61)) : sigF f n i = sigF g m j := by
  have e : ∀ a b : Nat, (if i + 1 < n ∧ f (i + 1) = 61 then a else b) = (if j + 1 < m ∧ g (j + 1) = 61 then a else b) := fun a b => by
    by_cases h : j + 1 < m ∧ g (j + 1) = 61
    · rw [if_pos h, if_pos (h1.2 h)]
    · rw [if_neg h, if_neg (fun k => h (h1.1 k))]
  unfold sigF
  rw [h0, e, e]
theorem sig_cases (f : Nat → Nat) (n i : Nat) : sigF f n i = 0 ∨ sigF f n i = 1 ∨ (sigF f n i = 2 ∧ i + 1 < n ∧ f (i + 1) = 61) := by
  unfold sigF
  split
  · exact .inr (.inl rfl)
  · split
    · split
      · rename_i h; exact .inr (.inr ⟨rfl, h⟩)
      · exact .inr (.inl rfl)
    · split
      · split
        · rename_i h; exact .inr (.inr ⟨rfl, h⟩)
        · exact .inl rfl
      · exact .inl rfl
theorem sig_one {f : Nat → Nat} {n i : Nat} (h : sigF f n i = 1) : (f i = 59 ∨ f i = 44 ∨ f i = 40 ∨ f i = 41 ∨ f i = 38) ∨ ((f i = 60 ∨ f i = 62) ∧ ¬ (i + 1 < n ∧ f (i + 1) = 61)) := by
  unfold sigF at h
  by_cases h1 : f i = 59 ∨ f i = 44 ∨ f i = 40 ∨ f i = 41 ∨ f i = 38
  · exact .inl h1
  rw [if_neg h1] at h
  by_cases h2 : f i = 60 ∨ f i = 62
  · rw [if_pos h2] at h
    by_cases h3 : i + 1 < n ∧ f (i + 1) = 61
    · rw [if_pos h3] at h; cases h
    · exact .inr ⟨h2, h3⟩
  · rw [if_neg h2] at h
    by_cases h3 : f i = 61 ∨ f i = 33
    · rw [if_pos h3] at h; split at h <;> cases h
    · rw [if_neg h3] at h; cases h
/-- Every token that is told is one. -/
theorem tok_good {s : ByteArray} {i : Nat} (hi : i ≤ s.size) (he : (tokF s i).err = 0) : GoodTok (tokF s i) ∧ (tokF s i).pos = i ∧ (tokF s i).next = i + (tokF s i).text.size ∧ (tokF s i).next ≤ s.size ∧ (tokF s i).text = s.extract i (tokF s i).next := by
  unfold tokF at he ⊢
  by_cases h0 : i = s.size
  · rw [if_pos h0]
    exact ⟨⟨.inl rfl, fun _ => ⟨rfl, rfl⟩, (fun h => absurd rfl h), (fun h => by simp at h), (fun h => by simp at h), (fun h => by simp at h)⟩, rfl, rfl, hi, byt_ext (by rw [size_extract5 _ _ _ hi]; show 0 = i - i; omega) (fun j hj => by exact absurd hj (Nat.not_lt_zero _))⟩
  rw [if_neg h0] at he ⊢
  have hlt : i < s.size := by omega
  have hle := upTo_le worB (byt s) s.size i hi
  have hall := upTo_all worB (byt s) s.size i
  have hsz : (s.extract i (upTo worB (byt s) s.size i)).size = upTo worB (byt s) s.size i - i := size_extract5 _ _ _ hle
  have hby : ∀ j, j < upTo worB (byt s) s.size i - i → byt (s.extract i (upTo worB (byt s) s.size i)) j = byt s (i + j) := fun j hj => byt_extract s _ _ j hle hj
  have hgt : worB (byt s i) = true → i < upTo worB (byt s) s.size i := fun h => by
    rw [upTo_on hlt h]; have := upTo_ge worB (byt s) s.size (i + 1); omega
  have hup : i < upTo worB (byt s) s.size i → upTo worB (byt (s.extract i (upTo worB (byt s) s.size i))) (upTo worB (byt s) s.size i - i) 0 = upTo worB (byt s) s.size i - i := fun h => upTo_is (Nat.zero_le _) (Nat.le_refl _) (fun j _ hj => by rw [hby j hj]; exact hall (i + j) (by omega) (by omega)) (fun g => by omega)
  by_cases h1 : letB (byt s i) = true
  · rw [if_pos h1] at he ⊢
    have hw := hgt (by unfold worB; rw [h1]; rfl)
    by_cases h2 : 32 < upTo worB (byt s) s.size i - i
    · rw [if_pos h2] at he; cases he
    · rw [if_neg h2]
      refine ⟨⟨.inr (.inl rfl), (fun h => by simp at h), (fun _ => by show 0 < ByteArray.size _; rw [hsz]; omega), fun _ => ⟨?_, rfl⟩, (fun h => by simp at h), (fun h => by simp at h)⟩, rfl, (by show _ = i + ByteArray.size _; rw [hsz]; show upTo worB (byt s) s.size i = _; omega), hle, rfl⟩
      show worOK _ (ByteArray.size _) = true
      rw [hsz]
      exact decide_eq_true ⟨by omega, by omega, by rw [hby 0 (by omega)]; exact h1, hup hw⟩
  rw [if_neg h1] at he ⊢
  have h1' : letB (byt s i) = false := by cases h : letB (byt s i) <;> simp_all
  by_cases h3 : digB (byt s i) = true
  · rw [if_pos h3] at he ⊢
    have hw := hgt (by unfold worB; rw [h3]; simp)
    by_cases h4 : numB (byt (s.extract i (upTo worB (byt s) s.size i))) (upTo worB (byt s) s.size i - i) = false
    · rw [if_pos h4] at he; cases he
    · rw [if_neg h4]
      refine ⟨⟨.inr (.inr (.inl rfl)), (fun h => by simp at h), (fun _ => by show 0 < ByteArray.size _; rw [hsz]; omega), (fun h => by simp at h), fun _ => ?_, (fun h => by simp at h)⟩, rfl, (by show _ = i + ByteArray.size _; rw [hsz]; show upTo worB (byt s) s.size i = _; omega), hle, rfl⟩
      show numB _ (ByteArray.size _) = true ∧ numV _ _ = numV _ (ByteArray.size _) ∧ digB (byt (s.extract i _) 0) = true ∧ letB (byt (s.extract i _) 0) = false ∧ upTo worB _ (ByteArray.size _) 0 = ByteArray.size _
      rw [hsz, hby 0 (by omega)]
      exact ⟨by cases h : numB (byt (s.extract i (upTo worB (byt s) s.size i))) (upTo worB (byt s) s.size i - i) <;> simp_all, rfl, h3, h1', hup hw⟩
  rw [if_neg h3] at he ⊢
  have h3' : digB (byt s i) = false := by cases h : digB (byt s i) <;> simp_all
  by_cases h5 : sigF (byt s) s.size i = 0
  · rw [if_pos h5] at he; cases he
  rw [if_neg h5]
  have hsl := sig_le (f := byt s) hlt
  have hz : (s.extract i (i + sigF (byt s) s.size i)).size = sigF (byt s) s.size i := by rw [size_extract5 _ _ _ hsl]; omega
  have hb2 : ∀ j, j < sigF (byt s) s.size i → byt (s.extract i (i + sigF (byt s) s.size i)) j = byt s (i + j) := fun j hj => byt_extract s _ _ j hsl (by omega)
  refine ⟨⟨.inr (.inr (.inr rfl)), (fun h => by simp at h), (fun _ => by show 0 < ByteArray.size _; rw [hz]; omega), (fun h => by simp at h), (fun h => by simp at h), fun _ => ?_⟩, rfl, (by show _ = i + ByteArray.size _; rw [hz]), hsl, rfl⟩
  show sigF _ (ByteArray.size _) 0 = ByteArray.size _ ∧ _ = 0 ∧ letB (byt (s.extract i _) 0) = false ∧ digB (byt (s.extract i _) 0) = false
  rw [hz, hb2 0 (by omega)]
  refine ⟨?_, rfl, h1', h3'⟩
  have h0' : byt (s.extract i (i + sigF (byt s) s.size i)) 0 = byt s i := hb2 0 (by omega)
  rcases sig_cases (byt s) s.size i with g | g | ⟨g, g1, g2⟩
  · exact absurd g h5
  · rw [g] at h0' ⊢
    rcases sig_one g with k | ⟨k, _⟩
    · unfold sigF; rw [h0', if_pos k]
    · unfold sigF; rw [h0', if_neg (by omega), if_pos k, if_neg (by omega)]
  · rw [g] at h0' hb2 ⊢
    have h1b : byt (s.extract i (i + 2)) 1 = 61 := by rw [hb2 1 (by decide), g2]
    have := sig_same (f := byt (s.extract i (i + 2))) (g := byt s) (n := 2) (m := s.size) (i := 0) (j := i) h0' ⟨fun _ => ⟨g1, g2⟩, fun _ => ⟨by decide, h1b⟩⟩
    rw [this, g]

theorem let_skip {c : Nat} (h : letB c = true) : c ≠ 35 ∧ blaB c = false := by
  have := of_decide_eq_true h
  exact ⟨by omega, decide_eq_false (by omega)⟩
theorem dig_skip {c : Nat} (h : digB c = true) : c ≠ 35 ∧ blaB c = false := by
  have := of_decide_eq_true h
  exact ⟨by omega, decide_eq_false (by omega)⟩
/-- A token's text, with a blank behind it, is cut into the same token. -/
theorem tok_again {x : Nx} (g : GoodTok x) (hk : x.kind ≠ 1) {A : ByteArray} {o : Nat} (hb : ∀ j, j < x.text.size → byt A (o + j) = byt x.text j) (hs : byt A (o + x.text.size) = 32) (hlt : o + x.text.size < A.size) :
    skipF (byt A) A.size o = o ∧ tokF A o = ⟨x.kind, x.text, x.num, o, o + x.text.size, 0⟩ := by
  have hpos := g.some_ hk
  have h0 : byt A o = byt x.text 0 := hb 0 hpos
  have hex : A.extract o (o + x.text.size) = x.text := byt_ext (by rw [size_extract5 _ _ _ (by omega)]; omega) (fun j hj => by
    rw [size_extract5 _ _ _ (by omega)] at hj
    rw [byt_extract _ _ _ _ (by omega) hj]; exact hb j (by omega))
  have hup : upTo worB (byt x.text) x.text.size 0 = x.text.size → upTo worB (byt A) A.size o = o + x.text.size := fun h => by
    refine upTo_is (by omega) (by omega) (fun j h1 h2 => ?_) (fun h' => ?_)
    · have := upTo_all worB (byt x.text) x.text.size 0 (j - o) (by omega) (by omega)
      rw [← hb (j - o) (by omega), show o + (j - o) = j by omega] at this; exact this
    · rw [hs] at h'; exact absurd h'.2 (by decide)
  have hno : o ≠ A.size := by omega
  rcases g.kinds with k | k | k | k
  · exact absurd k hk
  · obtain ⟨h2, h3⟩ := g.two k
    have h4 := of_decide_eq_true h2
    have hl : letB (byt A o) = true := by rw [h0]; exact h4.2.2.1
    refine ⟨skip_stop (let_skip hl).1 (let_skip hl).2, ?_⟩
    unfold tokF
    rw [if_neg hno, if_pos hl, hup h4.2.2.2, if_neg (by omega), hex, k, h3]
  · obtain ⟨h2, h3, h4, h5, h6⟩ := g.three k
    have hd : digB (byt A o) = true := by rw [h0]; exact h4
    have hl : letB (byt A o) = false := by rw [h0]; exact h5
    refine ⟨skip_stop (dig_skip hd).1 (dig_skip hd).2, ?_⟩
    unfold tokF
    rw [if_neg hno, if_neg (by rw [hl]; decide), if_pos hd, hup h6, hex, show o + x.text.size - o = x.text.size by omega, if_neg (by rw [h2]; decide), k, h3]
  · obtain ⟨h2, h3, h4, h5⟩ := g.four k
    have hl : letB (byt A o) = false := by rw [h0]; exact h4
    have hd : digB (byt A o) = false := by rw [h0]; exact h5
    have hn : sigF (byt A) A.size o = x.text.size := by
      rw [← h2]
      refine (sig_same (f := byt x.text) (g := byt A) (i := 0) (j := o) h0.symm ⟨fun h => ⟨by omega, ?_⟩, fun h => ?_⟩).symm.trans h2 |>.trans h2.symm
      · rw [hb 1 (by omega)]; exact h.2
      · rcases sig_cases (byt x.text) x.text.size 0 with c | c | ⟨c, c1, c2⟩
        · omega
        · rw [h2] at c; rw [c] at hs; rw [hs] at h; exact absurd h.2 (by decide)
        · exact ⟨c1, c2⟩
    have hq := sig_at (f := byt A) (n := A.size) (i := o) (by rw [hn]; omega)
    refine ⟨skip_stop hq.1 hq.2.1, ?_⟩
    unfold tokF
    rw [if_neg hno, if_neg (by rw [hl]; decide), if_neg (by rw [hd]; decide), hn, if_neg (by omega), hex, k, h3]
theorem end_tok (A : ByteArray) : tokF A A.size = ⟨1, ⟨#[]⟩, 0, A.size, A.size, 0⟩ := by
  unfold tokF; rw [if_pos rfl]

/-- Tokens, the last of them the end. -/
def Goods : List Nx → Prop
  | [] => False
  | x :: xs => GoodTok x ∧ ((x.kind = 1 ∧ xs = []) ∨ (x.kind ≠ 1 ∧ Goods xs))
/-- From place e on they stand in s, one behind the other, the end at the end. -/
def Chain (s : ByteArray) : List Nx → Nat → Prop
  | [], _ => True
  | x :: xs, e => e ≤ x.pos ∧ x.pos + x.text.size ≤ s.size ∧ x.text = s.extract x.pos (x.pos + x.text.size) ∧ (x.kind = 1 → x.pos = s.size) ∧ Chain s xs (x.pos + x.text.size)
/-- From place o on a text is theirs, with a blank behind each. -/
def CatAt (A : ByteArray) : List Nx → Nat → Prop
  | [], o => A.size = o
  | x :: xs, o => (∀ j, j < x.text.size → byt A (o + j) = byt x.text j) ∧ byt A (o + x.text.size) = 32 ∧ CatAt A xs (o + x.text.size + 1)
theorem cat_le {A : ByteArray} : ∀ {l : List Nx} {o : Nat}, CatAt A l o → o + l.length ≤ A.size
  | [], o, h => by have : A.size = o := h; simp; omega
  | x :: xs, o, h => by have := cat_le h.2.2; simp only [List.length_cons]; omega
theorem next_err {s : ByteArray} {i : Nat} (hs : s.size ≤ 65536) (hi : i ≤ s.size) : (nextF s (i : Int)).next ≤ s.size := by
  rw [next_in hs hi]
  have hk := skip_le (byt s) s.size i hi
  generalize skipF (byt s) s.size i = q at hk ⊢
  unfold tokF
  by_cases h0 : q = s.size
  · rw [if_pos h0]; exact hk
  rw [if_neg h0]
  have hle := upTo_le worB (byt s) s.size q hk
  split
  · split
    · exact hk
    · exact hle
  · split
    · split
      · exact hk
      · exact hle
    · split
      · exact hk
      · exact sig_le (by omega)
/-- All tokens of a text are such. -/
theorem toks_good {s : ByteArray} (hs : s.size ≤ 65536) : ∀ k i, i ≤ s.size → s.size - i < k →
    ((toksN s k i).2.1 = 0 → Goods (toksN s k i).1 ∧ Chain s (toksN s k i).1 i) ∧ ((toksN s k i).2.2 ≤ s.size)
  | 0, i, hi, hk => by omega
  | k + 1, i, hi, hk => by
    have hne := next_err hs hi
    by_cases h1 : (nextF s (i : Int)).err ≠ 0
    · simp only [toksN, if_pos h1]
      exact ⟨fun h => absurd h h1, hne⟩
    have h1' : (nextF s (i : Int)).err = 0 := by omega
    have hq := skip_le (byt s) s.size i hi
    have hg := skip_ge (byt s) s.size i
    have hn := next_in hs hi
    have hT := tok_good hq (by rw [← hn]; exact h1')
    rw [← hn] at hT
    obtain ⟨hT1, hT2, hT3, hT4, hT5⟩ := hT
    have hend : (nextF s (i : Int)).kind = 1 → (nextF s (i : Int)).pos = s.size := fun h => by
      rw [hT2]
      by_cases h0 : skipF (byt s) s.size i = s.size
      · exact h0
      exfalso
      rw [hn] at h
      unfold tokF at h
      rw [if_neg h0] at h
      split at h
      · split at h <;> simp [Nx.fail] at h
      · split at h
        · split at h <;> simp [Nx.fail] at h
        · split at h <;> simp [Nx.fail] at h
    have hx : i ≤ (nextF s (i : Int)).pos ∧ (nextF s (i : Int)).pos + (nextF s (i : Int)).text.size ≤ s.size ∧ (nextF s (i : Int)).text = s.extract (nextF s (i : Int)).pos ((nextF s (i : Int)).pos + (nextF s (i : Int)).text.size) ∧ ((nextF s (i : Int)).kind = 1 → (nextF s (i : Int)).pos = s.size) :=
      ⟨by omega, by rw [hT2]; omega, by rw [hT2, ← hT3]; exact hT5, hend⟩
    by_cases h2 : (nextF s (i : Int)).kind = 1
    · simp only [toksN, if_neg h1, if_pos h2]
      exact ⟨fun _ => ⟨⟨hT1, .inl ⟨h2, rfl⟩⟩, hx.1, hx.2.1, hx.2.2.1, hx.2.2.2, trivial⟩, Nat.zero_le _⟩
    · simp only [toksN, if_neg h1, if_neg h2]
      have hgo := next_goes hs hi h1' h2
      have ih := toks_good hs k (nextF s (i : Int)).next hgo.2 (by omega)
      refine ⟨fun h => ?_, ih.2⟩
      have ih1 := ih.1 h
      refine ⟨⟨hT1, .inr ⟨h2, ih1.1⟩⟩, hx.1, hx.2.1, hx.2.2.1, hx.2.2.2, ?_⟩
      rw [show (nextF s (i : Int)).pos + (nextF s (i : Int)).text.size = (nextF s (i : Int)).next by rw [hT2, hT3]]
      exact ih1.2
/-- What a token keeps when it is written again. -/
def Nx.core (x : Nx) : Int × ByteArray × Nat := (x.kind, x.text, x.num)
/-- A text of theirs is cut into the same. -/
theorem toks_again {A : ByteArray} (hA : A.size ≤ 65536) : ∀ (l : List Nx) (o i k : Nat), Goods l → CatAt A l o → i ≤ A.size → skipF (byt A) A.size i = skipF (byt A) A.size o → l.length ≤ k →
    (toksN A k i).2.1 = 0 ∧ (toksN A k i).1.map Nx.core = l.map Nx.core
  | [], _, _, _, hG, _, _, _, _ => absurd hG (by simp [Goods])
  | x :: xs, o, i, 0, _, _, _, _, hk => by simp at hk
  | x :: xs, o, i, k + 1, hG, hC, hi, hsk, hk => by
    have hlen := cat_le hC.2.2
    have hn := next_in hA hi
    rw [hsk] at hn
    rcases hG.2 with ⟨h1, h2⟩ | ⟨h1, h2⟩
    · subst h2
      have hz := (hG.1.one h1).1
      have hc : A.size = o + 1 := by have := hC.2.2; rw [hz] at this; exact this
      have hb := hC.2.1
      rw [hz] at hb
      rw [skip_blank (by omega) (by rw [show o = o + 0 from rfl, hb]; decide), skip_end (by omega), ← hc, end_tok] at hn
      have e1 : ¬ (nextF A (i : Int)).err ≠ 0 := by rw [hn]; simp
      have e2 : (nextF A (i : Int)).kind = 1 := by rw [hn]
      simp only [toksN, if_neg e1, if_pos e2]
      refine ⟨trivial, ?_⟩
      rw [hn]
      have ht : x.text = ⟨#[]⟩ := byt_ext (by rw [hz]; rfl) (fun j hj => by omega)
      simp only [List.map_cons, List.map_nil, Nx.core, h1, (hG.1.one h1).2, ht]
    · have ha := tok_again hG.1 h1 hC.1 hC.2.1 (by omega)
      rw [ha.1, ha.2] at hn
      have e1 : ¬ (nextF A (i : Int)).err ≠ 0 := by rw [hn]; simp
      have e2 : ¬ (nextF A (i : Int)).kind = 1 := by rw [hn]; exact h1
      simp only [toksN, if_neg e1, if_neg e2]
      have en : (nextF A (i : Int)).next = o + x.text.size := by rw [hn]
      rw [en]
      have ih := toks_again hA xs (o + x.text.size + 1) (o + x.text.size) k h2 hC.2.2 (by omega) (skip_blank (by omega) (by rw [hC.2.1]; decide)) (by simpa using hk)
      refine ⟨ih.1, ?_⟩
      rw [List.map_cons, List.map_cons, ih.2, hn]; rfl
/-- What is a number, and what a word, by a token's kind. -/
theorem good_numB {x : Nx} (g : GoodTok x) : numB (byt x.text) x.text.size = true ↔ x.kind = 3 := by
  refine ⟨fun h => ?_, fun h => (g.three h).1⟩
  have hd : 0 < x.text.size ∧ digB (byt x.text 0) = true := by
    unfold numB numF at h
    split at h
    · rename_i c; exact ⟨by omega, decide_eq_true (by omega)⟩
    · split at h
      · simp at h
      · rename_i c
        have hn : 0 < x.text.size := by omega
        refine ⟨hn, ?_⟩
        have hu : upTo digB (byt x.text) x.text.size 0 = x.text.size := by omega
        exact upTo_all digB (byt x.text) x.text.size 0 0 (Nat.le_refl _) (by omega)
  rcases g.kinds with k | k | k | k
  · have := (g.one k).1; omega
  · have := of_decide_eq_true (g.two k).1
    have h2 := let_dig hd.2
    rw [h2] at this; exact absurd this.2.2.1 (by decide)
  · exact k
  · have := (g.four k).2.2.2
    rw [hd.2] at this; cases this
theorem good_worB {x : Nx} (g : GoodTok x) : worOK (byt x.text) x.text.size = true ↔ x.kind = 2 := by
  refine ⟨fun h => ?_, fun h => (g.two h).1⟩
  have h := of_decide_eq_true h
  rcases g.kinds with k | k | k | k
  · have := (g.one k).1; omega
  · exact k
  · have := (g.three k).2.2.2.1
    rw [h.2.2.1] at this; cases this
  · have := (g.four k).2.2.1
    rw [h.2.2.1] at this; cases this
end Go.Proofs.YtgeapkjegemkeaaDoor

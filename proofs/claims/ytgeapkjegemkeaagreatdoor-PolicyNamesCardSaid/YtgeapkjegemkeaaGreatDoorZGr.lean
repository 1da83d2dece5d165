/-
  What is written is read as the same: plain facts. No condition.
-/
import Derived.Test.YtgeapkjegemkeaaGreatDoorZText
import Derived.Test.YtgeapkjegemkeaaGreatDoorLexBack
import Derived.Test.YtgeapkjegemkeaaGreatDoorZDPol
namespace Go.Proofs.YtgeapkjegemkeaaGreatDoor
set_option linter.unusedSimpArgs false
set_option linter.unusedVariables false

/-- May a text that goes on so follow a token at once? -/
def StopsL (x : Nx) : List UInt8 → Prop
  | [] => True
  | c :: _ => (x.kind = 4 → c.toNat ≠ 61) ∧ (x.kind ≠ 4 → worB c.toNat = false)
/-- A text, and the tokens that it is cut into, the end not counted. -/
inductive LexS : List UInt8 → List Nx → Prop
  | nil : LexS [] []
  | blank {c : UInt8} {L : List UInt8} {T : List Nx} (hc : blaB c.toNat = true) (h : LexS L T) : LexS (c :: L) T
  | tok {x : Nx} {L : List UInt8} {T : List Nx} (hx : GoodTok x) (hk : x.kind ≠ 1) (hs : StopsL x L) (h : LexS L T) : LexS (x.text.data.toList ++ L) (x :: T)
/-- From a place on a text reads so, to its end. -/
def Sfx (A : ByteArray) (o : Nat) (L : List UInt8) : Prop := A.size = o + L.length ∧ ∀ j, (hj : j < L.length) → byt A (o + j) = L[j].toNat
theorem Sfx.tail {A : ByteArray} {o : Nat} {a L : List UInt8} (h : Sfx A o (a ++ L)) : Sfx A (o + a.length) L := by
  refine ⟨by rw [h.1, List.length_append]; omega, fun j hj => ?_⟩
  have := h.2 (a.length + j) (by rw [List.length_append]; omega)
  rw [show o + a.length + j = o + (a.length + j) by omega, this, List.getElem_append_right (by omega)]
  congr 2; omega
theorem Sfx.head {A : ByteArray} {o : Nat} {a L : List UInt8} (h : Sfx A o (a ++ L)) (j : Nat) (hj : j < a.length) : byt A (o + j) = a[j].toNat := by
  rw [h.2 j (by rw [List.length_append]; omega), List.getElem_append_left hj]
theorem sfx_all (L : List UInt8) : Sfx ⟨L.toArray⟩ 0 L := by
  refine ⟨by simp [ByteArray.size], fun j hj => ?_⟩
  rw [Nat.zero_add, byt_list]
  simp [List.getD_eq_getElem?_getD, hj]
/-- A token's text, with what may follow behind it, is cut into the same token. -/
theorem tok_again9 {x : Nx} (g : GoodTok x) (hk : x.kind ≠ 1) {A : ByteArray} {o : Nat} (hb : ∀ j, j < x.text.size → byt A (o + j) = byt x.text j) (hlt : o + x.text.size ≤ A.size)
    (hs : o + x.text.size < A.size → (x.kind = 4 → byt A (o + x.text.size) ≠ 61) ∧ (x.kind ≠ 4 → worB (byt A (o + x.text.size)) = false)) :
    skipF (byt A) A.size o = o ∧ tokF A o = ⟨x.kind, x.text, x.num, o, o + x.text.size, 0⟩ := by
  have hpos := g.some_ hk
  have h0 : byt A o = byt x.text 0 := hb 0 hpos
  have hex : A.extract o (o + x.text.size) = x.text := byt_ext (by rw [size_extract5 _ _ _ (by omega)]; omega) (fun j hj => by
    rw [size_extract5 _ _ _ (by omega)] at hj
    rw [byt_extract _ _ _ _ (by omega) hj]; exact hb j (by omega))
  have hup : x.kind ≠ 4 → upTo worB (byt x.text) x.text.size 0 = x.text.size → upTo worB (byt A) A.size o = o + x.text.size := fun h4 h => by
    refine upTo_is (by omega) (by omega) (fun j h1 h2 => ?_) (fun h' => ?_)
    · have := upTo_all worB (byt x.text) x.text.size 0 (j - o) (by omega) (by omega)
      rw [← hb (j - o) (by omega), show o + (j - o) = j by omega] at this; exact this
    · have := (hs h'.1).2 h4
      rw [this] at h'; exact absurd h'.2 (by decide)
  have hno : o ≠ A.size := by omega
  rcases g.kinds with k | k | k | k
  · exact absurd k hk
  · obtain ⟨h2, h3⟩ := g.two k
    have h4 := of_decide_eq_true h2
    have hl : letB (byt A o) = true := by rw [h0]; exact h4.2.2.1
    refine ⟨skip_stop (let_skip hl).1 (let_skip hl).2, ?_⟩
    unfold tokF
    rw [if_neg hno, if_pos hl, hup (by omega) h4.2.2.2, if_neg (by omega), hex, k, h3]
  · obtain ⟨h2, h3, h4, h5, h6⟩ := g.three k
    have hd : digB (byt A o) = true := by rw [h0]; exact h4
    have hl : letB (byt A o) = false := by rw [h0]; exact h5
    refine ⟨skip_stop (dig_skip hd).1 (dig_skip hd).2, ?_⟩
    unfold tokF
    rw [if_neg hno, if_neg (by rw [hl]; decide), if_pos hd, hup (by omega) h6, hex, show o + x.text.size - o = x.text.size by omega, if_neg (by rw [h2]; decide), k, h3]
  · obtain ⟨h2, h3, h4, h5⟩ := g.four k
    have hl : letB (byt A o) = false := by rw [h0]; exact h4
    have hd : digB (byt A o) = false := by rw [h0]; exact h5
    have hn : sigF (byt A) A.size o = x.text.size := by
      rw [← h2]
      refine (sig_same (f := byt x.text) (g := byt A) (i := 0) (j := o) h0.symm ⟨fun h => ⟨by omega, ?_⟩, fun h => ?_⟩).symm.trans h2 |>.trans h2.symm
      · rw [hb 1 (by omega)]; exact h.2
      · rcases sig_cases (byt x.text) x.text.size 0 with c | c | ⟨c, c1, c2⟩
        · omega
        · rw [h2] at c
          have h9 := (hs (by rw [c]; exact h.1)).1 k
          rw [c] at h9; exact absurd h.2 h9
        · exact ⟨c1, c2⟩
    have hq := sig_at (f := byt A) (n := A.size) (i := o) (by rw [hn]; omega)
    refine ⟨skip_stop hq.1 hq.2.1, ?_⟩
    unfold tokF
    rw [if_neg hno, if_neg (by rw [hl]; decide), if_neg (by rw [hd]; decide), hn, if_neg (by omega), hex, k, h3]
/-- The end, as it is told. -/
def endX : Nx := ⟨1, ⟨#[]⟩, 0, 0, 0, 0⟩
theorem lexS_toks {A : ByteArray} (hA : A.size ≤ 65536) {L : List UInt8} {T : List Nx} (h : LexS L T) : ∀ (o i k : Nat), Sfx A o L → i ≤ A.size → skipF (byt A) A.size i = skipF (byt A) A.size o → L.length < k →
    (toksN A k i).2.1 = 0 ∧ (toksN A k i).1.map Nx.core = (T ++ [endX]).map Nx.core := by
  induction h with
  | nil =>
    intro o i k hf hi hsk hk
    match k, hk with
    | k + 1, _ =>
      have ho : A.size = o := by have := hf.1; simp at this; exact this
      have hn := next_in hA hi
      rw [hsk, skip_end (by omega), ← ho, end_tok] at hn
      have e1 : ¬ (nextF A (i : Int)).err ≠ 0 := by rw [hn]; simp
      have e2 : (nextF A (i : Int)).kind = 1 := by rw [hn]
      simp only [toksN, if_neg e1, if_pos e2]
      refine ⟨trivial, ?_⟩
      rw [hn]; rfl
  | @blank c L T hc h ih =>
    intro o i k hf hi hsk hk
    have hl : A.size = o + (L.length + 1) := by have := hf.1; simp at this; exact this
    have hb : byt A o = c.toNat := hf.2 0 (by simp)
    refine ih (o + 1) i k (Sfx.tail (a := [c]) hf) hi ?_ (by simp at hk; omega)
    rw [hsk]
    exact skip_blank (by omega) (by rw [hb]; exact hc)
  | @tok x L T hx hk1 hs h ih =>
    intro o i k hf hi hsk hk
    match k, hk with
    | k + 1, hk =>
      have hsz : x.text.data.toList.length = x.text.size := by rw [Array.length_toList]; rfl
      have hpos := hx.some_ hk1
      have hl : A.size = o + (x.text.size + L.length) := by have := hf.1; rw [List.length_append, hsz] at this; exact this
      have hbt : ∀ j, j < x.text.size → byt A (o + j) = byt x.text j := fun j hj => by
        rw [hf.head j (by rw [hsz]; exact hj), byt_list, List.getD_eq_getElem?_getD, List.getElem?_eq_getElem (by rw [hsz]; exact hj)]; rfl
      have ha := tok_again9 hx hk1 hbt (by omega) (fun hlt => by
        have ht := hf.tail
        rw [hsz] at ht
        cases L with
        | nil => simp at hl; omega
        | cons c L =>
          have hc := ht.2 0 (by simp)
          rw [Nat.add_zero] at hc
          rw [hc]
          exact hs)
      have hn := next_in hA hi
      rw [hsk, ha.1, ha.2] at hn
      have e1 : ¬ (nextF A (i : Int)).err ≠ 0 := by rw [hn]; simp
      have e2 : ¬ (nextF A (i : Int)).kind = 1 := by rw [hn]; exact hk1
      simp only [toksN, if_neg e1, if_neg e2]
      have en : (nextF A (i : Int)).next = o + x.text.size := by rw [hn]
      rw [en]
      have ht := hf.tail
      rw [hsz] at ht
      rw [List.length_append, hsz] at hk
      have ih1 := ih (o + x.text.size) (o + x.text.size) k ht (by omega) rfl (by omega)
      refine ⟨ih1.1, ?_⟩
      rw [List.cons_append, List.map_cons, List.map_cons, ih1.2, hn]; rfl
theorem lexS_src {L : List UInt8} {T : List Nx} (h : LexS L T) (hL : L.length ≤ 65536) : (srcF ⟨L.toArray⟩).err = 0 ∧ (srcF ⟨L.toArray⟩).toks.map Nx.core = (T ++ [endX]).map Nx.core := by
  have hs : (⟨L.toArray⟩ : ByteArray).size = L.length := by simp [ByteArray.size]
  exact lexS_toks (A := ⟨L.toArray⟩) (by omega) h 0 0 ((⟨L.toArray⟩ : ByteArray).size + 1) (sfx_all L) (Nat.zero_le _) rfl (by omega)
end Go.Proofs.YtgeapkjegemkeaaGreatDoor
namespace Go.Proofs.YtgeapkjegemkeaaGreatDoor
set_option linter.unusedSimpArgs false
set_option linter.unusedVariables false

abbrev stL (l : List UInt8) : ByteArray := ⟨l.toArray⟩
theorem stL_size (l : List UInt8) : (stL l).size = l.length := by simp [ByteArray.size]
theorem stL_byt (l : List UInt8) (j : Nat) : byt (stL l) j = (l.getD j 0).toNat := byt_list _ _
theorem stL_at (l : List UInt8) (j : Nat) (h : j < l.length) : byt (stL l) j = l[j].toNat := by rw [stL_byt, List.getD_eq_getElem?_getD, List.getElem?_eq_getElem h]; rfl
def numX (l : List UInt8) (v : Nat) : Nx := ⟨3, stL l, v, 0, 0, 0⟩
def worX (l : List UInt8) : Nx := ⟨2, stL l, 0, 0, 0, 0⟩
def sigX (l : List UInt8) : Nx := ⟨4, stL l, 0, 0, 0, 0⟩
theorem num_tok {l : List UInt8} {v : Nat} (h0 : 0 < l.length) (h1 : numF (byt (stL l)) l.length = some v) (hd : digB (byt (stL l) 0) = true) (hw : ∀ j, (h : j < l.length) → worB l[j].toNat = true) : GoodTok (numX l v) where
  kinds := .inr (.inr (.inl rfl))
  one := fun h => absurd (show (3 : Int) = 1 from h) (by decide)
  some_ := fun _ => by show 0 < (stL l).size; rw [stL_size]; exact h0
  two := fun h => absurd (show (3 : Int) = 2 from h) (by decide)
  three := fun _ => by
    show numB (byt (stL l)) (stL l).size = true ∧ v = numV (byt (stL l)) (stL l).size ∧ digB (byt (stL l) 0) = true ∧ letB (byt (stL l) 0) = false ∧ upTo worB (byt (stL l)) (stL l).size 0 = (stL l).size
    rw [stL_size]
    refine ⟨by unfold numB; rw [h1]; rfl, by unfold numV; rw [h1]; rfl, hd, let_dig hd, upTo_is (Nat.zero_le _) (Nat.le_refl _) (fun j _ hj => by rw [stL_at l j hj]; exact hw j hj) (fun h => by omega)⟩
  four := fun h => absurd (show (3 : Int) = 4 from h) (by decide)
theorem word_tok {l : List UInt8} (h : worOK (byt (stL l)) (stL l).size = true) : GoodTok (worX l) where
  kinds := .inr (.inl rfl)
  one := fun h => absurd (show (2 : Int) = 1 from h) (by decide)
  some_ := fun _ => by have := (of_decide_eq_true h).1; show 0 < (stL l).size; omega
  two := fun _ => ⟨h, rfl⟩
  three := fun h => absurd (show (2 : Int) = 3 from h) (by decide)
  four := fun h => absurd (show (2 : Int) = 4 from h) (by decide)
theorem sign_tok {l : List UInt8} (h0 : 0 < l.length) (h : sigF (byt (stL l)) l.length 0 = l.length) (hl : letB (byt (stL l) 0) = false) (hd : digB (byt (stL l) 0) = false) : GoodTok (sigX l) where
  kinds := .inr (.inr (.inr rfl))
  one := fun h => absurd (show (4 : Int) = 1 from h) (by decide)
  some_ := fun _ => by show 0 < (stL l).size; rw [stL_size]; exact h0
  two := fun h => absurd (show (4 : Int) = 2 from h) (by decide)
  three := fun h => absurd (show (4 : Int) = 3 from h) (by decide)
  four := fun _ => by
    show sigF (byt (stL l)) (stL l).size 0 = (stL l).size ∧ (0 : Nat) = 0 ∧ _
    rw [stL_size]
    exact ⟨h, rfl, hl, hd⟩
/-! ### Decimal digits -/
theorem dec_small {v : Nat} (h : v < 10) : Lib.decDigits v = [UInt8.ofNat (48 + v)] := by rw [Lib.decDigits, dif_pos h]
theorem dec_big {v : Nat} (h : ¬ v < 10) : Lib.decDigits v = Lib.decDigits (v / 10) ++ [UInt8.ofNat (48 + v % 10)] := by rw [Lib.decDigits, dif_neg h]
theorem u8_dig {x : Nat} (h : x < 10) : (UInt8.ofNat (48 + x)).toNat = 48 + x := by rw [UInt8.toNat_ofNat']; omega
theorem dec_dig9 : ∀ (N v : Nat), v < N → ∀ c ∈ Lib.decDigits v, 48 ≤ c.toNat ∧ c.toNat ≤ 57
  | 0, v, h => absurd h (by omega)
  | N + 1, v, h => by
    intro c hc
    by_cases hv : v < 10
    · rw [dec_small hv, List.mem_singleton] at hc
      subst hc
      rw [u8_dig hv]; omega
    · rw [dec_big hv] at hc
      rcases List.mem_append.1 hc with hc | hc
      · exact dec_dig9 N (v / 10) (by omega) c hc
      · rw [List.mem_singleton] at hc
        subst hc
        rw [u8_dig (by omega)]; omega
theorem dec_pos (v : Nat) : 0 < (Lib.decDigits v).length := by rw [Lib.decDigits_length]; exact Lib.nDigits_pos v
theorem dec_lead : ∀ (N v : Nat), v < N → 0 < v → (Lib.decDigits v)[0]?.map UInt8.toNat ≠ some 48
  | 0, v, h, _ => absurd h (by omega)
  | N + 1, v, h, h0 => by
    by_cases hv : v < 10
    · rw [dec_small hv]
      show some (UInt8.ofNat (48 + v)).toNat ≠ some 48
      rw [u8_dig hv]
      intro e; injection e with e; omega
    · rw [dec_big hv, List.getElem?_append_left (dec_pos _)]
      exact dec_lead N (v / 10) (by omega) (by omega)
theorem dec_val9 : ∀ (N v : Nat), v < N → valF 10 decN (fun j => ((Lib.decDigits v).getD j 0).toNat) 0 (Lib.decDigits v).length = v
  | 0, v, h => absurd h (by omega)
  | N + 1, v, h => by
    by_cases hv : v < 10
    · rw [dec_small hv]
      show 0 * 10 + decN (UInt8.ofNat (48 + v)).toNat = v
      rw [u8_dig hv]; unfold decN; omega
    · have ih := dec_val9 N (v / 10) (by omega)
      rw [dec_big hv, List.length_append]
      generalize hl : Lib.decDigits (v / 10) = l at ih
      show valF 10 decN _ 0 l.length * 10 + decN _ = v
      have e1 : valF 10 decN (fun j => ((l ++ [UInt8.ofNat (48 + v % 10)]).getD j 0).toNat) 0 l.length = v / 10 := by
        rw [← ih]
        refine val_congr 10 decN 0 l.length (fun j hj => ?_)
        rw [Nat.zero_add]
        simp only [List.getD_eq_getElem?_getD]
        rw [List.getElem?_append_left hj]
      have e2 : ((l ++ [UInt8.ofNat (48 + v % 10)]).getD (0 + l.length) 0).toNat = 48 + v % 10 := by
        rw [Nat.zero_add, List.getD_eq_getElem?_getD, List.getElem?_append_right (Nat.le_refl _), Nat.sub_self]
        show (UInt8.ofNat (48 + v % 10)).toNat = _
        exact u8_dig (by omega)
      rw [e1]
      show v / 10 * 10 + decN (((l ++ [UInt8.ofNat (48 + v % 10)]).getD (0 + l.length) 0).toNat) = v
      rw [e2]; unfold decN; omega
theorem dec_num {v : Nat} (hv : v < 18446744073709551616) : numF (byt (stL (Lib.decDigits v))) (Lib.decDigits v).length = some v := by
  have hf : byt (stL (Lib.decDigits v)) = fun j => ((Lib.decDigits v).getD j 0).toNat := funext fun j => stL_byt _ _
  have hval := dec_val9 (v + 1) v (by omega)
  have hd := dec_dig9 (v + 1) v (by omega)
  have hp := dec_pos v
  have hl := dec_len hv
  rw [← hf] at hval
  have hat : ∀ j, (h : j < (Lib.decDigits v).length) → 48 ≤ byt (stL (Lib.decDigits v)) j ∧ byt (stL (Lib.decDigits v)) j ≤ 57 := fun j h => by
    rw [stL_at _ j h]; exact hd _ (List.getElem_mem h)
  unfold numF
  have h1 : ¬ (2 ≤ (Lib.decDigits v).length ∧ byt (stL (Lib.decDigits v)) 0 = 48 ∧ byt (stL (Lib.decDigits v)) 1 = 120) := fun g => by
    have := (hat 1 (by omega)).2; omega
  rw [if_neg h1, hval]
  have hup : upTo digB (byt (stL (Lib.decDigits v))) (Lib.decDigits v).length 0 = (Lib.decDigits v).length :=
    upTo_is (Nat.zero_le _) (Nat.le_refl _) (fun j _ hj => decide_eq_true (hat j hj)) (fun g => by omega)
  have hz : ¬ (byt (stL (Lib.decDigits v)) 0 = 48 ∧ 1 < (Lib.decDigits v).length) := fun g => by
    have hb : ¬ v < 10 := fun hs => by have := g.2; rw [dec_small hs] at this; simp at this
    have := dec_lead (v + 1) v (by omega) (by omega)
    rw [List.getElem?_eq_getElem hp] at this
    apply this
    show some _ = some 48
    rw [← stL_at _ 0 hp, g.1]
  rw [if_neg (fun g => by
    rcases g with g | g | g | g | g
    · omega
    · omega
    · exact hz g
    · exact g hup
    · omega)]
theorem dec_tok {v : Nat} (hv : v < 18446744073709551616) : GoodTok (numX (Lib.decDigits v) v) := by
  have hd := dec_dig9 (v + 1) v (by omega)
  have hp := dec_pos v
  refine num_tok hp (dec_num hv) ?_ (fun j hj => ?_)
  · rw [stL_at _ 0 hp]; exact decide_eq_true (hd _ (List.getElem_mem hp))
  · have := hd _ (List.getElem_mem hj)
    unfold worB
    rw [show digB (Lib.decDigits v)[j].toNat = true from decide_eq_true this, Bool.or_true]
/-! ### Hexadecimal digits -/
theorem u8_hex {x : Nat} (h : x < 16) : (hexC x).toNat = if x < 10 then 48 + x else 87 + x := by
  unfold hexC
  split
  · rw [UInt8.toNat_ofNat']; omega
  · rw [UInt8.toNat_ofNat']; omega
theorem hex_small {v : Nat} (h : v < 16) : hexL v = [hexC v] := by rw [hexL, if_pos h]
theorem hex_big {v : Nat} (h : ¬ v < 16) : hexL v = hexL (v / 16) ++ [hexC (v % 16)] := by rw [hexL, if_neg h]
theorem hex_dig9 : ∀ (N v : Nat), v < N → ∀ c ∈ hexL v, ∃ x, x < 16 ∧ c = hexC x
  | 0, v, h => absurd h (by omega)
  | N + 1, v, h => by
    intro c hc
    by_cases hv : v < 16
    · rw [hex_small hv, List.mem_singleton] at hc
      exact ⟨v, hv, hc⟩
    · rw [hex_big hv] at hc
      rcases List.mem_append.1 hc with hc | hc
      · exact hex_dig9 N (v / 16) (by omega) c hc
      · rw [List.mem_singleton] at hc
        exact ⟨v % 16, by omega, hc⟩
theorem hex_pos (v : Nat) : 0 < (hexL v).length := by
  by_cases hv : v < 16
  · rw [hex_small hv]; simp
  · rw [hex_big hv]; simp
theorem hexN_is {x : Nat} (h : x < 16) : hexN (hexC x).toNat = x := by
  rw [u8_hex h]; unfold hexN; split <;> split <;> omega
theorem hex_val9 : ∀ (N v : Nat), v < N → valF 16 hexN (fun j => ((hexL v).getD j 0).toNat) 0 (hexL v).length = v
  | 0, v, h => absurd h (by omega)
  | N + 1, v, h => by
    by_cases hv : v < 16
    · rw [hex_small hv]
      show 0 * 16 + hexN (hexC v).toNat = v
      rw [hexN_is hv]; omega
    · have ih := hex_val9 N (v / 16) (by omega)
      rw [hex_big hv, List.length_append]
      generalize hl : hexL (v / 16) = l at ih
      show valF 16 hexN _ 0 l.length * 16 + hexN _ = v
      have e1 : valF 16 hexN (fun j => ((l ++ [hexC (v % 16)]).getD j 0).toNat) 0 l.length = v / 16 := by
        rw [← ih]
        refine val_congr 16 hexN 0 l.length (fun j hj => ?_)
        rw [Nat.zero_add]
        simp only [List.getD_eq_getElem?_getD]
        rw [List.getElem?_append_left hj]
      have e2 : hexN ((l ++ [hexC (v % 16)]).getD (0 + l.length) 0).toNat = v % 16 := by
        rw [Nat.zero_add, List.getD_eq_getElem?_getD, List.getElem?_append_right (Nat.le_refl _), Nat.sub_self]
        show hexN (hexC (v % 16)).toNat = _
        exact hexN_is (by omega)
      rw [e1]
      show v / 16 * 16 + hexN (((l ++ [hexC (v % 16)]).getD (0 + l.length) 0).toNat) = v
      rw [e2]; omega
theorem val_shift (b : Nat) (d : Nat → Nat) {f g : Nat → Nat} (i j : Nat) : ∀ k, (∀ t, t < k → f (i + t) = g (j + t)) → valF b d f i k = valF b d g j k
  | 0, _ => rfl
  | k + 1, h => by
    show valF b d f i k * b + d (f (i + k)) = valF b d g j k * b + d (g (j + k))
    rw [val_shift b d i j k (fun t ht => h t (by omega)), h k (by omega)]
theorem hex_at (v j : Nat) : byt (stL (48 :: 120 :: hexL v)) (2 + j) = ((hexL v).getD j 0).toNat := by
  rw [stL_byt, show 2 + j = j + 1 + 1 by omega]; rfl
theorem hex_b (v : Nat) (j : Nat) (h : j < (hexL v).length) : hexB ((hexL v).getD j 0).toNat = true ∧ worB ((hexL v).getD j 0).toNat = true := by
  rw [List.getD_eq_getElem?_getD, List.getElem?_eq_getElem h]
  obtain ⟨x, hx, e⟩ := hex_dig9 (v + 1) v (by omega) _ (List.getElem_mem h)
  show hexB (hexL v)[j].toNat = true ∧ worB (hexL v)[j].toNat = true
  rw [e, u8_hex hx]
  split
  · refine ⟨decide_eq_true (by omega), ?_⟩
    unfold worB
    rw [show digB (48 + x) = true from decide_eq_true (by omega), Bool.or_true]
  · refine ⟨decide_eq_true (by omega), ?_⟩
    unfold worB
    rw [show letB (87 + x) = true from decide_eq_true (by omega), Bool.true_or]
theorem hex_num {v : Nat} (hv : v < 18446744073709551616) : numF (byt (stL (48 :: 120 :: hexL v))) (48 :: 120 :: hexL v).length = some v := by
  have hp := hex_pos v
  have hl := hex_len 15 v (by rw [show (16 : Nat) ^ (15 + 1) = 18446744073709551616 from rfl]; exact hv)
  have hn : (48 :: 120 :: hexL v).length = 2 + (hexL v).length := by simp only [List.length_cons]; omega
  rw [hn]
  unfold numF
  rw [if_pos ⟨by omega, by rw [stL_byt]; rfl, by rw [stL_byt]; rfl⟩]
  have hup : upTo hexB (byt (stL (48 :: 120 :: hexL v))) (2 + (hexL v).length) 2 = 2 + (hexL v).length :=
    upTo_is (by omega) (Nat.le_refl _) (fun j h1 h2 => by
      rw [show j = 2 + (j - 2) by omega, hex_at]; exact (hex_b v (j - 2) (by omega)).1) (fun g => by omega)
  rw [if_neg (fun g => by
    rcases g with g | g | g
    · omega
    · omega
    · exact g hup)]
  congr 1
  rw [show 2 + (hexL v).length - 2 = (hexL v).length by omega]
  refine (val_shift 16 hexN 2 0 _ (fun t ht => ?_)).trans (hex_val9 (v + 1) v (by omega))
  rw [hex_at, Nat.zero_add]
theorem hex_tok {v : Nat} (hv : v < 18446744073709551616) : GoodTok (numX (48 :: 120 :: hexL v) v) := by
  refine num_tok (by simp) (hex_num hv) (by rw [stL_byt]; rfl) (fun j hj => ?_)
  match j, hj with
  | 0, _ => rfl
  | 1, _ => rfl
  | j + 2, hj =>
    have := (hex_b v j (by simpa using hj)).2
    rw [List.getD_eq_getElem?_getD, List.getElem?_eq_getElem (by simpa using hj)] at this
    exact this
end Go.Proofs.YtgeapkjegemkeaaGreatDoor
namespace Go.Proofs.YtgeapkjegemkeaaGreatDoor
set_option linter.unusedSimpArgs false
set_option linter.unusedVariables false

def OkL : List UInt8 → Prop
  | [] => True
  | c :: _ => worB c.toNat = false ∧ c.toNat ≠ 61
theorem OkL.stops {L : List UInt8} (h : OkL L) (x : Nx) : StopsL x L := by
  cases L with
  | nil => trivial
  | cons c L => exact ⟨fun _ => h.2, fun _ => h.1⟩
theorem ok_blank (L : List UInt8) : OkL (32 :: L) := ⟨rfl, by decide⟩
theorem ok_semi (L : List UInt8) : OkL ([59] ++ L) := show worB 59 = false ∧ (59 : UInt8).toNat ≠ 61 from ⟨rfl, by decide⟩
theorem lex_tok {x : Nx} {l L : List UInt8} {T : List Nx} (ht : x.text.data.toList = l) (hx : GoodTok x) (hk : x.kind ≠ 1) (hs : StopsL x L) (h : LexS L T) : LexS (l ++ L) (x :: T) := by
  subst ht; exact .tok hx hk hs h
theorem lex_word {w L : List UInt8} {T : List Nx} (hw : worOK (byt (stL w)) (stL w).size = true) (ho : OkL L) (h : LexS L T) : LexS (w ++ L) (worX w :: T) :=
  lex_tok (x := worX w) rfl (word_tok hw) (show (2 : Int) ≠ 1 by decide) (ho.stops _) h
theorem lex_num {n : List UInt8} {v : Nat} {L : List UInt8} {T : List Nx} (hx : GoodTok (numX n v)) (ho : OkL L) (h : LexS L T) : LexS (n ++ L) (numX n v :: T) :=
  lex_tok (x := numX n v) rfl hx (show (3 : Int) ≠ 1 by decide) (ho.stops _) h
theorem lex_sig {w L : List UInt8} {T : List Nx} (hx : GoodTok (sigX w)) (ho : ∀ c r, L = c :: r → c.toNat ≠ 61) (h : LexS L T) : LexS (w ++ L) (sigX w :: T) :=
  lex_tok (x := sigX w) rfl hx (show (4 : Int) ≠ 1 by decide) (by
    cases L with
    | nil => trivial
    | cons c r => exact ⟨fun _ => ho c r rfl, fun g => absurd rfl g⟩) h
theorem ok_ne {L : List UInt8} (h : OkL L) : ∀ c r, L = c :: r → c.toNat ≠ 61 := fun c r e => by subst e; exact h.2
theorem sig_good {l : List UInt8} (h : 0 < l.length ∧ sigF (byt (stL l)) l.length 0 = l.length ∧ letB (byt (stL l) 0) = false ∧ digB (byt (stL l) 0) = false) : GoodTok (sigX l) := sign_tok h.1 h.2.1 h.2.2.1 h.2.2.2
theorem sig40 : GoodTok (sigX [40]) := sig_good (by decide)
theorem sig41 : GoodTok (sigX [41]) := sig_good (by decide)
theorem sig38 : GoodTok (sigX [38]) := sig_good (by decide)
theorem sig44 : GoodTok (sigX [44]) := sig_good (by decide)
theorem sig59 : GoodTok (sigX [59]) := sig_good (by decide)
theorem rel_good {r : Int} (h : 1 ≤ r ∧ r ≤ 6) : GoodTok (sigX (rlL r)) := by
  have : r = 1 ∨ r = 2 ∨ r = 3 ∨ r = 4 ∨ r = 5 ∨ r = 6 := by omega
  rcases this with rfl | rfl | rfl | rfl | rfl | rfl <;> exact sig_good (by decide)
theorem fld_word {f : Int} (h : 0 ≤ f ∧ f ≤ 6) : worOK (byt (stL (fldL f))) (stL (fldL f)).size = true := by
  have h0 : worOK (byt (stL (fldL 0))) (stL (fldL 0)).size = true := by kernel_rfl
  have h1 : worOK (byt (stL (fldL 1))) (stL (fldL 1)).size = true := by kernel_rfl
  have h2 : worOK (byt (stL (fldL 2))) (stL (fldL 2)).size = true := by kernel_rfl
  have h3 : worOK (byt (stL (fldL 3))) (stL (fldL 3)).size = true := by kernel_rfl
  have h4 : worOK (byt (stL (fldL 4))) (stL (fldL 4)).size = true := by kernel_rfl
  have h5 : worOK (byt (stL (fldL 5))) (stL (fldL 5)).size = true := by kernel_rfl
  have h6 : worOK (byt (stL (fldL 6))) (stL (fldL 6)).size = true := by kernel_rfl
  have : f = 0 ∨ f = 1 ∨ f = 2 ∨ f = 3 ∨ f = 4 ∨ f = 5 ∨ f = 6 := by omega
  rcases this with rfl | rfl | rfl | rfl | rfl | rfl | rfl <;> assumption
def sepX (o : Int) : Nx := if o = 4 then worX [97, 110, 100] else worX [111, 114]
def wrapX (b : Bool) (l : List Nx) : List Nx := if b = true then sigX [40] :: (l ++ [sigX [41]]) else l
def tkT (f : Int) (m : Nat) (r : Int) (v : Nat) : List Nx := worX (fldL f) :: ((if m = 18446744073709551615 then [] else [sigX [38], numX (48 :: 120 :: hexL m) m]) ++ [sigX (rlL r), numX (Lib.decDigits v) v])
mutual
def tkE : Ex → List Nx
  | .mk o l f m r v => if o = 1 then [worX [116, 114, 117, 101]] else if o = 2 then [worX [102, 97, 108, 115, 101]] else if o = 3 then worX [110, 111, 116] :: tkH l else if o = 4 ∨ o = 5 then tkA o l else tkT f m r v
def tkH : List Ex → List Nx
  | [] => []
  | e :: _ => wrapX (brkB 3 e.op) (tkE e)
def tkA (o : Int) : List Ex → List Nx
  | [] => []
  | e :: l => wrapX (brkB o e.op) (tkE e) ++ tkM o l
def tkM (o : Int) : List Ex → List Nx
  | [] => []
  | e :: l => sepX o :: (wrapX (brkB o e.op) (tkE e) ++ tkM o l)
end
theorem ex_head {e : Ex} (h : GEx e) : ∃ c r, exL e = c :: r ∧ c.toNat ≠ 61 := by
  induction h with
  | yes => exact ⟨116, _, by rw [show Ex.plain 1 = .mk 1 [] 0 0 0 0 from rfl, exL, if_pos rfl], by decide⟩
  | no => exact ⟨102, _, by rw [show Ex.plain 2 = .mk 2 [] 0 0 0 0 from rfl, exL, if_neg (by decide), if_pos rfl], by decide⟩
  | @inv e h ih => exact ⟨110, _, by rw [show Ex.node 3 [e] = .mk 3 [e] 0 0 0 0 from rfl, exL, if_neg (by decide), if_neg (by decide), if_pos rfl]; rfl, by decide⟩
  | @all l hl ha ih =>
    match l, hl, ih with
    | e :: l, _, ih =>
      rw [show Ex.node 4 (e :: l) = .mk 4 (e :: l) 0 0 0 0 from rfl, exL, if_neg (by decide), if_neg (by decide), if_neg (by decide), if_pos (by decide), argsL]
      unfold wrapL
      split
      · exact ⟨40, _, rfl, by decide⟩
      · obtain ⟨c, r, h1, h2⟩ := ih e (by simp)
        exact ⟨c, _, by rw [h1]; rfl, h2⟩
  | @any l hl ha ih =>
    match l, hl, ih with
    | e :: l, _, ih =>
      rw [show Ex.node 5 (e :: l) = .mk 5 (e :: l) 0 0 0 0 from rfl, exL, if_neg (by decide), if_neg (by decide), if_neg (by decide), if_pos (by decide), argsL]
      unfold wrapL
      split
      · exact ⟨40, _, rfl, by decide⟩
      · obtain ⟨c, r, h1, h2⟩ := ih e (by simp)
        exact ⟨c, _, by rw [h1]; rfl, h2⟩
  | @test f m r v hf hr hm hv =>
    rw [exL, if_neg (by decide), if_neg (by decide), if_neg (by decide), if_neg (by decide)]
    unfold testL fldL
    split
    · exact ⟨105, _, rfl, by decide⟩
    · exact ⟨97, _, rfl, by decide⟩
def LexE (e : Ex) : Prop := ∀ (L : List UInt8) (T : List Nx), OkL L → LexS L T → LexS (exL e ++ L) (tkE e ++ T)
theorem lex_wrap {e : Ex} (hg : GEx e) (ih : LexE e) (b : Bool) {L : List UInt8} {T : List Nx} (ho : OkL L) (h : LexS L T) : LexS (wrapL b (exL e) ++ L) (wrapX b (tkE e) ++ T) := by
  cases b with
  | false => exact ih L T ho h
  | true =>
    obtain ⟨c, r, h1, h2⟩ := ex_head hg
    have hi := ih (41 :: L) (sigX [41] :: T) ⟨rfl, by decide⟩ (lex_sig (w := [41]) sig41 (ok_ne ho) h)
    have := lex_sig (w := [40]) (L := exL e ++ 41 :: L) (T := tkE e ++ sigX [41] :: T) sig40 (fun c' r' e' => by rw [h1] at e'; injection e' with e1 _; rw [← e1]; exact h2) hi
    have e1 : wrapL true (exL e) ++ L = [40] ++ (exL e ++ 41 :: L) := by show (40 :: (exL e ++ [41])) ++ L = _; simp
    have e2 : wrapX true (tkE e) ++ T = sigX [40] :: (tkE e ++ sigX [41] :: T) := by show (sigX [40] :: (tkE e ++ [sigX [41]])) ++ T = _; simp
    rw [e1, e2]; exact this
theorem ok_more (o : Int) (ho : o = 4 ∨ o = 5) (l : List Ex) {L : List UInt8} (h : OkL L) : OkL (moreL o l ++ L) := by
  cases l with
  | nil => rw [moreL]; exact h
  | cons e l => rcases ho with rfl | rfl <;> (rw [moreL]; exact ok_blank _)
theorem lex_more (o : Int) (ho : o = 4 ∨ o = 5) : ∀ (l : List Ex), (∀ e ∈ l, GEx e ∧ LexE e) → ∀ {L : List UInt8} {T : List Nx}, OkL L → LexS L T → LexS (moreL o l ++ L) (tkM o l ++ T)
  | [], _, L, T, _, h => by rw [moreL, tkM]; exact h
  | e :: l, ha, L, T, hl, h => by
    have h1 := lex_more o ho l (fun x hx => ha x (by simp [hx])) hl h
    have h2 := lex_wrap (ha e (by simp)).1 (ha e (by simp)).2 (brkB o e.op) (ok_more o ho l hl) h1
    rcases ho with rfl | rfl
    · have h3 := lex_word (w := [97, 110, 100]) (by kernel_rfl) (ok_blank _) (.blank (c := 32) rfl h2)
      have e1 : moreL 4 (e :: l) ++ L = 32 :: ([97, 110, 100] ++ 32 :: (wrapL (brkB 4 e.op) (exL e) ++ (moreL 4 l ++ L))) := by rw [moreL]; simp [sepL]
      have e2 : tkM 4 (e :: l) ++ T = worX [97, 110, 100] :: (wrapX (brkB 4 e.op) (tkE e) ++ (tkM 4 l ++ T)) := by rw [tkM]; simp [sepX]
      rw [e1, e2]; exact .blank rfl h3
    · have h3 := lex_word (w := [111, 114]) (by kernel_rfl) (ok_blank _) (.blank (c := 32) rfl h2)
      have e1 : moreL 5 (e :: l) ++ L = 32 :: ([111, 114] ++ 32 :: (wrapL (brkB 5 e.op) (exL e) ++ (moreL 5 l ++ L))) := by rw [moreL]; simp [sepL]
      have e2 : tkM 5 (e :: l) ++ T = worX [111, 114] :: (wrapX (brkB 5 e.op) (tkE e) ++ (tkM 5 l ++ T)) := by rw [tkM]; simp [sepX]
      rw [e1, e2]; exact .blank rfl h3
theorem lex_args (o : Int) (ho : o = 4 ∨ o = 5) (l : List Ex) (ha : ∀ e ∈ l, GEx e ∧ LexE e) {L : List UInt8} {T : List Nx} (hl : OkL L) (h : LexS L T) : LexS (argsL o l ++ L) (tkA o l ++ T) := by
  cases l with
  | nil => rw [argsL, tkA]; exact h
  | cons e l =>
    have h1 := lex_more o ho l (fun x hx => ha x (by simp [hx])) hl h
    have h2 := lex_wrap (ha e (by simp)).1 (ha e (by simp)).2 (brkB o e.op) (ok_more o ho l hl) h1
    rw [argsL, tkA, List.append_assoc, List.append_assoc]; exact h2
theorem lex_test {f : Int} {m : Nat} {r : Int} {v : Nat} (hf : 0 ≤ f ∧ f ≤ 6) (hr : 1 ≤ r ∧ r ≤ 6) (hm : m < 18446744073709551616) (hv : v < 18446744073709551616) {L : List UInt8} {T : List Nx} (ho : OkL L) (h : LexS L T) : LexS (testL f m r v ++ L) (tkT f m r v ++ T) := by
  have h1 := lex_num (dec_tok hv) ho h
  have h2 := lex_sig (rel_good hr) (ok_ne (ok_blank _)) (.blank (c := 32) rfl h1)
  have h3 : LexS (32 :: (rlL r ++ 32 :: (Lib.decDigits v ++ L))) (sigX (rlL r) :: numX (Lib.decDigits v) v :: T) := .blank rfl h2
  by_cases hx : m = 18446744073709551615
  · have h4 := lex_word (fld_word hf) (ok_blank _) h3
    have e1 : testL f m r v ++ L = fldL f ++ 32 :: (rlL r ++ 32 :: (Lib.decDigits v ++ L)) := by unfold testL maskL; rw [if_pos hx]; simp
    have e2 : tkT f m r v ++ T = worX (fldL f) :: sigX (rlL r) :: numX (Lib.decDigits v) v :: T := by unfold tkT; rw [if_pos hx]; rfl
    rw [e1, e2]; exact h4
  · have h4 := lex_num (hex_tok hm) (ok_blank _) h3
    have h5 := lex_sig (w := [38]) sig38 (ok_ne (ok_blank _)) (.blank (c := 32) rfl h4)
    have h6 := lex_word (fld_word hf) (ok_blank _) (.blank (c := 32) rfl h5)
    have e1 : testL f m r v ++ L = fldL f ++ 32 :: ([38] ++ 32 :: ((48 :: 120 :: hexL m) ++ 32 :: (rlL r ++ 32 :: (Lib.decDigits v ++ L)))) := by unfold testL maskL; rw [if_neg hx]; simp
    have e2 : tkT f m r v ++ T = worX (fldL f) :: sigX [38] :: numX (48 :: 120 :: hexL m) m :: sigX (rlL r) :: numX (Lib.decDigits v) v :: T := by unfold tkT; rw [if_neg hx]; rfl
    rw [e1, e2]; exact h6
theorem lex_ex {e : Ex} (h : GEx e) : LexE e := by
  induction h with
  | yes =>
    intro L T ho h
    rw [show Ex.plain 1 = .mk 1 [] 0 0 0 0 from rfl, exL, tkE, if_pos rfl, if_pos rfl]
    exact lex_word (by kernel_rfl) ho h
  | no =>
    intro L T ho h
    rw [show Ex.plain 2 = .mk 2 [] 0 0 0 0 from rfl, exL, tkE, if_neg (by decide), if_pos rfl, if_neg (by decide), if_pos rfl]
    exact lex_word (by kernel_rfl) ho h
  | @inv e hg ih =>
    intro L T ho h
    have h1 := lex_wrap hg ih (brkB 3 e.op) ho h
    have h2 := lex_word (w := [110, 111, 116]) (by kernel_rfl) (ok_blank _) (.blank (c := 32) rfl h1)
    have e1 : exL (.node 3 [e]) ++ L = [110, 111, 116] ++ 32 :: (wrapL (brkB 3 e.op) (exL e) ++ L) := by
      rw [show Ex.node 3 [e] = .mk 3 [e] 0 0 0 0 from rfl, exL, if_neg (by decide), if_neg (by decide), if_pos rfl, headL]; simp
    have e2 : tkE (.node 3 [e]) ++ T = worX [110, 111, 116] :: (wrapX (brkB 3 e.op) (tkE e) ++ T) := by
      rw [show Ex.node 3 [e] = .mk 3 [e] 0 0 0 0 from rfl, tkE, if_neg (by decide), if_neg (by decide), if_pos rfl, tkH]; rfl
    rw [e1, e2]; exact h2
  | @all l hl ha ih =>
    intro L T ho h
    rw [show Ex.node 4 l = .mk 4 l 0 0 0 0 from rfl, exL, tkE, if_neg (by decide), if_neg (by decide), if_neg (by decide), if_pos (by decide), if_neg (by decide), if_neg (by decide), if_neg (by decide), if_pos (by decide)]
    exact lex_args 4 (.inl rfl) l (fun e he => ⟨ha e he, ih e he⟩) ho h
  | @any l hl ha ih =>
    intro L T ho h
    rw [show Ex.node 5 l = .mk 5 l 0 0 0 0 from rfl, exL, tkE, if_neg (by decide), if_neg (by decide), if_neg (by decide), if_pos (by decide), if_neg (by decide), if_neg (by decide), if_neg (by decide), if_pos (by decide)]
    exact lex_args 5 (.inr rfl) l (fun e he => ⟨ha e he, ih e he⟩) ho h
  | @test f m r v hf hr hm hv =>
    intro L T ho h
    rw [exL, tkE, if_neg (by decide), if_neg (by decide), if_neg (by decide), if_neg (by decide), if_neg (by decide), if_neg (by decide), if_neg (by decide), if_neg (by decide)]
    exact lex_test hf hr hm hv ho h
/-! ### Policies -/
def tkCl9 (c : ByteArray × Nat) : Nx := if c.1 = ⟨#[]⟩ then numX (Lib.decDigits c.2) c.2 else ⟨2, c.1, 0, 0, 0, 0⟩
def tkV9 (v : Int × Nat) : List Nx := worX (kindL v.1) :: (if numK v.1 = true then [numX (Lib.decDigits v.2) v.2] else [])
def tkCs : List (ByteArray × Nat) → List Nx
  | [] => []
  | c :: l => sigX [44] :: tkCl9 c :: tkCs l
def tkF : List (ByteArray × Nat) → List Nx
  | [] => []
  | c :: l => tkCl9 c :: tkCs l
def tkW (e : Ex) : List Nx := if e.op = 1 then [] else worX [119, 104, 101, 110] :: tkE e
def tkR (r : Ru) : List Nx := worX [111, 110] :: (tkF r.calls ++ (tkW r.when_ ++ (worX [100, 111] :: (tkV9 r.do_ ++ [sigX [59]]))))
def tkRs : List Ru → List Nx
  | [] => []
  | r :: l => tkR r ++ tkRs l
def tkP (p : Po) : List Nx := worX [97, 114, 99, 104] :: ⟨2, p.arch, 0, 0, 0, 0⟩ :: sigX [59] :: worX [102, 111, 114, 101, 105, 103, 110] :: (tkV9 p.foreign_ ++ (sigX [59] :: worX [100, 101, 102, 97, 117, 108, 116] :: (tkV9 p.default_ ++ (sigX [59] :: tkRs p.rules))))
theorem name_tok {s : ByteArray} (h : NameB s) : GoodTok ⟨2, s, 0, 0, 0, 0⟩ where
  kinds := .inr (.inl rfl)
  one := fun h => absurd (show (2 : Int) = 1 from h) (by decide)
  some_ := fun _ => by have := (of_decide_eq_true (p := 1 ≤ s.size ∧ _) h).1; show 0 < s.size; omega
  two := fun _ => ⟨h, rfl⟩
  three := fun h => absurd (show (2 : Int) = 3 from h) (by decide)
  four := fun h => absurd (show (2 : Int) = 4 from h) (by decide)
theorem lex_name {s : ByteArray} (hs : NameB s) {L : List UInt8} {T : List Nx} (ho : OkL L) (h : LexS L T) : LexS (s.data.toList ++ L) (⟨2, s, 0, 0, 0, 0⟩ :: T) :=
  lex_tok (x := ⟨2, s, 0, 0, 0, 0⟩) rfl (name_tok hs) (show (2 : Int) ≠ 1 by decide) (ho.stops _) h
theorem lex_call {c : ByteArray × Nat} (hc : GCall c) {L : List UInt8} {T : List Nx} (ho : OkL L) (h : LexS L T) : LexS (callL c ++ L) (tkCl9 c :: T) := by
  unfold callL tkCl9
  by_cases h0 : c.1 = ⟨#[]⟩
  · rw [if_pos h0, if_pos h0]
    have hn : c.2 < 18446744073709551616 := by
      rcases hc with g | g
      · exact g.2
      · rw [g.2]; decide
    exact lex_num (dec_tok hn) ho h
  · rw [if_neg h0, if_neg h0]
    rcases hc with g | g
    · exact absurd g.1 h0
    · exact lex_name g.1 ho h
theorem kind_worOK {k : Int} (h : 1 ≤ k ∧ k ≤ 8) : worOK (byt (stL (kindL k))) (stL (kindL k)).size = true := by
  have h1 : worOK (byt (stL (kindL 1))) (stL (kindL 1)).size = true := by kernel_rfl
  have h2 : worOK (byt (stL (kindL 2))) (stL (kindL 2)).size = true := by kernel_rfl
  have h3 : worOK (byt (stL (kindL 3))) (stL (kindL 3)).size = true := by kernel_rfl
  have h4 : worOK (byt (stL (kindL 4))) (stL (kindL 4)).size = true := by kernel_rfl
  have h5 : worOK (byt (stL (kindL 5))) (stL (kindL 5)).size = true := by kernel_rfl
  have h6 : worOK (byt (stL (kindL 6))) (stL (kindL 6)).size = true := by kernel_rfl
  have h7 : worOK (byt (stL (kindL 7))) (stL (kindL 7)).size = true := by kernel_rfl
  have h8 : worOK (byt (stL (kindL 8))) (stL (kindL 8)).size = true := by kernel_rfl
  have : k = 1 ∨ k = 2 ∨ k = 3 ∨ k = 4 ∨ k = 5 ∨ k = 6 ∨ k = 7 ∨ k = 8 := by omega
  rcases this with rfl | rfl | rfl | rfl | rfl | rfl | rfl | rfl <;> assumption
theorem lex_verd {v : Int × Nat} (hv : GVd v) {L : List UInt8} {T : List Nx} (ho : OkL L) (h : LexS L T) : LexS (verdL v ++ L) (tkV9 v ++ T) := by
  unfold verdL tkV9
  by_cases hn : numK v.1 = true
  · rw [if_pos hn, if_pos hn]
    have h1 := lex_num (dec_tok hv.2.1) ho h
    have h2 := lex_word (kind_worOK hv.1) (ok_blank _) (.blank (c := 32) rfl h1)
    rw [List.append_assoc]; exact h2
  · rw [if_neg hn, if_neg hn]
    exact lex_word (kind_worOK hv.1) ho h
theorem ok_calls (l : List (ByteArray × Nat)) {L : List UInt8} (h : OkL L) : OkL (callsL l ++ L) := by
  cases l with
  | nil => rw [callsL]; exact h
  | cons c l => rw [callsL]; exact ⟨rfl, by decide⟩
theorem lex_calls : ∀ (l : List (ByteArray × Nat)), (∀ c ∈ l, GCall c) → ∀ {L : List UInt8} {T : List Nx}, OkL L → LexS L T → LexS (callsL l ++ L) (tkCs l ++ T)
  | [], _, L, T, _, h => by rw [callsL, tkCs]; exact h
  | c :: l, ha, L, T, hl, h => by
    have h1 := lex_calls l (fun x hx => ha x (by simp [hx])) hl h
    have h2 := lex_call (ha c (by simp)) (ok_calls l hl) h1
    have h3 := lex_sig (w := [44]) sig44 (ok_ne (ok_blank _)) (.blank (c := 32) rfl h2)
    have e1 : callsL (c :: l) ++ L = [44] ++ 32 :: (callL c ++ (callsL l ++ L)) := by rw [callsL]; simp
    rw [e1]; exact h3
theorem lex_first {l : List (ByteArray × Nat)} (ha : ∀ c ∈ l, GCall c) {L : List UInt8} {T : List Nx} (hl : OkL L) (h : LexS L T) : LexS (firstL l ++ L) (tkF l ++ T) := by
  cases l with
  | nil => rw [firstL, tkF]; exact h
  | cons c l =>
    have h1 := lex_calls l (fun x hx => ha x (by simp [hx])) hl h
    rw [firstL, tkF, List.append_assoc]
    exact lex_call (ha c (by simp)) (ok_calls l hl) h1
theorem lex_rule {r : Ru} (hr : GRu r) {L : List UInt8} {T : List Nx} (h : LexS L T) : LexS (ruleL r ++ L) (tkR r ++ T) := by
  have h1 : LexS ([59] ++ 10 :: L) (sigX [59] :: T) := lex_sig (w := [59]) sig59 (fun c r' e => by injection e with e1 _; rw [← e1]; decide) (.blank (c := 10) rfl h)
  have h2 := lex_verd hr.do_ (L := [59] ++ 10 :: L) (ok_semi _) h1
  have h3 := lex_word (w := [100, 111]) (by kernel_rfl) (ok_blank _) (.blank (c := 32) rfl h2)
  have h4 : LexS (32 :: ([100, 111] ++ 32 :: (verdL r.do_ ++ ([59] ++ 10 :: L)))) (worX [100, 111] :: (tkV9 r.do_ ++ sigX [59] :: T)) := .blank rfl h3
  have h5 : LexS (whenL r.when_ ++ 32 :: ([100, 111] ++ 32 :: (verdL r.do_ ++ ([59] ++ 10 :: L)))) (tkW r.when_ ++ worX [100, 111] :: (tkV9 r.do_ ++ sigX [59] :: T)) := by
    unfold whenL tkW
    by_cases ho : r.when_.op = 1
    · rw [if_pos ho, if_pos ho]; exact h4
    · rw [if_neg ho, if_neg ho]
      have g1 := lex_ex hr.when_ _ _ (ok_blank _) h4
      have g2 := lex_word (w := [119, 104, 101, 110]) (by kernel_rfl) (ok_blank _) (.blank (c := 32) rfl g1)
      have g3 : LexS (32 :: ([119, 104, 101, 110] ++ 32 :: (exL r.when_ ++ 32 :: ([100, 111] ++ 32 :: (verdL r.do_ ++ ([59] ++ 10 :: L)))))) _ := .blank rfl g2
      have e1 : [32, 119, 104, 101, 110, 32] ++ exL r.when_ ++ 32 :: ([100, 111] ++ 32 :: (verdL r.do_ ++ ([59] ++ 10 :: L))) = 32 :: ([119, 104, 101, 110] ++ 32 :: (exL r.when_ ++ 32 :: ([100, 111] ++ 32 :: (verdL r.do_ ++ ([59] ++ 10 :: L))))) := by simp
      rw [e1]; exact g3
  have hok : OkL (whenL r.when_ ++ 32 :: ([100, 111] ++ 32 :: (verdL r.do_ ++ ([59] ++ 10 :: L)))) := by
    unfold whenL; split
    · exact ok_blank _
    · exact ok_blank _
  have h6 := lex_first hr.calls.2.2 hok h5
  have h7 := lex_word (w := [111, 110]) (by kernel_rfl) (ok_blank _) (.blank (c := 32) rfl h6)
  have e1 : ruleL r ++ L = [111, 110] ++ 32 :: (firstL r.calls ++ (whenL r.when_ ++ 32 :: ([100, 111] ++ 32 :: (verdL r.do_ ++ ([59] ++ 10 :: L))))) := by unfold ruleL; simp
  have e2 : tkR r ++ T = worX [111, 110] :: (tkF r.calls ++ (tkW r.when_ ++ worX [100, 111] :: (tkV9 r.do_ ++ sigX [59] :: T))) := by unfold tkR; simp
  rw [e1, e2]; exact h7
theorem lex_rules : ∀ l : List Ru, (∀ r ∈ l, GRu r) → LexS (rulesL l) (tkRs l)
  | [], _ => by rw [rulesL, tkRs]; exact .nil
  | r :: l, h => by
    rw [rulesL, tkRs]
    exact lex_rule (h r (by simp)) (lex_rules l (fun x hx => h x (by simp [hx])))
theorem lex_pol {p : Po} (h : GPo p) : LexS (polL p) (tkP p) := by
  have semi : ∀ {L : List UInt8} {T : List Nx}, LexS L T → LexS ([59] ++ 10 :: L) (sigX [59] :: T) := fun hL => lex_sig (w := [59]) sig59 (fun c r' e => by injection e with e1 _; rw [← e1]; decide) (.blank (c := 10) rfl hL)
  have h1 := semi (lex_rules p.rules h.rules.2)
  have h2 := lex_verd h.default_ (L := [59] ++ 10 :: rulesL p.rules) (ok_semi _) h1
  have h3 := lex_word (w := [100, 101, 102, 97, 117, 108, 116]) (by kernel_rfl) (ok_blank _) (.blank (c := 32) rfl h2)
  have h4 := semi h3
  have h5 := lex_verd h.foreign_ (L := [59] ++ 10 :: ([100, 101, 102, 97, 117, 108, 116] ++ 32 :: (verdL p.default_ ++ ([59] ++ 10 :: rulesL p.rules)))) (ok_semi _) h4
  have h6 := lex_word (w := [102, 111, 114, 101, 105, 103, 110]) (by kernel_rfl) (ok_blank _) (.blank (c := 32) rfl h5)
  have h7 := semi h6
  have h8 := lex_name h.arch (L := [59] ++ 10 :: ([102, 111, 114, 101, 105, 103, 110] ++ 32 :: (verdL p.foreign_ ++ ([59] ++ 10 :: ([100, 101, 102, 97, 117, 108, 116] ++ 32 :: (verdL p.default_ ++ ([59] ++ 10 :: rulesL p.rules))))))) (ok_semi _) h7
  have h9 := lex_word (w := [97, 114, 99, 104]) (by kernel_rfl) (ok_blank _) (.blank (c := 32) rfl h8)
  have e1 : polL p = [97, 114, 99, 104] ++ 32 :: (p.arch.data.toList ++ ([59] ++ 10 :: ([102, 111, 114, 101, 105, 103, 110] ++ 32 :: (verdL p.foreign_ ++ ([59] ++ 10 :: ([100, 101, 102, 97, 117, 108, 116] ++ 32 :: (verdL p.default_ ++ ([59] ++ 10 :: rulesL p.rules)))))))) := by unfold polL headsL; simp
  rw [e1]; exact h9
end Go.Proofs.YtgeapkjegemkeaaGreatDoor
namespace Go.Proofs.YtgeapkjegemkeaaGreatDoor
open Go Go.RowKit
set_option linter.unusedSimpArgs false
set_option linter.unusedVariables false

theorem expr_shut (s : ByteArray) : match exprF s with
    | .ok _ _ => True
    | .bad e _ => e ≠ 0
    | .out => False := by
  have hS := lexd s
  have hE := exprN_sim hS (Nat.lt_succ_self (srcF s).toks.length)
  unfold exprF readG
  by_cases h0 : 0 < (srcF s).toks.length
  · rw [if_pos h0]
    obtain ⟨⟨x, r1⟩, hx, hsim⟩ := hE.1 h0
    unfold wholeG
    generalize exprG (srcF s) ((srcF s).toks.length + 1) 0 0 = g at hsim ⊢
    rcases g with ⟨v, j⟩ | ⟨e, p⟩ | _
    · show match (if (tk (srcF s) j).kind = 1 then Got.ok v j else noG (srcF s) j) with
        | .ok _ _ => True
        | .bad e _ => e ≠ 0
        | .out => False
      by_cases hk : (tk (srcF s) j).kind = 1
      · rw [if_pos hk]; trivial
      · rw [if_neg hk]
        show (61 : Int) ≠ 0
        decide
    · exact Bad.ne (show Bad (srcF s) r1 e p from hsim)
    · exact hsim.elim
  · rw [if_neg h0]
    obtain ⟨⟨x, r1⟩, hx, hb⟩ := hE.2 h0
    exact hb.ne
theorem good_resEx (s : ByteArray) (h : (resEx (exprF s)).2.1 = 0) : GEx (resEx (exprF s)).1 ∧ wtE (resEx (exprF s)).1 ≤ 140000 := by
  have hsh := expr_shut s
  have hg : All (fun x => GEx x ∧ wtE x ≤ 140000) (exprF s) := by
    unfold exprF readG
    by_cases h0 : 0 < (srcF s).toks.length
    · rw [if_pos h0]
      exact fun x j e => ⟨gd_whole (tok_ok s) _ 0 h0 x j e, wt_whole (src_small s) _ 0 h0 x j e⟩
    · rw [if_neg h0]; exact all_bad _ _
  generalize exprF s = g at h hsh hg ⊢
  rcases g with ⟨v, j⟩ | ⟨e, p⟩ | _
  · exact hg v j rfl
  · exact absurd h hsh
  · exact hsh.elim
theorem good_resPo (s : ByteArray) (h : (resPo (policyF s)).2.1 = 0) : GPo (resPo (policyF s)).1 ∧ ∀ r ∈ (resPo (policyF s)).1.rules, wtE r.when_ ≤ 140000 := by
  obtain ⟨lr, re, _, hsh⟩ := parse_all s
  have hg : All (fun p : Po => GPo p ∧ ∀ r ∈ p.rules, wtE r.when_ ≤ 140000) (policyF s) := by
    unfold policyF readG
    exact all_ite (fun x j e => ⟨gd_policy (src_small s) (tok_ok s) _ 0 x j e, wt_policy (src_small s) _ 0 x j e⟩) (all_bad _ _)
  generalize policyF s = g at h hsh hg ⊢
  rcases g with ⟨v, j⟩ | ⟨e, p⟩ | _
  · exact hg v j rfl
  · exact absurd h hsh.1
  · exact hsh.elim
end Go.Proofs.YtgeapkjegemkeaaGreatDoor
namespace Go.Proofs.YtgeapkjegemkeaaGreatDoor
set_option linter.unusedSimpArgs false
set_option linter.unusedVariables false

/-- From token i on these stand there. -/
def AtS (S : Src) (i : Nat) (l : List Nx) : Prop := (∀ k, (h : k < l.length) → (tk S (i + k)).core = l[k].core) ∧ i + l.length ≤ S.toks.length
section
variable {S : Src}
theorem AtS.head {i : Nat} {x : Nx} {l : List Nx} (h : AtS S i (x :: l)) : (tk S i).kind = x.kind ∧ (tk S i).text = x.text ∧ (tk S i).num = x.num := by
  have := h.1 0 (by simp)
  simp only [Nx.core, Nat.add_zero, List.getElem_cons_zero, Prod.mk.injEq] at this
  exact this
theorem AtS.tail {i : Nat} {x : Nx} {l : List Nx} (h : AtS S i (x :: l)) : AtS S (i + 1) l :=
  ⟨fun k hk => by have := h.1 (k + 1) (by simp; omega); rw [show i + 1 + k = i + (k + 1) by omega, this]; rfl, by have := h.2; simp only [List.length_cons] at this; omega⟩
theorem AtS.lt {i : Nat} {x : Nx} {l : List Nx} (h : AtS S i (x :: l)) (hl : l ≠ []) : i + 1 < S.toks.length := by
  have := h.2
  have := List.length_pos_iff.2 hl
  simp only [List.length_cons] at *
  omega
theorem AtS.drop {i : Nat} : ∀ {a b : List Nx}, AtS S i (a ++ b) → AtS S (i + a.length) b
  | [], b, h => h
  | x :: a, b, h => by
    have := AtS.drop (i := i + 1) (a := a) (b := b) h.tail
    rw [List.length_cons, show i + (a.length + 1) = i + 1 + a.length by omega]; exact this
theorem adv_to {α : Type} {i : Nat} {x : Nx} {l : List Nx} (h : AtS S i (x :: l)) (hl : l ≠ []) (v : α) : adv S i v = .ok v (i + 1) := if_pos (h.lt hl)
theorem demand_to {i : Nat} {x : Nx} {l : List Nx} (h : AtS S i (x :: l)) (hl : l ≠ []) {t : ByteArray} (ht : x.text = t) : demandG S t i = .ok () (i + 1) := by
  unfold demandG; rw [if_pos (h.head.2.1.trans ht), adv_to h hl]
theorem num_to {i : Nat} {n : List UInt8} {v : Nat} {l : List Nx} (h : AtS S i (numX n v :: l)) (hl : l ≠ []) : numG S i = .ok v (i + 1) := by
  unfold numG takeG
  rw [if_pos (show (tk S i).kind = 3 from h.head.1), adv_to h hl]
  show Got.ok (tk S i).num (i + 1) = _
  rw [h.head.2.2]; rfl
theorem name_to {i : Nat} {s : ByteArray} {l : List Nx} (h : AtS S i (⟨2, s, 0, 0, 0, 0⟩ :: l)) (hl : l ≠ []) : nameG S i = .ok s (i + 1) := by
  unfold nameG takeG
  rw [if_pos (show (tk S i).kind = 2 from h.head.1), adv_to h hl]
  show Got.ok (tk S i).text (i + 1) = _
  rw [h.head.2.1]
theorem fieldF_fld {f : Int} (h : 0 ≤ f ∧ f ≤ 6) : fieldF (stL (fldL f)) = f ∧ stL (fldL f) ≠ bNot ∧ stL (fldL f) ≠ bOpen ∧ stL (fldL f) ≠ bTrue ∧ stL (fldL f) ≠ bFalse := by
  have : f = 0 ∨ f = 1 ∨ f = 2 ∨ f = 3 ∨ f = 4 ∨ f = 5 ∨ f = 6 := by omega
  rcases this with rfl | rfl | rfl | rfl | rfl | rfl | rfl <;> decide
theorem relF_rl {r : Int} (h : 1 ≤ r ∧ r ≤ 6) : relF (stL (rlL r)) = r ∧ stL (rlL r) ≠ bAmp := by
  have : r = 1 ∨ r = 2 ∨ r = 3 ∨ r = 4 ∨ r = 5 ∨ r = 6 := by omega
  rcases this with rfl | rfl | rfl | rfl | rfl | rfl <;> decide
theorem test_to {f : Int} {m : Nat} {r : Int} {v : Nat} (hf : 0 ≤ f ∧ f ≤ 6) (hr : 1 ≤ r ∧ r ≤ 6) {i : Nat} {y : Nx} {R : List Nx} (h : AtS S i (tkT f m r v ++ y :: R)) : testG S i = .ok (.mk 6 [] f m r v) (i + (tkT f m r v).length) := by
  have hfl := fieldF_fld hf
  have hrl := relF_rl hr
  unfold tkT at h ⊢
  have h0 : AtS S i (worX (fldL f) :: (((if m = 18446744073709551615 then [] else [sigX [38], numX (48 :: 120 :: hexL m) m]) ++ [sigX (rlL r), numX (Lib.decDigits v) v]) ++ y :: R)) := h
  have ht : (tk S i).text = stL (fldL f) := h0.head.2.1
  unfold testG
  rw [ht, hfl.1, if_neg (by omega), adv_to h0 (by simp)]
  show ((maskG S (i + 1)).andThen _) = _
  by_cases hm : m = 18446744073709551615
  · rw [if_pos hm] at h0 ⊢
    have h1 : AtS S (i + 1) (sigX (rlL r) :: numX (Lib.decDigits v) v :: y :: R) := h0.tail
    have hm1 : maskG S (i + 1) = .ok m (i + 1) := by
      unfold maskG
      rw [if_neg (by rw [h1.head.2.1]; exact hrl.2), hm]
    rw [hm1]
    show ((relG S (i + 1)).andThen _) = _
    have hr1 : relG S (i + 1) = .ok r (i + 1 + 1) := by
      unfold relG
      rw [h1.head.2.1]
      show (if relF (stL (rlL r)) = 0 then _ else _) = _
      rw [hrl.1, if_neg (by omega), adv_to h1 (by simp)]
      show Got.ok (relF (stL (rlL r))) _ = _
      rw [hrl.1]
    rw [hr1]
    show ((numG S (i + 1 + 1)).andThen _) = _
    rw [num_to h1.tail (by simp)]
    rfl
  · rw [if_neg hm] at h0 ⊢
    have h1 : AtS S (i + 1) (sigX [38] :: numX (48 :: 120 :: hexL m) m :: sigX (rlL r) :: numX (Lib.decDigits v) v :: y :: R) := h0.tail
    have hm1 : maskG S (i + 1) = .ok m (i + 1 + 1 + 1) := by
      unfold maskG
      rw [if_pos (show (tk S (i + 1)).text = bAmp from h1.head.2.1), adv_to h1 (by simp)]
      exact num_to h1.tail (by simp)
    rw [hm1]
    show ((relG S (i + 1 + 1 + 1)).andThen _) = _
    have h2 := h1.tail.tail
    have hr1 : relG S (i + 1 + 1 + 1) = .ok r (i + 1 + 1 + 1 + 1) := by
      unfold relG
      rw [h2.head.2.1]
      show (if relF (stL (rlL r)) = 0 then _ else _) = _
      rw [hrl.1, if_neg (by omega), adv_to h2 (by simp)]
      show Got.ok (relF (stL (rlL r))) _ = _
      rw [hrl.1]
    rw [hr1]
    show ((numG S (i + 1 + 1 + 1 + 1)).andThen _) = _
    rw [num_to h2.tail (by simp)]
    rfl
/-! ### Lists -/
theorem turns_to {mark : ByteArray} {item : Nat → Got Ex} {o : Int} (hs : (sepX o).text = mark) (Nxt : ByteArray → Prop) (hN : Nxt mark) : ∀ (l acc : List Ex) (i n : Nat) (y : Nx) (R : List Nx), AtS S i (tkM o l ++ y :: R) → y.text ≠ mark → Nxt y.text → l.length < n →
    (∀ e ∈ l, ∀ (j : Nat) (z : Nx) (Q : List Nx), AtS S j (wrapX (brkB o e.op) (tkE e) ++ z :: Q) → Nxt z.text → item j = .ok e (j + (wrapX (brkB o e.op) (tkE e)).length)) →
    turnsG S mark item n acc i = .ok (acc ++ l) (i + (tkM o l).length)
  | [], acc, i, n + 1, y, R, h, hy, _, _, _ => by
    rw [tkM] at h ⊢
    unfold turnsG
    rw [if_neg (by rw [AtS.head (x := y) (l := R) h |>.2.1]; exact hy), List.append_nil]; rfl
  | e :: l, acc, i, n + 1, y, R, h, hy, hyN, hn, hit => by
    rw [tkM] at h ⊢
    have h0 : AtS S i (sepX o :: (wrapX (brkB o e.op) (tkE e) ++ (tkM o l ++ y :: R))) := by
      have e1 : (sepX o :: (wrapX (brkB o e.op) (tkE e) ++ tkM o l)) ++ y :: R = sepX o :: (wrapX (brkB o e.op) (tkE e) ++ (tkM o l ++ y :: R)) := by simp
      rw [← e1]; exact h
    unfold turnsG
    rw [if_pos (h0.head.2.1.trans hs), adv_to h0 (by simp)]
    show ((item (i + 1)).andThen _) = _
    have h1 := h0.tail
    have hi1 : item (i + 1) = .ok e (i + 1 + (wrapX (brkB o e.op) (tkE e)).length) := by
      cases l with
      | nil =>
        rw [tkM, List.nil_append] at h1
        exact hit e (by simp) (i + 1) y R h1 hyN
      | cons a l =>
        rw [tkM] at h1
        exact hit e (by simp) (i + 1) (sepX o) _ h1 (by rw [hs]; exact hN)
    rw [hi1]
    show turnsG S mark item n (acc ++ [e]) _ = _
    have h2 := h1.drop
    rw [turns_to hs Nxt hN l (acc ++ [e]) _ n y R h2 hy hyN (by simpa using hn) (fun x hx => hit x (by simp [hx]))]
    rw [List.append_assoc]
    congr 1
    simp only [List.length_cons, List.length_append]; omega
theorem byTurns_to {mark : ByteArray} {item : Nat → Got Ex} {o : Int} (hs : (sepX o).text = mark) (Nxt : ByteArray → Prop) (hN : Nxt mark) {l : List Ex} (hl : l ≠ []) {i n : Nat} {y : Nx} {R : List Nx} (h : AtS S i (tkA o l ++ y :: R)) (hy : y.text ≠ mark) (hyN : Nxt y.text) (hn : l.length ≤ n)
    (hit : ∀ e ∈ l, ∀ (j : Nat) (z : Nx) (Q : List Nx), AtS S j (wrapX (brkB o e.op) (tkE e) ++ z :: Q) → Nxt z.text → item j = .ok e (j + (wrapX (brkB o e.op) (tkE e)).length)) :
    byTurnsG S mark item n i = .ok l (i + (tkA o l).length) := by
  match l, hl with
  | e :: l, _ =>
    rw [tkA] at h ⊢
    rw [List.append_assoc] at h
    unfold byTurnsG
    have hi1 : item i = .ok e (i + (wrapX (brkB o e.op) (tkE e)).length) := by
      cases l with
      | nil =>
        rw [tkM, List.nil_append] at h
        exact hit e (by simp) i y R h hyN
      | cons a l =>
        rw [tkM] at h
        exact hit e (by simp) i (sepX o) _ h (by rw [hs]; exact hN)
    rw [hi1]
    show turnsG S mark item n [e] _ = _
    rw [turns_to hs Nxt hN l [e] _ n y R h.drop hy hyN (by simp only [List.length_cons] at hn; omega) (fun x hx => hit x (by simp [hx]))]
    congr 1
    rw [List.length_append]; omega
theorem byTurns_one {mark : ByteArray} {item : Nat → Got Ex} {e : Ex} {i j n : Nat} (hi : item i = .ok e j) {y : Nx} {R : List Nx} (h : AtS S j (y :: R)) (hy : y.text ≠ mark) (hn : 1 ≤ n) : byTurnsG S mark item n i = .ok [e] j := by
  unfold byTurnsG
  rw [hi]
  show turnsG S mark item n [e] j = _
  match n, hn with
  | n + 1, _ =>
    unfold turnsG
    rw [if_neg (by rw [h.head.2.1]; exact hy)]
/-! ### Expressions -/
def PO (S : Src) (x : Ex) : Prop := ∀ (i d n : Nat) (y : Nx) (R : List Nx), AtS S i (tkE x ++ y :: R) → (tkE x).length ≤ n → d + deepN x ≤ 64 → oneG S n d i = .ok x (i + (tkE x).length)
def PX (S : Src) (x : Ex) : Prop := ∀ (i d n : Nat) (y : Nx) (R : List Nx), AtS S i (tkE x ++ y :: R) → y.text ≠ bAnd → y.text ≠ bOr → (tkE x).length ≤ n → d + deepN x ≤ 64 → exprH S (oneG S n d) n i = .ok x (i + (tkE x).length)
def PA (S : Src) (x : Ex) : Prop := ∀ (i d n : Nat) (y : Nx) (R : List Nx), AtS S i (tkE x ++ y :: R) → y.text ≠ bAnd → (tkE x).length ≤ n → d + deepN x ≤ 64 → allG S (oneG S n d) n i = .ok x (i + (tkE x).length)
theorem tk_pos {e : Ex} (h : GEx e) : 0 < (tkE e).length := by
  induction h with
  | yes => rw [show Ex.plain 1 = .mk 1 [] 0 0 0 0 from rfl, tkE, if_pos rfl]; simp
  | no => rw [show Ex.plain 2 = .mk 2 [] 0 0 0 0 from rfl, tkE, if_neg (by decide), if_pos rfl]; simp
  | @inv e h ih => rw [show Ex.node 3 [e] = .mk 3 [e] 0 0 0 0 from rfl, tkE, if_neg (by decide), if_neg (by decide), if_pos rfl]; simp
  | @all l hl ha ih =>
    match l, hl, ih with
    | e :: l, _, ih =>
      have := ih e (by simp)
      rw [show Ex.node 4 (e :: l) = .mk 4 (e :: l) 0 0 0 0 from rfl, tkE, if_neg (by decide), if_neg (by decide), if_neg (by decide), if_pos (by decide), tkA, List.length_append]
      unfold wrapX; split
      · simp only [List.length_cons]; omega
      · omega
  | @any l hl ha ih =>
    match l, hl, ih with
    | e :: l, _, ih =>
      have := ih e (by simp)
      rw [show Ex.node 5 (e :: l) = .mk 5 (e :: l) 0 0 0 0 from rfl, tkE, if_neg (by decide), if_neg (by decide), if_neg (by decide), if_pos (by decide), tkA, List.length_append]
      unfold wrapX; split
      · simp only [List.length_cons]; omega
      · omega
  | @test f m r v hf hr hm hv =>
    rw [tkE, if_neg (by decide), if_neg (by decide), if_neg (by decide), if_neg (by decide)]
    unfold tkT; simp
/-- In parentheses. -/
theorem po_wrap {x : Ex} (hx : PX S x) {i d n : Nat} {z : Nx} {R : List Nx} (h : AtS S i (wrapX true (tkE x) ++ z :: R)) (hn : (wrapX true (tkE x)).length ≤ n) (hd : d + 1 + deepN x ≤ 64) : oneG S n d i = .ok x (i + (wrapX true (tkE x)).length) := by
  have h0 : AtS S i (sigX [40] :: (tkE x ++ sigX [41] :: z :: R)) := by
    have e1 : wrapX true (tkE x) ++ z :: R = sigX [40] :: (tkE x ++ sigX [41] :: z :: R) := by show (sigX [40] :: (tkE x ++ [sigX [41]])) ++ z :: R = _; simp
    rw [← e1]; exact h
  have hl : (wrapX true (tkE x)).length = (tkE x).length + 2 := by show (sigX [40] :: (tkE x ++ [sigX [41]])).length = _; simp
  rw [hl] at hn ⊢
  match n, hn with
  | n + 1, hn =>
    show oneH S (oneG S n) (fun d => exprH S (oneG S n d) n) d i = _
    unfold oneH
    have ht : (tk S i).text = bOpen := h0.head.2.1
    rw [ht, if_neg (by decide), if_pos rfl]
    have ho : openG S d i = .ok () (i + 1) := by unfold openG; rw [if_neg (by omega), adv_to h0 (by simp)]
    rw [ho]
    show ((exprH S (oneG S n (d + 1)) n (i + 1)).andThen _) = _
    rw [hx (i + 1) (d + 1) n (sigX [41]) (z :: R) h0.tail (by decide) (by decide) (by omega) (by omega)]
    show ((demandG S bShut (i + 1 + (tkE x).length)).andThen _) = _
    rw [demand_to (t := bShut) h0.tail.drop (by simp) rfl]
    show Got.ok x _ = _
    congr 1; omega
theorem pa_one {x : Ex} (hp : 0 < (tkE x).length) (h : PO S x) : PA S x := by
  intro i d n y R ha hy hn hd
  unfold allG
  rw [byTurns_one (h i d n _ _ ha hn hd) ha.drop hy (by omega)]
  rfl
theorem px_all {x : Ex} (hp : 0 < (tkE x).length) (h : PA S x) : PX S x := by
  intro i d n y R ha hy hy2 hn hd
  unfold exprH
  rw [byTurns_one (h i d n y R ha hy hn hd) ha.drop hy2 (by omega)]
  rfl
theorem join_two {o : Int} {l : List Ex} (h : 2 ≤ l.length) : joinE o l = .node o l := by
  match l, h with
  | a :: b :: l, _ => rfl
theorem deeps_in {o : Int} {e : Ex} : ∀ {l : List Ex}, e ∈ l → (if o = 3 then 1 else 0) + (if brkB o e.op = true then 1 else 0) + deepN e ≤ deepsN o l
  | a :: l, h => by
    rw [deepsN]
    rcases List.mem_cons.1 h with rfl | h
    · omega
    · have := deeps_in (o := o) h; omega
theorem tk_in {o : Int} {e : Ex} : ∀ {l : List Ex}, e ∈ l → (wrapX (brkB o e.op) (tkE e)).length ≤ (tkM o l).length
  | a :: l, h => by
    rw [tkM, List.length_cons, List.length_append]
    rcases List.mem_cons.1 h with rfl | h
    · omega
    · have := tk_in (o := o) h; omega
theorem tk_inA {o : Int} {e : Ex} {l : List Ex} (h : e ∈ l) : (wrapX (brkB o e.op) (tkE e)).length ≤ (tkA o l).length := by
  cases l with
  | nil => cases h
  | cons a l =>
    rw [tkA, List.length_append]
    rcases List.mem_cons.1 h with rfl | h
    · omega
    · have := tk_in (o := o) h; omega
theorem tk_len (o : Int) : ∀ l : List Ex, l.length ≤ (tkM o l).length
  | [] => Nat.le_refl _
  | e :: l => by have := tk_len o l; rw [tkM]; simp only [List.length_cons, List.length_append]; omega
theorem wrap_pos {e : Ex} (h : GEx e) (b : Bool) : 0 < (wrapX b (tkE e)).length := by
  have := tk_pos h
  unfold wrapX; split
  · simp
  · exact this
theorem tk_lenA (o : Int) {l : List Ex} (h : ∀ e ∈ l, GEx e) : l.length ≤ (tkA o l).length := by
  cases l with
  | nil => exact Nat.zero_le _
  | cons e l =>
    have h1 := tk_len o l
    have h2 := wrap_pos (h e (by simp)) (brkB o e.op)
    rw [tkA]; simp only [List.length_cons, List.length_append]; omega
theorem tk_node4 (l : List Ex) : tkE (.node 4 l) = tkA 4 l := by rw [Ex.node, tkE, if_neg (by decide), if_neg (by decide), if_neg (by decide), if_pos (by decide)]
theorem tk_node5 (l : List Ex) : tkE (.node 5 l) = tkA 5 l := by rw [Ex.node, tkE, if_neg (by decide), if_neg (by decide), if_neg (by decide), if_pos (by decide)]
theorem tk_node3 (e : Ex) : tkE (.node 3 [e]) = worX [110, 111, 116] :: wrapX (brkB 3 e.op) (tkE e) := by rw [Ex.node, tkE, if_neg (by decide), if_neg (by decide), if_pos rfl, tkH]
theorem brk4 (i : Int) : brkB 4 i = decide (i = 4 ∨ i = 5) := if_pos (.inr rfl)
theorem brk3 (i : Int) : brkB 3 i = decide (i = 4 ∨ i = 5) := if_pos (.inl rfl)
theorem brk5 (i : Int) : brkB 5 i = decide (i = 5) := (if_neg (by decide)).trans (if_pos rfl)
/-- What is known of an expression. -/
structure PAll (S : Src) (x : Ex) : Prop where
  one : x.op ≠ 4 → x.op ≠ 5 → PO S x
  all : x.op ≠ 5 → PA S x
  expr : PX S x
theorem pall_one {x : Ex} (hg : GEx x) (h : PO S x) : PAll S x := ⟨fun _ _ => h, fun _ => pa_one (tk_pos hg) h, px_all (tk_pos hg) (pa_one (tk_pos hg) h)⟩
theorem one_wrapped {y : Ex} (h : PAll S y) {i d n : Nat} {z : Nx} {R : List Nx} (ha : AtS S i (wrapX (decide (y.op = 4 ∨ y.op = 5)) (tkE y) ++ z :: R)) (hn : (wrapX (decide (y.op = 4 ∨ y.op = 5)) (tkE y)).length ≤ n) (hd : d + (if decide (y.op = 4 ∨ y.op = 5) = true then 1 else 0) + deepN y ≤ 64) :
    oneG S n d i = .ok y (i + (wrapX (decide (y.op = 4 ∨ y.op = 5)) (tkE y)).length) := by
  by_cases hq : y.op = 4 ∨ y.op = 5
  · rw [decide_eq_true hq] at ha hn hd ⊢
    exact po_wrap h.expr ha hn (by simpa using hd)
  · rw [decide_eq_false hq] at ha hn hd ⊢
    exact h.one (fun e => hq (.inl e)) (fun e => hq (.inr e)) i d n z R ha hn (by simpa using hd)
theorem gr_ex {x : Ex} (h : GEx x) : PAll S x := by
  induction h with
  | yes =>
    refine pall_one .yes (fun i d n z R ha hn hd => ?_)
    have e : tkE (.plain 1) = [worX [116, 114, 117, 101]] := by rw [show Ex.plain 1 = .mk 1 [] 0 0 0 0 from rfl, tkE, if_pos rfl]
    rw [e] at ha hn ⊢
    match n, hn with
    | n + 1, _ =>
      show oneH S (oneG S n) (fun d => exprH S (oneG S n d) n) d i = _
      unfold oneH
      have ht : (tk S i).text = bTrue := (AtS.head (x := worX [116, 114, 117, 101]) (l := z :: R) ha).2.1
      rw [ht, if_neg (by decide), if_neg (by decide), if_pos rfl, adv_to (x := worX [116, 114, 117, 101]) (l := z :: R) ha (by simp)]
      rfl
  | no =>
    refine pall_one .no (fun i d n z R ha hn hd => ?_)
    have e : tkE (.plain 2) = [worX [102, 97, 108, 115, 101]] := by rw [show Ex.plain 2 = .mk 2 [] 0 0 0 0 from rfl, tkE, if_neg (by decide), if_pos rfl]
    rw [e] at ha hn ⊢
    match n, hn with
    | n + 1, _ =>
      show oneH S (oneG S n) (fun d => exprH S (oneG S n d) n) d i = _
      unfold oneH
      have ht : (tk S i).text = bFalse := (AtS.head (x := worX [102, 97, 108, 115, 101]) (l := z :: R) ha).2.1
      rw [ht, if_neg (by decide), if_neg (by decide), if_neg (by decide), if_pos rfl, adv_to (x := worX [102, 97, 108, 115, 101]) (l := z :: R) ha (by simp)]
      rfl
  | @inv y hg ih =>
    refine pall_one (.inv hg) (fun i d n z R ha hn hd => ?_)
    rw [tk_node3] at ha hn ⊢
    have hdp : deepN (.node 3 [y]) = 1 + (if brkB 3 y.op = true then 1 else 0) + deepN y := by rw [Ex.node, deepN, deepsN, deepsN, if_pos rfl]; omega
    rw [hdp, brk3] at hd
    rw [brk3] at ha hn ⊢
    match n, hn with
    | n + 1, hn =>
      show oneH S (oneG S n) (fun d => exprH S (oneG S n d) n) d i = _
      unfold oneH
      have h0 : AtS S i (worX [110, 111, 116] :: (wrapX (decide (y.op = 4 ∨ y.op = 5)) (tkE y) ++ z :: R)) := ha
      have ht : (tk S i).text = bNot := h0.head.2.1
      rw [ht, if_pos rfl]
      have ho : openG S d i = .ok () (i + 1) := by unfold openG; rw [if_neg (by omega), adv_to h0 (by simp)]
      rw [ho]
      show ((oneG S n (d + 1) (i + 1)).andThen _) = _
      rw [one_wrapped ih h0.tail (by simp only [List.length_cons] at hn; omega) (by omega)]
      show Got.ok _ _ = _
      congr 1
      simp only [List.length_cons]; omega
  | @all l hl ha ih =>
    have hA : PA S (.node 4 l) := by
      intro i d n y R h hy hn hd
      rw [tk_node4] at h hn ⊢
      rw [show deepN (.node 4 l) = deepsN 4 l by rw [Ex.node, deepN]] at hd
      unfold allG
      rw [byTurns_to (mark := bAnd) (item := oneG S n d) (o := 4) rfl (fun _ => True) trivial (by intro e; subst e; simp at hl) h hy trivial (Nat.le_trans (tk_lenA 4 ha) hn) (fun e he j z Q hz _ => by
        have h1 := deeps_in (o := 4) he
        have h2 := tk_inA (o := 4) he
        rw [if_neg (by decide), brk4] at h1
        rw [brk4] at h2 hz ⊢
        exact one_wrapped (ih e he) hz (by omega) (by omega))]
      show Got.ok (joinE 4 l) _ = _
      rw [join_two hl]
    have hp : 0 < (tkE (.node 4 l)).length := tk_pos (.all hl ha)
    exact ⟨fun g => absurd rfl g, fun _ => hA, px_all hp hA⟩
  | @any l hl ha ih =>
    refine ⟨fun _ g => absurd rfl g, fun g => absurd rfl g, fun i d n y R h hy hy2 hn hd => ?_⟩
    rw [tk_node5] at h hn ⊢
    rw [show deepN (.node 5 l) = deepsN 5 l by rw [Ex.node, deepN]] at hd
    unfold exprH
    rw [byTurns_to (mark := bOr) (item := allG S (oneG S n d) n) (o := 5) rfl (fun t => t ≠ bAnd) (by decide) (by intro e; subst e; simp at hl) h hy2 hy (Nat.le_trans (tk_lenA 5 ha) hn) (fun e he j z Q hz hzn => by
      have h1 := deeps_in (o := 5) he
      have h2 := tk_inA (o := 5) he
      rw [if_neg (by decide), brk5] at h1
      rw [brk5] at h2 hz ⊢
      by_cases h5 : e.op = 5
      · rw [decide_eq_true h5] at h1 h2 hz ⊢
        have h1' : 1 + deepN e ≤ deepsN 5 l := by rw [if_pos rfl] at h1; omega
        have hwp := wrap_pos (ha e he) true
        unfold allG
        rw [byTurns_one (po_wrap (ih e he).expr hz (by omega) (by omega)) hz.drop hzn (by omega)]
        rfl
      · rw [decide_eq_false h5] at h1 h2 hz ⊢
        exact (ih e he).all h5 j d n z Q hz hzn (by show (tkE e).length ≤ n; exact Nat.le_trans h2 hn) (by simp at h1; omega))]
    show Got.ok (joinE 5 l) _ = _
    rw [join_two hl]
  | @test f m r v hf hr hm hv =>
    refine pall_one (.test hf hr hm hv) (fun i d n z R ha hn hd => ?_)
    have e : tkE (.mk 6 [] f m r v) = tkT f m r v := by rw [tkE, if_neg (by decide), if_neg (by decide), if_neg (by decide), if_neg (by decide)]
    rw [e] at ha hn ⊢
    have hfl := fieldF_fld hf
    match n, hn with
    | 0, hn => unfold tkT at hn; simp at hn
    | n + 1, _ =>
      show oneH S (oneG S n) (fun d => exprH S (oneG S n d) n) d i = _
      unfold oneH
      have h0 : AtS S i (worX (fldL f) :: (((if m = 18446744073709551615 then [] else [sigX [38], numX (48 :: 120 :: hexL m) m]) ++ [sigX (rlL r), numX (Lib.decDigits v) v]) ++ z :: R)) := ha
      have ht : (tk S i).text = stL (fldL f) := h0.head.2.1
      rw [ht, if_neg hfl.2.1, if_neg hfl.2.2.1, if_neg hfl.2.2.2.1, if_neg hfl.2.2.2.2]
      exact test_to hf hr ha
end
end Go.Proofs.YtgeapkjegemkeaaGreatDoor
namespace Go.Proofs.YtgeapkjegemkeaaGreatDoor
set_option linter.unusedSimpArgs false
set_option linter.unusedVariables false

section
variable {S : Src}
theorem call_to {c : ByteArray × Nat} (hc : GCall c) {i : Nat} {l : List Nx} (h : AtS S i (tkCl9 c :: l)) (hl : l ≠ []) : callG S i = .ok c (i + 1) := by
  obtain ⟨s, n⟩ := c
  unfold callG
  by_cases h0 : s = ⟨#[]⟩
  · subst h0
    have h1 : AtS S i (numX (Lib.decDigits n) n :: l) := by have := h; unfold tkCl9 at this; rw [if_pos rfl] at this; exact this
    rw [if_pos (show (tk S i).kind = 3 from h1.head.1), num_to h1 hl]
    rfl
  · have h1 : AtS S i (⟨2, s, 0, 0, 0, 0⟩ :: l) := by have := h; unfold tkCl9 at this; rw [if_neg h0] at this; exact this
    have hn : n = 0 := by
      rcases hc with g | g
      · exact absurd g.1 h0
      · exact g.2
    have hk : (tk S i).kind = 2 := h1.head.1
    rw [if_neg (by rw [hk]; decide), name_to h1 hl, hn]
    rfl
theorem turnsC_to : ∀ (l acc : List (ByteArray × Nat)) (i n : Nat) (y : Nx) (R : List Nx), (∀ c ∈ l, GCall c) → AtS S i (tkCs l ++ y :: R) → y.text ≠ bComma → l.length < n → turnsG S bComma (callG S) n acc i = .ok (acc ++ l) (i + (tkCs l).length)
  | [], acc, i, n + 1, y, R, _, h, hy, _ => by
    rw [tkCs] at h ⊢
    unfold turnsG
    rw [if_neg (by rw [AtS.head (x := y) (l := R) h |>.2.1]; exact hy), List.append_nil]; rfl
  | c :: l, acc, i, n + 1, y, R, ha, h, hy, hn => by
    rw [tkCs] at h ⊢
    have h0 : AtS S i (sigX [44] :: tkCl9 c :: (tkCs l ++ y :: R)) := h
    unfold turnsG
    rw [if_pos (show (tk S i).text = bComma from h0.head.2.1), adv_to h0 (by simp)]
    show ((callG S (i + 1)).andThen _) = _
    rw [call_to (ha c (by simp)) h0.tail (by simp)]
    show turnsG S bComma (callG S) n (acc ++ [c]) _ = _
    rw [turnsC_to l (acc ++ [c]) _ n y R (fun x hx => ha x (by simp [hx])) h0.tail.tail hy (by simpa using hn), List.append_assoc]
    congr 1
    simp only [List.length_cons]; omega
theorem calls_to {l : List (ByteArray × Nat)} (hl : 1 ≤ l.length) {i n : Nat} {y : Nx} {R : List Nx} (ha : ∀ c ∈ l, GCall c) (h : AtS S i (tkF l ++ y :: R)) (hy : y.text ≠ bComma) (hn : l.length ≤ n) : byTurnsG S bComma (callG S) n i = .ok l (i + (tkF l).length) := by
  match l, hl with
  | c :: l, _ =>
    rw [tkF] at h ⊢
    have h0 : AtS S i (tkCl9 c :: (tkCs l ++ y :: R)) := h
    unfold byTurnsG
    rw [call_to (ha c (by simp)) h0 (by simp)]
    show turnsG S bComma (callG S) n [c] _ = _
    rw [turnsC_to l [c] _ n y R (fun x hx => ha x (by simp [hx])) h0.tail hy (by simp only [List.length_cons] at hn; omega)]
    congr 1
    simp only [List.length_cons]; omega
theorem verdK_kindL {k : Int} (h : 1 ≤ k ∧ k ≤ 8) : verdK (stL (kindL k)) = (k, numK k) := by
  have : k = 1 ∨ k = 2 ∨ k = 3 ∨ k = 4 ∨ k = 5 ∨ k = 6 ∨ k = 7 ∨ k = 8 := by omega
  rcases this with rfl | rfl | rfl | rfl | rfl | rfl | rfl | rfl <;> decide
theorem verd_to {v : Int × Nat} (hv : GVd v) {i : Nat} {y : Nx} {R : List Nx} (h : AtS S i (tkV9 v ++ y :: R)) : verdG S i = .ok v (i + (tkV9 v).length) := by
  obtain ⟨k, n⟩ := v
  obtain ⟨hk, hn, hz⟩ := hv
  simp only at hk hn hz
  have hK := verdK_kindL hk
  unfold tkV9 at h ⊢
  unfold verdG
  simp only at h ⊢
  have h0 : AtS S i (worX (kindL k) :: ((if numK k = true then [numX (Lib.decDigits n) n] else []) ++ y :: R)) := h
  have ht : (tk S i).text = stL (kindL k) := h0.head.2.1
  rw [ht, hK, if_neg (by show ¬ k = 0; omega), adv_to h0 (by simp)]
  show (if numK k = true then _ else _) = _
  by_cases hq : numK k = true
  · rw [if_pos hq] at h0 ⊢
    rw [if_pos hq, num_to h0.tail (by simp)]
    rfl
  · rw [if_neg hq] at h0 ⊢
    rw [if_neg hq, hz (by simpa using hq)]
    rfl
theorem when_to {e : Ex} (he : GEx e) (hd : deepN e ≤ 64) {i n : Nat} {R : List Nx} (h : AtS S i (tkW e ++ worX [100, 111] :: R)) (hn : (tkW e).length ≤ n + 1) : whenG S n i = .ok e (i + (tkW e).length) := by
  unfold whenG
  by_cases ho : e.op = 1
  · have he1 : e = .plain 1 := by
      cases he with
      | yes => rfl
      | no => exact absurd ho (by decide)
      | inv _ => exact absurd ho (by show ¬ (3 : Int) = 1; decide)
      | all _ _ => exact absurd ho (by show ¬ (4 : Int) = 1; decide)
      | any _ _ => exact absurd ho (by show ¬ (5 : Int) = 1; decide)
      | test _ _ _ _ => exact absurd ho (by show ¬ (6 : Int) = 1; decide)
    have hw : tkW e = [] := if_pos ho
    rw [hw] at h ⊢
    have ht : (tk S i).text = bDo := AtS.head (x := worX [100, 111]) (l := R) h |>.2.1
    rw [if_neg (by rw [ht]; decide), he1]
    rfl
  · have hw : tkW e = worX [119, 104, 101, 110] :: tkE e := if_neg ho
    rw [hw] at h hn ⊢
    have h0 : AtS S i (worX [119, 104, 101, 110] :: (tkE e ++ worX [100, 111] :: R)) := h
    rw [if_pos (show (tk S i).text = bWhen from h0.head.2.1), adv_to h0 (by simp)]
    show exprG S n 0 (i + 1) = _
    unfold exprG
    rw [(gr_ex he).expr (i + 1) 0 n (worX [100, 111]) R h0.tail (by decide) (by decide) (by simp only [List.length_cons] at hn; omega) (by omega)]
    congr 1
    simp only [List.length_cons]; omega
theorem rule_to {r : Ru} (hr : GRu r) (hd : deepN r.when_ ≤ 64) {i n : Nat} {y : Nx} {R : List Nx} (h : AtS S i (tkR r ++ y :: R)) (hn : (tkR r).length ≤ n) : ruleG S n i = .ok r (i + (tkR r).length) := by
  have hlen : (tkR r).length = 1 + (tkF r.calls).length + (tkW r.when_).length + 1 + (tkV9 r.do_).length + 1 := by
    unfold tkR; simp only [List.length_cons, List.length_append, List.length_nil]; omega
  have h0 : AtS S i (worX [111, 110] :: (tkF r.calls ++ (tkW r.when_ ++ (worX [100, 111] :: (tkV9 r.do_ ++ sigX [59] :: y :: R))))) := by
    have e1 : tkR r ++ y :: R = worX [111, 110] :: (tkF r.calls ++ (tkW r.when_ ++ (worX [100, 111] :: (tkV9 r.do_ ++ sigX [59] :: y :: R)))) := by unfold tkR; simp
    rw [← e1]; exact h
  have hcl : r.calls.length ≤ (tkF r.calls).length := by
    have : ∀ l : List (ByteArray × Nat), l.length ≤ (tkCs l).length := fun l => by
      induction l with
      | nil => exact Nat.zero_le _
      | cons c l ih => rw [tkCs]; simp only [List.length_cons]; omega
    cases hc : r.calls with
    | nil => exact Nat.zero_le _
    | cons c l => rw [tkF]; have := this l; simp only [List.length_cons]; omega
  unfold ruleG
  rw [demand_to (t := bOn) h0 (by simp) rfl]
  show ((byTurnsG S bComma (callG S) n (i + 1)).andThen _) = _
  have h1 := h0.tail
  have hc1 : byTurnsG S bComma (callG S) n (i + 1) = .ok r.calls (i + 1 + (tkF r.calls).length) := by
    by_cases ho : r.when_.op = 1
    · have hw : tkW r.when_ = [] := if_pos ho
      rw [hw, List.nil_append] at h1
      exact calls_to hr.calls.1 hr.calls.2.2 h1 (by decide) (by omega)
    · have hw : tkW r.when_ = worX [119, 104, 101, 110] :: tkE r.when_ := if_neg ho
      rw [hw] at h1
      exact calls_to hr.calls.1 hr.calls.2.2 h1 (by decide) (by omega)
  rw [hc1]
  show ((whenG S n (i + 1 + (tkF r.calls).length)).andThen _) = _
  have h2 := h1.drop
  rw [when_to hr.when_ hd h2 (by omega)]
  show ((demandG S bDo _).andThen _) = _
  have h3 := h2.drop
  rw [demand_to (t := bDo) h3 (by simp) rfl]
  show ((verdG S _).andThen _) = _
  have h4 := h3.tail
  rw [verd_to hr.do_ h4]
  show ((demandG S bSemi _).andThen _) = _
  have h5 := h4.drop
  rw [demand_to (t := bSemi) h5 (by simp) rfl]
  show Got.ok _ _ = _
  rw [hlen]
  congr 1; omega
theorem rules_to {n : Nat} : ∀ (l acc : List Ru) (i m : Nat) (y : Nx) (R : List Nx), (∀ r ∈ l, GRu r ∧ deepN r.when_ ≤ 64) → acc.length + l.length ≤ 512 → AtS S i (tkRs l ++ y :: R) → y.kind = 1 → l.length < m → (tkRs l).length ≤ n → rulesG S n m acc i = .ok (acc ++ l) (i + (tkRs l).length)
  | [], acc, i, m + 1, y, R, _, _, h, hy, _, _ => by
    rw [tkRs] at h ⊢
    unfold rulesG
    rw [if_pos ((AtS.head (x := y) (l := R) h).1.trans hy), List.append_nil]; rfl
  | r :: l, acc, i, m + 1, y, R, ha, hlen, h, hy, hm, hn => by
    rw [tkRs] at h hn ⊢
    rw [List.append_assoc] at h
    simp only [List.length_append, List.length_cons] at hn hlen
    have h0 : AtS S i (worX [111, 110] :: ((tkF r.calls ++ (tkW r.when_ ++ (worX [100, 111] :: (tkV9 r.do_ ++ [sigX [59]])))) ++ (tkRs l ++ y :: R))) := h
    unfold rulesG
    rw [if_neg (by rw [show (tk S i).kind = 2 from h0.head.1]; decide), if_neg (by rintro ⟨g, _⟩; omega)]
    have hr1 : ruleG S n i = .ok r (i + (tkR r).length) := by
      cases l with
      | nil => rw [tkRs, List.nil_append] at h; exact rule_to (ha r (by simp)).1 (ha r (by simp)).2 h (by omega)
      | cons a l =>
        rw [tkRs, List.append_assoc] at h
        have e1 : tkR a = worX [111, 110] :: (tkF a.calls ++ (tkW a.when_ ++ (worX [100, 111] :: (tkV9 a.do_ ++ [sigX [59]])))) := rfl
        rw [e1, List.cons_append] at h
        exact rule_to (ha r (by simp)).1 (ha r (by simp)).2 h (by omega)
    rw [hr1]
    show rulesG S n m (acc ++ [r]) _ = _
    rw [rules_to l (acc ++ [r]) _ m y R (fun x hx => ha x (by simp [hx])) (by simp only [List.length_append, List.length_cons, List.length_nil]; omega) h.drop hy (by simpa using hm) (by omega), List.append_assoc]
    congr 1
    simp only [List.length_append]; omega
theorem policy_to {p : Po} (hp : GPo p) (hd : ∀ r ∈ p.rules, deepN r.when_ ≤ 64) {n : Nat} {y : Nx} {R : List Nx} (h : AtS S 0 (tkP p ++ y :: R)) (hy : y.kind = 1) (hn : (tkP p).length < n) : ∃ j, policyG S n 0 = .ok p j := by
  have h0 : AtS S 0 (worX [97, 114, 99, 104] :: ⟨2, p.arch, 0, 0, 0, 0⟩ :: sigX [59] :: worX [102, 111, 114, 101, 105, 103, 110] :: (tkV9 p.foreign_ ++ (sigX [59] :: worX [100, 101, 102, 97, 117, 108, 116] :: (tkV9 p.default_ ++ (sigX [59] :: (tkRs p.rules ++ y :: R)))))) := by
    have e1 : tkP p ++ y :: R = worX [97, 114, 99, 104] :: ⟨2, p.arch, 0, 0, 0, 0⟩ :: sigX [59] :: worX [102, 111, 114, 101, 105, 103, 110] :: (tkV9 p.foreign_ ++ (sigX [59] :: worX [100, 101, 102, 97, 117, 108, 116] :: (tkV9 p.default_ ++ (sigX [59] :: (tkRs p.rules ++ y :: R))))) := by unfold tkP; simp
    rw [← e1]; exact h
  have hlen : (tkRs p.rules).length ≤ (tkP p).length := by unfold tkP; simp only [List.length_cons, List.length_append]; omega
  have hrl : p.rules.length ≤ (tkRs p.rules).length := by
    have : ∀ l : List Ru, l.length ≤ (tkRs l).length := fun l => by
      induction l with
      | nil => exact Nat.zero_le _
      | cons r l ih => rw [tkRs]; unfold tkR; simp only [List.length_cons, List.length_append]; omega
    exact this _
  unfold policyG
  rw [demand_to (t := bArch) h0 (by simp) rfl]
  show ∃ j, ((nameG S (0 + 1)).andThen _) = .ok p j
  rw [name_to h0.tail (by simp)]
  show ∃ j, ((demandG S bSemi (0 + 1 + 1)).andThen _) = .ok p j
  have h2 := h0.tail.tail
  rw [demand_to (t := bSemi) h2 (by simp) rfl]
  show ∃ j, ((demandG S bForeign (0 + 1 + 1 + 1)).andThen _) = .ok p j
  have h3 := h2.tail
  rw [demand_to (t := bForeign) h3 (by simp) rfl]
  show ∃ j, ((verdG S (0 + 1 + 1 + 1 + 1)).andThen _) = .ok p j
  have h4 := h3.tail
  rw [verd_to hp.foreign_ h4]
  show ∃ j, ((demandG S bSemi _).andThen _) = .ok p j
  have h5 := h4.drop
  rw [demand_to (t := bSemi) h5 (by simp) rfl]
  show ∃ j, ((demandG S bDefault _).andThen _) = .ok p j
  have h6 := h5.tail
  rw [demand_to (t := bDefault) h6 (by simp) rfl]
  show ∃ j, ((verdG S _).andThen _) = .ok p j
  have h7 := h6.tail
  rw [verd_to hp.default_ h7]
  show ∃ j, ((demandG S bSemi _).andThen _) = .ok p j
  have h8 := h7.drop
  rw [demand_to (t := bSemi) h8 (by simp) rfl]
  show ∃ j, ((rulesG S n n [] _).andThen _) = .ok p j
  rw [rules_to p.rules [] _ n y R (fun r hr => ⟨hp.rules.2 r hr, hd r hr⟩) (by simp only [List.length_nil]; have := hp.rules.1; omega) h8.tail hy (by omega) (by omega)]
  exact ⟨_, rfl⟩
/-! ### How deep -/
def DpO (d : Nat) (x : Ex) : Prop := deepN x + (if x.op = 4 ∨ x.op = 5 then 1 else 0) + d ≤ 64
def DpA (d : Nat) (x : Ex) : Prop := deepN x + (if x.op = 5 then 1 else 0) + d ≤ 64
theorem dp_list4 {d : Nat} (hd : d ≤ 64) : ∀ l : List Ex, (∀ e ∈ l, DpO d e) → deepsN 4 l + d ≤ 64
  | [], _ => by rw [deepsN]; omega
  | e :: l, h => by
    have h1 := h e (by simp)
    have h2 := dp_list4 hd l (fun x hx => h x (by simp [hx]))
    unfold DpO at h1
    rw [deepsN, if_neg (by decide), brk4]
    have : (if decide (e.op = 4 ∨ e.op = 5) = true then 1 else 0) = (if e.op = 4 ∨ e.op = 5 then 1 else 0) := by simp
    rw [this]; omega
theorem dp_list5 {d : Nat} (hd : d ≤ 64) : ∀ l : List Ex, (∀ e ∈ l, DpA d e) → deepsN 5 l + d ≤ 64
  | [], _ => by rw [deepsN]; omega
  | e :: l, h => by
    have h1 := h e (by simp)
    have h2 := dp_list5 hd l (fun x hx => h x (by simp [hx]))
    unfold DpA at h1
    rw [deepsN, if_neg (by decide), brk5]
    have : (if decide (e.op = 5) = true then 1 else 0) = (if e.op = 5 then 1 else 0) := by simp
    rw [this]; omega
theorem dp_join4 {d : Nat} (hd : d ≤ 64) {l : List Ex} (h : ∀ e ∈ l, DpO d e) : DpA d (joinE 4 l) := by
  match l, h with
  | [e], h =>
    have := h e (by simp)
    unfold DpO at this
    show deepN e + (if e.op = 5 then 1 else 0) + d ≤ 64
    by_cases h5 : e.op = 5
    · rw [if_pos h5]; rw [if_pos (.inr h5)] at this; exact this
    · rw [if_neg h5]; omega
  | [], h => show deepN (.node 4 []) + _ + d ≤ 64; rw [Ex.node, deepN, deepsN, if_neg (by show ¬ (4 : Int) = 5; decide)]; omega
  | a :: b :: t, h =>
    show deepN (.node 4 (a :: b :: t)) + _ + d ≤ 64
    rw [Ex.node, deepN, if_neg (by show ¬ (4 : Int) = 5; decide)]
    have := dp_list4 hd _ h
    omega
theorem dp_join5 {d : Nat} (hd : d ≤ 64) {l : List Ex} (h : ∀ e ∈ l, DpA d e) : deepN (joinE 5 l) + d ≤ 64 := by
  match l, h with
  | [e], h =>
    have := h e (by simp)
    unfold DpA at this
    show deepN e + d ≤ 64
    omega
  | [], h => show deepN (.node 5 []) + d ≤ 64; rw [Ex.node, deepN, deepsN]; omega
  | a :: b :: t, h =>
    show deepN (.node 5 (a :: b :: t)) + d ≤ 64
    rw [Ex.node, deepN]
    exact dp_list5 hd _ h
theorem dp_exprH {d : Nat} (hd : d ≤ 64) {one : Nat → Got Ex} (hP : ∀ i, i < S.toks.length → All (DpO d) (one i)) (hit : ∀ i, i < S.toks.length → Fwd S 1 i (one i)) (n i : Nat) (hi : i < S.toks.length) : All (fun x => deepN x + d ≤ 64) (exprH S one n i) :=
  all_then fun l j hj => all_ok (P := fun x => deepN x + d ≤ 64) (dp_join5 hd (byTurns_len (P := DpA d) (fun i hi => all_then fun l j hj => all_ok (dp_join4 hd (byTurns_len hP hit n i hi l j hj).2) j) (fun i hi => fwd_all hit n i hi) n i hi l j hj).2) j
theorem dp_leaf {d : Nat} (hd : d ≤ 64) (o f : Int) (m : Nat) (r : Int) (v : Nat) (ho : o ≠ 4 ∧ o ≠ 5) : DpO d (.mk o [] f m r v) := by
  show deepN (.mk o [] f m r v) + _ + d ≤ 64
  rw [deepN, deepsN, if_neg (by show ¬ (o = 4 ∨ o = 5); omega)]; omega
theorem dp_one : ∀ n d i, d ≤ 64 → i < S.toks.length → All (DpO d) (oneG S n d i)
  | 0, d, i, _, hi => all_out
  | n + 1, d, i, hd, hi => by
    show All (DpO d) (oneH S (oneG S n) (fun d => exprH S (oneG S n d) n) d i)
    have hopen : ∀ u j, openG S d i = .ok u j → d + 1 ≤ 64 := fun u j h => by
      unfold openG at h
      split at h
      · cases h
      · omega
    unfold oneH
    refine all_ite ?_ (all_ite ?_ (all_ite (all_adv (dp_leaf hd 1 0 0 0 0 (by decide)) i) (all_ite (all_adv (dp_leaf hd 2 0 0 0 0 (by decide)) i) ?_)))
    · refine all_then fun u j hj => all_then fun e k hk => all_ok ?_ k
      have hd1 := hopen u j hj
      have h1 := dp_one n (d + 1) j hd1 (fwd_open d i _ j hj).2 e k hk
      unfold DpO at h1
      show deepN (.mk 3 [e] 0 0 0 0) + (if (3 : Int) = 4 ∨ (3 : Int) = 5 then 1 else 0) + d ≤ 64
      rw [if_neg (show ¬ ((3 : Int) = 4 ∨ (3 : Int) = 5) by decide), deepN, deepsN, deepsN, if_pos rfl, brk3]
      have : (if decide (e.op = 4 ∨ e.op = 5) = true then 1 else 0) = (if e.op = 4 ∨ e.op = 5 then 1 else 0) := by simp
      rw [this]; omega
    · refine all_then fun u j hj => all_then fun e k hk => all_then fun _ l _ => all_ok ?_ l
      have hd1 := hopen u j hj
      have h1 := dp_exprH hd1 (fun i hi => dp_one n (d + 1) i hd1 hi) (fun i hi => fwd_one n (d + 1) i hi) n j (fwd_open d i _ j hj).2 e k hk
      show deepN e + _ + d ≤ 64
      have h3 : (if e.op = 4 ∨ e.op = 5 then 1 else 0) ≤ 1 := by split <;> omega
      simp only at h1
      omega
    · exact all_ite (all_bad _ _) (all_then fun _ _ _ => all_then fun m _ _ => all_then fun r _ _ => all_then fun v e _ => all_ok (dp_leaf hd 6 _ m r v (by decide)) e)
theorem dp_expr (n i : Nat) (hi : i < S.toks.length) : All (fun x => deepN x ≤ 64) (exprG S n 0 i) := fun x j h => by
  have := dp_exprH (d := 0) (by omega) (fun i hi => dp_one n 0 i (by omega) hi) (fun i hi => fwd_one n 0 i hi) n i hi x j h
  simp only at this
  omega
theorem dp_whole (n i : Nat) (hi : i < S.toks.length) : All (fun e => deepN e ≤ 64) (wholeG S n i) := all_then fun e j hj => all_ite (all_ok (P := fun e => deepN e ≤ 64) (dp_expr n i hi _ j hj) j) (all_bad _ _)
theorem dp_rule (n i : Nat) : All (fun r => deepN r.when_ ≤ 64) (ruleG S n i) :=
  all_then fun _ j hj => all_then fun cs k hk => all_then fun e l hl => all_then fun _ m _ => all_then fun v o hv => all_then fun _ p _ => all_ok (P := fun r : Ru => deepN r.when_ ≤ 64) (by
    exact (show All (fun e => deepN e ≤ 64) (whenG S n k) from all_ite (all_then fun _ j hj => dp_expr n j (fwd_adv k () _ j hj).2) (all_ok (P := fun e => deepN e ≤ 64) (by show deepN (.mk 1 [] 0 0 0 0) ≤ 64; rw [deepN, deepsN]; omega) k)) e l hl) p
theorem dp_rules (n : Nat) : ∀ m l i, (∀ r ∈ l, deepN r.when_ ≤ 64) → All (fun l => ∀ r ∈ l, deepN r.when_ ≤ 64) (rulesG S n m l i)
  | 0, l, i, _ => all_out
  | m + 1, l, i, hp => by
    unfold rulesG
    refine all_ite (all_ok hp i) (all_ite (all_bad _ _) (all_then fun x j hj => ?_))
    refine dp_rules n m _ j (fun r hr => ?_)
    rcases List.mem_append.1 hr with hr | hr
    · exact hp r hr
    · rw [List.mem_singleton] at hr; subst hr; exact dp_rule n i _ j hj
theorem dp_policy (n i : Nat) : All (fun p : Po => ∀ r ∈ p.rules, deepN r.when_ ≤ 64) (policyG S n i) :=
  all_then fun _ a ha => all_then fun s b hb => all_then fun _ _ _ => all_then fun _ d _ => all_then fun f e hf => all_then fun _ _ _ => all_then fun _ h _ => all_then fun v j hv => all_then fun _ k _ => all_then fun l m hm => all_ok (P := fun p : Po => ∀ r ∈ p.rules, deepN r.when_ ≤ 64) (dp_rules n n [] k (fun r hr => by cases hr) l m hm) m
end
/-! ### Texts -/
theorem at_all {S : Src} {T : List Nx} (h : S.toks.map Nx.core = (T ++ [endX]).map Nx.core) : AtS S 0 (T ++ [endX]) ∧ S.toks.length = T.length + 1 := by
  have hl : S.toks.length = T.length + 1 := by have := congrArg List.length h; simpa using this
  refine ⟨⟨fun k hk => ?_, by simp only [List.length_append, List.length_cons, List.length_nil]; omega⟩, hl⟩
  have hk2 : k < S.toks.length := by simp only [List.length_append, List.length_cons, List.length_nil] at hk; omega
  have := congrArg (fun l => l[k]?) h
  simp only [List.getElem?_map, List.getElem?_eq_getElem hk, List.getElem?_eq_getElem hk2, Option.map_some, Option.some.injEq] at this
  rw [Nat.zero_add]
  unfold tk
  rw [List.getD_eq_getElem?_getD, List.getElem?_eq_getElem hk2]
  exact this
theorem back_whole {x : Ex} (h : GEx x) (hd : deepN x ≤ 64) (hL : (exL x).length ≤ 65536) : ∃ j, wholeG (srcF (stL (exL x))) ((srcF (stL (exL x))).toks.length + 1) 0 = .ok x j ∧ 0 < (srcF (stL (exL x))).toks.length := by
  have hl := lex_ex h [] [] trivial .nil
  rw [List.append_nil, List.append_nil] at hl
  have hs := (lexS_src hl hL).2
  obtain ⟨ha, hn'⟩ := at_all hs
  have hn : (srcF (stL (exL x))).toks.length = (tkE x).length + 1 := hn'
  unfold wholeG exprG
  rw [(gr_ex h).expr 0 0 _ endX [] ha (by decide) (by decide) (by omega) (by omega)]
  show ∃ j, (if (tk (srcF (stL (exL x))) (0 + (tkE x).length)).kind = 1 then Got.ok x (0 + (tkE x).length) else noG (srcF (stL (exL x))) (0 + (tkE x).length)) = .ok x j ∧ _
  rw [if_pos (show (tk (srcF (stL (exL x))) (0 + (tkE x).length)).kind = 1 from (ha.drop (a := tkE x)).head.1)]
  exact ⟨_, rfl, by omega⟩
theorem back_policy {p : Po} (h : GPo p) (hd : ∀ r ∈ p.rules, deepN r.when_ ≤ 64) (hL : (polL p).length ≤ 65536) : ∃ j, policyG (srcF (stL (polL p))) ((srcF (stL (polL p))).toks.length + 1) 0 = .ok p j ∧ 0 < (srcF (stL (polL p))).toks.length := by
  have hs := (lexS_src (lex_pol h) hL).2
  obtain ⟨ha, hn'⟩ := at_all hs
  have hn : (srcF (stL (polL p))).toks.length = (tkP p).length + 1 := hn'
  obtain ⟨j, hj⟩ := policy_to h hd (y := endX) (R := []) ha rfl (n := (srcF (stL (polL p))).toks.length + 1) (by omega)
  exact ⟨j, hj, by omega⟩
end Go.Proofs.YtgeapkjegemkeaaGreatDoor
namespace Go.Proofs.YtgeapkjegemkeaaGreatDoor
set_option linter.unusedSimpArgs false
set_option linter.unusedVariables false

theorem src_long {s : ByteArray} (h : 65536 < s.size) : (srcF s).toks.length = 0 := by
  have hn : nextF s ((0 : Nat) : Int) = Nx.fail 0 54 := by unfold nextF; rw [if_pos (by omega)]
  have h1 : (nextF s ((0 : Nat) : Int)).err ≠ 0 := by rw [hn]; decide
  show (toksN s (s.size + 1) 0).1.length = 0
  simp only [toksN, if_pos h1]
  rfl
theorem dp_resEx (s : ByteArray) (h : (resEx (exprF s)).2.1 = 0) : deepN (resEx (exprF s)).1 ≤ 64 := by
  have hsh := expr_shut s
  have hg : All (fun e => deepN e ≤ 64) (exprF s) := by
    unfold exprF readG
    by_cases h0 : 0 < (srcF s).toks.length
    · rw [if_pos h0]; exact dp_whole _ 0 h0
    · rw [if_neg h0]; exact all_bad _ _
  generalize exprF s = g at h hsh hg ⊢
  rcases g with ⟨v, j⟩ | ⟨e, p⟩ | _
  · exact hg v j rfl
  · exact absurd h hsh
  · exact hsh.elim
theorem dp_resPo (s : ByteArray) (h : (resPo (policyF s)).2.1 = 0) : ∀ r ∈ (resPo (policyF s)).1.rules, deepN r.when_ ≤ 64 := by
  obtain ⟨lr, re, _, hsh⟩ := parse_all s
  have hg : All (fun p : Po => ∀ r ∈ p.rules, deepN r.when_ ≤ 64) (policyF s) := by
    unfold policyF readG
    exact all_ite (dp_policy _ 0) (all_bad _ _)
  generalize policyF s = g at h hsh hg ⊢
  rcases g with ⟨v, j⟩ | ⟨e, p⟩ | _
  · exact hg v j rfl
  · exact absurd h hsh.1
  · exact hsh.elim
theorem back_resEx {x : Ex} (h : GEx x) (hd : deepN x ≤ 64) (hL : (exL x).length ≤ 65536) : resEx (exprF (stL (exL x))) = (x, 0, 0) := by
  obtain ⟨j, hj, h0⟩ := back_whole h hd hL
  unfold exprF readG
  rw [if_pos h0, hj]; rfl
theorem back_resPo {p : Po} (h : GPo p) (hd : ∀ r ∈ p.rules, deepN r.when_ ≤ 64) (hL : (polL p).length ≤ 65536) : resPo (policyF (stL (polL p))) = (p, 0, 0) := by
  obtain ⟨j, hj, h0⟩ := back_policy h hd hL
  unfold policyF readG
  rw [if_pos h0, hj]; rfl
theorem long_resEx {s : ByteArray} (h : 65536 < s.size) : (resEx (exprF s)).1 = .zero := by
  unfold exprF readG
  rw [if_neg (by rw [src_long h]; omega)]; rfl
theorem long_resPo {s : ByteArray} (h : 65536 < s.size) : (resPo (policyF s)).1 = zeroPo := by
  unfold policyF readG
  rw [if_neg (by rw [src_long h]; omega)]; rfl
theorem nameB_ne {s : ByteArray} (h : NameB s) : s ≠ ⟨#[]⟩ := by
  rintro rfl
  exact absurd (show worOK (byt ⟨#[]⟩) 0 = true from h) (by decide)
theorem gex_ne {x : Ex} (h : GEx x) : x.op ≠ 0 := by
  cases h <;> (simp only [Ex.op, Ex.plain, Ex.node]; omega)
end Go.Proofs.YtgeapkjegemkeaaGreatDoor

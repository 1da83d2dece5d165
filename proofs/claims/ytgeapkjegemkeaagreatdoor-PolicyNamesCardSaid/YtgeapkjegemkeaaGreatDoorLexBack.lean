/-
  What a text's tokens are, and that their texts, with a blank behind each, are cut into the same, as plain facts. No condition: nothing here speaks of a program of Go's.
-/
import Derived.Test.YtgeapkjegemkeaaGreatDoorLexSpec
namespace Go.Proofs.YtgeapkjegemkeaaGreatDoor
set_option linter.unusedSimpArgs false
set_option linter.unusedVariables false

theorem byt_list (s : ByteArray) (i : Nat) : byt s i = (s.data.toList.getD i 0).toNat := by
  unfold byt
  by_cases h : i < s.size
  · rw [dif_pos h, List.getD_eq_getElem?_getD, List.getElem?_eq_getElem (by simpa using h)]; rfl
  · rw [dif_neg h, List.getD_eq_getElem?_getD, List.getElem?_eq_none (by simpa using Nat.le_of_not_lt h)]; rfl
theorem size_list (s : ByteArray) : s.size = s.data.toList.length := by simp
theorem byt_ext {s t : ByteArray} (h : s.size = t.size) (hb : ∀ i, i < s.size → byt s i = byt t i) : s = t := by
  have : s.data.toList = t.data.toList := by
    refine List.ext_getElem (by rw [← size_list, ← size_list, h]) fun i h1 h2 => ?_
    have := hb i (by rw [size_list]; exact h1)
    rw [byt_list, byt_list, List.getD_eq_getElem?_getD, List.getD_eq_getElem?_getD, List.getElem?_eq_getElem h1, List.getElem?_eq_getElem h2] at this
    exact UInt8.toNat_inj.1 this
  cases s; cases t
  simp only [ByteArray.mk.injEq] at *
  exact Array.toList_inj.1 this
theorem byt_extract (s : ByteArray) (a b j : Nat) (hb : b ≤ s.size) (hj : j < b - a) : byt (s.extract a b) j = byt s (a + j) := by
  rw [byt_list, byt_list, ByteArray.data_extract, Array.toList_extract]
  rw [List.getD_eq_getElem?_getD, List.getD_eq_getElem?_getD]
  congr 2
  rw [List.extract_eq_take_drop, List.getElem?_take, if_pos hj, List.getElem?_drop]
theorem size_extract5 (s : ByteArray) (a b : Nat) (hb : b ≤ s.size) : (s.extract a b).size = b - a := by
  rw [ByteArray.size_extract, Nat.min_eq_left hb]
/-- What a token is, by its text alone. -/
structure GoodTok (x : Nx) : Prop where
  kinds : x.kind = 1 ∨ x.kind = 2 ∨ x.kind = 3 ∨ x.kind = 4
  one : x.kind = 1 → x.text.size = 0 ∧ x.num = 0
  some_ : x.kind ≠ 1 → 0 < x.text.size
  two : x.kind = 2 → worOK (byt x.text) x.text.size = true ∧ x.num = 0
  three : x.kind = 3 → numB (byt x.text) x.text.size = true ∧ x.num = numV (byt x.text) x.text.size ∧ digB (byt x.text 0) = true ∧ letB (byt x.text 0) = false ∧ upTo worB (byt x.text) x.text.size 0 = x.text.size
  four : x.kind = 4 → sigF (byt x.text) x.text.size 0 = x.text.size ∧ x.num = 0 ∧ letB (byt x.text 0) = false ∧ digB (byt x.text 0) = false
theorem let_dig {c : Nat} (h : digB c = true) : letB c = false := by
  have := of_decide_eq_true h
  exact decide_eq_false (by omega)
theorem sig_at {f : Nat → Nat} {n i : Nat} (h : sigF f n i ≠ 0) : f i ≠ 35 ∧ blaB (f i) = false ∧ (f i = 59 ∨ f i = 44 ∨ f i = 40 ∨ f i = 41 ∨ f i = 38 ∨ f i = 60 ∨ f i = 62 ∨ f i = 61 ∨ f i = 33) := by
  have hc : f i = 59 ∨ f i = 44 ∨ f i = 40 ∨ f i = 41 ∨ f i = 38 ∨ f i = 60 ∨ f i = 62 ∨ f i = 61 ∨ f i = 33 := by
    unfold sigF at h
    by_cases h1 : f i = 59 ∨ f i = 44 ∨ f i = 40 ∨ f i = 41 ∨ f i = 38
    · omega
    rw [if_neg h1] at h
    by_cases h2 : f i = 60 ∨ f i = 62
    · omega
    rw [if_neg h2] at h
    by_cases h3 : f i = 61 ∨ f i = 33
    · omega
    rw [if_neg h3] at h; exact absurd rfl h
  exact ⟨by omega, decide_eq_false (by omega), hc⟩
/-- The sign's length hangs on its own bytes and the one behind. -/
theorem sig_same {f g : Nat → Nat} {n m i j : Nat} (h0 : f i = g j) (h1 : (i + 1 < n ∧ f (i + 1) = 61) ↔ (j + 1 < m ∧ g (j + 1) = 61)) : sigF f n i = sigF g m j := by
  have e : ∀ a b : Nat, (if i + 1 < n ∧ f (i + 1) = 61 then a else b) = (if j + 1 < m ∧ g (j + 1) = 61 then a else b) := fun a b => by
    by_cases h : j + 1 < m ∧ g (j + 1) = 61
    · rw [if_pos h, if_pos (h1.2 h)]
    · rw [if_neg h, if_neg (fun k => h (h1.1 k))]
  unfold sigF
  rw [h0, e, e]
theorem sig_cases (f : Nat → Nat) (n i : Nat) : sigF f n i = 0 ∨ sigF f n i = 1 ∨ (sigF f n i = 2 ∧ i + 1 < n ∧ f (i + 1) = 61) := by
  unfold sigF
  split
  · exact .inr (.inl rfl)
  · split
    · split
      · rename_i h; exact .inr (.inr ⟨rfl, h⟩)
      · exact .inr (.inl rfl)
    · split
      · split
        · rename_i h; exact .inr (.inr ⟨rfl, h⟩)
        · exact .inl rfl
      · exact .inl rfl
theorem sig_one {f : Nat → Nat} {n i : Nat} (h : sigF f n i = 1) : (f i = 59 ∨ f i = 44 ∨ f i = 40 ∨ f i = 41 ∨ f i = 38) ∨ ((f i = 60 ∨ f i = 62) ∧ ¬ (i + 1 < n ∧ f (i + 1) = 61)) := by
  unfold sigF at h
  by_cases h1 : f i = 59 ∨ f i = 44 ∨ f i = 40 ∨ f i = 41 ∨ f i = 38
  · exact .inl h1
  rw [if_neg h1] at h
  by_cases h2 : f i = 60 ∨ f i = 62
  · rw [if_pos h2] at h
    by_cases h3 : i + 1 < n ∧ f (i + 1) = 61
    · rw [if_pos h3] at h; cases h
    · exact .inr ⟨h2, h3⟩
  · rw [if_neg h2] at h
    by_cases h3 : f i = 61 ∨ f i = 33
    · rw [if_pos h3] at h; split at h <;> cases h
    · rw [if_neg h3] at h; cases h
/-- Every token that is told is one. -/
theorem tok_good {s : ByteArray} {i : Nat} (hi : i ≤ s.size) (he : (tokF s i).err = 0) : GoodTok (tokF s i) ∧ (tokF s i).pos = i ∧ (tokF s i).next = i + (tokF s i).text.size ∧ (tokF s i).next ≤ s.size ∧ (tokF s i).text = s.extract i (tokF s i).next := by
  unfold tokF at he ⊢
  by_cases h0 : i = s.size
  · rw [if_pos h0]
    exact ⟨⟨.inl rfl, fun _ => ⟨rfl, rfl⟩, (fun h => absurd rfl h), (fun h => by simp at h), (fun h => by simp at h), (fun h => by simp at h)⟩, rfl, rfl, hi, byt_ext (by rw [size_extract5 _ _ _ hi]; show 0 = i - i; omega) (fun j hj => by exact absurd hj (Nat.not_lt_zero _))⟩
  rw [if_neg h0] at he ⊢
  have hlt : i < s.size := by omega
  have hle := upTo_le worB (byt s) s.size i hi
  have hall := upTo_all worB (byt s) s.size i
  have hsz : (s.extract i (upTo worB (byt s) s.size i)).size = upTo worB (byt s) s.size i - i := size_extract5 _ _ _ hle
  have hby : ∀ j, j < upTo worB (byt s) s.size i - i → byt (s.extract i (upTo worB (byt s) s.size i)) j = byt s (i + j) := fun j hj => byt_extract s _ _ j hle hj
  have hgt : worB (byt s i) = true → i < upTo worB (byt s) s.size i := fun h => by
    rw [upTo_on hlt h]; have := upTo_ge worB (byt s) s.size (i + 1); omega
  have hup : i < upTo worB (byt s) s.size i → upTo worB (byt (s.extract i (upTo worB (byt s) s.size i))) (upTo worB (byt s) s.size i - i) 0 = upTo worB (byt s) s.size i - i := fun h => upTo_is (Nat.zero_le _) (Nat.le_refl _) (fun j _ hj => by rw [hby j hj]; exact hall (i + j) (by omega) (by omega)) (fun g => by omega)
  by_cases h1 : letB (byt s i) = true
  · rw [if_pos h1] at he ⊢
    have hw := hgt (by unfold worB; rw [h1]; rfl)
    by_cases h2 : 32 < upTo worB (byt s) s.size i - i
    · rw [if_pos h2] at he; cases he
    · rw [if_neg h2]
      refine ⟨⟨.inr (.inl rfl), (fun h => by simp at h), (fun _ => by show 0 < ByteArray.size _; rw [hsz]; omega), fun _ => ⟨?_, rfl⟩, (fun h => by simp at h), (fun h => by simp at h)⟩, rfl, (by show _ = i + ByteArray.size _; rw [hsz]; show upTo worB (byt s) s.size i = _; omega), hle, rfl⟩
      show worOK _ (ByteArray.size _) = true
      rw [hsz]
      exact decide_eq_true ⟨by omega, by omega, by rw [hby 0 (by omega)]; exact h1, hup hw⟩
  rw [if_neg h1] at he ⊢
  have h1' : letB (byt s i) = false := by cases h : letB (byt s i) <;> simp_all
  by_cases h3 : digB (byt s i) = true
  · rw [if_pos h3] at he ⊢
    have hw := hgt (by unfold worB; rw [h3]; simp)
    by_cases h4 : numB (byt (s.extract i (upTo worB (byt s) s.size i))) (upTo worB (byt s) s.size i - i) = false
    · rw [if_pos h4] at he; cases he
    · rw [if_neg h4]
      refine ⟨⟨.inr (.inr (.inl rfl)), (fun h => by simp at h), (fun _ => by show 0 < ByteArray.size _; rw [hsz]; omega), (fun h => by simp at h), fun _ => ?_, (fun h => by simp at h)⟩, rfl, (by show _ = i + ByteArray.size _; rw [hsz]; show upTo worB (byt s) s.size i = _; omega), hle, rfl⟩
      show numB _ (ByteArray.size _) = true ∧ numV _ _ = numV _ (ByteArray.size _) ∧ digB (byt (s.extract i _) 0) = true ∧ letB (byt (s.extract i _) 0) = false ∧ upTo worB _ (ByteArray.size _) 0 = ByteArray.size _
      rw [hsz, hby 0 (by omega)]
      exact ⟨by cases h : numB (byt (s.extract i (upTo worB (byt s) s.size i))) (upTo worB (byt s) s.size i - i) <;> simp_all, rfl, h3, h1', hup hw⟩
  rw [if_neg h3] at he ⊢
  have h3' : digB (byt s i) = false := by cases h : digB (byt s i) <;> simp_all
  by_cases h5 : sigF (byt s) s.size i = 0
  · rw [if_pos h5] at he; cases he
  rw [if_neg h5]
  have hsl := sig_le (f := byt s) hlt
  have hz : (s.extract i (i + sigF (byt s) s.size i)).size = sigF (byt s) s.size i := by rw [size_extract5 _ _ _ hsl]; omega
  have hb2 : ∀ j, j < sigF (byt s) s.size i → byt (s.extract i (i + sigF (byt s) s.size i)) j = byt s (i + j) := fun j hj => byt_extract s _ _ j hsl (by omega)
  refine ⟨⟨.inr (.inr (.inr rfl)), (fun h => by simp at h), (fun _ => by show 0 < ByteArray.size _; rw [hz]; omega), (fun h => by simp at h), (fun h => by simp at h), fun _ => ?_⟩, rfl, (by show _ = i + ByteArray.size _; rw [hz]), hsl, rfl⟩
  show sigF _ (ByteArray.size _) 0 = ByteArray.size _ ∧ _ = 0 ∧ letB (byt (s.extract i _) 0) = false ∧ digB (byt (s.extract i _) 0) = false
  rw [hz, hb2 0 (by omega)]
  refine ⟨?_, rfl, h1', h3'⟩
  have h0' : byt (s.extract i (i + sigF (byt s) s.size i)) 0 = byt s i := hb2 0 (by omega)
  rcases sig_cases (byt s) s.size i with g | g | ⟨g, g1, g2⟩
  · exact absurd g h5
  · rw [g] at h0' ⊢
    rcases sig_one g with k | ⟨k, _⟩
    · unfold sigF; rw [h0', if_pos k]
    · unfold sigF; rw [h0', if_neg (by omega), if_pos k, if_neg (by omega)]
  · rw [g] at h0' hb2 ⊢
    have h1b : byt (s.extract i (i + 2)) 1 = 61 := by rw [hb2 1 (by decide), g2]
    have := sig_same (f := byt (s.extract i (i + 2))) (g := byt s) (n := 2) (m := s.size) (i := 0) (j := i) h0' ⟨fun _ => ⟨g1, g2⟩, fun _ => ⟨by decide, h1b⟩⟩
    rw [this, g]

theorem let_skip {c : Nat} (h : letB c = true) : c ≠ 35 ∧ blaB c = false := by
  have := of_decide_eq_true h
  exact ⟨by omega, decide_eq_false (by omega)⟩
theorem dig_skip {c : Nat} (h : digB c = true) : c ≠ 35 ∧ blaB c = false := by
  have := of_decide_eq_true h
  exact ⟨by omega, decide_eq_false (by omega)⟩
theorem end_tok (A : ByteArray) : tokF A A.size = ⟨1, ⟨#[]⟩, 0, A.size, A.size, 0⟩ := by
  unfold tokF; rw [if_pos rfl]

theorem next_err {s : ByteArray} {i : Nat} (hs : s.size ≤ 65536) (hi : i ≤ s.size) : (nextF s (i : Int)).next ≤ s.size := by
  rw [next_in hs hi]
  have hk := skip_le (byt s) s.size i hi
  generalize skipF (byt s) s.size i = q at hk ⊢
  unfold tokF
  by_cases h0 : q = s.size
  · rw [if_pos h0]; exact hk
  rw [if_neg h0]
  have hle := upTo_le worB (byt s) s.size q hk
  split
  · split
    · exact hk
    · exact hle
  · split
    · split
      · exact hk
      · exact hle
    · split
      · exact hk
      · exact sig_le (by omega)
/-- What a token keeps when it is written again. -/
def Nx.core (x : Nx) : Int × ByteArray × Nat := (x.kind, x.text, x.num)
end Go.Proofs.YtgeapkjegemkeaaGreatDoor

/-
  What layers 5 and 6 name of policies in memory: definitions and plain facts. No condition.
-/
import Derived.Test.YtgeapkjegemkeaaDoorLexFns
import Derived.Lib.Bytealg
import Derived.Lib.Strings
import Derived.Lib.Walk
import Derived.BigCall
import Derived.Laws.Strings
import Derived.Shelf.Abstract
import Derived.Test.YtgeapkjegemkeaaDoorLexNum
import Derived.Test.YtgeapkjegemkeaaDoorLexBack
import Derived.Test.YtgeapkjegemkeaaDoorLexNext
import Derived.Test.YtgeapkjegemkeaaDoorMemory
import Derived.Test.YtgeapkjegemkeaaDoorRegion
import Derived.Lib.BufferWrite
import Derived.Lib.UnsafeStr
import Derived.Lib.Buffer
import Derived.Laws.MakeOwn
import Derived.Test.YtgeapkjegemkeaaDoorPolMem
import Derived.Test.YtgeapkjegemkeaaDoorPolPure
import Derived.Test.YtgeapkjegemkeaaDoorPolRd
import Derived.StillTailTactics
import Derived.WalkLawsBesides
import Derived.Test.YtgeapkjegemkeaaDoorPolIs
import Derived.Recover
import Derived.Defers
namespace Go.Proofs.YtgeapkjegemkeaaDoor
open Go Go.RowKit
set_option linter.unusedSimpArgs false
set_option linter.unusedVariables false

/-- What a digit stands for. -/
def digN (c : Nat) : Nat := if 48 ≤ c ∧ c ≤ 57 then c - 48 else if 97 ≤ c ∧ c ≤ 102 then c - 87 else 18446744073709551615
end Go.Proofs.YtgeapkjegemkeaaDoor
namespace Go.Proofs.YtgeapkjegemkeaaDoor
open Go Go.RowKit
set_option linter.unusedSimpArgs false
set_option linter.unusedVariables false

/-- Is byte c one of a set's? -/
def inSet (set : ByteArray) (c : Nat) : Bool := decide (0 ≤ Lib.indexByte set.data.toList (c : Int).toNat.toUInt8)
def notIn (set : ByteArray) (c : Nat) : Bool := !inSet set c
theorem skip_run (f : Nat → Nat) (n i : Nat) : skipF f n i = skipF f n (upTo blaB f n i) := by
  by_cases h : i < n ∧ blaB (f i) = true
  · rw [skip_blank h.1 h.2, upTo_on h.1 h.2]; exact skip_run f n (i + 1)
  · rw [upTo_off h]
termination_by n - i
theorem all_256 {p q : Nat → Bool} (h : ((List.range 256).all fun c => p c == q c) = true) : ∀ c, c < 256 → p c = q c := fun c hc =>
  eq_of_beq (List.all_eq_true.1 h c (List.mem_range.2 hc))
theorem set_blank : ∀ c, c < 256 → inSet ⟨#[9, 10, 13, 32]⟩ c = blaB c := all_256 (by kernel_rfl)
theorem set_line : ∀ c, c < 256 → notIn ⟨#[10]⟩ c = linB c := all_256 (by kernel_rfl)
end Go.Proofs.YtgeapkjegemkeaaDoor
namespace Go.Proofs.YtgeapkjegemkeaaDoor
open Go Go.RowKit
set_option linter.unusedSimpArgs false
set_option linter.unusedVariables false

/-- The number of k digits of a base from place i on, if they are digits and it is not too great. -/
def joinF (b : Nat) (f : Nat → Nat) : Nat → Option Nat
  | 0 => some 0
  | k + 1 => match joinF b f k with
    | none => none
    | some v => if digN (f k) < b ∧ v * b + digN (f k) < 18446744073709551616 then some (v * b + digN (f k)) else none
set_option maxRecDepth 100000 in
theorem join_no {b : Nat} {f : Nat → Nat} {k : Nat} (h : joinF b f k = none) : ∀ m, joinF b f (k + m) = none
  | 0 => h
  | m + 1 => by show (match joinF b f (k + m) with | none => none | some v => _) = none; rw [join_no h m]
set_option maxRecDepth 100000 in
theorem join_none {b : Nat} {f : Nat → Nat} {k n v : Nat} (h : joinF b f k = some v) (hk : k < n) (hd : ¬ (digN (f k) < b ∧ v * b + digN (f k) < 18446744073709551616)) : joinF b f n = none := by
  have h1 : joinF b f (k + 1) = none := by
    show (match joinF b f k with | none => none | some v => if digN (f k) < b ∧ v * b + digN (f k) < 18446744073709551616 then some (v * b + digN (f k)) else none) = none
    rw [h]; exact if_neg hd
  have := join_no h1 (n - (k + 1))
  rwa [show k + 1 + (n - (k + 1)) = n by omega] at this
set_option maxRecDepth 100000 in
theorem join_some {b : Nat} {f : Nat → Nat} {k v : Nat} (h : joinF b f k = some v) (h1 : digN (f k) < b) (h2 : v * b + digN (f k) < 18446744073709551616) : joinF b f (k + 1) = some (v * b + digN (f k)) := by
  show (match joinF b f k with | none => none | some v => if digN (f k) < b ∧ v * b + digN (f k) < 18446744073709551616 then some (v * b + digN (f k)) else none) = _
  rw [h]; exact if_pos ⟨h1, h2⟩
set_option maxRecDepth 100000 in
theorem join_lt {b : Nat} {f : Nat → Nat} : ∀ {k v : Nat}, joinF b f k = some v → v < 18446744073709551616
  | 0, v, h => by cases h; decide
  | k + 1, v, h => by
    cases hj : joinF b f k with
    | none => have := join_no hj 1; rw [this] at h; cases h
    | some u =>
      by_cases hd : digN (f k) < b ∧ u * b + digN (f k) < 18446744073709551616
      · rw [join_some hj hd.1 hd.2] at h; cases h; exact hd.2
      · rw [join_none hj (Nat.lt_succ_self k) hd] at h; cases h
/-- Are there any, and are they a number? -/
def joinB (b : Nat) (f : Nat → Nat) (n : Nat) : Bool := (joinF b f n).isSome && decide (n ≠ 0)

set_option maxRecDepth 100000 in
theorem digN_le (c : Nat) : digN c ≤ 18446744073709551615 ∧ (digN c < 16 ∨ digN c = 18446744073709551615) := by
  unfold digN; split
  · omega
  · split <;> omega
set_option maxRecDepth 100000 in
theorem text_empty (s : ByteArray) : s.toList.isEmpty = decide (s.size = 0) := by
  rw [Lib.toList_data]
  cases h : s.data.toList with
  | nil => have : s.size = 0 := by rw [Lib.size_eq, h]; rfl
           rw [this]; rfl
  | cons a l => have : s.size = l.length + 1 := by rw [Lib.size_eq, h]; rfl
                rw [this]; simp
/- joined: behind -/
set_option maxRecDepth 100000 in
theorem join_val {b : Nat} {f : Nat → Nat} : ∀ {k v : Nat}, joinF b f k = some v ↔ (∀ j, j < k → digN (f j) < b) ∧ valF b digN f 0 k = v ∧ (1 ≤ b → v < 18446744073709551616)
  | 0, v => by
    constructor
    · intro h; cases h; exact ⟨fun j hj => absurd hj (by omega), rfl, fun _ => by decide⟩
    · rintro ⟨_, rfl, _⟩; rfl
  | k + 1, v => by
    have hv : valF b digN f 0 (k + 1) = valF b digN f 0 k * b + digN (f k) := by
      show valF b digN f 0 k * b + digN (f (0 + k)) = _
      rw [Nat.zero_add]
    constructor
    · intro h
      cases hj : joinF b f k with
      | none => have := join_no hj 1; rw [this] at h; cases h
      | some u =>
        by_cases hd : digN (f k) < b ∧ u * b + digN (f k) < 18446744073709551616
        · rw [join_some hj hd.1 hd.2] at h
          cases h
          obtain ⟨h1, h2, _⟩ := join_val.1 hj
          refine ⟨fun j hj' => ?_, by rw [hv, h2], fun _ => hd.2⟩
          rcases Nat.lt_or_ge j k with g | g
          · exact h1 j g
          · rw [show j = k by omega]; exact hd.1
        · rw [join_none hj (Nat.lt_succ_self k) hd] at h; cases h
    · rintro ⟨h1, h2, h3⟩
      have hk := h1 k (Nat.lt_succ_self k)
      have hb : 1 ≤ b := by omega
      have h3' := h3 hb
      rw [hv] at h2
      have hle : valF b digN f 0 k ≤ valF b digN f 0 k * b := Nat.le_mul_of_pos_right _ hb
      have : joinF b f k = some (valF b digN f 0 k) := join_val.2 ⟨fun j hj => h1 j (by omega), rfl, fun _ => by omega⟩
      rw [join_some this hk (by omega), h2]
set_option maxRecDepth 100000 in
theorem hex_dig {c : Nat} : hexB c = true ↔ digN c < 16 := by
  unfold hexB digN
  rw [decide_eq_true_iff]
  split
  · omega
  · split <;> omega
set_option maxRecDepth 100000 in
theorem hex_val {c : Nat} (h : hexB c = true) : hexN c = digN c := by
  have := of_decide_eq_true h
  unfold hexN digN
  split
  · rw [if_pos (by omega)]
  · rw [if_neg (by omega), if_pos (by omega)]
set_option maxRecDepth 100000 in
theorem dec_dig {c : Nat} : digB c = true ↔ digN c < 10 := by
  unfold digB digN
  rw [decide_eq_true_iff]
  split
  · omega
  · split <;> omega
set_option maxRecDepth 100000 in
theorem dec_val {c : Nat} (h : digB c = true) : decN c = digN c := by
  have := of_decide_eq_true h
  unfold decN digN
  rw [if_pos (by omega)]
set_option maxRecDepth 100000 in
theorem upTo_all_iff {p : Nat → Bool} {f : Nat → Nat} {n i : Nat} (hi : i ≤ n) : upTo p f n i = n ↔ ∀ j, i ≤ j → j < n → p (f j) = true :=
  ⟨fun h j h1 h2 => upTo_all p f n i j h1 (by rw [h]; exact h2), fun h => upTo_is hi (Nat.le_refl _) (fun j h1 h2 => h j h1 h2) (fun g => absurd g.1 (by omega))⟩
set_option maxRecDepth 100000 in
theorem val_eq {b : Nat} {d d' : Nat → Nat} {f g : Nat → Nat} {i i' : Nat} : ∀ k, (∀ j, j < k → d (f (i + j)) = d' (g (i' + j))) → valF b d f i k = valF b d' g i' k
  | 0, _ => rfl
  | k + 1, h => by
    show valF b d f i k * b + d (f (i + k)) = valF b d' g i' k * b + d' (g (i' + k))
    rw [val_eq k (fun j hj => h j (by omega)), h k (by omega)]
set_option maxRecDepth 100000 in
theorem val_big {f : Nat → Nat} (h : 1 ≤ digN (f 0)) : ∀ k, 10 ^ k ≤ valF 10 digN f 0 (k + 1)
  | 0 => by show 1 ≤ 0 * 10 + digN (f 0); omega
  | k + 1 => by
    have := val_big h k
    show 10 ^ (k + 1) ≤ valF 10 digN f 0 (k + 1) * 10 + digN (f (0 + (k + 1)))
    rw [Nat.pow_succ]; omega
set_option maxRecDepth 100000 in
theorem num_hex {f g : Nat → Nat} {n : Nat} (h : 2 ≤ n ∧ f 0 = 48 ∧ f 1 = 120) (hn : n ≤ 18) (hg : ∀ j, j < n - 2 → g j = f (2 + j)) : numV f n = (joinF 16 g (n - 2)).getD 0 ∧ numB f n = joinB 16 g (n - 2) := by
  unfold numV numB numF
  rw [if_pos h]
  by_cases ha : upTo hexB f n 2 = n
  · have hall := (upTo_all_iff h.1).1 ha
    have hx : ∀ j, j < n - 2 → hexB (f (2 + j)) = true := fun j hj => hall (2 + j) (by omega) (by omega)
    have hJ : joinF 16 g (n - 2) = some (valF 16 hexN f 2 (n - 2)) := by
      have hv : valF 16 digN g 0 (n - 2) = valF 16 hexN f 2 (n - 2) := val_eq _ fun j hj => by
        rw [Nat.zero_add, hg j hj, hex_val (hx j hj)]
      refine join_val.2 ⟨fun j hj => by rw [hg j hj]; exact hex_dig.1 (hx j hj), hv, fun _ => ?_⟩
      rw [← hv]
      refine Nat.lt_of_lt_of_le (val_lt 16 digN g 0 (n - 2) fun j hj => by rw [Nat.zero_add, hg j hj]; exact hex_dig.1 (hx j hj)) ?_
      exact Nat.pow_le_pow_right (by decide) (show n - 2 ≤ 16 by omega)
    unfold joinB
    rw [hJ]
    by_cases h3 : n < 3
    · rw [if_pos (Or.inl h3)]
      have : n - 2 = 0 := by omega
      rw [this]; exact ⟨rfl, rfl⟩
    · rw [if_neg (by rintro (g1 | g1 | g1) <;> first | omega | exact g1 ha)]
      exact ⟨rfl, by simp; omega⟩
  · have hJ : joinF 16 g (n - 2) = none := by
      cases hj : joinF 16 g (n - 2) with
      | none => rfl
      | some v =>
        refine absurd ((upTo_all_iff h.1).2 fun j h1 h2 => hex_dig.2 ?_) ha
        have := (join_val.1 hj).1 (j - 2) (by omega)
        rwa [hg (j - 2) (by omega), show 2 + (j - 2) = j by omega] at this
    rw [if_pos (Or.inr (Or.inr ha))]
    unfold joinB
    rw [hJ]; exact ⟨rfl, rfl⟩
set_option maxRecDepth 100000 in
theorem num_hex_long {f : Nat → Nat} {n : Nat} (h : 2 ≤ n ∧ f 0 = 48 ∧ f 1 = 120) (hn : 18 < n) : numV f n = 0 ∧ numB f n = false := by
  unfold numV numB numF
  rw [if_pos h, if_pos (Or.inr (Or.inl hn))]; exact ⟨rfl, rfl⟩
set_option maxRecDepth 100000 in
theorem num_dec {f : Nat → Nat} {n : Nat} (hz : ¬ (f 0 = 48 ∧ 1 ≤ n)) : numV f n = (joinF 10 f n).getD 0 ∧ numB f n = joinB 10 f n := by
  unfold numV numB numF
  rw [if_neg (fun h => hz ⟨h.2.1, by omega⟩)]
  by_cases hc : n < 1 ∨ 20 < n ∨ (f 0 = 48 ∧ 1 < n) ∨ upTo digB f n 0 ≠ n ∨ 18446744073709551616 ≤ valF 10 decN f 0 n
  · rw [if_pos hc]
    unfold joinB
    rcases hc with h | h | h | h | h
    · have : n = 0 := by omega
      subst this; exact ⟨rfl, rfl⟩
    · cases hj : joinF 10 f n with
      | none => exact ⟨rfl, rfl⟩
      | some v =>
        obtain ⟨h1, h2, h3⟩ := join_val.1 hj
        have h3 := h3 (by decide)
        have hd0 : digB (f 0) = true := dec_dig.2 (h1 0 (by omega))
        have hd1 := of_decide_eq_true hd0
        have hge : 1 ≤ digN (f 0) := by
          rw [← dec_val hd0]; show 1 ≤ f 0 - 48
          have : f 0 ≠ 48 := fun e => hz ⟨e, by omega⟩
          omega
        have hb : 10 ^ 20 ≤ valF 10 digN f 0 21 := val_big hge 20
        have hm := val_le 10 digN f 0 (by decide) 21 (n - 21)
        rw [show 21 + (n - 21) = n by omega] at hm
        have : (10 : Nat) ^ 20 = 100000000000000000000 := by decide
        omega
    · exact absurd ⟨h.1, by omega⟩ hz
    · cases hj : joinF 10 f n with
      | none => exact ⟨rfl, rfl⟩
      | some v => exact absurd ((upTo_all_iff (Nat.zero_le _)).2 fun j _ h2 => dec_dig.2 ((join_val.1 hj).1 j h2)) h
    · cases hj : joinF 10 f n with
      | none => exact ⟨rfl, rfl⟩
      | some v =>
        obtain ⟨h1, h2, h3⟩ := join_val.1 hj
        have h3 := h3 (by decide)
        have : valF 10 decN f 0 n = valF 10 digN f 0 n := val_eq _ fun j hj => dec_val (dec_dig.2 (by rw [Nat.zero_add]; exact h1 j hj))
        omega
  · rw [if_neg hc]
    have ha : upTo digB f n 0 = n := Classical.byContradiction fun g => hc (.inr (.inr (.inr (.inl g))))
    have hall := (upTo_all_iff (Nat.zero_le _)).1 ha
    have hv : valF 10 digN f 0 n = valF 10 decN f 0 n := val_eq _ fun j hj => (dec_val (by rw [Nat.zero_add]; exact hall j (Nat.zero_le _) hj)).symm
    have hJ : joinF 10 f n = some (valF 10 decN f 0 n) := join_val.2 ⟨fun j hj => dec_dig.1 (hall j (Nat.zero_le _) hj), hv, fun _ => by omega⟩
    unfold joinB
    rw [hJ]
    exact ⟨rfl, by simp; omega⟩
set_option maxRecDepth 100000 in
theorem num_zero {f : Nat → Nat} {n : Nat} (h0 : n = 1) (hf : f 0 = 48) : numV f n = 0 ∧ numB f n = true := by
  subst h0
  have hu : upTo digB f 1 0 = 1 := (upTo_all_iff (by decide)).2 fun j _ hj => by rw [show j = 0 by omega, hf]; rfl
  have hv : valF 10 decN f 0 1 = 0 := by show 0 * 10 + decN (f (0 + 0)) = 0; rw [Nat.add_zero, hf]; rfl
  unfold numV numB numF
  rw [if_neg (by omega), if_neg (by rw [hu, hv]; omega), hv]
  exact ⟨rfl, rfl⟩
set_option maxRecDepth 100000 in
theorem num_lead {f : Nat → Nat} {n : Nat} (h : ¬ (2 ≤ n ∧ f 0 = 48 ∧ f 1 = 120)) (hn : 1 < n) (hf : f 0 = 48) : numV f n = 0 ∧ numB f n = false := by
  unfold numV numB numF
  rw [if_neg h, if_pos (Or.inr (Or.inr (Or.inl ⟨hf, hn⟩)))]; exact ⟨rfl, rfl⟩
set_option maxRecDepth 100000 in
theorem is_zero {s : ByteArray} : (s.toList == [48]) = decide (s.size = 1 ∧ byt s 0 = 48) := by
  rw [Lib.toList_data, byt_list, size_list]
  rcases hl : s.data.toList with _ | ⟨a, _ | ⟨b, l⟩⟩
  · rfl
  · rw [Bool.eq_iff_iff]; simp [← UInt8.toNat_inj]
  · rw [Bool.eq_iff_iff]; simp
set_option maxRecDepth 100000 in
theorem pre_two {s : ByteArray} : Lib.hasPrefix s.data.toList [48, 120] = decide (2 ≤ s.size ∧ byt s 0 = 48 ∧ byt s 1 = 120) := by
  rw [byt_list, byt_list, size_list]
  rcases hl : s.data.toList with _ | ⟨a, _ | ⟨b, l⟩⟩
  · rfl
  · rw [Bool.eq_iff_iff]; simp [Lib.hasPrefix]
  · rw [Bool.eq_iff_iff]
    simp [Lib.hasPrefix]
    exact ⟨fun ⟨h1, h2⟩ => by subst h1; subst h2; exact ⟨rfl, rfl⟩, fun ⟨h1, h2⟩ => ⟨UInt8.toNat_inj.1 (show (48 : UInt8).toNat = a.toNat from h1.symm), UInt8.toNat_inj.1 (show (120 : UInt8).toNat = b.toNat from h2.symm)⟩⟩
set_option maxRecDepth 100000 in
theorem pre_one {s : ByteArray} : Lib.hasPrefix s.data.toList [48] = decide (1 ≤ s.size ∧ byt s 0 = 48) := by
  rw [byt_list, size_list]
  rcases hl : s.data.toList with _ | ⟨a, l⟩
  · rfl
  · rw [Bool.eq_iff_iff]
    simp [Lib.hasPrefix]
    exact ⟨fun h1 => by subst h1; rfl, fun h1 => UInt8.toNat_inj.1 (show (48 : UInt8).toNat = a.toNat from h1.symm)⟩
end Go.Proofs.YtgeapkjegemkeaaDoor
namespace Go.Proofs.YtgeapkjegemkeaaDoor
open Go Go.RowKit
set_option linter.unusedSimpArgs false
set_option linter.unusedVariables false

set_option maxRecDepth 100000 in
theorem info_byte5 : (Tryd.prog.info? 5).map (fun i => (i.zero, i.size, i.bytes)) = some (some (.int .u8 0), 1, 1) := by kernel_rfl
def twoB (c : Nat) : Bool := decide (c = 61 ∨ c = 33 ∨ c = 60 ∨ c = 62)
def oneB (c : Nat) : Bool := decide (c = 59 ∨ c = 44 ∨ c = 40 ∨ c = 41 ∨ c = 38 ∨ c = 60 ∨ c = 62)
set_option maxRecDepth 100000 in
theorem set_two : ∀ c, c < 256 → inSet ⟨#[61, 33, 60, 62]⟩ c = twoB c := all_256 (by kernel_rfl)
set_option maxRecDepth 100000 in
theorem set_one : ∀ c, c < 256 → inSet ⟨#[59, 44, 40, 41, 38, 60, 62]⟩ c = oneB c := all_256 (by kernel_rfl)
set_option maxRecDepth 100000 in
theorem sig5_two {f : Nat → Nat} {n : Nat} (h : 1 < n) (h1 : f 1 = 61) (h2 : twoB (f 0) = true) : sigF f n 0 = 2 := by
  have := of_decide_eq_true h2
  unfold sigF
  rw [if_neg (by omega)]
  split
  · rw [if_pos ⟨h, h1⟩]
  · rw [if_pos (by omega), if_pos ⟨h, h1⟩]
set_option maxRecDepth 100000 in
theorem sig5_one {f : Nat → Nat} {n : Nat} (h : ¬ (1 < n ∧ f 1 = 61 ∧ twoB (f 0) = true)) (h2 : oneB (f 0) = true) : sigF f n 0 = 1 := by
  have := of_decide_eq_true h2
  unfold sigF
  split
  · rfl
  · have h3 : f 0 = 60 ∨ f 0 = 62 := by omega
    rw [if_pos h3, if_neg (fun g => h ⟨g.1, g.2, decide_eq_true (by omega)⟩)]
set_option maxRecDepth 100000 in
theorem sig5_none {f : Nat → Nat} {n : Nat} (h : ¬ (1 < n ∧ f 1 = 61 ∧ twoB (f 0) = true)) (h2 : oneB (f 0) = false) : sigF f n 0 = 0 := by
  have := of_decide_eq_false h2
  unfold sigF
  rw [if_neg (by omega), if_neg (by omega)]
  split
  · rename_i h3
    rw [if_neg (fun g => h ⟨g.1, g.2, decide_eq_true (by omega)⟩)]
  · rfl
end Go.Proofs.YtgeapkjegemkeaaDoor
namespace Go.Proofs.YtgeapkjegemkeaaDoor
open Go Go.RowKit
set_option linter.unusedSimpArgs false
set_option linter.unusedVariables false

/-- A token and an error, as values. -/
abbrev tokV (kind : Int) (text : ByteArray) (num : Nat) (pos : Nat) (err : Int) : Value := .tuple #[.agg #[.int .i64 kind, .string text, .int .u64 (num : Int), .int .i64 (pos : Int)], .int .i64 err]
abbrev tokO : Obj := .cells #[.int .i64 0, .string ⟨#[]⟩, .int .u64 0, .int .i64 0] 88
set_option maxRecDepth 100000 in
/-- A result's box, behind a call that writes nothing that was there. -/
theorem tbox {W W' : World} (hb : Below (W.alloc tokO).heap.size (W.alloc tokO) W') :
    W'.cell? ⟨W.heap.size, 0, none⟩ = some (.int .i64 0) ∧ W'.cell? ⟨W.heap.size, 1, none⟩ = some (.string ⟨#[]⟩) ∧ W'.cell? ⟨W.heap.size, 2, none⟩ = some (.int .u64 0) ∧ W'.cell? ⟨W.heap.size, 3, none⟩ = some (.int .i64 0) ∧
    W'.frozen? ⟨W.heap.size, 0, none⟩ = false ∧ W'.frozen? ⟨W.heap.size, 1, none⟩ = false ∧ W'.frozen? ⟨W.heap.size, 2, none⟩ = false ∧ W'.frozen? ⟨W.heap.size, 3, none⟩ = false :=
  ⟨(hb.cell (p := ⟨W.heap.size, 0, none⟩) (by simp)).trans (by simp), (hb.cell (p := ⟨W.heap.size, 1, none⟩) (by simp)).trans (by simp), (hb.cell (p := ⟨W.heap.size, 2, none⟩) (by simp)).trans (by simp), (hb.cell (p := ⟨W.heap.size, 3, none⟩) (by simp)).trans (by simp),
   (hb.frozen (p := ⟨W.heap.size, 0, none⟩) (by simp)).trans (by simp), (hb.frozen (p := ⟨W.heap.size, 1, none⟩) (by simp)).trans (by simp), (hb.frozen (p := ⟨W.heap.size, 2, none⟩) (by simp)).trans (by simp), (hb.frozen (p := ⟨W.heap.size, 3, none⟩) (by simp)).trans (by simp)⟩
set_option maxRecDepth 100000 in
theorem tset {w W : World} (h : Below w.heap.size w W) (a b c d : Value) : Below w.heap.size w ((((W.setCell ⟨w.heap.size, 0, none⟩ a).setCell ⟨w.heap.size, 1, none⟩ b).setCell ⟨w.heap.size, 2, none⟩ c).setCell ⟨w.heap.size, 3, none⟩ d) :=
  (((h.setCell (p := ⟨w.heap.size, 0, none⟩) (Nat.le_refl _) _).setCell (p := ⟨w.heap.size, 1, none⟩) (Nat.le_refl _) _).setCell (p := ⟨w.heap.size, 2, none⟩) (Nat.le_refl _) _).setCell (p := ⟨w.heap.size, 3, none⟩) (Nat.le_refl _) _
set_option maxRecDepth 100000 in
theorem tup {w W' : World} (hb : Below (w.alloc tokO).heap.size (w.alloc tokO) W') : Below w.heap.size w W' := (lbox w _).trans (hb.mono (by simp))
section
variable (s : ByteArray) (hs : s.size ≤ 65536) (w : World)
include hs
end
set_option maxRecDepth 100000 in
theorem piece_word {s : ByteArray} {i : Nat} (hi : i < s.size) (hl : letB (byt s i) = true) : worOK (byt (s.extract i (upTo worB (byt s) s.size i))) (upTo worB (byt s) s.size i - i) = decide (upTo worB (byt s) s.size i - i ≤ 32) := by
  have hle := upTo_le worB (byt s) s.size i (by omega)
  have hgt : i < upTo worB (byt s) s.size i := by
    rw [upTo_on hi (by unfold worB; rw [hl]; rfl)]; exact upTo_ge worB (byt s) s.size (i + 1)
  have hall := fun j => upTo_all worB (byt s) s.size i j
  generalize upTo worB (byt s) s.size i = U at hle hgt hall ⊢
  have hb := fun j hj => byt_extract s i U j hle hj
  have hu : upTo worB (byt (s.extract i U)) (U - i) 0 = U - i := (upTo_all_iff (Nat.zero_le _)).2 fun j _ hj => by rw [hb j hj]; exact hall (i + j) (by omega) (by omega)
  unfold worOK
  refine decide_eq_decide.2 ⟨fun g => g.2.1, fun g => ⟨by omega, g, ?_, hu⟩⟩
  rw [hb 0 (by omega)]; exact hl
set_option maxRecDepth 100000 in
theorem sig_shift {s : ByteArray} {i : Nat} (hi : i < s.size) : sigF (byt (s.extract i s.size)) (s.size - i) 0 = sigF (byt s) s.size i := by
  have h0 : byt (s.extract i s.size) 0 = byt s i := byt_extract s i s.size 0 (Nat.le_refl _) (by omega)
  have h1 : (0 + 1 < s.size - i ∧ byt (s.extract i s.size) (0 + 1) = 61) ↔ (i + 1 < s.size ∧ byt s (i + 1) = 61) :=
    ⟨fun g => ⟨by omega, by rw [← byt_extract s i s.size 1 (Nat.le_refl _) g.1]; exact g.2⟩, fun g => ⟨by omega, by rw [show 0 + 1 = 1 from rfl, byt_extract s i s.size 1 (Nat.le_refl _) (by omega)]; exact g.2⟩⟩
  unfold sigF
  rw [h0]
  simp only [h1]
end Go.Proofs.YtgeapkjegemkeaaDoor
namespace Go.Proofs.YtgeapkjegemkeaaDoor
open Go Go.RowKit
set_option linter.unusedSimpArgs false
set_option linter.unusedVariables false

set_option maxRecDepth 100000 in
theorem tok_behind {s : ByteArray} {i : Nat} (hi : i ≤ s.size) (he : (tokF s i).err = 0) : (tokF s i).pos + (tokF s i).text.size = (tokF s i).next ∧ (tokF s i).next ≤ s.size := by
  by_cases hk : (tokF s i).kind = 1
  · unfold tokF at he hk ⊢
    by_cases h0 : i = s.size
    · rw [if_pos h0]; exact ⟨rfl, hi⟩
    · rw [if_neg h0] at he hk
      split at hk
      · split at hk <;> cases hk
      · split at hk
        · split at hk <;> cases hk
        · split at hk <;> cases hk
  · have := tok_goes hi he hk
    rw [this.2.2.2, this.2.2.1, size_extract5 s _ _ this.2.1]
    omega
set_option maxRecDepth 100000 in
theorem tok_bad {s : ByteArray} {i : Nat} (he : (tokF s i).err ≠ 0) : tokF s i = Nx.fail i (tokF s i).err := by
  unfold tokF at he ⊢
  split
  · rename_i h0; rw [if_pos h0] at he; exact absurd rfl he
  · rename_i h0
    rw [if_neg h0] at he
    split
    · rename_i h1
      rw [if_pos h1] at he
      split
      · rfl
      · rename_i h2; rw [if_neg h2] at he; exact absurd rfl he
    · rename_i h1
      rw [if_neg h1] at he
      split
      · rename_i h2
        rw [if_pos h2] at he
        split
        · rfl
        · rename_i h3; rw [if_neg h3] at he; exact absurd rfl he
      · rename_i h2
        rw [if_neg h2] at he
        split
        · rfl
        · rename_i h3; rw [if_neg h3] at he; exact absurd rfl he
set_option maxRecDepth 100000 in
theorem lbox_at5 {B : Nat} (w : World) (o : Obj) (h : B ≤ w.heap.size) : Below B w (w.alloc o) := (Below.refl _ _).alloc h o
/-- A token's cells at the head of a block. -/
def Tk (W : World) (b : Nat) (kind : Int) (text : ByteArray) (num pos : Nat) : Prop := W.cell? ⟨b, 0, none⟩ = some (.int .i64 kind) ∧ W.cell? ⟨b, 1, none⟩ = some (.string text) ∧ W.cell? ⟨b, 2, none⟩ = some (.int .u64 (num : Int)) ∧ W.cell? ⟨b, 3, none⟩ = some (.int .i64 (pos : Int))
set_option maxRecDepth 100000 in
theorem Tk.below {W W' : World} {b : Nat} {kind : Int} {text : ByteArray} {num pos : Nat} (h : Tk W b kind text num pos) (hb : Below W.heap.size W W') : Tk W' b kind text num pos :=
  ⟨(hb.cell (p := ⟨b, 0, none⟩) (cell_lt h.1)).trans h.1, (hb.cell (p := ⟨b, 1, none⟩) (cell_lt h.1)).trans h.2.1, (hb.cell (p := ⟨b, 2, none⟩) (cell_lt h.1)).trans h.2.2.1, (hb.cell (p := ⟨b, 3, none⟩) (cell_lt h.1)).trans h.2.2.2⟩
set_option maxRecDepth 100000 in
theorem Tk.set {W : World} {b : Nat} {kind : Int} {text : ByteArray} {num pos : Nat} (h : Tk W b kind text num pos) {c : Nat} (hc : c ≠ b) (i : Nat) (v : Value) : Tk (W.setCell ⟨c, i, none⟩ v) b kind text num pos := by
  have ne : ∀ j, (⟨c, i, none⟩ : Addr) ≠ ⟨b, j, none⟩ := fun j e => hc (congrArg Addr.block e)
  exact ⟨(World.cell?_setCell_other (h := ne 0) ..).trans h.1, (World.cell?_setCell_other (h := ne 1) ..).trans h.2.1, (World.cell?_setCell_other (h := ne 2) ..).trans h.2.2.1, (World.cell?_setCell_other (h := ne 3) ..).trans h.2.2.2⟩
set_option maxRecDepth 100000 in
theorem Tk.new (W : World) (kind : Int) (text : ByteArray) (num pos : Nat) : Tk (W.alloc (.cells #[.int .i64 kind, .string text, .int .u64 (num : Int), .int .i64 (pos : Int)] 88)) W.heap.size kind text num pos := ⟨by simp, by simp, by simp, by simp⟩
/-- What Next answers, as a value. -/
abbrev nextP (kind : Int) (text : ByteArray) (num pos next : Nat) (err : Int) (w : World) (e : Ending) (w' : World) : Prop := e = .returned (.tuple #[.agg #[.int .i64 kind, .string text, .int .u64 (num : Int), .int .i64 (pos : Int)], .int .i64 (next : Int), .int .i64 err]) ∧ Below w.heap.size w w'
end Go.Proofs.YtgeapkjegemkeaaDoor
namespace Go.Proofs.YtgeapkjegemkeaaDoor
open Go Go.RowKit
set_option linter.unusedSimpArgs false
set_option linter.unusedVariables false

/-- The program's reader: its seven cells. -/
def prV (s : ByteArray) (x : Nx) (d : Nat) : Nat → Value
  | 0 => .string s
  | 1 => .int .i64 x.kind
  | 2 => .string x.text
  | 3 => .int .u64 (x.num : Int)
  | 4 => .int .i64 (x.pos : Int)
  | 5 => .int .i64 (x.next : Int)
  | _ => .int .i64 (d : Int)
theorem cases7 {P : Nat → Prop} (h0 : P 0) (h1 : P 1) (h2 : P 2) (h3 : P 3) (h4 : P 4) (h5 : P 5) (h6 : P 6) : ∀ i, i < 7 → P i := by
  intro i hi
  rcases i with _ | _ | _ | _ | _ | _ | _ | i
  · exact h0
  · exact h1
  · exact h2
  · exact h3
  · exact h4
  · exact h5
  · exact h6
  · omega
section
variable {w : World} {b : Nat} {s : ByteArray} {x : Nx} {d : Nat}
end
theorem heap_set1 {w : World} {B : Nat} {c : Array Value} {T : TypeId} {z : Nat × Nat} (h : w.heap[B]? = some (.cells c T z)) (i : Nat) (v : Value) :
    (w.setCell ⟨B, i, none⟩ v).heap[B]? = some (.cells (c.setIfInBounds i v) T z) := by
  unfold World.setCell
  simp only [Array.getElem?_modify, if_true, h]
  rfl
/-- A block of four cells, written over. -/
theorem heap_set4 {w : World} {B : Nat} {a b c d : Value} {T : TypeId} (h : w.heap[B]? = some (.cells #[a, b, c, d] T (0, 0))) (a' b' c' d' : Value) :
    ((((w.setCell ⟨B, 0, none⟩ a').setCell ⟨B, 1, none⟩ b').setCell ⟨B, 2, none⟩ c').setCell ⟨B, 3, none⟩ d').heap[B]? = some (.cells #[a', b', c', d'] T (0, 0)) :=
  heap_set1 (heap_set1 (heap_set1 (heap_set1 h 0 a') 1 b') 2 c') 3 d'
section
variable (w : World) (b : Nat) (s : ByteArray) (x : Nx) (d : Nat)
end
end Go.Proofs.YtgeapkjegemkeaaDoor
namespace Go.Proofs.YtgeapkjegemkeaaDoor
open Go Go.RowKit
set_option linter.unusedSimpArgs false
set_option linter.unusedVariables false

/-- A value that is no memory's. -/
def Val {α : Type} (f : α → Value) (x : α) (v : Value) (_ : World) : Prop := v = f x
abbrev unitV : Unit → Value := fun _ => .tuple #[]
theorem below_two (w : World) (o o' : Obj) : Below w.heap.size w ((w.alloc o).alloc o') := (lbox w o).trans ((lbox (w.alloc o) o').mono (by simp))
theorem adv_ok {S : Src} {i : Nat} (h : i + 1 < S.toks.length) {α : Type} (x : α) : adv S i x = .ok x (i + 1) := if_pos h
theorem adv_no {S : Src} {i : Nat} (h : ¬ i + 1 < S.toks.length) {α : Type} (x : α) : adv S i x = .bad S.err S.place := if_neg h
section
variable (w : World) (b : Nat) (s : ByteArray) (i d : Nat) (hi : i < (srcF s).toks.length)
/-- The two boxes of a step that copies the token ahead. -/
abbrev take1 (w : World) : World := w.alloc tokO6
abbrev take2 (w : World) (x : Nx) : World := (take1 w).alloc (.cells #[.int .i64 x.kind, .string x.text, .int .u64 (x.num : Int), .int .i64 (x.pos : Int)] 88)
theorem take_boxes {w1 : World} {x : Nx} (hb : b < w.heap.size) (hg : (take2 w x).grownBy w1 (some b)) : w1.heap[w.heap.size + 1]? = some (.cells #[.int .i64 x.kind, .string x.text, .int .u64 (x.num : Int), .int .i64 (x.pos : Int)] 88 (0, 0)) ∧ w1.heap[w.heap.size]? = some (.cells #[.int .i64 0, .string ⟨#[]⟩, .int .u64 0, .int .i64 0] 88 (0, 0)) := by
  have e1 : (take1 w).heap.size = w.heap.size + 1 := by simp
  have hx := box_kept (W := take1 w) (b := b) (by omega) hg
  rw [e1] at hx
  refine ⟨hx, (hg.block w.heap.size (by simp; omega) (fun e => by injection e with e; omega)).trans ((Below.heap_alloc (take1 w) _ w.heap.size (by omega)).trans (World.alloc_heap_new w tokO6))⟩
end
end Go.Proofs.YtgeapkjegemkeaaDoor
namespace Go.Proofs.YtgeapkjegemkeaaDoor
open Go Go.RowKit
set_option linter.unusedSimpArgs false
set_option linter.unusedVariables false

/-- The first place of a text among several, from k on; -1: it is none of them. -/
def idxF (t : ByteArray) : List ByteArray → Nat → Int
  | [], _ => -1
  | x :: l, k => if t = x then (k : Int) else idxF t l (k + 1)
theorem idx_ge (t : ByteArray) : ∀ l k, idxF t l k = -1 ∨ ((k : Int) ≤ idxF t l k ∧ idxF t l k < (k : Int) + l.length)
  | [], k => .inl rfl
  | x :: l, k => by
    unfold idxF
    split
    · exact .inr ⟨by omega, by simp only [List.length_cons]; omega⟩
    · rcases idx_ge t l (k + 1) with h | h
      · exact .inl h
      · exact .inr ⟨by omega, by simp only [List.length_cons]; omega⟩
/-- Several texts, in a block. -/
def WordsAt (w : World) (tb : Nat) (l : List ByteArray) : Prop := ∀ k, k < l.length → w.cell? ⟨tb, k, none⟩ = some (.string (l.getD k ⟨#[]⟩))
theorem idx_on {t : ByteArray} {l : List ByteArray} {k : Nat} (hk : k < l.length) (h : idxF t l 0 = idxF t (l.drop k) k) : (t = l.getD k ⟨#[]⟩ → idxF t l 0 = (k : Int)) ∧ (t ≠ l.getD k ⟨#[]⟩ → idxF t l 0 = idxF t (l.drop (k + 1)) (k + 1)) := by
  have hd := List.drop_eq_getElem_cons hk
  have hg : l.getD k ⟨#[]⟩ = l[k] := by rw [List.getD_eq_getElem?_getD, List.getElem?_eq_getElem hk]; rfl
  rw [hd] at h
  rw [hg]
  refine ⟨fun e => ?_, fun e => ?_⟩
  · rw [h]; exact if_pos e
  · rw [h]; exact if_neg e
/-- The words of the kinds of actions, of the fields, the signs of the relations. -/
def verdictL : List ByteArray := [⟨#[107, 105, 108, 108, 95, 112, 114, 111, 99, 101, 115, 115]⟩, ⟨#[107, 105, 108, 108, 95, 116, 104, 114, 101, 97, 100]⟩, ⟨#[116, 114, 97, 112]⟩, ⟨#[101, 114, 114, 110, 111]⟩, ⟨#[110, 111, 116, 105, 102, 121]⟩, ⟨#[116, 114, 97, 99, 101]⟩, ⟨#[108, 111, 103]⟩, ⟨#[97, 108, 108, 111, 119]⟩]
def fieldL : List ByteArray := [⟨#[97, 114, 103, 48]⟩, ⟨#[97, 114, 103, 49]⟩, ⟨#[97, 114, 103, 50]⟩, ⟨#[97, 114, 103, 51]⟩, ⟨#[97, 114, 103, 52]⟩, ⟨#[97, 114, 103, 53]⟩, ⟨#[105, 112]⟩]
def relL : List ByteArray := [⟨#[61, 61]⟩, ⟨#[33, 61]⟩, ⟨#[60]⟩, ⟨#[60, 61]⟩, ⟨#[62]⟩, ⟨#[62, 61]⟩]
def wordsO (l : List ByteArray) : Obj := .cells (l.map Value.string).toArray 9
/-- What makes a row of words. -/
def WordsP (w : World) (l : List ByteArray) (e : Ending) (w' : World) : Prop := e = .returned (.slice (some ⟨w.heap.size, 0, none⟩) l.length l.length) ∧ w' = w.alloc (wordsO l)
theorem words_at (w : World) (l : List ByteArray) : WordsAt (w.alloc (wordsO l)) w.heap.size l := fun k hk => by
  have h : (w.alloc (wordsO l)).heap[w.heap.size]? = some (wordsO l) := World.alloc_heap_new w _
  refine cell6 h k ?_
  simp [List.getElem?_eq_getElem hk, List.getD_eq_getElem?_getD]
/-- A choice by its place. -/
def choiceG (S : Src) (l : List ByteArray) (i : Nat) : Got Int := if idxF (tk S i).text l 0 < 0 then noG S i else adv S i (idxF (tk S i).text l 0)
end Go.Proofs.YtgeapkjegemkeaaDoor
namespace Go.Proofs.YtgeapkjegemkeaaDoor
open Go Go.RowKit
set_option linter.unusedSimpArgs false
set_option linter.unusedVariables false

theorem kept_box {W w1 : World} {b B : Nat} {o : Obj} (h : W.heap[B]? = some o) (hg : W.grownBy w1 (some b)) (hne : B ≠ b) : w1.heap[B]? = some o :=
  (hg.block B (Array.getElem?_eq_some_iff.1 h).1 (fun e => by injection e with e; exact hne e)).trans h
theorem kept_alloc {W : World} {B : Nat} {o : Obj} (h : W.heap[B]? = some o) (o' : Obj) : (W.alloc o').heap[B]? = some o :=
  (Below.heap_alloc W o' B (Array.getElem?_eq_some_iff.1 h).1).trans h
theorem kept_set {W : World} {B : Nat} {o : Obj} (h : W.heap[B]? = some o) {C : Nat} (hne : B ≠ C) (i : Nat) (v : Value) : (W.setCell ⟨C, i, none⟩ v).heap[B]? = some o :=
  (Below.heap_setCell W ⟨C, i, none⟩ v B hne).trans h
theorem verd_idx (t : ByteArray) : (verdK t).1 = idxF t verdictL 0 + 1 ∧ ((verdK t).2 = true ↔ ((verdK t).1 = 3 ∨ (verdK t).1 = 4 ∨ (verdK t).1 = 6)) := by
  unfold verdK verdictL
  simp only [idxF]
  repeat' (first | (split; · decide) | decide)
theorem rel_idx (t : ByteArray) : relF t = idxF t relL 0 + 1 := by
  unfold relF relL
  simp only [idxF]
  repeat' (first | (split; · decide) | decide)
theorem field_idx (t : ByteArray) : fieldF t = idxF t fieldL 0 := by
  have key : ∀ k, k < 6 → (t.size = 4 ∧ byt t 0 = 97 ∧ byt t 1 = 114 ∧ byt t 2 = 103 ∧ byt t 3 = 48 + k ↔ t = ⟨#[97, 114, 103, UInt8.ofNat (48 + k)]⟩) := fun k hk => by
    refine ⟨fun h => byt_ext (by rw [h.1]; rfl) (fun j hj => ?_), fun h => ?_⟩
    · have hj4 : j < 4 := by omega
      have e3 : byt ⟨#[97, 114, 103, UInt8.ofNat (48 + k)]⟩ 3 = 48 + k := by
        show (UInt8.ofNat (48 + k)).toNat = _
        simp only [UInt8.toNat_ofNat']; omega
      rcases (by omega : j = 0 ∨ j = 1 ∨ j = 2 ∨ j = 3) with rfl | rfl | rfl | rfl
      · exact h.2.1
      · exact h.2.2.1
      · exact h.2.2.2.1
      · rw [e3]; exact h.2.2.2.2
    · subst h
      refine ⟨rfl, rfl, rfl, rfl, ?_⟩
      show (UInt8.ofNat (48 + k)).toNat = _
      simp only [UInt8.toNat_ofNat']; omega
  unfold fieldF fieldL bIp
  simp only [idxF]
  by_cases h0 : t = ⟨#[105, 112]⟩
  · subst h0; decide
  rw [if_neg h0]
  split
  · rename_i g
    have hk := (key (byt t 3 - 48) (by omega)).1 ⟨g.1, g.2.1, g.2.2.1, g.2.2.2.1, by omega⟩
    rcases (by omega : byt t 3 = 48 ∨ byt t 3 = 49 ∨ byt t 3 = 50 ∨ byt t 3 = 51 ∨ byt t 3 = 52 ∨ byt t 3 = 53) with e | e | e | e | e | e <;> (rw [e] at hk ⊢; rw [hk]; decide)
  · rename_i g
    have no : ∀ k, k < 6 → ¬ t = ⟨#[97, 114, 103, UInt8.ofNat (48 + k)]⟩ := fun k hk e => by
      have := (key k hk).2 e
      exact g ⟨this.1, this.2.1, this.2.2.1, this.2.2.2.1, by omega, by omega⟩
    have n0 : ¬ t = ⟨#[97, 114, 103, 48]⟩ := no 0 (by decide)
    have n1 : ¬ t = ⟨#[97, 114, 103, 49]⟩ := no 1 (by decide)
    have n2 : ¬ t = ⟨#[97, 114, 103, 50]⟩ := no 2 (by decide)
    have n3 : ¬ t = ⟨#[97, 114, 103, 51]⟩ := no 3 (by decide)
    have n4 : ¬ t = ⟨#[97, 114, 103, 52]⟩ := no 4 (by decide)
    have n5 : ¬ t = ⟨#[97, 114, 103, 53]⟩ := no 5 (by decide)
    rw [if_neg n0, if_neg n1, if_neg n2, if_neg n3, if_neg n4, if_neg n5]
abbrev verdVal : Int × Nat → Value := fun v => .agg #[.int .i64 v.1, .int .u64 (v.2 : Int)]
abbrev verdO (k : Int) (n : Int) : Obj := .cells #[.int .i64 k, .int .u64 n] 25
end Go.Proofs.YtgeapkjegemkeaaDoor
namespace Go.Proofs.YtgeapkjegemkeaaDoor
open Go Go.RowKit
set_option linter.unusedSimpArgs false
set_option linter.unusedVariables false

abbrev callVal : ByteArray × Nat → Value := fun v => .agg #[.string v.1, .int .u64 (v.2 : Int)]
abbrev callO : Obj := .cells #[.string ⟨#[]⟩, .int .u64 0] 100
end Go.Proofs.YtgeapkjegemkeaaDoor
namespace Go.Proofs.YtgeapkjegemkeaaDoor
open Go Go.RowKit
set_option linter.unusedSimpArgs false
set_option linter.unusedVariables false

abbrev exO (o f : Int) (m : Int) (r : Int) (v : Int) : Obj := .cells #[.int .i64 o, .slice none 0 0, .int .i64 f, .int .u64 m, .int .i64 r, .int .u64 v] 44
/-- An expression that has no arguments. -/
abbrev leafVal (o f : Int) (m : Int) (r : Int) (v : Int) : Value := .agg #[.int .i64 o, .slice none 0 0, .int .i64 f, .int .u64 m, .int .i64 r, .int .u64 v]
theorem gset6 {a w : World} {b B : Nat} (h : a.grownBy w (some b)) (hB : a.heap.size ≤ B) (a' b' c' d' e' f' : Value) : a.grownBy ((((((w.setCell ⟨B, 0, none⟩ a').setCell ⟨B, 1, none⟩ b').setCell ⟨B, 2, none⟩ c').setCell ⟨B, 3, none⟩ d').setCell ⟨B, 4, none⟩ e').setCell ⟨B, 5, none⟩ f') (some b) :=
  grown_new (grown_new (grown_new (grown_new (grown_new (grown_new h hB 0 _) hB 1 _) hB 2 _) hB 3 _) hB 4 _) hB 5 _
/-- What a test is as a value. -/
def TestV (x : Ex) (v : Value) (_ : World) : Prop := v = leafVal x.op x.field (x.mask : Int) x.rel (x.value : Int) ∧ x.args = []
end Go.Proofs.YtgeapkjegemkeaaDoor
namespace Go.Proofs.YtgeapkjegemkeaaDoor
open Go Go.RowKit
set_option linter.unusedSimpArgs false
set_option linter.unusedVariables false

/-- An expression as a value, its arguments in blocks from lo on. -/
def ExP (lo : Nat) (x : Ex) (v : Value) (W : World) : Prop := ∃ A cap, v = exV x A cap ∧ ExIn W (fun k => lo ≤ k) x A cap
/-- Several, as a slice. -/
def RowP (lo : Nat) (l : List Ex) (v : Value) (W : World) : Prop := ∃ tb cap, v = .slice (some ⟨tb, 0, none⟩) l.length cap ∧ lo ≤ tb ∧ tb < W.heap.size ∧ 0 < l.length ∧ RowIn W (fun k => lo ≤ k) l tb 0
theorem info_ex : (Tryd.prog.info? 44).map (fun i => (i.zero, i.size, i.bytes)) = some (some (.agg #[.int .i64 0, .slice none 0 0, .int .i64 0, .int .u64 0, .int .i64 0, .int .u64 0]), 6, 64) := by kernel_rfl
def sliceLen : Value → Nat | .slice _ n _ => n | _ => 0
theorem grown_size {w w' : World} {r : Option Nat} (h : w.grownBy w' r) : w.heap.size ≤ w'.heap.size := h.size
/-- The first of them lies in a block of its own. -/
theorem own_first {w1 : World} {lo : Nat} {x : Ex} {A : Option Addr} {cap : Nat} (hlo : lo ≤ w1.heap.size) :
    (w1.alloc (.cells #[.int .i64 x.op, .slice A x.args.length cap, .int .i64 x.field, .int .u64 (x.mask : Int), .int .i64 x.rel, .int .u64 (x.value : Int)] 44)).ownsRow lo 44 6 (.slice (some ⟨w1.heap.size, 0, none⟩) 1 1) 1 (exC x A cap) :=
  ⟨rfl, .inr ⟨w1.heap.size, 1, _, rfl, hlo, World.alloc_heap_new w1 _, Nat.le_refl _, by unfold maxLen; decide, rfl, rfl⟩⟩
theorem chunks_first {w1 : World} {lo : Nat} {x : Ex} {A : Option Addr} {cap : Nat} (h : ExIn w1 (fun k => lo ≤ k) x A cap) (o : Obj) :
    Chunks (w1.alloc o) (fun k => lo ≤ k ∧ some k ≠ (Value.slice (some ⟨w1.heap.size, 0, none⟩) 1 1).ownBlock) [x] (exC x A cap) := by
  have h2 : ExIn w1 (fun k => lo ≤ k ∧ k < w1.heap.size) x A cap := ex_lt h
  exact Chunks.one (h2.keep (by simp) (fun k hk => ⟨hk.1, fun e => by injection e with e; have := hk.2; change k = w1.heap.size at e; omega⟩) (fun k _ hk => Below.heap_alloc w1 o k hk))
theorem chunks_lt {w : World} {F : Nat → Prop} : ∀ {l : List Ex} {xs : List Value}, Chunks w F l xs → Chunks w (fun k => F k ∧ k < w.heap.size) l xs
  | [], _, h => h
  | e :: l, xs, ⟨A, cap, ys, h1, h2, h3⟩ => ⟨A, cap, ys, ex_lt h1, h2, chunks_lt h3⟩
section
variable {s : ByteArray} {w wr wa wb wd : World} {b d : Nat} {mark : ByteArray} {item : Nat → Got Ex} {g : Got (List Ex)} {v v' : Value} {l : List Ex} {xs : List Value} {n i k : Nat} {x : Ex} {A : Option Addr} {cap : Nat} {O : Obj}
end
theorem ex_cells (w : World) (B : Nat) (hB : B = w.heap.size) (x : Ex) (A : Option Addr) (cap : Nat) (j : Nat) (u : Value) (h : (exC x A cap)[j]? = some u) :
    (w.alloc (.cells #[.int .i64 x.op, .slice A x.args.length cap, .int .i64 x.field, .int .u64 (x.mask : Int), .int .i64 x.rel, .int .u64 (x.value : Int)] 44)).cell? ((⟨B, 0, none⟩ : Addr).add j) = some u := by
  subst hB
  rw [addr_add, Nat.zero_add]
  refine cell6 (World.alloc_heap_new w _) j ?_
  rw [← List.getElem?_toArray] at h
  exact h
theorem own_len {w : World} {base : Nat} {e : TypeId} {sz : Nat} {v : Value} {n : Nat} {xs : List Value} (h : w.ownsRow base e sz v n xs) : sliceLen v = n := by
  rcases h.2 with ⟨rfl, rfl⟩ | ⟨g, cap, cur, rfl, _⟩
  · rfl
  · rfl
end Go.Proofs.YtgeapkjegemkeaaDoor
namespace Go.Proofs.YtgeapkjegemkeaaDoor
open Go Go.RowKit
set_option linter.unusedSimpArgs false
set_option linter.unusedVariables false

theorem ex_keep {w w' : World} {F G : Nat → Prop} {e : Ex} {A : Option Addr} {cap : Nat} (h : ExIn w F e A cap) (hs : w.heap.size ≤ w'.heap.size) (hF : ∀ k, F k → G k) (hk : ∀ k, F k → k < w.heap.size → w'.heap[k]? = w.heap[k]?) : ExIn w' G e A cap := h.keep hs hF hk
theorem ex_set {w : World} {F : Nat → Prop} {e : Ex} {A : Option Addr} {cap : Nat} (h : ExIn w F e A cap) {R : Nat} (hR : ∀ k, F k → k ≠ R) (i : Nat) (v : Value) : ExIn (w.setCell ⟨R, i, none⟩ v) F e A cap :=
  h.keep (by simp [World.setCell]) (fun _ hk => hk) (fun k hk _ => Below.heap_setCell w ⟨R, i, none⟩ v k (hR k hk))
theorem ex_set6 {w : World} {F : Nat → Prop} {e : Ex} {A : Option Addr} {cap : Nat} (h : ExIn w F e A cap) {R : Nat} (hR : ∀ k, F k → k ≠ R) (a b c d x y : Value) : ExIn ((((((w.setCell ⟨R, 0, none⟩ a).setCell ⟨R, 1, none⟩ b).setCell ⟨R, 2, none⟩ c).setCell ⟨R, 3, none⟩ d).setCell ⟨R, 4, none⟩ x).setCell ⟨R, 5, none⟩ y) F e A cap :=
  ex_set (ex_set (ex_set (ex_set (ex_set (ex_set h hR 0 a) hR 1 b) hR 2 c) hR 3 d) hR 4 x) hR 5 y
/-- What joined tells. -/
def JoinP (lo : Nat) (W : World) (x : Ex) (e : Ending) (w' : World) : Prop := ∃ A cap, e = .returned (exV x A cap) ∧ ExIn w' (fun k => lo ≤ k) x A cap ∧ Below W.heap.size W w'
end Go.Proofs.YtgeapkjegemkeaaDoor
namespace Go.Proofs.YtgeapkjegemkeaaDoor
open Go Go.RowKit
set_option linter.unusedSimpArgs false
set_option linter.unusedVariables false

abbrev exCells (x : Ex) (A : Option Addr) (cap : Nat) : Obj := .cells #[.int .i64 x.op, .slice A x.args.length cap, .int .i64 x.field, .int .u64 (x.mask : Int), .int .i64 x.rel, .int .u64 (x.value : Int)] 44
theorem node_one {W : World} {lo : Nat} {x : Ex} {A : Option Addr} {cap : Nat} (o : Int) (hlo : lo ≤ W.heap.size) (h : ExIn W (fun k => lo ≤ k) x A cap) :
    ExIn (W.alloc (exCells x A cap)) (fun k => lo ≤ k) (.node o [x]) (some ⟨W.heap.size, 0, none⟩) 1 := by
  refine .inr ⟨by simp, W.heap.size, rfl, hlo, by simp, ⟨A, cap, h.keep (by simp) (fun _ hk => hk) (fun k _ hk => Below.heap_alloc W _ k hk), fun j u hj => ?_⟩, trivial⟩
  have := ex_cells W W.heap.size rfl x A cap j u hj
  rw [addr_add] at this
  exact this
theorem node_end {w4 : World} {R lo : Nat} {x : Ex} {A : Option Addr} {cap : Nat} (o : Int) (h : ExIn w4 (fun k => lo ≤ k) x A cap) (hR : R < lo) (hlo : lo ≤ w4.heap.size) (a b c d y z : Value) :
    ExIn (((((((w4.setCell ⟨R, 0, none⟩ a).setCell ⟨R, 1, none⟩ b).setCell ⟨R, 2, none⟩ c).setCell ⟨R, 3, none⟩ d).setCell ⟨R, 4, none⟩ y).setCell ⟨R, 5, none⟩ z).alloc (exCells x A cap)) (fun k => lo ≤ k) (.node o [x]) (some ⟨w4.heap.size, 0, none⟩) 1 := by
  have hs : ((((((w4.setCell ⟨R, 0, none⟩ a).setCell ⟨R, 1, none⟩ b).setCell ⟨R, 2, none⟩ c).setCell ⟨R, 3, none⟩ d).setCell ⟨R, 4, none⟩ y).setCell ⟨R, 5, none⟩ z).heap.size = w4.heap.size := by simp [World.setCell]
  have := node_one (W := ((((((w4.setCell ⟨R, 0, none⟩ a).setCell ⟨R, 1, none⟩ b).setCell ⟨R, 2, none⟩ c).setCell ⟨R, 3, none⟩ d).setCell ⟨R, 4, none⟩ y).setCell ⟨R, 5, none⟩ z)) o (by omega) (ex_set6 h (fun k hk => by omega) a b c d y z)
  rw [hs] at this
  exact this
/-- What is kept beside the reader's block. -/
theorem ex_grown {w w' : World} {b lo lo' : Nat} {x : Ex} {A : Option Addr} {cap : Nat} (h : ExIn w (fun k => lo ≤ k) x A cap) (hb : b < lo) (hlo : lo' ≤ lo) (hg : w.grownBy w' (some b)) : ExIn w' (fun k => lo' ≤ k) x A cap :=
  h.keep hg.size (fun k hk => by omega) (fun k hk hl => hg.block k hl (fun e => by injection e with e; omega))
/-- What stands behind a not; behind a bracket. -/
def notG (S : Src) (item : Nat → Got Ex) (d i : Nat) : Got Ex := (openG S d i).andThen fun _ j => (item j).andThen fun e k => .ok (.node 3 [e]) k
def parG (S : Src) (item : Nat → Got Ex) (d i : Nat) : Got Ex := (openG S d i).andThen fun _ j => (item j).andThen fun e k => (demandG S bShut k).andThen fun _ l => .ok e l
section
variable (s : ByteArray) (b d : Nat) (item : Nat → Got Ex) (N : Nat) (hd : d ≤ 64) (hfw : ∀ i, i < (srcF s).toks.length → Fwd (srcF s) 1 i (item i))
include hd hfw
end
theorem leaf_ex {x : Ex} {lo : Nat} {W : World} (h : x.args = []) : ExP lo x (leafVal x.op x.field (x.mask : Int) x.rel (x.value : Int)) W := by
  obtain ⟨op, l, f, m, r, v⟩ := x
  obtain rfl : l = [] := h
  exact ⟨none, 0, rfl, .inl ⟨rfl, rfl, rfl⟩⟩
end Go.Proofs.YtgeapkjegemkeaaDoor
namespace Go.Proofs.YtgeapkjegemkeaaDoor
open Go Go.RowKit
set_option linter.unusedSimpArgs false
set_option linter.unusedVariables false

abbrev exCell (x : Ex) (A : Option Addr) (cap : Nat) : Obj := .cells #[.int .i64 x.op, .slice A x.args.length cap, .int .i64 x.field, .int .u64 (x.mask : Int), .int .i64 x.rel, .int .u64 (x.value : Int)] 44
theorem row_at {w : World} {F : Nat → Prop} {tb : Nat} : ∀ {l : List Ex} {o : Nat} (k : Nat), k < l.length → RowIn w F l tb o → ∃ A cap, ExIn w F (l.getD k .zero) A cap ∧ ∀ j u, (exC (l.getD k .zero) A cap)[j]? = some u → w.cell? ⟨tb, o + k * 6 + j, none⟩ = some u
  | [], _, k, hk, _ => by simp at hk
  | e :: l, o, 0, _, h => by
    obtain ⟨A, cap, h1, h2⟩ := h.1
    exact ⟨A, cap, h1, by simpa using h2⟩
  | e :: l, o, k + 1, hk, h => by
    obtain ⟨A, cap, h1, h2⟩ := row_at (o := o + 6) k (by simpa using hk) h.2
    exact ⟨A, cap, h1, fun j u hj => by have := h2 j u hj; rw [show o + 6 + k * 6 + j = o + (k + 1) * 6 + j by omega] at this; exact this⟩
/-- The arguments of one that has some. -/
theorem ex_args {w : World} {F : Nat → Prop} {x : Ex} {A : Option Addr} {cap : Nat} (h : ExIn w F x A cap) (k : Nat) (hk : k < x.args.length) :
    ∃ tb, A = some ⟨tb, 0, none⟩ ∧ tb < w.heap.size ∧ F tb ∧ ∃ A' cap', ExIn w F (x.args.getD k .zero) A' cap' ∧ ∀ j u, (exC (x.args.getD k .zero) A' cap')[j]? = some u → w.cell? ⟨tb, k * 6 + j, none⟩ = some u := by
  obtain ⟨op, l, f, m, r, v⟩ := x
  rcases h with ⟨h1, _⟩ | ⟨h1, tb, h2, h3, h4, h5⟩
  · rw [show (Ex.mk op l f m r v).args = l from rfl, h1] at hk; simp at hk
  · obtain ⟨A', cap', g1, g2⟩ := row_at k hk h5
    exact ⟨tb, h2, h4, h3, A', cap', g1, fun j u hj => by have := g2 j u hj; rw [show 0 + k * 6 + j = k * 6 + j by omega] at this; exact this⟩
theorem ex_sizeOf (x : Ex) (k : Nat) (hk : k < x.args.length) : SizeOf.sizeOf (x.args.getD k .zero) < SizeOf.sizeOf x := by
  obtain ⟨op, l, f, m, r, v⟩ := x
  have hk' : k < l.length := hk
  have h : l.getD k .zero ∈ l := by
    rw [List.getD_eq_getElem?_getD, List.getElem?_eq_getElem hk']
    exact List.getElem_mem hk'
  have := List.sizeOf_lt_of_mem h
  show SizeOf.sizeOf (l.getD k .zero) < SizeOf.sizeOf (Ex.mk op l f m r v)
  simp only [Ex.mk.sizeOf_spec]
  omega
theorem ex_below {w w' : World} {F : Nat → Prop} {x : Ex} {A : Option Addr} {cap : Nat} (h : ExIn w F x A cap) (hb : Below w.heap.size w w') : ExIn w' F x A cap := h.keep hb.size (fun _ hk => hk) (fun k _ hk => hb.block k hk)
end Go.Proofs.YtgeapkjegemkeaaDoor
namespace Go.Proofs.YtgeapkjegemkeaaDoor
open Go Go.RowKit
set_option linter.unusedSimpArgs false
set_option linter.unusedVariables false

end Go.Proofs.YtgeapkjegemkeaaDoor
namespace Go.Proofs.YtgeapkjegemkeaaDoor
open Go Go.RowKit
set_option linter.unusedSimpArgs false
set_option linter.unusedVariables false

/-- What a text is read as, or why it is not. -/
def ParseP {α : Type} (V : α → Value → World → Prop) (zero : Value) (w : World) (g : Got α) (e : Ending) (w' : World) : Prop := match g with
  | .ok x _ => ∃ v, e = .returned (.tuple #[v, .int .i64 0, .int .i64 0]) ∧ V x v w' ∧ Below w.heap.size w w'
  | .bad er p => e = .returned (.tuple #[zero, .int .i64 er, .int .i64 (p : Int)]) ∧ Below w.heap.size w w'
  | .out => False
theorem below_grow {B b : Nat} {a w w' : World} (h : Below B a w) (hg : w.grownBy w' (some b)) (hb : B ≤ b) (hB : B ≤ a.heap.size) : Below B a w' :=
  h.trans ⟨hg.os, hg.tape, hg.output, hg.size, fun k hk => hg.block k (Nat.lt_of_lt_of_le hk (Nat.le_trans hB h.size)) (fun e => by injection e with e; omega)⟩
abbrev errO (v : Int) : Obj := .cells #[.int .i64 v] 36
abbrev intO (v : Int) : Obj := .cells #[.int .i64 v] 3
/-- The boxes of read, and its reader. -/
abbrev read3 (w : World) (o : Obj) : World := ((w.alloc o).alloc (errO 0)).alloc (intO 0)
theorem toks_le {s : ByteArray} : ∀ k i, i ≤ s.size → (toksN s k i).1.length ≤ s.size - i + 1
  | 0, i, hi => by simp [toksN]
  | k + 1, i, hi => by
    by_cases h1 : (nextF s (i : Int)).err ≠ 0
    · simp [toksN, h1]
    by_cases h2 : (nextF s (i : Int)).kind = 1
    · simp [toksN, h1, h2]
    · simp only [toksN, if_neg h1, if_neg h2, List.length_cons]
      have h1' : (nextF s (i : Int)).err = 0 := by omega
      have hs : s.size ≤ 65536 := by
        apply Decidable.byContradiction
        intro hs
        have hn : nextF s (i : Int) = Nx.fail 0 54 := by unfold nextF; rw [if_pos (by omega)]
        rw [hn] at h1'; exact absurd h1' (by decide)
      have hg := next_goes hs hi h1' h2
      have ih := toks_le k (nextF s (i : Int)).next hg.2
      omega
theorem src_small (s : ByteArray) : (srcF s).toks.length ≤ 65537 := by
  by_cases hs : s.size ≤ 65536
  · have := toks_le (s := s) (s.size + 1) 0 (Nat.zero_le _)
    show (toksN s (s.size + 1) 0).1.length ≤ 65537
    omega
  · have hn : nextF s ((0 : Nat) : Int) = Nx.fail 0 54 := by unfold nextF; rw [if_pos (by omega)]
    have h1 : (nextF s ((0 : Nat) : Int)).err ≠ 0 := by rw [hn]; decide
    show (toksN s (s.size + 1) 0).1.length ≤ 65537
    simp only [toksN, if_pos h1]
    simp
/-- An expression's text as it is read. -/
def exprF (s : ByteArray) : Got Ex := readG (srcF s) (wholeG (srcF s) ((srcF s).toks.length + 1))
end Go.Proofs.YtgeapkjegemkeaaDoor
namespace Go.Proofs.YtgeapkjegemkeaaDoor
open Go Go.RowKit
set_option linter.unusedSimpArgs false
set_option linter.unusedVariables false

/-- A call's cells; several ones'. -/
def callC (v : ByteArray × Nat) : List Value := [.string v.1, .int .u64 (v.2 : Int)]
def callsC (l : List (ByteArray × Nat)) : List Value := l.flatMap callC
theorem callsC_snoc (l : List (ByteArray × Nat)) (x : ByteArray × Nat) : callsC (l ++ [x]) = callsC l ++ callC x := by simp [callsC]
abbrev callCells (x : ByteArray × Nat) : Obj := .cells #[.string x.1, .int .u64 (x.2 : Int)] 100
/-- Calls, as a slice. -/
def CallsP (lo : Nat) (l : List (ByteArray × Nat)) (v : Value) (W : World) : Prop := ∃ tb cap, v = .slice (some ⟨tb, 0, none⟩) l.length cap ∧ lo ≤ tb ∧ tb < W.heap.size ∧ 0 < l.length ∧ ∀ j u, (callsC l)[j]? = some u → W.cell? ⟨tb, j, none⟩ = some u
theorem info_call : (Tryd.prog.info? 100).map (fun i => (i.zero, i.size, i.bytes)) = some (some (.agg #[.string ⟨#[]⟩, .int .u64 0]), 2, 24) := by kernel_rfl
theorem call_one {x : ByteArray × Nat} : ∀ u ∈ callC x, u.oneCell' = true := by
  intro u hu
  simp only [callC, List.mem_cons, List.not_mem_nil, or_false] at hu
  rcases hu with rfl | rfl <;> rfl
theorem call_cells (w : World) (B : Nat) (hB : B = w.heap.size) (x : ByteArray × Nat) (j : Nat) (u : Value) (h : (callC x)[j]? = some u) : (w.alloc (callCells x)).cell? ((⟨B, 0, none⟩ : Addr).add j) = some u := by
  subst hB
  rw [addr_add, Nat.zero_add]
  refine cell6 (World.alloc_heap_new w _) j ?_
  rw [← List.getElem?_toArray] at h
  exact h
theorem own_firstC {w1 : World} {lo : Nat} {x : ByteArray × Nat} (hlo : lo ≤ w1.heap.size) : (w1.alloc (callCells x)).ownsRow lo 100 2 (.slice (some ⟨w1.heap.size, 0, none⟩) 1 1) 1 (callsC [x]) :=
  ⟨rfl, .inr ⟨w1.heap.size, 1, _, rfl, hlo, World.alloc_heap_new w1 _, Nat.le_refl _, by unfold maxLen; decide, rfl, rfl⟩⟩
section
variable {s : ByteArray} {w wr wa wb wd : World} {b d : Nat} {mark : ByteArray} {item : Nat → Got (ByteArray × Nat)} {g : Got (List (ByteArray × Nat))} {v v' : Value} {l : List (ByteArray × Nat)} {n i k : Nat} {x : ByteArray × Nat} {O : Obj}
end
end Go.Proofs.YtgeapkjegemkeaaDoor
namespace Go.Proofs.YtgeapkjegemkeaaDoor
open Go Go.RowKit
set_option linter.unusedSimpArgs false
set_option linter.unusedVariables false

/-- A rule's calls and expression lie in blocks of F. -/
def RuIn (w : World) (F : Nat → Prop) (r : Ru) (tb : Nat) (A : Option Addr) (cap : Nat) : Prop :=
  (F tb ∧ tb < w.heap.size ∧ ∀ j u, (callsC r.calls)[j]? = some u → w.cell? ⟨tb, j, none⟩ = some u) ∧ ExIn w F r.when_ A cap
def ruC (r : Ru) (tb capc : Nat) (A : Option Addr) (cap : Nat) : List Value :=
  [.slice (some ⟨tb, 0, none⟩) r.calls.length capc, .int .i64 r.when_.op, .slice A r.when_.args.length cap, .int .i64 r.when_.field, .int .u64 (r.when_.mask : Int), .int .i64 r.when_.rel, .int .u64 (r.when_.value : Int), .int .i64 r.do_.1, .int .u64 (r.do_.2 : Int)]
abbrev ruV (r : Ru) (tb capc : Nat) (A : Option Addr) (cap : Nat) : Value :=
  .agg #[.slice (some ⟨tb, 0, none⟩) r.calls.length capc, .int .i64 r.when_.op, .slice A r.when_.args.length cap, .int .i64 r.when_.field, .int .u64 (r.when_.mask : Int), .int .i64 r.when_.rel, .int .u64 (r.when_.value : Int), .int .i64 r.do_.1, .int .u64 (r.do_.2 : Int)]
abbrev ruO (C : Value) (op : Int) (S : Value) (f m r v k n : Int) : Obj := .cells #[C, .int .i64 op, S, .int .i64 f, .int .u64 m, .int .i64 r, .int .u64 v, .int .i64 k, .int .u64 n] 46
theorem RuIn.keep {w w' : World} {F G : Nat → Prop} {r : Ru} {tb : Nat} {A : Option Addr} {cap : Nat} (h : RuIn w F r tb A cap) (hs : w.heap.size ≤ w'.heap.size) (hF : ∀ k, F k → G k) (hk : ∀ k, F k → k < w.heap.size → w'.heap[k]? = w.heap[k]?) : RuIn w' G r tb A cap :=
  ⟨⟨hF _ h.1.1, Nat.lt_of_lt_of_le h.1.2.1 hs, fun j u hj => (World.cell?_of_block (a := ⟨tb, j, none⟩) (hk tb h.1.1 h.1.2.1)).trans (h.1.2.2 j u hj)⟩, h.2.keep hs hF hk⟩
/-- A rule as a value. -/
def RuP (lo : Nat) (r : Ru) (v : Value) (W : World) : Prop := ∃ tb capc A cap, v = ruV r tb capc A cap ∧ RuIn W (fun k => lo ≤ k) r tb A cap
namespace RuleAt
variable {w W : World} {b : Nat} {s : ByteArray} {d i E tb capc : Nat} {cs : List (ByteArray × Nat)} {x : Ex} {A : Option Addr} {cap : Nat} {k n : Int}
end RuleAt
end Go.Proofs.YtgeapkjegemkeaaDoor
namespace Go.Proofs.YtgeapkjegemkeaaDoor
open Go Go.RowKit
set_option linter.unusedSimpArgs false
set_option linter.unusedVariables false

/-- Rules in a row. -/
def RuRow (w : World) (F : Nat → Prop) : List Ru → Nat → Nat → Prop
  | [], _, _ => True
  | r :: l, tb, o => (∃ t capc A cap, RuIn w F r t A cap ∧ ∀ j u, (ruC r t capc A cap)[j]? = some u → w.cell? ⟨tb, o + j, none⟩ = some u) ∧ RuRow w F l tb (o + 9)
theorem RuRow.keep {w w' : World} {F G : Nat → Prop} (hs : w.heap.size ≤ w'.heap.size) (hF : ∀ k, F k → G k) (hk : ∀ k, F k → k < w.heap.size → w'.heap[k]? = w.heap[k]?) {tb : Nat} (hf : F tb) (ht : tb < w.heap.size) : ∀ {l : List Ru} {o : Nat}, RuRow w F l tb o → RuRow w' G l tb o
  | [], _, _ => trivial
  | r :: l, o, ⟨⟨t, c, A, cap, h1, h2⟩, h3⟩ => ⟨⟨t, c, A, cap, h1.keep hs hF hk, fun j u hj => (World.cell?_of_block (a := ⟨tb, o + j, none⟩) (hk tb hf ht)).trans (h2 j u hj)⟩, RuRow.keep hs hF hk hf ht h3⟩
def ChunksR (w : World) (F : Nat → Prop) : List Ru → List Value → Prop
  | [], xs => xs = []
  | r :: l, xs => ∃ t capc A cap ys, RuIn w F r t A cap ∧ xs = ruC r t capc A cap ++ ys ∧ ChunksR w F l ys
theorem ChunksR.keep {w w' : World} {F G : Nat → Prop} (hs : w.heap.size ≤ w'.heap.size) (hF : ∀ k, F k → G k) (hk : ∀ k, F k → k < w.heap.size → w'.heap[k]? = w.heap[k]?) : ∀ {l : List Ru} {xs : List Value}, ChunksR w F l xs → ChunksR w' G l xs
  | [], _, h => h
  | r :: l, xs, ⟨t, c, A, cap, ys, h1, h2, h3⟩ => ⟨t, c, A, cap, ys, h1.keep hs hF hk, h2, h3.keep hs hF hk⟩
theorem ru_lt {w : World} {F : Nat → Prop} {r : Ru} {t : Nat} {A : Option Addr} {cap : Nat} (h : RuIn w F r t A cap) : RuIn w (fun k => F k ∧ k < w.heap.size) r t A cap := ⟨⟨⟨h.1.1, h.1.2.1⟩, h.1.2⟩, ex_lt h.2⟩
theorem chunksR_lt {w : World} {F : Nat → Prop} : ∀ {l : List Ru} {xs : List Value}, ChunksR w F l xs → ChunksR w (fun k => F k ∧ k < w.heap.size) l xs
  | [], _, h => h
  | r :: l, xs, ⟨t, c, A, cap, ys, h1, h2, h3⟩ => ⟨t, c, A, cap, ys, ru_lt h1, h2, chunksR_lt h3⟩
theorem ChunksR.snoc {w : World} {F : Nat → Prop} {r : Ru} {t capc : Nat} {A : Option Addr} {cap : Nat} (he : RuIn w F r t A cap) : ∀ {l : List Ru} {xs : List Value}, ChunksR w F l xs → ChunksR w F (l ++ [r]) (xs ++ ruC r t capc A cap)
  | [], xs, h => by
    have : xs = [] := h
    subst this
    exact ⟨t, capc, A, cap, [], he, by simp, rfl⟩
  | x :: l, xs, ⟨t', c', A', cap', ys, h1, h2, h3⟩ => ⟨t', c', A', cap', ys ++ ruC r t capc A cap, h1, by rw [h2, List.append_assoc], h3.snoc he⟩
theorem ChunksR.row {w : World} {F : Nat → Prop} {tb : Nat} : ∀ {l : List Ru} {xs : List Value} {o : Nat}, ChunksR w F l xs → (∀ j u, xs[j]? = some u → w.cell? ⟨tb, o + j, none⟩ = some u) → RuRow w F l tb o
  | [], _, _, _, _ => trivial
  | r :: l, xs, o, ⟨t, c, A, cap, ys, h1, h2, h3⟩, hc => by
    subst h2
    refine ⟨⟨t, c, A, cap, h1, fun j u hj => hc j u ?_⟩, h3.row (fun j u hj => ?_)⟩
    · have hlt : j < (ruC r t c A cap).length := (List.getElem?_eq_some_iff.1 hj).1
      rw [List.getElem?_append_left hlt]; exact hj
    · have := hc (9 + j) u (by
        rw [List.getElem?_append_right (by simp [ruC])]
        have : 9 + j - (ruC r t c A cap).length = j := by simp [ruC]
        rw [this]; exact hj)
      rw [show o + 9 + j = o + (9 + j) by omega]; exact this
theorem ru_one {r : Ru} {t capc : Nat} {A : Option Addr} {cap : Nat} : ∀ u ∈ ruC r t capc A cap, u.oneCell' = true := by
  intro u hu
  simp only [ruC, List.mem_cons, List.not_mem_nil, or_false] at hu
  rcases hu with rfl | rfl | rfl | rfl | rfl | rfl | rfl | rfl | rfl <;> rfl
abbrev ruCells (r : Ru) (tb capc : Nat) (A : Option Addr) (cap : Nat) : Obj := .cells #[.slice (some ⟨tb, 0, none⟩) r.calls.length capc, .int .i64 r.when_.op, .slice A r.when_.args.length cap, .int .i64 r.when_.field, .int .u64 (r.when_.mask : Int), .int .i64 r.when_.rel, .int .u64 (r.when_.value : Int), .int .i64 r.do_.1, .int .u64 (r.do_.2 : Int)] 46
theorem ru_cells (w : World) (B : Nat) (hB : B = w.heap.size) (r : Ru) (t capc : Nat) (A : Option Addr) (cap : Nat) (j : Nat) (u : Value) (h : (ruC r t capc A cap)[j]? = some u) : (w.alloc (ruCells r t capc A cap)).cell? ((⟨B, 0, none⟩ : Addr).add j) = some u := by
  subst hB
  rw [addr_add, Nat.zero_add]
  refine cell6 (World.alloc_heap_new w _) j ?_
  rw [← List.getElem?_toArray] at h
  exact h
theorem info_ru : (Tryd.prog.info? 46).map (fun i => (i.zero, i.size, i.bytes)) = some (some (.agg #[.slice none 0 0, .int .i64 0, .slice none 0 0, .int .i64 0, .int .u64 0, .int .i64 0, .int .u64 0, .int .i64 0, .int .u64 0]), 9, 104) := by kernel_rfl
/-- Rules, as a slice. -/
def RulesP (lo : Nat) (l : List Ru) (v : Value) (W : World) : Prop := (l = [] ∧ v = .slice none 0 0) ∨ ∃ tb cap, v = .slice (some ⟨tb, 0, none⟩) l.length cap ∧ lo ≤ tb ∧ tb < W.heap.size ∧ RuRow W (fun k => lo ≤ k) l tb 0
section
variable {s : ByteArray} {w wr wb wd : World} {b n : Nat} {g : Got (List Ru)} {v v' : Value} {l : List Ru} {xs : List Value} {m i k : Nat} {r : Ru} {t capc : Nat} {A : Option Addr} {cap : Nat} {O : Obj}
end
theorem rule_on {S : Src} {n i : Nat} (h : ¬ (tk S i).text = bOn) : ruleG S n i = .bad 61 (tk S i).pos := by
  unfold ruleG demandG
  rw [if_neg h]; rfl
theorem fwd_rule {S : Src} (n i : Nat) : Fwd S 1 i (ruleG S n i) :=
  (fwd_demand bOn i).andThen (m := 0) fun _ j hj => ((fwd_byTurns bComma (fun i _ => fwd_call i) n j hj).andThen (m := 0) fun cs k hk => (show Fwd S 0 k (whenG S n k) from .ite (((fwd_adv k ()).andThen (m := 1) fun _ j hj => fwd_expr n 0 j hj).le (Nat.zero_le _)) (fwd_ok hk _)).andThen (m := 0) fun e l hl =>
    ((fwd_demand bDo l).andThen (m := 0) fun _ m hm => ((fwd_verd m).andThen (m := 0) fun v o ho => ((fwd_demand bSemi o).andThen (m := 0) fun _ p hp => fwd_ok hp _).le (Nat.zero_le _)).le (Nat.zero_le _)).le (Nat.zero_le _)).le (Nat.zero_le _)
end Go.Proofs.YtgeapkjegemkeaaDoor
namespace Go.Proofs.YtgeapkjegemkeaaDoor
open Go Go.RowKit
set_option linter.unusedSimpArgs false
set_option linter.unusedVariables false

abbrev poO (a : ByteArray) (fk fn dk dn : Int) (R : Value) : Obj := .cells #[.string a, .int .i64 fk, .int .u64 fn, .int .i64 dk, .int .u64 dn, R] 28
abbrev poV (a : ByteArray) (fk fn dk dn : Int) (R : Value) : Value := .agg #[.string a, .int .i64 fk, .int .u64 fn, .int .i64 dk, .int .u64 dn, R]
/-- A policy as a value. -/
def PoP (lo : Nat) (p : Po) (v : Value) (W : World) : Prop := ∃ R, v = poV p.arch p.foreign_.1 (p.foreign_.2 : Int) p.default_.1 (p.default_.2 : Int) R ∧ RulesP lo p.rules R W
theorem rules_keep {lo lo' : Nat} {l : List Ru} {v : Value} {W W' : World} (h : RulesP lo l v W) (hs : W.heap.size ≤ W'.heap.size) (hlo : lo' ≤ lo) (hk : ∀ k, lo ≤ k → k < W.heap.size → W'.heap[k]? = W.heap[k]?) : RulesP lo' l v W' := by
  rcases h with h | ⟨tb, cap, h1, h2, h3, h4⟩
  · exact .inl h
  · exact .inr ⟨tb, cap, h1, by omega, by omega, RuRow.keep hs (fun k hk => by omega) hk h2 h3 h4⟩
theorem po_keep {lo lo' : Nat} {p : Po} {v : Value} {W W' : World} (h : PoP lo p v W) (hs : W.heap.size ≤ W'.heap.size) (hlo : lo' ≤ lo) (hk : ∀ k, lo ≤ k → k < W.heap.size → W'.heap[k]? = W.heap[k]?) : PoP lo' p v W' := by
  obtain ⟨R, h1, h2⟩ := h
  exact ⟨R, h1, rules_keep h2 hs hlo hk⟩
namespace PoAt
variable {w W : World} {b : Nat} {s : ByteArray} {i : Nat} {a : ByteArray} {fk fn dk dn : Int}
end PoAt

theorem rules_form {lo : Nat} {l : List Ru} {v : Value} {W : World} (h : RulesP lo l v W) : ∃ A n c, v = .slice A n c := by
  rcases h with ⟨_, rfl⟩ | ⟨tb, cap, rfl, _⟩
  · exact ⟨_, _, _, rfl⟩
  · exact ⟨_, _, _, rfl⟩
theorem po_end {w W : World} {lo : Nat} {l : List Ru} {Rv : Value} (h : RulesP lo l Rv W) (hlo : w.heap.size + 1 < lo) (a b c d e f : Value) :
    RulesP w.heap.size l Rv (((((((W.setCell ⟨w.heap.size + 1, 5, none⟩ Rv).setCell ⟨w.heap.size, 0, none⟩ a).setCell ⟨w.heap.size, 1, none⟩ b).setCell ⟨w.heap.size, 2, none⟩ c).setCell ⟨w.heap.size, 3, none⟩ d).setCell ⟨w.heap.size, 4, none⟩ e).setCell ⟨w.heap.size, 5, none⟩ f) := by
  refine rules_keep h (by simp [World.setCell]) (by omega) (fun k hk _ => ?_)
  refine (Below.heap_setCell _ ⟨w.heap.size, 5, none⟩ f k (show k ≠ w.heap.size by omega)).trans ((Below.heap_setCell _ ⟨w.heap.size, 4, none⟩ e k (show k ≠ w.heap.size by omega)).trans ((Below.heap_setCell _ ⟨w.heap.size, 3, none⟩ d k (show k ≠ w.heap.size by omega)).trans ((Below.heap_setCell _ ⟨w.heap.size, 2, none⟩ c k (show k ≠ w.heap.size by omega)).trans ((Below.heap_setCell _ ⟨w.heap.size, 1, none⟩ b k (show k ≠ w.heap.size by omega)).trans ((Below.heap_setCell _ ⟨w.heap.size, 0, none⟩ a k (show k ≠ w.heap.size by omega)).trans (Below.heap_setCell _ ⟨w.heap.size + 1, 5, none⟩ Rv k (show k ≠ w.heap.size + 1 by omega)))))))
end Go.Proofs.YtgeapkjegemkeaaDoor
namespace Go.Proofs.YtgeapkjegemkeaaDoor
open Go Go.RowKit
set_option linter.unusedSimpArgs false
set_option linter.unusedVariables false

theorem rules_set6 {w W : World} {lo : Nat} {l : List Ru} {Rv : Value} (h : RulesP lo l Rv W) (hlo : w.heap.size < lo) (a b c d e f : Value) :
    RulesP w.heap.size l Rv ((((((W.setCell ⟨w.heap.size, 0, none⟩ a).setCell ⟨w.heap.size, 1, none⟩ b).setCell ⟨w.heap.size, 2, none⟩ c).setCell ⟨w.heap.size, 3, none⟩ d).setCell ⟨w.heap.size, 4, none⟩ e).setCell ⟨w.heap.size, 5, none⟩ f) := by
  refine rules_keep h (by simp [World.setCell]) (by omega) (fun k hk _ => ?_)
  exact (Below.heap_setCell _ ⟨w.heap.size, 5, none⟩ f k (show k ≠ w.heap.size by omega)).trans ((Below.heap_setCell _ ⟨w.heap.size, 4, none⟩ e k (show k ≠ w.heap.size by omega)).trans ((Below.heap_setCell _ ⟨w.heap.size, 3, none⟩ d k (show k ≠ w.heap.size by omega)).trans ((Below.heap_setCell _ ⟨w.heap.size, 2, none⟩ c k (show k ≠ w.heap.size by omega)).trans ((Below.heap_setCell _ ⟨w.heap.size, 1, none⟩ b k (show k ≠ w.heap.size by omega)).trans (Below.heap_setCell _ ⟨w.heap.size, 0, none⟩ a k (show k ≠ w.heap.size by omega))))))
/-- A policy's text as it is read. -/
def policyF (s : ByteArray) : Got Po := readG (srcF s) (policyG (srcF s) ((srcF s).toks.length + 1))
end Go.Proofs.YtgeapkjegemkeaaDoor

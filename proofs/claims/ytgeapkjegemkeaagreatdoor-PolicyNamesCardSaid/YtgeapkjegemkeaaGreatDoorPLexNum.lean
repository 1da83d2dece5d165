/-
  What the program's Number and Word answer of a text: contracts. Conditions: those that each names.
-/
import Derived.Test.YtgeapkjegemkeaaGreatDoorPLexRun
import Derived.Test.YtgeapkjegemkeaaGreatDoorLexNum
import Derived.Test.YtgeapkjegemkeaaGreatDoorLexBack
namespace Go.Proofs.YtgeapkjegemkeaaGreatDoor
open Go Go.RowKit
set_option linter.unusedSimpArgs false
set_option linter.unusedVariables false

/-- The number of k digits of a base from place i on, if they are digits and it is not too great. -/
def joinF (b : Nat) (f : Nat → Nat) : Nat → Option Nat
  | 0 => some 0
  | k + 1 => match joinF b f k with
    | none => none
    | some v => if digN (f k) < b ∧ v * b + digN (f k) < 18446744073709551616 then some (v * b + digN (f k)) else none
set_option maxRecDepth 100000 in
theorem join_no {b : Nat} {f : Nat → Nat} {k : Nat} (h : joinF b f k = none) : ∀ m, joinF b f (k + m) = none
  | 0 => h
  | m + 1 => by show (match joinF b f (k + m) with | none => none | some v => _) = none; rw [join_no h m]
set_option maxRecDepth 100000 in
theorem join_none {b : Nat} {f : Nat → Nat} {k n v : Nat} (h : joinF b f k = some v) (hk : k < n) (hd : ¬ (digN (f k) < b ∧ v * b + digN (f k) < 18446744073709551616)) : joinF b f n = none := by
  have h1 : joinF b f (k + 1) = none := by
    show (match joinF b f k with | none => none | some v => if digN (f k) < b ∧ v * b + digN (f k) < 18446744073709551616 then some (v * b + digN (f k)) else none) = none
    rw [h]; exact if_neg hd
  have := join_no h1 (n - (k + 1))
  rwa [show k + 1 + (n - (k + 1)) = n by omega] at this
set_option maxRecDepth 100000 in
theorem join_some {b : Nat} {f : Nat → Nat} {k v : Nat} (h : joinF b f k = some v) (h1 : digN (f k) < b) (h2 : v * b + digN (f k) < 18446744073709551616) : joinF b f (k + 1) = some (v * b + digN (f k)) := by
  show (match joinF b f k with | none => none | some v => if digN (f k) < b ∧ v * b + digN (f k) < 18446744073709551616 then some (v * b + digN (f k)) else none) = _
  rw [h]; exact if_pos ⟨h1, h2⟩
set_option maxRecDepth 100000 in
theorem join_lt {b : Nat} {f : Nat → Nat} : ∀ {k v : Nat}, joinF b f k = some v → v < 18446744073709551616
  | 0, v, h => by cases h; decide
  | k + 1, v, h => by
    cases hj : joinF b f k with
    | none => have := join_no hj 1; rw [this] at h; cases h
    | some u =>
      by_cases hd : digN (f k) < b ∧ u * b + digN (f k) < 18446744073709551616
      · rw [join_some hj hd.1 hd.2] at h; cases h; exact hd.2
      · rw [join_none hj (Nat.lt_succ_self k) hd] at h; cases h
/-- Are there any, and are they a number? -/
def joinB (b : Nat) (f : Nat → Nat) (n : Nat) : Bool := (joinF b f n).isSome && decide (n ≠ 0)

set_option maxRecDepth 100000 in
theorem p_hasPrefix (s p : ByteArray) (w : World) :
    Calls Tryz.prog 28 #[.string s, .string p] w fun e w' => e = .returned (.bool (Lib.hasPrefix s.data.toList p.data.toList)) ∧ w' = w := by
  rw [← Lib.hasPrefix_of_take, ← Lib.size_eq, ← Lib.size_eq]
  go_enter Tryz.func28, Tryz.ntmps28
  go_wp2
  all_goals
    rename_i h
    go_ret
    refine ⟨?_, rfl⟩
    first
    | (show Ending.returned (Value.bool ((s.extract 0 p.size).toList == p.toList)) = _; rw [Lib.extract_toList, Lib.toList_data]; simp [h])
    | (show Ending.returned (Value.bool false) = _; simp [h])
set_option maxRecDepth 100000 in
theorem digN_le (c : Nat) : digN c ≤ 18446744073709551615 ∧ (digN c < 16 ∨ digN c = 18446744073709551615) := by
  unfold digN; split
  · omega
  · split <;> omega
set_option maxRecDepth 100000 in
theorem text_empty (s : ByteArray) : s.toList.isEmpty = decide (s.size = 0) := by
  rw [Lib.toList_data]
  cases h : s.data.toList with
  | nil => have : s.size = 0 := by rw [Lib.size_eq, h]; rfl
           rw [this]; rfl
  | cons a l => have : s.size = l.length + 1 := by rw [Lib.size_eq, h]; rfl
                rw [this]; simp
set_option maxRecDepth 100000 in
theorem p_joined10 (s : ByteArray) (hs : s.size ≤ maxLen) (w : World) :
    Calls Tryz.prog 150 #[.string s, .int .u64 10] w (NumP w ((joinF 10 (byt s) s.size).getD 0) (joinB 10 (byt s) s.size)) := by
  unfold maxLen at hs
  have HD := Lib.hid (fun c h w => p_digit c h w)
  have HE := Lib.hid (fun (v : Nat) (hv : joinF 10 (byt s) s.size = some v) => (show ((joinF 10 (byt s) s.size).getD 0) = v ∧ joinB 10 (byt s) s.size = !s.toList.isEmpty by unfold joinB; rw [hv, text_empty]; exact ⟨rfl, by simp⟩))
  have HN := Lib.hid (fun (hv : joinF 10 (byt s) s.size = none) => (show ((joinF 10 (byt s) s.size).getD 0) = 0 ∧ joinB 10 (byt s) s.size = false by unfold joinB; rw [hv]; exact ⟨rfl, rfl⟩))
  generalize hV : (joinF 10 (byt s) s.size).getD 0 = V at HE HN ⊢
  generalize hB : joinB 10 (byt s) s.size = B at HE HN ⊢
  clear hV hB
  go_enter Tryz.func150, Tryz.ntmps150
  go_wp2
  go_loop [6, 11] (fun u v => ∃ k n : Nat, k ≤ s.size ∧ v = .int .i64 (k : Int) ∧ u = .int .u64 (n : Int) ∧ joinF 10 (byt s) k = some n) (fun _ v => s.size - (intOf v).toNat)
  case atStart => exact ⟨0, 0, by omega, rfl, rfl, rfl⟩
  case round =>
    obtain ⟨k, n, hk, rfl, rfl, hJ⟩ := hrel
    have hn64 := join_lt hJ
    by_cases hlt : k < s.size
    · have hlt' : (k : Int) < (s.size : Int) := by omega
      have e := byt_is hlt
      have HDc := Lib.hid (HD.out (byt s k) (byt_lt s k))
      have HNo := Lib.hid (fun hd => HN.out (join_none hJ hlt hd))
      have HYes := Lib.hid (join_some (b := 10) (f := byt s) (k := k) hJ)
      clear hJ HD HE HN
      have hd := digN_le (byt s k)
      generalize digN (byt s k) = d at HDc HNo HYes hd
      generalize byt s k = c at e HDc
      have hd1 := hd.1
      clear hd
      by_cases hdb : d < 10
      · have hdb' : ¬ 10 ≤ (d : Int) := by omega
        by_cases hov : n * 10 + d < 18446744073709551616
        · have HS := Lib.hid (HYes.out hdb hov)
          have g1 : ¬ (18446744073709551615 - (d : Int)) / 10 < (n : Int) := by omega
          have g2 : (decide ((d : Int) < 10)) = true := decide_eq_true (by omega)
          clear HNo HYes
          go_wp2_with (go_at_call 153; (with_reducible refine (HDc.out _).mono ?_); rintro e w' ⟨rfl, rfl⟩)
          exact ⟨⟨k + 1, n * 10 + d, by omega, by go_num, by go_num, HS.out⟩, by simp [intOf]; omega⟩
        · have HS := Lib.hid (HNo.out (fun g => hov g.2))
          have g1 : (18446744073709551615 - (d : Int)) / 10 < (n : Int) := by omega
          clear HNo HYes hov
          go_wp2_with (go_at_call 153; (with_reducible refine (HDc.out _).mono ?_); rintro e w' ⟨rfl, rfl⟩)
          go_ret2
          exact ⟨by rw [HS.out.1, HS.out.2]; rfl, rfl⟩
      · have hdb' : 10 ≤ (d : Int) := by omega
        have HS := Lib.hid (HNo.out (fun g => hdb g.1))
        clear HNo HYes
        go_wp2_with (go_at_call 153; (with_reducible refine (HDc.out _).mono ?_); rintro e w' ⟨rfl, rfl⟩)
        go_ret2
        exact ⟨by rw [HS.out.1, HS.out.2]; rfl, rfl⟩
    · have hks : k = s.size := by omega
      subst hks
      have HS := Lib.hid (HE.out _ hJ)
      clear HE HN hJ HD
      go_wp2
      go_ret2
      exact ⟨by rw [HS.out.1, HS.out.2]; rfl, rfl⟩
set_option maxRecDepth 100000 in
theorem p_joined16 (s : ByteArray) (hs : s.size ≤ maxLen) (w : World) :
    Calls Tryz.prog 150 #[.string s, .int .u64 16] w (NumP w ((joinF 16 (byt s) s.size).getD 0) (joinB 16 (byt s) s.size)) := by
  unfold maxLen at hs
  have HD := Lib.hid (fun c h w => p_digit c h w)
  have HE := Lib.hid (fun (v : Nat) (hv : joinF 16 (byt s) s.size = some v) => (show ((joinF 16 (byt s) s.size).getD 0) = v ∧ joinB 16 (byt s) s.size = !s.toList.isEmpty by unfold joinB; rw [hv, text_empty]; exact ⟨rfl, by simp⟩))
  have HN := Lib.hid (fun (hv : joinF 16 (byt s) s.size = none) => (show ((joinF 16 (byt s) s.size).getD 0) = 0 ∧ joinB 16 (byt s) s.size = false by unfold joinB; rw [hv]; exact ⟨rfl, rfl⟩))
  generalize hV : (joinF 16 (byt s) s.size).getD 0 = V at HE HN ⊢
  generalize hB : joinB 16 (byt s) s.size = B at HE HN ⊢
  clear hV hB
  go_enter Tryz.func150, Tryz.ntmps150
  go_wp2
  go_loop [6, 11] (fun u v => ∃ k n : Nat, k ≤ s.size ∧ v = .int .i64 (k : Int) ∧ u = .int .u64 (n : Int) ∧ joinF 16 (byt s) k = some n) (fun _ v => s.size - (intOf v).toNat)
  case atStart => exact ⟨0, 0, by omega, rfl, rfl, rfl⟩
  case round =>
    obtain ⟨k, n, hk, rfl, rfl, hJ⟩ := hrel
    have hn64 := join_lt hJ
    by_cases hlt : k < s.size
    · have hlt' : (k : Int) < (s.size : Int) := by omega
      have e := byt_is hlt
      have HDc := Lib.hid (HD.out (byt s k) (byt_lt s k))
      have HNo := Lib.hid (fun hd => HN.out (join_none hJ hlt hd))
      have HYes := Lib.hid (join_some (b := 16) (f := byt s) (k := k) hJ)
      clear hJ HD HE HN
      have hd := digN_le (byt s k)
      generalize digN (byt s k) = d at HDc HNo HYes hd
      generalize byt s k = c at e HDc
      have hd1 := hd.1
      clear hd
      by_cases hdb : d < 16
      · have hdb' : ¬ 16 ≤ (d : Int) := by omega
        by_cases hov : n * 16 + d < 18446744073709551616
        · have HS := Lib.hid (HYes.out hdb hov)
          have g1 : ¬ (18446744073709551615 - (d : Int)) / 16 < (n : Int) := by omega
          have g2 : (decide ((d : Int) < 16)) = true := decide_eq_true (by omega)
          clear HNo HYes
          go_wp2_with (go_at_call 153; (with_reducible refine (HDc.out _).mono ?_); rintro e w' ⟨rfl, rfl⟩)
          exact ⟨⟨k + 1, n * 16 + d, by omega, by go_num, by go_num, HS.out⟩, by simp [intOf]; omega⟩
        · have HS := Lib.hid (HNo.out (fun g => hov g.2))
          have g1 : (18446744073709551615 - (d : Int)) / 16 < (n : Int) := by omega
          clear HNo HYes hov
          go_wp2_with (go_at_call 153; (with_reducible refine (HDc.out _).mono ?_); rintro e w' ⟨rfl, rfl⟩)
          go_ret2
          exact ⟨by rw [HS.out.1, HS.out.2]; rfl, rfl⟩
      · have hdb' : 16 ≤ (d : Int) := by omega
        have HS := Lib.hid (HNo.out (fun g => hdb g.1))
        clear HNo HYes
        go_wp2_with (go_at_call 153; (with_reducible refine (HDc.out _).mono ?_); rintro e w' ⟨rfl, rfl⟩)
        go_ret2
        exact ⟨by rw [HS.out.1, HS.out.2]; rfl, rfl⟩
    · have hks : k = s.size := by omega
      subst hks
      have HS := Lib.hid (HE.out _ hJ)
      clear HE HN hJ HD
      go_wp2
      go_ret2
      exact ⟨by rw [HS.out.1, HS.out.2]; rfl, rfl⟩
/- joined: behind -/
set_option maxRecDepth 100000 in
theorem join_val {b : Nat} {f : Nat → Nat} : ∀ {k v : Nat}, joinF b f k = some v ↔ (∀ j, j < k → digN (f j) < b) ∧ valF b digN f 0 k = v ∧ (1 ≤ b → v < 18446744073709551616)
  | 0, v => by
    constructor
    · intro h; cases h; exact ⟨fun j hj => absurd hj (by omega), rfl, fun _ => by decide⟩
    · rintro ⟨_, rfl, _⟩; rfl
  | k + 1, v => by
    have hv : valF b digN f 0 (k + 1) = valF b digN f 0 k * b + digN (f k) := by
      show valF b digN f 0 k * b + digN (f (0 + k)) = _
      rw [Nat.zero_add]
    constructor
    · intro h
      cases hj : joinF b f k with
      | none => have := join_no hj 1; rw [this] at h; cases h
      | some u =>
        by_cases hd : digN (f k) < b ∧ u * b + digN (f k) < 18446744073709551616
        · rw [join_some hj hd.1 hd.2] at h
          cases h
          obtain ⟨h1, h2, _⟩ := join_val.1 hj
          refine ⟨fun j hj' => ?_, by rw [hv, h2], fun _ => hd.2⟩
          rcases Nat.lt_or_ge j k with g | g
          · exact h1 j g
          · rw [show j = k by omega]; exact hd.1
        · rw [join_none hj (Nat.lt_succ_self k) hd] at h; cases h
    · rintro ⟨h1, h2, h3⟩
      have hk := h1 k (Nat.lt_succ_self k)
      have hb : 1 ≤ b := by omega
      have h3' := h3 hb
      rw [hv] at h2
      have hle : valF b digN f 0 k ≤ valF b digN f 0 k * b := Nat.le_mul_of_pos_right _ hb
      have : joinF b f k = some (valF b digN f 0 k) := join_val.2 ⟨fun j hj => h1 j (by omega), rfl, fun _ => by omega⟩
      rw [join_some this hk (by omega), h2]
set_option maxRecDepth 100000 in
theorem hex_dig {c : Nat} : hexB c = true ↔ digN c < 16 := by
  unfold hexB digN
  rw [decide_eq_true_iff]
  split
  · omega
  · split <;> omega
set_option maxRecDepth 100000 in
theorem hex_val {c : Nat} (h : hexB c = true) : hexN c = digN c := by
  have := of_decide_eq_true h
  unfold hexN digN
  split
  · rw [if_pos (by omega)]
  · rw [if_neg (by omega), if_pos (by omega)]
set_option maxRecDepth 100000 in
theorem dec_dig {c : Nat} : digB c = true ↔ digN c < 10 := by
  unfold digB digN
  rw [decide_eq_true_iff]
  split
  · omega
  · split <;> omega
set_option maxRecDepth 100000 in
theorem dec_val {c : Nat} (h : digB c = true) : decN c = digN c := by
  have := of_decide_eq_true h
  unfold decN digN
  rw [if_pos (by omega)]
set_option maxRecDepth 100000 in
theorem upTo_all_iff {p : Nat → Bool} {f : Nat → Nat} {n i : Nat} (hi : i ≤ n) : upTo p f n i = n ↔ ∀ j, i ≤ j → j < n → p (f j) = true :=
  ⟨fun h j h1 h2 => upTo_all p f n i j h1 (by rw [h]; exact h2), fun h => upTo_is hi (Nat.le_refl _) (fun j h1 h2 => h j h1 h2) (fun g => absurd g.1 (by omega))⟩
set_option maxRecDepth 100000 in
theorem val_eq {b : Nat} {d d' : Nat → Nat} {f g : Nat → Nat} {i i' : Nat} : ∀ k, (∀ j, j < k → d (f (i + j)) = d' (g (i' + j))) → valF b d f i k = valF b d' g i' k
  | 0, _ => rfl
  | k + 1, h => by
    show valF b d f i k * b + d (f (i + k)) = valF b d' g i' k * b + d' (g (i' + k))
    rw [val_eq k (fun j hj => h j (by omega)), h k (by omega)]
set_option maxRecDepth 100000 in
theorem val_big {f : Nat → Nat} (h : 1 ≤ digN (f 0)) : ∀ k, 10 ^ k ≤ valF 10 digN f 0 (k + 1)
  | 0 => by show 1 ≤ 0 * 10 + digN (f 0); omega
  | k + 1 => by
    have := val_big h k
    show 10 ^ (k + 1) ≤ valF 10 digN f 0 (k + 1) * 10 + digN (f (0 + (k + 1)))
    rw [Nat.pow_succ]; omega
set_option maxRecDepth 100000 in
theorem num_hex {f g : Nat → Nat} {n : Nat} (h : 2 ≤ n ∧ f 0 = 48 ∧ f 1 = 120) (hn : n ≤ 18) (hg : ∀ j, j < n - 2 → g j = f (2 + j)) : numV f n = (joinF 16 g (n - 2)).getD 0 ∧ numB f n = joinB 16 g (n - 2) := by
  unfold numV numB numF
  rw [if_pos h]
  by_cases ha : upTo hexB f n 2 = n
  · have hall := (upTo_all_iff h.1).1 ha
    have hx : ∀ j, j < n - 2 → hexB (f (2 + j)) = true := fun j hj => hall (2 + j) (by omega) (by omega)
    have hJ : joinF 16 g (n - 2) = some (valF 16 hexN f 2 (n - 2)) := by
      have hv : valF 16 digN g 0 (n - 2) = valF 16 hexN f 2 (n - 2) := val_eq _ fun j hj => by
        rw [Nat.zero_add, hg j hj, hex_val (hx j hj)]
      refine join_val.2 ⟨fun j hj => by rw [hg j hj]; exact hex_dig.1 (hx j hj), hv, fun _ => ?_⟩
      rw [← hv]
      refine Nat.lt_of_lt_of_le (val_lt 16 digN g 0 (n - 2) fun j hj => by rw [Nat.zero_add, hg j hj]; exact hex_dig.1 (hx j hj)) ?_
      exact Nat.pow_le_pow_right (by decide) (show n - 2 ≤ 16 by omega)
    unfold joinB
    rw [hJ]
    by_cases h3 : n < 3
    · rw [if_pos (Or.inl h3)]
      have : n - 2 = 0 := by omega
      rw [this]; exact ⟨rfl, rfl⟩
    · rw [if_neg (by rintro (g1 | g1 | g1) <;> first | omega | exact g1 ha)]
      exact ⟨rfl, by simp; omega⟩
  · have hJ : joinF 16 g (n - 2) = none := by
      cases hj : joinF 16 g (n - 2) with
      | none => rfl
      | some v =>
        refine absurd ((upTo_all_iff h.1).2 fun j h1 h2 => hex_dig.2 ?_) ha
        have := (join_val.1 hj).1 (j - 2) (by omega)
        rwa [hg (j - 2) (by omega), show 2 + (j - 2) = j by omega] at this
    rw [if_pos (Or.inr (Or.inr ha))]
    unfold joinB
    rw [hJ]; exact ⟨rfl, rfl⟩
set_option maxRecDepth 100000 in
theorem num_hex_long {f : Nat → Nat} {n : Nat} (h : 2 ≤ n ∧ f 0 = 48 ∧ f 1 = 120) (hn : 18 < n) : numV f n = 0 ∧ numB f n = false := by
  unfold numV numB numF
  rw [if_pos h, if_pos (Or.inr (Or.inl hn))]; exact ⟨rfl, rfl⟩
set_option maxRecDepth 100000 in
theorem num_dec {f : Nat → Nat} {n : Nat} (hz : ¬ (f 0 = 48 ∧ 1 ≤ n)) : numV f n = (joinF 10 f n).getD 0 ∧ numB f n = joinB 10 f n := by
  unfold numV numB numF
  rw [if_neg (fun h => hz ⟨h.2.1, by omega⟩)]
  by_cases hc : n < 1 ∨ 20 < n ∨ (f 0 = 48 ∧ 1 < n) ∨ upTo digB f n 0 ≠ n ∨ 18446744073709551616 ≤ valF 10 decN f 0 n
  · rw [if_pos hc]
    unfold joinB
    rcases hc with h | h | h | h | h
    · have : n = 0 := by omega
      subst this; exact ⟨rfl, rfl⟩
    · cases hj : joinF 10 f n with
      | none => exact ⟨rfl, rfl⟩
      | some v =>
        obtain ⟨h1, h2, h3⟩ := join_val.1 hj
        have h3 := h3 (by decide)
        have hd0 : digB (f 0) = true := dec_dig.2 (h1 0 (by omega))
        have hd1 := of_decide_eq_true hd0
        have hge : 1 ≤ digN (f 0) := by
          rw [← dec_val hd0]; show 1 ≤ f 0 - 48
          have : f 0 ≠ 48 := fun e => hz ⟨e, by omega⟩
          omega
        have hb : 10 ^ 20 ≤ valF 10 digN f 0 21 := val_big hge 20
        have hm := val_le 10 digN f 0 (by decide) 21 (n - 21)
        rw [show 21 + (n - 21) = n by omega] at hm
        have : (10 : Nat) ^ 20 = 100000000000000000000 := by decide
        omega
    · exact absurd ⟨h.1, by omega⟩ hz
    · cases hj : joinF 10 f n with
      | none => exact ⟨rfl, rfl⟩
      | some v => exact absurd ((upTo_all_iff (Nat.zero_le _)).2 fun j _ h2 => dec_dig.2 ((join_val.1 hj).1 j h2)) h
    · cases hj : joinF 10 f n with
      | none => exact ⟨rfl, rfl⟩
      | some v =>
        obtain ⟨h1, h2, h3⟩ := join_val.1 hj
        have h3 := h3 (by decide)
        have : valF 10 decN f 0 n = valF 10 digN f 0 n := val_eq _ fun j hj => dec_val (dec_dig.2 (by rw [Nat.zero_add]; exact h1 j hj))
        omega
  · rw [if_neg hc]
    have ha : upTo digB f n 0 = n := Classical.byContradiction fun g => hc (.inr (.inr (.inr (.inl g))))
    have hall := (upTo_all_iff (Nat.zero_le _)).1 ha
    have hv : valF 10 digN f 0 n = valF 10 decN f 0 n := val_eq _ fun j hj => (dec_val (by rw [Nat.zero_add]; exact hall j (Nat.zero_le _) hj)).symm
    have hJ : joinF 10 f n = some (valF 10 decN f 0 n) := join_val.2 ⟨fun j hj => dec_dig.1 (hall j (Nat.zero_le _) hj), hv, fun _ => by omega⟩
    unfold joinB
    rw [hJ]
    exact ⟨rfl, by simp; omega⟩
set_option maxRecDepth 100000 in
theorem num_zero {f : Nat → Nat} {n : Nat} (h0 : n = 1) (hf : f 0 = 48) : numV f n = 0 ∧ numB f n = true := by
  subst h0
  have hu : upTo digB f 1 0 = 1 := (upTo_all_iff (by decide)).2 fun j _ hj => by rw [show j = 0 by omega, hf]; rfl
  have hv : valF 10 decN f 0 1 = 0 := by show 0 * 10 + decN (f (0 + 0)) = 0; rw [Nat.add_zero, hf]; rfl
  unfold numV numB numF
  rw [if_neg (by omega), if_neg (by rw [hu, hv]; omega), hv]
  exact ⟨rfl, rfl⟩
set_option maxRecDepth 100000 in
theorem num_lead {f : Nat → Nat} {n : Nat} (h : ¬ (2 ≤ n ∧ f 0 = 48 ∧ f 1 = 120)) (hn : 1 < n) (hf : f 0 = 48) : numV f n = 0 ∧ numB f n = false := by
  unfold numV numB numF
  rw [if_neg h, if_pos (Or.inr (Or.inr (Or.inl ⟨hf, hn⟩)))]; exact ⟨rfl, rfl⟩
set_option maxRecDepth 100000 in
theorem is_zero {s : ByteArray} : (s.toList == [48]) = decide (s.size = 1 ∧ byt s 0 = 48) := by
  rw [Lib.toList_data, byt_list, size_list]
  rcases hl : s.data.toList with _ | ⟨a, _ | ⟨b, l⟩⟩
  · rfl
  · rw [Bool.eq_iff_iff]; simp [← UInt8.toNat_inj]
  · rw [Bool.eq_iff_iff]; simp
set_option maxRecDepth 100000 in
theorem pre_two {s : ByteArray} : Lib.hasPrefix s.data.toList [48, 120] = decide (2 ≤ s.size ∧ byt s 0 = 48 ∧ byt s 1 = 120) := by
  rw [byt_list, byt_list, size_list]
  rcases hl : s.data.toList with _ | ⟨a, _ | ⟨b, l⟩⟩
  · rfl
  · rw [Bool.eq_iff_iff]; simp [Lib.hasPrefix]
  · rw [Bool.eq_iff_iff]
    simp [Lib.hasPrefix]
    exact ⟨fun ⟨h1, h2⟩ => by subst h1; subst h2; exact ⟨rfl, rfl⟩, fun ⟨h1, h2⟩ => ⟨UInt8.toNat_inj.1 (show (48 : UInt8).toNat = a.toNat from h1.symm), UInt8.toNat_inj.1 (show (120 : UInt8).toNat = b.toNat from h2.symm)⟩⟩
set_option maxRecDepth 100000 in
theorem pre_one {s : ByteArray} : Lib.hasPrefix s.data.toList [48] = decide (1 ≤ s.size ∧ byt s 0 = 48) := by
  rw [byt_list, size_list]
  rcases hl : s.data.toList with _ | ⟨a, l⟩
  · rfl
  · rw [Bool.eq_iff_iff]
    simp [Lib.hasPrefix]
    exact ⟨fun h1 => by subst h1; rfl, fun h1 => UInt8.toNat_inj.1 (show (48 : UInt8).toNat = a.toNat from h1.symm)⟩
set_option maxRecDepth 100000 in
theorem p_pre2 {s : ByteArray} {b : Bool} (h : decide (2 ≤ s.size ∧ byt s 0 = 48 ∧ byt s 1 = 120) = b) (w : World) : Calls Tryz.prog 28 #[.string s, .string ⟨#[48, 120]⟩] w fun e w' => e = .returned (.bool b) ∧ w' = w := by
  have := p_hasPrefix s ⟨#[48, 120]⟩ w
  rw [show (⟨#[48, 120]⟩ : ByteArray).data.toList = [48, 120] from rfl, pre_two, h] at this
  exact this
set_option maxRecDepth 100000 in
theorem p_pre1 {s : ByteArray} {b : Bool} (h : decide (1 ≤ s.size ∧ byt s 0 = 48) = b) (w : World) : Calls Tryz.prog 28 #[.string s, .string ⟨#[48]⟩] w fun e w' => e = .returned (.bool b) ∧ w' = w := by
  have := p_hasPrefix s ⟨#[48]⟩ w
  rw [show (⟨#[48]⟩ : ByteArray).data.toList = [48] from rfl, pre_one, h] at this
  exact this
set_option maxRecDepth 100000 in
theorem lex_Number (s : ByteArray) (hs : s.size ≤ maxLen) (w : World) : Calls Tryz.prog 145 #[.string s] w (NumP w (numV (byt s) s.size) (numB (byt s) s.size)) := by
  have hm := hs
  unfold maxLen at hs
  by_cases hz : byt s 0 = 48 ∧ 1 ≤ s.size
  · by_cases h1 : s.size = 1
    · have e0 : (s.toList == [48]) = true := by rw [is_zero]; exact decide_eq_true ⟨h1, hz.1⟩
      have HN := Lib.hid (num_zero h1 hz.1)
      clear hz h1
      go_enter Tryz.func145, Tryz.ntmps145
      go_wp2
      go_ret2
      exact ⟨by rw [HN.out.1, HN.out.2]; rfl, rfl⟩
    · have e0 : (s.toList == [48]) = false := by rw [is_zero]; exact decide_eq_false (fun g => h1 g.1)
      by_cases hx : 2 ≤ s.size ∧ byt s 0 = 48 ∧ byt s 1 = 120
      · have H2 := Lib.hid (fun w => p_pre2 (decide_eq_true hx) w)
        have hw : IntKind.i64.wrap ((s.size : Int) - 2) = ((s.size - 2 : Nat) : Int) := by rw [IntWalk.i64_in _ (by omega)]; omega
        have hsz : (s.extract 2 s.size).size = s.size - 2 := size_extract5 s 2 s.size (Nat.le_refl _)
        have h2le : 2 ≤ s.size := hx.1
        by_cases h18 : 18 < s.size
        · have HN := Lib.hid (num_hex_long hx h18)
          have g1 : (16 : Int) < ((s.extract 2 s.size).size : Int) := by omega
          clear hx hz h1
          go_enter Tryz.func145, Tryz.ntmps145
          go_wp2_with (go_at_call 28; (with_reducible refine (H2.out _).mono ?_); rintro e w' ⟨rfl, rfl⟩)
          go_ret2
          exact ⟨by rw [HN.out.1, HN.out.2]; rfl, rfl⟩
        · have hN := num_hex hx (by omega) (g := byt (s.extract 2 s.size)) (fun j hj => byt_extract s 2 s.size j (Nat.le_refl _) hj)
          have hJ := fun w => p_joined16 (s.extract 2 s.size) (by unfold maxLen; omega) w
          rw [hsz, ← hN.1, ← hN.2] at hJ
          have HJ := Lib.hid hJ
          have g1 : ¬ (16 : Int) < ((s.extract 2 s.size).size : Int) := by omega
          clear hx hz h1 hN hJ
          generalize numV (byt s) s.size = V at HJ ⊢
          generalize numB (byt s) s.size = B at HJ ⊢
          go_enter Tryz.func145, Tryz.ntmps145
          go_wp2_with (first
            | (go_at_call 28; (with_reducible refine (H2.out _).mono ?_); rintro e w' ⟨rfl, rfl⟩)
            | (go_at_call 150; (with_reducible refine (HJ.out _).mono ?_); rintro e w' ⟨rfl, rfl⟩))
          go_ret2
          exact ⟨rfl, rfl⟩
      · have H2 := Lib.hid (fun w => p_pre2 (decide_eq_false hx) w)
        have H1 := Lib.hid (fun w => p_pre1 (decide_eq_true ⟨hz.2, hz.1⟩) w)
        have HN := Lib.hid (num_lead hx (by omega) hz.1)
        clear hx hz h1
        go_enter Tryz.func145, Tryz.ntmps145
        go_wp2_with (first
          | (go_at_call 28; (with_reducible refine (H2.out _).mono ?_); rintro e w' ⟨rfl, rfl⟩)
          | (go_at_call 28; (with_reducible refine (H1.out _).mono ?_); rintro e w' ⟨rfl, rfl⟩))
        go_ret2
        exact ⟨by rw [HN.out.1, HN.out.2]; rfl, rfl⟩
  · have e0 : (s.toList == [48]) = false := by rw [is_zero]; exact decide_eq_false (fun g => hz ⟨g.2, by omega⟩)
    have H2 := Lib.hid (fun w => p_pre2 (s := s) (decide_eq_false (fun g => hz ⟨g.2.1, by omega⟩)) w)
    have H1 := Lib.hid (fun w => p_pre1 (s := s) (decide_eq_false (fun g => hz ⟨g.2, g.1⟩)) w)
    have hN := num_dec hz
    have hJ := fun w => p_joined10 s hm w
    rw [← hN.1, ← hN.2] at hJ
    have HJ := Lib.hid hJ
    clear hz hN hJ
    generalize numV (byt s) s.size = V at HJ ⊢
    generalize numB (byt s) s.size = B at HJ ⊢
    go_enter Tryz.func145, Tryz.ntmps145
    go_wp2_with (first
      | (go_at_call 28; (with_reducible refine (H2.out _).mono ?_); rintro e w' ⟨rfl, rfl⟩)
      | (go_at_call 28; (with_reducible refine (H1.out _).mono ?_); rintro e w' ⟨rfl, rfl⟩)
      | (go_at_call 150; (with_reducible refine (HJ.out _).mono ?_); rintro e w' ⟨rfl, rfl⟩))
    go_ret2
    exact ⟨rfl, rfl⟩
set_option maxRecDepth 100000 in
theorem lex_Word (s : ByteArray) (hs : s.size ≤ maxLen) (w : World) : Calls Tryz.prog 86 #[.string s] w fun e w' => e = .returned (.bool (worOK (byt s) s.size)) ∧ w = w' := by
  have HR : Hid (∀ w, Calls Tryz.prog 111 #[.string s, .int .i64 0, .func (.func 112) #[] #[]] w fun e w' => e = .returned (.int .i64 (upTo worB (byt s) s.size 0 : Int)) ∧ w' = w) := Lib.hid (fun w => p_runPart s hs 0 (Nat.zero_le _) w)
  unfold maxLen at hs
  have hem := text_empty s
  by_cases h1 : s.size < 1
  · have e0 : (s.toList.isEmpty) = true := by rw [hem]; exact decide_eq_true (by omega)
    have HW := Lib.hid (show worOK (byt s) s.size = false from decide_eq_false (by omega))
    clear hem
    go_enter Tryz.func86, Tryz.ntmps86
    go_wp2
    go_ret
    exact ⟨by rw [HW.out]; rfl, rfl⟩
  have e0 : (s.toList.isEmpty) = false := by rw [hem]; exact decide_eq_false (by omega)
  clear hem
  by_cases h2 : 32 < s.size
  · have h2' : ¬ (s.size : Int) ≤ 32 := by omega
    have HW := Lib.hid (show worOK (byt s) s.size = false from decide_eq_false (by omega))
    go_enter Tryz.func86, Tryz.ntmps86
    go_wp2
    go_ret
    exact ⟨by rw [HW.out]; rfl, rfl⟩
  have h2' : (s.size : Int) ≤ 32 := by omega
  have hp : 0 < s.size := by omega
  have x0 := byt_is hp
  cases hl : letB (byt s 0) with
  | false =>
    have HL := Lib.hid (p_begins_is hl)
    have HW := Lib.hid (show worOK (byt s) s.size = false from decide_eq_false (fun g => by rw [hl] at g; exact absurd g.2.2.1 (by decide)))
    clear hl HR
    generalize byt s 0 = c at x0 HL
    go_enter Tryz.func86, Tryz.ntmps86
    go_wp2_with (go_at_call 110; (with_reducible refine (HL.out _).mono ?_); rintro e w' ⟨rfl, rfl⟩)
    go_ret
    exact ⟨by rw [HW.out]; rfl, rfl⟩
  | true =>
    have HL := Lib.hid (p_begins_is hl)
    have HW := Lib.hid (show worOK (byt s) s.size = decide ((upTo worB (byt s) s.size 0 : Int) = (s.size : Int)) from decide_eq_decide.2 ⟨fun g => by omega, fun g => ⟨by omega, by omega, hl, by omega⟩⟩)
    clear hl
    generalize byt s 0 = c at x0 HL
    generalize upTo worB (byt s) s.size 0 = U at HR HW
    go_enter Tryz.func86, Tryz.ntmps86
    go_wp2_with (first
      | (go_at_call 110; (with_reducible refine (HL.out _).mono ?_); rintro e w' ⟨rfl, rfl⟩)
      | (go_at_call 111; (with_reducible refine (HR.out _).mono ?_); rintro e w' ⟨rfl, rfl⟩))
    go_ret
    exact ⟨by rw [HW.out]; rfl, rfl⟩
end Go.Proofs.YtgeapkjegemkeaaGreatDoor

/-
  The program's choice, verdict and call: contracts by values and places. Conditions: those that each names.
-/
import Derived.Test.YtgeapkjegemkeaaGreatDoorPPolStep
namespace Go.Proofs.YtgeapkjegemkeaaGreatDoor
open Go Go.RowKit
set_option linter.unusedSimpArgs false
set_option linter.unusedVariables false

/-- The first place of a text among several, from k on; -1: it is none of them. -/
def idxF (t : ByteArray) : List ByteArray → Nat → Int
  | [], _ => -1
  | x :: l, k => if t = x then (k : Int) else idxF t l (k + 1)
theorem idx_ge (t : ByteArray) : ∀ l k, idxF t l k = -1 ∨ ((k : Int) ≤ idxF t l k ∧ idxF t l k < (k : Int) + l.length)
  | [], k => .inl rfl
  | x :: l, k => by
    unfold idxF
    split
    · exact .inr ⟨by omega, by simp only [List.length_cons]; omega⟩
    · rcases idx_ge t l (k + 1) with h | h
      · exact .inl h
      · exact .inr ⟨by omega, by simp only [List.length_cons]; omega⟩
/-- Several texts, in a block. -/
def WordsAt (w : World) (tb : Nat) (l : List ByteArray) : Prop := ∀ k, k < l.length → w.cell? ⟨tb, k, none⟩ = some (.string (l.getD k ⟨#[]⟩))
theorem idx_on {t : ByteArray} {l : List ByteArray} {k : Nat} (hk : k < l.length) (h : idxF t l 0 = idxF t (l.drop k) k) : (t = l.getD k ⟨#[]⟩ → idxF t l 0 = (k : Int)) ∧ (t ≠ l.getD k ⟨#[]⟩ → idxF t l 0 = idxF t (l.drop (k + 1)) (k + 1)) := by
  have hd := List.drop_eq_getElem_cons hk
  have hg : l.getD k ⟨#[]⟩ = l[k] := by rw [List.getD_eq_getElem?_getD, List.getElem?_eq_getElem hk]; rfl
  rw [hd] at h
  rw [hg]
  refine ⟨fun e => ?_, fun e => ?_⟩
  · rw [h]; exact if_pos e
  · rw [h]; exact if_neg e
set_option maxHeartbeats 1000000 in
set_option maxRecDepth 100000 in
theorem p_Index (w : World) (tb : Nat) (l : List ByteArray) (hl : l.length ≤ 1000) (cap : Nat) (t : ByteArray) (h : WordsAt w tb l) :
    Calls Tryz.prog 107 #[.slice (some ⟨tb, 0, none⟩) l.length cap, .string t] w fun e w' => e = .returned (.int .i64 (idxF t l 0)) ∧ w = w' := by
  have H := Lib.hid h
  clear h
  generalize hn : l.length = n at hl ⊢
  have HN := Lib.hid hn
  clear hn
  go_enter Tryz.func107, Tryz.ntmps107
  go_wp2
  go_loop [8] (fun i => ∃ k : Nat, k ≤ n ∧ i = .int .i64 (k : Int) ∧ idxF t l 0 = idxF t (l.drop k) k) (fun i => n - (intOf i).toNat)
  case atStart => exact ⟨0, by omega, rfl, rfl⟩
  case round =>
    obtain ⟨k, hk, rfl, hx⟩ := hrel
    have HX := Lib.hid hx
    clear hx
    by_cases hlt : k < n
    · have hc := H.out k (by rw [HN.out]; exact hlt)
      have ho := idx_on (by rw [HN.out]; exact hlt) HX.out
      generalize l.getD k ⟨#[]⟩ = q at hc ho
      by_cases ht : t = q
      · have htb := text_is6 ht
        have HO := Lib.hid (ho.1 ht)
        clear ho ht
        go_wp2
        go_ret
        exact ⟨by rw [HO.out]; rfl, rfl⟩
      · have htb := text_ne ht
        have HO := Lib.hid (ho.2 ht)
        clear ho ht
        go_wp2
        go_round
        case rel => exact ⟨k + 1, by omega, by go_num, HO.out⟩
        case measure => simp [intOf]; omega
    · have HO : Hid (idxF t l 0 = -1) := Lib.hid (by rw [HX.out, List.drop_eq_nil_of_le (by rw [HN.out]; omega)]; rfl)
      go_wp2
      go_ret
      exact ⟨by rw [HO.out]; rfl, rfl⟩
/-- The words of the kinds of actions, of the fields, the signs of the relations. -/
def verdictL : List ByteArray := [⟨#[107, 105, 108, 108, 95, 112, 114, 111, 99, 101, 115, 115]⟩, ⟨#[107, 105, 108, 108, 95, 116, 104, 114, 101, 97, 100]⟩, ⟨#[116, 114, 97, 112]⟩, ⟨#[101, 114, 114, 110, 111]⟩, ⟨#[110, 111, 116, 105, 102, 121]⟩, ⟨#[116, 114, 97, 99, 101]⟩, ⟨#[108, 111, 103]⟩, ⟨#[97, 108, 108, 111, 119]⟩]
def fieldL : List ByteArray := [⟨#[97, 114, 103, 48]⟩, ⟨#[97, 114, 103, 49]⟩, ⟨#[97, 114, 103, 50]⟩, ⟨#[97, 114, 103, 51]⟩, ⟨#[97, 114, 103, 52]⟩, ⟨#[97, 114, 103, 53]⟩, ⟨#[105, 112]⟩]
def relL : List ByteArray := [⟨#[61, 61]⟩, ⟨#[33, 61]⟩, ⟨#[60]⟩, ⟨#[60, 61]⟩, ⟨#[62]⟩, ⟨#[62, 61]⟩]
def wordsO (l : List ByteArray) : Obj := .cells (l.map Value.string).toArray 9
/-- What makes a row of words. -/
def WordsP (w : World) (l : List ByteArray) (e : Ending) (w' : World) : Prop := e = .returned (.slice (some ⟨w.heap.size, 0, none⟩) l.length l.length) ∧ w' = w.alloc (wordsO l)
theorem words_at (w : World) (l : List ByteArray) : WordsAt (w.alloc (wordsO l)) w.heap.size l := fun k hk => by
  have h : (w.alloc (wordsO l)).heap[w.heap.size]? = some (wordsO l) := World.alloc_heap_new w _
  refine cell6 h k ?_
  simp [List.getElem?_eq_getElem hk, List.getD_eq_getElem?_getD]
theorem p_verdictWords (w : World) : Calls Tryz.prog 81 #[] w (WordsP w verdictL) := by
  go_enter Tryz.func81, Tryz.ntmps81
  go_wp2
  go_ret
  exact ⟨rfl, rfl⟩
theorem p_fieldWords (w : World) : Calls Tryz.prog 95 #[] w (WordsP w fieldL) := by
  go_enter Tryz.func95, Tryz.ntmps95
  go_wp2
  go_ret
  exact ⟨rfl, rfl⟩
theorem p_relSigns (w : World) : Calls Tryz.prog 96 #[] w (WordsP w relL) := by
  go_enter Tryz.func96, Tryz.ntmps96
  go_wp2
  go_ret
  exact ⟨rfl, rfl⟩
/-- A choice by its place. -/
def choiceG (S : Src) (l : List ByteArray) (i : Nat) : Got Int := if idxF (tk S i).text l 0 < 0 then noG S i else adv S i (idxF (tk S i).text l 0)
set_option maxRecDepth 100000 in
theorem pp_choice (w : World) (b : Nat) (s : ByteArray) (i d : Nat) (hi : i < (srcF s).toks.length) (h : PAt w b s (tk (srcF s) i) d) (l : List ByteArray) (hl : l.length ≤ 1000) (tb cap : Nat) (hW : WordsAt w tb l) (hk : 0 ≤ idxF (tk (srcF s) i).text l 0 → (tk (srcF s) i).kind ≠ 1) :
    Calls Tryz.prog 80 #[.pointer (some ⟨b, 0, none⟩), .slice (some ⟨tb, 0, none⟩) l.length cap] w (GotP (Val fun k : Int => .int .i64 k) s w b d (choiceG (srcF s) l i)) := by
  have c2 : w.cell? ⟨b, 2, none⟩ = some (.string (tk (srcF s) i).text) := World.rowIs.cell h (i := 2) (by decide)
  have HX := Lib.hid (p_Index w tb l hl cap (tk (srcF s) i).text hW)
  have hge := idx_ge (tk (srcF s) i).text l 0
  unfold choiceG
  by_cases hn : idxF (tk (srcF s) i).text l 0 < 0
  · rw [if_pos hn]
    have HR := Lib.hid (pp_refuse w b s _ d h 61)
    unfold noG
    clear h hi hW hk hge
    generalize idxF (tk (srcF s) i).text l 0 = k at hn HX
    generalize tk (srcF s) i = q at *
    generalize l.length = n at *
    go_enter Tryz.func80, Tryz.ntmps80
    go_wp2_with (first | (go_at_call 107; (with_reducible refine HX.out.mono ?_); rintro e w1 ⟨rfl, rfl⟩) | (go_at_call 60; (with_reducible refine HR.out.mono ?_); rintro e w1 ⟨rfl, hg⟩; have HY := Lib.hid hg; clear hg))
    exact ⟨rfl, rfl, HY.out⟩
  · rw [if_neg hn]
    have HC := pp_advance w b s i d hi h (hk (by omega))
    clear h hi hW hk
    generalize idxF (tk (srcF s) i).text l 0 = k at hn HX hge ⊢
    generalize (tk (srcF s) i).text = q at *
    generalize l.length = n at *
    have hn' : 0 ≤ k := by omega
    have hk2 : k < 1000 := by omega
    clear hge
    rcases hl2 : decide (i + 1 < (srcF s).toks.length) with _ | _
    · have hl2 := of_decide_eq_false hl2
      rw [adv_no hl2] at HC ⊢
      generalize (srcF s).err = er at HC ⊢
      generalize (srcF s).place = p at HC ⊢
      clear hl2
      have HC := Lib.hid HC
      go_enter Tryz.func80, Tryz.ntmps80
      go_wp2_with (first | (go_at_call 107; (with_reducible refine HX.out.mono ?_); rintro e w1 ⟨rfl, rfl⟩) | (go_at_call 49; (with_reducible refine HC.out.mono ?_); rintro e w1 ⟨rfl, hg⟩; have HY := Lib.hid hg; clear hg))
      exact ⟨rfl, rfl, HY.out⟩
    · have hl2 := of_decide_eq_true hl2
      rw [adv_ok hl2] at HC ⊢
      have HC := Lib.hid HC
      clear hl2
      go_enter Tryz.func80, Tryz.ntmps80
      go_wp2_with (first | (go_at_call 107; (with_reducible refine HX.out.mono ?_); rintro e w1 ⟨rfl, rfl⟩) | (go_at_call 49; (with_reducible refine HC.out.mono ?_); rintro e w1 ⟨v, rfl, rfl, hp, hg⟩; have HY := Lib.hid (And.intro hp hg); clear hp hg))
      go_ret
      exact ⟨_, rfl, rfl, HY.out.1, HY.out.2⟩
end Go.Proofs.YtgeapkjegemkeaaGreatDoor
namespace Go.Proofs.YtgeapkjegemkeaaGreatDoor
open Go Go.RowKit
set_option linter.unusedSimpArgs false
set_option linter.unusedVariables false

theorem kept_box {W w1 : World} {b B : Nat} {o : Obj} (h : W.heap[B]? = some o) (hg : W.grownBy w1 (some b)) (hne : B ≠ b) : w1.heap[B]? = some o :=
  (hg.block B (Array.getElem?_eq_some_iff.1 h).1 (fun e => by injection e with e; exact hne e)).trans h
theorem kept_alloc {W : World} {B : Nat} {o : Obj} (h : W.heap[B]? = some o) (o' : Obj) : (W.alloc o').heap[B]? = some o :=
  (Below.heap_alloc W o' B (Array.getElem?_eq_some_iff.1 h).1).trans h
theorem kept_set {W : World} {B : Nat} {o : Obj} (h : W.heap[B]? = some o) {C : Nat} (hne : B ≠ C) (i : Nat) (v : Value) : (W.setCell ⟨C, i, none⟩ v).heap[B]? = some o :=
  (Below.heap_setCell W ⟨C, i, none⟩ v B hne).trans h
theorem verd_idx (t : ByteArray) : (verdK t).1 = idxF t verdictL 0 + 1 ∧ ((verdK t).2 = true ↔ ((verdK t).1 = 3 ∨ (verdK t).1 = 4 ∨ (verdK t).1 = 6)) := by
  unfold verdK verdictL
  simp only [idxF]
  repeat' (first | (split; · decide) | decide)
theorem rel_idx (t : ByteArray) : relF t = idxF t relL 0 + 1 := by
  unfold relF relL
  simp only [idxF]
  repeat' (first | (split; · decide) | decide)
theorem field_idx (t : ByteArray) : fieldF t = idxF t fieldL 0 := by
  have key : ∀ k, k < 6 → (t.size = 4 ∧ byt t 0 = 97 ∧ byt t 1 = 114 ∧ byt t 2 = 103 ∧ byt t 3 = 48 + k ↔ t = ⟨#[97, 114, 103, UInt8.ofNat (48 + k)]⟩) := fun k hk => by
    refine ⟨fun h => byt_ext (by rw [h.1]; rfl) (fun j hj => ?_), fun h => ?_⟩
    · have hj4 : j < 4 := by omega
      have e3 : byt ⟨#[97, 114, 103, UInt8.ofNat (48 + k)]⟩ 3 = 48 + k := by
        show (UInt8.ofNat (48 + k)).toNat = _
        simp only [UInt8.toNat_ofNat']; omega
      rcases (by omega : j = 0 ∨ j = 1 ∨ j = 2 ∨ j = 3) with rfl | rfl | rfl | rfl
      · exact h.2.1
      · exact h.2.2.1
      · exact h.2.2.2.1
      · rw [e3]; exact h.2.2.2.2
    · subst h
      refine ⟨rfl, rfl, rfl, rfl, ?_⟩
      show (UInt8.ofNat (48 + k)).toNat = _
      simp only [UInt8.toNat_ofNat']; omega
  unfold fieldF fieldL bIp
  simp only [idxF]
  by_cases h0 : t = ⟨#[105, 112]⟩
  · subst h0; decide
  rw [if_neg h0]
  split
  · rename_i g
    have hk := (key (byt t 3 - 48) (by omega)).1 ⟨g.1, g.2.1, g.2.2.1, g.2.2.2.1, by omega⟩
    rcases (by omega : byt t 3 = 48 ∨ byt t 3 = 49 ∨ byt t 3 = 50 ∨ byt t 3 = 51 ∨ byt t 3 = 52 ∨ byt t 3 = 53) with e | e | e | e | e | e <;> (rw [e] at hk ⊢; rw [hk]; decide)
  · rename_i g
    have no : ∀ k, k < 6 → ¬ t = ⟨#[97, 114, 103, UInt8.ofNat (48 + k)]⟩ := fun k hk e => by
      have := (key k hk).2 e
      exact g ⟨this.1, this.2.1, this.2.2.1, this.2.2.2.1, by omega, by omega⟩
    have n0 : ¬ t = ⟨#[97, 114, 103, 48]⟩ := no 0 (by decide)
    have n1 : ¬ t = ⟨#[97, 114, 103, 49]⟩ := no 1 (by decide)
    have n2 : ¬ t = ⟨#[97, 114, 103, 50]⟩ := no 2 (by decide)
    have n3 : ¬ t = ⟨#[97, 114, 103, 51]⟩ := no 3 (by decide)
    have n4 : ¬ t = ⟨#[97, 114, 103, 52]⟩ := no 4 (by decide)
    have n5 : ¬ t = ⟨#[97, 114, 103, 53]⟩ := no 5 (by decide)
    rw [if_neg n0, if_neg n1, if_neg n2, if_neg n3, if_neg n4, if_neg n5]
theorem p_hasNumber_yes (k : Int) (h : k = 3 ∨ k = 4 ∨ k = 6) (w : World) : Calls Tryz.prog 82 #[.int .i64 k] w fun e w' => e = .returned (.bool true) ∧ w = w' := by
  rcases h with rfl | rfl | rfl
  all_goals
    go_enter Tryz.func82, Tryz.ntmps82
    go_wp2
    go_ret
    exact ⟨rfl, rfl⟩
theorem p_hasNumber_no (k : Int) (h : ¬ (k = 3 ∨ k = 4 ∨ k = 6)) (w : World) : Calls Tryz.prog 82 #[.int .i64 k] w fun e w' => e = .returned (.bool false) ∧ w = w' := by
  have h1 : (k == 3) = false := beq_false_of_ne (by omega)
  have h2 : (k == 4) = false := beq_false_of_ne (by omega)
  have h3 : (k == 6) = false := beq_false_of_ne (by omega)
  clear h
  go_enter Tryz.func82, Tryz.ntmps82
  go_wp2
  go_ret
  exact ⟨rfl, rfl⟩
abbrev verdVal : Int × Nat → Value := fun v => .agg #[.int .i64 v.1, .int .u64 (v.2 : Int)]
abbrev verdO (k : Int) (n : Int) : Obj := .cells #[.int .i64 k, .int .u64 n] 26
theorem pset2 {w : World} {b B : Nat} {s : ByteArray} {x : Nx} {d : Nat} (h : PAt w b s x d) (hne : b ≠ B) (a' b' : Value) : PAt ((w.setCell ⟨B, 0, none⟩ a').setCell ⟨B, 1, none⟩ b') b s x d :=
  row_new (row_new h hne 0 _) hne 1 _
theorem words_alloc {w : World} {b : Nat} {s : ByteArray} {x : Nx} {d : Nat} (h : PAt w b s x d) (o : Obj) : PAt (w.alloc o) b s x d := h.below (lbox w o)
set_option maxHeartbeats 1000000 in
set_option maxRecDepth 100000 in
theorem pp_verdict (w : World) (b : Nat) (s : ByteArray) (i d : Nat) (hi : i < (srcF s).toks.length) (h : PAt w b s (tk (srcF s) i) d) :
    Calls Tryz.prog 52 #[.pointer (some ⟨b, 0, none⟩)] w (GotP (Val verdVal) s w b d (verdG (srcF s) i)) := by
  have hlt := h.lt
  have hW := p_verdictWords (w.alloc (verdO 0 0))
  have h1 : PAt ((w.alloc (verdO 0 0)).alloc (wordsO verdictL)) b s (tk (srcF s) i) d := words_alloc (words_alloc h _) _
  have hv := verd_idx (tk (srcF s) i).text
  have hge := idx_ge (tk (srcF s) i).text verdictL 0
  have hlen : verdictL.length = 8 := rfl
  have hr0 : ((w.alloc (verdO 0 0)).alloc (wordsO verdictL)).heap[w.heap.size]? = some (verdO 0 0) := kept_alloc (World.alloc_heap_new w _) _
  have HG0 := Lib.hid (grown_of_below (below_two w (verdO 0 0) (wordsO verdictL)) (some b))
  have hwa := words_at (w.alloc (verdO 0 0)) verdictL
  rw [show (w.alloc (verdO 0 0)).heap.size = w.heap.size + 1 by simp] at hwa
  have hC := pp_choice _ b s i d hi h1 verdictL (by decide) (w.heap.size + 1) 8 hwa (fun hx => by
    rw [(lexd s).kinds i hi, verdK_kind (by rw [hv.1]; omega)]; decide)
  have hN := fun (w2 : World) (j : Nat) (hj : j < (srcF s).toks.length) (hp : PAt w2 b s (tk (srcF s) j) d) => pp_number w2 b s j d hj hp
  unfold choiceG at hC
  unfold verdG
  rw [hlen] at hC hge
  obtain ⟨hv1, hv2⟩ := hv
  rw [hv1] at hv2 ⊢
  clear hv1
  generalize (verdK (tk (srcF s) i).text).2 = yn at hv2 ⊢
  generalize idxF (tk (srcF s) i).text verdictL 0 = k at *
  have HW := Lib.hid hW
  clear hW h h1 hwa
  by_cases hn : k < 0
  · have hz : k + 1 = 0 := by omega
    rw [if_pos hn] at hC
    rw [if_pos hz]
    unfold noG at hC ⊢
    generalize (tk (srcF s) i).pos = q at hC ⊢
    have HC := Lib.hid hC
    clear hC hN hv2 hz hge hi
    go_enter Tryz.func52, Tryz.ntmps52
    go_wp2_with (first | (go_at_call 81; (with_reducible refine HW.out.mono ?_); rintro e w1 ⟨rfl, rfl⟩) | (go_at_call 80; (with_reducible refine HC.out.mono ?_); rintro e w1 ⟨rfl, hg⟩; have HY := Lib.hid (grown_trans HG0.out hg); clear hg))
    exact ⟨rfl, rfl, HY.out⟩
  · have hz : ¬ k + 1 = 0 := by omega
    have hw : IntKind.i64.wrap (1 + k) = k + 1 := by rw [IntWalk.i64_in _ (by omega)] <;> omega
    rw [if_neg hn] at hC
    rw [if_neg hz]
    by_cases hl : i + 1 < (srcF s).toks.length
    · rw [adv_ok hl] at hC ⊢
      show Calls _ _ _ _ (GotP (Val verdVal) s w b d (if yn = true then (numG (srcF s) (i + 1)).andThen fun n k_1 => .ok (k + 1, n) k_1 else .ok (k + 1, 0) (i + 1)))
      have hN := fun w2 hp => hN w2 (i + 1) hl hp
      have HC := Lib.hid hC
      by_cases hy : yn = true
      · have hh := p_hasNumber_yes (k + 1) (hv2.1 hy)
        have HH := Lib.hid hh
        rw [if_pos hy]
        generalize numG (srcF s) (i + 1) = g at hN ⊢
        rcases g with ⟨n, j⟩ | ⟨er, p⟩ | _
        · have HN := Lib.hid hN
          clear hC hh hN hv2 hz hy hl hi hn hge
          go_enter Tryz.func52, Tryz.ntmps52
          go_wp2_with (first | (go_at_call 81; (with_reducible refine HW.out.mono ?_); rintro e w1 ⟨rfl, rfl⟩) | (go_at_call 80; (with_reducible refine HC.out.mono ?_); rintro e w1 ⟨v, rfl, rfl, hp, hg⟩; have HR1 := Lib.hid (kept_box hr0 hg (by omega)); have HP0 := Lib.hid hp; have HGA := Lib.hid (grown_trans HG0.out hg); have HP1 := Lib.hid (words_alloc hp (verdO (k + 1) 0)); have HG1 := Lib.hid (grown_trans (grown_trans HG0.out hg) (grown_of_below (lbox w1 (verdO (k + 1) 0)) (some b))); have HV1 := Lib.hid (World.alloc_heap_new w1 (verdO (k + 1) 0)); have hb1 := hp.lt; have HL1 := Lib.hid ((Array.getElem?_eq_some_iff.1 HR1.out).1); have f0 := cell6 HV1.out 0 rfl; clear hp hg) | (go_at_call 82; (with_reducible refine (HH.out _).mono ?_); rintro e w2 ⟨rfl, rfl⟩) | (go_at_call 83; (with_reducible refine (HN.out _ HP1.out).mono ?_); rintro e w3 ⟨v, rfl, rfl, hp, hg⟩; have HV3 := kept_box HV1.out hg (by omega); have HR3 := kept_box (kept_alloc HR1.out _) hg (by omega); have d0 := cell6 HV3 0 rfl; have d1 := cell6 HV3 1 rfl; have z1 := frozen6 HV3 1; have hne := HL1.out; have HR4 := kept_set HR3 (C := w1.heap.size) (by omega) 1 (.int .u64 (n : Int)); have u0 := cell6 HR4 0 rfl; have u1 := cell6 HR4 1 rfl; have y0 := frozen6 HR4 0; have y1 := frozen6 HR4 1; have HX := Lib.hid (And.intro hp (grown_trans HG1.out hg)); clear hp hg HV3 HR3 HR4))
          exact bodyPost_ret (v := verdVal (k + 1, n)) (by simp [results, Tryz.results52, go_sem, u0, u1, World.cell?_setCell_same']) rfl ⟨_, rfl, rfl, pset2 (row_new HX.out.1 (by omega) _ _) (by omega) _ _, grown_new (grown_new (grown_new HX.out.2 (by omega) _ _) (Nat.le_refl _) 0 _) (Nat.le_refl _) 1 _⟩
        · have HN := Lib.hid hN
          clear hC hh hN hv2 hz hy hl hi hn hge
          go_enter Tryz.func52, Tryz.ntmps52
          go_wp2_with (first | (go_at_call 81; (with_reducible refine HW.out.mono ?_); rintro e w1 ⟨rfl, rfl⟩) | (go_at_call 80; (with_reducible refine HC.out.mono ?_); rintro e w1 ⟨v, rfl, rfl, hp, hg⟩; have HR1 := Lib.hid (kept_box hr0 hg (by omega)); have HP0 := Lib.hid hp; have HGA := Lib.hid (grown_trans HG0.out hg); have HP1 := Lib.hid (words_alloc hp (verdO (k + 1) 0)); have HG1 := Lib.hid (grown_trans (grown_trans HG0.out hg) (grown_of_below (lbox w1 (verdO (k + 1) 0)) (some b))); have HV1 := Lib.hid (World.alloc_heap_new w1 (verdO (k + 1) 0)); have hb1 := hp.lt; have HL1 := Lib.hid ((Array.getElem?_eq_some_iff.1 HR1.out).1); have f0 := cell6 HV1.out 0 rfl; clear hp hg) | (go_at_call 82; (with_reducible refine (HH.out _).mono ?_); rintro e w2 ⟨rfl, rfl⟩) | (go_at_call 83; (with_reducible refine (HN.out _ HP1.out).mono ?_); rintro e w3 ⟨rfl, hg⟩; have HX := Lib.hid (grown_trans HG1.out hg); clear hg))
          exact ⟨rfl, rfl, HX.out⟩
        · have HN := Lib.hid hN
          clear hC hh hN hv2 hz hy hl hi hn hge
          go_enter Tryz.func52, Tryz.ntmps52
          go_wp2_with (first | (go_at_call 81; (with_reducible refine HW.out.mono ?_); rintro e w1 ⟨rfl, rfl⟩) | (go_at_call 80; (with_reducible refine HC.out.mono ?_); rintro e w1 ⟨v, rfl, rfl, hp, hg⟩; have HR1 := Lib.hid (kept_box hr0 hg (by omega)); have HP0 := Lib.hid hp; have HGA := Lib.hid (grown_trans HG0.out hg); have HP1 := Lib.hid (words_alloc hp (verdO (k + 1) 0)); have HG1 := Lib.hid (grown_trans (grown_trans HG0.out hg) (grown_of_below (lbox w1 (verdO (k + 1) 0)) (some b))); have HV1 := Lib.hid (World.alloc_heap_new w1 (verdO (k + 1) 0)); have hb1 := hp.lt; have HL1 := Lib.hid ((Array.getElem?_eq_some_iff.1 HR1.out).1); have f0 := cell6 HV1.out 0 rfl; clear hp hg) | (go_at_call 82; (with_reducible refine (HH.out _).mono ?_); rintro e w2 ⟨rfl, rfl⟩) | (go_at_call 83; (with_reducible refine (HN.out _ HP1.out).mono ?_); intro e w3 hF; exact hF.elim))
      · have hh := p_hasNumber_no (k + 1) (fun h => hy (hv2.2 h))
        have HH := Lib.hid hh
        rw [if_neg hy]
        clear hC hh hN hv2 hz hy hl hi hn hge
        go_enter Tryz.func52, Tryz.ntmps52
        go_wp2_with (first | (go_at_call 81; (with_reducible refine HW.out.mono ?_); rintro e w1 ⟨rfl, rfl⟩) | (go_at_call 80; (with_reducible refine HC.out.mono ?_); rintro e w1 ⟨v, rfl, rfl, hp, hg⟩; have HR1 := Lib.hid (kept_box hr0 hg (by omega)); have HP0 := Lib.hid hp; have HGA := Lib.hid (grown_trans HG0.out hg); have HP1 := Lib.hid (words_alloc hp (verdO (k + 1) 0)); have HG1 := Lib.hid (grown_trans (grown_trans HG0.out hg) (grown_of_below (lbox w1 (verdO (k + 1) 0)) (some b))); have HV1 := Lib.hid (World.alloc_heap_new w1 (verdO (k + 1) 0)); have hb1 := hp.lt; have HL1 := Lib.hid ((Array.getElem?_eq_some_iff.1 HR1.out).1); have f0 := cell6 HV1.out 0 rfl; clear hp hg) | (go_at_call 82; (with_reducible refine (HH.out _).mono ?_); rintro e w2 ⟨rfl, rfl⟩; have hne := HL1.out; have f1 := cell6 HV1.out 1 rfl; have u0 := cell6 HR1.out 0 rfl; have u1 := cell6 HR1.out 1 rfl; have y0 := frozen6 HR1.out 0; have y1 := frozen6 HR1.out 1))
        have hz := kept_alloc (heap_set1 (heap_set1 HR1.out 0 (.int .i64 (k + 1))) 1 (.int .u64 0)) (verdO (k + 1) 0)
        have v0 := cell6 hz 0 rfl
        have v1 := cell6 hz 1 rfl
        exact bodyPost_ret (v := verdVal (k + 1, 0)) (by simp [results, Tryz.results52, go_sem, v0, v1]) rfl ⟨_, rfl, rfl, words_alloc (pset2 HP0.out (by omega) _ _) _, grown_trans (grown_new (grown_new HGA.out (Nat.le_refl _) 0 _) (Nat.le_refl _) 1 _) (grown_of_below (lbox _ _) (some b))⟩
    · rw [adv_no hl] at hC ⊢
      generalize (srcF s).err = er at hC ⊢
      generalize (srcF s).place = p at hC ⊢
      show Calls _ _ _ _ (GotP (Val verdVal) s w b d (.bad er p))
      have HC := Lib.hid hC
      clear hC hN hv2 hz hge hi hl
      go_enter Tryz.func52, Tryz.ntmps52
      go_wp2_with (first | (go_at_call 81; (with_reducible refine HW.out.mono ?_); rintro e w1 ⟨rfl, rfl⟩) | (go_at_call 80; (with_reducible refine HC.out.mono ?_); rintro e w1 ⟨rfl, hg⟩; have HY := Lib.hid (grown_trans HG0.out hg); clear hg))
      exact ⟨rfl, rfl, HY.out⟩
end Go.Proofs.YtgeapkjegemkeaaGreatDoor
namespace Go.Proofs.YtgeapkjegemkeaaGreatDoor
open Go Go.RowKit
set_option linter.unusedSimpArgs false
set_option linter.unusedVariables false

abbrev callVal : ByteArray × Nat → Value := fun v => .agg #[.string v.1, .int .u64 (v.2 : Int)]
abbrev callO : Obj := .cells #[.string ⟨#[]⟩, .int .u64 0] 92
set_option maxHeartbeats 1000000 in
set_option maxRecDepth 100000 in
theorem pp_call (w : World) (b : Nat) (s : ByteArray) (i d : Nat) (hi : i < (srcF s).toks.length) (h : PAt w b s (tk (srcF s) i) d) :
    Calls Tryz.prog 109 #[.pointer (some ⟨b, 0, none⟩)] w (GotP (Val callVal) s w b d (callG (srcF s) i)) := by
  have hlt := h.lt
  have h1 := words_alloc h callO
  have c1 : (w.alloc callO).cell? ⟨b, 1, none⟩ = some (.int .i64 (tk (srcF s) i).kind) := World.rowIs.cell h1 (i := 1) (by decide)
  have HG0 := Lib.hid (grown_of_below (lbox w callO) (some b))
  have HR0 := Lib.hid (World.alloc_heap_new w callO)
  have hN := pp_number _ b s i d hi h1
  have hM := pp_name _ b s i d hi h1
  unfold callG
  by_cases hk : (tk (srcF s) i).kind = 3
  · have hkb : ((tk (srcF s) i).kind == 3) = true := beq_iff_eq.2 hk
    rw [if_pos hk]
    clear hM h h1 hk
    generalize (tk (srcF s) i).kind = q at *
    generalize numG (srcF s) i = g at hN ⊢
    rcases g with ⟨n, j⟩ | ⟨er, p⟩ | _
    · show Calls _ _ _ _ (GotP (Val callVal) s w b d (.ok (⟨#[]⟩, n) j))
      have HN := Lib.hid hN
      clear hN hi
      go_enter Tryz.func109, Tryz.ntmps109
      go_wp2_with (go_at_call 83; (with_reducible refine HN.out.mono ?_); rintro e w3 ⟨v, rfl, rfl, hp, hg⟩; have hr := kept_box HR0.out hg (by omega); have u0 := cell6 hr 0 rfl; have u1 := cell6 hr 1 rfl; have y0 := frozen6 hr 0; have y1 := frozen6 hr 1; have HX := Lib.hid (And.intro hp (grown_trans HG0.out hg)); clear hp hg hr)
      exact bodyPost_ret (v := callVal (⟨#[]⟩, n)) (by simp [results, Tryz.results109, go_sem, u0, u1, World.cell?_setCell_same']) rfl ⟨_, rfl, rfl, pset2 HX.out.1 (by omega) _ _, grown_new (grown_new HX.out.2 (Nat.le_refl _) 0 _) (Nat.le_refl _) 1 _⟩
    · show Calls _ _ _ _ (GotP (Val callVal) s w b d (.bad er p))
      have HN := Lib.hid hN
      clear hN hi
      go_enter Tryz.func109, Tryz.ntmps109
      go_wp2_with (go_at_call 83; (with_reducible refine HN.out.mono ?_); rintro e w3 ⟨rfl, hg⟩; have HX := Lib.hid (grown_trans HG0.out hg); clear hg)
      exact ⟨rfl, rfl, HX.out⟩
    · show Calls _ _ _ _ (GotP (Val callVal) s w b d .out)
      have HN := Lib.hid hN
      clear hN hi
      go_enter Tryz.func109, Tryz.ntmps109
      go_wp2_with (go_at_call 83; (with_reducible refine HN.out.mono ?_); intro e w3 hF; exact hF.elim)
  · have hkb : ((tk (srcF s) i).kind == 3) = false := beq_false_of_ne hk
    rw [if_neg hk]
    clear hN h h1 hk
    generalize (tk (srcF s) i).kind = q at *
    generalize nameG (srcF s) i = g at hM ⊢
    rcases g with ⟨n, j⟩ | ⟨er, p⟩ | _
    · show Calls _ _ _ _ (GotP (Val callVal) s w b d (.ok (n, 0) j))
      have HN := Lib.hid hM
      clear hM hi
      go_enter Tryz.func109, Tryz.ntmps109
      go_wp2_with (go_at_call 51; (with_reducible refine HN.out.mono ?_); rintro e w3 ⟨v, rfl, rfl, hp, hg⟩; have hr := kept_box HR0.out hg (by omega); have u0 := cell6 hr 0 rfl; have u1 := cell6 hr 1 rfl; have y0 := frozen6 hr 0; have y1 := frozen6 hr 1; have HX := Lib.hid (And.intro hp (grown_trans HG0.out hg)); clear hp hg hr)
      exact bodyPost_ret (v := callVal (n, 0)) (by simp [results, Tryz.results109, go_sem, u0, u1, World.cell?_setCell_same']) rfl ⟨_, rfl, rfl, pset2 HX.out.1 (by omega) _ _, grown_new (grown_new HX.out.2 (Nat.le_refl _) 0 _) (Nat.le_refl _) 1 _⟩
    · show Calls _ _ _ _ (GotP (Val callVal) s w b d (.bad er p))
      have HN := Lib.hid hM
      clear hM hi
      go_enter Tryz.func109, Tryz.ntmps109
      go_wp2_with (go_at_call 51; (with_reducible refine HN.out.mono ?_); rintro e w3 ⟨rfl, hg⟩; have HX := Lib.hid (grown_trans HG0.out hg); clear hg)
      exact ⟨rfl, rfl, HX.out⟩
    · show Calls _ _ _ _ (GotP (Val callVal) s w b d .out)
      have HN := Lib.hid hM
      clear hM hi
      go_enter Tryz.func109, Tryz.ntmps109
      go_wp2_with (go_at_call 51; (with_reducible refine HN.out.mono ?_); intro e w3 hF; exact hF.elim)
end Go.Proofs.YtgeapkjegemkeaaGreatDoor

/-
  What the program writes of names, verdicts and tests: contracts. Conditions: those that each names.
-/
import Derived.Test.YtgeapkjegemkeaaGreatDoorZStr
import Derived.Test.YtgeapkjegemkeaaGreatDoorPPolVerd
import Derived.OwnWalk
import Derived.Deep.Cut
namespace Go.Proofs.YtgeapkjegemkeaaGreatDoor
open Go Go.RowKit
set_option linter.unusedSimpArgs false
set_option linter.unusedVariables false

theorem p_markAt (w : World) (tb cap : Nat) (l : List ByteArray) (hl : l.length ≤ 1000) (hW : WordsAt w tb l) (k : Nat) (hk : k < l.length) :
    Calls Tryz.prog 87 #[.slice (some ⟨tb, 0, none⟩) l.length cap, .int .i64 (k : Int)] w fun e w' => e = .returned (.string (l.getD k ⟨#[]⟩)) ∧ w' = w := by
  have c := hW k hk
  have h0 : ¬ (k : Int) < 0 := by omega
  have h1 : (k : Int) < (l.length : Int) := by omega
  clear hW
  go_enter Tryz.func87, Tryz.ntmps87
  go_wp2
  go_ret
  exact ⟨rfl, rfl⟩
theorem kind_word : ∀ j : Fin 8, verdictL.getD j.val ⟨#[]⟩ = strL (kindL ((j.val : Int) + 1)) := by decide
theorem field_word : ∀ j : Fin 7, fieldL.getD j.val ⟨#[]⟩ = strL (fldL (j.val : Int)) := by decide
theorem rel_word : ∀ j : Fin 6, relL.getD j.val ⟨#[]⟩ = strL (rlL ((j.val : Int) + 1)) := by decide
theorem p_numberText (m : Nat) (hm : m < 18446744073709551616) (w : World) (hT : Tbl w) :
    Calls Tryz.prog 88 #[.int .u64 (m : Int)] w fun e w' => e = .returned (.string (strL (Lib.decDigits m))) ∧ Below w.heap.size w w' := by
  have H := Lib.hid (p_fmt10 m hm w hT)
  clear hT
  go_enter Tryz.func88, Tryz.ntmps88
  go_wp2_with (go_at_call 44; (with_reducible refine H.out.mono ?_); rintro e w' ⟨rfl, hb⟩; have HB := Lib.hid hb; clear hb)
  go_ret
  exact ⟨rfl, HB.out⟩
theorem p_nameText (s : ByteArray) (hs : NameB s) (w : World) :
    Calls Tryz.prog 55 #[.string s] w fun e w' => e = .returned (.string s) ∧ w' = w := by
  have H0 := lex_Word s (by have := name_len hs; unfold maxLen; omega) w
  rw [show worOK (byt s) s.size = true from hs] at H0
  have H := Lib.hid H0
  clear hs H0
  go_enter Tryz.func55, Tryz.ntmps55
  go_wp2_with (go_at_call 86; (with_reducible refine H.out.mono ?_); rintro e w' ⟨rfl, rfl⟩)
  go_ret
  exact ⟨rfl, rfl⟩
theorem str_self (s : ByteArray) : s = strL s.data.toList := by cases s; simp [strL]
theorem name_some {s : ByteArray} (h0 : ¬ s = ⟨#[]⟩) : s.toList.isEmpty = false := by
  rw [ByteArray.toList_eq]
  cases hl : s.data.toList with
  | nil => exact absurd (by cases s; simp at hl; subst hl; rfl) h0
  | cons a l => rfl
/-- What a call is written as. -/
abbrev clO (c : ByteArray × Nat) : Obj := .cells #[.string c.1, .int .u64 (c.2 : Int)] 92
theorem p_callText (c : ByteArray × Nat) (h : GCall c) (w : World) (hT : Tbl w) :
    Calls Tryz.prog 89 #[.agg #[.string c.1, .int .u64 (c.2 : Int)]] w fun e w' => e = .returned (.string (strL (callL c))) ∧ Below w.heap.size w w' := by
  obtain ⟨s, n⟩ := c
  have HB := Lib.hid (lbox w (clO (s, n)))
  have HT := Lib.hid (hT.up HB.out)
  clear hT
  by_cases h0 : s = ⟨#[]⟩
  · subst h0
    have hn : n < 18446744073709551616 := by
      rcases h with h | h
      · exact h.2
      · have := h.2; simp only at this; omega
    have H := Lib.hid (p_numberText n hn _ HT.out)
    have HE := Lib.hid (show callL (⟨#[]⟩, n) = Lib.decDigits n from if_pos rfl)
    rw [HE.out]
    clear h
    go_enter Tryz.func89, Tryz.ntmps89
    go_wp2_with (go_at_call 88; (with_reducible refine H.out.mono ?_); rintro e w' ⟨rfl, hb⟩; have HB2 := Lib.hid (HB.out.trans (hb.mono HB.out.size)); clear hb)
    go_ret
    exact ⟨rfl, HB2.out⟩
  · have hN : NameB s := by
      rcases h with h | h
      · exact absurd h.1 h0
      · exact h.1
    have H := Lib.hid (p_nameText s hN (w.alloc (clO (s, n))))
    have HE := Lib.hid (show strL (callL (s, n)) = s from by unfold callL; rw [if_neg h0])
    have q := name_some h0
    clear h hN
    rw [HE.out]
    go_enter Tryz.func89, Tryz.ntmps89
    go_wp2_with (go_at_call 55; (with_reducible refine H.out.mono ?_); rintro e w' ⟨rfl, rfl⟩)
    go_ret
    exact ⟨rfl, HB.out⟩
abbrev vdO6 (k : Int) (n : Nat) : Obj := .cells #[.int .i64 k, .int .u64 (n : Int)] 26
/-- A box at hand, in a world that has grown behind w. -/
structure BoxS (w W : World) (o : Obj) : Prop where
  box : W.heap[w.heap.size]? = some o
  tbl : Tbl W
  below : Below w.heap.size w W
theorem BoxS.up {w W W' : World} {o : Obj} (h : BoxS w W o) (hb : Below W.heap.size W W') : BoxS w W' o :=
  ⟨(hb.block _ (Array.getElem?_eq_some_iff.1 h.box).1).trans h.box, h.tbl.up hb, h.below.trans (hb.mono h.below.size)⟩
theorem BoxS.new {w : World} (o : Obj) (hT : Tbl w) : BoxS w (w.alloc o) o := ⟨World.alloc_heap_new w o, hT.up (lbox w o), lbox w o⟩
theorem BoxS.drew {w W : World} {o : Obj} (h : BoxS w W o) : BoxS w W.drew o := h.up (below_drawn (Below.refl _ _) 1)
theorem vd6_cells {w : World} {b : Nat} {k : Int} {n : Nat} (h : w.heap[b]? = some (vdO6 k n)) : w.cell? ⟨b, 0, none⟩ = some (.int .i64 k) ∧ w.cell? ⟨b, 1, none⟩ = some (.int .u64 (n : Int)) := ⟨cell6 h 0 rfl, cell6 h 1 rfl⟩
set_option maxRecDepth 100000 in
theorem p_verdictText (v : Int × Nat) (h : GVd v) (w : World) (hT : Tbl w) :
    Calls Tryz.prog 56 #[.agg #[.int .i64 v.1, .int .u64 (v.2 : Int)]] w fun e w' => e = .returned (.string (strL (verdL v))) ∧ Below w.heap.size w w' := by
  obtain ⟨k, n⟩ := v
  obtain ⟨hk, hn, _⟩ := h
  simp only at hk hn
  obtain ⟨j, rfl⟩ : ∃ j : Nat, k = (j : Int) + 1 := ⟨(k - 1).toNat, by omega⟩
  have hj : j < 8 := by omega
  have hw : IntKind.i64.wrap ((j : Int) + 1 - 1) = (j : Int) := by rw [IntWalk.i64_in _ (by omega)]; omega
  have hw2 : IntKind.i64.wrap (j : Int) = (j : Int) := IntWalk.i64_in _ (by omega)
  have HV := Lib.hid (BoxS.new (vdO6 ((j : Int) + 1) n) hT)
  obtain ⟨b0, b1⟩ := vd6_cells HV.out.box
  have HN := Lib.hid (fun V hV => p_numberText n hn V hV)
  have HH := Lib.hid (fun V => p_hasNumber (k := (j : Int) + 1) (by omega) V)
  have hkl := kind_len ((j : Int) + 1)
  have hdl := dec_len hn
  obtain ⟨t, ht⟩ : ∃ t, t = verdictL.getD j ⟨#[]⟩ := ⟨_, rfl⟩
  have hts : t.size ≤ 12 := by rw [ht, kind_word ⟨j, hj⟩, strL_size]; exact hkl
  obtain ⟨d, hd⟩ : ∃ d, d = strL (Lib.decDigits n) := ⟨_, rfl⟩
  have hds : d.size ≤ 20 := by rw [hd, strL_size]; exact hdl
  rw [← hd] at HN
  have HTT := Lib.hid (show t = strL (kindL ((j : Int) + 1)) by rw [ht]; exact kind_word ⟨j, hj⟩)
  have HDD := Lib.hid hd
  have HM : Hid (∀ (V : World) (tb : Nat), WordsAt V tb verdictL → Calls Tryz.prog 87 #[.slice (some ⟨tb, 0, none⟩) 8 8, .int .i64 (j : Int)] V fun e w' => e = .returned (.string t) ∧ w' = V) := Lib.hid (fun V tb hV => by rw [ht]; exact p_markAt V tb 8 verdictL (by decide) hV j hj)
  clear hT ht hd hkl hdl hk hn
  have s1 : t.size + 1 ≤ 13 := by omega
  go_enter Tryz.func56, Tryz.ntmps56
  go_upto_region 1 with fail
  have HD0 := Lib.hid (BoxS.drew HV.out)
  refine wp_region_held_drew (S := fun W' => BoxS w W' (vdO6 ((j : Int) + 1) n)) (by kernel_rfl) HD0.out (fun hHeld => ?_)
  clear b0 b1 HV
  generalize (w.alloc (vdO6 ((j : Int) + 1) n)).drew = Y at HD0 hHeld ⊢
  clear hHeld
  have hHeld := HD0.out
  refine wpAnyH_take (i := 1) (v := ?_) rfl (by kernel_rfl) (by kernel_rfl) (by kernel_rfl) (fun _ _ _ h => h) (Or.inl ⟨by rfl, ?_⟩) (by assumption) ?_
  rotate_left
  · intro wS hSw
    (obtain ⟨b0, b1⟩ := vd6_cells hSw.box)
    go_simp
    all_goals with_reducible rfl
  (try simp only [List.getElem_toArray, List.getElem_cons_zero, List.getElem_cons_succ, Act.put, List.setIfInBounds_toArray, List.set_cons_zero, List.set_cons_succ])
  refine wpAnyH_take (i := 2) (v := ?_) rfl (by kernel_rfl) (by kernel_rfl) (by kernel_rfl) (fun _ _ _ h => h) (Or.inl ⟨by rfl, ?_⟩) (by assumption) ?_
  rotate_left
  · intro wS hSw
    (obtain ⟨b0, b1⟩ := vd6_cells hSw.box)
    go_simp
    all_goals with_reducible rfl
  (try simp only [List.getElem_toArray, List.getElem_cons_zero, List.getElem_cons_succ, Act.put, List.setIfInBounds_toArray, List.set_cons_zero, List.set_cons_succ])
  refine wpAnyH_take (i := 3) (v := ?_) rfl (by kernel_rfl) (by kernel_rfl) (by kernel_rfl) (fun _ _ _ h => h) (Or.inl ⟨by rfl, ?_⟩) (by assumption) ?_
  rotate_left
  · intro wS hSw
    (obtain ⟨b0, b1⟩ := vd6_cells hSw.box)
    go_simp
    all_goals with_reducible rfl
  (try simp only [List.getElem_toArray, List.getElem_cons_zero, List.getElem_cons_succ, Act.put, List.setIfInBounds_toArray, List.set_cons_zero, List.set_cons_succ])
  refine held_one (i := 0) (by kernel_rfl) rfl (fun K hK => ?_)
  go_simp
  go_at_call 81
  refine (p_verdictWords _).mono ?_
  rintro e w1 ⟨rfl, rfl⟩
  have HE := Lib.hid (And.intro (BoxS.up hHeld (lbox _ (wordsO verdictL))) (words_at Y verdictL))
  refine hK.out _ _ HE.out.1 (fun hH2 => ?_)
  clear hK K hHeld hH2 HD0
  (try simp only [Act.put, List.setIfInBounds_toArray, List.set_cons_zero, List.set_cons_succ, List.getElem_toArray, List.getElem_cons_zero, List.getElem_cons_succ])
  refine held_one (i := 4) (by kernel_rfl) rfl (fun K hK => ?_)
  go_simp
  go_at_call 87
  refine (HM.out _ _ HE.out.2).mono ?_
  rintro e w1 ⟨rfl, rfl⟩
  have hHeld := HE.out.1
  refine hK.out _ _ HE.out.1 (fun hH2 => ?_)
  clear hK K hH2
  (try simp only [Act.put, List.setIfInBounds_toArray, List.set_cons_zero, List.set_cons_succ, List.getElem_toArray, List.getElem_cons_zero, List.getElem_cons_succ])
  refine wpAnyH_take (i := 5) (v := ?_) rfl (by kernel_rfl) (by kernel_rfl) (by kernel_rfl) (fun _ _ _ h => h) (Or.inl ⟨by rfl, ?_⟩) (by assumption) ?_
  rotate_left
  · intro wS hSw
    (skip)
    go_simp
    all_goals with_reducible rfl
  (try simp only [List.getElem_toArray, List.getElem_cons_zero, List.getElem_cons_succ, Act.put, List.setIfInBounds_toArray, List.set_cons_zero, List.set_cons_succ])
  refine wpAnyH_done (by kernel_rfl) ?_ _
  have HE1 := Lib.hid HE.out.1
  clear hHeld HE
  generalize Y.alloc (wordsO verdictL) = Y1 at HE1 ⊢
  obtain ⟨b0, b1⟩ := vd6_cells HE1.out.box
  cases hq : numK ((j : Int) + 1) with
  | false =>
    rw [hq] at HH
    have HF := Lib.hid (show verdL ((j : Int) + 1, n) = kindL ((j : Int) + 1) from by unfold verdL; rw [if_neg (by simp [hq])])
    clear hq
    go_wp2_with (go_at_call 82; (with_reducible refine (HH.out _).mono ?_); rintro e w1 ⟨rfl, rfl⟩)
    go_ret
    exact ⟨by rw [HF.out, HTT.out]; rfl, HE1.out.below⟩
  | true =>
    rw [hq] at HH
    have HF := Lib.hid (show verdL ((j : Int) + 1, n) = kindL ((j : Int) + 1) ++ 32 :: Lib.decDigits n from by unfold verdL; rw [if_pos (by simp [hq])])
    clear hq
    go_wp2_with (first
      | (go_at_call 82; (with_reducible refine (HH.out _).mono ?_); rintro e w1 ⟨rfl, rfl⟩)
      | (go_at_call 88; (with_reducible refine (HN.out _ HE1.out.tbl).mono ?_); rintro e w2 ⟨rfl, hb⟩; have HE2 := Lib.hid (HE1.out.up hb); clear hb))
    go_ret
    exact ⟨by rw [HF.out, HTT.out, HDD.out]; rw [show (⟨#[32]⟩ : ByteArray) = strL [32] from rfl, strL_append, strL_append]; simp, HE2.out.below⟩
end Go.Proofs.YtgeapkjegemkeaaGreatDoor
namespace Go.Proofs.YtgeapkjegemkeaaGreatDoor
open Go Go.RowKit
set_option linter.unusedSimpArgs false
set_option linter.unusedVariables false

abbrev exO9 (o : Int) (S : Value) (f : Int) (m : Nat) (r : Int) (v : Nat) : Obj := .cells #[.int .i64 o, S, .int .i64 f, .int .u64 (m : Int), .int .i64 r, .int .u64 (v : Int)] 39
theorem ex9_cells {w : World} {b : Nat} {o : Int} {S : Value} {f : Int} {m : Nat} {r : Int} {v : Nat} (h : w.heap[b]? = some (exO9 o S f m r v)) :
    w.cell? ⟨b, 0, none⟩ = some (.int .i64 o) ∧ w.cell? ⟨b, 1, none⟩ = some S ∧ w.cell? ⟨b, 2, none⟩ = some (.int .i64 f) ∧ w.cell? ⟨b, 3, none⟩ = some (.int .u64 (m : Int)) ∧ w.cell? ⟨b, 4, none⟩ = some (.int .i64 r) ∧ w.cell? ⟨b, 5, none⟩ = some (.int .u64 (v : Int)) :=
  ⟨cell6 h 0 rfl, cell6 h 1 rfl, cell6 h 2 rfl, cell6 h 3 rfl, cell6 h 4 rfl, cell6 h 5 rfl⟩
set_option maxHeartbeats 4000000 in
set_option maxRecDepth 100000 in
theorem p_testText (A : Option Addr) (cap : Nat) (f : Int) (m : Nat) (r : Int) (v : Nat) (hf : 0 ≤ f ∧ f ≤ 6) (hr : 1 ≤ r ∧ r ≤ 6) (hm : m < 18446744073709551616) (hv : v < 18446744073709551616) (w : World) (hT : Tbl w) :
    Calls Tryz.prog 66 #[.agg #[.int .i64 6, .slice A 0 cap, .int .i64 f, .int .u64 (m : Int), .int .i64 r, .int .u64 (v : Int)]] w fun e w' => e = .returned (.string (strL (testL f m r v))) ∧ Below w.heap.size w w' := by
  obtain ⟨g, rfl⟩ : ∃ g : Nat, f = (g : Int) := ⟨f.toNat, by omega⟩
  obtain ⟨j, rfl⟩ : ∃ j : Nat, r = (j : Int) + 1 := ⟨(r - 1).toNat, by omega⟩
  have hg : g < 7 := by omega
  have hj : j < 6 := by omega
  have hw : IntKind.i64.wrap ((j : Int) + 1 - 1) = (j : Int) := by rw [IntWalk.i64_in _ (by omega)]; omega
  have hw2 : IntKind.i64.wrap (j : Int) = (j : Int) := IntWalk.i64_in _ (by omega)
  have HV := Lib.hid (BoxS.new (exO9 6 (.slice A 0 cap) (g : Int) m ((j : Int) + 1) v) hT)
  obtain ⟨b0, b1, b2, b3, b4, b5⟩ := ex9_cells HV.out.box
  have HN := Lib.hid (fun V hV => p_numberText v hv V hV)
  have HX := Lib.hid (fun V hV => p_fmt16 m hm V hV)
  obtain ⟨t, ht⟩ : ∃ t, t = fieldL.getD g ⟨#[]⟩ := ⟨_, rfl⟩
  have ht2 : t = strL (fldL (g : Int)) := by rw [ht]; exact field_word ⟨g, hg⟩
  have hts : t.size ≤ 4 := by rw [ht2, strL_size]; exact field_len _
  obtain ⟨q, hq⟩ : ∃ q, q = relL.getD j ⟨#[]⟩ := ⟨_, rfl⟩
  have hq2 : q = strL (rlL ((j : Int) + 1)) := by rw [hq]; exact rel_word ⟨j, hj⟩
  have hqs : q.size ≤ 2 := by rw [hq2, strL_size]; exact rel_len _
  obtain ⟨d, hd⟩ : ∃ d, d = strL (Lib.decDigits v) := ⟨_, rfl⟩
  have hds : d.size ≤ 20 := by rw [hd, strL_size]; exact dec_len hv
  obtain ⟨x, hx⟩ : ∃ x, x = strL (hexL m) := ⟨_, rfl⟩
  have hxs : x.size ≤ 16 := by rw [hx, strL_size]; exact hex_len 15 m (by rw [show (16 : Nat) ^ (15 + 1) = 18446744073709551616 from rfl]; exact hm)
  rw [← hd] at HN
  rw [← hx] at HX
  have HE := Lib.hid (And.intro ht2 (And.intro hq2 (And.intro hd hx)))
  have HMt : Hid (∀ (V : World) (tb : Nat), WordsAt V tb fieldL → Calls Tryz.prog 87 #[.slice (some ⟨tb, 0, none⟩) 7 7, .int .i64 (g : Int)] V fun e w' => e = .returned (.string t) ∧ w' = V) := Lib.hid (fun V tb hV => by rw [ht]; exact p_markAt V tb 7 fieldL (by decide) hV g hg)
  have HMq : Hid (∀ (V : World) (tb : Nat), WordsAt V tb relL → Calls Tryz.prog 87 #[.slice (some ⟨tb, 0, none⟩) 6 6, .int .i64 (j : Int)] V fun e w' => e = .returned (.string q) ∧ w' = V) := Lib.hid (fun V tb hV => by rw [hq]; exact p_markAt V tb 6 relL (by decide) hV j hj)
  clear hT ht ht2 hq hq2 hd hx
  go_enter Tryz.func66, Tryz.ntmps66
  go_upto_region 1 with fail
  have HD0 := Lib.hid (BoxS.drew HV.out)
  refine wp_region_held_drew (S := fun W' => BoxS w W' (exO9 6 (.slice A 0 cap) (g : Int) m ((j : Int) + 1) v)) (by kernel_rfl) HD0.out (fun hHeld => ?_)
  clear b0 b1 b2 b3 b4 b5 HV
  generalize (w.alloc (exO9 6 (.slice A 0 cap) (g : Int) m ((j : Int) + 1) v)).drew = Y at HD0 hHeld ⊢
  clear hHeld
  have hHeld := HD0.out
  refine wpAnyH_take (i := 1) (v := ?_) rfl (by kernel_rfl) (by kernel_rfl) (by kernel_rfl) (fun _ _ _ h => h) (Or.inl ⟨by rfl, ?_⟩) (by assumption) ?_
  rotate_left
  · intro wS hSw
    (obtain ⟨b0, b1, b2, b3, b4, b5⟩ := ex9_cells hSw.box)
    go_simp
    all_goals with_reducible rfl
  (try simp only [List.getElem_toArray, List.getElem_cons_zero, List.getElem_cons_succ, Act.put, List.setIfInBounds_toArray, List.set_cons_zero, List.set_cons_succ])
  refine wpAnyH_take (i := 2) (v := ?_) rfl (by kernel_rfl) (by kernel_rfl) (by kernel_rfl) (fun _ _ _ h => h) (Or.inl ⟨by rfl, ?_⟩) (by assumption) ?_
  rotate_left
  · intro wS hSw
    (obtain ⟨b0, b1, b2, b3, b4, b5⟩ := ex9_cells hSw.box)
    go_simp
    all_goals with_reducible rfl
  (try simp only [List.getElem_toArray, List.getElem_cons_zero, List.getElem_cons_succ, Act.put, List.setIfInBounds_toArray, List.set_cons_zero, List.set_cons_succ])
  refine held_one (i := 0) (by kernel_rfl) rfl (fun K hK => ?_)
  go_simp
  go_at_call 95
  refine (p_fieldWords _).mono ?_
  rintro e w1 ⟨rfl, rfl⟩
  have HG := Lib.hid (And.intro (BoxS.up hHeld (lbox _ (wordsO fieldL))) (words_at Y fieldL))
  refine hK.out _ _ HG.out.1 (fun hH2 => ?_)
  clear hK K hHeld hH2 HD0
  (try simp only [Act.put, List.setIfInBounds_toArray, List.set_cons_zero, List.set_cons_succ, List.getElem_toArray, List.getElem_cons_zero, List.getElem_cons_succ])
  refine held_one (i := 3) (by kernel_rfl) rfl (fun K hK => ?_)
  go_simp
  go_at_call 87
  refine (HMt.out _ _ HG.out.2).mono ?_
  rintro e w1 ⟨rfl, rfl⟩
  have hHeld := HG.out.1
  refine hK.out _ _ HG.out.1 (fun hH2 => ?_)
  clear hK K hH2
  (try simp only [Act.put, List.setIfInBounds_toArray, List.set_cons_zero, List.set_cons_succ, List.getElem_toArray, List.getElem_cons_zero, List.getElem_cons_succ])
  refine wpAnyH_take (i := 4) (v := ?_) rfl (by kernel_rfl) (by kernel_rfl) (by kernel_rfl) (fun _ _ _ h => h) (Or.inl ⟨by rfl, ?_⟩) (by assumption) ?_
  rotate_left
  · intro wS hSw
    (skip)
    go_simp
    all_goals with_reducible rfl
  (try simp only [List.getElem_toArray, List.getElem_cons_zero, List.getElem_cons_succ, Act.put, List.setIfInBounds_toArray, List.set_cons_zero, List.set_cons_succ])
  refine wpAnyH_done (by kernel_rfl) ?_ _
  have HE1 := Lib.hid HG.out.1
  clear hHeld HG
  generalize Y.alloc (wordsO fieldL) = Y1 at HE1 ⊢
  obtain ⟨b0, b1, b2, b3, b4, b5⟩ := ex9_cells HE1.out.box
  by_cases hmx : m = 18446744073709551615
  · subst hmx
    have q1 : (((18446744073709551615 : Nat) : Int) != 18446744073709551615) = false := rfl
    have HS := Lib.hid (show t = strL (fldL (g : Int) ++ maskL 18446744073709551615) by rw [HE.out.1, show maskL 18446744073709551615 = [] from if_pos rfl, List.append_nil])
    go_upto_region 4 with fail
    have HE2 := HE1
    obtain ⟨s, hs⟩ : ∃ s, s = t := ⟨_, rfl⟩
    rw [← hs] at hts HS ⊢
    have hss : s.size ≤ 25 := by omega
    clear hs hts HMt HX hxs b0 b1 b2 b3 b4 b5 HE1
    generalize Y1 = Y2 at HE2 ⊢
    have z3 : ¬ 9223372036854775807 < s.size + 1 := by omega
    have z4 : ¬ 9223372036854775807 < (s ++ (⟨#[32]⟩ : ByteArray)).size + q.size := by rw [size_app]; show ¬ 9223372036854775807 < s.size + 1 + _; omega
    have z5 : ¬ 9223372036854775807 < (s ++ (⟨#[32]⟩ : ByteArray) ++ q).size + 1 := by rw [size_app, size_app]; show ¬ 9223372036854775807 < s.size + 1 + _ + 1; omega
    have z6 : ¬ 9223372036854775807 < (s ++ (⟨#[32]⟩ : ByteArray) ++ q ++ (⟨#[32]⟩ : ByteArray)).size + d.size := by rw [size_app, size_app, size_app]; show ¬ 9223372036854775807 < s.size + 1 + _ + 1 + _; omega
    have y4 : ¬ 9223372036854775807 < s.size + 1 + q.size := by omega
    have y5 : ¬ 9223372036854775807 < s.size + 1 + q.size + 1 := by omega
    have y6 : ¬ 9223372036854775807 < s.size + 1 + q.size + 1 + d.size := by omega
    refine wp_region_held_drew (S := fun W' => BoxS w W' (exO9 6 (.slice A 0 cap) (g : Int) 18446744073709551615 ((j : Int) + 1) v)) (by kernel_rfl) HE2.out.drew (fun hHeld => ?_)
    have HD0 := Lib.hid HE2.out.drew
    generalize Y2.drew = Y3 at HD0 hHeld ⊢
    clear hHeld HE2
    have hHeld := HD0.out
    refine wpAnyH_take (i := 0) (v := ?_) rfl (by kernel_rfl) (by kernel_rfl) (by kernel_rfl) (fun _ _ _ h => h) (Or.inl ⟨by rfl, ?_⟩) (by assumption) ?_
    rotate_left
    · intro wS hSw
      (obtain ⟨b0, b1, b2, b3, b4, b5⟩ := ex9_cells hSw.box)
      go_simp
      all_goals with_reducible rfl
    (try simp only [List.getElem_toArray, List.getElem_cons_zero, List.getElem_cons_succ, Act.put, List.setIfInBounds_toArray, List.set_cons_zero, List.set_cons_succ])
    refine wpAnyH_take (i := 1) (v := ?_) rfl (by kernel_rfl) (by kernel_rfl) (by kernel_rfl) (fun _ _ _ h => h) (Or.inl ⟨by rfl, ?_⟩) (by assumption) ?_
    rotate_left
    · intro wS hSw
      (obtain ⟨b0, b1, b2, b3, b4, b5⟩ := ex9_cells hSw.box)
      go_simp
      all_goals with_reducible rfl
    (try simp only [List.getElem_toArray, List.getElem_cons_zero, List.getElem_cons_succ, Act.put, List.setIfInBounds_toArray, List.set_cons_zero, List.set_cons_succ])
    refine wpAnyH_take (i := 3) (v := ?_) rfl (by kernel_rfl) (by kernel_rfl) (by kernel_rfl) (fun _ _ _ h => h) (Or.inl ⟨by rfl, ?_⟩) (by assumption) ?_
    rotate_left
    · intro wS hSw
      (obtain ⟨b0, b1, b2, b3, b4, b5⟩ := ex9_cells hSw.box)
      go_simp
      all_goals with_reducible rfl
    (try simp only [List.getElem_toArray, List.getElem_cons_zero, List.getElem_cons_succ, Act.put, List.setIfInBounds_toArray, List.set_cons_zero, List.set_cons_succ])
    refine wpAnyH_take (i := 4) (v := ?_) rfl (by kernel_rfl) (by kernel_rfl) (by kernel_rfl) (fun _ _ _ h => h) (Or.inl ⟨by rfl, ?_⟩) (by assumption) ?_
    rotate_left
    · intro wS hSw
      (obtain ⟨b0, b1, b2, b3, b4, b5⟩ := ex9_cells hSw.box)
      go_simp
      all_goals with_reducible rfl
    (try simp only [List.getElem_toArray, List.getElem_cons_zero, List.getElem_cons_succ, Act.put, List.setIfInBounds_toArray, List.set_cons_zero, List.set_cons_succ])
    refine wpAnyH_take (i := 5) (v := ?_) rfl (by kernel_rfl) (by kernel_rfl) (by kernel_rfl) (fun _ _ _ h => h) (Or.inl ⟨by rfl, ?_⟩) (by assumption) ?_
    rotate_left
    · intro wS hSw
      (obtain ⟨b0, b1, b2, b3, b4, b5⟩ := ex9_cells hSw.box)
      go_simp
      all_goals with_reducible rfl
    (try simp only [List.getElem_toArray, List.getElem_cons_zero, List.getElem_cons_succ, Act.put, List.setIfInBounds_toArray, List.set_cons_zero, List.set_cons_succ])
    refine wpAnyH_take (i := 9) (v := ?_) rfl (by kernel_rfl) (by kernel_rfl) (by kernel_rfl) (fun _ _ _ h => h) (Or.inl ⟨by rfl, ?_⟩) (by assumption) ?_
    rotate_left
    · intro wS hSw
      (obtain ⟨b0, b1, b2, b3, b4, b5⟩ := ex9_cells hSw.box)
      go_simp
      all_goals with_reducible rfl
    (try simp only [List.getElem_toArray, List.getElem_cons_zero, List.getElem_cons_succ, Act.put, List.setIfInBounds_toArray, List.set_cons_zero, List.set_cons_succ])
    refine wpAnyH_take (i := 10) (v := ?_) rfl (by kernel_rfl) (by kernel_rfl) (by kernel_rfl) (fun _ _ _ h => h) (Or.inl ⟨by rfl, ?_⟩) (by assumption) ?_
    rotate_left
    · intro wS hSw
      (obtain ⟨b0, b1, b2, b3, b4, b5⟩ := ex9_cells hSw.box)
      go_simp
      all_goals with_reducible rfl
    (try simp only [List.getElem_toArray, List.getElem_cons_zero, List.getElem_cons_succ, Act.put, List.setIfInBounds_toArray, List.set_cons_zero, List.set_cons_succ])
    refine held_one (i := 2) (by kernel_rfl) rfl (fun K hK => ?_)
    go_simp
    go_at_call 96
    refine (p_relSigns _).mono ?_
    rintro e w1 ⟨rfl, rfl⟩
    have HG := Lib.hid (And.intro (BoxS.up hHeld (lbox _ (wordsO relL))) (words_at Y3 relL))
    refine hK.out _ _ HG.out.1 (fun hH2 => ?_)
    clear hK K hHeld hH2 HD0
    (try simp only [Act.put, List.setIfInBounds_toArray, List.set_cons_zero, List.set_cons_succ, List.getElem_toArray, List.getElem_cons_zero, List.getElem_cons_succ])
    refine held_one (i := 6) (by kernel_rfl) rfl (fun K hK => ?_)
    go_simp
    go_at_call 87
    refine (HMq.out _ _ HG.out.2).mono ?_
    rintro e w1 ⟨rfl, rfl⟩
    have hHeld := HG.out.1
    refine hK.out _ _ HG.out.1 (fun hH2 => ?_)
    clear hK K hH2
    (try simp only [Act.put, List.setIfInBounds_toArray, List.set_cons_zero, List.set_cons_succ, List.getElem_toArray, List.getElem_cons_zero, List.getElem_cons_succ])
    refine wpAnyH_take (i := 7) (v := ?_) rfl (by kernel_rfl) (by kernel_rfl) (by kernel_rfl) (fun _ _ _ h => h) (Or.inl ⟨by rfl, ?_⟩) (by assumption) ?_
    rotate_left
    · intro wS hSw
      (skip)
      go_simp
      all_goals with_reducible rfl
    (try simp only [List.getElem_toArray, List.getElem_cons_zero, List.getElem_cons_succ, Act.put, List.setIfInBounds_toArray, List.set_cons_zero, List.set_cons_succ])
    refine wpAnyH_take (i := 8) (v := ?_) rfl (by kernel_rfl) (by kernel_rfl) (by kernel_rfl) (fun _ _ _ h => h) (Or.inl ⟨by rfl, ?_⟩) (by assumption) ?_
    rotate_left
    · intro wS hSw
      (skip)
      go_simp
      all_goals with_reducible rfl
    (try simp only [List.getElem_toArray, List.getElem_cons_zero, List.getElem_cons_succ, Act.put, List.setIfInBounds_toArray, List.set_cons_zero, List.set_cons_succ])
    refine held_one (i := 11) (by kernel_rfl) rfl (fun K hK => ?_)
    go_simp
    go_at_call 88
    refine (HN.out _ HG.out.1.tbl).mono ?_
    rintro e w3 ⟨rfl, hb⟩
    have HE3 := Lib.hid (HG.out.1.up hb)
    clear hHeld
    have hHeld := HE3.out
    refine hK.out _ _ HE3.out (fun hH2 => ?_)
    clear hK K hH2 hb HG
    (try simp only [Act.put, List.setIfInBounds_toArray, List.set_cons_zero, List.set_cons_succ, List.getElem_toArray, List.getElem_cons_zero, List.getElem_cons_succ])
    refine wpAnyH_take (i := 12) (v := ?_) rfl (by kernel_rfl) (by kernel_rfl) (by kernel_rfl) (fun _ _ _ h => h) (Or.inl ⟨by rfl, ?_⟩) (by assumption) ?_
    rotate_left
    · intro wS hSw
      (skip)
      go_simp
      all_goals with_reducible rfl
    (try simp only [List.getElem_toArray, List.getElem_cons_zero, List.getElem_cons_succ, Act.put, List.setIfInBounds_toArray, List.set_cons_zero, List.set_cons_succ])
    refine wpAnyH_take (i := 13) (v := ?_) rfl (by kernel_rfl) (by kernel_rfl) (by kernel_rfl) (fun _ _ _ h => h) (Or.inl ⟨by rfl, ?_⟩) (by assumption) ?_
    rotate_left
    · intro wS hSw
      (skip)
      go_simp
      all_goals with_reducible rfl
    (try simp only [List.getElem_toArray, List.getElem_cons_zero, List.getElem_cons_succ, Act.put, List.setIfInBounds_toArray, List.set_cons_zero, List.set_cons_succ])
    refine wpAnyH_done (by kernel_rfl) ?_ _
    go_wp2
    go_ret
    refine ⟨?_, HE3.out.below⟩
    have hz : s ++ (⟨#[32]⟩ : ByteArray) ++ q ++ (⟨#[32]⟩ : ByteArray) ++ d = strL (testL (g : Int) 18446744073709551615 ((j : Int) + 1) v) := by
      rw [HS.out, HE.out.2.1, HE.out.2.2.1, show (⟨#[32]⟩ : ByteArray) = strL [32] from rfl, strL_append, strL_append, strL_append, strL_append]
      unfold testL
      simp
    rw [← hz]
    rfl
  · have q1 : ((m : Int) != 18446744073709551615) = true := bne_iff_ne.2 (by omega)
    have z1 : (5 : Nat) + x.size ≤ 21 := by omega
    have z2 : t.size + (5 + x.size) ≤ 25 := by omega
    have HS := Lib.hid (show t ++ ((⟨#[32, 38, 32, 48, 120]⟩ : ByteArray) ++ x) = strL (fldL (g : Int) ++ maskL m) by rw [HE.out.1, HE.out.2.2.2, show maskL m = [32, 38, 32, 48, 120] ++ hexL m from if_neg hmx, show (⟨#[32, 38, 32, 48, 120]⟩ : ByteArray) = strL [32, 38, 32, 48, 120] from rfl, strL_append, strL_append])
    go_upto_region 4 with (go_at_call 44; (with_reducible refine (HX.out _ HE1.out.tbl).mono ?_); rintro e w2 ⟨rfl, hb⟩; have HE2 := Lib.hid (HE1.out.up hb); clear hb)
    obtain ⟨s, hs⟩ : ∃ s, s = t ++ ((⟨#[32, 38, 32, 48, 120]⟩ : ByteArray) ++ x) := ⟨_, rfl⟩
    rw [← hs] at HS ⊢
    have hss : s.size ≤ 25 := by rw [hs, size_app, size_app]; exact z2
    clear hs hts z1 z2 HMt HX hxs b0 b1 b2 b3 b4 b5 HE1
    generalize w2 = Y2 at HE2 ⊢
    have z3 : ¬ 9223372036854775807 < s.size + 1 := by omega
    have z4 : ¬ 9223372036854775807 < (s ++ (⟨#[32]⟩ : ByteArray)).size + q.size := by rw [size_app]; show ¬ 9223372036854775807 < s.size + 1 + _; omega
    have z5 : ¬ 9223372036854775807 < (s ++ (⟨#[32]⟩ : ByteArray) ++ q).size + 1 := by rw [size_app, size_app]; show ¬ 9223372036854775807 < s.size + 1 + _ + 1; omega
    have z6 : ¬ 9223372036854775807 < (s ++ (⟨#[32]⟩ : ByteArray) ++ q ++ (⟨#[32]⟩ : ByteArray)).size + d.size := by rw [size_app, size_app, size_app]; show ¬ 9223372036854775807 < s.size + 1 + _ + 1 + _; omega
    have y4 : ¬ 9223372036854775807 < s.size + 1 + q.size := by omega
    have y5 : ¬ 9223372036854775807 < s.size + 1 + q.size + 1 := by omega
    have y6 : ¬ 9223372036854775807 < s.size + 1 + q.size + 1 + d.size := by omega
    refine wp_region_held_drew (S := fun W' => BoxS w W' (exO9 6 (.slice A 0 cap) (g : Int) m ((j : Int) + 1) v)) (by kernel_rfl) HE2.out.drew (fun hHeld => ?_)
    have HD0 := Lib.hid HE2.out.drew
    generalize Y2.drew = Y3 at HD0 hHeld ⊢
    clear hHeld HE2
    have hHeld := HD0.out
    refine wpAnyH_take (i := 0) (v := ?_) rfl (by kernel_rfl) (by kernel_rfl) (by kernel_rfl) (fun _ _ _ h => h) (Or.inl ⟨by rfl, ?_⟩) (by assumption) ?_
    rotate_left
    · intro wS hSw
      (obtain ⟨b0, b1, b2, b3, b4, b5⟩ := ex9_cells hSw.box)
      go_simp
      all_goals with_reducible rfl
    (try simp only [List.getElem_toArray, List.getElem_cons_zero, List.getElem_cons_succ, Act.put, List.setIfInBounds_toArray, List.set_cons_zero, List.set_cons_succ])
    refine wpAnyH_take (i := 1) (v := ?_) rfl (by kernel_rfl) (by kernel_rfl) (by kernel_rfl) (fun _ _ _ h => h) (Or.inl ⟨by rfl, ?_⟩) (by assumption) ?_
    rotate_left
    · intro wS hSw
      (obtain ⟨b0, b1, b2, b3, b4, b5⟩ := ex9_cells hSw.box)
      go_simp
      all_goals with_reducible rfl
    (try simp only [List.getElem_toArray, List.getElem_cons_zero, List.getElem_cons_succ, Act.put, List.setIfInBounds_toArray, List.set_cons_zero, List.set_cons_succ])
    refine wpAnyH_take (i := 3) (v := ?_) rfl (by kernel_rfl) (by kernel_rfl) (by kernel_rfl) (fun _ _ _ h => h) (Or.inl ⟨by rfl, ?_⟩) (by assumption) ?_
    rotate_left
    · intro wS hSw
      (obtain ⟨b0, b1, b2, b3, b4, b5⟩ := ex9_cells hSw.box)
      go_simp
      all_goals with_reducible rfl
    (try simp only [List.getElem_toArray, List.getElem_cons_zero, List.getElem_cons_succ, Act.put, List.setIfInBounds_toArray, List.set_cons_zero, List.set_cons_succ])
    refine wpAnyH_take (i := 4) (v := ?_) rfl (by kernel_rfl) (by kernel_rfl) (by kernel_rfl) (fun _ _ _ h => h) (Or.inl ⟨by rfl, ?_⟩) (by assumption) ?_
    rotate_left
    · intro wS hSw
      (obtain ⟨b0, b1, b2, b3, b4, b5⟩ := ex9_cells hSw.box)
      go_simp
      all_goals with_reducible rfl
    (try simp only [List.getElem_toArray, List.getElem_cons_zero, List.getElem_cons_succ, Act.put, List.setIfInBounds_toArray, List.set_cons_zero, List.set_cons_succ])
    refine wpAnyH_take (i := 5) (v := ?_) rfl (by kernel_rfl) (by kernel_rfl) (by kernel_rfl) (fun _ _ _ h => h) (Or.inl ⟨by rfl, ?_⟩) (by assumption) ?_
    rotate_left
    · intro wS hSw
      (obtain ⟨b0, b1, b2, b3, b4, b5⟩ := ex9_cells hSw.box)
      go_simp
      all_goals with_reducible rfl
    (try simp only [List.getElem_toArray, List.getElem_cons_zero, List.getElem_cons_succ, Act.put, List.setIfInBounds_toArray, List.set_cons_zero, List.set_cons_succ])
    refine wpAnyH_take (i := 9) (v := ?_) rfl (by kernel_rfl) (by kernel_rfl) (by kernel_rfl) (fun _ _ _ h => h) (Or.inl ⟨by rfl, ?_⟩) (by assumption) ?_
    rotate_left
    · intro wS hSw
      (obtain ⟨b0, b1, b2, b3, b4, b5⟩ := ex9_cells hSw.box)
      go_simp
      all_goals with_reducible rfl
    (try simp only [List.getElem_toArray, List.getElem_cons_zero, List.getElem_cons_succ, Act.put, List.setIfInBounds_toArray, List.set_cons_zero, List.set_cons_succ])
    refine wpAnyH_take (i := 10) (v := ?_) rfl (by kernel_rfl) (by kernel_rfl) (by kernel_rfl) (fun _ _ _ h => h) (Or.inl ⟨by rfl, ?_⟩) (by assumption) ?_
    rotate_left
    · intro wS hSw
      (obtain ⟨b0, b1, b2, b3, b4, b5⟩ := ex9_cells hSw.box)
      go_simp
      all_goals with_reducible rfl
    (try simp only [List.getElem_toArray, List.getElem_cons_zero, List.getElem_cons_succ, Act.put, List.setIfInBounds_toArray, List.set_cons_zero, List.set_cons_succ])
    refine held_one (i := 2) (by kernel_rfl) rfl (fun K hK => ?_)
    go_simp
    go_at_call 96
    refine (p_relSigns _).mono ?_
    rintro e w1 ⟨rfl, rfl⟩
    have HG := Lib.hid (And.intro (BoxS.up hHeld (lbox _ (wordsO relL))) (words_at Y3 relL))
    refine hK.out _ _ HG.out.1 (fun hH2 => ?_)
    clear hK K hHeld hH2 HD0
    (try simp only [Act.put, List.setIfInBounds_toArray, List.set_cons_zero, List.set_cons_succ, List.getElem_toArray, List.getElem_cons_zero, List.getElem_cons_succ])
    refine held_one (i := 6) (by kernel_rfl) rfl (fun K hK => ?_)
    go_simp
    go_at_call 87
    refine (HMq.out _ _ HG.out.2).mono ?_
    rintro e w1 ⟨rfl, rfl⟩
    have hHeld := HG.out.1
    refine hK.out _ _ HG.out.1 (fun hH2 => ?_)
    clear hK K hH2
    (try simp only [Act.put, List.setIfInBounds_toArray, List.set_cons_zero, List.set_cons_succ, List.getElem_toArray, List.getElem_cons_zero, List.getElem_cons_succ])
    refine wpAnyH_take (i := 7) (v := ?_) rfl (by kernel_rfl) (by kernel_rfl) (by kernel_rfl) (fun _ _ _ h => h) (Or.inl ⟨by rfl, ?_⟩) (by assumption) ?_
    rotate_left
    · intro wS hSw
      (skip)
      go_simp
      all_goals with_reducible rfl
    (try simp only [List.getElem_toArray, List.getElem_cons_zero, List.getElem_cons_succ, Act.put, List.setIfInBounds_toArray, List.set_cons_zero, List.set_cons_succ])
    refine wpAnyH_take (i := 8) (v := ?_) rfl (by kernel_rfl) (by kernel_rfl) (by kernel_rfl) (fun _ _ _ h => h) (Or.inl ⟨by rfl, ?_⟩) (by assumption) ?_
    rotate_left
    · intro wS hSw
      (skip)
      go_simp
      all_goals with_reducible rfl
    (try simp only [List.getElem_toArray, List.getElem_cons_zero, List.getElem_cons_succ, Act.put, List.setIfInBounds_toArray, List.set_cons_zero, List.set_cons_succ])
    refine held_one (i := 11) (by kernel_rfl) rfl (fun K hK => ?_)
    go_simp
    go_at_call 88
    refine (HN.out _ HG.out.1.tbl).mono ?_
    rintro e w3 ⟨rfl, hb⟩
    have HE3 := Lib.hid (HG.out.1.up hb)
    clear hHeld
    have hHeld := HE3.out
    refine hK.out _ _ HE3.out (fun hH2 => ?_)
    clear hK K hH2 hb HG
    (try simp only [Act.put, List.setIfInBounds_toArray, List.set_cons_zero, List.set_cons_succ, List.getElem_toArray, List.getElem_cons_zero, List.getElem_cons_succ])
    refine wpAnyH_take (i := 12) (v := ?_) rfl (by kernel_rfl) (by kernel_rfl) (by kernel_rfl) (fun _ _ _ h => h) (Or.inl ⟨by rfl, ?_⟩) (by assumption) ?_
    rotate_left
    · intro wS hSw
      (skip)
      go_simp
      all_goals with_reducible rfl
    (try simp only [List.getElem_toArray, List.getElem_cons_zero, List.getElem_cons_succ, Act.put, List.setIfInBounds_toArray, List.set_cons_zero, List.set_cons_succ])
    refine wpAnyH_take (i := 13) (v := ?_) rfl (by kernel_rfl) (by kernel_rfl) (by kernel_rfl) (fun _ _ _ h => h) (Or.inl ⟨by rfl, ?_⟩) (by assumption) ?_
    rotate_left
    · intro wS hSw
      (skip)
      go_simp
      all_goals with_reducible rfl
    (try simp only [List.getElem_toArray, List.getElem_cons_zero, List.getElem_cons_succ, Act.put, List.setIfInBounds_toArray, List.set_cons_zero, List.set_cons_succ])
    refine wpAnyH_done (by kernel_rfl) ?_ _
    go_wp2
    go_ret
    refine ⟨?_, HE3.out.below⟩
    have hz : s ++ (⟨#[32]⟩ : ByteArray) ++ q ++ (⟨#[32]⟩ : ByteArray) ++ d = strL (testL (g : Int) m ((j : Int) + 1) v) := by
      rw [HS.out, HE.out.2.1, HE.out.2.2.1, show (⟨#[32]⟩ : ByteArray) = strL [32] from rfl, strL_append, strL_append, strL_append, strL_append]
      unfold testL
      simp
    rw [← hz]
    rfl
end Go.Proofs.YtgeapkjegemkeaaGreatDoor

/-
  The program's test: its contract by values and places. Conditions: those that it names.
-/
import Derived.Test.YtgeapkjegemkeaaGreatDoorPPolVerd
namespace Go.Proofs.YtgeapkjegemkeaaGreatDoor
open Go Go.RowKit
set_option linter.unusedSimpArgs false
set_option linter.unusedVariables false

abbrev exO (o f : Int) (m : Int) (r : Int) (v : Int) : Obj := .cells #[.int .i64 o, .slice none 0 0, .int .i64 f, .int .u64 m, .int .i64 r, .int .u64 v] 39
/-- An expression that has no arguments. -/
abbrev leafVal (o f : Int) (m : Int) (r : Int) (v : Int) : Value := .agg #[.int .i64 o, .slice none 0 0, .int .i64 f, .int .u64 m, .int .i64 r, .int .u64 v]
theorem pset1 {w : World} {b B : Nat} {s : ByteArray} {x : Nx} {d : Nat} (h : PAt w b s x d) (hne : b ≠ B) (i : Nat) (v : Value) : PAt (w.setCell ⟨B, i, none⟩ v) b s x d := row_new h hne i v
theorem pset6 {w : World} {b B : Nat} {s : ByteArray} {x : Nx} {d : Nat} (h : PAt w b s x d) (hne : b ≠ B) (a' b' c' d' e' f' : Value) : PAt ((((((w.setCell ⟨B, 0, none⟩ a').setCell ⟨B, 1, none⟩ b').setCell ⟨B, 2, none⟩ c').setCell ⟨B, 3, none⟩ d').setCell ⟨B, 4, none⟩ e').setCell ⟨B, 5, none⟩ f') b s x d :=
  row_new (row_new (row_new (row_new (row_new (row_new h hne 0 _) hne 1 _) hne 2 _) hne 3 _) hne 4 _) hne 5 _
theorem gset6 {a w : World} {b B : Nat} (h : a.grownBy w (some b)) (hB : a.heap.size ≤ B) (a' b' c' d' e' f' : Value) : a.grownBy ((((((w.setCell ⟨B, 0, none⟩ a').setCell ⟨B, 1, none⟩ b').setCell ⟨B, 2, none⟩ c').setCell ⟨B, 3, none⟩ d').setCell ⟨B, 4, none⟩ e').setCell ⟨B, 5, none⟩ f') (some b) :=
  grown_new (grown_new (grown_new (grown_new (grown_new (grown_new h hB 0 _) hB 1 _) hB 2 _) hB 3 _) hB 4 _) hB 5 _
/-- What a test is as a value. -/
def TestV (x : Ex) (v : Value) (_ : World) : Prop := v = leafVal x.op x.field (x.mask : Int) x.rel (x.value : Int) ∧ x.args = []
theorem test_rest (s : ByteArray) (b d j : Nat) (hj : j < (srcF s).toks.length) :
    (∀ (W : World) (tb cap : Nat), WordsAt W tb relL → PAt W b s (tk (srcF s) j) d → Calls Tryz.prog 80 #[.pointer (some ⟨b, 0, none⟩), .slice (some ⟨tb, 0, none⟩) relL.length cap] W (GotP (Val fun k : Int => .int .i64 k) s W b d (choiceG (srcF s) relL j))) ∧
    (j + 1 < (srcF s).toks.length → ∀ (W : World), PAt W b s (tk (srcF s) (j + 1)) d → Calls Tryz.prog 83 #[.pointer (some ⟨b, 0, none⟩)] W (GotP (Val fun n : Nat => .int .u64 (n : Int)) s W b d (numG (srcF s) (j + 1)))) :=
  ⟨fun W tb cap hW hp => pp_choice W b s j d hj hp relL (by decide) tb cap hW (fun hx => by rw [(lexd s).kinds j hj, rel_kind (by rw [rel_idx]; omega)]; decide), fun hl W hp => pp_number W b s (j + 1) d hl hp⟩
set_option maxHeartbeats 4000000 in
set_option maxRecDepth 100000 in
theorem pp_test (w : World) (b : Nat) (s : ByteArray) (i d : Nat) (hi : i < (srcF s).toks.length) (h : PAt w b s (tk (srcF s) i) d) :
    Calls Tryz.prog 137 #[.pointer (some ⟨b, 0, none⟩)] w (GotP TestV s w b d (testG (srcF s) i)) := by
  have hlt := h.lt
  have hW := p_fieldWords (w.alloc (exO 0 0 0 0 0))
  have h1 : PAt ((w.alloc (exO 0 0 0 0 0)).alloc (wordsO fieldL)) b s (tk (srcF s) i) d := words_alloc (words_alloc h _) _
  have hv := field_idx (tk (srcF s) i).text
  have hge := idx_ge (tk (srcF s) i).text fieldL 0
  have hlen : fieldL.length = 7 := rfl
  have hr0 : ((w.alloc (exO 0 0 0 0 0)).alloc (wordsO fieldL)).heap[w.heap.size]? = some (exO 0 0 0 0 0) := kept_alloc (World.alloc_heap_new w _) _
  have HG0 := Lib.hid (grown_of_below (below_two w (exO 0 0 0 0 0) (wordsO fieldL)) (some b))
  have hwa := words_at (w.alloc (exO 0 0 0 0 0)) fieldL
  rw [show (w.alloc (exO 0 0 0 0 0)).heap.size = w.heap.size + 1 by simp] at hwa
  have hC := pp_choice _ b s i d hi h1 fieldL (by decide) (w.heap.size + 1) 7 hwa (fun hx => by
    rw [(lexd s).kinds i hi, field_kind (by rw [hv]; exact hx)]; decide)
  unfold choiceG at hC
  unfold testG
  rw [hlen] at hC hge
  rw [hv]
  clear hv
  generalize idxF (tk (srcF s) i).text fieldL 0 = k at *
  have HW := Lib.hid hW
  clear hW h h1 hwa
  by_cases hn : k < 0
  · rw [if_pos hn] at hC ⊢
    unfold noG at hC ⊢
    generalize (tk (srcF s) i).pos = q at hC ⊢
    have HC := Lib.hid hC
    clear hC hge hi
    go_enter Tryz.func137, Tryz.ntmps137
    go_wp2_with (first | (go_at_call 95; (with_reducible refine (HW.out).mono ?_); rintro e w1 ⟨rfl, rfl⟩) | (go_at_call 80; (with_reducible refine (HC.out).mono ?_); rintro e w1 ⟨rfl, hg⟩; have HY := Lib.hid (grown_trans HG0.out hg); clear hg))
    exact ⟨rfl, rfl, HY.out⟩
  rw [if_neg hn] at hC ⊢
  replace hge : 0 ≤ k ∧ k < 7 := by omega
  clear hn
  by_cases hl : ¬ i + 1 < (srcF s).toks.length
  · rw [adv_no hl] at hC ⊢
    generalize (srcF s).err = er at hC ⊢
    generalize (srcF s).place = p at hC ⊢
    show Calls _ _ _ _ (GotP TestV s w b d (.bad er p))
    have HC := Lib.hid hC
    clear hC hge hi hl
    go_enter Tryz.func137, Tryz.ntmps137
    go_wp2_with (first | (go_at_call 95; (with_reducible refine (HW.out).mono ?_); rintro e w1 ⟨rfl, rfl⟩) | (go_at_call 80; (with_reducible refine (HC.out).mono ?_); rintro e w1 ⟨rfl, hg⟩; have HY := Lib.hid (grown_trans HG0.out hg); clear hg))
    exact ⟨rfl, rfl, HY.out⟩
  replace hl : i + 1 < (srcF s).toks.length := Decidable.byContradiction hl
  rw [adv_ok hl] at hC ⊢
  have HC := Lib.hid hC
  show Calls _ _ _ _ (GotP TestV s w b d ((maskG (srcF s) (i + 1)).andThen fun m k1 => (relG (srcF s) k1).andThen fun r l => (numG (srcF s) l).andThen fun v e => .ok (.mk 6 [] k m r v) e))
  generalize i + 1 = i1 at hl hC HC ⊢
  clear hi hC
  unfold maskG
  have hdone := fun (j : Nat) (hj : j < (srcF s).toks.length) => test_rest s b d j hj
  by_cases ht : (tk (srcF s) i1).text = bAmp
  · have hk1 : (tk (srcF s) i1).kind ≠ 1 := by rw [(lexd s).kinds i1 hl, ht]; decide
    have hS := fun (W : World) hp => pp_skip_yes W b s i1 d hl hp ⟨#[38]⟩ ht hk1
    rw [if_pos ht]
    clear ht hk1
    by_cases hl2 : ¬ i1 + 1 < (srcF s).toks.length
    · rw [adv_no hl2] at hS ⊢
      generalize (srcF s).err = er at hS ⊢
      generalize (srcF s).place = p at hS ⊢
      show Calls _ _ _ _ (GotP TestV s w b d (.bad er p))
      have HS := Lib.hid hS
      clear hS hl hl2 hdone
      go_enter Tryz.func137, Tryz.ntmps137
      go_wp2_with (first | (go_at_call 95; (with_reducible refine (HW.out).mono ?_); rintro e w1 ⟨rfl, rfl⟩) | (go_at_call 80; (with_reducible refine (HC.out).mono ?_); rintro e w1 ⟨v, rfl, rfl, hp, hg⟩; have HR1 := Lib.hid (kept_box hr0 hg (by omega)); have hRE := (Array.getElem?_eq_some_iff.1 HR1.out).1; have HP2 := Lib.hid (words_alloc hp (exO 6 k 18446744073709551615 0 0)); have HG2 := Lib.hid (grown_trans (grown_trans HG0.out hg) (grown_of_below (lbox w1 (exO 6 k 18446744073709551615 0 0)) (some b))); have HE2 := Lib.hid (World.alloc_heap_new w1 (exO 6 k 18446744073709551615 0 0)); have HR2 := Lib.hid (kept_alloc HR1.out (exO 6 k 18446744073709551615 0 0)); clear hp hg HR1) | (go_at_call 78; (with_reducible refine (HS.out _ HP2.out).mono ?_); rintro e w2 ⟨rfl, hg⟩; have HY := Lib.hid (grown_trans HG2.out hg); clear hg))
      exact ⟨rfl, rfl, HY.out⟩
    replace hl2 : i1 + 1 < (srcF s).toks.length := Decidable.byContradiction hl2
    rw [adv_ok hl2] at hS ⊢
    have hN := fun (W : World) hp => pp_number W b s (i1 + 1) d hl2 hp
    have hfw := fwd_num (S := srcF s) (i1 + 1)
    show Calls _ _ _ _ (GotP TestV s w b d ((numG (srcF s) (i1 + 1)).andThen fun m k1 => (relG (srcF s) k1).andThen fun r l => (numG (srcF s) l).andThen fun v e => .ok (.mk 6 [] k m r v) e))
    generalize numG (srcF s) (i1 + 1) = g at hN hfw ⊢
    have HS := Lib.hid hS
    clear hS hl
    rcases g with ⟨m, j⟩ | ⟨er, p⟩ | _
    · obtain ⟨hR, hM⟩ := hdone j (hfw m j rfl).2
      have hj := (hfw m j rfl).2
      have HN := Lib.hid hN
      show Calls _ _ _ _ (GotP TestV s w b d ((relG (srcF s) j).andThen fun r l => (numG (srcF s) l).andThen fun v e => .ok (.mk 6 [] k m r v) e))
      clear hN hfw hl2 hdone
      unfold relG
      have hv2 := rel_idx (tk (srcF s) j).text
      have hge2 := idx_ge (tk (srcF s) j).text relL 0
      have hlen2 : relL.length = 6 := rfl
      unfold choiceG at hR
      rw [hlen2] at hR hge2
      rw [hv2]
      clear hv2
      have HRS := Lib.hid p_relSigns
      generalize idxF (tk (srcF s) j).text relL 0 = r at *
      by_cases hn2 : r < 0
      · have hz : r + 1 = 0 := by omega
        rw [if_pos hn2] at hR
        rw [if_pos hz]
        unfold noG at hR ⊢
        generalize (tk (srcF s) j).pos = q at hR ⊢
        show Calls _ _ _ _ (GotP TestV s w b d (.bad 61 q))
        have HR := Lib.hid hR
        clear hR hge2 hj hM hz hn2
        go_enter Tryz.func137, Tryz.ntmps137
        go_wp2_with (first | (go_at_call 95; (with_reducible refine (HW.out).mono ?_); rintro e w1 ⟨rfl, rfl⟩) | (go_at_call 80; (with_reducible refine (HC.out).mono ?_); rintro e w1 ⟨v, rfl, rfl, hp, hg⟩; have HR1 := Lib.hid (kept_box hr0 hg (by omega)); have hRE := (Array.getElem?_eq_some_iff.1 HR1.out).1; have HP2 := Lib.hid (words_alloc hp (exO 6 k 18446744073709551615 0 0)); have HG2 := Lib.hid (grown_trans (grown_trans HG0.out hg) (grown_of_below (lbox w1 (exO 6 k 18446744073709551615 0 0)) (some b))); have HE2 := Lib.hid (World.alloc_heap_new w1 (exO 6 k 18446744073709551615 0 0)); have HR2 := Lib.hid (kept_alloc HR1.out (exO 6 k 18446744073709551615 0 0)); clear hp hg HR1) | (go_at_call 78; (with_reducible refine (HS.out _ HP2.out).mono ?_); rintro e w2 ⟨v, rfl, rfl, hp, hg⟩; have HP3 := Lib.hid hp; have HG3 := Lib.hid (grown_trans HG2.out hg); have HE3 := Lib.hid (kept_box HE2.out hg (by omega)); have HR3 := Lib.hid (kept_box HR2.out hg (by omega)); clear hp hg) | (go_at_call 83; (with_reducible refine (HN.out _ HP3.out).mono ?_); rintro e w3 ⟨v, rfl, rfl, hp, hg⟩; have hE := kept_box HE3.out hg (by omega); have hR3 := kept_box HR3.out hg (by omega); have c3 := cell6 hE 3 rfl; have z3 := frozen6 hE 3; have HP4 := Lib.hid (words_alloc (pset1 hp (show b ≠ w1.heap.size by omega) 3 (.int .u64 (m : Int))) (wordsO relL)); have HG4 := Lib.hid (grown_trans (grown_new (grown_trans HG3.out hg) (show w.heap.size ≤ w1.heap.size by omega) 3 (.int .u64 (m : Int))) (grown_of_below (lbox _ (wordsO relL)) (some b))); have HE4 : Hid (((w3.setCell ⟨w1.heap.size, 3, none⟩ (.int .u64 (m : Int))).alloc (wordsO relL)).heap[w1.heap.size]? = some (exO 6 k (m : Int) 0 0)) := Lib.hid (kept_alloc (heap_set1 hE 3 (.int .u64 (m : Int))) (wordsO relL)); have HR4 := Lib.hid (kept_alloc (kept_set hR3 (show w.heap.size ≠ w1.heap.size by omega) 3 (.int .u64 (m : Int))) (wordsO relL)); have HW4 : Hid (WordsAt ((w3.setCell ⟨w1.heap.size, 3, none⟩ (.int .u64 (m : Int))).alloc (wordsO relL)) w3.heap.size relL) := Lib.hid (by have := words_at (w3.setCell ⟨w1.heap.size, 3, none⟩ (.int .u64 (m : Int))) relL; rw [show (w3.setCell ⟨w1.heap.size, 3, none⟩ (.int .u64 (m : Int))).heap.size = w3.heap.size by simp [World.setCell]] at this; exact this); clear hp hg hE hR3) | (go_at_call 96; (with_reducible refine (HRS.out _).mono ?_); rintro e w4 ⟨rfl, rfl⟩) | (go_at_call 80; (with_reducible refine (HR.out _ _ _ HW4.out HP4.out).mono ?_); rintro e w5 ⟨rfl, hg⟩; have HY := Lib.hid (grown_trans HG4.out hg); clear hg))
        exact ⟨rfl, rfl, HY.out⟩
      rw [if_neg hn2] at hR
      replace hge2 : 0 ≤ r ∧ r < 6 := by omega
      rw [if_neg (show ¬ r + 1 = 0 by omega)]
      clear hn2
      by_cases hl3 : ¬ j + 1 < (srcF s).toks.length
      · rw [adv_no hl3] at hR ⊢
        generalize (srcF s).err = er at hR ⊢
        generalize (srcF s).place = p at hR ⊢
        show Calls _ _ _ _ (GotP TestV s w b d (.bad er p))
        have HR := Lib.hid hR
        clear hR hge2 hj hl3 hM
        go_enter Tryz.func137, Tryz.ntmps137
        go_wp2_with (first | (go_at_call 95; (with_reducible refine (HW.out).mono ?_); rintro e w1 ⟨rfl, rfl⟩) | (go_at_call 80; (with_reducible refine (HC.out).mono ?_); rintro e w1 ⟨v, rfl, rfl, hp, hg⟩; have HR1 := Lib.hid (kept_box hr0 hg (by omega)); have hRE := (Array.getElem?_eq_some_iff.1 HR1.out).1; have HP2 := Lib.hid (words_alloc hp (exO 6 k 18446744073709551615 0 0)); have HG2 := Lib.hid (grown_trans (grown_trans HG0.out hg) (grown_of_below (lbox w1 (exO 6 k 18446744073709551615 0 0)) (some b))); have HE2 := Lib.hid (World.alloc_heap_new w1 (exO 6 k 18446744073709551615 0 0)); have HR2 := Lib.hid (kept_alloc HR1.out (exO 6 k 18446744073709551615 0 0)); clear hp hg HR1) | (go_at_call 78; (with_reducible refine (HS.out _ HP2.out).mono ?_); rintro e w2 ⟨v, rfl, rfl, hp, hg⟩; have HP3 := Lib.hid hp; have HG3 := Lib.hid (grown_trans HG2.out hg); have HE3 := Lib.hid (kept_box HE2.out hg (by omega)); have HR3 := Lib.hid (kept_box HR2.out hg (by omega)); clear hp hg) | (go_at_call 83; (with_reducible refine (HN.out _ HP3.out).mono ?_); rintro e w3 ⟨v, rfl, rfl, hp, hg⟩; have hE := kept_box HE3.out hg (by omega); have hR3 := kept_box HR3.out hg (by omega); have c3 := cell6 hE 3 rfl; have z3 := frozen6 hE 3; have HP4 := Lib.hid (words_alloc (pset1 hp (show b ≠ w1.heap.size by omega) 3 (.int .u64 (m : Int))) (wordsO relL)); have HG4 := Lib.hid (grown_trans (grown_new (grown_trans HG3.out hg) (show w.heap.size ≤ w1.heap.size by omega) 3 (.int .u64 (m : Int))) (grown_of_below (lbox _ (wordsO relL)) (some b))); have HE4 : Hid (((w3.setCell ⟨w1.heap.size, 3, none⟩ (.int .u64 (m : Int))).alloc (wordsO relL)).heap[w1.heap.size]? = some (exO 6 k (m : Int) 0 0)) := Lib.hid (kept_alloc (heap_set1 hE 3 (.int .u64 (m : Int))) (wordsO relL)); have HR4 := Lib.hid (kept_alloc (kept_set hR3 (show w.heap.size ≠ w1.heap.size by omega) 3 (.int .u64 (m : Int))) (wordsO relL)); have HW4 : Hid (WordsAt ((w3.setCell ⟨w1.heap.size, 3, none⟩ (.int .u64 (m : Int))).alloc (wordsO relL)) w3.heap.size relL) := Lib.hid (by have := words_at (w3.setCell ⟨w1.heap.size, 3, none⟩ (.int .u64 (m : Int))) relL; rw [show (w3.setCell ⟨w1.heap.size, 3, none⟩ (.int .u64 (m : Int))).heap.size = w3.heap.size by simp [World.setCell]] at this; exact this); clear hp hg hE hR3) | (go_at_call 96; (with_reducible refine (HRS.out _).mono ?_); rintro e w4 ⟨rfl, rfl⟩) | (go_at_call 80; (with_reducible refine (HR.out _ _ _ HW4.out HP4.out).mono ?_); rintro e w5 ⟨rfl, hg⟩; have HY := Lib.hid (grown_trans HG4.out hg); clear hg))
        exact ⟨rfl, rfl, HY.out⟩
      replace hl3 : j + 1 < (srcF s).toks.length := Decidable.byContradiction hl3
      rw [adv_ok hl3] at hR ⊢
      replace hM := hM hl3
      have hw : IntKind.i64.wrap (1 + r) = r + 1 := by rw [IntWalk.i64_in _ (by omega)] <;> omega
      show Calls _ _ _ _ (GotP TestV s w b d ((numG (srcF s) (j + 1)).andThen fun v e => .ok (.mk 6 [] k m (r + 1) v) e))
      generalize numG (srcF s) (j + 1) = g at hM ⊢
      have HR := Lib.hid hR
      clear hR hge2 hj hl3
      rcases g with ⟨n, o⟩ | ⟨er, p⟩ | _
      · have HM := Lib.hid hM
        clear hM
        show Calls _ _ _ _ (GotP TestV s w b d (.ok (.mk 6 [] k m (r + 1) n) o))
        go_enter Tryz.func137, Tryz.ntmps137
        go_wp2_with (first | (go_at_call 95; (with_reducible refine (HW.out).mono ?_); rintro e w1 ⟨rfl, rfl⟩) | (go_at_call 80; (with_reducible refine (HC.out).mono ?_); rintro e w1 ⟨v, rfl, rfl, hp, hg⟩; have HR1 := Lib.hid (kept_box hr0 hg (by omega)); have hRE := (Array.getElem?_eq_some_iff.1 HR1.out).1; have HP2 := Lib.hid (words_alloc hp (exO 6 k 18446744073709551615 0 0)); have HG2 := Lib.hid (grown_trans (grown_trans HG0.out hg) (grown_of_below (lbox w1 (exO 6 k 18446744073709551615 0 0)) (some b))); have HE2 := Lib.hid (World.alloc_heap_new w1 (exO 6 k 18446744073709551615 0 0)); have HR2 := Lib.hid (kept_alloc HR1.out (exO 6 k 18446744073709551615 0 0)); clear hp hg HR1) | (go_at_call 78; (with_reducible refine (HS.out _ HP2.out).mono ?_); rintro e w2 ⟨v, rfl, rfl, hp, hg⟩; have HP3 := Lib.hid hp; have HG3 := Lib.hid (grown_trans HG2.out hg); have HE3 := Lib.hid (kept_box HE2.out hg (by omega)); have HR3 := Lib.hid (kept_box HR2.out hg (by omega)); clear hp hg) | (go_at_call 83; (with_reducible refine (HN.out _ HP3.out).mono ?_); rintro e w3 ⟨v, rfl, rfl, hp, hg⟩; have hE := kept_box HE3.out hg (by omega); have hR3 := kept_box HR3.out hg (by omega); have c3 := cell6 hE 3 rfl; have z3 := frozen6 hE 3; have HP4 := Lib.hid (words_alloc (pset1 hp (show b ≠ w1.heap.size by omega) 3 (.int .u64 (m : Int))) (wordsO relL)); have HG4 := Lib.hid (grown_trans (grown_new (grown_trans HG3.out hg) (show w.heap.size ≤ w1.heap.size by omega) 3 (.int .u64 (m : Int))) (grown_of_below (lbox _ (wordsO relL)) (some b))); have HE4 : Hid (((w3.setCell ⟨w1.heap.size, 3, none⟩ (.int .u64 (m : Int))).alloc (wordsO relL)).heap[w1.heap.size]? = some (exO 6 k (m : Int) 0 0)) := Lib.hid (kept_alloc (heap_set1 hE 3 (.int .u64 (m : Int))) (wordsO relL)); have HR4 := Lib.hid (kept_alloc (kept_set hR3 (show w.heap.size ≠ w1.heap.size by omega) 3 (.int .u64 (m : Int))) (wordsO relL)); have HW4 : Hid (WordsAt ((w3.setCell ⟨w1.heap.size, 3, none⟩ (.int .u64 (m : Int))).alloc (wordsO relL)) w3.heap.size relL) := Lib.hid (by have := words_at (w3.setCell ⟨w1.heap.size, 3, none⟩ (.int .u64 (m : Int))) relL; rw [show (w3.setCell ⟨w1.heap.size, 3, none⟩ (.int .u64 (m : Int))).heap.size = w3.heap.size by simp [World.setCell]] at this; exact this); clear hp hg hE hR3) | (go_at_call 96; (with_reducible refine (HRS.out _).mono ?_); rintro e w4 ⟨rfl, rfl⟩) | (go_at_call 80; (with_reducible refine (HR.out _ _ _ HW4.out HP4.out).mono ?_); rintro e w5 ⟨v, rfl, rfl, hp, hg⟩; have hE := kept_box HE4.out hg (by omega); have hR5 := kept_box HR4.out hg (by omega); have c4 := cell6 hE 4 rfl; have z4 := frozen6 hE 4; have HP6 := Lib.hid (pset1 hp (show b ≠ w1.heap.size by omega) 4 (.int .i64 (r + 1))); have HG6 := Lib.hid (grown_new (grown_trans HG4.out hg) (show w.heap.size ≤ w1.heap.size by omega) 4 (.int .i64 (r + 1))); have HE6 : Hid ((w5.setCell ⟨w1.heap.size, 4, none⟩ (.int .i64 (r + 1))).heap[w1.heap.size]? = some (exO 6 k (m : Int) (r + 1) 0)) := Lib.hid (heap_set1 hE 4 (.int .i64 (r + 1))); have HR6 := Lib.hid (kept_set hR5 (show w.heap.size ≠ w1.heap.size by omega) 4 (.int .i64 (r + 1))); clear hp hg hE hR5) | (go_at_call 83; (with_reducible refine (HM.out _ HP6.out).mono ?_); rintro e w7 ⟨v, rfl, rfl, hp, hg⟩; have hE := kept_box HE6.out hg (by omega); have hR7 := kept_box HR6.out hg (by omega); have c5 := cell6 hE 5 rfl; have z5 := frozen6 hE 5; have hE8 : (w7.setCell ⟨w1.heap.size, 5, none⟩ (.int .u64 (n : Int))).heap[w1.heap.size]? = some (exO 6 k (m : Int) (r + 1) (n : Int)) := heap_set1 hE 5 (.int .u64 (n : Int)); have hR8 := kept_set hR7 (show w.heap.size ≠ w1.heap.size by omega) 5 (.int .u64 (n : Int)); have e0 := cell6 hE8 0 rfl; have e1 := cell6 hE8 1 rfl; have e2 := cell6 hE8 2 rfl; have e3 := cell6 hE8 3 rfl; have e4 := cell6 hE8 4 rfl; have e5 := cell6 hE8 5 rfl; have u0 := cell6 hR8 0 rfl; have u1 := cell6 hR8 1 rfl; have u2 := cell6 hR8 2 rfl; have u3 := cell6 hR8 3 rfl; have u4 := cell6 hR8 4 rfl; have u5 := cell6 hR8 5 rfl; have y0 := frozen6 hR8 0; have y1 := frozen6 hR8 1; have y2 := frozen6 hR8 2; have y3 := frozen6 hR8 3; have y4 := frozen6 hR8 4; have y5 := frozen6 hR8 5; have HX := Lib.hid (And.intro (pset1 hp (show b ≠ w1.heap.size by omega) 5 (.int .u64 (n : Int))) (grown_new (grown_trans HG6.out hg) (show w.heap.size ≤ w1.heap.size by omega) 5 (.int .u64 (n : Int)))); clear hp hg hE hR7 hE8 hR8 HP6 HG6 HE6 HR6))
        exact bodyPost_ret (v := leafVal 6 k (m : Int) (r + 1) (n : Int)) (by simp [results, Tryz.results137, go_sem, u0, u1, u2, u3, u4, u5, World.cell?_setCell_same']) rfl ⟨_, rfl, ⟨rfl, rfl⟩, pset6 HX.out.1 (by omega) _ _ _ _ _ _, gset6 HX.out.2 (Nat.le_refl _) _ _ _ _ _ _⟩
      · have HM := Lib.hid hM
        clear hM
        show Calls _ _ _ _ (GotP TestV s w b d (.bad er p))
        go_enter Tryz.func137, Tryz.ntmps137
        go_wp2_with (first | (go_at_call 95; (with_reducible refine (HW.out).mono ?_); rintro e w1 ⟨rfl, rfl⟩) | (go_at_call 80; (with_reducible refine (HC.out).mono ?_); rintro e w1 ⟨v, rfl, rfl, hp, hg⟩; have HR1 := Lib.hid (kept_box hr0 hg (by omega)); have hRE := (Array.getElem?_eq_some_iff.1 HR1.out).1; have HP2 := Lib.hid (words_alloc hp (exO 6 k 18446744073709551615 0 0)); have HG2 := Lib.hid (grown_trans (grown_trans HG0.out hg) (grown_of_below (lbox w1 (exO 6 k 18446744073709551615 0 0)) (some b))); have HE2 := Lib.hid (World.alloc_heap_new w1 (exO 6 k 18446744073709551615 0 0)); have HR2 := Lib.hid (kept_alloc HR1.out (exO 6 k 18446744073709551615 0 0)); clear hp hg HR1) | (go_at_call 78; (with_reducible refine (HS.out _ HP2.out).mono ?_); rintro e w2 ⟨v, rfl, rfl, hp, hg⟩; have HP3 := Lib.hid hp; have HG3 := Lib.hid (grown_trans HG2.out hg); have HE3 := Lib.hid (kept_box HE2.out hg (by omega)); have HR3 := Lib.hid (kept_box HR2.out hg (by omega)); clear hp hg) | (go_at_call 83; (with_reducible refine (HN.out _ HP3.out).mono ?_); rintro e w3 ⟨v, rfl, rfl, hp, hg⟩; have hE := kept_box HE3.out hg (by omega); have hR3 := kept_box HR3.out hg (by omega); have c3 := cell6 hE 3 rfl; have z3 := frozen6 hE 3; have HP4 := Lib.hid (words_alloc (pset1 hp (show b ≠ w1.heap.size by omega) 3 (.int .u64 (m : Int))) (wordsO relL)); have HG4 := Lib.hid (grown_trans (grown_new (grown_trans HG3.out hg) (show w.heap.size ≤ w1.heap.size by omega) 3 (.int .u64 (m : Int))) (grown_of_below (lbox _ (wordsO relL)) (some b))); have HE4 : Hid (((w3.setCell ⟨w1.heap.size, 3, none⟩ (.int .u64 (m : Int))).alloc (wordsO relL)).heap[w1.heap.size]? = some (exO 6 k (m : Int) 0 0)) := Lib.hid (kept_alloc (heap_set1 hE 3 (.int .u64 (m : Int))) (wordsO relL)); have HR4 := Lib.hid (kept_alloc (kept_set hR3 (show w.heap.size ≠ w1.heap.size by omega) 3 (.int .u64 (m : Int))) (wordsO relL)); have HW4 : Hid (WordsAt ((w3.setCell ⟨w1.heap.size, 3, none⟩ (.int .u64 (m : Int))).alloc (wordsO relL)) w3.heap.size relL) := Lib.hid (by have := words_at (w3.setCell ⟨w1.heap.size, 3, none⟩ (.int .u64 (m : Int))) relL; rw [show (w3.setCell ⟨w1.heap.size, 3, none⟩ (.int .u64 (m : Int))).heap.size = w3.heap.size by simp [World.setCell]] at this; exact this); clear hp hg hE hR3) | (go_at_call 96; (with_reducible refine (HRS.out _).mono ?_); rintro e w4 ⟨rfl, rfl⟩) | (go_at_call 80; (with_reducible refine (HR.out _ _ _ HW4.out HP4.out).mono ?_); rintro e w5 ⟨v, rfl, rfl, hp, hg⟩; have hE := kept_box HE4.out hg (by omega); have hR5 := kept_box HR4.out hg (by omega); have c4 := cell6 hE 4 rfl; have z4 := frozen6 hE 4; have HP6 := Lib.hid (pset1 hp (show b ≠ w1.heap.size by omega) 4 (.int .i64 (r + 1))); have HG6 := Lib.hid (grown_new (grown_trans HG4.out hg) (show w.heap.size ≤ w1.heap.size by omega) 4 (.int .i64 (r + 1))); have HE6 : Hid ((w5.setCell ⟨w1.heap.size, 4, none⟩ (.int .i64 (r + 1))).heap[w1.heap.size]? = some (exO 6 k (m : Int) (r + 1) 0)) := Lib.hid (heap_set1 hE 4 (.int .i64 (r + 1))); have HR6 := Lib.hid (kept_set hR5 (show w.heap.size ≠ w1.heap.size by omega) 4 (.int .i64 (r + 1))); clear hp hg hE hR5) | (go_at_call 83; (with_reducible refine (HM.out _ HP6.out).mono ?_); rintro e w7 ⟨rfl, hg⟩; have HY := Lib.hid (grown_trans HG6.out hg); clear hg))
        exact ⟨rfl, rfl, HY.out⟩
      · have HM := Lib.hid hM
        clear hM
        show Calls _ _ _ _ (GotP TestV s w b d .out)
        go_enter Tryz.func137, Tryz.ntmps137
        go_wp2_with (first | (go_at_call 95; (with_reducible refine (HW.out).mono ?_); rintro e w1 ⟨rfl, rfl⟩) | (go_at_call 80; (with_reducible refine (HC.out).mono ?_); rintro e w1 ⟨v, rfl, rfl, hp, hg⟩; have HR1 := Lib.hid (kept_box hr0 hg (by omega)); have hRE := (Array.getElem?_eq_some_iff.1 HR1.out).1; have HP2 := Lib.hid (words_alloc hp (exO 6 k 18446744073709551615 0 0)); have HG2 := Lib.hid (grown_trans (grown_trans HG0.out hg) (grown_of_below (lbox w1 (exO 6 k 18446744073709551615 0 0)) (some b))); have HE2 := Lib.hid (World.alloc_heap_new w1 (exO 6 k 18446744073709551615 0 0)); have HR2 := Lib.hid (kept_alloc HR1.out (exO 6 k 18446744073709551615 0 0)); clear hp hg HR1) | (go_at_call 78; (with_reducible refine (HS.out _ HP2.out).mono ?_); rintro e w2 ⟨v, rfl, rfl, hp, hg⟩; have HP3 := Lib.hid hp; have HG3 := Lib.hid (grown_trans HG2.out hg); have HE3 := Lib.hid (kept_box HE2.out hg (by omega)); have HR3 := Lib.hid (kept_box HR2.out hg (by omega)); clear hp hg) | (go_at_call 83; (with_reducible refine (HN.out _ HP3.out).mono ?_); rintro e w3 ⟨v, rfl, rfl, hp, hg⟩; have hE := kept_box HE3.out hg (by omega); have hR3 := kept_box HR3.out hg (by omega); have c3 := cell6 hE 3 rfl; have z3 := frozen6 hE 3; have HP4 := Lib.hid (words_alloc (pset1 hp (show b ≠ w1.heap.size by omega) 3 (.int .u64 (m : Int))) (wordsO relL)); have HG4 := Lib.hid (grown_trans (grown_new (grown_trans HG3.out hg) (show w.heap.size ≤ w1.heap.size by omega) 3 (.int .u64 (m : Int))) (grown_of_below (lbox _ (wordsO relL)) (some b))); have HE4 : Hid (((w3.setCell ⟨w1.heap.size, 3, none⟩ (.int .u64 (m : Int))).alloc (wordsO relL)).heap[w1.heap.size]? = some (exO 6 k (m : Int) 0 0)) := Lib.hid (kept_alloc (heap_set1 hE 3 (.int .u64 (m : Int))) (wordsO relL)); have HR4 := Lib.hid (kept_alloc (kept_set hR3 (show w.heap.size ≠ w1.heap.size by omega) 3 (.int .u64 (m : Int))) (wordsO relL)); have HW4 : Hid (WordsAt ((w3.setCell ⟨w1.heap.size, 3, none⟩ (.int .u64 (m : Int))).alloc (wordsO relL)) w3.heap.size relL) := Lib.hid (by have := words_at (w3.setCell ⟨w1.heap.size, 3, none⟩ (.int .u64 (m : Int))) relL; rw [show (w3.setCell ⟨w1.heap.size, 3, none⟩ (.int .u64 (m : Int))).heap.size = w3.heap.size by simp [World.setCell]] at this; exact this); clear hp hg hE hR3) | (go_at_call 96; (with_reducible refine (HRS.out _).mono ?_); rintro e w4 ⟨rfl, rfl⟩) | (go_at_call 80; (with_reducible refine (HR.out _ _ _ HW4.out HP4.out).mono ?_); rintro e w5 ⟨v, rfl, rfl, hp, hg⟩; have hE := kept_box HE4.out hg (by omega); have hR5 := kept_box HR4.out hg (by omega); have c4 := cell6 hE 4 rfl; have z4 := frozen6 hE 4; have HP6 := Lib.hid (pset1 hp (show b ≠ w1.heap.size by omega) 4 (.int .i64 (r + 1))); have HG6 := Lib.hid (grown_new (grown_trans HG4.out hg) (show w.heap.size ≤ w1.heap.size by omega) 4 (.int .i64 (r + 1))); have HE6 : Hid ((w5.setCell ⟨w1.heap.size, 4, none⟩ (.int .i64 (r + 1))).heap[w1.heap.size]? = some (exO 6 k (m : Int) (r + 1) 0)) := Lib.hid (heap_set1 hE 4 (.int .i64 (r + 1))); have HR6 := Lib.hid (kept_set hR5 (show w.heap.size ≠ w1.heap.size by omega) 4 (.int .i64 (r + 1))); clear hp hg hE hR5) | (go_at_call 83; (with_reducible refine (HM.out _ HP6.out).mono ?_); intro e w7 hF; exact hF.elim))
    · show Calls _ _ _ _ (GotP TestV s w b d (.bad er p))
      have HN := Lib.hid hN
      clear hN hfw hl2 hdone
      go_enter Tryz.func137, Tryz.ntmps137
      go_wp2_with (first | (go_at_call 95; (with_reducible refine (HW.out).mono ?_); rintro e w1 ⟨rfl, rfl⟩) | (go_at_call 80; (with_reducible refine (HC.out).mono ?_); rintro e w1 ⟨v, rfl, rfl, hp, hg⟩; have HR1 := Lib.hid (kept_box hr0 hg (by omega)); have hRE := (Array.getElem?_eq_some_iff.1 HR1.out).1; have HP2 := Lib.hid (words_alloc hp (exO 6 k 18446744073709551615 0 0)); have HG2 := Lib.hid (grown_trans (grown_trans HG0.out hg) (grown_of_below (lbox w1 (exO 6 k 18446744073709551615 0 0)) (some b))); have HE2 := Lib.hid (World.alloc_heap_new w1 (exO 6 k 18446744073709551615 0 0)); have HR2 := Lib.hid (kept_alloc HR1.out (exO 6 k 18446744073709551615 0 0)); clear hp hg HR1) | (go_at_call 78; (with_reducible refine (HS.out _ HP2.out).mono ?_); rintro e w2 ⟨v, rfl, rfl, hp, hg⟩; have HP3 := Lib.hid hp; have HG3 := Lib.hid (grown_trans HG2.out hg); have HE3 := Lib.hid (kept_box HE2.out hg (by omega)); have HR3 := Lib.hid (kept_box HR2.out hg (by omega)); clear hp hg) | (go_at_call 83; (with_reducible refine (HN.out _ HP3.out).mono ?_); rintro e w3 ⟨rfl, hg⟩; have HY := Lib.hid (grown_trans HG3.out hg); clear hg))
      exact ⟨rfl, rfl, HY.out⟩
    · show Calls _ _ _ _ (GotP TestV s w b d .out)
      have HN := Lib.hid hN
      clear hN hfw hl2 hdone
      go_enter Tryz.func137, Tryz.ntmps137
      go_wp2_with (first | (go_at_call 95; (with_reducible refine (HW.out).mono ?_); rintro e w1 ⟨rfl, rfl⟩) | (go_at_call 80; (with_reducible refine (HC.out).mono ?_); rintro e w1 ⟨v, rfl, rfl, hp, hg⟩; have HR1 := Lib.hid (kept_box hr0 hg (by omega)); have hRE := (Array.getElem?_eq_some_iff.1 HR1.out).1; have HP2 := Lib.hid (words_alloc hp (exO 6 k 18446744073709551615 0 0)); have HG2 := Lib.hid (grown_trans (grown_trans HG0.out hg) (grown_of_below (lbox w1 (exO 6 k 18446744073709551615 0 0)) (some b))); have HE2 := Lib.hid (World.alloc_heap_new w1 (exO 6 k 18446744073709551615 0 0)); have HR2 := Lib.hid (kept_alloc HR1.out (exO 6 k 18446744073709551615 0 0)); clear hp hg HR1) | (go_at_call 78; (with_reducible refine (HS.out _ HP2.out).mono ?_); rintro e w2 ⟨v, rfl, rfl, hp, hg⟩; have HP3 := Lib.hid hp; have HG3 := Lib.hid (grown_trans HG2.out hg); have HE3 := Lib.hid (kept_box HE2.out hg (by omega)); have HR3 := Lib.hid (kept_box HR2.out hg (by omega)); clear hp hg) | (go_at_call 83; (with_reducible refine (HN.out _ HP3.out).mono ?_); intro e w3 hF; exact hF.elim))
  · have hS := fun (W : World) hp => pp_skip_no W b s i1 d hp ⟨#[38]⟩ ht
    rw [if_neg ht]
    obtain ⟨hR, hM⟩ := hdone i1 hl
    have hj := hl
    show Calls _ _ _ _ (GotP TestV s w b d ((relG (srcF s) i1).andThen fun r l => (numG (srcF s) l).andThen fun v e => .ok (.mk 6 [] k 18446744073709551615 r v) e))
    have HS := Lib.hid hS
    clear hS hl hdone ht
    unfold relG
    have hv2 := rel_idx (tk (srcF s) i1).text
    have hge2 := idx_ge (tk (srcF s) i1).text relL 0
    have hlen2 : relL.length = 6 := rfl
    unfold choiceG at hR
    rw [hlen2] at hR hge2
    rw [hv2]
    clear hv2
    have HRS := Lib.hid p_relSigns
    generalize idxF (tk (srcF s) i1).text relL 0 = r at *
    by_cases hn2 : r < 0
    · have hz : r + 1 = 0 := by omega
      rw [if_pos hn2] at hR
      rw [if_pos hz]
      unfold noG at hR ⊢
      generalize (tk (srcF s) i1).pos = q at hR ⊢
      show Calls _ _ _ _ (GotP TestV s w b d (.bad 61 q))
      have HR := Lib.hid hR
      clear hR hge2 hj hM hz hn2
      go_enter Tryz.func137, Tryz.ntmps137
      go_wp2_with (first | (go_at_call 95; (with_reducible refine (HW.out).mono ?_); rintro e w1 ⟨rfl, rfl⟩) | (go_at_call 80; (with_reducible refine (HC.out).mono ?_); rintro e w1 ⟨v, rfl, rfl, hp, hg⟩; have HR1 := Lib.hid (kept_box hr0 hg (by omega)); have hRE := (Array.getElem?_eq_some_iff.1 HR1.out).1; have HP2 := Lib.hid (words_alloc hp (exO 6 k 18446744073709551615 0 0)); have HG2 := Lib.hid (grown_trans (grown_trans HG0.out hg) (grown_of_below (lbox w1 (exO 6 k 18446744073709551615 0 0)) (some b))); have HE2 := Lib.hid (World.alloc_heap_new w1 (exO 6 k 18446744073709551615 0 0)); have HR2 := Lib.hid (kept_alloc HR1.out (exO 6 k 18446744073709551615 0 0)); clear hp hg HR1) | (go_at_call 78; (with_reducible refine (HS.out _ HP2.out).mono ?_); rintro e w2 ⟨rfl, rfl⟩; have HP4 := Lib.hid (words_alloc HP2.out (wordsO relL)); have HG4 := Lib.hid (grown_trans HG2.out (grown_of_below (lbox _ (wordsO relL)) (some b))); have HE4 := Lib.hid (kept_alloc HE2.out (wordsO relL)); have HR4 := Lib.hid (kept_alloc HR2.out (wordsO relL)); have HW4 : Hid (WordsAt ((w1.alloc (exO 6 k 18446744073709551615 0 0)).alloc (wordsO relL)) (w1.heap.size + 1) relL) := Lib.hid (by have := words_at (w1.alloc (exO 6 k 18446744073709551615 0 0)) relL; rw [show (w1.alloc (exO 6 k 18446744073709551615 0 0)).heap.size = w1.heap.size + 1 by simp] at this; exact this)) | (go_at_call 96; (with_reducible refine (HRS.out _).mono ?_); rintro e w4 ⟨rfl, rfl⟩) | (go_at_call 80; (with_reducible refine (HR.out _ _ _ HW4.out HP4.out).mono ?_); rintro e w5 ⟨rfl, hg⟩; have HY := Lib.hid (grown_trans HG4.out hg); clear hg))
      exact ⟨rfl, rfl, HY.out⟩
    rw [if_neg hn2] at hR
    replace hge2 : 0 ≤ r ∧ r < 6 := by omega
    rw [if_neg (show ¬ r + 1 = 0 by omega)]
    clear hn2
    by_cases hl3 : ¬ i1 + 1 < (srcF s).toks.length
    · rw [adv_no hl3] at hR ⊢
      generalize (srcF s).err = er at hR ⊢
      generalize (srcF s).place = p at hR ⊢
      show Calls _ _ _ _ (GotP TestV s w b d (.bad er p))
      have HR := Lib.hid hR
      clear hR hge2 hj hl3 hM
      go_enter Tryz.func137, Tryz.ntmps137
      go_wp2_with (first | (go_at_call 95; (with_reducible refine (HW.out).mono ?_); rintro e w1 ⟨rfl, rfl⟩) | (go_at_call 80; (with_reducible refine (HC.out).mono ?_); rintro e w1 ⟨v, rfl, rfl, hp, hg⟩; have HR1 := Lib.hid (kept_box hr0 hg (by omega)); have hRE := (Array.getElem?_eq_some_iff.1 HR1.out).1; have HP2 := Lib.hid (words_alloc hp (exO 6 k 18446744073709551615 0 0)); have HG2 := Lib.hid (grown_trans (grown_trans HG0.out hg) (grown_of_below (lbox w1 (exO 6 k 18446744073709551615 0 0)) (some b))); have HE2 := Lib.hid (World.alloc_heap_new w1 (exO 6 k 18446744073709551615 0 0)); have HR2 := Lib.hid (kept_alloc HR1.out (exO 6 k 18446744073709551615 0 0)); clear hp hg HR1) | (go_at_call 78; (with_reducible refine (HS.out _ HP2.out).mono ?_); rintro e w2 ⟨rfl, rfl⟩; have HP4 := Lib.hid (words_alloc HP2.out (wordsO relL)); have HG4 := Lib.hid (grown_trans HG2.out (grown_of_below (lbox _ (wordsO relL)) (some b))); have HE4 := Lib.hid (kept_alloc HE2.out (wordsO relL)); have HR4 := Lib.hid (kept_alloc HR2.out (wordsO relL)); have HW4 : Hid (WordsAt ((w1.alloc (exO 6 k 18446744073709551615 0 0)).alloc (wordsO relL)) (w1.heap.size + 1) relL) := Lib.hid (by have := words_at (w1.alloc (exO 6 k 18446744073709551615 0 0)) relL; rw [show (w1.alloc (exO 6 k 18446744073709551615 0 0)).heap.size = w1.heap.size + 1 by simp] at this; exact this)) | (go_at_call 96; (with_reducible refine (HRS.out _).mono ?_); rintro e w4 ⟨rfl, rfl⟩) | (go_at_call 80; (with_reducible refine (HR.out _ _ _ HW4.out HP4.out).mono ?_); rintro e w5 ⟨rfl, hg⟩; have HY := Lib.hid (grown_trans HG4.out hg); clear hg))
      exact ⟨rfl, rfl, HY.out⟩
    replace hl3 : i1 + 1 < (srcF s).toks.length := Decidable.byContradiction hl3
    rw [adv_ok hl3] at hR ⊢
    replace hM := hM hl3
    have hw : IntKind.i64.wrap (1 + r) = r + 1 := by rw [IntWalk.i64_in _ (by omega)] <;> omega
    show Calls _ _ _ _ (GotP TestV s w b d ((numG (srcF s) (i1 + 1)).andThen fun v e => .ok (.mk 6 [] k 18446744073709551615 (r + 1) v) e))
    generalize numG (srcF s) (i1 + 1) = g at hM ⊢
    have HR := Lib.hid hR
    clear hR hge2 hj hl3
    rcases g with ⟨n, o⟩ | ⟨er, p⟩ | _
    · have HM := Lib.hid hM
      clear hM
      show Calls _ _ _ _ (GotP TestV s w b d (.ok (.mk 6 [] k 18446744073709551615 (r + 1) n) o))
      go_enter Tryz.func137, Tryz.ntmps137
      go_wp2_with (first | (go_at_call 95; (with_reducible refine (HW.out).mono ?_); rintro e w1 ⟨rfl, rfl⟩) | (go_at_call 80; (with_reducible refine (HC.out).mono ?_); rintro e w1 ⟨v, rfl, rfl, hp, hg⟩; have HR1 := Lib.hid (kept_box hr0 hg (by omega)); have hRE := (Array.getElem?_eq_some_iff.1 HR1.out).1; have HP2 := Lib.hid (words_alloc hp (exO 6 k 18446744073709551615 0 0)); have HG2 := Lib.hid (grown_trans (grown_trans HG0.out hg) (grown_of_below (lbox w1 (exO 6 k 18446744073709551615 0 0)) (some b))); have HE2 := Lib.hid (World.alloc_heap_new w1 (exO 6 k 18446744073709551615 0 0)); have HR2 := Lib.hid (kept_alloc HR1.out (exO 6 k 18446744073709551615 0 0)); clear hp hg HR1) | (go_at_call 78; (with_reducible refine (HS.out _ HP2.out).mono ?_); rintro e w2 ⟨rfl, rfl⟩; have HP4 := Lib.hid (words_alloc HP2.out (wordsO relL)); have HG4 := Lib.hid (grown_trans HG2.out (grown_of_below (lbox _ (wordsO relL)) (some b))); have HE4 := Lib.hid (kept_alloc HE2.out (wordsO relL)); have HR4 := Lib.hid (kept_alloc HR2.out (wordsO relL)); have HW4 : Hid (WordsAt ((w1.alloc (exO 6 k 18446744073709551615 0 0)).alloc (wordsO relL)) (w1.heap.size + 1) relL) := Lib.hid (by have := words_at (w1.alloc (exO 6 k 18446744073709551615 0 0)) relL; rw [show (w1.alloc (exO 6 k 18446744073709551615 0 0)).heap.size = w1.heap.size + 1 by simp] at this; exact this)) | (go_at_call 96; (with_reducible refine (HRS.out _).mono ?_); rintro e w4 ⟨rfl, rfl⟩) | (go_at_call 80; (with_reducible refine (HR.out _ _ _ HW4.out HP4.out).mono ?_); rintro e w5 ⟨v, rfl, rfl, hp, hg⟩; have hE := kept_box HE4.out hg (by omega); have hR5 := kept_box HR4.out hg (by omega); have c4 := cell6 hE 4 rfl; have z4 := frozen6 hE 4; have HP6 := Lib.hid (pset1 hp (show b ≠ w1.heap.size by omega) 4 (.int .i64 (r + 1))); have HG6 := Lib.hid (grown_new (grown_trans HG4.out hg) (show w.heap.size ≤ w1.heap.size by omega) 4 (.int .i64 (r + 1))); have HE6 : Hid ((w5.setCell ⟨w1.heap.size, 4, none⟩ (.int .i64 (r + 1))).heap[w1.heap.size]? = some (exO 6 k 18446744073709551615 (r + 1) 0)) := Lib.hid (heap_set1 hE 4 (.int .i64 (r + 1))); have HR6 := Lib.hid (kept_set hR5 (show w.heap.size ≠ w1.heap.size by omega) 4 (.int .i64 (r + 1))); clear hp hg hE hR5) | (go_at_call 83; (with_reducible refine (HM.out _ HP6.out).mono ?_); rintro e w7 ⟨v, rfl, rfl, hp, hg⟩; have hE := kept_box HE6.out hg (by omega); have hR7 := kept_box HR6.out hg (by omega); have c5 := cell6 hE 5 rfl; have z5 := frozen6 hE 5; have hE8 : (w7.setCell ⟨w1.heap.size, 5, none⟩ (.int .u64 (n : Int))).heap[w1.heap.size]? = some (exO 6 k 18446744073709551615 (r + 1) (n : Int)) := heap_set1 hE 5 (.int .u64 (n : Int)); have hR8 := kept_set hR7 (show w.heap.size ≠ w1.heap.size by omega) 5 (.int .u64 (n : Int)); have e0 := cell6 hE8 0 rfl; have e1 := cell6 hE8 1 rfl; have e2 := cell6 hE8 2 rfl; have e3 := cell6 hE8 3 rfl; have e4 := cell6 hE8 4 rfl; have e5 := cell6 hE8 5 rfl; have u0 := cell6 hR8 0 rfl; have u1 := cell6 hR8 1 rfl; have u2 := cell6 hR8 2 rfl; have u3 := cell6 hR8 3 rfl; have u4 := cell6 hR8 4 rfl; have u5 := cell6 hR8 5 rfl; have y0 := frozen6 hR8 0; have y1 := frozen6 hR8 1; have y2 := frozen6 hR8 2; have y3 := frozen6 hR8 3; have y4 := frozen6 hR8 4; have y5 := frozen6 hR8 5; have HX := Lib.hid (And.intro (pset1 hp (show b ≠ w1.heap.size by omega) 5 (.int .u64 (n : Int))) (grown_new (grown_trans HG6.out hg) (show w.heap.size ≤ w1.heap.size by omega) 5 (.int .u64 (n : Int)))); clear hp hg hE hR7 hE8 hR8 HP6 HG6 HE6 HR6))
      exact bodyPost_ret (v := leafVal 6 k 18446744073709551615 (r + 1) (n : Int)) (by simp [results, Tryz.results137, go_sem, u0, u1, u2, u3, u4, u5, World.cell?_setCell_same']) rfl ⟨_, rfl, ⟨rfl, rfl⟩, pset6 HX.out.1 (by omega) _ _ _ _ _ _, gset6 HX.out.2 (Nat.le_refl _) _ _ _ _ _ _⟩
    · have HM := Lib.hid hM
      clear hM
      show Calls _ _ _ _ (GotP TestV s w b d (.bad er p))
      go_enter Tryz.func137, Tryz.ntmps137
      go_wp2_with (first | (go_at_call 95; (with_reducible refine (HW.out).mono ?_); rintro e w1 ⟨rfl, rfl⟩) | (go_at_call 80; (with_reducible refine (HC.out).mono ?_); rintro e w1 ⟨v, rfl, rfl, hp, hg⟩; have HR1 := Lib.hid (kept_box hr0 hg (by omega)); have hRE := (Array.getElem?_eq_some_iff.1 HR1.out).1; have HP2 := Lib.hid (words_alloc hp (exO 6 k 18446744073709551615 0 0)); have HG2 := Lib.hid (grown_trans (grown_trans HG0.out hg) (grown_of_below (lbox w1 (exO 6 k 18446744073709551615 0 0)) (some b))); have HE2 := Lib.hid (World.alloc_heap_new w1 (exO 6 k 18446744073709551615 0 0)); have HR2 := Lib.hid (kept_alloc HR1.out (exO 6 k 18446744073709551615 0 0)); clear hp hg HR1) | (go_at_call 78; (with_reducible refine (HS.out _ HP2.out).mono ?_); rintro e w2 ⟨rfl, rfl⟩; have HP4 := Lib.hid (words_alloc HP2.out (wordsO relL)); have HG4 := Lib.hid (grown_trans HG2.out (grown_of_below (lbox _ (wordsO relL)) (some b))); have HE4 := Lib.hid (kept_alloc HE2.out (wordsO relL)); have HR4 := Lib.hid (kept_alloc HR2.out (wordsO relL)); have HW4 : Hid (WordsAt ((w1.alloc (exO 6 k 18446744073709551615 0 0)).alloc (wordsO relL)) (w1.heap.size + 1) relL) := Lib.hid (by have := words_at (w1.alloc (exO 6 k 18446744073709551615 0 0)) relL; rw [show (w1.alloc (exO 6 k 18446744073709551615 0 0)).heap.size = w1.heap.size + 1 by simp] at this; exact this)) | (go_at_call 96; (with_reducible refine (HRS.out _).mono ?_); rintro e w4 ⟨rfl, rfl⟩) | (go_at_call 80; (with_reducible refine (HR.out _ _ _ HW4.out HP4.out).mono ?_); rintro e w5 ⟨v, rfl, rfl, hp, hg⟩; have hE := kept_box HE4.out hg (by omega); have hR5 := kept_box HR4.out hg (by omega); have c4 := cell6 hE 4 rfl; have z4 := frozen6 hE 4; have HP6 := Lib.hid (pset1 hp (show b ≠ w1.heap.size by omega) 4 (.int .i64 (r + 1))); have HG6 := Lib.hid (grown_new (grown_trans HG4.out hg) (show w.heap.size ≤ w1.heap.size by omega) 4 (.int .i64 (r + 1))); have HE6 : Hid ((w5.setCell ⟨w1.heap.size, 4, none⟩ (.int .i64 (r + 1))).heap[w1.heap.size]? = some (exO 6 k 18446744073709551615 (r + 1) 0)) := Lib.hid (heap_set1 hE 4 (.int .i64 (r + 1))); have HR6 := Lib.hid (kept_set hR5 (show w.heap.size ≠ w1.heap.size by omega) 4 (.int .i64 (r + 1))); clear hp hg hE hR5) | (go_at_call 83; (with_reducible refine (HM.out _ HP6.out).mono ?_); rintro e w7 ⟨rfl, hg⟩; have HY := Lib.hid (grown_trans HG6.out hg); clear hg))
      exact ⟨rfl, rfl, HY.out⟩
    · have HM := Lib.hid hM
      clear hM
      show Calls _ _ _ _ (GotP TestV s w b d .out)
      go_enter Tryz.func137, Tryz.ntmps137
      go_wp2_with (first | (go_at_call 95; (with_reducible refine (HW.out).mono ?_); rintro e w1 ⟨rfl, rfl⟩) | (go_at_call 80; (with_reducible refine (HC.out).mono ?_); rintro e w1 ⟨v, rfl, rfl, hp, hg⟩; have HR1 := Lib.hid (kept_box hr0 hg (by omega)); have hRE := (Array.getElem?_eq_some_iff.1 HR1.out).1; have HP2 := Lib.hid (words_alloc hp (exO 6 k 18446744073709551615 0 0)); have HG2 := Lib.hid (grown_trans (grown_trans HG0.out hg) (grown_of_below (lbox w1 (exO 6 k 18446744073709551615 0 0)) (some b))); have HE2 := Lib.hid (World.alloc_heap_new w1 (exO 6 k 18446744073709551615 0 0)); have HR2 := Lib.hid (kept_alloc HR1.out (exO 6 k 18446744073709551615 0 0)); clear hp hg HR1) | (go_at_call 78; (with_reducible refine (HS.out _ HP2.out).mono ?_); rintro e w2 ⟨rfl, rfl⟩; have HP4 := Lib.hid (words_alloc HP2.out (wordsO relL)); have HG4 := Lib.hid (grown_trans HG2.out (grown_of_below (lbox _ (wordsO relL)) (some b))); have HE4 := Lib.hid (kept_alloc HE2.out (wordsO relL)); have HR4 := Lib.hid (kept_alloc HR2.out (wordsO relL)); have HW4 : Hid (WordsAt ((w1.alloc (exO 6 k 18446744073709551615 0 0)).alloc (wordsO relL)) (w1.heap.size + 1) relL) := Lib.hid (by have := words_at (w1.alloc (exO 6 k 18446744073709551615 0 0)) relL; rw [show (w1.alloc (exO 6 k 18446744073709551615 0 0)).heap.size = w1.heap.size + 1 by simp] at this; exact this)) | (go_at_call 96; (with_reducible refine (HRS.out _).mono ?_); rintro e w4 ⟨rfl, rfl⟩) | (go_at_call 80; (with_reducible refine (HR.out _ _ _ HW4.out HP4.out).mono ?_); rintro e w5 ⟨v, rfl, rfl, hp, hg⟩; have hE := kept_box HE4.out hg (by omega); have hR5 := kept_box HR4.out hg (by omega); have c4 := cell6 hE 4 rfl; have z4 := frozen6 hE 4; have HP6 := Lib.hid (pset1 hp (show b ≠ w1.heap.size by omega) 4 (.int .i64 (r + 1))); have HG6 := Lib.hid (grown_new (grown_trans HG4.out hg) (show w.heap.size ≤ w1.heap.size by omega) 4 (.int .i64 (r + 1))); have HE6 : Hid ((w5.setCell ⟨w1.heap.size, 4, none⟩ (.int .i64 (r + 1))).heap[w1.heap.size]? = some (exO 6 k 18446744073709551615 (r + 1) 0)) := Lib.hid (heap_set1 hE 4 (.int .i64 (r + 1))); have HR6 := Lib.hid (kept_set hR5 (show w.heap.size ≠ w1.heap.size by omega) 4 (.int .i64 (r + 1))); clear hp hg hE hR5) | (go_at_call 83; (with_reducible refine (HM.out _ HP6.out).mono ?_); intro e w7 hF; exact hF.elim))
end Go.Proofs.YtgeapkjegemkeaaGreatDoor

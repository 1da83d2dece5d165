/-
  What the document's Own and Run of programs of registers answer: contracts. Conditions: those that each names.
-/
import Derived.Test.YtoajommeiocfpaaDoorMirIn
import Derived.Test.YtoajommeiocfpaaDoorMirHead
namespace Go.Proofs.YtoajommeiocfpaaDoor
open Go Go.RowKit
set_option linter.unusedSimpArgs false
set_option linter.unusedVariables false

/-- The first numbers. -/
def upL (n : Nat) : List Int := (List.range n).map fun (i : Nat) => (i : Int)
theorem upL_len (n : Nat) : (upL n).length = n := by unfold upL; rw [List.length_map, List.length_range]
theorem upL_succ (n : Nat) : izL (upL (n + 1)) = izL (upL n) ++ [.int .i64 (n : Int)] := by
  unfold izL upL; rw [List.range_succ, List.map_append, List.map_append]; rfl
theorem upL_get {n i : Nat} (h : i < n) : (upL n).getD i 0 = (i : Int) := by
  unfold upL
  rw [List.getD_eq_getElem?_getD, List.getElem?_map, List.getElem?_range h]; rfl
set_option maxHeartbeats 2000000 in
theorem r_Own (n : Nat) (hn : n ≤ 100000) (w : World) : Calls Tryd.prog 35 #[.int .i64 (n : Int)] w fun e w' => ∃ A c, e = .returned (.slice A n c) ∧ w'.ownsRow w.heap.size 3 1 (.slice A n c) n (izL (upL n)) ∧ Below w.heap.size w w' := by
  go_enter Tryd.func35, Tryd.ntmps35
  go_wp2
  go_loopw [3, 4] (fun v i wr => ∃ k : Nat, k ≤ n ∧ i = .int .i64 (k : Int) ∧ wr.ownsRow w.heap.size 3 1 v k (izL (upL k)) ∧ Below w.heap.size w wr) (fun _ i _ => n - (intOf i).toNat)
  case atStart => exact ⟨0, Nat.zero_le _, rfl, World.ownsRow_nil _ _ _ _, Below.refl _ _⟩
  case round =>
    obtain ⟨k, hk, rfl, ho, hb⟩ := hrel
    obtain ⟨A, c, rfl⟩ := own_formM ho
    have HO := Lib.hid ho
    have HB := Lib.hid hb
    clear ho hb
    by_cases hlt : k < n
    · have hlt' : (k : Int) < (n : Int) := by omega
      have HA := Lib.hid (And.intro (own_below HO.out (lboxM wr (.cells #[.int .i64 (k : Int)] 3))) (And.intro (onM HB.out (lboxM wr (.cells #[.int .i64 (k : Int)] 3))) (int_newM wr (.int .i64 (k : Int)) 3)))
      go_wp2_with (at_builtin; refine wpList_append_own _ rfl (.tmp 10) (.tmp 12) 54 rfl 3 (.int .i64 0) 1 8 Tryd.underlying54 info_intM rfl (by decide) w.heap.size (.slice A k c) k (izL (upL k)) rfl HA.out.1 ⟨wr.heap.size, 0, none⟩ 1 1 [.int .i64 (k : Int)] rfl rfl HA.out.2.2 (int_oneM _ _) (by unfold maxLen; omega) (by omega) HA.out.2.1.size ?_; intro v' w' ho' hg' hv'; have HN := Lib.hid (And.intro ho' (below_own HA.out.2.1 HA.out.1 hg' (Nat.le_refl _))); clear ho' hg' hv')
      exact ⟨⟨k + 1, by omega, by go_num, by rw [upL_succ]; exact HN.out.1, HN.out.2⟩, by simp [intOf]; omega⟩
    · obtain rfl : k = n := by omega
      go_wp2
      go_ret
      exact ⟨A, c, rfl, HO.out, HB.out⟩
set_option maxHeartbeats 8000000 in
set_option maxRecDepth 100000 in
theorem r_RunM (regs : Int) (A : Option Addr) (n cap : Nat) (q : Nat → Irx) (da : Option Addr) (dlen dcap : Nat) (z : Nat → Int) (w : World) (h : IrAt w A n q) (hd : DatAt w da dlen z) :
    Calls Tryd.prog 18 #[mirV regs A n cap, .slice da dlen dcap] w (RunMP regs q n dlen z w) := by
  have HF := Lib.hid (FM.first (regs := regs) (cap := cap) h)
  have HD := Lib.hid (hd.below (lboxM w (mirO regs A n cap)))
  have HC := Lib.hid (r_ChkM regs A n cap q _ HF.out.1)
  unfold ChkMP at HC
  unfold RunMP
  clear h hd
  obtain ⟨E, hE⟩ : ∃ E, runR regs q n dlen (wordZ z) = E := ⟨_, rfl⟩
  rw [hE]
  by_cases he : chkE regs q n = 0
  · have HR := Lib.hid (chk_is.1 he)
    have hp0 := chkP_zero HR.out
    rw [he, hp0] at HC
    by_cases hl : dlen = 64
    · subst hl
      have HE := Lib.hid (hE.symm.trans (run_right he))
      clear hE he hp0
      obtain ⟨db, doff, rfl, hdb⟩ := HD.out rfl
      have HDB := Lib.hid hdb
      clear hdb HD
      obtain ⟨nr, hnr, rfl⟩ : ∃ m : Nat, m ≤ 64 ∧ regs = (m : Int) := ⟨regs.toNat, by have := HR.out.rg; omega, by have := HR.out.rg; omega⟩
      go_enter Tryd.func18, Tryd.ntmps18
      go_wp2_with (go_at_call 26; (with_reducible refine HC.out.mono ?_); rintro e X ⟨rfl, hB⟩; have HF2 := Lib.hid (And.intro (HF.out.up hB) (HDB.out.below hB HDB.out.1)); clear hB)
      refine wp_region_held_drew (S := fun W' => Below X.heap.size X W') (by kernel_rfl) (Below.refl X.heap.size X).drew (fun hHeld => ?_)
      have HY := Lib.hid ((Below.refl X.heap.size X).drew)
      generalize X.drew = Y at HY hHeld ⊢
      refine wpAnyH_take (i := 0) (v := ?_) rfl (by kernel_rfl) (by kernel_rfl) (by kernel_rfl) (fun _ _ _ h => h) (Or.inl ⟨by rfl, ?_⟩) (by assumption) ?_
      rotate_left
      · intro wS hSw
        (have i0 := keepM HF2.out.1.2.2 hSw; have a0 := cellM i0 0 rfl; have a1 := cellM i0 1 rfl; clear hSw i0)
        go_simp
        all_goals with_reducible rfl
      (try simp only [List.getElem_toArray, List.getElem_cons_zero, List.getElem_cons_succ, Act.put, List.setIfInBounds_toArray, List.set_cons_zero, List.set_cons_succ])
      refine wpAnyH_take (i := 1) (v := ?_) rfl (by kernel_rfl) (by kernel_rfl) (by kernel_rfl) (fun _ _ _ h => h) (Or.inl ⟨by rfl, ?_⟩) (by assumption) ?_
      rotate_left
      · intro wS hSw
        (have i0 := keepM HF2.out.1.2.2 hSw; have a0 := cellM i0 0 rfl; have a1 := cellM i0 1 rfl; clear hSw i0)
        go_simp
        all_goals with_reducible rfl
      (try simp only [List.getElem_toArray, List.getElem_cons_zero, List.getElem_cons_succ, Act.put, List.setIfInBounds_toArray, List.set_cons_zero, List.set_cons_succ])
      refine wpAnyH_take (i := 2) (v := ?_) rfl (by kernel_rfl) (by kernel_rfl) (by kernel_rfl) (fun _ _ _ h => h) (Or.inl ⟨by rfl, ?_⟩) (by assumption) ?_
      rotate_left
      · intro wS hSw
        (have i0 := keepM HF2.out.1.2.2 hSw; have a0 := cellM i0 0 rfl; have a1 := cellM i0 1 rfl; clear hSw i0)
        go_simp
        all_goals with_reducible rfl
      (try simp only [List.getElem_toArray, List.getElem_cons_zero, List.getElem_cons_succ, Act.put, List.setIfInBounds_toArray, List.set_cons_zero, List.set_cons_succ])
      refine wpAnyH_take (i := 4) (v := ?_) rfl (by kernel_rfl) (by kernel_rfl) (by kernel_rfl) (fun _ _ _ h => h) (Or.inl ⟨by rfl, ?_⟩) (by assumption) ?_
      rotate_left
      · intro wS hSw
        (have i0 := keepM HF2.out.1.2.2 hSw; have a0 := cellM i0 0 rfl; have a1 := cellM i0 1 rfl; clear hSw i0)
        go_simp
        all_goals with_reducible rfl
      (try simp only [List.getElem_toArray, List.getElem_cons_zero, List.getElem_cons_succ, Act.put, List.setIfInBounds_toArray, List.set_cons_zero, List.set_cons_succ])
      refine wpAnyH_take (i := 5) (v := ?_) rfl (by kernel_rfl) (by kernel_rfl) (by kernel_rfl) (fun _ _ _ h => h) (Or.inl ⟨by rfl, ?_⟩) (by assumption) ?_
      rotate_left
      · intro wS hSw
        (have i0 := keepM HF2.out.1.2.2 hSw; have a0 := cellM i0 0 rfl; have a1 := cellM i0 1 rfl; clear hSw i0)
        go_simp
        all_goals with_reducible rfl
      (try simp only [List.getElem_toArray, List.getElem_cons_zero, List.getElem_cons_succ, Act.put, List.setIfInBounds_toArray, List.set_cons_zero, List.set_cons_succ])
      refine wpAnyH_take (i := 6) (v := ?_) rfl (by kernel_rfl) (by kernel_rfl) (by kernel_rfl) (fun _ _ _ h => h) (Or.inl ⟨by rfl, ?_⟩) (by assumption) ?_
      rotate_left
      · intro wS hSw
        (have i0 := keepM HF2.out.1.2.2 hSw; have a0 := cellM i0 0 rfl; have a1 := cellM i0 1 rfl; clear hSw i0)
        go_simp
        all_goals with_reducible rfl
      (try simp only [List.getElem_toArray, List.getElem_cons_zero, List.getElem_cons_succ, Act.put, List.setIfInBounds_toArray, List.set_cons_zero, List.set_cons_succ])
      refine held_one (i := 3) (by kernel_rfl) rfl (fun K hK => ?_)
      go_simp
      go_at_call 35
      refine (r_Own nr (by omega) _).mono ?_
      rintro e w4 ⟨Ah, ch, rfl, ho, hb4⟩
      have hb5 := onM HY.out hb4
      refine hK.out _ _ hb5 (fun hH1 => ?_)
      have HI : Hid (InP w4 nr A n q Ah (fun i => i) nr db doff z ∧ Below X.heap.size X w4) := Lib.hid ⟨⟨HF2.out.1.1.below hb5, HR.out, own_holdsM ho (fun i hi => by rw [izL_get (by rw [upL_len]; exact hi), upL_get hi]), fun i hi => hi, by omega, HF2.out.2.below hb5 HF2.out.2.1⟩, hb5⟩
      clear hK K hHeld ho hb4 hb5
      (try simp only [Act.put, List.setIfInBounds_toArray, List.set_cons_zero, List.set_cons_succ, List.getElem_toArray, List.getElem_cons_zero, List.getElem_cons_succ])
      refine held_one (i := 7) (by kernel_rfl) rfl (fun K hK => ?_)
      go_simp
      go_at_call 34
      refine (r_In w4 nr A n cap q Ah ch (fun i => i) nr db doff dcap z HI.out.1).mono ?_
      rintro e w5 ⟨rfl, hb6⟩
      have hb7 := onM HI.out.2 hb6
      refine hK.out _ _ hb7 (fun hH2 => ?_)
      have HZ := Lib.hid (onM HF2.out.1.2.1 hb7)
      clear hK K hH1 hb6 hb7
      (try simp only [Act.put, List.setIfInBounds_toArray, List.set_cons_zero, List.set_cons_succ, List.getElem_toArray, List.getElem_cons_zero, List.getElem_cons_succ])
      rw [← HE.out]
      refine wpAnyH_take (i := 8) (v := ?_) rfl (by kernel_rfl) (by kernel_rfl) (by kernel_rfl) (fun _ _ _ h => h) (Or.inl ⟨by rfl, ?_⟩) (by assumption) ?_
      rotate_left
      · intro wS hSw
        (skip)
        go_simp
        all_goals with_reducible rfl
      (try simp only [List.getElem_toArray, List.getElem_cons_zero, List.getElem_cons_succ, Act.put, List.setIfInBounds_toArray, List.set_cons_zero, List.set_cons_succ])
      refine wpAnyH_take (i := 9) (v := ?_) rfl (by kernel_rfl) (by kernel_rfl) (by kernel_rfl) (fun _ _ _ h => h) (Or.inl ⟨by rfl, ?_⟩) (by assumption) ?_
      rotate_left
      · intro wS hSw
        (skip)
        go_simp
        all_goals with_reducible rfl
      (try simp only [List.getElem_toArray, List.getElem_cons_zero, List.getElem_cons_succ, Act.put, List.setIfInBounds_toArray, List.set_cons_zero, List.set_cons_succ])
      refine wpAnyH_take (i := 10) (v := ?_) rfl (by kernel_rfl) (by kernel_rfl) (by kernel_rfl) (fun _ _ _ h => h) (Or.inl ⟨by rfl, ?_⟩) (by assumption) ?_
      rotate_left
      · intro wS hSw
        (skip)
        go_simp
        all_goals with_reducible rfl
      (try simp only [List.getElem_toArray, List.getElem_cons_zero, List.getElem_cons_succ, Act.put, List.setIfInBounds_toArray, List.set_cons_zero, List.set_cons_succ])
      refine wpAnyH_take (i := 11) (v := ?_) rfl (by kernel_rfl) (by kernel_rfl) (by kernel_rfl) (fun _ _ _ h => h) (Or.inl ⟨by rfl, ?_⟩) (by assumption) ?_
      rotate_left
      · intro wS hSw
        (skip)
        go_simp
        all_goals with_reducible rfl
      (try simp only [List.getElem_toArray, List.getElem_cons_zero, List.getElem_cons_succ, Act.put, List.setIfInBounds_toArray, List.set_cons_zero, List.set_cons_succ])
      refine wpAnyH_take (i := 12) (v := ?_) rfl (by kernel_rfl) (by kernel_rfl) (by kernel_rfl) (fun _ _ _ h => h) (Or.inl ⟨by rfl, ?_⟩) (by assumption) ?_
      rotate_left
      · intro wS hSw
        (skip)
        go_simp
        all_goals with_reducible rfl
      (try simp only [List.getElem_toArray, List.getElem_cons_zero, List.getElem_cons_succ, Act.put, List.setIfInBounds_toArray, List.set_cons_zero, List.set_cons_succ])
      refine wpAnyH_take (i := 13) (v := ?_) rfl (by kernel_rfl) (by kernel_rfl) (by kernel_rfl) (fun _ _ _ h => h) (Or.inl ⟨by rfl, ?_⟩) (by assumption) ?_
      rotate_left
      · intro wS hSw
        (skip)
        go_simp
        all_goals with_reducible rfl
      (try simp only [List.getElem_toArray, List.getElem_cons_zero, List.getElem_cons_succ, Act.put, List.setIfInBounds_toArray, List.set_cons_zero, List.set_cons_succ])
      refine wpAnyH_take (i := 14) (v := ?_) rfl (by kernel_rfl) (by kernel_rfl) (by kernel_rfl) (fun _ _ _ h => h) (Or.inl ⟨by rfl, ?_⟩) (by assumption) ?_
      rotate_left
      · intro wS hSw
        (skip)
        go_simp
        all_goals with_reducible rfl
      (try simp only [List.getElem_toArray, List.getElem_cons_zero, List.getElem_cons_succ, Act.put, List.setIfInBounds_toArray, List.set_cons_zero, List.set_cons_succ])
      refine wpAnyH_take (i := 15) (v := ?_) rfl (by kernel_rfl) (by kernel_rfl) (by kernel_rfl) (fun _ _ _ h => h) (Or.inl ⟨by rfl, ?_⟩) (by assumption) ?_
      rotate_left
      · intro wS hSw
        (skip)
        go_simp
        all_goals with_reducible rfl
      (try simp only [List.getElem_toArray, List.getElem_cons_zero, List.getElem_cons_succ, Act.put, List.setIfInBounds_toArray, List.set_cons_zero, List.set_cons_succ])
      refine wpAnyH_done (by kernel_rfl) ?_ _
      go_wp2
      (try simp only [Exit.inBlock, Exit.then])
      refine bodyPost_ret (results_tmp4M rfl _ _ _) rfl ?_
      exact ⟨rfl, HZ.out⟩
    · have HE := Lib.hid (hE.symm.trans (run_short he hl))
      have hl' : ¬ (dlen : Int) = 64 := by omega
      have hl2 : ((dlen : Int) != 64) = true := bne_iff_ne.2 hl'
      clear hE he hp0 hl
      go_enter Tryd.func18, Tryd.ntmps18
      go_wp2_with (go_at_call 26; (with_reducible refine HC.out.mono ?_); rintro e w2 ⟨rfl, hB⟩; have HF2 := Lib.hid (HF.out.up hB); clear hB)
      (try simp only [Exit.inBlock, Exit.then])
      refine bodyPost_ret (results_tmp4M rfl _ _ _) rfl ?_
      exact ⟨by rw [HE.out]; rfl, HF2.out.2.1⟩
  · have HE := Lib.hid (hE.symm.trans (run_wrong he))
    have he' : (chkE regs q n != 0) = true := bne_iff_ne.2 he
    clear hE
    generalize chkE regs q n = ee at HC HE he he'
    generalize chkP regs q n = pp at HC HE
    go_enter Tryd.func18, Tryd.ntmps18
    go_wp2_with (go_at_call 26; (with_reducible refine HC.out.mono ?_); rintro e w2 ⟨rfl, hB⟩; have HF2 := Lib.hid (HF.out.up hB); clear hB)
    (try simp only [Exit.inBlock, Exit.then])
    refine bodyPost_ret (results_tmp4M rfl _ _ _) rfl ?_
    exact ⟨by rw [HE.out]; rfl, HF2.out.2.1⟩
end Go.Proofs.YtoajommeiocfpaaDoor

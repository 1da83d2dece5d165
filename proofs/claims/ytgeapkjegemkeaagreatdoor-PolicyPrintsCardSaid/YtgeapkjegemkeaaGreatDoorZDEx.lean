/-
  The document reads expressions whole: contracts. Conditions: those that each names.
-/
import Derived.Test.YtgeapkjegemkeaaGreatDoorPolDAll
import Derived.Test.YtgeapkjegemkeaaGreatDoorPolPure
import Derived.Test.YtgeapkjegemkeaaGreatDoorLexToks
import Derived.Test.YtgeapkjegemkeaaGreatDoorPPolParse
namespace Go.Proofs.YtgeapkjegemkeaaGreatDoor
open Go Go.RowKit
set_option linter.unusedSimpArgs false
set_option linter.unusedVariables false

theorem own_tok6 {w : World} {base : Nat} {v : Value} {l : List Nx} (h : w.ownsRow base 77 4 v l.length (tksC l)) : ∃ A cap, v = .slice A l.length cap ∧ TokAt w A l.length (fun i => l.getD i noT) ∧ (0 < l.length → ∃ b o, A = some ⟨b, o, none⟩ ∧ b < w.heap.size) := by
  obtain ⟨A, cap, rfl, ht⟩ := own_tok h
  refine ⟨A, cap, rfl, ht, fun hn => ?_⟩
  obtain ⟨b, o, e, hl, _⟩ := ht hn
  exact ⟨b, o, e, hl⟩
/-- What reader leaves: a reader at the text's start. -/
def ReaderP (s : ByteArray) (w : World) (e : Ending) (w' : World) : Prop :=
  ∃ b A cap, e = .returned (.pointer (some ⟨b, 0, none⟩)) ∧ RdAt w' b A cap (srcF s) ⟨0, 0, 0, 0⟩ ∧ Below w.heap.size w w' ∧ w.heap.size ≤ b
set_option maxHeartbeats 2000000 in
set_option maxRecDepth 100000 in
theorem rd6_reader (s : ByteArray) (w : World) (hm : s.size ≤ maxLen) (hs : (srcF s).toks.length ≤ 65537) : Calls Tryz.prog 34 #[.string s] w (ReaderP s w) := by
  have HT := Lib.hid (ref_Tokens (s := s) (w := w) hm)
  have HS := Lib.hid hs
  clear hs
  go_enter Tryz.func34, Tryz.ntmps34
  go_wp2_with (first | (go_at_call 70; (with_reducible refine HT.out.mono ?_); rintro e w1 ⟨v, rfl, ho, hb⟩; obtain ⟨A, cap, rfl, ht, hl⟩ := own_tok6 ho; have H1 := Lib.hid (And.intro ht (And.intro hl hb)); clear ho hb ht hl))
  obtain ⟨ht, hl, hb⟩ := H1.out
  exact bodyPost_ret (v := .pointer (some ⟨w1.heap.size, 0, none⟩)) (by simp [results, Tryz.results34, go_sem]) rfl ⟨_, A, cap, rfl, ⟨World.rowIs_alloc w1 _ 82 (rdV A cap (srcF s) ⟨0, 0, 0, 0⟩) (lt_cases7 rfl rfl rfl rfl rfl rfl rfl), ht.below (lbox w1 _), hl, HS.out⟩, hb.trans ((lbox w1 _).mono hb.size), hb.size⟩
end Go.Proofs.YtgeapkjegemkeaaGreatDoor
namespace Go.Proofs.YtgeapkjegemkeaaGreatDoor
open Go Go.RowKit
set_option linter.unusedSimpArgs false
set_option linter.unusedVariables false

set_option maxHeartbeats 2000000 in
set_option maxRecDepth 100000 in
theorem rd6_ParseExpr_ok (s : ByteArray) (w : World) (hm : s.size ≤ maxLen) (n : Nat) (x : Ex) (r1 : Rd) (h1 : exprN (srcF s) n ⟨0, 0, 0, 0⟩ = some (x, r1)) (hat : r1.at_ ≤ 1000000) (hok : (r1.kindR (srcF s) 1).err = 0) (j : Nat) :
    Calls Tryz.prog 15 #[.string s] w (ParseP (ExP w.heap.size) (leafVal 0 0 0 0 0) w (.ok x j)) := by
  have HR0 := Lib.hid (World.alloc_heap_new w (exO 0 0 0 0 0))
  have s0 : (w.alloc (exO 0 0 0 0 0)).heap.size = w.heap.size + 1 := by simp
  have HD := Lib.hid (fun W => rd6_reader s W hm (src_small s))
  have HE := Lib.hid (fun W b A cap hp => rd6_exprN (S := srcF s) n W b A cap ⟨0, 0, 0, 0⟩ (x, r1) ⟨Nat.zero_le _, fun _ => Nat.zero_le _⟩ (Int.le_refl _) (by decide) hp h1)
  have HK := Lib.hid (fun W b A cap hp => rd6_kind W b A cap (srcF s) r1 hp 1 hat)
  have HO := Lib.hid hok
  clear h1 hat hok
  generalize r1.kindR (srcF s) 1 = r2 at HK HO
  generalize r1.kindT (srcF s) 1 = q2 at HK
  go_enter Tryz.func15, Tryz.ntmps15
  go_wp2_with (first
    | (go_at_call 36; (with_reducible refine (HK.out _ _ _ _ H2.out.1).mono ?_); rintro e w3 ⟨rfl, hr, hg3⟩; have c5 : w3.cell? ⟨b, 5, none⟩ = some (.int .i64 0) := (World.rowIs.cell hr.row (i := 5) (by decide)).trans (by show some (Value.int .i64 r2.err) = _; rw [HO.out]); have hx3 := (H2.out.2.1).keep (w' := w3) (G := fun k => w1.heap.size ≤ k) hg3.size (fun k hk => hk) (fun k hk hl => hg3.block k hl (fun e => by injection e with e; have := (H1.out.1).row.lt; omega)); have hRw := kept_box H2.out.2.2.1 hg3 (by have := H1.out.2.2; omega); have hEw := kept_box H2.out.2.2.2.1 hg3 (by have := H2.out.2.2.2.2.2; omega); have hlw : w.heap.size < w3.heap.size := (Array.getElem?_eq_some_iff.1 hRw).1; have hle : w2.heap.size < w3.heap.size := (Array.getElem?_eq_some_iff.1 hEw).1; have u0 := cell6 hRw 0 rfl; have u1 := cell6 hRw 1 rfl; have u2 := cell6 hRw 2 rfl; have u3 := cell6 hRw 3 rfl; have u4 := cell6 hRw 4 rfl; have u5 := cell6 hRw 5 rfl; have y0 := frozen6 hRw 0; have y1 := frozen6 hRw 1; have y2 := frozen6 hRw 2; have y3 := frozen6 hRw 3; have y4 := frozen6 hRw 4; have y5 := frozen6 hRw 5; have m0 := cell6 hEw 0 rfl; have m1 := cell6 hEw 1 rfl; have m2 := cell6 hEw 2 rfl; have m3 := cell6 hEw 3 rfl; have m4 := cell6 hEw 4 rfl; have m5 := cell6 hEw 5 rfl; have H3 := Lib.hid (And.intro hx3 (below_grow H2.out.2.2.2.2.1 hg3 (by have := H1.out.2.2; omega) (by have := H2.out.2.2.2.2.1.size; omega))); clear hr hg3 hx3 hRw hEw)
    | (go_at_call 42; (with_reducible refine (HE.out _ _ _ _ H1.out.1).mono ?_); rintro e w2 ⟨A', c', rfl, hx, hp, hg⟩; have hb0 := below_grow H1.out.2.1 hg (H1.out.2.2) (by have := H1.out.2.1.size; omega); have hRb := kept_box ((H1.out.2.1.block w.heap.size (by omega)).trans HR0.out) hg (by have := H1.out.2.2; omega); have H2 := Lib.hid (show RdAt (w2.alloc (exCell x A' c')) b A cap (srcF s) r1 ∧ ExIn (w2.alloc (exCell x A' c')) (fun k => w1.heap.size ≤ k) x A' c' ∧ (w2.alloc (exCell x A' c')).heap[w.heap.size]? = some (exO 0 0 0 0 0) ∧ (w2.alloc (exCell x A' c')).heap[w2.heap.size]? = some (exCell x A' c') ∧ Below w.heap.size w (w2.alloc (exCell x A' c')) ∧ b < w2.heap.size from ⟨hp.below (lbox w2 _), hx.keep (by simp) (fun k hk => hk) (fun k hk hl => Below.heap_alloc w2 _ k hl), kept_alloc hRb _, World.alloc_heap_new w2 _, (((lbox w (exO 0 0 0 0 0)).trans (hb0.mono (by omega))).trans ((lbox w2 _).mono (by have := hb0.size; omega))), hp.row.lt⟩); clear hx hp hg hb0 hRb)
    | (go_at_call 34; (with_reducible refine (HD.out _).mono ?_); rintro e w1 ⟨b, A, cap, rfl, hp, hb, hlo⟩; have H1 := Lib.hid (show RdAt w1 b A cap (srcF s) ⟨0, 0, 0, 0⟩ ∧ Below (w.heap.size + 1) (w.alloc (exO 0 0 0 0 0)) w1 ∧ w.heap.size + 1 ≤ b from ⟨hp, by rw [← s0]; exact hb, by rw [← s0]; exact hlo⟩); clear hp hb hlo))
  exact bodyPost_ret (v := .tuple #[exV x A' c', .int .i64 0, .int .i64 0]) (by simp [results, Tryz.results15, go_sem, u0, u1, u2, u3, u4, u5, World.cell?_setCell_same']) rfl ⟨_, rfl, ⟨A', c', rfl, (ex_set6 H3.out.1 (R := w.heap.size) (fun k hk => by have := H1.out.2.1.size; omega) _ _ _ _ _ _).keep (Nat.le_refl _) (fun k hk => by have := H1.out.2.1.size; omega) (fun _ _ _ => rfl)⟩, (((((H3.out.2.setCell (p := ⟨w.heap.size, 0, none⟩) (Nat.le_refl _) _).setCell (p := ⟨w.heap.size, 1, none⟩) (Nat.le_refl _) _).setCell (p := ⟨w.heap.size, 2, none⟩) (Nat.le_refl _) _).setCell (p := ⟨w.heap.size, 3, none⟩) (Nat.le_refl _) _).setCell (p := ⟨w.heap.size, 4, none⟩) (Nat.le_refl _) _).setCell (p := ⟨w.heap.size, 5, none⟩) (Nat.le_refl _) _⟩
set_option maxHeartbeats 2000000 in
set_option maxRecDepth 100000 in
theorem rd6_ParseExpr_bad (s : ByteArray) (w : World) (hm : s.size ≤ maxLen) (n : Nat) (x : Ex) (r1 : Rd) (h1 : exprN (srcF s) n ⟨0, 0, 0, 0⟩ = some (x, r1)) (hat : r1.at_ ≤ 1000000) (hok : (r1.kindR (srcF s) 1).err ≠ 0) :
    Calls Tryz.prog 15 #[.string s] w (ParseP (ExP w.heap.size) (leafVal 0 0 0 0 0) w (.bad (r1.kindR (srcF s) 1).err (r1.kindR (srcF s) 1).bad)) := by
  have HR0 := Lib.hid (World.alloc_heap_new w (exO 0 0 0 0 0))
  have s0 : (w.alloc (exO 0 0 0 0 0)).heap.size = w.heap.size + 1 := by simp
  have HD := Lib.hid (fun W => rd6_reader s W hm (src_small s))
  have HE := Lib.hid (fun W b A cap hp => rd6_exprN (S := srcF s) n W b A cap ⟨0, 0, 0, 0⟩ (x, r1) ⟨Nat.zero_le _, fun _ => Nat.zero_le _⟩ (Int.le_refl _) (by decide) hp h1)
  have HK := Lib.hid (fun W b A cap hp => rd6_kind W b A cap (srcF s) r1 hp 1 hat)
  have HO := Lib.hid hok
  clear h1 hat hok
  generalize r1.kindR (srcF s) 1 = r2 at HK HO ⊢
  have hne : (r2.err != 0) = true := by simpa using HO.out
  generalize r1.kindT (srcF s) 1 = q2 at HK
  go_enter Tryz.func15, Tryz.ntmps15
  go_wp2_with (first
    | (go_at_call 36; (with_reducible refine (HK.out _ _ _ _ H2.out.1).mono ?_); rintro e w3 ⟨rfl, hr, hg3⟩; have c5 : w3.cell? ⟨b, 5, none⟩ = some (.int .i64 r2.err) := World.rowIs.cell hr.row (i := 5) (by decide); have c6 : w3.cell? ⟨b, 6, none⟩ = some (.int .i64 (r2.bad : Int)) := World.rowIs.cell hr.row (i := 6) (by decide); have hx3 := (H2.out.2.1).keep (w' := w3) (G := fun k => w1.heap.size ≤ k) hg3.size (fun k hk => hk) (fun k hk hl => hg3.block k hl (fun e => by injection e with e; have := (H1.out.1).row.lt; omega)); have hRw := kept_box H2.out.2.2.1 hg3 (by have := H1.out.2.2; omega); have hEw := kept_box H2.out.2.2.2.1 hg3 (by have := H2.out.2.2.2.2.2; omega); have hlw : w.heap.size < w3.heap.size := (Array.getElem?_eq_some_iff.1 hRw).1; have hle : w2.heap.size < w3.heap.size := (Array.getElem?_eq_some_iff.1 hEw).1; have u0 := cell6 hRw 0 rfl; have u1 := cell6 hRw 1 rfl; have u2 := cell6 hRw 2 rfl; have u3 := cell6 hRw 3 rfl; have u4 := cell6 hRw 4 rfl; have u5 := cell6 hRw 5 rfl; have y0 := frozen6 hRw 0; have y1 := frozen6 hRw 1; have y2 := frozen6 hRw 2; have y3 := frozen6 hRw 3; have y4 := frozen6 hRw 4; have y5 := frozen6 hRw 5; have m0 := cell6 hEw 0 rfl; have m1 := cell6 hEw 1 rfl; have m2 := cell6 hEw 2 rfl; have m3 := cell6 hEw 3 rfl; have m4 := cell6 hEw 4 rfl; have m5 := cell6 hEw 5 rfl; have H3 := Lib.hid (And.intro hx3 (below_grow H2.out.2.2.2.2.1 hg3 (by have := H1.out.2.2; omega) (by have := H2.out.2.2.2.2.1.size; omega))); have H4 := Lib.hid (And.intro hr.row hRw); clear hr hg3 hx3 hRw hEw)
    | (go_at_call 42; (with_reducible refine (HE.out _ _ _ _ H1.out.1).mono ?_); rintro e w2 ⟨A', c', rfl, hx, hp, hg⟩; have hb0 := below_grow H1.out.2.1 hg (H1.out.2.2) (by have := H1.out.2.1.size; omega); have hRb := kept_box ((H1.out.2.1.block w.heap.size (by omega)).trans HR0.out) hg (by have := H1.out.2.2; omega); have H2 := Lib.hid (show RdAt (w2.alloc (exCell x A' c')) b A cap (srcF s) r1 ∧ ExIn (w2.alloc (exCell x A' c')) (fun k => w1.heap.size ≤ k) x A' c' ∧ (w2.alloc (exCell x A' c')).heap[w.heap.size]? = some (exO 0 0 0 0 0) ∧ (w2.alloc (exCell x A' c')).heap[w2.heap.size]? = some (exCell x A' c') ∧ Below w.heap.size w (w2.alloc (exCell x A' c')) ∧ b < w2.heap.size from ⟨hp.below (lbox w2 _), hx.keep (by simp) (fun k hk => hk) (fun k hk hl => Below.heap_alloc w2 _ k hl), kept_alloc hRb _, World.alloc_heap_new w2 _, (((lbox w (exO 0 0 0 0 0)).trans (hb0.mono (by omega))).trans ((lbox w2 _).mono (by have := hb0.size; omega))), hp.row.lt⟩); clear hx hp hg hb0 hRb)
    | (go_at_call 34; (with_reducible refine (HD.out _).mono ?_); rintro e w1 ⟨b, A, cap, rfl, hp, hb, hlo⟩; have H1 := Lib.hid (show RdAt w1 b A cap (srcF s) ⟨0, 0, 0, 0⟩ ∧ Below (w.heap.size + 1) (w.alloc (exO 0 0 0 0 0)) w1 ∧ w.heap.size + 1 ≤ b from ⟨hp, by rw [← s0]; exact hb, by rw [← s0]; exact hlo⟩); clear hp hb hlo))
  refine wp_region_held_drew (S := fun W' => W'.rowIs b 82 7 (rdV A cap (srcF s) r2)) (by kernel_rfl) H4.out.1 (fun hHeld => ?_)
  have H5 : Hid (w3.drew.rowIs b 82 7 (rdV A cap (srcF s) r2) ∧ w3.drew.heap[w.heap.size]? = some (exO 0 0 0 0 0) ∧ Below w.heap.size w w3.drew) := Lib.hid ⟨H4.out.1, H4.out.2, below_drawn H3.out.2 1⟩
  have hlY : w.heap.size < w3.drew.heap.size := hlw
  have hbR : b ≠ w.heap.size := by have := H1.out.2.2; omega
  clear c5 c6 u0 u1 u2 u3 u4 u5 y0 y1 y2 y3 y4 y5 m0 m1 m2 m3 m4 m5 hle hlw H3 H4 H2 H1
  generalize w3.drew = Y at H5 hlY ⊢
  have h6 : Y.rowIs b 82 7 (rdV A cap (srcF s) r2) := H5.out.1
  have u0 := cell6 H5.out.2.1 0 rfl
  have u1 := cell6 H5.out.2.1 1 rfl
  have u2 := cell6 H5.out.2.1 2 rfl
  have u3 := cell6 H5.out.2.1 3 rfl
  have u4 := cell6 H5.out.2.1 4 rfl
  have u5 := cell6 H5.out.2.1 5 rfl
  have y0 := frozen6 H5.out.2.1 0
  have y1 := frozen6 H5.out.2.1 1
  have y2 := frozen6 H5.out.2.1 2
  have y3 := frozen6 H5.out.2.1 3
  have y4 := frozen6 H5.out.2.1 4
  have y5 := frozen6 H5.out.2.1 5
  refine wpAnyH_take (i := 0) (v := ?_) rfl (by kernel_rfl) (by kernel_rfl) (by kernel_rfl) (fun _ _ _ h => h) (Or.inl ⟨by rfl, ?_⟩) (by assumption) ?_
  rotate_left
  · intro wS hSw
    (have i5 : wS.cell? ⟨b, 5, none⟩ = some (.int .i64 r2.err) := World.rowIs.cell hSw (i := 5) (by decide); have i6 : wS.cell? ⟨b, 6, none⟩ = some (.int .i64 (r2.bad : Int)) := World.rowIs.cell hSw (i := 6) (by decide))
    go_simp
    all_goals with_reducible rfl
  (try simp only [List.getElem_toArray, List.getElem_cons_zero, List.getElem_cons_succ, Act.put, List.setIfInBounds_toArray, List.set_cons_zero, List.set_cons_succ])
  refine wpAnyH_take (i := 1) (v := ?_) rfl (by kernel_rfl) (by kernel_rfl) (by kernel_rfl) (fun _ _ _ h => h) (Or.inl ⟨by rfl, ?_⟩) (by assumption) ?_
  rotate_left
  · intro wS hSw
    (have i5 : wS.cell? ⟨b, 5, none⟩ = some (.int .i64 r2.err) := World.rowIs.cell hSw (i := 5) (by decide); have i6 : wS.cell? ⟨b, 6, none⟩ = some (.int .i64 (r2.bad : Int)) := World.rowIs.cell hSw (i := 6) (by decide))
    go_simp
    all_goals with_reducible rfl
  (try simp only [List.getElem_toArray, List.getElem_cons_zero, List.getElem_cons_succ, Act.put, List.setIfInBounds_toArray, List.set_cons_zero, List.set_cons_succ])
  refine wpAnyH_take (i := 2) (v := ?_) rfl (by kernel_rfl) (by kernel_rfl) (by kernel_rfl) (fun _ _ _ h => h) (Or.inl ⟨by rfl, ?_⟩) (by assumption) ?_
  rotate_left
  · intro wS hSw
    (have i5 : wS.cell? ⟨b, 5, none⟩ = some (.int .i64 r2.err) := World.rowIs.cell hSw (i := 5) (by decide); have i6 : wS.cell? ⟨b, 6, none⟩ = some (.int .i64 (r2.bad : Int)) := World.rowIs.cell hSw (i := 6) (by decide))
    go_simp
    all_goals with_reducible rfl
  (try simp only [List.getElem_toArray, List.getElem_cons_zero, List.getElem_cons_succ, Act.put, List.setIfInBounds_toArray, List.set_cons_zero, List.set_cons_succ])
  refine wpAnyH_take (i := 3) (v := ?_) rfl (by kernel_rfl) (by kernel_rfl) (by kernel_rfl) (fun _ _ _ h => h) (Or.inl ⟨by rfl, ?_⟩) (by assumption) ?_
  rotate_left
  · intro wS hSw
    (have i5 : wS.cell? ⟨b, 5, none⟩ = some (.int .i64 r2.err) := World.rowIs.cell hSw (i := 5) (by decide); have i6 : wS.cell? ⟨b, 6, none⟩ = some (.int .i64 (r2.bad : Int)) := World.rowIs.cell hSw (i := 6) (by decide))
    go_simp
    all_goals with_reducible rfl
  (try simp only [List.getElem_toArray, List.getElem_cons_zero, List.getElem_cons_succ, Act.put, List.setIfInBounds_toArray, List.set_cons_zero, List.set_cons_succ])
  refine wpAnyH_take (i := 4) (v := ?_) rfl (by kernel_rfl) (by kernel_rfl) (by kernel_rfl) (fun _ _ _ h => h) (Or.inl ⟨by rfl, ?_⟩) (by assumption) ?_
  rotate_left
  · intro wS hSw
    (have i5 : wS.cell? ⟨b, 5, none⟩ = some (.int .i64 r2.err) := World.rowIs.cell hSw (i := 5) (by decide); have i6 : wS.cell? ⟨b, 6, none⟩ = some (.int .i64 (r2.bad : Int)) := World.rowIs.cell hSw (i := 6) (by decide))
    go_simp
    all_goals with_reducible rfl
  (try simp only [List.getElem_toArray, List.getElem_cons_zero, List.getElem_cons_succ, Act.put, List.setIfInBounds_toArray, List.set_cons_zero, List.set_cons_succ])
  refine wpAnyH_take (i := 5) (v := ?_) rfl (by kernel_rfl) (by kernel_rfl) (by kernel_rfl) (fun _ _ _ h => h) (Or.inl ⟨by rfl, ?_⟩) (by assumption) ?_
  rotate_left
  · intro wS hSw
    (have i5 : wS.cell? ⟨b, 5, none⟩ = some (.int .i64 r2.err) := World.rowIs.cell hSw (i := 5) (by decide); have i6 : wS.cell? ⟨b, 6, none⟩ = some (.int .i64 (r2.bad : Int)) := World.rowIs.cell hSw (i := 6) (by decide))
    go_simp
    all_goals with_reducible rfl
  (try simp only [List.getElem_toArray, List.getElem_cons_zero, List.getElem_cons_succ, Act.put, List.setIfInBounds_toArray, List.set_cons_zero, List.set_cons_succ])
  refine wpAnyH_take (i := 6) (v := ?_) rfl (by kernel_rfl) (by kernel_rfl) (by kernel_rfl) (fun _ _ _ h => h) (Or.inl ⟨by rfl, ?_⟩) (by assumption) ?_
  rotate_left
  · intro wS hSw
    (have i5 : wS.cell? ⟨b, 5, none⟩ = some (.int .i64 r2.err) := World.rowIs.cell hSw (i := 5) (by decide); have i6 : wS.cell? ⟨b, 6, none⟩ = some (.int .i64 (r2.bad : Int)) := World.rowIs.cell hSw (i := 6) (by decide))
    go_simp
    all_goals with_reducible rfl
  (try simp only [List.getElem_toArray, List.getElem_cons_zero, List.getElem_cons_succ, Act.put, List.setIfInBounds_toArray, List.set_cons_zero, List.set_cons_succ])
  refine wpAnyH_take (i := 7) (v := ?_) rfl (by kernel_rfl) (by kernel_rfl) (by kernel_rfl) (fun _ _ _ h => h) (Or.inl ⟨by rfl, ?_⟩) (by assumption) ?_
  rotate_left
  · intro wS hSw
    (have i5 : wS.cell? ⟨b, 5, none⟩ = some (.int .i64 r2.err) := World.rowIs.cell hSw (i := 5) (by decide); have i6 : wS.cell? ⟨b, 6, none⟩ = some (.int .i64 (r2.bad : Int)) := World.rowIs.cell hSw (i := 6) (by decide))
    go_simp
    all_goals with_reducible rfl
  (try simp only [List.getElem_toArray, List.getElem_cons_zero, List.getElem_cons_succ, Act.put, List.setIfInBounds_toArray, List.set_cons_zero, List.set_cons_succ])
  refine wpAnyH_take (i := 8) (v := ?_) rfl (by kernel_rfl) (by kernel_rfl) (by kernel_rfl) (fun _ _ _ h => h) (Or.inl ⟨by rfl, ?_⟩) (by assumption) ?_
  rotate_left
  · intro wS hSw
    (have i5 : wS.cell? ⟨b, 5, none⟩ = some (.int .i64 r2.err) := World.rowIs.cell hSw (i := 5) (by decide); have i6 : wS.cell? ⟨b, 6, none⟩ = some (.int .i64 (r2.bad : Int)) := World.rowIs.cell hSw (i := 6) (by decide))
    go_simp
    all_goals with_reducible rfl
  (try simp only [List.getElem_toArray, List.getElem_cons_zero, List.getElem_cons_succ, Act.put, List.setIfInBounds_toArray, List.set_cons_zero, List.set_cons_succ])
  refine held_one (i := 9) (by kernel_rfl) rfl (fun K hK => ?_)
  go_simp
  refine hK.out _ _ (row_new (row_new (row_new (row_new (row_new (row_new h6 hbR 0 _) hbR 1 _) hbR 2 _) hbR 3 _) hbR 4 _) hbR 5 _) (fun hH2 => ?_)
  clear hK K hHeld
  have h7 := row_new (row_new (row_new (row_new (row_new (row_new h6 hbR 0 (.int .i64 0)) hbR 1 (.slice none 0 0)) hbR 2 (.int .i64 0)) hbR 3 (.int .u64 0)) hbR 4 (.int .i64 0)) hbR 5 (.int .u64 0)
  refine wpAnyH_take (i := 10) (v := ?_) rfl (by kernel_rfl) (by kernel_rfl) (by kernel_rfl) (fun _ _ _ h => h) (Or.inl ⟨by rfl, ?_⟩) (by assumption) ?_
  rotate_left
  · intro wS hSw
    (skip)
    go_simp
    all_goals with_reducible rfl
  (try simp only [List.getElem_toArray, List.getElem_cons_zero, List.getElem_cons_succ, Act.put, List.setIfInBounds_toArray, List.set_cons_zero, List.set_cons_succ])
  refine wpAnyH_take (i := 11) (v := ?_) rfl (by kernel_rfl) (by kernel_rfl) (by kernel_rfl) (fun _ _ _ h => h) (Or.inl ⟨by rfl, ?_⟩) (by assumption) ?_
  rotate_left
  · intro wS hSw
    (skip)
    go_simp
    all_goals with_reducible rfl
  (try simp only [List.getElem_toArray, List.getElem_cons_zero, List.getElem_cons_succ, Act.put, List.setIfInBounds_toArray, List.set_cons_zero, List.set_cons_succ])
  refine wpAnyH_done (by kernel_rfl) ?_ _
  go_wp2
  exact bodyPost_ret (v := .tuple #[leafVal 0 0 0 0 0, .int .i64 r2.err, .int .i64 (r2.bad : Int)]) (by simp [results, Tryz.results15, go_sem, u0, u1, u2, u3, u4, u5, World.cell?_setCell_same']) rfl ⟨rfl, (((((H5.out.2.2.setCell (p := ⟨w.heap.size, 0, none⟩) (Nat.le_refl _) _).setCell (p := ⟨w.heap.size, 1, none⟩) (Nat.le_refl _) _).setCell (p := ⟨w.heap.size, 2, none⟩) (Nat.le_refl _) _).setCell (p := ⟨w.heap.size, 3, none⟩) (Nat.le_refl _) _).setCell (p := ⟨w.heap.size, 4, none⟩) (Nat.le_refl _) _).setCell (p := ⟨w.heap.size, 5, none⟩) (Nat.le_refl _) _⟩
end Go.Proofs.YtgeapkjegemkeaaGreatDoor
namespace Go.Proofs.YtgeapkjegemkeaaGreatDoor
open Go Go.RowKit
set_option linter.unusedSimpArgs false
set_option linter.unusedVariables false

section
variable {S : Src}
theorem end_at {r : Rd} {i d : Nat} (h : At S r i d) (hk : (tk S i).kind = 1) : (r.kindR S 1).err = 0 := by
  unfold Rd.kindR
  rw [h.peekT, if_pos hk, h.peekR, h.nextR]
  exact h.err
theorem end_no {r : Rd} {i d : Nat} (h : At S r i d) (hk : (tk S i).kind ≠ 1) : (r.kindR S 1).err = 61 ∧ (r.kindR S 1).bad = (tk S i).pos := by
  unfold Rd.kindR
  rw [h.peekT, if_neg hk, h.peekR]
  unfold Rd.fails
  rw [if_pos h.err]
  exact ⟨rfl, rfl⟩
theorem end_bad {r : Rd} {e : Int} {p : Nat} (h : Bad S r e p) : (r.kindR S 1).err = e ∧ (r.kindR S 1).bad = p := by
  unfold Rd.kindR
  rw [h.noT_of, if_neg (show ¬ noT.kind = 1 by decide)]
  rw [Rd.fails_err _ _ _ h.stuck]
  exact ⟨h.err, h.bad⟩
theorem start_sim (hS : Lexd S) : (0 < S.toks.length → At S ⟨0, 0, 0, 0⟩ 0 0) ∧ (¬ 0 < S.toks.length → Bad S ⟨0, 0, 0, 0⟩ S.err S.place) := by
  refine ⟨fun h => ⟨rfl, rfl, rfl, h⟩, fun h => ?_⟩
  have e : (⟨0, 0, 0, 0⟩ : Rd).peekR S = { (⟨0, 0, 0, 0⟩ : Rd) with err := S.err, bad := S.place } := if_pos ⟨rfl, h⟩
  exact ⟨hS.start.resolve_left h, by rw [e], by rw [e]⟩
/-- An expression, as the document reads it, and as the grammar does. -/
theorem exprN_sim (hS : Lexd S) {n : Nat} (hn : S.toks.length < n) :
    (0 < S.toks.length → SimO S 0 (exprN S n ⟨0, 0, 0, 0⟩) (exprG S n 0 0)) ∧ (¬ 0 < S.toks.length → BadO S S.err S.place (exprN S n ⟨0, 0, 0, 0⟩)) := by
  have h1 := one_simN hS n 0 (by decide)
  have h2 := expr_sim (d := 0) (by omega) hS h1.1 (h1.2 (by omega)) (fun i hi => fwd_one n 0 i hi)
  exact ⟨fun h => h2.1 _ 0 ((start_sim hS).1 h) (by omega), fun h => h2.2 _ _ _ ((start_sim hS).2 h)⟩
end
theorem rd6_ParseExpr (s : ByteArray) (w : World) (hm : s.size ≤ maxLen) : Calls Tryz.prog 15 #[.string s] w (ParseP (ExP w.heap.size) (leafVal 0 0 0 0 0) w (exprF s)) := by
  have hS := lexd s
  have hsm := src_small s
  have hE := exprN_sim hS (Nat.lt_succ_self (srcF s).toks.length)
  have hat : ∀ x r1, exprN (srcF s) ((srcF s).toks.length + 1) ⟨0, 0, 0, 0⟩ = some (x, r1) → r1.at_ ≤ 1000000 := fun x r1 h => by
    have := (goes_exprN (S := srcF s) _ _ _ ⟨Nat.zero_le _, fun _ => Nat.zero_le _⟩ h).j.le
    simp only at this
    omega
  unfold exprF readG
  by_cases h0 : 0 < (srcF s).toks.length
  · rw [if_pos h0]
    obtain ⟨⟨x, r1⟩, hx, hsim⟩ := hE.1 h0
    unfold wholeG
    generalize exprG (srcF s) ((srcF s).toks.length + 1) 0 0 = g at hsim ⊢
    rcases g with ⟨v, j⟩ | ⟨e, p⟩ | _
    · obtain ⟨rfl, ha⟩ := hsim
      show Calls _ _ _ _ (ParseP _ _ w (if (tk (srcF s) j).kind = 1 then .ok x j else noG (srcF s) j))
      by_cases hk : (tk (srcF s) j).kind = 1
      · rw [if_pos hk]
        exact rd6_ParseExpr_ok s w hm _ x r1 hx (hat _ _ hx) (end_at ha hk) j
      · rw [if_neg hk]
        have h1 := end_no ha hk
        have h2 := rd6_ParseExpr_bad s w hm _ x r1 hx (hat _ _ hx) (by rw [h1.1]; decide)
        rw [h1.1, h1.2] at h2
        exact h2
    · have h1 := end_bad (show Bad (srcF s) r1 e p from hsim)
      have h2 := rd6_ParseExpr_bad s w hm _ x r1 hx (hat _ _ hx) (by rw [h1.1]; exact Bad.ne hsim)
      rw [h1.1, h1.2] at h2
      exact h2
    · exact hsim.elim
  · rw [if_neg h0]
    obtain ⟨⟨x, r1⟩, hx, hb⟩ := hE.2 h0
    have h1 := end_bad hb
    have h2 := rd6_ParseExpr_bad s w hm _ x r1 hx (hat _ _ hx) (by rw [h1.1]; exact hb.ne)
    rw [h1.1, h1.2] at h2
    exact h2
end Go.Proofs.YtgeapkjegemkeaaGreatDoor

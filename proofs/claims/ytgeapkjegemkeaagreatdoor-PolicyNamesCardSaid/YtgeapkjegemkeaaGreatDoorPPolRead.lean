/-
  The program's read: what is refused is recovered from. Conditions: those that each contract names.
-/
import Derived.Test.YtgeapkjegemkeaaGreatDoorPPolOne
import Derived.Recover
import Derived.Defers
namespace Go.Proofs.YtgeapkjegemkeaaGreatDoor
open Go Go.RowKit
set_option linter.unusedSimpArgs false
set_option linter.unusedVariables false

set_option maxRecDepth 100000 in
theorem caught_idle (p q : Addr) (w : World) :
    CallsD Tryz.prog 58 #[.pointer (some p), .pointer (some q)] .returning w fun e u' w' => e = .returned (.tuple #[]) ∧ u' = .returning ∧ w' = w := by
  have hnil : ∀ w : World, (binOp BinOp.eql 20 .nilIface .nilIface).run Tryz.prog w = .ok (.bool true) w := fun _ => by kernel_rfl
  refine callsD_of_wpS Tryz.func58 rfl fun c₀ cs hu => ?_
  change Code.wpS _ _ _ { tmps := #[.pointer (some p), .pointer (some q), undef, undef, undef, undef, undef, undef, undef, undef, undef, undef, undef, undef, undef], defers := [] } _ _
  apply wpS_seq
  apply wpS_region
  simp [wpOpsS, go_sem, recoverD, hu, Tryz.ntmps58, Exit.thenS]
  refine wpS_of_wp ?_
  go_wp2
  cases c₀
  simp_all [bodyPostS, results, Tryz.results58]
set_option maxRecDepth 100000 in
theorem caught_refusal (p q : Nat) (er : Int) (at_ : Nat) (w : World) (v0 v1 : Value) (hp : w.cell? ⟨p, 0, none⟩ = some v0) (hq : w.cell? ⟨q, 0, none⟩ = some v1) (zp : w.frozen? ⟨p, 0, none⟩ = false) (zq : w.frozen? ⟨q, 0, none⟩ = false) (hpq : p ≠ q) :
    CallsD Tryz.prog 58 #[.pointer (some ⟨p, 0, none⟩), .pointer (some ⟨q, 0, none⟩)] (.panicking [{ v := .iface 98 (.agg #[.int .i64 er, .int .i64 (at_ : Int)]), recovered := false }]) w fun e u' w' =>
      e = .returned (.tuple #[]) ∧ u' = .panicking [{ v := .iface 98 (.agg #[.int .i64 er, .int .i64 (at_ : Int)]), recovered := true }] ∧ ∃ o n, w' = (((w.alloc o).drewN n).setCell ⟨p, 0, none⟩ (.int .i64 er)).setCell ⟨q, 0, none⟩ (.int .i64 (at_ : Int)) := by
  have hnil : ∀ w : World, (binOp BinOp.eql 20 (.iface 98 (.agg #[.int .i64 er, .int .i64 (at_ : Int)])) .nilIface).run Tryz.prog w = .ok (.bool false) w := fun _ => by kernel_rfl
  have hta : ∀ w : World, (Instr.typeAssert (.iface 98 (.agg #[.int .i64 er, .int .i64 (at_ : Int)])) 20 98 true).run Tryz.prog w = .ok (.tuple #[.agg #[.int .i64 er, .int .i64 (at_ : Int)], .bool true]) w := fun _ => by kernel_rfl
  refine callsD_of_wpS Tryz.func58 rfl fun c₀ cs hu => ?_
  change Code.wpS _ _ _ { tmps := #[.pointer (some ⟨p, 0, none⟩), .pointer (some ⟨q, 0, none⟩), undef, undef, undef, undef, undef, undef, undef, undef, undef, undef, undef, undef, undef], defers := [] } _ _
  apply wpS_seq
  apply wpS_region
  simp [wpOpsS, go_sem, recoverD, hu, Tryz.ntmps58, Exit.thenS]
  refine wpS_of_wp ?_
  have hlp := cell_lt hp
  have hlq := cell_lt hq
  go_wp2
  have HX := Lib.hid (World.alloc_heap_new w (.cells #[.int .i64 er, .int .i64 (at_ : Int)] 98))
  refine wp_region_held_drew (S := fun W' => W'.heap[w.heap.size]? = some (.cells #[.int .i64 er, .int .i64 (at_ : Int)] 98 (0, 0))) (by kernel_rfl) HX.out (fun hHeld => ?_)
  have cp : ((w.alloc (.cells #[.int .i64 er, .int .i64 (at_ : Int)] 98)).drew).cell? ⟨p, 0, none⟩ = some v0 := ((lbox w _).cell (p := ⟨p, 0, none⟩) hlp).trans hp
  have cq : ((w.alloc (.cells #[.int .i64 er, .int .i64 (at_ : Int)] 98)).drew).cell? ⟨q, 0, none⟩ = some v1 := ((lbox w _).cell (p := ⟨q, 0, none⟩) hlq).trans hq
  have yp : ((w.alloc (.cells #[.int .i64 er, .int .i64 (at_ : Int)] 98)).drew).frozen? ⟨p, 0, none⟩ = false := ((lbox w _).frozen (p := ⟨p, 0, none⟩) hlp).trans zp
  have yq : ((w.alloc (.cells #[.int .i64 er, .int .i64 (at_ : Int)] 98)).drew).frozen? ⟨q, 0, none⟩ = false := ((lbox w _).frozen (p := ⟨q, 0, none⟩) hlq).trans zq
  have HY : Hid (((w.alloc (.cells #[.int .i64 er, .int .i64 (at_ : Int)] 98)).drew).heap[w.heap.size]? = some (.cells #[.int .i64 er, .int .i64 (at_ : Int)] 98 (0, 0))) := Lib.hid HX.out
  have HYY : Hid (∃ o n, (w.alloc (.cells #[.int .i64 er, .int .i64 (at_ : Int)] 98)).drew = (w.alloc o).drewN n) := Lib.hid ⟨_, 1, rfl⟩
  have hpw : p ≠ w.heap.size := by omega
  have hqw : q ≠ w.heap.size := by omega
  clear hp hq zp zq HX hnil hta hlp hlq
  generalize (w.alloc (.cells #[.int .i64 er, .int .i64 (at_ : Int)] 98)).drew = Y at cp cq yp yq HY HYY ⊢
  refine wpAnyH_take (i := 0) (v := ?_) rfl (by kernel_rfl) (by kernel_rfl) (by kernel_rfl) (fun _ _ _ h => h) (Or.inl ⟨by rfl, ?_⟩) (by assumption) ?_
  rotate_left
  · intro wS hSw
    (have i0 := cell6 hSw 0 rfl; have i1 := cell6 hSw 1 rfl)
    go_simp
    all_goals with_reducible rfl
  (try simp only [List.getElem_toArray, List.getElem_cons_zero, List.getElem_cons_succ, Act.put, List.setIfInBounds_toArray, List.set_cons_zero, List.set_cons_succ])
  refine wpAnyH_take (i := 1) (v := ?_) rfl (by kernel_rfl) (by kernel_rfl) (by kernel_rfl) (fun _ _ _ h => h) (Or.inl ⟨by rfl, ?_⟩) (by assumption) ?_
  rotate_left
  · intro wS hSw
    (have i0 := cell6 hSw 0 rfl; have i1 := cell6 hSw 1 rfl)
    go_simp
    all_goals with_reducible rfl
  (try simp only [List.getElem_toArray, List.getElem_cons_zero, List.getElem_cons_succ, Act.put, List.setIfInBounds_toArray, List.set_cons_zero, List.set_cons_succ])
  refine wpAnyH_take (i := 2) (v := ?_) rfl (by kernel_rfl) (by kernel_rfl) (by kernel_rfl) (fun _ _ _ h => h) (Or.inl ⟨by rfl, ?_⟩) (by assumption) ?_
  rotate_left
  · intro wS hSw
    (have i0 := cell6 hSw 0 rfl; have i1 := cell6 hSw 1 rfl)
    go_simp
    all_goals with_reducible rfl
  (try simp only [List.getElem_toArray, List.getElem_cons_zero, List.getElem_cons_succ, Act.put, List.setIfInBounds_toArray, List.set_cons_zero, List.set_cons_succ])
  refine wpAnyH_take (i := 3) (v := ?_) rfl (by kernel_rfl) (by kernel_rfl) (by kernel_rfl) (fun _ _ _ h => h) (Or.inl ⟨by rfl, ?_⟩) (by assumption) ?_
  rotate_left
  · intro wS hSw
    (have i0 := cell6 hSw 0 rfl; have i1 := cell6 hSw 1 rfl)
    go_simp
    all_goals with_reducible rfl
  (try simp only [List.getElem_toArray, List.getElem_cons_zero, List.getElem_cons_succ, Act.put, List.setIfInBounds_toArray, List.set_cons_zero, List.set_cons_succ])
  refine held_one (i := 4) (by kernel_rfl) rfl (fun K hK => ?_)
  go_simp
  refine hK.out _ _ (kept_set HY.out (Ne.symm hpw) 0 _) (fun hH2 => ?_)
  clear hK K hHeld
  refine held_one (i := 5) (by kernel_rfl) rfl (fun K hK => ?_)
  go_simp
  refine hK.out _ _ (kept_set (kept_set HY.out (Ne.symm hpw) 0 _) (Ne.symm hqw) 0 _) (fun hH3 => ?_)
  clear hK K hH2
  refine wpAnyH_done (by kernel_rfl) ?_ _
  obtain ⟨o, n, rfl⟩ := HYY.out
  simp only [Exit.inBlock]
  exact ⟨rfl, _, rfl, .tuple #[], results_none rfl _ _ _, rfl, rfl, o, n, rfl⟩
set_option maxHeartbeats 2000000 in
set_option maxRecDepth 100000 in
theorem pp_wholeExpr (w : World) (b : Nat) (s : ByteArray) (n : Nat) (hsm : (srcF s).toks.length ≤ 65537) (hn : (srcF s).toks.length < n) (hi : 0 < (srcF s).toks.length) (h : PAt w b s (tk (srcF s) 0) 0) :
    Calls Tryz.prog 26 #[.pointer (some ⟨b, 0, none⟩)] w (GotP (ExP w.heap.size) s w b 0 (wholeG (srcF s) n 0)) := by
  have hlt := h.lt
  have HR0 := Lib.hid (World.alloc_heap_new w (exO 0 0 0 0 0))
  have HG0 := Lib.hid (grown_of_below (lbox w (exO 0 0 0 0 0)) (some b))
  have s0 : (w.alloc (exO 0 0 0 0 0)).heap.size = w.heap.size + 1 := by simp
  have hI := (pp_one s b hsm n 0 (by omega)).2 (w.alloc (exO 0 0 0 0 0)) 0 hi (by omega) (words_alloc h _)
  have hfw := fwd_expr (S := srcF s) n 0 0 hi
  unfold wholeG
  clear h
  generalize exprG (srcF s) n 0 0 = g at hI hfw ⊢
  rcases g with ⟨x, j⟩ | ⟨er, p⟩ | _
  · have HC := Lib.hid hI
    clear hI hfw hi hn hsm
    show Calls _ _ _ _ (GotP (ExP w.heap.size) s w b 0 (if (tk (srcF s) j).kind = 1 then .ok x j else noG (srcF s) j))
    by_cases hk : (tk (srcF s) j).kind = 1
    · have hkb : ((tk (srcF s) j).kind != 1) = false := by rw [hk]; rfl
      rw [if_pos hk]
      clear hk
      go_enter Tryz.func26, Tryz.ntmps26
      go_wp2_with (go_at_call 59; (with_reducible refine HC.out.mono ?_); rintro e w2 ⟨v, rfl, ⟨A, cap, rfl, hx⟩, hp, hg⟩; have hw2 := words_alloc hp (exCells x A cap); have k1 : (w2.alloc (exCells x A cap)).cell? ⟨b, 1, none⟩ = some (.int .i64 (tk (srcF s) j).kind) := World.rowIs.cell hw2 (i := 1) (by decide); have hE := World.alloc_heap_new w2 (exCells x A cap); have e0 := cell6 hE 0 rfl; have e1 := cell6 hE 1 rfl; have e2 := cell6 hE 2 rfl; have e3 := cell6 hE 3 rfl; have e4 := cell6 hE 4 rfl; have e5 := cell6 hE 5 rfl; have hr := kept_box HR0.out hg (by omega); have hw0 : w.heap.size < w2.heap.size := (Array.getElem?_eq_some_iff.1 hr).1; have u0 := cell6 hr 0 rfl; have u1 := cell6 hr 1 rfl; have u2 := cell6 hr 2 rfl; have u3 := cell6 hr 3 rfl; have u4 := cell6 hr 4 rfl; have u5 := cell6 hr 5 rfl; have y0 := frozen6 hr 0; have y1 := frozen6 hr 1; have y2 := frozen6 hr 2; have y3 := frozen6 hr 3; have y4 := frozen6 hr 4; have y5 := frozen6 hr 5; have H2 := Lib.hid (And.intro hx (And.intro hp (And.intro (grown_trans HG0.out hg) hr))); clear hx hp hg hr hE hw2)
      have hz := kept_alloc (heap_set1 (heap_set1 (heap_set1 (heap_set1 (heap_set1 (heap_set1 H2.out.2.2.2 0 (.int .i64 x.op)) 1 (.slice A x.args.length cap)) 2 (.int .i64 x.field)) 3 (.int .u64 (x.mask : Int))) 4 (.int .i64 x.rel)) 5 (.int .u64 (x.value : Int))) (exCells x A cap)
      have v0 := cell6 hz 0 rfl
      have v1 := cell6 hz 1 rfl
      have v2 := cell6 hz 2 rfl
      have v3 := cell6 hz 3 rfl
      have v4 := cell6 hz 4 rfl
      have v5 := cell6 hz 5 rfl
      exact bodyPost_ret (v := exV x A cap) (by simp [results, Tryz.results26, go_sem, v0, v1, v2, v3, v4, v5]) rfl ⟨_, rfl, ⟨A, cap, rfl, (ex_set6 H2.out.1 (fun k hk => by omega) _ _ _ _ _ _).keep (by simp) (fun k hk => by omega) (fun k _ hk => Below.heap_alloc _ _ k hk)⟩, words_alloc (pset6 H2.out.2.1 (by omega) _ _ _ _ _ _) _, grown_trans (gset6 H2.out.2.2.1 (Nat.le_refl _) _ _ _ _ _ _) (grown_of_below (lbox _ _) (some b))⟩
    · have hkb : ((tk (srcF s) j).kind != 1) = true := bne_iff_ne.2 hk
      rw [if_neg hk]
      clear hk
      have HR := Lib.hid (fun (W : World) hp => pp_refuse W b s (tk (srcF s) j) 0 hp 61)
      unfold noG
      go_enter Tryz.func26, Tryz.ntmps26
      go_wp2_with (first | (go_at_call 59; (with_reducible refine HC.out.mono ?_); rintro e w2 ⟨v, rfl, ⟨A, cap, rfl, hx⟩, hp, hg⟩; have hw2 := words_alloc hp (exCells x A cap); have k1 : (w2.alloc (exCells x A cap)).cell? ⟨b, 1, none⟩ = some (.int .i64 (tk (srcF s) j).kind) := World.rowIs.cell hw2 (i := 1) (by decide); have H2 := Lib.hid (And.intro hw2 (grown_trans (grown_trans HG0.out hg) (grown_of_below (lbox w2 (exCells x A cap)) (some b)))); clear hx hp hg hw2) | (go_at_call 60; (with_reducible refine (HR.out _ H2.out.1).mono ?_); rintro e w3 ⟨rfl, hg⟩; have H3 := Lib.hid (grown_trans H2.out.2 hg); clear hg))
      exact ⟨rfl, rfl, H3.out⟩
  · show Calls _ _ _ _ (GotP (ExP w.heap.size) s w b 0 (.bad er p))
    have HC := Lib.hid hI
    clear hI hfw hi hn hsm
    go_enter Tryz.func26, Tryz.ntmps26
    go_wp2_with (go_at_call 59; (with_reducible refine HC.out.mono ?_); rintro e w2 ⟨rfl, hg⟩; have H2 := Lib.hid (grown_trans HG0.out hg); clear hg)
    exact ⟨rfl, rfl, H2.out⟩
  · show Calls _ _ _ _ (GotP (ExP w.heap.size) s w b 0 .out)
    have HC := Lib.hid hI
    clear hI hfw hi hn hsm
    go_enter Tryz.func26, Tryz.ntmps26
    go_wp2_with (go_at_call 59; (with_reducible refine HC.out.mono ?_); intro e w2 hF; exact hF.elim)
end Go.Proofs.YtgeapkjegemkeaaGreatDoor

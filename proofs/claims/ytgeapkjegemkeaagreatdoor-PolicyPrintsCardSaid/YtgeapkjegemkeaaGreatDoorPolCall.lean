/-
  The reader's call: its contract. Condition: its place.
-/
import Derived.Test.YtgeapkjegemkeaaGreatDoorPolTest
import Derived.Test.YtgeapkjegemkeaaGreatDoorPolPure
namespace Go.Proofs.YtgeapkjegemkeaaGreatDoor
open Go Go.RowKit
set_option linter.unusedSimpArgs false
set_option linter.unusedVariables false
section
variable (w : World) (b : Nat) (A : Option Addr) (cap : Nat) (S : Src) (r : Rd) (h : RdAt w b A cap S r)
include h
set_option maxRecDepth 100000 in
theorem rd6_call (hat : r.at_ ≤ 1000000) : Calls Tryz.prog 72 #[.pointer (some ⟨b, 0, none⟩)] w (RdP w b A cap S (.agg #[.string (callT S r).1, .int .u64 ((callT S r).2 : Int)]) (callR S r)) := by
  have hlt := h.row.lt
  have hat1 : (r.peekR S).at_ ≤ 1000000 := by unfold Rd.peekR; split <;> exact hat
  have HP := Lib.hid (fun w h => rd6_peek w b A cap S r h)
  have HN := Lib.hid (fun w h => rd6_next w b A cap S (r.peekR S) h hat1)
  have HF := Lib.hid (fun w h => rd6_fails w b A cap S (r.peekR S) h 61 (r.peekT S).pos)
  have HB := Lib.hid (fun o => And.intro (h.below (lbox w o)) (grown_of_below (lbox w o) (some b)))
  have H0 := Lib.hid h
  clear h
  by_cases hk : (r.peekT S).kind = 2
  · have hkb : ((r.peekT S).kind == 2) = true := beq_iff_eq.2 hk
    have HE := Lib.hid (show callT S r = ((r.peekT S).text, 0) ∧ callR S r = (r.peekR S).nextR S from ⟨if_pos hk, if_pos hk⟩)
    clear hk
    rw [HE.out.1, HE.out.2]
    change Calls _ _ _ _ (RdP w b A cap S (.agg #[.string (r.peekT S).text, .int .u64 0]) _)
    clear HE HF
    generalize (r.peekR S).nextR S = r2 at HN ⊢
    generalize (r.peekR S).peekT S = q2 at HN
    generalize r.peekT S = q at HP hkb ⊢
    generalize r.peekR S = r1 at HP HN
    go_enter Tryz.func72, Tryz.ntmps72
    go_wp2_with (first | (go_at_call 71; (with_reducible refine (HN.out _ (H1.out _).1).mono ?_); rintro e w2 ⟨rfl, hr2, hg2⟩; have hb2 := box_kept hl1 hg2; have u0 := cell6 hb2 0 rfl; have u1 := cell6 hb2 1 rfl; have u2 := cell6 hb2 2 rfl; have hbR := (hg2.block w.heap.size (by simp; omega) (fun e => by injection e with e; omega)).trans ((Below.heap_alloc w1 _ w.heap.size nR).trans HBX.out); have d0 := cell6 hbR 0 rfl; have d1 := cell6 hbR 1 rfl; have z0 := frozen6 hbR 0; have z1 := frozen6 hbR 1; have H2 := Lib.hid (And.intro hr2 (grown_trans (H1.out _).2 hg2)); clear hr2 hg2 hb2 hbR) | (go_at_call 38; (with_reducible refine (HP.out _ (HB.out _).1).mono ?_); rintro e w1 ⟨rfl, hr1, hg1⟩; have HBX := Lib.hid (box_kept hlt hg1); have H1 := Lib.hid (fun o => And.intro (hr1.below (lbox w1 o)) (grown_trans (grown_trans (HB.out _).2 hg1) (grown_of_below (lbox w1 o) (some b)))); have hl1 := hr1.row.lt; have nR : w.heap.size < w1.heap.size := (Array.getElem?_eq_some_iff.1 HBX.out).1; clear hr1 hg1))
    exact bodyPost_ret (v := .agg #[.string q.text, .int .u64 0]) (by simp [results, Tryz.results72, go_sem, d0, d1, World.cell?_setCell_same']) rfl ⟨rfl, (H2.out.1.new hlt 0 _).new hlt 1 _, grown_new (grown_new H2.out.2 (Nat.le_refl _) 0 _) (Nat.le_refl _) 1 _⟩
  by_cases hj : (r.peekT S).kind = 3
  · have hkb : ((r.peekT S).kind == 2) = false := beq_false_of_ne hk
    have hkc : ((r.peekT S).kind == 3) = true := beq_iff_eq.2 hj
    have HE := Lib.hid (show callT S r = (⟨#[]⟩, (r.peekT S).num) ∧ callR S r = (r.peekR S).nextR S from ⟨(if_neg hk).trans (if_pos hj), (if_neg hk).trans (if_pos hj)⟩)
    clear hk hj
    rw [HE.out.1, HE.out.2]
    clear HE HF
    generalize (r.peekR S).nextR S = r2 at HN ⊢
    generalize (r.peekR S).peekT S = q2 at HN
    generalize r.peekT S = q at HP hkb hkc ⊢
    generalize r.peekR S = r1 at HP HN
    go_enter Tryz.func72, Tryz.ntmps72
    go_wp2_with (first | (go_at_call 71; (with_reducible refine (HN.out _ (H1.out _).1).mono ?_); rintro e w2 ⟨rfl, hr2, hg2⟩; have hb2 := box_kept hl1 hg2; have u0 := cell6 hb2 0 rfl; have u1 := cell6 hb2 1 rfl; have u2 := cell6 hb2 2 rfl; have hbR := (hg2.block w.heap.size (by simp; omega) (fun e => by injection e with e; omega)).trans ((Below.heap_alloc w1 _ w.heap.size nR).trans HBX.out); have d0 := cell6 hbR 0 rfl; have d1 := cell6 hbR 1 rfl; have z0 := frozen6 hbR 0; have z1 := frozen6 hbR 1; have H2 := Lib.hid (And.intro hr2 (grown_trans (H1.out _).2 hg2)); clear hr2 hg2 hb2 hbR) | (go_at_call 38; (with_reducible refine (HP.out _ (HB.out _).1).mono ?_); rintro e w1 ⟨rfl, hr1, hg1⟩; have HBX := Lib.hid (box_kept hlt hg1); have H1 := Lib.hid (fun o => And.intro (hr1.below (lbox w1 o)) (grown_trans (grown_trans (HB.out _).2 hg1) (grown_of_below (lbox w1 o) (some b)))); have hl1 := hr1.row.lt; have nR : w.heap.size < w1.heap.size := (Array.getElem?_eq_some_iff.1 HBX.out).1; clear hr1 hg1))
    exact bodyPost_ret (v := .agg #[.string ⟨#[]⟩, .int .u64 (q.num : Int)]) (by simp [results, Tryz.results72, go_sem, d0, d1, World.cell?_setCell_same']) rfl ⟨rfl, (H2.out.1.new hlt 0 _).new hlt 1 _, grown_new (grown_new H2.out.2 (Nat.le_refl _) 0 _) (Nat.le_refl _) 1 _⟩
  have hkb : ((r.peekT S).kind == 2) = false := beq_false_of_ne hk
  have hkc : ((r.peekT S).kind == 3) = false := beq_false_of_ne hj
  have HE := Lib.hid (show callT S r = (⟨#[]⟩, 0) ∧ callR S r = (r.peekR S).fails 61 (r.peekT S).pos from ⟨(if_neg hk).trans (if_neg hj), (if_neg hk).trans (if_neg hj)⟩)
  clear hk hj
  rw [HE.out.1, HE.out.2]
  change Calls _ _ _ _ (RdP w b A cap S (.agg #[.string ⟨#[]⟩, .int .u64 0]) _)
  clear HE HN
  generalize (r.peekR S).fails 61 (r.peekT S).pos = r2 at HF ⊢
  generalize r.peekT S = q at HP HF hkb hkc
  generalize r.peekR S = r1 at HP HF
  go_enter Tryz.func72, Tryz.ntmps72
  go_wp2_with (first | (go_at_call 40; (with_reducible refine (HF.out _ (H1.out _).1).mono ?_); rintro e w2 ⟨rfl, hr2, hg2⟩; have hb2 := box_kept hl1 hg2; have u0 := cell6 hb2 0 rfl; have u1 := cell6 hb2 1 rfl; have u2 := cell6 hb2 2 rfl; have hbR := (hg2.block w.heap.size (by simp; omega) (fun e => by injection e with e; omega)).trans ((Below.heap_alloc w1 _ w.heap.size nR).trans HBX.out); have d0 := cell6 hbR 0 rfl; have d1 := cell6 hbR 1 rfl; have z0 := frozen6 hbR 0; have z1 := frozen6 hbR 1; have H2 := Lib.hid (And.intro hr2 (grown_trans (H1.out _).2 hg2)); clear hr2 hg2 hb2 hbR) | (go_at_call 38; (with_reducible refine (HP.out _ (HB.out _).1).mono ?_); rintro e w1 ⟨rfl, hr1, hg1⟩; have HBX := Lib.hid (box_kept hlt hg1); have H1 := Lib.hid (fun o => And.intro (hr1.below (lbox w1 o)) (grown_trans (grown_trans (HB.out _).2 hg1) (grown_of_below (lbox w1 o) (some b)))); have hl1 := hr1.row.lt; have nR : w.heap.size < w1.heap.size := (Array.getElem?_eq_some_iff.1 HBX.out).1; clear hr1 hg1))
  exact bodyPost_ret (v := .agg #[.string ⟨#[]⟩, .int .u64 0]) (by simp [results, Tryz.results72, go_sem, d0, d1, World.cell?_setCell_same']) rfl ⟨rfl, (H2.out.1.new hlt 0 _).new hlt 1 _, grown_new (grown_new H2.out.2 (Nat.le_refl _) 0 _) (Nat.le_refl _) 1 _⟩
end
end Go.Proofs.YtgeapkjegemkeaaGreatDoor

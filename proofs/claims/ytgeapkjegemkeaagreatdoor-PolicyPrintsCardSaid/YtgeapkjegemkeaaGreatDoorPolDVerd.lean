/-
  The document's reader's verdict: its contract. Condition: its place.
-/
import Derived.Test.YtgeapkjegemkeaaGreatDoorPolCall
import Derived.Test.YtgeapkjegemkeaaGreatDoorPolPure
import Derived.Test.YtgeapkjegemkeaaGreatDoorPPolVerd
namespace Go.Proofs.YtgeapkjegemkeaaGreatDoor
open Go Go.RowKit
set_option linter.unusedSimpArgs false
set_option linter.unusedVariables false
theorem rd_set2 {w : World} {b B : Nat} {A : Option Addr} {cap : Nat} {S : Src} {r : Rd} (h : RdAt w b A cap S r) (hne : b < B) (x y : Value) : RdAt ((w.setCell ⟨B, 0, none⟩ x).setCell ⟨B, 1, none⟩ y) b A cap S r := (h.new hne 0 x).new hne 1 y
theorem verd_num {w w1 w3 : World} {b : Nat} {q : Nx} {k : Int} (hlt : b < w.heap.size) (hR : w1.heap[w.heap.size]? = some (verdO 0 0)) (hg : ((w1.alloc (.cells #[.int .i64 q.kind, .string q.text, .int .u64 (q.num : Int), .int .i64 (q.pos : Int)] 77)).alloc (verdO k 0)).grownBy w3 (some b)) :
    w3.heap[w.heap.size]? = some (verdO 0 0) ∧ w3.heap[w1.heap.size + 1]? = some (verdO k 0) := by
  have hl : w.heap.size < w1.heap.size := (Array.getElem?_eq_some_iff.1 hR).1
  have hV := World.alloc_heap_new (w1.alloc (.cells #[.int .i64 q.kind, .string q.text, .int .u64 (q.num : Int), .int .i64 (q.pos : Int)] 77)) (verdO k 0)
  rw [show (w1.alloc (.cells #[.int .i64 q.kind, .string q.text, .int .u64 (q.num : Int), .int .i64 (q.pos : Int)] 77)).heap.size = w1.heap.size + 1 by simp] at hV
  exact ⟨kept_box (kept_alloc (kept_alloc hR _) _) hg (by omega), kept_box hV hg (by omega)⟩
section
variable (w : World) (b : Nat) (A : Option Addr) (cap : Nat) (S : Src) (r : Rd) (h : RdAt w b A cap S r)
include h

set_option maxHeartbeats 8000000 in
set_option maxRecDepth 100000 in
theorem rd6_verdict (hat : r.at_ ≤ 900000) (hat1 : (r.kindR S 2).at_ ≤ 900001) : Calls Tryz.prog 37 #[.pointer (some ⟨b, 0, none⟩)] w (RdP w b A cap S (verdVal (verdT S r)) (verdR S r)) := by
  have hlt := h.row.lt
  have hp0 := h.below (lbox w (verdO 0 0))
  have HR0 := Lib.hid (World.alloc_heap_new w (verdO 0 0))
  have HG0 := Lib.hid (grown_of_below (lbox w (verdO 0 0)) (some b))
  have HK := Lib.hid (fun w h => rd6_kind w b A cap S r h 2 (by omega))
  have HM := Lib.hid (fun w h => rd6_kind w b A cap S (r.kindR S 2) h 3 (by omega))
  have HF := Lib.hid (fun w h => rd6_fails w b A cap S (r.kindR S 2) h 61 (r.kindT S 2).pos)
  unfold verdT verdR
  generalize (r.kindR S 2).kindT S 3 = q3 at HM ⊢
  generalize (r.kindR S 2).kindR S 3 = r3 at HM ⊢
  generalize (r.kindR S 2).fails 61 (r.kindT S 2).pos = rf at HF ⊢
  generalize hr1 : r.kindR S 2 = r1 at HK HM HF hat1 ⊢
  generalize r.kindT S 2 = q at HK HF ⊢
  clear h hr1 hat hat1
  by_cases he : r1.err = 0
  · have hb : (r1.err != 0) = false := by rw [he]; rfl
    rw [if_neg (show ¬ r1.err ≠ 0 from fun g => g he), if_neg (show ¬ r1.err ≠ 0 from fun g => g he)]
    clear he
    by_cases h0 : q.text = ⟨#[107, 105, 108, 108, 95, 112, 114, 111, 99, 101, 115, 115]⟩
    · have HE := Lib.hid (show verdK q.text = (1, false) by unfold verdK; rw [if_pos h0])
      have q0_ : (q.text.toList == [107, 105, 108, 108, 95, 112, 114, 111, 99, 101, 115, 115]) = true := lit_is6 h0
      clear h0
      rw [HE.out]
      show Calls _ _ _ _ (RdP w b A cap S (.agg #[.int .i64 1, .int .u64 0]) r1)
      clear HE HM HF
      go_enter Tryz.func37, Tryz.ntmps37
      go_wp2_with (first | (go_at_call 36; (with_reducible refine (HK.out _ hp0).mono ?_); rintro e w1 ⟨rfl, hr1, hg1⟩; have hb1 := hr1.row.lt; have hT := World.alloc_heap_new w1 (.cells #[.int .i64 q.kind, .string q.text, .int .u64 (q.num : Int), .int .i64 (q.pos : Int)] 77); have t1 := cell6 hT 1 rfl; have t3 := cell6 hT 3 rfl; have hW1 := hr1.below (lbox w1 (.cells #[.int .i64 q.kind, .string q.text, .int .u64 (q.num : Int), .int .i64 (q.pos : Int)] 77)); have e5 : (w1.alloc (.cells #[.int .i64 q.kind, .string q.text, .int .u64 (q.num : Int), .int .i64 (q.pos : Int)] 77)).cell? ⟨b, 5, none⟩ = some (.int .i64 r1.err) := World.rowIs.cell hW1.row (i := 5) (by decide); have hR1 := kept_box HR0.out hg1 (by omega); have hl1 : w.heap.size < w1.heap.size := (Array.getElem?_eq_some_iff.1 hR1).1; have u0 := cell6 hR1 0 rfl; have u1 := cell6 hR1 1 rfl; have y0 := frozen6 hR1 0; have y1 := frozen6 hR1 1; have H1 := Lib.hid (And.intro hr1 (And.intro hW1 (And.intro (grown_trans HG0.out hg1) hR1))); clear hr1 hg1 hT hW1 hR1))
      have hz := kept_alloc (kept_alloc (heap_set1 (heap_set1 H1.out.2.2.2 0 (.int .i64 1)) 1 (.int .u64 0)) (.cells #[.int .i64 q.kind, .string q.text, .int .u64 (q.num : Int), .int .i64 (q.pos : Int)] 77)) (verdO 1 0)
      have v0 := cell6 hz 0 rfl
      have v1 := cell6 hz 1 rfl
      exact bodyPost_ret (v := .agg #[.int .i64 1, .int .u64 0]) (by simp [results, Tryz.results37, go_sem, v0, v1]) rfl ⟨rfl, ((rd_set2 H1.out.1 hlt _ _).below (lbox _ _)).below (lbox _ _), grown_trans (grown_trans (grown_new (grown_new H1.out.2.2.1 (Nat.le_refl _) 0 _) (Nat.le_refl _) 1 _) (grown_of_below (lbox _ _) (some b))) (grown_of_below (lbox _ _) (some b))⟩
    have q0_ : (q.text.toList == [107, 105, 108, 108, 95, 112, 114, 111, 99, 101, 115, 115]) = false := lit_ne6 h0
    by_cases h1 : q.text = ⟨#[107, 105, 108, 108, 95, 116, 104, 114, 101, 97, 100]⟩
    · have HE := Lib.hid (show verdK q.text = (2, false) by unfold verdK; rw [if_neg h0, if_pos h1])
      have q1_ : (q.text.toList == [107, 105, 108, 108, 95, 116, 104, 114, 101, 97, 100]) = true := lit_is6 h1
      clear h0 h1
      rw [HE.out]
      show Calls _ _ _ _ (RdP w b A cap S (.agg #[.int .i64 2, .int .u64 0]) r1)
      clear HE HM HF
      go_enter Tryz.func37, Tryz.ntmps37
      go_wp2_with (first | (go_at_call 36; (with_reducible refine (HK.out _ hp0).mono ?_); rintro e w1 ⟨rfl, hr1, hg1⟩; have hb1 := hr1.row.lt; have hT := World.alloc_heap_new w1 (.cells #[.int .i64 q.kind, .string q.text, .int .u64 (q.num : Int), .int .i64 (q.pos : Int)] 77); have t1 := cell6 hT 1 rfl; have t3 := cell6 hT 3 rfl; have hW1 := hr1.below (lbox w1 (.cells #[.int .i64 q.kind, .string q.text, .int .u64 (q.num : Int), .int .i64 (q.pos : Int)] 77)); have e5 : (w1.alloc (.cells #[.int .i64 q.kind, .string q.text, .int .u64 (q.num : Int), .int .i64 (q.pos : Int)] 77)).cell? ⟨b, 5, none⟩ = some (.int .i64 r1.err) := World.rowIs.cell hW1.row (i := 5) (by decide); have hR1 := kept_box HR0.out hg1 (by omega); have hl1 : w.heap.size < w1.heap.size := (Array.getElem?_eq_some_iff.1 hR1).1; have u0 := cell6 hR1 0 rfl; have u1 := cell6 hR1 1 rfl; have y0 := frozen6 hR1 0; have y1 := frozen6 hR1 1; have H1 := Lib.hid (And.intro hr1 (And.intro hW1 (And.intro (grown_trans HG0.out hg1) hR1))); clear hr1 hg1 hT hW1 hR1))
      have hz := kept_alloc (kept_alloc (heap_set1 (heap_set1 H1.out.2.2.2 0 (.int .i64 2)) 1 (.int .u64 0)) (.cells #[.int .i64 q.kind, .string q.text, .int .u64 (q.num : Int), .int .i64 (q.pos : Int)] 77)) (verdO 2 0)
      have v0 := cell6 hz 0 rfl
      have v1 := cell6 hz 1 rfl
      exact bodyPost_ret (v := .agg #[.int .i64 2, .int .u64 0]) (by simp [results, Tryz.results37, go_sem, v0, v1]) rfl ⟨rfl, ((rd_set2 H1.out.1 hlt _ _).below (lbox _ _)).below (lbox _ _), grown_trans (grown_trans (grown_new (grown_new H1.out.2.2.1 (Nat.le_refl _) 0 _) (Nat.le_refl _) 1 _) (grown_of_below (lbox _ _) (some b))) (grown_of_below (lbox _ _) (some b))⟩
    have q1_ : (q.text.toList == [107, 105, 108, 108, 95, 116, 104, 114, 101, 97, 100]) = false := lit_ne6 h1
    by_cases h2 : q.text = ⟨#[116, 114, 97, 112]⟩
    · have HE := Lib.hid (show verdK q.text = (3, true) by unfold verdK; rw [if_neg h0, if_neg h1, if_pos h2])
      have q2_ : (q.text.toList == [116, 114, 97, 112]) = true := lit_is6 h2
      clear h0 h1 h2
      rw [HE.out]
      show Calls _ _ _ _ (RdP w b A cap S (.agg #[.int .i64 3, .int .u64 (q3.num : Int)]) r3)
      clear HE HF
      go_enter Tryz.func37, Tryz.ntmps37
      go_wp2_with (first | (go_at_call 36; (with_reducible refine (HM.out _ (H1.out.2.1.below (lbox _ (verdO 3 0)))).mono ?_); rintro e w3 ⟨rfl, hr3, hg3⟩; obtain ⟨hR3, hV3⟩ := verd_num hlt H1.out.2.2.2 hg3; have l3 : w1.heap.size + 1 < w3.heap.size := (Array.getElem?_eq_some_iff.1 hV3).1; have l4 : w.heap.size < w3.heap.size := (Array.getElem?_eq_some_iff.1 hR3).1; have f2 := cell6 (World.alloc_heap_new w3 (.cells #[.int .i64 q3.kind, .string q3.text, .int .u64 (q3.num : Int), .int .i64 (q3.pos : Int)] 77)) 2 rfl; have vv0 := cell6 hV3 0 rfl; have vv1 := cell6 hV3 1 rfl; have vz1 := frozen6 hV3 1; have hVs := heap_set1 hV3 1 (.int .u64 (q3.num : Int)); have hRs := kept_set hR3 (show w.heap.size ≠ w1.heap.size + 1 by omega) 1 (.int .u64 (q3.num : Int)); have x0 := cell6 hVs 0 rfl; have x1 := cell6 hVs 1 rfl; have m0 := cell6 hRs 0 rfl; have m1 := cell6 hRs 1 rfl; have n0 := frozen6 hRs 0; have n1 := frozen6 hRs 1; have H3 := Lib.hid (And.intro hr3 (And.intro (grown_trans (grown_trans (grown_trans H1.out.2.2.1 (grown_of_below (lbox w1 (.cells #[.int .i64 q.kind, .string q.text, .int .u64 (q.num : Int), .int .i64 (q.pos : Int)] 77)) (some b))) (grown_of_below (lbox _ (verdO 3 0)) (some b))) hg3) hRs)); clear hr3 hg3 hR3 hV3 hVs hRs) | (go_at_call 36; (with_reducible refine (HK.out _ hp0).mono ?_); rintro e w1 ⟨rfl, hr1, hg1⟩; have hb1 := hr1.row.lt; have hT := World.alloc_heap_new w1 (.cells #[.int .i64 q.kind, .string q.text, .int .u64 (q.num : Int), .int .i64 (q.pos : Int)] 77); have t1 := cell6 hT 1 rfl; have t3 := cell6 hT 3 rfl; have hW1 := hr1.below (lbox w1 (.cells #[.int .i64 q.kind, .string q.text, .int .u64 (q.num : Int), .int .i64 (q.pos : Int)] 77)); have e5 : (w1.alloc (.cells #[.int .i64 q.kind, .string q.text, .int .u64 (q.num : Int), .int .i64 (q.pos : Int)] 77)).cell? ⟨b, 5, none⟩ = some (.int .i64 r1.err) := World.rowIs.cell hW1.row (i := 5) (by decide); have hR1 := kept_box HR0.out hg1 (by omega); have hl1 : w.heap.size < w1.heap.size := (Array.getElem?_eq_some_iff.1 hR1).1; have u0 := cell6 hR1 0 rfl; have u1 := cell6 hR1 1 rfl; have y0 := frozen6 hR1 0; have y1 := frozen6 hR1 1; have H1 := Lib.hid (And.intro hr1 (And.intro hW1 (And.intro (grown_trans HG0.out hg1) hR1))); clear hr1 hg1 hT hW1 hR1))
      have hz := kept_alloc (heap_set1 (heap_set1 H3.out.2.2 0 (.int .i64 3)) 1 (.int .u64 (q3.num : Int))) (.cells #[.int .i64 q3.kind, .string q3.text, .int .u64 (q3.num : Int), .int .i64 (q3.pos : Int)] 77)
      have v0 := cell6 hz 0 rfl
      have v1 := cell6 hz 1 rfl
      exact bodyPost_ret (v := .agg #[.int .i64 3, .int .u64 (q3.num : Int)]) (by simp [results, Tryz.results37, go_sem, v0, v1]) rfl ⟨rfl, (rd_set2 (H3.out.1.new (by omega) 1 _) hlt _ _).below (lbox _ _), grown_trans (grown_new (grown_new (grown_new H3.out.2.1 (by omega) 1 _) (Nat.le_refl _) 0 _) (Nat.le_refl _) 1 _) (grown_of_below (lbox _ _) (some b))⟩
    have q2_ : (q.text.toList == [116, 114, 97, 112]) = false := lit_ne6 h2
    by_cases h3 : q.text = ⟨#[101, 114, 114, 110, 111]⟩
    · have HE := Lib.hid (show verdK q.text = (4, true) by unfold verdK; rw [if_neg h0, if_neg h1, if_neg h2, if_pos h3])
      have q3_ : (q.text.toList == [101, 114, 114, 110, 111]) = true := lit_is6 h3
      clear h0 h1 h2 h3
      rw [HE.out]
      show Calls _ _ _ _ (RdP w b A cap S (.agg #[.int .i64 4, .int .u64 (q3.num : Int)]) r3)
      clear HE HF
      go_enter Tryz.func37, Tryz.ntmps37
      go_wp2_with (first | (go_at_call 36; (with_reducible refine (HM.out _ (H1.out.2.1.below (lbox _ (verdO 4 0)))).mono ?_); rintro e w3 ⟨rfl, hr3, hg3⟩; obtain ⟨hR3, hV3⟩ := verd_num hlt H1.out.2.2.2 hg3; have l3 : w1.heap.size + 1 < w3.heap.size := (Array.getElem?_eq_some_iff.1 hV3).1; have l4 : w.heap.size < w3.heap.size := (Array.getElem?_eq_some_iff.1 hR3).1; have f2 := cell6 (World.alloc_heap_new w3 (.cells #[.int .i64 q3.kind, .string q3.text, .int .u64 (q3.num : Int), .int .i64 (q3.pos : Int)] 77)) 2 rfl; have vv0 := cell6 hV3 0 rfl; have vv1 := cell6 hV3 1 rfl; have vz1 := frozen6 hV3 1; have hVs := heap_set1 hV3 1 (.int .u64 (q3.num : Int)); have hRs := kept_set hR3 (show w.heap.size ≠ w1.heap.size + 1 by omega) 1 (.int .u64 (q3.num : Int)); have x0 := cell6 hVs 0 rfl; have x1 := cell6 hVs 1 rfl; have m0 := cell6 hRs 0 rfl; have m1 := cell6 hRs 1 rfl; have n0 := frozen6 hRs 0; have n1 := frozen6 hRs 1; have H3 := Lib.hid (And.intro hr3 (And.intro (grown_trans (grown_trans (grown_trans H1.out.2.2.1 (grown_of_below (lbox w1 (.cells #[.int .i64 q.kind, .string q.text, .int .u64 (q.num : Int), .int .i64 (q.pos : Int)] 77)) (some b))) (grown_of_below (lbox _ (verdO 4 0)) (some b))) hg3) hRs)); clear hr3 hg3 hR3 hV3 hVs hRs) | (go_at_call 36; (with_reducible refine (HK.out _ hp0).mono ?_); rintro e w1 ⟨rfl, hr1, hg1⟩; have hb1 := hr1.row.lt; have hT := World.alloc_heap_new w1 (.cells #[.int .i64 q.kind, .string q.text, .int .u64 (q.num : Int), .int .i64 (q.pos : Int)] 77); have t1 := cell6 hT 1 rfl; have t3 := cell6 hT 3 rfl; have hW1 := hr1.below (lbox w1 (.cells #[.int .i64 q.kind, .string q.text, .int .u64 (q.num : Int), .int .i64 (q.pos : Int)] 77)); have e5 : (w1.alloc (.cells #[.int .i64 q.kind, .string q.text, .int .u64 (q.num : Int), .int .i64 (q.pos : Int)] 77)).cell? ⟨b, 5, none⟩ = some (.int .i64 r1.err) := World.rowIs.cell hW1.row (i := 5) (by decide); have hR1 := kept_box HR0.out hg1 (by omega); have hl1 : w.heap.size < w1.heap.size := (Array.getElem?_eq_some_iff.1 hR1).1; have u0 := cell6 hR1 0 rfl; have u1 := cell6 hR1 1 rfl; have y0 := frozen6 hR1 0; have y1 := frozen6 hR1 1; have H1 := Lib.hid (And.intro hr1 (And.intro hW1 (And.intro (grown_trans HG0.out hg1) hR1))); clear hr1 hg1 hT hW1 hR1))
      have hz := kept_alloc (heap_set1 (heap_set1 H3.out.2.2 0 (.int .i64 4)) 1 (.int .u64 (q3.num : Int))) (.cells #[.int .i64 q3.kind, .string q3.text, .int .u64 (q3.num : Int), .int .i64 (q3.pos : Int)] 77)
      have v0 := cell6 hz 0 rfl
      have v1 := cell6 hz 1 rfl
      exact bodyPost_ret (v := .agg #[.int .i64 4, .int .u64 (q3.num : Int)]) (by simp [results, Tryz.results37, go_sem, v0, v1]) rfl ⟨rfl, (rd_set2 (H3.out.1.new (by omega) 1 _) hlt _ _).below (lbox _ _), grown_trans (grown_new (grown_new (grown_new H3.out.2.1 (by omega) 1 _) (Nat.le_refl _) 0 _) (Nat.le_refl _) 1 _) (grown_of_below (lbox _ _) (some b))⟩
    have q3_ : (q.text.toList == [101, 114, 114, 110, 111]) = false := lit_ne6 h3
    by_cases h4 : q.text = ⟨#[110, 111, 116, 105, 102, 121]⟩
    · have HE := Lib.hid (show verdK q.text = (5, false) by unfold verdK; rw [if_neg h0, if_neg h1, if_neg h2, if_neg h3, if_pos h4])
      have q4_ : (q.text.toList == [110, 111, 116, 105, 102, 121]) = true := lit_is6 h4
      clear h0 h1 h2 h3 h4
      rw [HE.out]
      show Calls _ _ _ _ (RdP w b A cap S (.agg #[.int .i64 5, .int .u64 0]) r1)
      clear HE HM HF
      go_enter Tryz.func37, Tryz.ntmps37
      go_wp2_with (first | (go_at_call 36; (with_reducible refine (HK.out _ hp0).mono ?_); rintro e w1 ⟨rfl, hr1, hg1⟩; have hb1 := hr1.row.lt; have hT := World.alloc_heap_new w1 (.cells #[.int .i64 q.kind, .string q.text, .int .u64 (q.num : Int), .int .i64 (q.pos : Int)] 77); have t1 := cell6 hT 1 rfl; have t3 := cell6 hT 3 rfl; have hW1 := hr1.below (lbox w1 (.cells #[.int .i64 q.kind, .string q.text, .int .u64 (q.num : Int), .int .i64 (q.pos : Int)] 77)); have e5 : (w1.alloc (.cells #[.int .i64 q.kind, .string q.text, .int .u64 (q.num : Int), .int .i64 (q.pos : Int)] 77)).cell? ⟨b, 5, none⟩ = some (.int .i64 r1.err) := World.rowIs.cell hW1.row (i := 5) (by decide); have hR1 := kept_box HR0.out hg1 (by omega); have hl1 : w.heap.size < w1.heap.size := (Array.getElem?_eq_some_iff.1 hR1).1; have u0 := cell6 hR1 0 rfl; have u1 := cell6 hR1 1 rfl; have y0 := frozen6 hR1 0; have y1 := frozen6 hR1 1; have H1 := Lib.hid (And.intro hr1 (And.intro hW1 (And.intro (grown_trans HG0.out hg1) hR1))); clear hr1 hg1 hT hW1 hR1))
      have hz := kept_alloc (kept_alloc (heap_set1 (heap_set1 H1.out.2.2.2 0 (.int .i64 5)) 1 (.int .u64 0)) (.cells #[.int .i64 q.kind, .string q.text, .int .u64 (q.num : Int), .int .i64 (q.pos : Int)] 77)) (verdO 5 0)
      have v0 := cell6 hz 0 rfl
      have v1 := cell6 hz 1 rfl
      exact bodyPost_ret (v := .agg #[.int .i64 5, .int .u64 0]) (by simp [results, Tryz.results37, go_sem, v0, v1]) rfl ⟨rfl, ((rd_set2 H1.out.1 hlt _ _).below (lbox _ _)).below (lbox _ _), grown_trans (grown_trans (grown_new (grown_new H1.out.2.2.1 (Nat.le_refl _) 0 _) (Nat.le_refl _) 1 _) (grown_of_below (lbox _ _) (some b))) (grown_of_below (lbox _ _) (some b))⟩
    have q4_ : (q.text.toList == [110, 111, 116, 105, 102, 121]) = false := lit_ne6 h4
    by_cases h5 : q.text = ⟨#[116, 114, 97, 99, 101]⟩
    · have HE := Lib.hid (show verdK q.text = (6, true) by unfold verdK; rw [if_neg h0, if_neg h1, if_neg h2, if_neg h3, if_neg h4, if_pos h5])
      have q5_ : (q.text.toList == [116, 114, 97, 99, 101]) = true := lit_is6 h5
      clear h0 h1 h2 h3 h4 h5
      rw [HE.out]
      show Calls _ _ _ _ (RdP w b A cap S (.agg #[.int .i64 6, .int .u64 (q3.num : Int)]) r3)
      clear HE HF
      go_enter Tryz.func37, Tryz.ntmps37
      go_wp2_with (first | (go_at_call 36; (with_reducible refine (HM.out _ (H1.out.2.1.below (lbox _ (verdO 6 0)))).mono ?_); rintro e w3 ⟨rfl, hr3, hg3⟩; obtain ⟨hR3, hV3⟩ := verd_num hlt H1.out.2.2.2 hg3; have l3 : w1.heap.size + 1 < w3.heap.size := (Array.getElem?_eq_some_iff.1 hV3).1; have l4 : w.heap.size < w3.heap.size := (Array.getElem?_eq_some_iff.1 hR3).1; have f2 := cell6 (World.alloc_heap_new w3 (.cells #[.int .i64 q3.kind, .string q3.text, .int .u64 (q3.num : Int), .int .i64 (q3.pos : Int)] 77)) 2 rfl; have vv0 := cell6 hV3 0 rfl; have vv1 := cell6 hV3 1 rfl; have vz1 := frozen6 hV3 1; have hVs := heap_set1 hV3 1 (.int .u64 (q3.num : Int)); have hRs := kept_set hR3 (show w.heap.size ≠ w1.heap.size + 1 by omega) 1 (.int .u64 (q3.num : Int)); have x0 := cell6 hVs 0 rfl; have x1 := cell6 hVs 1 rfl; have m0 := cell6 hRs 0 rfl; have m1 := cell6 hRs 1 rfl; have n0 := frozen6 hRs 0; have n1 := frozen6 hRs 1; have H3 := Lib.hid (And.intro hr3 (And.intro (grown_trans (grown_trans (grown_trans H1.out.2.2.1 (grown_of_below (lbox w1 (.cells #[.int .i64 q.kind, .string q.text, .int .u64 (q.num : Int), .int .i64 (q.pos : Int)] 77)) (some b))) (grown_of_below (lbox _ (verdO 6 0)) (some b))) hg3) hRs)); clear hr3 hg3 hR3 hV3 hVs hRs) | (go_at_call 36; (with_reducible refine (HK.out _ hp0).mono ?_); rintro e w1 ⟨rfl, hr1, hg1⟩; have hb1 := hr1.row.lt; have hT := World.alloc_heap_new w1 (.cells #[.int .i64 q.kind, .string q.text, .int .u64 (q.num : Int), .int .i64 (q.pos : Int)] 77); have t1 := cell6 hT 1 rfl; have t3 := cell6 hT 3 rfl; have hW1 := hr1.below (lbox w1 (.cells #[.int .i64 q.kind, .string q.text, .int .u64 (q.num : Int), .int .i64 (q.pos : Int)] 77)); have e5 : (w1.alloc (.cells #[.int .i64 q.kind, .string q.text, .int .u64 (q.num : Int), .int .i64 (q.pos : Int)] 77)).cell? ⟨b, 5, none⟩ = some (.int .i64 r1.err) := World.rowIs.cell hW1.row (i := 5) (by decide); have hR1 := kept_box HR0.out hg1 (by omega); have hl1 : w.heap.size < w1.heap.size := (Array.getElem?_eq_some_iff.1 hR1).1; have u0 := cell6 hR1 0 rfl; have u1 := cell6 hR1 1 rfl; have y0 := frozen6 hR1 0; have y1 := frozen6 hR1 1; have H1 := Lib.hid (And.intro hr1 (And.intro hW1 (And.intro (grown_trans HG0.out hg1) hR1))); clear hr1 hg1 hT hW1 hR1))
      have hz := kept_alloc (heap_set1 (heap_set1 H3.out.2.2 0 (.int .i64 6)) 1 (.int .u64 (q3.num : Int))) (.cells #[.int .i64 q3.kind, .string q3.text, .int .u64 (q3.num : Int), .int .i64 (q3.pos : Int)] 77)
      have v0 := cell6 hz 0 rfl
      have v1 := cell6 hz 1 rfl
      exact bodyPost_ret (v := .agg #[.int .i64 6, .int .u64 (q3.num : Int)]) (by simp [results, Tryz.results37, go_sem, v0, v1]) rfl ⟨rfl, (rd_set2 (H3.out.1.new (by omega) 1 _) hlt _ _).below (lbox _ _), grown_trans (grown_new (grown_new (grown_new H3.out.2.1 (by omega) 1 _) (Nat.le_refl _) 0 _) (Nat.le_refl _) 1 _) (grown_of_below (lbox _ _) (some b))⟩
    have q5_ : (q.text.toList == [116, 114, 97, 99, 101]) = false := lit_ne6 h5
    by_cases h6 : q.text = ⟨#[108, 111, 103]⟩
    · have HE := Lib.hid (show verdK q.text = (7, false) by unfold verdK; rw [if_neg h0, if_neg h1, if_neg h2, if_neg h3, if_neg h4, if_neg h5, if_pos h6])
      have q6_ : (q.text.toList == [108, 111, 103]) = true := lit_is6 h6
      clear h0 h1 h2 h3 h4 h5 h6
      rw [HE.out]
      show Calls _ _ _ _ (RdP w b A cap S (.agg #[.int .i64 7, .int .u64 0]) r1)
      clear HE HM HF
      go_enter Tryz.func37, Tryz.ntmps37
      go_wp2_with (first | (go_at_call 36; (with_reducible refine (HK.out _ hp0).mono ?_); rintro e w1 ⟨rfl, hr1, hg1⟩; have hb1 := hr1.row.lt; have hT := World.alloc_heap_new w1 (.cells #[.int .i64 q.kind, .string q.text, .int .u64 (q.num : Int), .int .i64 (q.pos : Int)] 77); have t1 := cell6 hT 1 rfl; have t3 := cell6 hT 3 rfl; have hW1 := hr1.below (lbox w1 (.cells #[.int .i64 q.kind, .string q.text, .int .u64 (q.num : Int), .int .i64 (q.pos : Int)] 77)); have e5 : (w1.alloc (.cells #[.int .i64 q.kind, .string q.text, .int .u64 (q.num : Int), .int .i64 (q.pos : Int)] 77)).cell? ⟨b, 5, none⟩ = some (.int .i64 r1.err) := World.rowIs.cell hW1.row (i := 5) (by decide); have hR1 := kept_box HR0.out hg1 (by omega); have hl1 : w.heap.size < w1.heap.size := (Array.getElem?_eq_some_iff.1 hR1).1; have u0 := cell6 hR1 0 rfl; have u1 := cell6 hR1 1 rfl; have y0 := frozen6 hR1 0; have y1 := frozen6 hR1 1; have H1 := Lib.hid (And.intro hr1 (And.intro hW1 (And.intro (grown_trans HG0.out hg1) hR1))); clear hr1 hg1 hT hW1 hR1))
      have hz := kept_alloc (kept_alloc (heap_set1 (heap_set1 H1.out.2.2.2 0 (.int .i64 7)) 1 (.int .u64 0)) (.cells #[.int .i64 q.kind, .string q.text, .int .u64 (q.num : Int), .int .i64 (q.pos : Int)] 77)) (verdO 7 0)
      have v0 := cell6 hz 0 rfl
      have v1 := cell6 hz 1 rfl
      exact bodyPost_ret (v := .agg #[.int .i64 7, .int .u64 0]) (by simp [results, Tryz.results37, go_sem, v0, v1]) rfl ⟨rfl, ((rd_set2 H1.out.1 hlt _ _).below (lbox _ _)).below (lbox _ _), grown_trans (grown_trans (grown_new (grown_new H1.out.2.2.1 (Nat.le_refl _) 0 _) (Nat.le_refl _) 1 _) (grown_of_below (lbox _ _) (some b))) (grown_of_below (lbox _ _) (some b))⟩
    have q6_ : (q.text.toList == [108, 111, 103]) = false := lit_ne6 h6
    by_cases h7 : q.text = ⟨#[97, 108, 108, 111, 119]⟩
    · have HE := Lib.hid (show verdK q.text = (8, false) by unfold verdK; rw [if_neg h0, if_neg h1, if_neg h2, if_neg h3, if_neg h4, if_neg h5, if_neg h6, if_pos h7])
      have q7_ : (q.text.toList == [97, 108, 108, 111, 119]) = true := lit_is6 h7
      clear h0 h1 h2 h3 h4 h5 h6 h7
      rw [HE.out]
      show Calls _ _ _ _ (RdP w b A cap S (.agg #[.int .i64 8, .int .u64 0]) r1)
      clear HE HM HF
      go_enter Tryz.func37, Tryz.ntmps37
      go_wp2_with (first | (go_at_call 36; (with_reducible refine (HK.out _ hp0).mono ?_); rintro e w1 ⟨rfl, hr1, hg1⟩; have hb1 := hr1.row.lt; have hT := World.alloc_heap_new w1 (.cells #[.int .i64 q.kind, .string q.text, .int .u64 (q.num : Int), .int .i64 (q.pos : Int)] 77); have t1 := cell6 hT 1 rfl; have t3 := cell6 hT 3 rfl; have hW1 := hr1.below (lbox w1 (.cells #[.int .i64 q.kind, .string q.text, .int .u64 (q.num : Int), .int .i64 (q.pos : Int)] 77)); have e5 : (w1.alloc (.cells #[.int .i64 q.kind, .string q.text, .int .u64 (q.num : Int), .int .i64 (q.pos : Int)] 77)).cell? ⟨b, 5, none⟩ = some (.int .i64 r1.err) := World.rowIs.cell hW1.row (i := 5) (by decide); have hR1 := kept_box HR0.out hg1 (by omega); have hl1 : w.heap.size < w1.heap.size := (Array.getElem?_eq_some_iff.1 hR1).1; have u0 := cell6 hR1 0 rfl; have u1 := cell6 hR1 1 rfl; have y0 := frozen6 hR1 0; have y1 := frozen6 hR1 1; have H1 := Lib.hid (And.intro hr1 (And.intro hW1 (And.intro (grown_trans HG0.out hg1) hR1))); clear hr1 hg1 hT hW1 hR1))
      have hz := kept_alloc (kept_alloc (heap_set1 (heap_set1 H1.out.2.2.2 0 (.int .i64 8)) 1 (.int .u64 0)) (.cells #[.int .i64 q.kind, .string q.text, .int .u64 (q.num : Int), .int .i64 (q.pos : Int)] 77)) (verdO 8 0)
      have v0 := cell6 hz 0 rfl
      have v1 := cell6 hz 1 rfl
      exact bodyPost_ret (v := .agg #[.int .i64 8, .int .u64 0]) (by simp [results, Tryz.results37, go_sem, v0, v1]) rfl ⟨rfl, ((rd_set2 H1.out.1 hlt _ _).below (lbox _ _)).below (lbox _ _), grown_trans (grown_trans (grown_new (grown_new H1.out.2.2.1 (Nat.le_refl _) 0 _) (Nat.le_refl _) 1 _) (grown_of_below (lbox _ _) (some b))) (grown_of_below (lbox _ _) (some b))⟩
    have q7_ : (q.text.toList == [97, 108, 108, 111, 119]) = false := lit_ne6 h7
    have HE := Lib.hid (show verdK q.text = (0, false) by unfold verdK; rw [if_neg h0, if_neg h1, if_neg h2, if_neg h3, if_neg h4, if_neg h5, if_neg h6, if_neg h7])
    clear h0 h1 h2 h3 h4 h5 h6 h7
    rw [HE.out]
    show Calls _ _ _ _ (RdP w b A cap S (.agg #[.int .i64 0, .int .u64 0]) rf)
    clear HE HM
    go_enter Tryz.func37, Tryz.ntmps37
    go_wp2_with (first | (go_at_call 36; (with_reducible refine (HK.out _ hp0).mono ?_); rintro e w1 ⟨rfl, hr1, hg1⟩; have hb1 := hr1.row.lt; have hT := World.alloc_heap_new w1 (.cells #[.int .i64 q.kind, .string q.text, .int .u64 (q.num : Int), .int .i64 (q.pos : Int)] 77); have t1 := cell6 hT 1 rfl; have t3 := cell6 hT 3 rfl; have hW1 := hr1.below (lbox w1 (.cells #[.int .i64 q.kind, .string q.text, .int .u64 (q.num : Int), .int .i64 (q.pos : Int)] 77)); have e5 : (w1.alloc (.cells #[.int .i64 q.kind, .string q.text, .int .u64 (q.num : Int), .int .i64 (q.pos : Int)] 77)).cell? ⟨b, 5, none⟩ = some (.int .i64 r1.err) := World.rowIs.cell hW1.row (i := 5) (by decide); have hR1 := kept_box HR0.out hg1 (by omega); have hl1 : w.heap.size < w1.heap.size := (Array.getElem?_eq_some_iff.1 hR1).1; have u0 := cell6 hR1 0 rfl; have u1 := cell6 hR1 1 rfl; have y0 := frozen6 hR1 0; have y1 := frozen6 hR1 1; have H1 := Lib.hid (And.intro hr1 (And.intro hW1 (And.intro (grown_trans HG0.out hg1) hR1))); clear hr1 hg1 hT hW1 hR1) | (go_at_call 40; (with_reducible refine (HF.out _ H1.out.2.1).mono ?_); rintro e w2 ⟨rfl, hr2, hg2⟩; have hR2 := kept_box (kept_alloc H1.out.2.2.2 (.cells #[.int .i64 q.kind, .string q.text, .int .u64 (q.num : Int), .int .i64 (q.pos : Int)] 77)) hg2 (by omega); have m0 := cell6 hR2 0 rfl; have m1 := cell6 hR2 1 rfl; have n0 := frozen6 hR2 0; have n1 := frozen6 hR2 1; have H2 := Lib.hid (And.intro hr2 (grown_trans (grown_trans H1.out.2.2.1 (grown_of_below (lbox w1 (.cells #[.int .i64 q.kind, .string q.text, .int .u64 (q.num : Int), .int .i64 (q.pos : Int)] 77)) (some b))) hg2)); clear hr2 hg2 hR2))
    exact bodyPost_ret (v := .agg #[.int .i64 0, .int .u64 0]) (by simp [results, Tryz.results37, go_sem, m0, m1, World.cell?_setCell_same']) rfl ⟨rfl, rd_set2 H2.out.1 hlt _ _, grown_new (grown_new H2.out.2 (Nat.le_refl _) 0 _) (Nat.le_refl _) 1 _⟩
  · have hb : (r1.err != 0) = true := bne_iff_ne.2 he
    rw [if_pos he, if_pos he]
    show Calls _ _ _ _ (RdP w b A cap S (.agg #[.int .i64 0, .int .u64 0]) r1)
    clear he HM HF
    go_enter Tryz.func37, Tryz.ntmps37
    go_wp2_with (first | (go_at_call 36; (with_reducible refine (HK.out _ hp0).mono ?_); rintro e w1 ⟨rfl, hr1, hg1⟩; have hb1 := hr1.row.lt; have hT := World.alloc_heap_new w1 (.cells #[.int .i64 q.kind, .string q.text, .int .u64 (q.num : Int), .int .i64 (q.pos : Int)] 77); have t1 := cell6 hT 1 rfl; have t3 := cell6 hT 3 rfl; have hW1 := hr1.below (lbox w1 (.cells #[.int .i64 q.kind, .string q.text, .int .u64 (q.num : Int), .int .i64 (q.pos : Int)] 77)); have e5 : (w1.alloc (.cells #[.int .i64 q.kind, .string q.text, .int .u64 (q.num : Int), .int .i64 (q.pos : Int)] 77)).cell? ⟨b, 5, none⟩ = some (.int .i64 r1.err) := World.rowIs.cell hW1.row (i := 5) (by decide); have hR1 := kept_box HR0.out hg1 (by omega); have hl1 : w.heap.size < w1.heap.size := (Array.getElem?_eq_some_iff.1 hR1).1; have u0 := cell6 hR1 0 rfl; have u1 := cell6 hR1 1 rfl; have y0 := frozen6 hR1 0; have y1 := frozen6 hR1 1; have H1 := Lib.hid (And.intro hr1 (And.intro hW1 (And.intro (grown_trans HG0.out hg1) hR1))); clear hr1 hg1 hT hW1 hR1))
    have hz := kept_alloc (heap_set1 (heap_set1 H1.out.2.2.2 0 (.int .i64 0)) 1 (.int .u64 0)) (.cells #[.int .i64 q.kind, .string q.text, .int .u64 (q.num : Int), .int .i64 (q.pos : Int)] 77)
    have v0 := cell6 hz 0 rfl
    have v1 := cell6 hz 1 rfl
    exact bodyPost_ret (v := .agg #[.int .i64 0, .int .u64 0]) (by simp [results, Tryz.results37, go_sem, v0, v1]) rfl ⟨rfl, (rd_set2 H1.out.1 hlt _ _).below (lbox _ _), grown_trans (grown_new (grown_new H1.out.2.2.1 (Nat.le_refl _) 0 _) (Nat.le_refl _) 1 _) (grown_of_below (lbox _ _) (some b))⟩
end
end Go.Proofs.YtgeapkjegemkeaaGreatDoor

/-
  The document's reader's one: its contract, of contracts of what it hands on to. Conditions: those that it names.
-/
import Derived.Test.YtgeapkjegemkeaaGreatDoorPolDVerd
import Derived.Test.YtgeapkjegemkeaaGreatDoorPolIs
import Derived.Test.YtgeapkjegemkeaaGreatDoorPPolOne
import Derived.Test.YtgeapkjegemkeaaGreatDoorPolSame
namespace Go.Proofs.YtgeapkjegemkeaaGreatDoor
open Go Go.RowKit
set_option linter.unusedSimpArgs false
set_option linter.unusedVariables false

abbrev tkO (q : Nx) : Obj := .cells #[.int .i64 q.kind, .string q.text, .int .u64 (q.num : Int), .int .i64 (q.pos : Int)] 77
/-- What reading an expression leaves. -/
def ExR (W : World) (b : Nat) (A : Option Addr) (cap : Nat) (S : Src) (x : Ex × Rd) (e : Ending) (w' : World) : Prop := ∃ A' c', e = .returned (exV x.1 A' c') ∧ ExIn w' (fun k => W.heap.size ≤ k) x.1 A' c' ∧ RdAt w' b A cap S x.2 ∧ W.grownBy w' (some b)
def OneR (f : Nat) (S : Src) (g : Rd → Option (Ex × Rd)) : Prop := ∀ (W : World) (b : Nat) (A : Option Addr) (cap : Nat) (r : Rd) (x : Ex × Rd), J S r → 0 ≤ r.deep → r.deep ≤ 64 → RdAt W b A cap S r → g r = some x → Calls Tryz.prog f #[.pointer (some ⟨b, 0, none⟩)] W (ExR W b A cap S x)
/-- One under way: its token's box, its expression's. -/
structure OneAt (w W : World) (b : Nat) (A : Option Addr) (cap : Nat) (S : Src) (r : Rd) (T : Nat) (q : Nx) (x : Ex) (Ae : Option Addr) (ce : Nat) : Prop where
  rd : RdAt W b A cap S r
  gr : w.grownBy W (some b)
  res : W.heap[w.heap.size]? = some (exO 0 0 0 0 0)
  tk : W.heap[T]? = some (tkO q)
  ex : W.heap[T + 1]? = some (exCell x Ae ce)
  lo : w.heap.size < T
  bw : b < w.heap.size
  xin : ExIn W (fun k => T + 1 < k) x Ae ce
namespace OneAt
variable {w W : World} {b : Nat} {A : Option Addr} {cap : Nat} {S : Src} {r : Rd} {T : Nat} {q : Nx} {x : Ex} {Ae : Option Addr} {ce : Nat}
theorem size (h : OneAt w W b A cap S r T q x Ae ce) : T + 1 < W.heap.size := (Array.getElem?_eq_some_iff.1 h.ex).1
theorem call {W' : World} {r' : Rd} (h : OneAt w W b A cap S r T q x Ae ce) (hr : RdAt W' b A cap S r') (hg : W.grownBy W' (some b)) : OneAt w W' b A cap S r' T q x Ae ce := by
  have := h.lo; have := h.bw
  exact ⟨hr, grown_trans h.gr hg, kept_box h.res hg (by omega), kept_box h.tk hg (by omega), kept_box h.ex hg (by omega), h.lo, h.bw, h.xin.keep hg.size (fun _ hk => hk) (fun c hc hl => hg.block c hl (fun e => by injection e with e; omega))⟩
theorem setEx {x' : Ex} {A' : Option Addr} {c' : Nat} (h : OneAt w W b A cap S r T q x Ae ce) (hx : ExIn W (fun k => T + 1 < k) x' A' c') :
    OneAt w ((((((W.setCell ⟨T + 1, 0, none⟩ (.int .i64 x'.op)).setCell ⟨T + 1, 1, none⟩ (.slice A' x'.args.length c')).setCell ⟨T + 1, 2, none⟩ (.int .i64 x'.field)).setCell ⟨T + 1, 3, none⟩ (.int .u64 (x'.mask : Int))).setCell ⟨T + 1, 4, none⟩ (.int .i64 x'.rel)).setCell ⟨T + 1, 5, none⟩ (.int .u64 (x'.value : Int))) b A cap S r T q x' A' c' := by
  have := h.lo; have := h.bw
  exact ⟨(((((h.rd.new (by omega) 0 _).new (by omega) 1 _).new (by omega) 2 _).new (by omega) 3 _).new (by omega) 4 _).new (by omega) 5 _, gset6 h.gr (by omega) _ _ _ _ _ _,
    kept_set (kept_set (kept_set (kept_set (kept_set (kept_set h.res (by omega) 0 _) (by omega) 1 _) (by omega) 2 _) (by omega) 3 _) (by omega) 4 _) (by omega) 5 _,
    kept_set (kept_set (kept_set (kept_set (kept_set (kept_set h.tk (by omega) 0 _) (by omega) 1 _) (by omega) 2 _) (by omega) 3 _) (by omega) 4 _) (by omega) 5 _,
    heap_set1 (heap_set1 (heap_set1 (heap_set1 (heap_set1 (heap_set1 h.ex 0 _) 1 _) 2 _) 3 _) 4 _) 5 _, h.lo, h.bw, ex_set6 hx (fun k hk => by omega) _ _ _ _ _ _⟩
theorem up (h : OneAt w W b A cap S r T q x Ae ce) : OneAt w (W.setCell ⟨b, 4, none⟩ (.int .i64 (r.deep - 1))) b A cap S (up r) T q x Ae ce := by
  have := h.lo; have := h.bw
  exact ⟨h.rd.set_deep (r.deep - 1), grown_set h.gr 4 _, kept_set h.res (by omega) 4 _, kept_set h.tk (by omega) 4 _, kept_set h.ex (by omega) 4 _, h.lo, h.bw, ex_set h.xin (fun k hk => by omega) 4 _⟩
theorem fin (h : OneAt w W b A cap S r T q x Ae ce) (a b' c d e f : Value) :
    ExIn ((((((W.setCell ⟨w.heap.size, 0, none⟩ a).setCell ⟨w.heap.size, 1, none⟩ b').setCell ⟨w.heap.size, 2, none⟩ c).setCell ⟨w.heap.size, 3, none⟩ d).setCell ⟨w.heap.size, 4, none⟩ e).setCell ⟨w.heap.size, 5, none⟩ f) (fun k => w.heap.size ≤ k) x Ae ce ∧
    RdAt ((((((W.setCell ⟨w.heap.size, 0, none⟩ a).setCell ⟨w.heap.size, 1, none⟩ b').setCell ⟨w.heap.size, 2, none⟩ c).setCell ⟨w.heap.size, 3, none⟩ d).setCell ⟨w.heap.size, 4, none⟩ e).setCell ⟨w.heap.size, 5, none⟩ f) b A cap S r ∧
    w.grownBy ((((((W.setCell ⟨w.heap.size, 0, none⟩ a).setCell ⟨w.heap.size, 1, none⟩ b').setCell ⟨w.heap.size, 2, none⟩ c).setCell ⟨w.heap.size, 3, none⟩ d).setCell ⟨w.heap.size, 4, none⟩ e).setCell ⟨w.heap.size, 5, none⟩ f) (some b) := by
  have := h.lo; have := h.bw
  exact ⟨(ex_set6 h.xin (fun k hk => by omega) _ _ _ _ _ _).keep (Nat.le_refl _) (fun k hk => by omega) (fun _ _ _ => rfl), (((((h.rd.new h.bw 0 _).new h.bw 1 _).new h.bw 2 _).new h.bw 3 _).new h.bw 4 _).new h.bw 5 _, gset6 h.gr (Nat.le_refl _) _ _ _ _ _ _⟩
end OneAt
theorem one_new {w W0 w1 : World} {b : Nat} {A : Option Addr} {cap : Nat} {S : Src} {r1 : Rd} {q : Nx} (hlt : b < w.heap.size) (hr : W0.heap[w.heap.size]? = some (exO 0 0 0 0 0)) (hg0 : w.grownBy W0 (some b)) (hr1 : RdAt w1 b A cap S r1) (hg1 : W0.grownBy w1 (some b)) :
    OneAt w ((w1.alloc (tkO q)).alloc (exO 0 0 0 0 0)) b A cap S r1 w1.heap.size q .zero none 0 := by
  have hR := kept_box hr hg1 (by omega)
  have hE := World.alloc_heap_new (w1.alloc (tkO q)) (exO 0 0 0 0 0)
  rw [show (w1.alloc (tkO q)).heap.size = w1.heap.size + 1 by simp] at hE
  exact ⟨(hr1.below (lbox w1 _)).below (lbox _ _), grown_trans (grown_trans hg0 hg1) (grown_of_below (below_two w1 _ _) (some b)), kept_alloc (kept_alloc hR _) _, kept_alloc (World.alloc_heap_new w1 _) _, hE, (Array.getElem?_eq_some_iff.1 hR).1, hlt, .inl ⟨rfl, rfl, rfl⟩⟩
theorem deeper_le {r : Rd} {p : Nat} (h0 : r.err = 0) (h : (deeperR r p).err = 0) : r.deep + 1 ≤ 64 ∧ deeperR r p = { r with deep := r.deep + 1 } := by
  unfold deeperR at h ⊢
  by_cases h6 : 64 < r.deep + 1
  · rw [if_pos h6] at h
    unfold Rd.fails at h
    rw [if_pos h0] at h; exact absurd h (show ¬ (62 : Int) = 0 by decide)
  · rw [if_neg h6]; exact ⟨by omega, rfl⟩

set_option maxHeartbeats 16000000 in
set_option maxRecDepth 100000 in
theorem rd6_oneOf {S : Src} {one' expr' : Rd → Option (Ex × Rd)} (hone : OneR 98 S one') (hexp : OneR 42 S expr') (hg1 : GoesO S one') (hg2 : GoesO S expr') : OneR 98 S (oneS S one' expr') := fun w b A cap r x hJ hd0 hd64 h hx => by
  have hlt := h.row.lt
  have hsz := h.size
  have hjl := hJ.le
  have hp0 := h.below (lbox w (exO 0 0 0 0 0))
  have HR0 := Lib.hid (World.alloc_heap_new w (exO 0 0 0 0 0))
  have HG0 := Lib.hid (grown_of_below (lbox w (exO 0 0 0 0 0)) (some b))
  have hnx := next_any hJ
  have hnr := next_real (S := S) hJ
  have HN := Lib.hid (fun w h => rd6_next w b A cap S r h (by omega))
  have HFd := Lib.hid (fun w => ref6_field (r.peekT S).text w)
  have hD := fun (hd : -1000000 ≤ (r.nextR S).deep ∧ (r.nextR S).deep ≤ 1000000) => fun w h => rd6_deeper w b A cap S (r.nextR S) h (r.peekT S) hd
  replace hD := hD (by rw [hnx.2.2.1]; omega)
  have HF := Lib.hid (fun w h => rd6_fails w b A cap S (r.nextR S) h 61 (r.peekT S).pos)
  have hT := fun w h (hat : (r.nextR S).at_ ≤ 999990) => rd6_test w b A cap S (r.nextR S) h (fieldF (r.peekT S).text) hat
  have HTe := Lib.hid (fun w h => hT w h (by omega))
  clear h hT
  unfold oneS at hx
  simp only at hx
  generalize r.peekT S = q at *
  generalize r.nextR S = r1 at *
  by_cases he : r1.err ≠ 0
  · rw [if_pos he] at hx
    have heb : (r1.err != 0) = true := bne_iff_ne.2 he
    obtain rfl : (Ex.zero, r1) = x := Option.some.inj hx
    clear hx he hnr hD HF HTe hnx
    go_enter Tryz.func98, Tryz.ntmps98
    go_wp2_with (first | (go_at_call 120; (with_reducible refine (HFd.out _).mono ?_); rintro e w' ⟨rfl, rfl⟩) | (go_at_call 71; (with_reducible refine (HN.out _ hp0).mono ?_); rintro e w1 ⟨rfl, hr1, hg1⟩; have hT := one_new (q := q) hlt HR0.out HG0.out hr1 hg1; have hTk := World.alloc_heap_new w1 (tkO q); have k0 := cell6 hTk 0 rfl; have k1 := cell6 hTk 1 rfl; have k3 := cell6 hTk 3 rfl; have e5 : ((w1.alloc (tkO q)).alloc (exO 0 0 0 0 0)).cell? ⟨b, 5, none⟩ = some (.int .i64 r1.err) := World.rowIs.cell hT.rd.row (i := 5) (by decide); have l1 : w.heap.size < w1.heap.size := hT.lo; have hR1 := kept_box HR0.out hg1 (by omega); have u0 := cell6 hR1 0 rfl; have u1 := cell6 hR1 1 rfl; have u2 := cell6 hR1 2 rfl; have u3 := cell6 hR1 3 rfl; have u4 := cell6 hR1 4 rfl; have u5 := cell6 hR1 5 rfl; have y0 := frozen6 hR1 0; have y1 := frozen6 hR1 1; have y2 := frozen6 hR1 2; have y3 := frozen6 hR1 3; have y4 := frozen6 hR1 4; have y5 := frozen6 hR1 5; have T2 := Lib.hid hT; have H1 := Lib.hid (And.intro hr1 (And.intro (grown_trans HG0.out hg1) hR1)); clear hr1 hg1 hT hTk hR1))
    have hz := kept_alloc (kept_alloc (heap_set1 (heap_set1 (heap_set1 (heap_set1 (heap_set1 (heap_set1 H1.out.2.2 0 (.int .i64 0)) 1 (.slice none 0 0)) 2 (.int .i64 0)) 3 (.int .u64 0)) 4 (.int .i64 0)) 5 (.int .u64 0)) (tkO q)) (exO 0 0 0 0 0)
    have v0 := cell6 hz 0 rfl
    have v1 := cell6 hz 1 rfl
    have v2 := cell6 hz 2 rfl
    have v3 := cell6 hz 3 rfl
    have v4 := cell6 hz 4 rfl
    have v5 := cell6 hz 5 rfl
    exact bodyPost_ret (v := .agg #[.int .i64 0, .slice none 0 0, .int .i64 0, .int .u64 0, .int .i64 0, .int .u64 0]) (by simp [results, Tryz.results98, go_sem, v0, v1, v2, v3, v4, v5]) rfl ⟨none, 0, rfl, .inl ⟨rfl, rfl, rfl⟩, (((((((H1.out.1.new hlt 0 _).new hlt 1 _).new hlt 2 _).new hlt 3 _).new hlt 4 _).new hlt 5 _).below (lbox _ _)).below (lbox _ _), grown_trans (gset6 H1.out.2.1 (Nat.le_refl _) _ _ _ _ _ _) (grown_of_below (below_two _ _ _) (some b))⟩
  rw [if_neg he] at hx
  have he0 : r1.err = 0 := by omega
  have heb : (r1.err != 0) = false := by rw [he0]; rfl
  clear he
  by_cases h1 : q.kind = 2 ∧ q.text = bNot
  · rw [if_pos h1] at hx
    have hgo := hnr he0 (by rw [h1.1]; decide)
    have hdp := goes_deeper hgo.j q.pos
    have b1 : (q.kind == 2) = true := beq_iff_eq.2 h1.1
    have b2 : (q.text.toList == [110, 111, 116]) = true := lit_is6 h1.2
    by_cases hde : (deeperR r1 q.pos).err = 0
    · have hdb : ((deeperR r1 q.pos).err == 0) = true := beq_iff_eq.2 hde
      have hdl := deeper_le he0 hde
      rw [if_pos hde] at hx
      rw [hdb] at hD
      cases ho : one' (deeperR r1 q.pos) with
      | none => rw [ho] at hx; cases hx
      | some y =>
        rw [ho] at hx
        obtain rfl : (Ex.node 3 [y.1], up y.2) = x := Option.some.inj hx
        have hO := fun W hW => hone W b A cap (deeperR r1 q.pos) y hdp.2.2 (by rw [hdp.2.1, hgo.deep]; omega) (by rw [hdl.2]; exact hdl.1) hW ho
        have hyg := hg1 _ y hdp.2.2 ho
        have hyd : y.2.deep = r.deep + 1 := by rw [hyg.deep, hdp.2.1, hgo.deep]
        have hw : IntKind.i64.wrap (y.2.deep - 1) = y.2.deep - 1 := by rw [IntWalk.i64_in _ (by omega)]
        have HD := Lib.hid hD
        have HO := Lib.hid hO
        generalize deeperR r1 q.pos = r2 at HD HO
        obtain ⟨y, r3⟩ := y
        simp only at hw HO
        clear hx h1 hgo hdp hde hdb hdl ho hO hyg hyd hnr hD HF HTe hnx he0
        show Calls _ _ _ _ (ExR w b A cap S (Ex.node 3 [y], up r3))
        go_enter Tryz.func98, Tryz.ntmps98
        go_wp2_with (first | (go_at_call 98; (with_reducible refine (HO.out _ T3.out.rd).mono ?_); rintro e w4 ⟨Ay, cy, rfl, hy, hr4, hg4⟩; have hc := T3.out.call hr4 hg4; have hyy := hy.keep (Nat.le_refl _) (fun c hc2 => show w1.heap.size + 1 < c from Nat.lt_of_lt_of_le T3.out.size hc2) (fun _ _ _ => rfl); have m0 := cell6 hc.ex 0 rfl; have m1 := cell6 hc.ex 1 rfl; have m2 := cell6 hc.ex 2 rfl; have m3 := cell6 hc.ex 3 rfl; have m4 := cell6 hc.ex 4 rfl; have m5 := cell6 hc.ex 5 rfl; have n0 := frozen6 hc.ex 0; have n1 := frozen6 hc.ex 1; have n2 := frozen6 hc.ex 2; have n3 := frozen6 hc.ex 3; have n4 := frozen6 hc.ex 4; have n5 := frozen6 hc.ex 5; have d4 : w4.cell? ⟨b, 4, none⟩ = some (.int .i64 r3.deep) := World.rowIs.cell hc.rd.row (i := 4) (by decide); have dz := World.rowIs.frozen hc.rd.row 4; have l4 : w1.heap.size + 1 < w4.heap.size := hc.size; have l5 : w.heap.size < w4.heap.size := (Array.getElem?_eq_some_iff.1 hc.res).1; have l6 := hc.rd.row.lt; have u0 := cell6 hc.res 0 rfl; have u1 := cell6 hc.res 1 rfl; have u2 := cell6 hc.res 2 rfl; have u3 := cell6 hc.res 3 rfl; have u4 := cell6 hc.res 4 rfl; have u5 := cell6 hc.res 5 rfl; have y0 := frozen6 hc.res 0; have y1 := frozen6 hc.res 1; have y2 := frozen6 hc.res 2; have y3 := frozen6 hc.res 3; have y4 := frozen6 hc.res 4; have y5 := frozen6 hc.res 5; have T4 := Lib.hid hc; have HY := Lib.hid hyy; clear hc hy hyy hr4 hg4) | (go_at_call 121; (with_reducible refine (HD.out _ T2.out.rd).mono ?_); rintro e w3 ⟨rfl, hr3, hg3⟩; have hc := T2.out.call hr3 hg3; clear u0 u1 u2 u3 u4 u5 y0 y1 y2 y3 y4 y5; skip; have T3 := Lib.hid hc; clear hc hr3 hg3) | (go_at_call 120; (with_reducible refine (HFd.out _).mono ?_); rintro e w' ⟨rfl, rfl⟩) | (go_at_call 71; (with_reducible refine (HN.out _ hp0).mono ?_); rintro e w1 ⟨rfl, hr1, hg1⟩; have hT := one_new (q := q) hlt HR0.out HG0.out hr1 hg1; have hTk := World.alloc_heap_new w1 (tkO q); have k0 := cell6 hTk 0 rfl; have k1 := cell6 hTk 1 rfl; have k3 := cell6 hTk 3 rfl; have e5 : ((w1.alloc (tkO q)).alloc (exO 0 0 0 0 0)).cell? ⟨b, 5, none⟩ = some (.int .i64 r1.err) := World.rowIs.cell hT.rd.row (i := 5) (by decide); have l1 : w.heap.size < w1.heap.size := hT.lo; have hR1 := kept_box HR0.out hg1 (by omega); have u0 := cell6 hR1 0 rfl; have u1 := cell6 hR1 1 rfl; have u2 := cell6 hR1 2 rfl; have u3 := cell6 hR1 3 rfl; have u4 := cell6 hR1 4 rfl; have u5 := cell6 hR1 5 rfl; have y0 := frozen6 hR1 0; have y1 := frozen6 hR1 1; have y2 := frozen6 hR1 2; have y3 := frozen6 hR1 3; have y4 := frozen6 hR1 4; have y5 := frozen6 hR1 5; have T2 := Lib.hid hT; have H1 := Lib.hid (And.intro hr1 (And.intro (grown_trans HG0.out hg1) hR1)); clear hr1 hg1 hT hTk hR1))
        have hE : b < w1.heap.size + 1 := by have := T4.out.lo; omega
        have hne : w.heap.size ≠ w1.heap.size + 1 := by have := T4.out.lo; omega
        have hy2 := HY.out.keep (G := fun k => w1.heap.size + 2 ≤ k) (Nat.le_refl _) (fun k hk => hk) (fun _ _ _ => rfl)
        have hV := ex_set6 (ex_set (ex_set6 hy2 (R := w1.heap.size + 1) (fun k hk => by omega) (.int .i64 3) (.slice (some ⟨w4.heap.size, 0, none⟩) 1 1) (.int .i64 0) (.int .u64 0) (.int .i64 0) (.int .u64 0)) (R := b) (fun k hk => by omega) 4 (.int .i64 (r3.deep - 1))) (R := w.heap.size) (fun k hk => by have := T4.out.lo; omega) (.int .i64 3) (.slice (some ⟨w4.heap.size, 0, none⟩) 1 1) (.int .i64 0) (.int .u64 0) (.int .i64 0) (.int .u64 0)
        have hN := node_one 3 (by simp [World.setCell]; omega) hV
        have hrd := (((((((((((((T4.out.rd.new hE 0 (.int .i64 3)).new hE 1 (.slice (some ⟨w4.heap.size, 0, none⟩) 1 1)).new hE 2 (.int .i64 0)).new hE 3 (.int .u64 0)).new hE 4 (.int .i64 0)).new hE 5 (.int .u64 0)).set_deep (r3.deep - 1)).new hlt 0 (.int .i64 3)).new hlt 1 (.slice (some ⟨w4.heap.size, 0, none⟩) 1 1)).new hlt 2 (.int .i64 0)).new hlt 3 (.int .u64 0)).new hlt 4 (.int .i64 0)).new hlt 5 (.int .u64 0)).below (lbox _ (exCells y Ay cy))
        have hgr := grown_trans (gset6 (grown_set (gset6 T4.out.gr (show w.heap.size ≤ w1.heap.size + 1 by have := T4.out.lo; omega) (.int .i64 3) (.slice (some ⟨w4.heap.size, 0, none⟩) 1 1) (.int .i64 0) (.int .u64 0) (.int .i64 0) (.int .u64 0)) 4 (.int .i64 (r3.deep - 1))) (Nat.le_refl _) (.int .i64 3) (.slice (some ⟨w4.heap.size, 0, none⟩) 1 1) (.int .i64 0) (.int .u64 0) (.int .i64 0) (.int .u64 0)) (grown_of_below (lbox _ (exCells y Ay cy)) (some b))
        have hz := kept_alloc (heap_set1 (heap_set1 (heap_set1 (heap_set1 (heap_set1 (heap_set1 (kept_set (kept_set (kept_set (kept_set (kept_set (kept_set (kept_set T4.out.res hne 0 (.int .i64 3)) hne 1 (.slice (some ⟨w4.heap.size, 0, none⟩) 1 1)) hne 2 (.int .i64 0)) hne 3 (.int .u64 0)) hne 4 (.int .i64 0)) hne 5 (.int .u64 0)) (show w.heap.size ≠ b by omega) 4 (.int .i64 (r3.deep - 1))) 0 (.int .i64 3)) 1 (.slice (some ⟨w4.heap.size, 0, none⟩) 1 1)) 2 (.int .i64 0)) 3 (.int .u64 0)) 4 (.int .i64 0)) 5 (.int .u64 0)) (exCells y Ay cy)
        have v0 := cell6 hz 0 rfl
        have v1 := cell6 hz 1 rfl
        have v2 := cell6 hz 2 rfl
        have v3 := cell6 hz 3 rfl
        have v4 := cell6 hz 4 rfl
        have v5 := cell6 hz 5 rfl
        rw [show (((((((((((((w4.setCell ⟨w1.heap.size + 1, 0, none⟩ (.int .i64 3)).setCell ⟨w1.heap.size + 1, 1, none⟩ (.slice (some ⟨w4.heap.size, 0, none⟩) 1 1)).setCell ⟨w1.heap.size + 1, 2, none⟩ (.int .i64 0)).setCell ⟨w1.heap.size + 1, 3, none⟩ (.int .u64 0)).setCell ⟨w1.heap.size + 1, 4, none⟩ (.int .i64 0)).setCell ⟨w1.heap.size + 1, 5, none⟩ (.int .u64 0)).setCell ⟨b, 4, none⟩ (.int .i64 (r3.deep - 1))).setCell ⟨w.heap.size, 0, none⟩ (.int .i64 3)).setCell ⟨w.heap.size, 1, none⟩ (.slice (some ⟨w4.heap.size, 0, none⟩) 1 1)).setCell ⟨w.heap.size, 2, none⟩ (.int .i64 0)).setCell ⟨w.heap.size, 3, none⟩ (.int .u64 0)).setCell ⟨w.heap.size, 4, none⟩ (.int .i64 0)).setCell ⟨w.heap.size, 5, none⟩ (.int .u64 0)).heap.size = w4.heap.size by simp [World.setCell]] at hN
        exact bodyPost_ret (v := .agg #[.int .i64 3, .slice (some ⟨w4.heap.size, 0, none⟩) 1 1, .int .i64 0, .int .u64 0, .int .i64 0, .int .u64 0]) (by simp [results, Tryz.results98, go_sem, v0, v1, v2, v3, v4, v5]) rfl ⟨_, _, rfl, hN.keep (Nat.le_refl _) (fun k hk => by have := T4.out.lo; omega) (fun _ _ _ => rfl), hrd, hgr⟩
    · have hdb : ((deeperR r1 q.pos).err == 0) = false := beq_false_of_ne hde
      rw [if_neg hde] at hx
      rw [hdb] at hD
      have hw : IntKind.i64.wrap ((deeperR r1 q.pos).deep - 1) = (deeperR r1 q.pos).deep - 1 := by rw [IntWalk.i64_in _ (by rw [hdp.2.1, hgo.deep]; omega)]
      obtain rfl : (Ex.zero, up (deeperR r1 q.pos)) = x := Option.some.inj hx
      have HD := Lib.hid hD
      clear hx hgo hdp hde hdb hnr hD HF HTe hnx he0 h1
      generalize deeperR r1 q.pos = r2 at HD hw ⊢
      show Calls _ _ _ _ (ExR w b A cap S (Ex.zero, up r2))
      go_enter Tryz.func98, Tryz.ntmps98
      go_wp2_with (first | (go_at_call 121; (with_reducible refine (HD.out _ T2.out.rd).mono ?_); rintro e w3 ⟨rfl, hr3, hg3⟩; have hc := T2.out.call hr3 hg3; clear u0 u1 u2 u3 u4 u5 y0 y1 y2 y3 y4 y5; have hcu := hc.up; have d4 : w3.cell? ⟨b, 4, none⟩ = some (.int .i64 r2.deep) := World.rowIs.cell hc.rd.row (i := 4) (by decide); have dz := World.rowIs.frozen hc.rd.row 4; have p0 := cell6 hcu.ex 0 rfl; have p1 := cell6 hcu.ex 1 rfl; have p2 := cell6 hcu.ex 2 rfl; have p3 := cell6 hcu.ex 3 rfl; have p4 := cell6 hcu.ex 4 rfl; have p5 := cell6 hcu.ex 5 rfl; have u0 := cell6 hcu.res 0 rfl; have u1 := cell6 hcu.res 1 rfl; have u2 := cell6 hcu.res 2 rfl; have u3 := cell6 hcu.res 3 rfl; have u4 := cell6 hcu.res 4 rfl; have u5 := cell6 hcu.res 5 rfl; have y0 := frozen6 hcu.res 0; have y1 := frozen6 hcu.res 1; have y2 := frozen6 hcu.res 2; have y3 := frozen6 hcu.res 3; have y4 := frozen6 hcu.res 4; have y5 := frozen6 hcu.res 5; have T3 := Lib.hid hc; clear hc hr3 hg3) | (go_at_call 120; (with_reducible refine (HFd.out _).mono ?_); rintro e w' ⟨rfl, rfl⟩) | (go_at_call 71; (with_reducible refine (HN.out _ hp0).mono ?_); rintro e w1 ⟨rfl, hr1, hg1⟩; have hT := one_new (q := q) hlt HR0.out HG0.out hr1 hg1; have hTk := World.alloc_heap_new w1 (tkO q); have k0 := cell6 hTk 0 rfl; have k1 := cell6 hTk 1 rfl; have k3 := cell6 hTk 3 rfl; have e5 : ((w1.alloc (tkO q)).alloc (exO 0 0 0 0 0)).cell? ⟨b, 5, none⟩ = some (.int .i64 r1.err) := World.rowIs.cell hT.rd.row (i := 5) (by decide); have l1 : w.heap.size < w1.heap.size := hT.lo; have hR1 := kept_box HR0.out hg1 (by omega); have u0 := cell6 hR1 0 rfl; have u1 := cell6 hR1 1 rfl; have u2 := cell6 hR1 2 rfl; have u3 := cell6 hR1 3 rfl; have u4 := cell6 hR1 4 rfl; have u5 := cell6 hR1 5 rfl; have y0 := frozen6 hR1 0; have y1 := frozen6 hR1 1; have y2 := frozen6 hR1 2; have y3 := frozen6 hR1 3; have y4 := frozen6 hR1 4; have y5 := frozen6 hR1 5; have T2 := Lib.hid hT; have H1 := Lib.hid (And.intro hr1 (And.intro (grown_trans HG0.out hg1) hR1)); clear hr1 hg1 hT hTk hR1))
      exact bodyPost_ret (v := .agg #[.int .i64 0, .slice none 0 0, .int .i64 0, .int .u64 0, .int .i64 0, .int .u64 0]) (by simp [results, Tryz.results98, go_sem, u0, u1, u2, u3, u4, u5, World.cell?_setCell_same']; exact ⟨rfl, rfl, rfl, rfl, rfl, rfl⟩) rfl ⟨none, 0, rfl, (T3.out.up.fin _ _ _ _ _ _).1, (T3.out.up.fin _ _ _ _ _ _).2.1, (T3.out.up.fin _ _ _ _ _ _).2.2⟩
  rw [if_neg h1] at hx
  by_cases h2 : q.kind = 4 ∧ q.text = bOpen
  · rw [if_pos h2] at hx
    have hgo := hnr he0 (by rw [h2.1]; decide)
    have hdp := goes_deeper hgo.j q.pos
    have b1 : (q.kind == 2) = false := by rw [h2.1]; rfl
    have b3 : (q.kind == 4) = true := beq_iff_eq.2 h2.1
    have b4 : (q.text.toList == [40]) = true := lit_is6 h2.2
    by_cases hde : (deeperR r1 q.pos).err = 0
    · have hdb : ((deeperR r1 q.pos).err == 0) = true := beq_iff_eq.2 hde
      have hdl := deeper_le he0 hde
      rw [if_pos hde] at hx
      rw [hdb] at hD
      cases ho : expr' (deeperR r1 q.pos) with
      | none => rw [ho] at hx; cases hx
      | some y =>
        rw [ho] at hx
        obtain rfl : (y.1, up (y.2.wantR S 4 bShut)) = x := Option.some.inj hx
        have hO := fun W hW => hexp W b A cap (deeperR r1 q.pos) y hdp.2.2 (by rw [hdp.2.1, hgo.deep]; omega) (by rw [hdl.2]; exact hdl.1) hW ho
        have hyg := hg2 _ y hdp.2.2 ho
        have hwg := goes_want hyg.j 4 (by decide) bShut
        have hyd : (y.2.wantR S 4 bShut).deep = r.deep + 1 := by rw [hwg.deep, hyg.deep, hdp.2.1, hgo.deep]
        have hw : IntKind.i64.wrap ((y.2.wantR S 4 bShut).deep - 1) = (y.2.wantR S 4 bShut).deep - 1 := by rw [IntWalk.i64_in _ (by omega)]
        have hWa := fun w h => rd6_want w b A cap S y.2 h 4 ⟨#[41]⟩ (by have := hyg.j.le; omega)
        have HD := Lib.hid hD
        have HO := Lib.hid hO
        have HWa : Hid (∀ w (h : RdAt w b A cap S y.2), Calls Tryz.prog 35 #[.pointer (some ⟨b, 0, none⟩), .int .i64 4, .string ⟨#[41]⟩] w (RdP w b A cap S (.tuple #[]) (y.2.wantR S 4 bShut))) := Lib.hid hWa
        generalize deeperR r1 q.pos = r2 at HD HO
        obtain ⟨y, r3⟩ := y
        simp only at hw HO HWa ⊢
        clear hx h1 h2 hgo hdp hde hdb hdl ho hO hyg hwg hyd hWa hnr hD HF HTe hnx he0
        generalize r3.wantR S 4 bShut = r4 at HWa hw ⊢
        show Calls _ _ _ _ (ExR w b A cap S (y, up r4))
        go_enter Tryz.func98, Tryz.ntmps98
        go_wp2_with (first | (go_at_call 35; (with_reducible refine (HWa.out _ T4.out.rd).mono ?_); rintro e w5 ⟨rfl, hr5, hg5⟩; have hc := T4.out.call hr5 hg5; have hcu := hc.up; have d4 : w5.cell? ⟨b, 4, none⟩ = some (.int .i64 r4.deep) := World.rowIs.cell hc.rd.row (i := 4) (by decide); have dz := World.rowIs.frozen hc.rd.row 4; have p0 := cell6 hcu.ex 0 rfl; have p1 := cell6 hcu.ex 1 rfl; have p2 := cell6 hcu.ex 2 rfl; have p3 := cell6 hcu.ex 3 rfl; have p4 := cell6 hcu.ex 4 rfl; have p5 := cell6 hcu.ex 5 rfl; have u0 := cell6 hcu.res 0 rfl; have u1 := cell6 hcu.res 1 rfl; have u2 := cell6 hcu.res 2 rfl; have u3 := cell6 hcu.res 3 rfl; have u4 := cell6 hcu.res 4 rfl; have u5 := cell6 hcu.res 5 rfl; have y0 := frozen6 hcu.res 0; have y1 := frozen6 hcu.res 1; have y2 := frozen6 hcu.res 2; have y3 := frozen6 hcu.res 3; have y4 := frozen6 hcu.res 4; have y5 := frozen6 hcu.res 5; have T5 := Lib.hid hc; clear hc hcu hr5 hg5) | (go_at_call 42; (with_reducible refine (HO.out _ T3.out.rd).mono ?_); rintro e w4 ⟨Ay, cy, rfl, hy, hr4, hg4⟩; have hc := T3.out.call hr4 hg4; have hyy := hy.keep (Nat.le_refl _) (fun c hc2 => show w1.heap.size + 1 < c from Nat.lt_of_lt_of_le T3.out.size hc2) (fun _ _ _ => rfl); have m0 := cell6 hc.ex 0 rfl; have m1 := cell6 hc.ex 1 rfl; have m2 := cell6 hc.ex 2 rfl; have m3 := cell6 hc.ex 3 rfl; have m4 := cell6 hc.ex 4 rfl; have m5 := cell6 hc.ex 5 rfl; have n0 := frozen6 hc.ex 0; have n1 := frozen6 hc.ex 1; have n2 := frozen6 hc.ex 2; have n3 := frozen6 hc.ex 3; have n4 := frozen6 hc.ex 4; have n5 := frozen6 hc.ex 5; have T4 := Lib.hid (hc.setEx hyy); clear hc hy hyy hr4 hg4) | (go_at_call 121; (with_reducible refine (HD.out _ T2.out.rd).mono ?_); rintro e w3 ⟨rfl, hr3, hg3⟩; have hc := T2.out.call hr3 hg3; clear u0 u1 u2 u3 u4 u5 y0 y1 y2 y3 y4 y5; skip; have T3 := Lib.hid hc; clear hc hr3 hg3) | (go_at_call 120; (with_reducible refine (HFd.out _).mono ?_); rintro e w' ⟨rfl, rfl⟩) | (go_at_call 71; (with_reducible refine (HN.out _ hp0).mono ?_); rintro e w1 ⟨rfl, hr1, hg1⟩; have hT := one_new (q := q) hlt HR0.out HG0.out hr1 hg1; have hTk := World.alloc_heap_new w1 (tkO q); have k0 := cell6 hTk 0 rfl; have k1 := cell6 hTk 1 rfl; have k3 := cell6 hTk 3 rfl; have e5 : ((w1.alloc (tkO q)).alloc (exO 0 0 0 0 0)).cell? ⟨b, 5, none⟩ = some (.int .i64 r1.err) := World.rowIs.cell hT.rd.row (i := 5) (by decide); have l1 : w.heap.size < w1.heap.size := hT.lo; have hR1 := kept_box HR0.out hg1 (by omega); have u0 := cell6 hR1 0 rfl; have u1 := cell6 hR1 1 rfl; have u2 := cell6 hR1 2 rfl; have u3 := cell6 hR1 3 rfl; have u4 := cell6 hR1 4 rfl; have u5 := cell6 hR1 5 rfl; have y0 := frozen6 hR1 0; have y1 := frozen6 hR1 1; have y2 := frozen6 hR1 2; have y3 := frozen6 hR1 3; have y4 := frozen6 hR1 4; have y5 := frozen6 hR1 5; have T2 := Lib.hid hT; have H1 := Lib.hid (And.intro hr1 (And.intro (grown_trans HG0.out hg1) hR1)); clear hr1 hg1 hT hTk hR1))
        exact bodyPost_ret (v := exV y Ay cy) (by simp [results, Tryz.results98, go_sem, u0, u1, u2, u3, u4, u5, World.cell?_setCell_same']) rfl ⟨Ay, cy, rfl, (T5.out.up.fin _ _ _ _ _ _).1, (T5.out.up.fin _ _ _ _ _ _).2.1, (T5.out.up.fin _ _ _ _ _ _).2.2⟩
    · have hdb : ((deeperR r1 q.pos).err == 0) = false := beq_false_of_ne hde
      rw [if_neg hde] at hx
      rw [hdb] at hD
      have hw : IntKind.i64.wrap ((deeperR r1 q.pos).deep - 1) = (deeperR r1 q.pos).deep - 1 := by rw [IntWalk.i64_in _ (by rw [hdp.2.1, hgo.deep]; omega)]
      obtain rfl : (Ex.zero, up (deeperR r1 q.pos)) = x := Option.some.inj hx
      have HD := Lib.hid hD
      clear hx hgo hdp hde hdb hnr hD HF HTe hnx he0 h1 h2
      generalize deeperR r1 q.pos = r2 at HD hw ⊢
      show Calls _ _ _ _ (ExR w b A cap S (Ex.zero, up r2))
      go_enter Tryz.func98, Tryz.ntmps98
      go_wp2_with (first | (go_at_call 121; (with_reducible refine (HD.out _ T2.out.rd).mono ?_); rintro e w3 ⟨rfl, hr3, hg3⟩; have hc := T2.out.call hr3 hg3; clear u0 u1 u2 u3 u4 u5 y0 y1 y2 y3 y4 y5; have hcu := hc.up; have d4 : w3.cell? ⟨b, 4, none⟩ = some (.int .i64 r2.deep) := World.rowIs.cell hc.rd.row (i := 4) (by decide); have dz := World.rowIs.frozen hc.rd.row 4; have p0 := cell6 hcu.ex 0 rfl; have p1 := cell6 hcu.ex 1 rfl; have p2 := cell6 hcu.ex 2 rfl; have p3 := cell6 hcu.ex 3 rfl; have p4 := cell6 hcu.ex 4 rfl; have p5 := cell6 hcu.ex 5 rfl; have u0 := cell6 hcu.res 0 rfl; have u1 := cell6 hcu.res 1 rfl; have u2 := cell6 hcu.res 2 rfl; have u3 := cell6 hcu.res 3 rfl; have u4 := cell6 hcu.res 4 rfl; have u5 := cell6 hcu.res 5 rfl; have y0 := frozen6 hcu.res 0; have y1 := frozen6 hcu.res 1; have y2 := frozen6 hcu.res 2; have y3 := frozen6 hcu.res 3; have y4 := frozen6 hcu.res 4; have y5 := frozen6 hcu.res 5; have T3 := Lib.hid hc; clear hc hr3 hg3) | (go_at_call 120; (with_reducible refine (HFd.out _).mono ?_); rintro e w' ⟨rfl, rfl⟩) | (go_at_call 71; (with_reducible refine (HN.out _ hp0).mono ?_); rintro e w1 ⟨rfl, hr1, hg1⟩; have hT := one_new (q := q) hlt HR0.out HG0.out hr1 hg1; have hTk := World.alloc_heap_new w1 (tkO q); have k0 := cell6 hTk 0 rfl; have k1 := cell6 hTk 1 rfl; have k3 := cell6 hTk 3 rfl; have e5 : ((w1.alloc (tkO q)).alloc (exO 0 0 0 0 0)).cell? ⟨b, 5, none⟩ = some (.int .i64 r1.err) := World.rowIs.cell hT.rd.row (i := 5) (by decide); have l1 : w.heap.size < w1.heap.size := hT.lo; have hR1 := kept_box HR0.out hg1 (by omega); have u0 := cell6 hR1 0 rfl; have u1 := cell6 hR1 1 rfl; have u2 := cell6 hR1 2 rfl; have u3 := cell6 hR1 3 rfl; have u4 := cell6 hR1 4 rfl; have u5 := cell6 hR1 5 rfl; have y0 := frozen6 hR1 0; have y1 := frozen6 hR1 1; have y2 := frozen6 hR1 2; have y3 := frozen6 hR1 3; have y4 := frozen6 hR1 4; have y5 := frozen6 hR1 5; have T2 := Lib.hid hT; have H1 := Lib.hid (And.intro hr1 (And.intro (grown_trans HG0.out hg1) hR1)); clear hr1 hg1 hT hTk hR1))
      exact bodyPost_ret (v := .agg #[.int .i64 0, .slice none 0 0, .int .i64 0, .int .u64 0, .int .i64 0, .int .u64 0]) (by simp [results, Tryz.results98, go_sem, u0, u1, u2, u3, u4, u5, World.cell?_setCell_same']; exact ⟨rfl, rfl, rfl, rfl, rfl, rfl⟩) rfl ⟨none, 0, rfl, (T3.out.up.fin _ _ _ _ _ _).1, (T3.out.up.fin _ _ _ _ _ _).2.1, (T3.out.up.fin _ _ _ _ _ _).2.2⟩
  rw [if_neg h2] at hx
  clear hD hg1 hg2 hone hexp
  by_cases h3 : q.kind = 2 ∧ q.text = bTrue
  · rw [if_pos h3] at hx
    have b1 : (q.kind == 2) = true := beq_iff_eq.2 h3.1
    have b3 : (q.kind == 4) = false := by rw [h3.1]; rfl
    have b2 : (q.text.toList == [110, 111, 116]) = false := lit_ne6 (fun e => h1 ⟨h3.1, e⟩)
    have b5 : (q.text.toList == [116, 114, 117, 101]) = true := lit_is6 h3.2
    obtain rfl : (Ex.plain 1, r1) = x := Option.some.inj hx
    clear hx h1 h2 h3 hnr HF HTe hnx he0
    go_enter Tryz.func98, Tryz.ntmps98
    go_wp2_with (first | (go_at_call 120; (with_reducible refine (HFd.out _).mono ?_); rintro e w' ⟨rfl, rfl⟩) | (go_at_call 71; (with_reducible refine (HN.out _ hp0).mono ?_); rintro e w1 ⟨rfl, hr1, hg1⟩; have hT := one_new (q := q) hlt HR0.out HG0.out hr1 hg1; have hTk := World.alloc_heap_new w1 (tkO q); have k0 := cell6 hTk 0 rfl; have k1 := cell6 hTk 1 rfl; have k3 := cell6 hTk 3 rfl; have e5 : ((w1.alloc (tkO q)).alloc (exO 0 0 0 0 0)).cell? ⟨b, 5, none⟩ = some (.int .i64 r1.err) := World.rowIs.cell hT.rd.row (i := 5) (by decide); have l1 : w.heap.size < w1.heap.size := hT.lo; have hR1 := kept_box HR0.out hg1 (by omega); have u0 := cell6 hR1 0 rfl; have u1 := cell6 hR1 1 rfl; have u2 := cell6 hR1 2 rfl; have u3 := cell6 hR1 3 rfl; have u4 := cell6 hR1 4 rfl; have u5 := cell6 hR1 5 rfl; have y0 := frozen6 hR1 0; have y1 := frozen6 hR1 1; have y2 := frozen6 hR1 2; have y3 := frozen6 hR1 3; have y4 := frozen6 hR1 4; have y5 := frozen6 hR1 5; have T2 := Lib.hid hT; have H1 := Lib.hid (And.intro hr1 (And.intro (grown_trans HG0.out hg1) hR1)); clear hr1 hg1 hT hTk hR1))
    have hz := kept_alloc (kept_alloc (heap_set1 (heap_set1 (heap_set1 (heap_set1 (heap_set1 (heap_set1 H1.out.2.2 0 (.int .i64 1)) 1 (.slice none 0 0)) 2 (.int .i64 0)) 3 (.int .u64 0)) 4 (.int .i64 0)) 5 (.int .u64 0)) (tkO q)) (exO 1 0 0 0 0)
    have v0 := cell6 hz 0 rfl
    have v1 := cell6 hz 1 rfl
    have v2 := cell6 hz 2 rfl
    have v3 := cell6 hz 3 rfl
    have v4 := cell6 hz 4 rfl
    have v5 := cell6 hz 5 rfl
    exact bodyPost_ret (v := .agg #[.int .i64 1, .slice none 0 0, .int .i64 0, .int .u64 0, .int .i64 0, .int .u64 0]) (by simp [results, Tryz.results98, go_sem, v0, v1, v2, v3, v4, v5]) rfl ⟨none, 0, rfl, .inl ⟨rfl, rfl, rfl⟩, (((((((H1.out.1.new hlt 0 _).new hlt 1 _).new hlt 2 _).new hlt 3 _).new hlt 4 _).new hlt 5 _).below (lbox _ _)).below (lbox _ _), grown_trans (gset6 H1.out.2.1 (Nat.le_refl _) _ _ _ _ _ _) (grown_of_below (below_two _ _ _) (some b))⟩
  rw [if_neg h3] at hx
  by_cases h4 : q.kind = 2 ∧ q.text = bFalse
  · rw [if_pos h4] at hx
    have b1 : (q.kind == 2) = true := beq_iff_eq.2 h4.1
    have b3 : (q.kind == 4) = false := by rw [h4.1]; rfl
    have b2 : (q.text.toList == [110, 111, 116]) = false := lit_ne6 (fun e => h1 ⟨h4.1, e⟩)
    have b5 : (q.text.toList == [116, 114, 117, 101]) = false := lit_ne6 (fun e => h3 ⟨h4.1, e⟩)
    have b6 : (q.text.toList == [102, 97, 108, 115, 101]) = true := lit_is6 h4.2
    obtain rfl : (Ex.plain 2, r1) = x := Option.some.inj hx
    clear hx h1 h2 h3 h4 hnr HF HTe hnx he0
    go_enter Tryz.func98, Tryz.ntmps98
    go_wp2_with (first | (go_at_call 120; (with_reducible refine (HFd.out _).mono ?_); rintro e w' ⟨rfl, rfl⟩) | (go_at_call 71; (with_reducible refine (HN.out _ hp0).mono ?_); rintro e w1 ⟨rfl, hr1, hg1⟩; have hT := one_new (q := q) hlt HR0.out HG0.out hr1 hg1; have hTk := World.alloc_heap_new w1 (tkO q); have k0 := cell6 hTk 0 rfl; have k1 := cell6 hTk 1 rfl; have k3 := cell6 hTk 3 rfl; have e5 : ((w1.alloc (tkO q)).alloc (exO 0 0 0 0 0)).cell? ⟨b, 5, none⟩ = some (.int .i64 r1.err) := World.rowIs.cell hT.rd.row (i := 5) (by decide); have l1 : w.heap.size < w1.heap.size := hT.lo; have hR1 := kept_box HR0.out hg1 (by omega); have u0 := cell6 hR1 0 rfl; have u1 := cell6 hR1 1 rfl; have u2 := cell6 hR1 2 rfl; have u3 := cell6 hR1 3 rfl; have u4 := cell6 hR1 4 rfl; have u5 := cell6 hR1 5 rfl; have y0 := frozen6 hR1 0; have y1 := frozen6 hR1 1; have y2 := frozen6 hR1 2; have y3 := frozen6 hR1 3; have y4 := frozen6 hR1 4; have y5 := frozen6 hR1 5; have T2 := Lib.hid hT; have H1 := Lib.hid (And.intro hr1 (And.intro (grown_trans HG0.out hg1) hR1)); clear hr1 hg1 hT hTk hR1))
    have hz := kept_alloc (kept_alloc (heap_set1 (heap_set1 (heap_set1 (heap_set1 (heap_set1 (heap_set1 H1.out.2.2 0 (.int .i64 2)) 1 (.slice none 0 0)) 2 (.int .i64 0)) 3 (.int .u64 0)) 4 (.int .i64 0)) 5 (.int .u64 0)) (tkO q)) (exO 2 0 0 0 0)
    have v0 := cell6 hz 0 rfl
    have v1 := cell6 hz 1 rfl
    have v2 := cell6 hz 2 rfl
    have v3 := cell6 hz 3 rfl
    have v4 := cell6 hz 4 rfl
    have v5 := cell6 hz 5 rfl
    exact bodyPost_ret (v := .agg #[.int .i64 2, .slice none 0 0, .int .i64 0, .int .u64 0, .int .i64 0, .int .u64 0]) (by simp [results, Tryz.results98, go_sem, v0, v1, v2, v3, v4, v5]) rfl ⟨none, 0, rfl, .inl ⟨rfl, rfl, rfl⟩, (((((((H1.out.1.new hlt 0 _).new hlt 1 _).new hlt 2 _).new hlt 3 _).new hlt 4 _).new hlt 5 _).below (lbox _ _)).below (lbox _ _), grown_trans (gset6 H1.out.2.1 (Nat.le_refl _) _ _ _ _ _ _) (grown_of_below (below_two _ _ _) (some b))⟩
  rw [if_neg h4] at hx
  by_cases h5 : q.kind = 2 ∧ 0 ≤ fieldF q.text
  · rw [if_pos h5] at hx
    have b1 : (q.kind == 2) = true := beq_iff_eq.2 h5.1
    have b3 : (q.kind == 4) = false := by rw [h5.1]; rfl
    have b2 : (q.text.toList == [110, 111, 116]) = false := lit_ne6 (fun e => h1 ⟨h5.1, e⟩)
    have b5 : (q.text.toList == [116, 114, 117, 101]) = false := lit_ne6 (fun e => h3 ⟨h5.1, e⟩)
    have b6 : (q.text.toList == [102, 97, 108, 115, 101]) = false := lit_ne6 (fun e => h4 ⟨h5.1, e⟩)
    have hf0 := h5.2
    have hte : (testE S (fieldF q.text) r1).1 = .mk 6 [] (fieldF q.text) (testE S (fieldF q.text) r1).1.mask (testE S (fieldF q.text) r1).1.rel (testE S (fieldF q.text) r1).1.value := rfl
    obtain rfl : testE S (fieldF q.text) r1 = x := Option.some.inj hx
    clear hx h1 h2 h3 h4 h5 hnr HF hnx he0
    generalize testE S (fieldF q.text) r1 = x at HTe hte ⊢
    obtain ⟨y, r3⟩ := x
    simp only at HTe hte ⊢
    generalize fieldF q.text = f at *
    generalize y.mask = ym at HTe hte
    generalize y.rel = yr at HTe hte
    generalize y.value = yv at HTe hte
    subst hte
    go_enter Tryz.func98, Tryz.ntmps98
    go_wp2_with (first | (go_at_call 122; (with_reducible refine (HTe.out _ T2.out.rd).mono ?_); rintro e w3 ⟨rfl, hr3, hg3⟩; have hc := T2.out.call hr3 hg3; clear u0 u1 u2 u3 u4 u5 y0 y1 y2 y3 y4 y5; have m0 := cell6 hc.ex 0 rfl; have m1 := cell6 hc.ex 1 rfl; have m2 := cell6 hc.ex 2 rfl; have m3 := cell6 hc.ex 3 rfl; have m4 := cell6 hc.ex 4 rfl; have m5 := cell6 hc.ex 5 rfl; have n0 := frozen6 hc.ex 0; have n1 := frozen6 hc.ex 1; have n2 := frozen6 hc.ex 2; have n3 := frozen6 hc.ex 3; have n4 := frozen6 hc.ex 4; have n5 := frozen6 hc.ex 5; have hs : OneAt w ((((((w3.setCell ⟨w1.heap.size + 1, 0, none⟩ (.int .i64 6)).setCell ⟨w1.heap.size + 1, 1, none⟩ (.slice none 0 0)).setCell ⟨w1.heap.size + 1, 2, none⟩ (.int .i64 f)).setCell ⟨w1.heap.size + 1, 3, none⟩ (.int .u64 (ym : Int))).setCell ⟨w1.heap.size + 1, 4, none⟩ (.int .i64 yr)).setCell ⟨w1.heap.size + 1, 5, none⟩ (.int .u64 (yv : Int))) b A cap S r3 w1.heap.size q (.mk 6 [] f ym yr yv) none 0 := hc.setEx (x' := .mk 6 [] f ym yr yv) (A' := none) (c' := 0) (.inl ⟨rfl, rfl, rfl⟩); have u0 := cell6 hs.res 0 rfl; have u1 := cell6 hs.res 1 rfl; have u2 := cell6 hs.res 2 rfl; have u3 := cell6 hs.res 3 rfl; have u4 := cell6 hs.res 4 rfl; have u5 := cell6 hs.res 5 rfl; have y0 := frozen6 hs.res 0; have y1 := frozen6 hs.res 1; have y2 := frozen6 hs.res 2; have y3 := frozen6 hs.res 3; have y4 := frozen6 hs.res 4; have y5 := frozen6 hs.res 5; have T3 := Lib.hid hs; clear hc hs hr3 hg3) | (go_at_call 120; (with_reducible refine (HFd.out _).mono ?_); rintro e w' ⟨rfl, rfl⟩) | (go_at_call 71; (with_reducible refine (HN.out _ hp0).mono ?_); rintro e w1 ⟨rfl, hr1, hg1⟩; have hT := one_new (q := q) hlt HR0.out HG0.out hr1 hg1; have hTk := World.alloc_heap_new w1 (tkO q); have k0 := cell6 hTk 0 rfl; have k1 := cell6 hTk 1 rfl; have k3 := cell6 hTk 3 rfl; have e5 : ((w1.alloc (tkO q)).alloc (exO 0 0 0 0 0)).cell? ⟨b, 5, none⟩ = some (.int .i64 r1.err) := World.rowIs.cell hT.rd.row (i := 5) (by decide); have l1 : w.heap.size < w1.heap.size := hT.lo; have hR1 := kept_box HR0.out hg1 (by omega); have u0 := cell6 hR1 0 rfl; have u1 := cell6 hR1 1 rfl; have u2 := cell6 hR1 2 rfl; have u3 := cell6 hR1 3 rfl; have u4 := cell6 hR1 4 rfl; have u5 := cell6 hR1 5 rfl; have y0 := frozen6 hR1 0; have y1 := frozen6 hR1 1; have y2 := frozen6 hR1 2; have y3 := frozen6 hR1 3; have y4 := frozen6 hR1 4; have y5 := frozen6 hR1 5; have T2 := Lib.hid hT; have H1 := Lib.hid (And.intro hr1 (And.intro (grown_trans HG0.out hg1) hR1)); clear hr1 hg1 hT hTk hR1))
    exact bodyPost_ret (v := .agg #[.int .i64 6, .slice none 0 0, .int .i64 f, .int .u64 (ym : Int), .int .i64 yr, .int .u64 (yv : Int)]) (by simp [results, Tryz.results98, go_sem, u0, u1, u2, u3, u4, u5, World.cell?_setCell_same']) rfl ⟨none, 0, rfl, (T3.out.fin _ _ _ _ _ _).1, (T3.out.fin _ _ _ _ _ _).2.1, (T3.out.fin _ _ _ _ _ _).2.2⟩
  rw [if_neg h5] at hx
  obtain rfl : (Ex.zero, r1.fails 61 q.pos) = x := Option.some.inj hx
  generalize r1.fails 61 q.pos = r3 at HF ⊢
  clear hx hnr HTe hnx he0
  by_cases k2 : q.kind = 2
  · have b1 : (q.kind == 2) = true := beq_iff_eq.2 k2
    have b3 : (q.kind == 4) = false := by rw [k2]; rfl
    have b2 : (q.text.toList == [110, 111, 116]) = false := lit_ne6 (fun e => h1 ⟨k2, e⟩)
    have b5 : (q.text.toList == [116, 114, 117, 101]) = false := lit_ne6 (fun e => h3 ⟨k2, e⟩)
    have b6 : (q.text.toList == [102, 97, 108, 115, 101]) = false := lit_ne6 (fun e => h4 ⟨k2, e⟩)
    have hf0 : ¬ 0 ≤ fieldF q.text := fun e => h5 ⟨k2, e⟩
    clear h1 h2 h3 h4 h5 k2
    generalize fieldF q.text = f at *
    go_enter Tryz.func98, Tryz.ntmps98
    go_wp2_with (first | (go_at_call 40; (with_reducible refine (HF.out _ T2.out.rd).mono ?_); rintro e w3 ⟨rfl, hr3, hg3⟩; have hc := T2.out.call hr3 hg3; clear u0 u1 u2 u3 u4 u5 y0 y1 y2 y3 y4 y5; have p0 := cell6 hc.ex 0 rfl; have p1 := cell6 hc.ex 1 rfl; have p2 := cell6 hc.ex 2 rfl; have p3 := cell6 hc.ex 3 rfl; have p4 := cell6 hc.ex 4 rfl; have p5 := cell6 hc.ex 5 rfl; have u0 := cell6 hc.res 0 rfl; have u1 := cell6 hc.res 1 rfl; have u2 := cell6 hc.res 2 rfl; have u3 := cell6 hc.res 3 rfl; have u4 := cell6 hc.res 4 rfl; have u5 := cell6 hc.res 5 rfl; have y0 := frozen6 hc.res 0; have y1 := frozen6 hc.res 1; have y2 := frozen6 hc.res 2; have y3 := frozen6 hc.res 3; have y4 := frozen6 hc.res 4; have y5 := frozen6 hc.res 5; have T3 := Lib.hid hc; clear hc hr3 hg3) | (go_at_call 120; (with_reducible refine (HFd.out _).mono ?_); rintro e w' ⟨rfl, rfl⟩) | (go_at_call 71; (with_reducible refine (HN.out _ hp0).mono ?_); rintro e w1 ⟨rfl, hr1, hg1⟩; have hT := one_new (q := q) hlt HR0.out HG0.out hr1 hg1; have hTk := World.alloc_heap_new w1 (tkO q); have k0 := cell6 hTk 0 rfl; have k1 := cell6 hTk 1 rfl; have k3 := cell6 hTk 3 rfl; have e5 : ((w1.alloc (tkO q)).alloc (exO 0 0 0 0 0)).cell? ⟨b, 5, none⟩ = some (.int .i64 r1.err) := World.rowIs.cell hT.rd.row (i := 5) (by decide); have l1 : w.heap.size < w1.heap.size := hT.lo; have hR1 := kept_box HR0.out hg1 (by omega); have u0 := cell6 hR1 0 rfl; have u1 := cell6 hR1 1 rfl; have u2 := cell6 hR1 2 rfl; have u3 := cell6 hR1 3 rfl; have u4 := cell6 hR1 4 rfl; have u5 := cell6 hR1 5 rfl; have y0 := frozen6 hR1 0; have y1 := frozen6 hR1 1; have y2 := frozen6 hR1 2; have y3 := frozen6 hR1 3; have y4 := frozen6 hR1 4; have y5 := frozen6 hR1 5; have T2 := Lib.hid hT; have H1 := Lib.hid (And.intro hr1 (And.intro (grown_trans HG0.out hg1) hR1)); clear hr1 hg1 hT hTk hR1))
    exact bodyPost_ret (v := .agg #[.int .i64 0, .slice none 0 0, .int .i64 0, .int .u64 0, .int .i64 0, .int .u64 0]) (by simp [results, Tryz.results98, go_sem, u0, u1, u2, u3, u4, u5, World.cell?_setCell_same']; exact ⟨rfl, rfl, rfl, rfl, rfl, rfl⟩) rfl ⟨none, 0, rfl, (T3.out.fin _ _ _ _ _ _).1, (T3.out.fin _ _ _ _ _ _).2.1, (T3.out.fin _ _ _ _ _ _).2.2⟩
  have b1 : (q.kind == 2) = false := beq_false_of_ne k2
  clear h1 h3 h4 h5 k2
  generalize fieldF q.text = f at *
  by_cases k4 : q.kind = 4
  · have b3 : (q.kind == 4) = true := beq_iff_eq.2 k4
    have b4 : (q.text.toList == [40]) = false := lit_ne6 (fun e => h2 ⟨k4, e⟩)
    clear h2 k4
    go_enter Tryz.func98, Tryz.ntmps98
    go_wp2_with (first | (go_at_call 40; (with_reducible refine (HF.out _ T2.out.rd).mono ?_); rintro e w3 ⟨rfl, hr3, hg3⟩; have hc := T2.out.call hr3 hg3; clear u0 u1 u2 u3 u4 u5 y0 y1 y2 y3 y4 y5; have p0 := cell6 hc.ex 0 rfl; have p1 := cell6 hc.ex 1 rfl; have p2 := cell6 hc.ex 2 rfl; have p3 := cell6 hc.ex 3 rfl; have p4 := cell6 hc.ex 4 rfl; have p5 := cell6 hc.ex 5 rfl; have u0 := cell6 hc.res 0 rfl; have u1 := cell6 hc.res 1 rfl; have u2 := cell6 hc.res 2 rfl; have u3 := cell6 hc.res 3 rfl; have u4 := cell6 hc.res 4 rfl; have u5 := cell6 hc.res 5 rfl; have y0 := frozen6 hc.res 0; have y1 := frozen6 hc.res 1; have y2 := frozen6 hc.res 2; have y3 := frozen6 hc.res 3; have y4 := frozen6 hc.res 4; have y5 := frozen6 hc.res 5; have T3 := Lib.hid hc; clear hc hr3 hg3) | (go_at_call 120; (with_reducible refine (HFd.out _).mono ?_); rintro e w' ⟨rfl, rfl⟩) | (go_at_call 71; (with_reducible refine (HN.out _ hp0).mono ?_); rintro e w1 ⟨rfl, hr1, hg1⟩; have hT := one_new (q := q) hlt HR0.out HG0.out hr1 hg1; have hTk := World.alloc_heap_new w1 (tkO q); have k0 := cell6 hTk 0 rfl; have k1 := cell6 hTk 1 rfl; have k3 := cell6 hTk 3 rfl; have e5 : ((w1.alloc (tkO q)).alloc (exO 0 0 0 0 0)).cell? ⟨b, 5, none⟩ = some (.int .i64 r1.err) := World.rowIs.cell hT.rd.row (i := 5) (by decide); have l1 : w.heap.size < w1.heap.size := hT.lo; have hR1 := kept_box HR0.out hg1 (by omega); have u0 := cell6 hR1 0 rfl; have u1 := cell6 hR1 1 rfl; have u2 := cell6 hR1 2 rfl; have u3 := cell6 hR1 3 rfl; have u4 := cell6 hR1 4 rfl; have u5 := cell6 hR1 5 rfl; have y0 := frozen6 hR1 0; have y1 := frozen6 hR1 1; have y2 := frozen6 hR1 2; have y3 := frozen6 hR1 3; have y4 := frozen6 hR1 4; have y5 := frozen6 hR1 5; have T2 := Lib.hid hT; have H1 := Lib.hid (And.intro hr1 (And.intro (grown_trans HG0.out hg1) hR1)); clear hr1 hg1 hT hTk hR1))
    exact bodyPost_ret (v := .agg #[.int .i64 0, .slice none 0 0, .int .i64 0, .int .u64 0, .int .i64 0, .int .u64 0]) (by simp [results, Tryz.results98, go_sem, u0, u1, u2, u3, u4, u5, World.cell?_setCell_same']; exact ⟨rfl, rfl, rfl, rfl, rfl, rfl⟩) rfl ⟨none, 0, rfl, (T3.out.fin _ _ _ _ _ _).1, (T3.out.fin _ _ _ _ _ _).2.1, (T3.out.fin _ _ _ _ _ _).2.2⟩
  have b3 : (q.kind == 4) = false := beq_false_of_ne k4
  clear h2 k4
  go_enter Tryz.func98, Tryz.ntmps98
  go_wp2_with (first | (go_at_call 40; (with_reducible refine (HF.out _ T2.out.rd).mono ?_); rintro e w3 ⟨rfl, hr3, hg3⟩; have hc := T2.out.call hr3 hg3; clear u0 u1 u2 u3 u4 u5 y0 y1 y2 y3 y4 y5; have p0 := cell6 hc.ex 0 rfl; have p1 := cell6 hc.ex 1 rfl; have p2 := cell6 hc.ex 2 rfl; have p3 := cell6 hc.ex 3 rfl; have p4 := cell6 hc.ex 4 rfl; have p5 := cell6 hc.ex 5 rfl; have u0 := cell6 hc.res 0 rfl; have u1 := cell6 hc.res 1 rfl; have u2 := cell6 hc.res 2 rfl; have u3 := cell6 hc.res 3 rfl; have u4 := cell6 hc.res 4 rfl; have u5 := cell6 hc.res 5 rfl; have y0 := frozen6 hc.res 0; have y1 := frozen6 hc.res 1; have y2 := frozen6 hc.res 2; have y3 := frozen6 hc.res 3; have y4 := frozen6 hc.res 4; have y5 := frozen6 hc.res 5; have T3 := Lib.hid hc; clear hc hr3 hg3) | (go_at_call 120; (with_reducible refine (HFd.out _).mono ?_); rintro e w' ⟨rfl, rfl⟩) | (go_at_call 71; (with_reducible refine (HN.out _ hp0).mono ?_); rintro e w1 ⟨rfl, hr1, hg1⟩; have hT := one_new (q := q) hlt HR0.out HG0.out hr1 hg1; have hTk := World.alloc_heap_new w1 (tkO q); have k0 := cell6 hTk 0 rfl; have k1 := cell6 hTk 1 rfl; have k3 := cell6 hTk 3 rfl; have e5 : ((w1.alloc (tkO q)).alloc (exO 0 0 0 0 0)).cell? ⟨b, 5, none⟩ = some (.int .i64 r1.err) := World.rowIs.cell hT.rd.row (i := 5) (by decide); have l1 : w.heap.size < w1.heap.size := hT.lo; have hR1 := kept_box HR0.out hg1 (by omega); have u0 := cell6 hR1 0 rfl; have u1 := cell6 hR1 1 rfl; have u2 := cell6 hR1 2 rfl; have u3 := cell6 hR1 3 rfl; have u4 := cell6 hR1 4 rfl; have u5 := cell6 hR1 5 rfl; have y0 := frozen6 hR1 0; have y1 := frozen6 hR1 1; have y2 := frozen6 hR1 2; have y3 := frozen6 hR1 3; have y4 := frozen6 hR1 4; have y5 := frozen6 hR1 5; have T2 := Lib.hid hT; have H1 := Lib.hid (And.intro hr1 (And.intro (grown_trans HG0.out hg1) hR1)); clear hr1 hg1 hT hTk hR1))
  exact bodyPost_ret (v := .agg #[.int .i64 0, .slice none 0 0, .int .i64 0, .int .u64 0, .int .i64 0, .int .u64 0]) (by simp [results, Tryz.results98, go_sem, u0, u1, u2, u3, u4, u5, World.cell?_setCell_same']; exact ⟨rfl, rfl, rfl, rfl, rfl, rfl⟩) rfl ⟨none, 0, rfl, (T3.out.fin _ _ _ _ _ _).1, (T3.out.fin _ _ _ _ _ _).2.1, (T3.out.fin _ _ _ _ _ _).2.2⟩
end Go.Proofs.YtgeapkjegemkeaaGreatDoor

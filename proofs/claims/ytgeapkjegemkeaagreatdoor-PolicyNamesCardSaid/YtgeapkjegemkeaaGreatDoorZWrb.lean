/-
  What the program writes of expressions and policies: contracts. Conditions: those that each names.
-/
import Derived.Test.YtgeapkjegemkeaaGreatDoorZWra
namespace Go.Proofs.YtgeapkjegemkeaaGreatDoor
open Go Go.RowKit
set_option linter.unusedSimpArgs false
set_option linter.unusedVariables false

/-- A builder under way, behind a world. -/
structure Ws (w0 W : World) (b : Nat) (l : List UInt8) : Prop where
  bld : Bld b l W
  old : Below w0.heap.size w0 W
  le : w0.heap.size ≤ b
theorem Ws.wrote {w0 W W' : World} {b : Nat} {l m : List UInt8} (h : Ws w0 W b l) (k : Wrote b m W W') : Ws w0 W' b m := ⟨k.bld, h.old.trans (k.below.mono h.le), h.le⟩
theorem Ws.up {w0 W W' : World} {b : Nat} {l : List UInt8} (h : Ws w0 W b l) (hb : Below W.heap.size W W') : Ws w0 W' b l := ⟨bld_below h.bld hb, h.old.trans (hb.mono h.old.size), h.le⟩
theorem Ws.box {w0 W : World} {b : Nat} {l : List UInt8} (h : Ws w0 W b l) (o : Obj) : Ws w0 (W.alloc o) b l := h.up (lbox W o)
theorem Ws.drew {w0 W : World} {b : Nat} {l : List UInt8} (h : Ws w0 W b l) : Ws w0 W.drew b l := h.up (below_drawn (Below.refl _ _) 1)
theorem Ws.lt {w0 W : World} {b : Nat} {l : List UInt8} (h : Ws w0 W b l) : b < W.heap.size := bld_lt h.bld
theorem wrote_box {b : Nat} {l m : List UInt8} {w0 W V : World} {o : Obj} (h : Ws w0 W b l) (k : Wrote b m (W.alloc o) V) : Wrote b m W V :=
  ⟨k.bld, ((lbox W o).mono (Nat.le_of_lt h.lt)).trans k.below, (keptW_below (lbox W o)).trans k.kept⟩
/-- A box of another kind stays. -/
theorem boxW_kept {b : Nat} {m : List UInt8} {W V : World} {k : Nat} {c : Array Value} {T : TypeId} (h : Wrote b m W V) (hk : W.heap[k]? = some (.cells c T)) (hb : b < k) (hT : T ≠ 5) : V.heap[k]? = some (.cells c T) :=
  h.kept k _ hk (fun e => by injection e with e; omega) (fun c' fz e => by injection e with _ e2 _; exact hT e2)
theorem exW_cells {w : World} {b : Nat} {x : Ex} {A : Option Addr} {cap : Nat} (h : w.heap[b]? = some (exCells x A cap)) :
    w.cell? ⟨b, 0, none⟩ = some (.int .i64 x.op) ∧ w.cell? ⟨b, 1, none⟩ = some (.slice A x.args.length cap) ∧ w.cell? ⟨b, 2, none⟩ = some (.int .i64 x.field) ∧ w.cell? ⟨b, 3, none⟩ = some (.int .u64 (x.mask : Int)) ∧ w.cell? ⟨b, 4, none⟩ = some (.int .i64 x.rel) ∧ w.cell? ⟨b, 5, none⟩ = some (.int .u64 (x.value : Int)) :=
  ⟨cell6 h 0 rfl, cell6 h 1 rfl, cell6 h 2 rfl, cell6 h 3 rfl, cell6 h 4 rfl, cell6 h 5 rfl⟩
abbrev ndO (o : Int) (S : Value) : Obj := .cells #[.int .i64 o, S, .int .i64 0, .int .u64 0, .int .i64 0, .int .u64 0] 39
theorem nd_cells {w : World} {b : Nat} {o : Int} {S : Value} (h : w.heap[b]? = some (ndO o S)) :
    w.cell? ⟨b, 0, none⟩ = some (.int .i64 o) ∧ w.cell? ⟨b, 1, none⟩ = some S ∧ w.cell? ⟨b, 2, none⟩ = some (.int .i64 0) ∧ w.cell? ⟨b, 3, none⟩ = some (.int .u64 0) ∧ w.cell? ⟨b, 4, none⟩ = some (.int .i64 0) ∧ w.cell? ⟨b, 5, none⟩ = some (.int .u64 0) :=
  ⟨cell6 h 0 rfl, cell6 h 1 rfl, cell6 h 2 rfl, cell6 h 3 rfl, cell6 h 4 rfl, cell6 h 5 rfl⟩
set_option maxRecDepth 100000 in
theorem p_writeHead {w0 W : World} {b : Nat} {l : List UInt8} (h : Ws w0 W b l) (s t : ByteArray) (hs : s.size ≤ 1000) (ht : t.size ≤ 1000) (hl : l.length ≤ 70000000000) :
    Calls Tryz.prog 54 #[.pointer (some ⟨b, 0, none⟩), .string s, .string t] W fun e V => e = .returned (.tuple #[]) ∧ Wrote b (l ++ (s.data.toList ++ 32 :: (t.data.toList ++ [59, 10]))) W V := by
  have e1 : s ++ (⟨#[32]⟩ : ByteArray) ++ t ++ (⟨#[59, 10]⟩ : ByteArray) = strL (s.data.toList ++ 32 :: (t.data.toList ++ [59, 10])) := by
    conv => lhs; rw [str_self s, str_self t]
    rw [show (⟨#[32]⟩ : ByteArray) = strL [32] from rfl, show (⟨#[59, 10]⟩ : ByteArray) = strL [59, 10] from rfl, strL_append, strL_append, strL_append]
    simp
  have l1 : (s.data.toList ++ 32 :: (t.data.toList ++ [59, 10])).length ≤ 2003 := by
    rw [← strL_size, ← e1, size_app, size_app, size_app]; show s.size + 1 + t.size + 2 ≤ _; omega
  have HW := Lib.hid (bld_write h.bld _ _ e1 (by omega))
  have z1 : s.size + 1 ≤ 1001 := by omega
  have z2 : (s ++ (⟨#[32]⟩ : ByteArray)).size + t.size ≤ 2001 := by rw [size_app]; show s.size + 1 + _ ≤ _; omega
  have z3 : (s ++ (⟨#[32]⟩ : ByteArray) ++ t).size + 2 ≤ 2003 := by rw [size_app, size_app]; show s.size + 1 + _ + 2 ≤ _; omega
  have y2 : s.size + 1 + t.size ≤ 2001 := by omega
  have y3 : s.size + 1 + t.size + 2 ≤ 2003 := by omega
  clear e1 l1 h
  go_enter Tryz.func54, Tryz.ntmps54
  go_wp2_with (go_at_call 30; (refine HW.out.mono ?_); rintro e V ⟨⟨n, rfl⟩, hk⟩; have HK := Lib.hid hk; clear hk)
  go_end0
  exact ⟨rfl, HK.out⟩
/-- What writing an expression does. -/
def WX (w0 : World) (x : Ex) (A : Option Addr) (cap : Nat) : Prop := ∀ (b : Nat) (l : List UInt8) (W : World), Ws w0 W b l → l.length + (exL x).length ≤ 140737488355328 →
  Calls Tryz.prog 32 #[.pointer (some ⟨b, 0, none⟩), exV x A cap] W fun e V => e = .returned (.tuple #[]) ∧ Wrote b (l ++ exL x) W V
set_option maxRecDepth 100000 in
theorem p_writeArg {w0 : World} {y : Ex} {A : Option Addr} {cap : Nat} (hy : GEx y) (ih : WX w0 y A cap) {o : Int} (ho : OpOK o) {W : World} {b : Nat} {l : List UInt8} (h : Ws w0 W b l) (hl : l.length + (wrapL (brkB o y.op) (exL y)).length ≤ 140737488355328) :
    Calls Tryz.prog 67 #[.pointer (some ⟨b, 0, none⟩), .int .i64 o, exV y A cap] W fun e V => e = .returned (.tuple #[]) ∧ Wrote b (l ++ wrapL (brkB o y.op) (exL y)) W V := by
  have HB := Lib.hid (fun V => p_bracketed ho (gex_op hy) V)
  have HS := Lib.hid (h.box (exCells y A cap))
  have HX := Lib.hid (World.alloc_heap_new W (exCells y A cap))
  have HI := Lib.hid ih
  have HL := Lib.hid (And.intro h hl)
  have hbl := h.lt
  clear ih ho hl h
  cases hq : brkB o y.op with
  | false =>
    rw [hq] at HB
    have HL2 := Lib.hid (show wrapL (brkB o y.op) (exL y) = exL y by rw [hq]; rfl)
    rw [show wrapL false (exL y) = exL y from rfl]
    have H1 := Lib.hid (HI.out b l _ HS.out (by have := HL.out.2; rw [HL2.out] at this; exact this))
    clear hq HI
    go_enter Tryz.func67, Tryz.ntmps67
    go_wp2_with (first
      | (go_at_call 69; (with_reducible refine (HB.out _).mono ?_); rintro e w1 ⟨rfl, rfl⟩)
      | (go_at_call 32; (with_reducible refine H1.out.mono ?_); rintro e V ⟨rfl, hk⟩; have HK := Lib.hid (wrote_box HL.out.1 hk); clear hk))
    refine bodyPost_ret (results_none rfl _ _ _) rfl ?_
    exact ⟨rfl, HK.out⟩
  | true =>
    rw [hq] at HB
    have HL2 := Lib.hid (show (wrapL (brkB o y.op) (exL y)).length = (exL y).length + 2 by rw [hq]; show (40 :: (exL y ++ [41])).length = _; simp)
    have hl3 : l.length + ((exL y).length + 2) ≤ 140737488355328 := by have := HL.out.2; rw [HL2.out] at this; exact this
    have HE := Lib.hid (show l ++ wrapL true (exL y) = ((l ++ [40]) ++ exL y) ++ [41] by show l ++ 40 :: (exL y ++ [41]) = _; simp)
    rw [HE.out]
    have HW1 := Lib.hid (bld_write HS.out.bld ⟨#[40]⟩ [40] rfl (by simp only [List.length_cons, List.length_nil]; omega))
    have HIA := Lib.hid (fun V hV => HI.out b (l ++ [40]) V hV (by rw [List.length_append]; simp only [List.length_cons, List.length_nil]; omega))
    have HW2 := Lib.hid (fun V hV => bld_write (b := b) (l := (l ++ [40]) ++ exL y) (w := V) hV ⟨#[41]⟩ [41] rfl (by rw [List.length_append, List.length_append]; simp only [List.length_cons, List.length_nil]; omega))
    clear hq HI hl3
    go_enter Tryz.func67, Tryz.ntmps67
    go_upto_region 4 with (first
      | (go_at_call 69; (with_reducible refine (HB.out _).mono ?_); rintro e w1 ⟨rfl, rfl⟩)
      | (go_at_call 30; (with_reducible refine HW1.out.mono ?_); rintro e V ⟨⟨n, rfl⟩, hk⟩; have HK1 := Lib.hid (And.intro (HS.out.wrote hk) (And.intro hk (boxW_kept hk HX.out hbl (by decide)))); obtain ⟨c0, c1, c2, c3, c4, c5⟩ := exW_cells HK1.out.2.2; clear hk))
    go_upto_region 5 with (go_at_call 32; (with_reducible refine (HIA.out _ HK1.out.1).mono ?_); rintro e V2 ⟨rfl, hk⟩; have HK2 := Lib.hid (And.intro (HK1.out.1.wrote hk) (HK1.out.2.1.trans hk)); clear hk)
    go_wp2_with (go_at_call 30; (with_reducible refine (HW2.out _ HK2.out.1.bld).mono ?_); rintro e V3 ⟨⟨n2, rfl⟩, hk⟩; have HK3 := Lib.hid (wrote_box HL.out.1 (HK2.out.2.trans hk)); clear hk)
    go_end0
    exact ⟨rfl, HK3.out⟩
/-- What has been written once the first k arguments have been gone through. -/
def argsP (o : Int) (l : List Ex) : Nat → List UInt8
  | 0 => []
  | k + 1 => argsP o l k ++ ((if 0 < k then sepL o else []) ++ wrapL (brkB o (l.getD k .zero).op) (exL (l.getD k .zero)))
theorem more_snoc (o : Int) : ∀ (l : List Ex) (e : Ex), moreL o (l ++ [e]) = moreL o l ++ (sepL o ++ wrapL (brkB o e.op) (exL e))
  | [], e => by rw [List.nil_append, moreL, moreL, moreL]; simp
  | a :: l, e => by rw [List.cons_append, moreL, moreL, more_snoc o l e]; simp
theorem argsL_snoc (o : Int) (l : List Ex) (e : Ex) : argsL o (l ++ [e]) = argsL o l ++ ((if 0 < l.length then sepL o else []) ++ wrapL (brkB o e.op) (exL e)) := by
  cases l with
  | nil => rw [List.nil_append, argsL, argsL, moreL]; simp
  | cons a l => rw [List.cons_append, argsL, argsL, more_snoc, if_pos (by simp)]; simp
theorem argsP_take (o : Int) (l : List Ex) : ∀ k, k ≤ l.length → argsP o l k = argsL o (l.take k)
  | 0, _ => by rw [List.take_zero, argsL]; rfl
  | k + 1, h => by
    have hk : k < l.length := by omega
    have e : l.take (k + 1) = l.take k ++ [l.getD k .zero] := by
      rw [List.take_add_one, List.getElem?_eq_getElem hk, List.getD_eq_getElem?_getD, List.getElem?_eq_getElem hk]; rfl
    rw [e, argsL_snoc, List.length_take, Nat.min_eq_left (by omega)]
    show argsP o l k ++ _ = _
    rw [argsP_take o l k (by omega)]
theorem argsP_all (o : Int) (l : List Ex) : argsP o l l.length = argsL o l := by rw [argsP_take o l _ (Nat.le_refl _), List.take_length]
theorem argsP_le (o : Int) (l : List Ex) (k : Nat) : ∀ m, (argsP o l k).length ≤ (argsP o l (k + m)).length
  | 0 => Nat.le_refl _
  | m + 1 => by
    have := argsP_le o l k m
    show _ ≤ (argsP o l (k + m) ++ _).length
    rw [List.length_append]; omega
theorem argsP_lt (o : Int) (l : List Ex) (k : Nat) (h : k ≤ l.length) : (argsP o l k).length ≤ (argsL o l).length := by
  have := argsP_le o l k (l.length - k)
  rw [show k + (l.length - k) = l.length by omega, argsP_all] at this
  exact this
set_option maxHeartbeats 4000000 in
set_option maxRecDepth 100000 in
theorem p_writeArgs {w0 : World} {o : Int} (ho : o = 4 ∨ o = 5) {l : List Ex} {A : Option Addr} {cap : Nat} (hx : ExL w0 (.node o l) A cap) (hg : ∀ e ∈ l, GEx e) (ih : ∀ k, k < l.length → ∀ A1 cap1, ExL w0 (l.getD k .zero) A1 cap1 → WX w0 (l.getD k .zero) A1 cap1)
    {W : World} {b : Nat} {d : List UInt8} (h : Ws w0 W b d) (hl : d.length + (argsL o l).length ≤ 140737488355328) (mk : ByteArray) (hm : mk = strL (sepL o)) :
    Calls Tryz.prog 68 #[.pointer (some ⟨b, 0, none⟩), .agg #[.int .i64 o, .slice A l.length cap, .int .i64 0, .int .u64 0, .int .i64 0, .int .u64 0], .string mk] W fun e V => e = .returned (.tuple #[]) ∧ Wrote b (d ++ argsL o l) W V := by
  have hlen : l.length ≤ maxLen := hx.1
  unfold maxLen at hlen
  have hO : OpOK o := by unfold OpOK; omega
  have HX := Lib.hid hx
  have HG := Lib.hid hg
  have HI := Lib.hid ih
  have HM := Lib.hid hm
  have H0 := Lib.hid (And.intro h hl)
  have hbl := h.lt
  have HB0 := Lib.hid (World.alloc_heap_new W (ndO o (.slice A l.length cap)))
  have HS0 : Hid (Wrote b (d ++ argsP o l 0) W (W.alloc (ndO o (.slice A l.length cap))) ∧ (W.alloc (ndO o (.slice A l.length cap))).heap[W.heap.size]? = some (ndO o (.slice A l.length cap))) := Lib.hid ⟨wrote_box h (by rw [show argsP o l 0 = [] from rfl, List.append_nil]; exact Wrote.start (bld_below h.bld (lbox W _))), HB0.out⟩
  clear hx hg ih hm h hl ho
  go_enter Tryz.func68, Tryz.ntmps68
  go_wp2
  go_loopw [11] (fun v wr => ∃ k : Nat, k ≤ l.length ∧ v = .int .i64 (k : Int) ∧ Wrote b (d ++ argsP o l k) W wr ∧ wr.heap[W.heap.size]? = some (ndO o (.slice A l.length cap))) (fun v _ => l.length - (intOf v).toNat)
  case atStart => exact ⟨0, Nat.zero_le _, rfl, HS0.out.1, HS0.out.2⟩
  case round =>
    obtain ⟨k, hk, rfl, hW, hbx⟩ := hrel
    by_cases hlt : k < l.length
    · have hlt' : (k : Int) < (l.length : Int) := by omega
      have hw : IntKind.i64.wrap ((k : Int) + 1) = ((k + 1 : Nat) : Int) := by rw [IntWalk.i64_in _ (by omega)]; omega
      have hWs := H0.out.1.wrote hW
      obtain ⟨tb, ob, hA, htl, A1, cap1, hx1, hc1⟩ := exL_arg (x := .node o l) HX.out k hlt
      change ExL w0 (l.getD k .zero) A1 cap1 at hx1
      change ∀ j u, (exC (l.getD k .zero) A1 cap1)[j]? = some u → w0.cell? ⟨tb, ob + k * 6 + j, none⟩ = some u at hc1
      have hgy : GEx (l.getD k .zero) := by
        rw [List.getD_eq_getElem?_getD, List.getElem?_eq_getElem hlt]; exact HG.out _ (List.getElem_mem hlt)
      have hP : argsP o l (k + 1) = argsP o l k ++ ((if 0 < k then sepL o else []) ++ wrapL (brkB o (l.getD k .zero).op) (exL (l.getD k .zero))) := rfl
      have hPl := argsP_lt o l (k + 1) hlt
      have ih1 := HI.out k hlt A1 cap1 hx1
      generalize l.getD k .zero = y at hx1 hc1 hgy hP ih1
      have e0 := (hWs.old.cell (p := ⟨tb, ob + k * 6, none⟩) htl).trans (hc1 0 _ rfl)
      have e1 := (hWs.old.cell (p := ⟨tb, ob + k * 6 + 1, none⟩) htl).trans (hc1 1 _ rfl)
      have e2 := (hWs.old.cell (p := ⟨tb, ob + k * 6 + 2, none⟩) htl).trans (hc1 2 _ rfl)
      have e3 := (hWs.old.cell (p := ⟨tb, ob + k * 6 + 3, none⟩) htl).trans (hc1 3 _ rfl)
      have e4 := (hWs.old.cell (p := ⟨tb, ob + k * 6 + 4, none⟩) htl).trans (hc1 4 _ rfl)
      have e5 := (hWs.old.cell (p := ⟨tb, ob + k * 6 + 5, none⟩) htl).trans (hc1 5 _ rfl)
      obtain ⟨p0, p1, p2, p3, p4, p5⟩ := nd_cells hbx
      have hrl := hWs.lt
      have HW1 : Hid (Ws w0 (wr.alloc (exCells y A1 cap1)) b (d ++ argsP o l k) ∧ Wrote b (d ++ argsP o l k) W (wr.alloc (exCells y A1 cap1)) ∧ (wr.alloc (exCells y A1 cap1)).heap[W.heap.size]? = some (ndO o (.slice A l.length cap)) ∧ (wr.alloc (exCells y A1 cap1)).heap[wr.heap.size]? = some (exCells y A1 cap1)) :=
        Lib.hid ⟨hWs.box _, hW.more (lbox wr _), kept_alloc hbx _, World.alloc_heap_new wr _⟩
      clear hx1 hc1 hW hbx hWs
      obtain ⟨pp, hpp⟩ : ∃ pp, argsP o l k = pp := ⟨_, rfl⟩
      rw [hpp] at hP HW1
      have hP2 : (argsP o l (k + 1)).length = pp.length + ((if 0 < k then sepL o else []) ++ wrapL (brkB o y.op) (exL y)).length := by rw [hP, List.length_append]
      have hlim := H0.out.2
      have HP := Lib.hid hP
      clear hP
      subst hA
      by_cases hk0 : 0 < k
      · have hk0' : (0 : Int) < (k : Int) := by omega
        rw [if_pos hk0, List.length_append] at hP2
        have HW2 := Lib.hid (fun V hV => bld_write (b := b) (l := d ++ pp) (w := V) hV mk (sepL o) HM.out (by rw [List.length_append]; omega))
        have HA2 := Lib.hid (fun V hV => p_writeArg (W := V) (b := b) (l := d ++ pp ++ sepL o) hgy ih1 hO hV (by rw [List.length_append, List.length_append]; omega))
        have HE := Lib.hid (show d ++ argsP o l (k + 1) = d ++ pp ++ sepL o ++ wrapL (brkB o y.op) (exL y) by rw [HP.out, if_pos hk0]; simp)
        clear hP2 hPl hlim ih1 hgy hk0
        go_wp2_with (first
          | (go_at_call 30; (with_reducible refine (HW2.out _ HW1.out.1.bld).mono ?_); rintro e V ⟨⟨n, rfl⟩, hk⟩; have HK1 := Lib.hid (And.intro (HW1.out.1.wrote hk) (And.intro (HW1.out.2.1.trans hk) (And.intro (boxW_kept hk HW1.out.2.2.1 hbl (by decide)) (boxW_kept hk HW1.out.2.2.2 hrl (by decide))))); obtain ⟨c0, c1, c2, c3, c4, c5⟩ := exW_cells HK1.out.2.2.2; obtain ⟨d0, -, -, -, -, -⟩ := nd_cells HK1.out.2.2.1; clear hk)
          | (go_at_call 67; (with_reducible refine (HA2.out _ HK1.out.1).mono ?_); rintro e V2 ⟨rfl, hk⟩; have HK2 := Lib.hid (And.intro (HK1.out.2.1.trans hk) (boxW_kept hk HK1.out.2.2.1 hbl (by decide))); clear hk))
        exact ⟨⟨k + 1, by omega, by go_num, by rw [HE.out]; exact HK2.out.1, HK2.out.2⟩, by simp [intOf]; omega⟩
      · have hk0' : ¬ (0 : Int) < (k : Int) := by omega
        rw [if_neg hk0, List.nil_append] at hP2
        have HA2 := Lib.hid (fun V hV => p_writeArg (W := V) (b := b) (l := d ++ pp) hgy ih1 hO hV (by rw [List.length_append]; omega))
        have HE := Lib.hid (show d ++ argsP o l (k + 1) = d ++ pp ++ wrapL (brkB o y.op) (exL y) by rw [HP.out, if_neg hk0]; simp)
        obtain ⟨d0, -, -, -, -, -⟩ := nd_cells HW1.out.2.2.1
        clear hP2 hPl hlim ih1 hgy hk0
        go_wp2_with (go_at_call 67; (with_reducible refine (HA2.out _ HW1.out.1).mono ?_); rintro e V2 ⟨rfl, hk⟩; have HK2 := Lib.hid (And.intro (HW1.out.2.1.trans hk) (boxW_kept hk HW1.out.2.2.1 hbl (by decide))); clear hk)
        exact ⟨⟨k + 1, by omega, by go_num, by rw [HE.out]; exact HK2.out.1, HK2.out.2⟩, by simp [intOf]; omega⟩
    · have hlt' : ¬ (k : Int) < (l.length : Int) := by omega
      have hkn : k = l.length := by omega
      rw [hkn, argsP_all] at hW
      have HW := Lib.hid hW
      clear hW hbx hkn
      go_wp2
      go_end0
      exact ⟨rfl, HW.out⟩
theorem wx_word (w0 : World) (A : Option Addr) (cap : Nat) (o : Int) (ho : o = 1 ∨ o = 2) : WX w0 (.plain o) A cap := by
  intro b l W h hl
  have HS := Lib.hid (h.box (ndO o (.slice A 0 cap)))
  have HL := Lib.hid h
  clear h
  rcases ho with rfl | rfl
  · rw [show exL (.plain 1) = [116, 114, 117, 101] by rw [show Ex.plain 1 = .mk 1 [] 0 0 0 0 from rfl, exL, if_pos rfl]] at hl ⊢
    have HW := Lib.hid (bld_write HS.out.bld ⟨#[116, 114, 117, 101]⟩ [116, 114, 117, 101] rfl hl)
    clear hl
    show Calls Tryz.prog 32 #[.pointer (some ⟨b, 0, none⟩), .agg #[.int .i64 1, .slice A 0 cap, .int .i64 0, .int .u64 0, .int .i64 0, .int .u64 0]] W _
    go_enter Tryz.func32, Tryz.ntmps32
    go_wp2_with (go_at_call 30; (with_reducible refine HW.out.mono ?_); rintro e V ⟨⟨n, rfl⟩, hk⟩; have HK := Lib.hid (wrote_box HL.out hk); clear hk)
    go_end0
    exact ⟨rfl, HK.out⟩
  · rw [show exL (.plain 2) = [102, 97, 108, 115, 101] by rw [show Ex.plain 2 = .mk 2 [] 0 0 0 0 from rfl, exL, if_neg (by decide), if_pos rfl]] at hl ⊢
    have HW := Lib.hid (bld_write HS.out.bld ⟨#[102, 97, 108, 115, 101]⟩ [102, 97, 108, 115, 101] rfl hl)
    clear hl
    show Calls Tryz.prog 32 #[.pointer (some ⟨b, 0, none⟩), .agg #[.int .i64 2, .slice A 0 cap, .int .i64 0, .int .u64 0, .int .i64 0, .int .u64 0]] W _
    go_enter Tryz.func32, Tryz.ntmps32
    go_wp2_with (go_at_call 30; (with_reducible refine HW.out.mono ?_); rintro e V ⟨⟨n, rfl⟩, hk⟩; have HK := Lib.hid (wrote_box HL.out hk); clear hk)
    go_end0
    exact ⟨rfl, HK.out⟩
theorem exL_test (f : Int) (m : Nat) (r : Int) (v : Nat) : exL (.mk 6 [] f m r v) = testL f m r v := by rw [exL, if_neg (by decide), if_neg (by decide), if_neg (by decide), if_neg (by decide)]
theorem exL_args (o : Int) (ho : o = 4 ∨ o = 5) (l : List Ex) : exL (.node o l) = argsL o l := by
  rcases ho with rfl | rfl <;> rw [Ex.node, exL, if_neg (by decide), if_neg (by decide), if_neg (by decide), if_pos (by decide)]
theorem exL_not (y : Ex) : exL (.node 3 [y]) = [110, 111, 116, 32] ++ wrapL (brkB 3 y.op) (exL y) := by
  rw [Ex.node, exL, if_neg (by decide), if_neg (by decide), if_pos rfl, headL]
set_option maxRecDepth 100000 in
theorem wx_test (w0 : World) (hT : Tbl w0) (A : Option Addr) (cap : Nat) (f : Int) (m : Nat) (r : Int) (v : Nat) (hf : 0 ≤ f ∧ f ≤ 6) (hr : 1 ≤ r ∧ r ≤ 6) (hm : m < 18446744073709551616) (hv : v < 18446744073709551616) : WX w0 (.mk 6 [] f m r v) A cap := by
  intro b l W h hl
  have HS := Lib.hid (h.box (exO9 6 (.slice A 0 cap) f m r v))
  have HL := Lib.hid h
  have HT := Lib.hid (p_testText A cap f m r v hf hr hm hv _ (hT.up HS.out.old))
  rw [exL_test] at hl ⊢
  have HW := Lib.hid (fun V hV => bld_write (b := b) (l := l) (w := V) hV (strL (testL f m r v)) (testL f m r v) rfl hl)
  obtain ⟨t, ht⟩ : ∃ t, strL (testL f m r v) = t := ⟨_, rfl⟩
  rw [ht] at HT HW
  clear hl h hT ht
  show Calls Tryz.prog 32 #[.pointer (some ⟨b, 0, none⟩), .agg #[.int .i64 6, .slice A 0 cap, .int .i64 f, .int .u64 (m : Int), .int .i64 r, .int .u64 (v : Int)]] W _
  go_enter Tryz.func32, Tryz.ntmps32
  go_wp2_with (first
    | (go_at_call 66; (with_reducible refine HT.out.mono ?_); rintro e V1 ⟨rfl, hb⟩; have HS1 := Lib.hid (And.intro (HS.out.up hb) hb); clear hb)
    | (go_at_call 30; (with_reducible refine (HW.out _ HS1.out.1.bld).mono ?_); rintro e V ⟨⟨n, rfl⟩, hk⟩; have HK := Lib.hid (wrote_box HL.out ((Wrote.start HS.out.bld).more HS1.out.2 |>.trans hk)); clear hk))
  go_end0
  exact ⟨rfl, HK.out⟩
set_option maxRecDepth 100000 in
theorem wx_args (w0 : World) {o : Int} (ho : o = 4 ∨ o = 5) {l : List Ex} {A : Option Addr} {cap : Nat} (hx : ExL w0 (.node o l) A cap) (h2 : 2 ≤ l.length) (hg : ∀ e ∈ l, GEx e)
    (ih : ∀ k, k < l.length → ∀ A1 cap1, ExL w0 (l.getD k .zero) A1 cap1 → WX w0 (l.getD k .zero) A1 cap1) : WX w0 (.node o l) A cap := by
  intro b d W h hl
  rw [exL_args o ho] at hl ⊢
  have HS := Lib.hid (h.box (ndO o (.slice A l.length cap)))
  have HL := Lib.hid h
  have h2' : (1 : Int) < (l.length : Int) := by omega
  have h1' : ((l.length : Int) == 1) = false := beq_false_of_ne (by omega)
  have h7 := fun mk hm => p_writeArgs ho hx hg ih HS.out hl mk hm
  clear hl h h2 hx hg ih
  rcases ho with rfl | rfl
  · have HA := Lib.hid (h7 ⟨#[32, 97, 110, 100, 32]⟩ rfl)
    clear h7
    show Calls Tryz.prog 32 #[.pointer (some ⟨b, 0, none⟩), .agg #[.int .i64 4, .slice A l.length cap, .int .i64 0, .int .u64 0, .int .i64 0, .int .u64 0]] W _
    go_enter Tryz.func32, Tryz.ntmps32
    go_wp2_with (go_at_call 68; (with_reducible refine HA.out.mono ?_); rintro e V ⟨rfl, hk⟩; have HK := Lib.hid (wrote_box HL.out hk); clear hk)
    go_end0
    exact ⟨rfl, HK.out⟩
  · have HA := Lib.hid (h7 ⟨#[32, 111, 114, 32]⟩ rfl)
    clear h7
    show Calls Tryz.prog 32 #[.pointer (some ⟨b, 0, none⟩), .agg #[.int .i64 5, .slice A l.length cap, .int .i64 0, .int .u64 0, .int .i64 0, .int .u64 0]] W _
    go_enter Tryz.func32, Tryz.ntmps32
    go_wp2_with (go_at_call 68; (with_reducible refine HA.out.mono ?_); rintro e V ⟨rfl, hk⟩; have HK := Lib.hid (wrote_box HL.out hk); clear hk)
    go_end0
    exact ⟨rfl, HK.out⟩
/-- What is held while the argument of a `not` is got. -/
structure NotS (W V : World) (y : Ex) (tb ob : Nat) (cap : Nat) (A1 : Option Addr) (cap1 : Nat) : Prop where
  box : V.heap[W.heap.size]? = some (ndO 3 (.slice (some ⟨tb, ob, none⟩) 1 cap))
  at_ : ∀ j u, (exC y A1 cap1)[j]? = some u → V.cell? ⟨tb, ob + j, none⟩ = some u
set_option maxHeartbeats 4000000 in
set_option maxRecDepth 100000 in
theorem wx_not (w0 : World) {y : Ex} {A : Option Addr} {cap : Nat} (hx : ExL w0 (.node 3 [y]) A cap) (hg : GEx y) (ih : ∀ A1 cap1, ExL w0 y A1 cap1 → WX w0 y A1 cap1) : WX w0 (.node 3 [y]) A cap := by
  intro b l W h hl
  rw [exL_not] at hl ⊢
  obtain ⟨tb, ob, hA, htl, A1, cap1, hx1, hc1⟩ := exL_arg (x := .node 3 [y]) hx 0 (by show 0 < 1; decide)
  change ExL w0 y A1 cap1 at hx1
  change ∀ j u, (exC y A1 cap1)[j]? = some u → w0.cell? ⟨tb, ob + 0 * 6 + j, none⟩ = some u at hc1
  rw [Nat.zero_mul, Nat.add_zero] at hc1
  subst hA
  have HS := Lib.hid (h.box (ndO 3 (.slice (some ⟨tb, ob, none⟩) 1 cap)))
  have HX := Lib.hid (World.alloc_heap_new W (ndO 3 (.slice (some ⟨tb, ob, none⟩) 1 cap)))
  have HL := Lib.hid h
  have hbl := h.lt
  rw [List.length_append] at hl
  simp only [List.length_cons, List.length_nil] at hl
  have HW := Lib.hid (bld_write HS.out.bld ⟨#[110, 111, 116, 32]⟩ [110, 111, 116, 32] rfl (by simp only [List.length_cons, List.length_nil]; omega))
  have HA := Lib.hid (fun V hV => p_writeArg (W := V) (b := b) (l := l ++ [110, 111, 116, 32]) hg (ih A1 cap1 hx1) (o := 3) (by unfold OpOK; omega) hV (by rw [List.length_append]; simp only [List.length_cons, List.length_nil]; omega))
  have HC := Lib.hid (And.intro htl hc1)
  rw [← List.append_assoc]
  clear hl h hx hg ih hx1 hc1 htl
  show Calls Tryz.prog 32 #[.pointer (some ⟨b, 0, none⟩), .agg #[.int .i64 3, .slice (some ⟨tb, ob, none⟩) 1 cap, .int .i64 0, .int .u64 0, .int .i64 0, .int .u64 0]] W _
  go_enter Tryz.func32, Tryz.ntmps32
  go_upto_region 10 with (go_at_call 30; (with_reducible refine HW.out.mono ?_); rintro e V ⟨⟨n, rfl⟩, hk⟩; have HK := Lib.hid (And.intro (wrote_box HL.out hk) (And.intro (HS.out.wrote hk) (boxW_kept hk HX.out hbl (by decide)))); clear hk)
  have HD0 : Hid (NotS W V.drew y tb ob cap A1 cap1 ∧ Wrote b (l ++ [110, 111, 116, 32]) W V.drew ∧ Ws w0 V.drew b (l ++ [110, 111, 116, 32])) := Lib.hid ⟨⟨HK.out.2.2, fun j u hj => (HK.out.2.1.drew.old.cell (p := ⟨tb, ob + j, none⟩) HC.out.1).trans (HC.out.2 j u hj)⟩, HK.out.1.more (below_drawn (Below.refl _ _) 1), HK.out.2.1.drew⟩
  refine wp_region_held_drew (S := fun W' => NotS W W' y tb ob cap A1 cap1) (by kernel_rfl) HD0.out.1 (fun hHeld => ?_)
  clear HK
  generalize V.drew = Y at HD0 hHeld ⊢
  clear hHeld
  have hHeld := HD0.out.1
  refine wpAnyH_take (i := 0) (v := ?_) rfl (by kernel_rfl) (by kernel_rfl) (by kernel_rfl) (fun _ _ _ h => h) (Or.inl ⟨by rfl, ?_⟩) (by assumption) ?_
  rotate_left
  · intro wS hSw
    (obtain ⟨b0, b1, b2, b3, b4, b5⟩ := nd_cells hSw.box; have e0 : wS.cell? ⟨tb, ob, none⟩ = some (.int .i64 y.op) := hSw.at_ 0 _ rfl; have e1 := hSw.at_ 1 _ rfl; have e2 := hSw.at_ 2 _ rfl; have e3 := hSw.at_ 3 _ rfl; have e4 := hSw.at_ 4 _ rfl; have e5 := hSw.at_ 5 _ rfl)
    go_simp
    all_goals with_reducible rfl
  (try simp only [List.getElem_toArray, List.getElem_cons_zero, List.getElem_cons_succ, Act.put, List.setIfInBounds_toArray, List.set_cons_zero, List.set_cons_succ])
  refine wpAnyH_take (i := 1) (v := ?_) rfl (by kernel_rfl) (by kernel_rfl) (by kernel_rfl) (fun _ _ _ h => h) (Or.inl ⟨by rfl, ?_⟩) (by assumption) ?_
  rotate_left
  · intro wS hSw
    (obtain ⟨b0, b1, b2, b3, b4, b5⟩ := nd_cells hSw.box; have e0 : wS.cell? ⟨tb, ob, none⟩ = some (.int .i64 y.op) := hSw.at_ 0 _ rfl; have e1 := hSw.at_ 1 _ rfl; have e2 := hSw.at_ 2 _ rfl; have e3 := hSw.at_ 3 _ rfl; have e4 := hSw.at_ 4 _ rfl; have e5 := hSw.at_ 5 _ rfl)
    go_simp
    all_goals with_reducible rfl
  (try simp only [List.getElem_toArray, List.getElem_cons_zero, List.getElem_cons_succ, Act.put, List.setIfInBounds_toArray, List.set_cons_zero, List.set_cons_succ])
  refine wpAnyH_take (i := 2) (v := ?_) rfl (by kernel_rfl) (by kernel_rfl) (by kernel_rfl) (fun _ _ _ h => h) (Or.inl ⟨by rfl, ?_⟩) (by assumption) ?_
  rotate_left
  · intro wS hSw
    (obtain ⟨b0, b1, b2, b3, b4, b5⟩ := nd_cells hSw.box; have e0 : wS.cell? ⟨tb, ob, none⟩ = some (.int .i64 y.op) := hSw.at_ 0 _ rfl; have e1 := hSw.at_ 1 _ rfl; have e2 := hSw.at_ 2 _ rfl; have e3 := hSw.at_ 3 _ rfl; have e4 := hSw.at_ 4 _ rfl; have e5 := hSw.at_ 5 _ rfl)
    go_simp
    all_goals with_reducible rfl
  (try simp only [List.getElem_toArray, List.getElem_cons_zero, List.getElem_cons_succ, Act.put, List.setIfInBounds_toArray, List.set_cons_zero, List.set_cons_succ])
  refine wpAnyH_take (i := 3) (v := ?_) rfl (by kernel_rfl) (by kernel_rfl) (by kernel_rfl) (fun _ _ _ h => h) (Or.inl ⟨by rfl, ?_⟩) (by assumption) ?_
  rotate_left
  · intro wS hSw
    (obtain ⟨b0, b1, b2, b3, b4, b5⟩ := nd_cells hSw.box; have e0 : wS.cell? ⟨tb, ob, none⟩ = some (.int .i64 y.op) := hSw.at_ 0 _ rfl; have e1 := hSw.at_ 1 _ rfl; have e2 := hSw.at_ 2 _ rfl; have e3 := hSw.at_ 3 _ rfl; have e4 := hSw.at_ 4 _ rfl; have e5 := hSw.at_ 5 _ rfl)
    go_simp
    all_goals with_reducible rfl
  (try simp only [List.getElem_toArray, List.getElem_cons_zero, List.getElem_cons_succ, Act.put, List.setIfInBounds_toArray, List.set_cons_zero, List.set_cons_succ])
  refine wpAnyH_take (i := 4) (v := ?_) rfl (by kernel_rfl) (by kernel_rfl) (by kernel_rfl) (fun _ _ _ h => h) (Or.inl ⟨by rfl, ?_⟩) (by assumption) ?_
  rotate_left
  · intro wS hSw
    (obtain ⟨b0, b1, b2, b3, b4, b5⟩ := nd_cells hSw.box; have e0 : wS.cell? ⟨tb, ob, none⟩ = some (.int .i64 y.op) := hSw.at_ 0 _ rfl; have e1 := hSw.at_ 1 _ rfl; have e2 := hSw.at_ 2 _ rfl; have e3 := hSw.at_ 3 _ rfl; have e4 := hSw.at_ 4 _ rfl; have e5 := hSw.at_ 5 _ rfl)
    go_simp
    all_goals with_reducible rfl
  (try simp only [List.getElem_toArray, List.getElem_cons_zero, List.getElem_cons_succ, Act.put, List.setIfInBounds_toArray, List.set_cons_zero, List.set_cons_succ])
  refine wpAnyH_take (i := 5) (v := ?_) rfl (by kernel_rfl) (by kernel_rfl) (by kernel_rfl) (fun _ _ _ h => h) (Or.inl ⟨by rfl, ?_⟩) (by assumption) ?_
  rotate_left
  · intro wS hSw
    (obtain ⟨b0, b1, b2, b3, b4, b5⟩ := nd_cells hSw.box; have e0 : wS.cell? ⟨tb, ob, none⟩ = some (.int .i64 y.op) := hSw.at_ 0 _ rfl; have e1 := hSw.at_ 1 _ rfl; have e2 := hSw.at_ 2 _ rfl; have e3 := hSw.at_ 3 _ rfl; have e4 := hSw.at_ 4 _ rfl; have e5 := hSw.at_ 5 _ rfl)
    go_simp
    all_goals with_reducible rfl
  (try simp only [List.getElem_toArray, List.getElem_cons_zero, List.getElem_cons_succ, Act.put, List.setIfInBounds_toArray, List.set_cons_zero, List.set_cons_succ])
  refine wpAnyH_take (i := 6) (v := ?_) rfl (by kernel_rfl) (by kernel_rfl) (by kernel_rfl) (fun _ _ _ h => h) (Or.inl ⟨by rfl, ?_⟩) (by assumption) ?_
  rotate_left
  · intro wS hSw
    (obtain ⟨b0, b1, b2, b3, b4, b5⟩ := nd_cells hSw.box; have e0 : wS.cell? ⟨tb, ob, none⟩ = some (.int .i64 y.op) := hSw.at_ 0 _ rfl; have e1 := hSw.at_ 1 _ rfl; have e2 := hSw.at_ 2 _ rfl; have e3 := hSw.at_ 3 _ rfl; have e4 := hSw.at_ 4 _ rfl; have e5 := hSw.at_ 5 _ rfl)
    go_simp
    all_goals with_reducible rfl
  (try simp only [List.getElem_toArray, List.getElem_cons_zero, List.getElem_cons_succ, Act.put, List.setIfInBounds_toArray, List.set_cons_zero, List.set_cons_succ])
  refine held_one (i := 7) (by kernel_rfl) rfl (fun K hK => ?_)
  go_simp
  go_at_call 67
  refine (HA.out _ HD0.out.2.2).mono ?_
  rintro e V2 ⟨rfl, hk⟩
  have HK2 := Lib.hid (HD0.out.2.1.trans hk)
  have hHeld2 : NotS W V2 y tb ob cap A1 cap1 := ⟨boxW_kept hk hHeld.box hbl (by decide), fun j u hj => ((HD0.out.2.2.wrote hk).old.cell (p := ⟨tb, ob + j, none⟩) HC.out.1).trans (HC.out.2 j u hj)⟩
  refine hK.out _ _ hHeld2 (fun hH2 => ?_)
  clear hK K hHeld hH2 HD0 hk
  (try simp only [Act.put, List.setIfInBounds_toArray, List.set_cons_zero, List.set_cons_succ, List.getElem_toArray, List.getElem_cons_zero, List.getElem_cons_succ])
  refine wpAnyH_done (by kernel_rfl) ?_ _
  go_wp2
  go_end0
  exact ⟨rfl, HK2.out⟩
end Go.Proofs.YtgeapkjegemkeaaGreatDoor
namespace Go.Proofs.YtgeapkjegemkeaaGreatDoor
open Go Go.RowKit
set_option linter.unusedSimpArgs false
set_option linter.unusedVariables false

theorem p_wx {x : Ex} (h : GEx x) (w0 : World) (hT : Tbl w0) : ∀ A cap, ExL w0 x A cap → WX w0 x A cap := by
  induction h with
  | yes => exact fun A cap _ => wx_word w0 A cap 1 (.inl rfl)
  | no => exact fun A cap _ => wx_word w0 A cap 2 (.inr rfl)
  | inv h ih => exact fun A cap hx => wx_not w0 hx h ih
  | @all l h2 ha ih =>
    refine fun A cap hx => wx_args w0 (.inl rfl) hx h2 ha (fun k hk A1 cap1 h1 => ?_)
    have e : l.getD k .zero = l[k] := by rw [List.getD_eq_getElem?_getD, List.getElem?_eq_getElem hk]; rfl
    rw [e] at h1 ⊢
    exact ih _ (List.getElem_mem hk) A1 cap1 h1
  | @any l h2 ha ih =>
    refine fun A cap hx => wx_args w0 (.inr rfl) hx h2 ha (fun k hk A1 cap1 h1 => ?_)
    have e : l.getD k .zero = l[k] := by rw [List.getD_eq_getElem?_getD, List.getElem?_eq_getElem hk]; rfl
    rw [e] at h1 ⊢
    exact ih _ (List.getElem_mem hk) A1 cap1 h1
  | test hf hr hm hv => exact fun A cap _ => wx_test w0 hT A cap _ _ _ _ hf hr hm hv
abbrev bldO : Obj := .cells #[.pointer none, .slice none 0 0] 55
theorem bld_new (w0 : World) : Bld w0.heap.size [] (w0.alloc bldO) := by
  show Lib.IsBuilder 55 5 w0.heap.size w0.heap.size (List.map _ []) _
  rw [List.map_nil]
  exact Lib.fresh_isBuilder 55 5 w0
theorem ws_new (w0 : World) : Ws w0 (w0.alloc bldO) w0.heap.size [] := { bld := bld_new w0, old := lbox w0 bldO, le := Nat.le_refl _ }
theorem ws_at (w0 : World) (b : Nat) (hb : b = w0.heap.size) : Ws w0 (w0.alloc bldO) b [] := by subst hb; exact ws_new w0
set_option maxRecDepth 100000 in
theorem p_PrintExpr {x : Ex} (h : GEx x) (hw : wtE x ≤ 140000) (w : World) (A : Option Addr) (cap : Nat) (hT : Tbl w) (hx : ExL w x A cap) :
    Calls Tryz.prog 12 #[exV x A cap] w fun e w' => e = .returned (.string (strL (exL x))) ∧ Below w.heap.size w w' := by
  have hl := ex_len h
  have hb0 := lbox w (exCells x A cap)
  have hsz : w.heap.size + 1 = (w.alloc (exCells x A cap)).heap.size := by simp
  have h1 := p_wx h (w.alloc (exCells x A cap)) (hT.up hb0) A cap (hx.below hb0)
  have hws := ws_at (w.alloc (exCells x A cap)) (w.heap.size + 1) hsz
  have he := h1 _ _ _ hws (by simp only [List.length_nil]; omega)
  rw [List.nil_append] at he
  have HE := Lib.hid he
  have HW := Lib.hid (And.intro hws hb0)
  obtain ⟨c0, c1, c2, c3, c4, c5⟩ := exW_cells (kept_alloc (World.alloc_heap_new w (exCells x A cap)) bldO)
  have HSt := Lib.hid (fun V (hV : Bld (w.heap.size + 1) (exL x) V) => bld_string hV)
  clear hl hb0 h1 hws h hw hT hx hsz he
  go_enter Tryz.func12, Tryz.ntmps12
  go_upto_region 3 with (go_at_call 32; (with_reducible refine HE.out.mono ?_); rintro e V ⟨rfl, hk⟩; have HK := Lib.hid (And.intro hk.bld (HW.out.2.trans ((HW.out.1.wrote hk).old.mono HW.out.2.size))); clear hk)
  go_wp2_with (go_at_call 24; (with_reducible refine (HSt.out _ HK.out.1).mono ?_); rintro e V2 ⟨rfl, hb⟩; have HK2 := Lib.hid (HK.out.2.trans (hb.mono (Nat.le_succ _))); clear hb)
  go_ret
  exact ⟨rfl, HK2.out⟩
theorem p_wrapping {o i : Int} (ho : OpOK o) (hi : OpOK i) (w : World) : Calls Tryz.prog 33 #[.int .i64 o, .int .i64 i] w fun e w' => e = .returned (.int .i64 (((if o = 3 then 1 else 0) + (if brkB o i = true then 1 else 0) : Nat) : Int)) ∧ w' = w := by
  have HB := Lib.hid (p_bracketed ho hi w)
  have h1 : o = 1 ∨ o = 2 ∨ o = 3 ∨ o = 4 ∨ o = 5 ∨ o = 6 := by unfold OpOK at ho; omega
  clear ho hi
  rcases h1 with rfl | rfl | rfl | rfl | rfl | rfl <;>
  · generalize brkB _ i = q at HB
    cases q <;>
    · go_enter Tryz.func33, Tryz.ntmps33
      go_wp2_with (go_at_call 69; (with_reducible refine HB.out.mono ?_); rintro e w1 ⟨rfl, rfl⟩)
      go_ret
      exact ⟨rfl, rfl⟩
theorem deeps_snoc (o : Int) : ∀ (l : List Ex) (e : Ex), deepsN o (l ++ [e]) = max (deepsN o l) ((if o = 3 then 1 else 0) + (if brkB o e.op = true then 1 else 0) + deepN e)
  | [], e => by simp only [List.nil_append, deepsN]; omega
  | a :: l, e => by rw [List.cons_append, deepsN, deepsN, deeps_snoc o l e]; omega
theorem deeps_le (o : Int) : ∀ (l : List Ex), (∀ e ∈ l, deepN e ≤ 2 * wtE e) → deepsN o l ≤ 2 * wtL l
  | [], _ => by rw [deepsN]; omega
  | a :: l, h => by
    have h1 := h a (by simp)
    have h2 := deeps_le o l (fun e he => h e (by simp [he]))
    rw [deepsN, wtL]
    have h3 : (if o = 3 then 1 else 0) ≤ 1 := by split <;> omega
    have h4 : (if brkB o a.op = true then 1 else 0) ≤ 1 := by split <;> omega
    omega
theorem deep_le : ∀ (N : Nat) (x : Ex), SizeOf.sizeOf x < N → deepN x ≤ 2 * wtE x
  | 0, x, hN => absurd hN (by omega)
  | N + 1, .mk o l f m r v, hN => by
    rw [deepN, wt_mk]
    have := deeps_le o l (fun e he => deep_le N e (by
      have := List.sizeOf_lt_of_mem he
      simp only [Ex.mk.sizeOf_spec] at hN
      omega))
    omega
theorem wt_in {l : List Ex} {e : Ex} (h : e ∈ l) : wtE e + 1 ≤ wtL l := by
  induction l with
  | nil => cases h
  | cons a l ih =>
    rw [wtL]
    rcases List.mem_cons.1 h with rfl | h
    · omega
    · have := ih h; omega
theorem take_snoc (l : List Ex) (k : Nat) (hk : k < l.length) : l.take (k + 1) = l.take k ++ [l.getD k .zero] := by
  rw [List.take_add_one, List.getElem?_eq_getElem hk, List.getD_eq_getElem?_getD, List.getElem?_eq_getElem hk]; rfl
/-- What is held while an argument's depth is got. -/
structure DepS (w W V : World) (o : Int) (l : List Ex) (A : Option Addr) (cap : Nat) (f : Int) (m : Nat) (r : Int) (v : Nat) (k : Nat) (y : Ex) (A1 : Option Addr) (cap1 : Nat) : Prop where
  below : Below w.heap.size w V
  box : V.heap[w.heap.size]? = some (exO9 o (.slice A l.length cap) f m r v)
  arg : V.heap[k]? = some (exCells y A1 cap1)
theorem DepS.up {w W V V' : World} {o : Int} {l : List Ex} {A : Option Addr} {cap : Nat} {f : Int} {m : Nat} {r : Int} {v : Nat} {k : Nat} {y : Ex} {A1 : Option Addr} {cap1 : Nat} (h : DepS w W V o l A cap f m r v k y A1 cap1) (hb : Below V.heap.size V V') : DepS w W V' o l A cap f m r v k y A1 cap1 :=
  ⟨h.below.trans (hb.mono h.below.size), (hb.block _ (Array.getElem?_eq_some_iff.1 h.box).1).trans h.box, (hb.block _ (Array.getElem?_eq_some_iff.1 h.arg).1).trans h.arg⟩
set_option maxHeartbeats 4000000 in
set_option maxRecDepth 100000 in
theorem p_Depth_on {o : Int} (ho : OpOK o) {l : List Ex} {f : Int} {m : Nat} {r : Int} {v : Nat} (hg : ∀ e ∈ l, GEx e) (hw : wtL l ≤ 140000) (w : World) (A : Option Addr) (cap : Nat) (hx : ExL w (.mk o l f m r v) A cap)
    (ih : ∀ k, k < l.length → ∀ (V : World) A1 cap1, ExL V (l.getD k .zero) A1 cap1 → Calls Tryz.prog 13 #[exV (l.getD k .zero) A1 cap1] V fun e w' => e = .returned (.int .i64 (deepN (l.getD k .zero) : Int)) ∧ Below V.heap.size V w') :
    Calls Tryz.prog 13 #[.agg #[.int .i64 o, .slice A l.length cap, .int .i64 f, .int .u64 (m : Int), .int .i64 r, .int .u64 (v : Int)]] w fun e w' => e = .returned (.int .i64 (deepsN o l : Int)) ∧ Below w.heap.size w w' := by
  have hlen : l.length ≤ maxLen := hx.1
  unfold maxLen at hlen
  have HX := Lib.hid hx
  have HG := Lib.hid hg
  have HI := Lib.hid ih
  have HW := Lib.hid hw
  have HO := Lib.hid ho
  have HS0 : Hid (Below w.heap.size w (w.alloc (exO9 o (.slice A l.length cap) f m r v)) ∧ (w.alloc (exO9 o (.slice A l.length cap) f m r v)).heap[w.heap.size]? = some (exO9 o (.slice A l.length cap) f m r v)) := Lib.hid ⟨lbox w _, World.alloc_heap_new w _⟩
  have HD := Lib.hid (fun (e : Ex) => deep_le _ e (Nat.lt_succ_self _))
  clear hx hg ih hw ho
  go_enter Tryz.func13, Tryz.ntmps13
  go_wp2
  go_loopw [3, 9] (fun a v' wr => ∃ (k n : Nat), k ≤ l.length ∧ a = .int .i64 (n : Int) ∧ v' = .int .i64 (k : Int) ∧ n = deepsN o (l.take k) ∧ Below w.heap.size w wr ∧ wr.heap[w.heap.size]? = some (exO9 o (.slice A l.length cap) f m r v)) (fun _ v' _ => l.length - (intOf v').toNat)
  case atStart => exact ⟨0, 0, Nat.zero_le _, rfl, rfl, by rw [List.take_zero, deepsN], HS0.out.1, HS0.out.2⟩
  case round =>
    obtain ⟨k, n, hk, rfl, rfl, hn, hb, hbx⟩ := hrel
    by_cases hlt : k < l.length
    · have hlt' : (k : Int) < (l.length : Int) := by omega
      have hw1 : IntKind.i64.wrap ((k : Int) + 1) = ((k + 1 : Nat) : Int) := by rw [IntWalk.i64_in _ (by omega)]; omega
      obtain ⟨tb, ob, hA, htl, A1, cap1, hx1, hc1⟩ := exL_arg (x := .mk o l f m r v) HX.out k hlt
      change ExL w (l.getD k .zero) A1 cap1 at hx1
      change ∀ j u, (exC (l.getD k .zero) A1 cap1)[j]? = some u → w.cell? ⟨tb, ob + k * 6 + j, none⟩ = some u at hc1
      have hmem : l.getD k .zero ∈ l := by
        rw [List.getD_eq_getElem?_getD, List.getElem?_eq_getElem hlt]; exact List.getElem_mem hlt
      have hgy := HG.out _ hmem
      have hwy := wt_in hmem
      have hdy := HD.out (l.getD k .zero)
      have hT := deeps_snoc o (l.take k) (l.getD k .zero)
      rw [← take_snoc l k hlt, ← hn] at hT
      have hnl : n ≤ 300000 := by
        rw [hn]
        have h1 := deeps_le o (l.take k) (fun e _ => HD.out e)
        have h2 : wtL (l.take k) ≤ wtL l := by
          have := wtL_append (l.take k) (l.drop k)
          rw [List.take_append_drop] at this
          omega
        have := HW.out
        omega
      have ih1 := HI.out k hlt
      generalize l.getD k .zero = y at hx1 hc1 hgy hwy hdy hT ih1
      have hwl := HW.out
      have e0 := (hb.cell (p := ⟨tb, ob + k * 6, none⟩) htl).trans (hc1 0 _ rfl)
      have e1 := (hb.cell (p := ⟨tb, ob + k * 6 + 1, none⟩) htl).trans (hc1 1 _ rfl)
      have e2 := (hb.cell (p := ⟨tb, ob + k * 6 + 2, none⟩) htl).trans (hc1 2 _ rfl)
      have e3 := (hb.cell (p := ⟨tb, ob + k * 6 + 3, none⟩) htl).trans (hc1 3 _ rfl)
      have e4 := (hb.cell (p := ⟨tb, ob + k * 6 + 4, none⟩) htl).trans (hc1 4 _ rfl)
      have e5 := (hb.cell (p := ⟨tb, ob + k * 6 + 5, none⟩) htl).trans (hc1 5 _ rfl)
      have HV : Hid (DepS w w (wr.alloc (exCells y A1 cap1)).drew o l A cap f m r v wr.heap.size y A1 cap1) := Lib.hid (DepS.up ⟨hb.trans ((lbox wr _).mono hb.size), kept_alloc hbx _, World.alloc_heap_new wr _⟩ (below_drawn (Below.refl _ _) 1))
      have HP := Lib.hid (fun V => p_wrapping HO.out (gex_op hgy) V)
      obtain ⟨q, hq⟩ : ∃ q : Nat, (if o = 3 then 1 else 0) + (if brkB o y.op = true then 1 else 0) = q := ⟨_, rfl⟩
      have hq2 : q ≤ 2 := by
        rw [← hq]
        have h3 : (if o = 3 then 1 else 0) ≤ 1 := by split <;> omega
        have h4 : (if brkB o y.op = true then 1 else 0) ≤ 1 := by split <;> omega
        omega
      rw [hq] at HP hT
      have HIY := Lib.hid (fun V hV => ih1 V A1 cap1 hV)
      have HXY := Lib.hid hx1
      obtain ⟨dn, hdn⟩ : ∃ dn, deepN y = dn := ⟨_, rfl⟩
      rw [hdn] at HIY hT hdy
      have hs1 : IntKind.i64.wrap ((q : Int) + (dn : Int)) = ((q + dn : Nat) : Int) := by rw [IntWalk.i64_in _ (by omega)]; omega
      have HT := Lib.hid hT
      clear hx1 hc1 ih1 hgy hwy hdy hT hn hq hdn hmem
      subst hA
      go_upto_region 5 with fail
      refine wp_region_held_drew (S := fun W' => DepS w w W' o l (some ⟨tb, ob, none⟩) cap f m r v wr.heap.size y A1 cap1) (by kernel_rfl) HV.out (fun hHeld => ?_)
      clear e0 e1 e2 e3 e4 e5 hb hbx
      generalize (wr.alloc (exCells y A1 cap1)).drew = Y at HV hHeld ⊢
      clear hHeld
      have hHeld := HV.out
      refine wpAnyH_take (i := 0) (v := ?_) rfl (by kernel_rfl) (by kernel_rfl) (by kernel_rfl) (fun _ _ _ h => h) (Or.inl ⟨by rfl, ?_⟩) (by assumption) ?_
      rotate_left
      · intro wS hSw
        (obtain ⟨b0, b1, b2, b3, b4, b5⟩ := ex9_cells hSw.box; obtain ⟨e0, e1, e2, e3, e4, e5⟩ := exW_cells hSw.arg)
        go_simp
        all_goals with_reducible rfl
      (try simp only [List.getElem_toArray, List.getElem_cons_zero, List.getElem_cons_succ, Act.put, List.setIfInBounds_toArray, List.set_cons_zero, List.set_cons_succ])
      refine wpAnyH_take (i := 1) (v := ?_) rfl (by kernel_rfl) (by kernel_rfl) (by kernel_rfl) (fun _ _ _ h => h) (Or.inl ⟨by rfl, ?_⟩) (by assumption) ?_
      rotate_left
      · intro wS hSw
        (obtain ⟨b0, b1, b2, b3, b4, b5⟩ := ex9_cells hSw.box; obtain ⟨e0, e1, e2, e3, e4, e5⟩ := exW_cells hSw.arg)
        go_simp
        all_goals with_reducible rfl
      (try simp only [List.getElem_toArray, List.getElem_cons_zero, List.getElem_cons_succ, Act.put, List.setIfInBounds_toArray, List.set_cons_zero, List.set_cons_succ])
      refine wpAnyH_take (i := 2) (v := ?_) rfl (by kernel_rfl) (by kernel_rfl) (by kernel_rfl) (fun _ _ _ h => h) (Or.inl ⟨by rfl, ?_⟩) (by assumption) ?_
      rotate_left
      · intro wS hSw
        (obtain ⟨b0, b1, b2, b3, b4, b5⟩ := ex9_cells hSw.box; obtain ⟨e0, e1, e2, e3, e4, e5⟩ := exW_cells hSw.arg)
        go_simp
        all_goals with_reducible rfl
      (try simp only [List.getElem_toArray, List.getElem_cons_zero, List.getElem_cons_succ, Act.put, List.setIfInBounds_toArray, List.set_cons_zero, List.set_cons_succ])
      refine wpAnyH_take (i := 3) (v := ?_) rfl (by kernel_rfl) (by kernel_rfl) (by kernel_rfl) (fun _ _ _ h => h) (Or.inl ⟨by rfl, ?_⟩) (by assumption) ?_
      rotate_left
      · intro wS hSw
        (obtain ⟨b0, b1, b2, b3, b4, b5⟩ := ex9_cells hSw.box; obtain ⟨e0, e1, e2, e3, e4, e5⟩ := exW_cells hSw.arg)
        go_simp
        all_goals with_reducible rfl
      (try simp only [List.getElem_toArray, List.getElem_cons_zero, List.getElem_cons_succ, Act.put, List.setIfInBounds_toArray, List.set_cons_zero, List.set_cons_succ])
      refine wpAnyH_take (i := 4) (v := ?_) rfl (by kernel_rfl) (by kernel_rfl) (by kernel_rfl) (fun _ _ _ h => h) (Or.inl ⟨by rfl, ?_⟩) (by assumption) ?_
      rotate_left
      · intro wS hSw
        (obtain ⟨b0, b1, b2, b3, b4, b5⟩ := ex9_cells hSw.box; obtain ⟨e0, e1, e2, e3, e4, e5⟩ := exW_cells hSw.arg)
        go_simp
        all_goals with_reducible rfl
      (try simp only [List.getElem_toArray, List.getElem_cons_zero, List.getElem_cons_succ, Act.put, List.setIfInBounds_toArray, List.set_cons_zero, List.set_cons_succ])
      refine wpAnyH_take (i := 6) (v := ?_) rfl (by kernel_rfl) (by kernel_rfl) (by kernel_rfl) (fun _ _ _ h => h) (Or.inl ⟨by rfl, ?_⟩) (by assumption) ?_
      rotate_left
      · intro wS hSw
        (obtain ⟨b0, b1, b2, b3, b4, b5⟩ := ex9_cells hSw.box; obtain ⟨e0, e1, e2, e3, e4, e5⟩ := exW_cells hSw.arg)
        go_simp
        all_goals with_reducible rfl
      (try simp only [List.getElem_toArray, List.getElem_cons_zero, List.getElem_cons_succ, Act.put, List.setIfInBounds_toArray, List.set_cons_zero, List.set_cons_succ])
      refine held_one (i := 5) (by kernel_rfl) rfl (fun K hK => ?_)
      go_simp
      go_at_call 33
      refine (HP.out _).mono ?_
      rintro e w1 ⟨rfl, rfl⟩
      refine hK.out _ _ hHeld (fun hH2 => ?_)
      clear hK K hHeld hH2
      (try simp only [Act.put, List.setIfInBounds_toArray, List.set_cons_zero, List.set_cons_succ, List.getElem_toArray, List.getElem_cons_zero, List.getElem_cons_succ])
      refine held_one (i := 7) (by kernel_rfl) rfl (fun K hK => ?_)
      go_simp
      go_at_call 13
      refine (HIY.out _ (HXY.out.below HV.out.below)).mono ?_
      rintro e w2 ⟨rfl, hb2⟩
      have HV2 := Lib.hid (HV.out.up hb2)
      have hHeld := HV2.out
      refine hK.out _ _ HV2.out (fun hH2 => ?_)
      clear hK K hH2 hb2 HV
      (try simp only [Act.put, List.setIfInBounds_toArray, List.set_cons_zero, List.set_cons_succ, List.getElem_toArray, List.getElem_cons_zero, List.getElem_cons_succ])
      refine wpAnyH_take (i := 8) (v := ?_) rfl (by kernel_rfl) (by kernel_rfl) (by kernel_rfl) (fun _ _ _ h => h) (Or.inl ⟨by rfl, ?_⟩) (by assumption) ?_
      rotate_left
      · intro wS hSw
        (skip)
        go_simp
        all_goals with_reducible rfl
      (try simp only [List.getElem_toArray, List.getElem_cons_zero, List.getElem_cons_succ, Act.put, List.setIfInBounds_toArray, List.set_cons_zero, List.set_cons_succ])
      refine wpAnyH_take (i := 9) (v := ?_) rfl (by kernel_rfl) (by kernel_rfl) (by kernel_rfl) (fun _ _ _ h => h) (Or.inl ⟨by rfl, ?_⟩) (by assumption) ?_
      rotate_left
      · intro wS hSw
        (skip)
        go_simp
        all_goals with_reducible rfl
      (try simp only [List.getElem_toArray, List.getElem_cons_zero, List.getElem_cons_succ, Act.put, List.setIfInBounds_toArray, List.set_cons_zero, List.set_cons_succ])
      refine wpAnyH_take (i := 10) (v := ?_) rfl (by kernel_rfl) (by kernel_rfl) (by kernel_rfl) (fun _ _ _ h => h) (Or.inl ⟨by rfl, ?_⟩) (by assumption) ?_
      rotate_left
      · intro wS hSw
        (skip)
        go_simp
        all_goals with_reducible rfl
      (try simp only [List.getElem_toArray, List.getElem_cons_zero, List.getElem_cons_succ, Act.put, List.setIfInBounds_toArray, List.set_cons_zero, List.set_cons_succ])
      refine wpAnyH_done (by kernel_rfl) ?_ _
      go_wp2
      exact ⟨⟨k + 1, max n (q + dn), by omega, by congr 1; omega, by go_num, HT.out.symm, HV2.out.below, HV2.out.box⟩, by simp [intOf]; omega⟩
    · have hlt' : ¬ (k : Int) < (l.length : Int) := by omega
      rw [List.take_of_length_le (by omega)] at hn
      have HB := Lib.hid (And.intro hb hn)
      clear hb hbx hn
      go_wp2
      go_ret
      exact ⟨by rw [← HB.out.2]; rfl, HB.out.1⟩
theorem p_Depth : ∀ (N : Nat) (x : Ex), SizeOf.sizeOf x < N → GEx x → wtE x ≤ 140000 → ∀ (w : World) (A : Option Addr) (cap : Nat), ExL w x A cap →
    Calls Tryz.prog 13 #[exV x A cap] w fun e w' => e = .returned (.int .i64 (deepN x : Int)) ∧ Below w.heap.size w w'
  | 0, x, hN, _, _, _, _, _, _ => absurd hN (by omega)
  | N + 1, .mk o l f m r v, hN, hg, hw, w, A, cap, hx => by
    have ho := gex_op hg
    have hgl : ∀ e ∈ l, GEx e := by
      cases hg with
      | yes => intro e he; cases he
      | no => intro e he; cases he
      | inv h => intro e he; rw [List.mem_singleton] at he; subst he; exact h
      | all h2 ha => exact ha
      | any h2 ha => exact ha
      | test _ _ _ _ => intro e he; cases he
    rw [wt_mk] at hw
    rw [deepN]
    refine p_Depth_on ho hgl (by omega) w A cap hx (fun k hk V A1 cap1 h1 => ?_)
    have e : l.getD k .zero = l[k] := by rw [List.getD_eq_getElem?_getD, List.getElem?_eq_getElem hk]; rfl
    rw [e] at h1 ⊢
    have hm := List.getElem_mem hk
    have h3 := wt_in hm
    refine p_Depth N _ ?_ (hgl _ hm) (by omega) V A1 cap1 h1
    have := List.sizeOf_lt_of_mem hm
    simp only [Ex.mk.sizeOf_spec] at hN
    omega
end Go.Proofs.YtgeapkjegemkeaaGreatDoor
namespace Go.Proofs.YtgeapkjegemkeaaGreatDoor
open Go Go.RowKit
set_option linter.unusedSimpArgs false
set_option linter.unusedVariables false

abbrev ruO9 (r : Ru) (Ac : Option Addr) (capc : Nat) (A : Option Addr) (cap : Nat) : Obj := .cells #[.slice Ac r.calls.length capc, .int .i64 r.when_.op, .slice A r.when_.args.length cap, .int .i64 r.when_.field, .int .u64 (r.when_.mask : Int), .int .i64 r.when_.rel, .int .u64 (r.when_.value : Int), .int .i64 r.do_.1, .int .u64 (r.do_.2 : Int)] 88
theorem ru9_cells {w : World} {b : Nat} {r : Ru} {Ac : Option Addr} {capc : Nat} {A : Option Addr} {cap : Nat} (h : w.heap[b]? = some (ruO9 r Ac capc A cap)) :
    w.cell? ⟨b, 0, none⟩ = some (.slice Ac r.calls.length capc) ∧ w.cell? ⟨b, 1, none⟩ = some (.int .i64 r.when_.op) ∧ w.cell? ⟨b, 2, none⟩ = some (.slice A r.when_.args.length cap) ∧ w.cell? ⟨b, 3, none⟩ = some (.int .i64 r.when_.field) ∧ w.cell? ⟨b, 4, none⟩ = some (.int .u64 (r.when_.mask : Int)) ∧ w.cell? ⟨b, 5, none⟩ = some (.int .i64 r.when_.rel) ∧ w.cell? ⟨b, 6, none⟩ = some (.int .u64 (r.when_.value : Int)) ∧ w.cell? ⟨b, 7, none⟩ = some (.int .i64 r.do_.1) ∧ w.cell? ⟨b, 8, none⟩ = some (.int .u64 (r.do_.2 : Int)) :=
  ⟨cell6 h 0 rfl, cell6 h 1 rfl, cell6 h 2 rfl, cell6 h 3 rfl, cell6 h 4 rfl, cell6 h 5 rfl, cell6 h 6 rfl, cell6 h 7 rfl, cell6 h 8 rfl⟩
theorem cl9_cells {w : World} {b : Nat} {s : ByteArray} {n : Nat} (h : w.heap[b]? = some (clO (s, n))) : w.cell? ⟨b, 0, none⟩ = some (.string s) ∧ w.cell? ⟨b, 1, none⟩ = some (.int .u64 (n : Int)) := ⟨cell6 h 0 rfl, cell6 h 1 rfl⟩
theorem callsL_snoc : ∀ (l : List (ByteArray × Nat)) (c : ByteArray × Nat), callsL (l ++ [c]) = callsL l ++ ([44, 32] ++ callL c)
  | [], c => by rw [List.nil_append, callsL, callsL, callsL]; simp
  | a :: l, c => by rw [List.cons_append, callsL, callsL, callsL_snoc l c]; simp
theorem firstL_snoc (l : List (ByteArray × Nat)) (c : ByteArray × Nat) : firstL (l ++ [c]) = firstL l ++ ((if 0 < l.length then [44, 32] else []) ++ callL c) := by
  cases l with
  | nil => rw [List.nil_append, firstL, firstL, callsL]; simp
  | cons a l => rw [List.cons_append, firstL, firstL, callsL_snoc, if_pos (by simp)]; simp
theorem take_snocC (l : List (ByteArray × Nat)) (k : Nat) (hk : k < l.length) : l.take (k + 1) = l.take k ++ [l.getD k (⟨#[]⟩, 0)] := by
  rw [List.take_add_one, List.getElem?_eq_getElem hk, List.getD_eq_getElem?_getD, List.getElem?_eq_getElem hk]; rfl
theorem firstL_le (l : List (ByteArray × Nat)) (k : Nat) : ∀ m, k + m ≤ l.length → (firstL (l.take k)).length ≤ (firstL (l.take (k + m))).length
  | 0, _ => Nat.le_refl _
  | m + 1, h => by
    have := firstL_le l k m (by omega)
    rw [show k + (m + 1) = (k + m) + 1 by omega, take_snocC l (k + m) (by omega), firstL_snoc, List.length_append]
    omega
theorem firstL_lt (l : List (ByteArray × Nat)) (k : Nat) (h : k ≤ l.length) : (firstL (l.take k)).length ≤ (firstL l).length := by
  have := firstL_le l k (l.length - k) (by omega)
  rwa [show k + (l.length - k) = l.length by omega, List.take_length] at this
theorem callsC_at9 : ∀ (l : List (ByteArray × Nat)) (k : Nat), k < l.length → (callsC l)[k * 2]? = some (.string (l.getD k (⟨#[]⟩, 0)).1) ∧ (callsC l)[k * 2 + 1]? = some (.int .u64 ((l.getD k (⟨#[]⟩, 0)).2 : Int))
  | [], k, h => absurd h (by simp)
  | c :: l, 0, _ => ⟨rfl, rfl⟩
  | c :: l, k + 1, h => by
    have := callsC_at9 l k (by simpa using h)
    rw [show (k + 1) * 2 = k * 2 + 1 + 1 by omega]
    exact this
/-- A call in memory. -/
theorem callsL_at9 {w : World} {l : List (ByteArray × Nat)} {A : Option Addr} (h : CallsL w l A) (k : Nat) (hk : k < l.length) :
    ∃ tb o, A = some ⟨tb, o, none⟩ ∧ tb < w.heap.size ∧ w.cell? ⟨tb, o + k * 2, none⟩ = some (.string (l.getD k (⟨#[]⟩, 0)).1) ∧ w.cell? ⟨tb, o + k * 2 + 1, none⟩ = some (.int .u64 ((l.getD k (⟨#[]⟩, 0)).2 : Int)) := by
  rcases h.2 with h0 | ⟨tb, o, hA, ht, hc⟩
  · rw [h0] at hk; exact absurd hk (by simp)
  · refine ⟨tb, o, hA, ht, ?_, ?_⟩
    · have := hc (k * 2) (.string (l.getD k (⟨#[]⟩, 0)).1) (callsC_at9 l k hk).1
      exact this
    · have := hc (k * 2 + 1) (.int .u64 ((l.getD k (⟨#[]⟩, 0)).2 : Int)) (callsC_at9 l k hk).2
      exact this
set_option maxHeartbeats 4000000 in
set_option maxRecDepth 100000 in
theorem p_writeRule {r : Ru} (hg : GRu r) {w0 : World} (hT : Tbl w0) {Ac : Option Addr} {capc : Nat} {A : Option Addr} {cap : Nat} (hr : RuL w0 r Ac A cap)
    {W : World} {b : Nat} {d : List UInt8} (h : Ws w0 W b d) (hl : d.length + (ruleL r).length ≤ 140737488355328) :
    Calls Tryz.prog 57 #[.pointer (some ⟨b, 0, none⟩), ruLV r Ac capc A cap] W fun e V => e = .returned (.tuple #[]) ∧ Wrote b (d ++ ruleL r) W V := by
  have hlen : r.calls.length ≤ 70000 := hg.calls.2.1
  have hrl : (ruleL r).length = 3 + (firstL r.calls).length + (whenL r.when_).length + 4 + (verdL r.do_).length + 2 := by
    unfold ruleL; simp only [List.length_append, List.length_cons, List.length_nil]
  have hbl := h.lt
  have H0 := Lib.hid h
  have HR := Lib.hid hr
  have HG := Lib.hid hg
  have HT := Lib.hid hT
  have HX := Lib.hid (World.alloc_heap_new W (ruO9 r Ac capc A cap))
  have HS := Lib.hid (h.box (ruO9 r Ac capc A cap))
  have HW1 := Lib.hid (bld_write HS.out.bld ⟨#[111, 110, 32]⟩ [111, 110, 32] rfl (by simp only [List.length_cons, List.length_nil]; omega))
  clear h hr hg hT
  show Calls Tryz.prog 57 #[.pointer (some ⟨b, 0, none⟩), .agg #[.slice Ac r.calls.length capc, .int .i64 r.when_.op, .slice A r.when_.args.length cap, .int .i64 r.when_.field, .int .u64 (r.when_.mask : Int), .int .i64 r.when_.rel, .int .u64 (r.when_.value : Int), .int .i64 r.do_.1, .int .u64 (r.do_.2 : Int)]] W _
  go_enter Tryz.func57, Tryz.ntmps57
  go_wp2_with (go_at_call 30; (with_reducible refine HW1.out.mono ?_); rintro e V ⟨⟨n, rfl⟩, hk⟩; have HK1 := Lib.hid (And.intro (wrote_box H0.out hk) (boxW_kept hk HX.out hbl (by decide))); obtain ⟨c0, c1, c2, c3, c4, c5, c6, c7, c8⟩ := ru9_cells HK1.out.2; clear hk)
  clear c0 c1 c2 c3 c4 c5 c6 c7 c8 HW1
  go_loopw [11] (fun v wr => ∃ k : Nat, k ≤ r.calls.length ∧ v = .int .i64 (k : Int) ∧ Wrote b (d ++ [111, 110, 32] ++ firstL (r.calls.take k)) W wr ∧ wr.heap[W.heap.size]? = some (ruO9 r Ac capc A cap)) (fun v _ => r.calls.length - (intOf v).toNat)
  case atStart => exact ⟨0, Nat.zero_le _, rfl, by rw [List.take_zero, firstL, List.append_nil]; exact HK1.out.1, HK1.out.2⟩
  case round =>
    obtain ⟨k, hk, rfl, hW, hbx⟩ := hrel
    have hWs := H0.out.wrote hW
    by_cases hlt : k < r.calls.length
    · have hlt' : (k : Int) < (r.calls.length : Int) := by omega
      have hw : IntKind.i64.wrap ((k : Int) + 1) = ((k + 1 : Nat) : Int) := by rw [IntWalk.i64_in _ (by omega)]; omega
      obtain ⟨tb, ob, hA, htl, e0, e1⟩ := callsL_at9 HR.out.1 k hlt
      have hgc : GCall (r.calls.getD k (⟨#[]⟩, 0)) := by
        rw [List.getD_eq_getElem?_getD, List.getElem?_eq_getElem hlt]; exact HG.out.calls.2.2 _ (List.getElem_mem hlt)
      have hP := firstL_snoc (r.calls.take k) (r.calls.getD k (⟨#[]⟩, 0))
      rw [← take_snocC _ k hlt, List.length_take, Nat.min_eq_left hk] at hP
      have hPl := firstL_lt r.calls (k + 1) hlt
      generalize r.calls.getD k (⟨#[]⟩, 0) = c at e0 e1 hgc hP
      obtain ⟨s, n⟩ := c
      simp only at e0 e1
      replace e0 := (hWs.old.cell (p := ⟨tb, ob + k * 2, none⟩) htl).trans e0
      replace e1 := (hWs.old.cell (p := ⟨tb, ob + k * 2 + 1, none⟩) htl).trans e1
      have hrw := hWs.lt
      have HV1 : Hid (Ws w0 (wr.alloc (clO (s, n))) b (d ++ [111, 110, 32] ++ firstL (r.calls.take k)) ∧ Wrote b (d ++ [111, 110, 32] ++ firstL (r.calls.take k)) W (wr.alloc (clO (s, n))) ∧ (wr.alloc (clO (s, n))).heap[W.heap.size]? = some (ruO9 r Ac capc A cap) ∧ (wr.alloc (clO (s, n))).heap[wr.heap.size]? = some (clO (s, n))) :=
        Lib.hid ⟨hWs.box _, hW.more (lbox wr _), kept_alloc hbx _, World.alloc_heap_new wr _⟩
      obtain ⟨pp, hpp⟩ : ∃ pp, d ++ [111, 110, 32] ++ firstL (r.calls.take k) = pp := ⟨_, rfl⟩
      have hpl : pp.length = d.length + 3 + (firstL (r.calls.take k)).length := by rw [← hpp]; simp only [List.length_append, List.length_cons, List.length_nil]
      have hPE : d ++ [111, 110, 32] ++ firstL (r.calls.take (k + 1)) = pp ++ ((if 0 < k then [44, 32] else []) ++ callL (s, n)) := by rw [hP, ← hpp]; simp
      have hPN : (firstL (r.calls.take (k + 1))).length = (firstL (r.calls.take k)).length + ((if 0 < k then [44, 32] else []) ++ callL (s, n)).length := by rw [hP, List.length_append]
      rw [hpp] at HV1
      have HC := Lib.hid (fun V hV => p_callText (s, n) hgc V hV)
      obtain ⟨t, ht⟩ : ∃ t, strL (callL (s, n)) = t := ⟨_, rfl⟩
      rw [ht] at HC
      have HP := Lib.hid hPE
      clear hW hbx hWs hP hPE hgc hpp
      subst hA
      by_cases hk0 : 0 < k
      · have hk0' : (0 : Int) < (k : Int) := by omega
        rw [if_pos hk0, List.length_append] at hPN
        simp only [List.length_cons, List.length_nil] at hPN
        have HW2 := Lib.hid (fun V hV => bld_write (b := b) (l := pp) (w := V) hV ⟨#[44, 32]⟩ [44, 32] rfl (by simp only [List.length_cons, List.length_nil]; omega))
        have HW3 := Lib.hid (fun V hV => bld_write (b := b) (l := pp ++ [44, 32]) (w := V) hV t (callL (s, n)) ht.symm (by rw [List.length_append]; simp only [List.length_cons, List.length_nil]; omega))
        have HE := Lib.hid (show d ++ [111, 110, 32] ++ firstL (r.calls.take (k + 1)) = pp ++ [44, 32] ++ callL (s, n) by rw [HP.out, if_pos hk0]; simp)
        clear hPN hPl hk0 ht hpl
        go_upto_region 7 with (go_at_call 30; (with_reducible refine (HW2.out _ HV1.out.1.bld).mono ?_); rintro e V ⟨⟨n2, rfl⟩, hk⟩; have HV2 := Lib.hid (And.intro (HV1.out.1.wrote hk) (And.intro (HV1.out.2.1.trans hk) (And.intro (boxW_kept hk HV1.out.2.2.1 hbl (by decide)) (boxW_kept hk HV1.out.2.2.2 hrw (by decide))))); obtain ⟨g0, g1⟩ := cl9_cells HV2.out.2.2.2; clear hk)
        go_wp2_with (first
          | (go_at_call 89; (with_reducible refine (HC.out _ (HT.out.up HV2.out.1.old)).mono ?_); rintro e V3 ⟨rfl, hb⟩; have HV3 := Lib.hid (And.intro (HV2.out.1.up hb) (And.intro (HV2.out.2.1.more hb) ((hb.block _ (Array.getElem?_eq_some_iff.1 HV2.out.2.2.1).1).trans HV2.out.2.2.1))); clear hb)
          | (go_at_call 30; (with_reducible refine (HW3.out _ HV3.out.1.bld).mono ?_); rintro e V4 ⟨⟨n3, rfl⟩, hk⟩; have HV4 := Lib.hid (And.intro (HV3.out.2.1.trans hk) (boxW_kept hk HV3.out.2.2 hbl (by decide))); clear hk))
        exact ⟨⟨k + 1, by omega, by go_num, by rw [HE.out]; exact HV4.out.1, HV4.out.2⟩, by simp [intOf]; omega⟩
      · have hk0' : ¬ (0 : Int) < (k : Int) := by omega
        rw [if_neg hk0, List.nil_append] at hPN
        have HW3 := Lib.hid (fun V hV => bld_write (b := b) (l := pp) (w := V) hV t (callL (s, n)) ht.symm (by omega))
        have HE := Lib.hid (show d ++ [111, 110, 32] ++ firstL (r.calls.take (k + 1)) = pp ++ callL (s, n) by rw [HP.out, if_neg hk0]; simp)
        clear hPN hPl hk0 ht hpl
        go_upto_region 7 with fail
        go_wp2_with (first
          | (go_at_call 89; (with_reducible refine (HC.out _ (HT.out.up HV1.out.1.old)).mono ?_); rintro e V3 ⟨rfl, hb⟩; have HV3 := Lib.hid (And.intro (HV1.out.1.up hb) (And.intro (HV1.out.2.1.more hb) ((hb.block _ (Array.getElem?_eq_some_iff.1 HV1.out.2.2.1).1).trans HV1.out.2.2.1))); clear hb)
          | (go_at_call 30; (with_reducible refine (HW3.out _ HV3.out.1.bld).mono ?_); rintro e V4 ⟨⟨n3, rfl⟩, hk⟩; have HV4 := Lib.hid (And.intro (HV3.out.2.1.trans hk) (boxW_kept hk HV3.out.2.2 hbl (by decide))); clear hk))
        exact ⟨⟨k + 1, by omega, by go_num, by rw [HE.out]; exact HV4.out.1, HV4.out.2⟩, by simp [intOf]; omega⟩
    · have hlt' : ¬ (k : Int) < (r.calls.length : Int) := by omega
      rw [List.take_of_length_le (by omega)] at hW
      obtain ⟨c0, c1, c2, c3, c4, c5, c6, c7, c8⟩ := ru9_cells hbx
      obtain ⟨pp, hpp⟩ : ∃ pp, d ++ [111, 110, 32] ++ firstL r.calls = pp := ⟨_, rfl⟩
      have hpl : pp.length = d.length + 3 + (firstL r.calls).length := by rw [← hpp]; simp only [List.length_append, List.length_cons, List.length_nil]
      rw [hpp] at hW
      have hWs2 := H0.out.wrote hW
      have HVD := Lib.hid (fun V hV => p_verdictText r.do_ HG.out.do_ V hV)
      have hvl := verd_len HG.out.do_
      obtain ⟨t, ht⟩ : ∃ t, strL (verdL r.do_) = t := ⟨_, rfl⟩
      rw [ht] at HVD
      have hts : t.size ≤ 33 := by rw [← ht, strL_size]; exact hvl
      have z1 : 4 + t.size ≤ 37 := by omega
      have z2 : ((⟨#[32, 100, 111, 32]⟩ : ByteArray) ++ t).size + 2 ≤ 39 := by rw [size_app]; show 4 + t.size + 2 ≤ 39; omega
      have z3 : 4 + t.size + 2 ≤ 39 := by omega
      have ht2 : (⟨#[32, 100, 111, 32]⟩ : ByteArray) ++ t ++ (⟨#[59, 10]⟩ : ByteArray) = strL ([32, 100, 111, 32] ++ verdL r.do_ ++ [59, 10]) := by
        rw [← ht, show (⟨#[32, 100, 111, 32]⟩ : ByteArray) = strL [32, 100, 111, 32] from rfl, show (⟨#[59, 10]⟩ : ByteArray) = strL [59, 10] from rfl, strL_append, strL_append]
      have htl : ([32, 100, 111, 32] ++ verdL r.do_ ++ [59, 10] : List UInt8).length = 4 + (verdL r.do_).length + 2 := by simp only [List.length_append, List.length_cons, List.length_nil]
      have HB := Lib.hid (And.intro hW (And.intro hbx hWs2))
      by_cases ho : r.when_.op = 1
      · have q1 : (r.when_.op != 1) = false := by rw [ho]; rfl
        have hwl : whenL r.when_ = [] := if_pos ho
        have HW3 := Lib.hid (fun V hV => bld_write (b := b) (l := pp) (w := V) hV _ _ ht2 (by rw [htl]; omega))
        have HE := Lib.hid (show d ++ ruleL r = pp ++ ([32, 100, 111, 32] ++ verdL r.do_ ++ [59, 10]) by rw [← hpp]; unfold ruleL; rw [hwl]; simp)
        clear hW hbx hWs2 hpp hpl ht ht2 htl hwl ho hrl hl hvl
        go_wp2_with (first
          | (go_at_call 56; (with_reducible refine (HVD.out _ (HT.out.up HB.out.2.2.old)).mono ?_); rintro e V3 ⟨rfl, hb⟩; have HV3 := Lib.hid (And.intro (HB.out.2.2.up hb) (HB.out.1.more hb)); clear hb)
          | (go_at_call 30; (with_reducible refine (HW3.out _ HV3.out.1.bld).mono ?_); rintro e V4 ⟨⟨n3, rfl⟩, hk⟩; have HV4 := Lib.hid (HV3.out.2.trans hk); clear hk))
        go_end0
        exact ⟨rfl, by rw [HE.out]; exact HV4.out⟩
      · have q1 : (r.when_.op != 1) = true := bne_iff_ne.2 ho
        have hwl : whenL r.when_ = [32, 119, 104, 101, 110, 32] ++ exL r.when_ := if_neg ho
        have hwn : (whenL r.when_).length = 6 + (exL r.when_).length := by rw [hwl]; simp only [List.length_append, List.length_cons, List.length_nil]
        have hwx := p_wx HG.out.when_ w0 HT.out A cap HR.out.2
        have HW1 := Lib.hid (fun V hV => bld_write (b := b) (l := pp) (w := V) hV ⟨#[32, 119, 104, 101, 110, 32]⟩ [32, 119, 104, 101, 110, 32] rfl (by simp only [List.length_cons, List.length_nil]; omega))
        have HWX := Lib.hid (fun V hV => hwx b (pp ++ [32, 119, 104, 101, 110, 32]) V hV (by rw [List.length_append]; simp only [List.length_cons, List.length_nil]; omega))
        have HW3 := Lib.hid (fun V hV => bld_write (b := b) (l := pp ++ [32, 119, 104, 101, 110, 32] ++ exL r.when_) (w := V) hV _ _ ht2 (by rw [htl, List.length_append, List.length_append]; simp only [List.length_cons, List.length_nil]; omega))
        have HE := Lib.hid (show d ++ ruleL r = pp ++ [32, 119, 104, 101, 110, 32] ++ exL r.when_ ++ ([32, 100, 111, 32] ++ verdL r.do_ ++ [59, 10]) by rw [← hpp]; unfold ruleL; rw [hwl]; simp)
        clear hW hbx hWs2 hpp hpl ht ht2 htl hwl ho hrl hl hvl hwn hwx
        go_upto_region 11 with (go_at_call 30; (with_reducible refine (HW1.out _ HB.out.2.2.bld).mono ?_); rintro e V ⟨⟨n2, rfl⟩, hk⟩; have HV2 := Lib.hid (And.intro (HB.out.2.2.wrote hk) (And.intro (HB.out.1.trans hk) (boxW_kept hk HB.out.2.1 hbl (by decide)))); obtain ⟨g0, g1, g2, g3, g4, g5, g6, g7, g8⟩ := ru9_cells HV2.out.2.2; clear hk)
        go_upto_region 12 with (go_at_call 32; (with_reducible refine (HWX.out _ HV2.out.1).mono ?_); rintro e V2 ⟨rfl, hk⟩; have HV3 := Lib.hid (And.intro (HV2.out.1.wrote hk) (And.intro (HV2.out.2.1.trans hk) (boxW_kept hk HV2.out.2.2 hbl (by decide)))); obtain ⟨k0, k1, k2, k3, k4, k5, k6, k7, k8⟩ := ru9_cells HV3.out.2.2; clear hk)
        go_wp2_with (first
          | (go_at_call 56; (with_reducible refine (HVD.out _ (HT.out.up HV3.out.1.old)).mono ?_); rintro e V3 ⟨rfl, hb⟩; have HV4 := Lib.hid (And.intro (HV3.out.1.up hb) (HV3.out.2.1.more hb)); clear hb)
          | (go_at_call 30; (with_reducible refine (HW3.out _ HV4.out.1.bld).mono ?_); rintro e V5 ⟨⟨n3, rfl⟩, hk⟩; have HV5 := Lib.hid (HV4.out.2.trans hk); clear hk))
        go_end0
        exact ⟨rfl, by rw [HE.out]; exact HV5.out⟩
end Go.Proofs.YtgeapkjegemkeaaGreatDoor
namespace Go.Proofs.YtgeapkjegemkeaaGreatDoor
open Go Go.RowKit
set_option linter.unusedSimpArgs false
set_option linter.unusedVariables false

abbrev poO9 (p : Po) (A : Option Addr) (cap : Nat) : Obj := .cells #[.string p.arch, .int .i64 p.foreign_.1, .int .u64 (p.foreign_.2 : Int), .int .i64 p.default_.1, .int .u64 (p.default_.2 : Int), .slice A p.rules.length cap] 29
abbrev poV9 (p : Po) (A : Option Addr) (cap : Nat) : Value := .agg #[.string p.arch, .int .i64 p.foreign_.1, .int .u64 (p.foreign_.2 : Int), .int .i64 p.default_.1, .int .u64 (p.default_.2 : Int), .slice A p.rules.length cap]
theorem po9_cells {w : World} {b : Nat} {p : Po} {A : Option Addr} {cap : Nat} (h : w.heap[b]? = some (poO9 p A cap)) :
    w.cell? ⟨b, 0, none⟩ = some (.string p.arch) ∧ w.cell? ⟨b, 1, none⟩ = some (.int .i64 p.foreign_.1) ∧ w.cell? ⟨b, 2, none⟩ = some (.int .u64 (p.foreign_.2 : Int)) ∧ w.cell? ⟨b, 3, none⟩ = some (.int .i64 p.default_.1) ∧ w.cell? ⟨b, 4, none⟩ = some (.int .u64 (p.default_.2 : Int)) ∧ w.cell? ⟨b, 5, none⟩ = some (.slice A p.rules.length cap) :=
  ⟨cell6 h 0 rfl, cell6 h 1 rfl, cell6 h 2 rfl, cell6 h 3 rfl, cell6 h 4 rfl, cell6 h 5 rfl⟩
theorem rulesL_append : ∀ (a b : List Ru), rulesL (a ++ b) = rulesL a ++ rulesL b
  | [], b => by rw [List.nil_append, rulesL, List.nil_append]
  | r :: a, b => by rw [List.cons_append, rulesL, rulesL, rulesL_append a b, List.append_assoc]
theorem rulesL_one (r : Ru) : rulesL [r] = ruleL r := by rw [rulesL, rulesL, List.append_nil]
theorem take_snocR (l : List Ru) (k : Nat) (hk : k < l.length) : l.take (k + 1) = l.take k ++ [l.getD k zeroR7] := by
  rw [List.take_add_one, List.getElem?_eq_getElem hk, List.getD_eq_getElem?_getD, List.getElem?_eq_getElem hk]; rfl
theorem rulesL_lt (l : List Ru) (k : Nat) (h : k ≤ l.length) : (rulesL (l.take k)).length ≤ (rulesL l).length := by
  have := rulesL_append (l.take k) (l.drop k)
  rw [List.take_append_drop] at this
  rw [this, List.length_append]; omega
theorem rulesL_at9 {w : World} {l : List Ru} {A : Option Addr} (h : RulesL w l A) (k : Nat) (hk : k < l.length) :
    ∃ tb o Ac capc Ar capr, A = some ⟨tb, o, none⟩ ∧ tb < w.heap.size ∧ RuL w (l.getD k zeroR7) Ac Ar capr ∧ ∀ j u, (ruL (l.getD k zeroR7) Ac capc Ar capr)[j]? = some u → w.cell? ⟨tb, o + k * 9 + j, none⟩ = some u := by
  rcases h.2 with h0 | ⟨tb, o, hA, ht, hc⟩
  · rw [h0] at hk; exact absurd hk (by simp)
  · obtain ⟨Ac, capc, Ar, capr, h1, h2⟩ := ruRowL_at k hk hc
    exact ⟨tb, o, Ac, capc, Ar, capr, hA, ht, h1, h2⟩
set_option maxHeartbeats 4000000 in
set_option maxRecDepth 100000 in
theorem p_writePolicy {p : Po} (hg : GPo p) (hwt : ∀ r ∈ p.rules, wtE r.when_ ≤ 140000) {w0 : World} (hT : Tbl w0) {A : Option Addr} {cap : Nat} (hr : RulesL w0 p.rules A)
    {W : World} {b : Nat} (h : Ws w0 W b []) :
    Calls Tryz.prog 23 #[.pointer (some ⟨b, 0, none⟩), poV9 p A cap] W fun e V => e = .returned (.tuple #[]) ∧ Wrote b (polL p) W V := by
  have hlen : p.rules.length ≤ 512 := hg.rules.1
  have hhl := heads_len hg
  have hrl := rules_len p.rules (fun r hr => ⟨hg.rules.2 r hr, hwt r hr⟩)
  have hbl := h.lt
  have hn1 := name_len hg.arch
  have hv1 := verd_len hg.foreign_
  have hv2 := verd_len hg.default_
  have H0 := Lib.hid h
  have HR := Lib.hid hr
  have HG := Lib.hid (And.intro hg.rules.2 hwt)
  have HT := Lib.hid hT
  have HX := Lib.hid (World.alloc_heap_new W (poO9 p A cap))
  have HS := Lib.hid (h.box (poO9 p A cap))
  have HNm := Lib.hid (p_nameText p.arch hg.arch (W.alloc (poO9 p A cap)))
  have HV1 := Lib.hid (fun V hV => p_verdictText p.foreign_ hg.foreign_ V hV)
  have HV2 := Lib.hid (fun V hV => p_verdictText p.default_ hg.default_ V hV)
  obtain ⟨t1, ht1⟩ : ∃ t, strL (verdL p.foreign_) = t := ⟨_, rfl⟩
  obtain ⟨t2, ht2⟩ : ∃ t, strL (verdL p.default_) = t := ⟨_, rfl⟩
  rw [ht1] at HV1
  rw [ht2] at HV2
  have l1 : t1.data.toList = verdL p.foreign_ := by rw [← ht1]
  have l2 : t2.data.toList = verdL p.default_ := by rw [← ht2]
  have s1 : t1.size ≤ 1000 := by rw [← ht1, strL_size]; omega
  have s2 : t2.size ≤ 1000 := by rw [← ht2, strL_size]; omega
  have n1 : p.arch.data.toList.length ≤ 32 := by rw [Array.length_toList]; exact hn1
  have HH1 := Lib.hid (p_writeHead HS.out ⟨#[97, 114, 99, 104]⟩ p.arch (by decide) (by omega) (by simp))
  have HH2 := Lib.hid (fun V (hV : Ws w0 V b _) => p_writeHead hV ⟨#[102, 111, 114, 101, 105, 103, 110]⟩ t1 (by decide) s1 (show ([] ++ ((⟨#[97, 114, 99, 104]⟩ : ByteArray).data.toList ++ 32 :: (p.arch.data.toList ++ [59, 10]))).length ≤ 70000000000 by simp only [List.length_append, List.length_cons, List.length_nil]; omega))
  have HH3 := Lib.hid (fun V (hV : Ws w0 V b _) => p_writeHead hV ⟨#[100, 101, 102, 97, 117, 108, 116]⟩ t2 (by decide) s2 (show ([] ++ ((⟨#[97, 114, 99, 104]⟩ : ByteArray).data.toList ++ 32 :: (p.arch.data.toList ++ [59, 10])) ++ ((⟨#[102, 111, 114, 101, 105, 103, 110]⟩ : ByteArray).data.toList ++ 32 :: (t1.data.toList ++ [59, 10]))).length ≤ 70000000000 by rw [l1]; simp only [List.length_append, List.length_cons, List.length_nil]; omega))
  have HE := Lib.hid (show [] ++ ((⟨#[97, 114, 99, 104]⟩ : ByteArray).data.toList ++ 32 :: (p.arch.data.toList ++ [59, 10])) ++ ((⟨#[102, 111, 114, 101, 105, 103, 110]⟩ : ByteArray).data.toList ++ 32 :: (t1.data.toList ++ [59, 10])) ++ ((⟨#[100, 101, 102, 97, 117, 108, 116]⟩ : ByteArray).data.toList ++ 32 :: (t2.data.toList ++ [59, 10])) = headsL p by rw [l1, l2]; unfold headsL; simp)
  clear h hr hg hT hwt ht1 ht2 l1 l2 s1 s2 hn1 hv1 hv2 n1
  go_enter Tryz.func23, Tryz.ntmps23
  go_upto_region 2 with (first
    | (go_at_call 55; (with_reducible refine HNm.out.mono ?_); rintro e V ⟨rfl, rfl⟩)
    | (go_at_call 54; (with_reducible refine HH1.out.mono ?_); rintro e V1 ⟨rfl, hk⟩; have HK1 := Lib.hid (And.intro (HS.out.wrote hk) (And.intro (wrote_box H0.out hk) (boxW_kept hk HX.out hbl (by decide)))); obtain ⟨c0, c1, c2, c3, c4, c5⟩ := po9_cells HK1.out.2.2; clear hk))
  go_upto_region 3 with (first
    | (go_at_call 56; (with_reducible refine (HV1.out _ (HT.out.up HK1.out.1.old)).mono ?_); rintro e V2 ⟨rfl, hb⟩; have HK2 := Lib.hid (And.intro (HK1.out.1.up hb) (And.intro (HK1.out.2.1.more hb) ((hb.block _ (Array.getElem?_eq_some_iff.1 HK1.out.2.2).1).trans HK1.out.2.2))); clear hb)
    | (go_at_call 54; (with_reducible refine (HH2.out _ HK2.out.1).mono ?_); rintro e V3 ⟨rfl, hk⟩; have HK3 := Lib.hid (And.intro (HK2.out.1.wrote hk) (And.intro (HK2.out.2.1.trans hk) (boxW_kept hk HK2.out.2.2 hbl (by decide)))); obtain ⟨d0, d1, d2, d3, d4, d5⟩ := po9_cells HK3.out.2.2; clear hk))
  go_upto_region 4 with (first
    | (go_at_call 56; (with_reducible refine (HV2.out _ (HT.out.up HK3.out.1.old)).mono ?_); rintro e V4 ⟨rfl, hb⟩; have HK4 := Lib.hid (And.intro (HK3.out.1.up hb) (And.intro (HK3.out.2.1.more hb) ((hb.block _ (Array.getElem?_eq_some_iff.1 HK3.out.2.2).1).trans HK3.out.2.2))); clear hb)
    | (go_at_call 54; (with_reducible refine (HH3.out _ HK4.out.1).mono ?_); rintro e V5 ⟨rfl, hk⟩; have HK5 := Lib.hid (And.intro (HK4.out.2.1.trans hk) (boxW_kept hk HK4.out.2.2 hbl (by decide))); obtain ⟨g0, g1, g2, g3, g4, g5⟩ := po9_cells HK5.out.2; clear hk))
  go_wp2
  clear c0 c1 c2 c3 c4 c5 d0 d1 d2 d3 d4 d5 g0 g1 g2 g3 g4 g5
  have hk5 := HK5.out.1
  rw [HE.out] at hk5
  have HK6 := Lib.hid (And.intro hk5 HK5.out.2)
  clear hk5 HK1 HK2 HK3 HK4 HK5 HH1 HH2 HH3 HNm HV1 HV2
  go_loopw [24] (fun v wr => ∃ k : Nat, k ≤ p.rules.length ∧ v = .int .i64 (k : Int) ∧ Wrote b (headsL p ++ rulesL (p.rules.take k)) W wr ∧ wr.heap[W.heap.size]? = some (poO9 p A cap)) (fun v _ => p.rules.length - (intOf v).toNat)
  case atStart => exact ⟨0, Nat.zero_le _, rfl, by rw [List.take_zero, rulesL, List.append_nil]; exact HK6.out.1, HK6.out.2⟩
  case round =>
    obtain ⟨k, hk, rfl, hW, hbx⟩ := hrel
    have hWs := H0.out.wrote hW
    by_cases hlt : k < p.rules.length
    · have hlt' : (k : Int) < (p.rules.length : Int) := by omega
      have hw : IntKind.i64.wrap ((k : Int) + 1) = ((k + 1 : Nat) : Int) := by rw [IntWalk.i64_in _ (by omega)]; omega
      obtain ⟨tb, ob, Ac, capc, Ar, capr, hA, htl, hru, hc⟩ := rulesL_at9 HR.out k hlt
      have hmem : p.rules.getD k zeroR7 ∈ p.rules := by
        rw [List.getD_eq_getElem?_getD, List.getElem?_eq_getElem hlt]; exact List.getElem_mem hlt
      have hgr := HG.out.1 _ hmem
      have hP : rulesL (p.rules.take (k + 1)) = rulesL (p.rules.take k) ++ ruleL (p.rules.getD k zeroR7) := by rw [take_snocR _ k hlt, rulesL_append, rulesL_one]
      have hPl := rulesL_lt p.rules (k + 1) hlt
      generalize p.rules.getD k zeroR7 = r at hru hc hgr hP hmem
      have e0 := (hWs.old.cell (p := ⟨tb, ob + k * 9, none⟩) htl).trans (hc 0 _ rfl)
      have e1 := (hWs.old.cell (p := ⟨tb, ob + k * 9 + 1, none⟩) htl).trans (hc 1 _ rfl)
      have e2 := (hWs.old.cell (p := ⟨tb, ob + k * 9 + 2, none⟩) htl).trans (hc 2 _ rfl)
      have e3 := (hWs.old.cell (p := ⟨tb, ob + k * 9 + 3, none⟩) htl).trans (hc 3 _ rfl)
      have e4 := (hWs.old.cell (p := ⟨tb, ob + k * 9 + 4, none⟩) htl).trans (hc 4 _ rfl)
      have e5 := (hWs.old.cell (p := ⟨tb, ob + k * 9 + 5, none⟩) htl).trans (hc 5 _ rfl)
      have e6 := (hWs.old.cell (p := ⟨tb, ob + k * 9 + 6, none⟩) htl).trans (hc 6 _ rfl)
      have e7 := (hWs.old.cell (p := ⟨tb, ob + k * 9 + 7, none⟩) htl).trans (hc 7 _ rfl)
      have e8 := (hWs.old.cell (p := ⟨tb, ob + k * 9 + 8, none⟩) htl).trans (hc 8 _ rfl)
      have hsum : (headsL p ++ rulesL (p.rules.take k)).length + (ruleL r).length ≤ 140737488355328 := by
        rw [hP, List.length_append] at hPl
        rw [List.length_append]; omega
      have HWR := Lib.hid (p_writeRule hgr HT.out hru (hWs.box (ruO9 r Ac capc Ar capr)) hsum (capc := capc))
      have HV := Lib.hid (And.intro (hW.more (lbox wr (ruO9 r Ac capc Ar capr))) (kept_alloc hbx (ruO9 r Ac capc Ar capr)))
      have HE2 := Lib.hid (show headsL p ++ rulesL (p.rules.take (k + 1)) = headsL p ++ rulesL (p.rules.take k) ++ ruleL r by rw [hP, List.append_assoc])
      clear hW hbx hWs hru hc hgr hP hPl hmem hsum
      subst hA
      go_wp2_with (go_at_call 57; (with_reducible refine HWR.out.mono ?_); rintro e V ⟨rfl, hk⟩; have HV2 := Lib.hid (And.intro (HV.out.1.trans hk) (boxW_kept hk HV.out.2 hbl (by decide))); clear hk)
      exact ⟨⟨k + 1, by omega, by go_num, by rw [HE2.out]; exact HV2.out.1, HV2.out.2⟩, by simp [intOf]; omega⟩
    · have hlt' : ¬ (k : Int) < (p.rules.length : Int) := by omega
      rw [List.take_of_length_le (by omega)] at hW
      have HW := Lib.hid hW
      clear hW hbx hWs
      go_wp2
      go_end0
      exact ⟨rfl, HW.out⟩
set_option maxRecDepth 100000 in
theorem p_Print {p : Po} (hg : GPo p) (hwt : ∀ r ∈ p.rules, wtE r.when_ ≤ 140000) (w : World) (A : Option Addr) (cap : Nat) (hT : Tbl w) (hr : RulesL w p.rules A) :
    Calls Tryz.prog 9 #[poV9 p A cap] w fun e w' => e = .returned (.string (strL (polL p))) ∧ Below w.heap.size w w' := by
  have hb0 := lbox w (poO9 p A cap)
  have hsz : w.heap.size + 1 = (w.alloc (poO9 p A cap)).heap.size := by simp
  have hws := ws_at (w.alloc (poO9 p A cap)) (w.heap.size + 1) hsz
  have HE := Lib.hid (p_writePolicy hg hwt (hT.up hb0) (hr.below hb0) hws (cap := cap))
  have HW := Lib.hid (And.intro hws hb0)
  obtain ⟨c0, c1, c2, c3, c4, c5⟩ := po9_cells (kept_alloc (World.alloc_heap_new w (poO9 p A cap)) bldO)
  have HSt := Lib.hid (fun V (hV : Bld (w.heap.size + 1) (polL p) V) => bld_string hV)
  clear hb0 hws hT hr hsz hg hwt
  go_enter Tryz.func9, Tryz.ntmps9
  go_upto_region 3 with (go_at_call 23; (with_reducible refine HE.out.mono ?_); rintro e V ⟨rfl, hk⟩; have HK := Lib.hid (And.intro hk.bld (HW.out.2.trans ((HW.out.1.wrote hk).old.mono HW.out.2.size))); clear hk)
  go_wp2_with (go_at_call 24; (with_reducible refine (HSt.out _ HK.out.1).mono ?_); rintro e V2 ⟨rfl, hb⟩; have HK2 := Lib.hid (HK.out.2.trans (hb.mono (Nat.le_succ _))); clear hb)
  go_ret
  exact ⟨rfl, HK2.out⟩
end Go.Proofs.YtgeapkjegemkeaaGreatDoor

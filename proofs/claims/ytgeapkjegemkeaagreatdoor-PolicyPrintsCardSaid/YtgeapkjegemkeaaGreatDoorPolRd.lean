/-
  The document's reader of a policy's text in memory, and its steps: fails, peek, next, is, want, kind: contracts. Conditions: those that each names.
-/
import Derived.Test.YtgeapkjegemkeaaGreatDoorPolPure
import Derived.Test.YtgeapkjegemkeaaGreatDoorLexSame
import Derived.Test.YtgeapkjegemkeaaGreatDoorMemory
import Derived.Test.YtgeapkjegemkeaaGreatDoorKeepC
import Derived.StillTailTactics
namespace Go.Proofs.YtgeapkjegemkeaaGreatDoor
open Go Go.RowKit
set_option linter.unusedSimpArgs false
set_option linter.unusedVariables false

/-- A reader's seven cells. -/
def rdV (A : Option Addr) (cap : Nat) (S : Src) (r : Rd) : Nat → Value
  | 0 => .slice A S.toks.length cap
  | 1 => .int .i64 S.err
  | 2 => .int .i64 (S.place : Int)
  | 3 => .int .i64 (r.at_ : Int)
  | 4 => .int .i64 r.deep
  | 5 => .int .i64 r.err
  | _ => .int .i64 (r.bad : Int)
/-- It lies in block b, its tokens below. -/
structure RdAt (w : World) (b : Nat) (A : Option Addr) (cap : Nat) (S : Src) (r : Rd) : Prop where
  row : w.rowIs b 82 7 (rdV A cap S r)
  toks : TokAt w A S.toks.length (fun i => S.toks.getD i noT)
  low : 0 < S.toks.length → ∃ tb o, A = some ⟨tb, o, none⟩ ∧ tb < b
  size : S.toks.length ≤ 65537
set_option maxRecDepth 100000 in
theorem lt_cases7 {P : Nat → Prop} (h0 : P 0) (h1 : P 1) (h2 : P 2) (h3 : P 3) (h4 : P 4) (h5 : P 5) (h6 : P 6) : ∀ i, i < 7 → P i := by
  intro i hi
  rcases i with _ | _ | _ | _ | _ | _ | _ | i
  · exact h0
  · exact h1
  · exact h2
  · exact h3
  · exact h4
  · exact h5
  · exact h6
  · omega
set_option maxRecDepth 100000 in
/-- What turns no cell but the reader's and new ones leaves its tokens. -/
theorem toks_grown {w w' : World} {b : Nat} {A : Option Addr} {n : Nat} {f : Nat → Nx} (h : TokAt w A n f) (hl : 0 < n → ∃ tb o, A = some ⟨tb, o, none⟩ ∧ tb < b) (hg : w.grownBy w' (some b)) : TokAt w' A n f := fun hn => by
  obtain ⟨tb, o, rfl, hlt, hc⟩ := h hn
  obtain ⟨tb', o', e, hl'⟩ := hl hn
  injection e with e; injection e with e1 _ _; subst e1
  have hk := hg.block tb hlt (fun e => by injection e with e; omega)
  have cell : ∀ j v, w.cell? ⟨tb, j, none⟩ = some v → w'.cell? ⟨tb, j, none⟩ = some v := fun j v hv => (World.cell?_of_block (a := ⟨tb, j, none⟩) hk).trans hv
  refine ⟨tb, o, rfl, Nat.lt_of_lt_of_le hlt hg.size, fun i hi => ?_⟩
  obtain ⟨c0, c1, c2, c3⟩ := hc i hi
  exact ⟨cell _ _ c0, cell _ _ c1, cell _ _ c2, cell _ _ c3⟩
set_option maxRecDepth 100000 in
theorem RdAt.turn {w w' : World} {b : Nat} {A : Option Addr} {cap : Nat} {S : Src} {r r' : Rd} (h : RdAt w b A cap S r) (hg : w.grownBy w' (some b)) (hr : w'.rowIs b 82 7 (rdV A cap S r')) : RdAt w' b A cap S r' :=
  ⟨hr, toks_grown h.toks h.low hg, h.low, h.size⟩
set_option maxRecDepth 100000 in
theorem RdAt.below {w w' : World} {b : Nat} {A : Option Addr} {cap : Nat} {S : Src} {r : Rd} (h : RdAt w b A cap S r) (hb : Below w.heap.size w w') : RdAt w' b A cap S r :=
  h.turn (grown_of_below hb _) (rowIs_below h.row hb h.row.lt)
section
variable {w : World} {b : Nat} {A : Option Addr} {cap : Nat} {S : Src} {r : Rd}
set_option maxRecDepth 100000 in
theorem RdAt.set_at (h : RdAt w b A cap S r) (v : Nat) : RdAt (w.setCell ⟨b, 3, none⟩ (.int .i64 (v : Int))) b A cap S { r with at_ := v } :=
  h.turn (grown_set (World.grownBy.refl w _) 3 _) ((World.rowIs.set h.row 3 _).congr (lt_cases7 rfl rfl rfl rfl rfl rfl rfl))
set_option maxRecDepth 100000 in
theorem RdAt.set_deep (h : RdAt w b A cap S r) (v : Int) : RdAt (w.setCell ⟨b, 4, none⟩ (.int .i64 v)) b A cap S { r with deep := v } :=
  h.turn (grown_set (World.grownBy.refl w _) 4 _) ((World.rowIs.set h.row 4 _).congr (lt_cases7 rfl rfl rfl rfl rfl rfl rfl))
set_option maxRecDepth 100000 in
theorem RdAt.set_err (h : RdAt w b A cap S r) (v : Int) : RdAt (w.setCell ⟨b, 5, none⟩ (.int .i64 v)) b A cap S { r with err := v } :=
  h.turn (grown_set (World.grownBy.refl w _) 5 _) ((World.rowIs.set h.row 5 _).congr (lt_cases7 rfl rfl rfl rfl rfl rfl rfl))
set_option maxRecDepth 100000 in
theorem RdAt.set_bad (h : RdAt w b A cap S r) (v : Nat) : RdAt (w.setCell ⟨b, 6, none⟩ (.int .i64 (v : Int))) b A cap S { r with bad := v } :=
  h.turn (grown_set (World.grownBy.refl w _) 6 _) ((World.rowIs.set h.row 6 _).congr (lt_cases7 rfl rfl rfl rfl rfl rfl rfl))
end
/-- What a step of the reader leaves. -/
def RdP (w : World) (b : Nat) (A : Option Addr) (cap : Nat) (S : Src) (v : Value) (r' : Rd) (e : Ending) (w' : World) : Prop := e = .returned v ∧ RdAt w' b A cap S r' ∧ w.grownBy w' (some b)
section
variable (w : World) (b : Nat) (A : Option Addr) (cap : Nat) (S : Src) (r : Rd) (h : RdAt w b A cap S r)
include h
set_option maxRecDepth 100000 in
theorem rd6_fails (er : Int) (p : Nat) : Calls Tryz.prog 40 #[.pointer (some ⟨b, 0, none⟩), .int .i64 er, .int .i64 (p : Int)] w (RdP w b A cap S (.tuple #[]) (r.fails er p)) := by
  have c5 : w.cell? ⟨b, 5, none⟩ = some (.int .i64 r.err) := World.rowIs.cell h.row (i := 5) (by decide)
  have c6 : w.cell? ⟨b, 6, none⟩ = some (.int .i64 (r.bad : Int)) := World.rowIs.cell h.row (i := 6) (by decide)
  have z5 := World.rowIs.frozen h.row 5
  have z6 := World.rowIs.frozen h.row 6
  have H := Lib.hid h
  clear h
  by_cases he : r.err = 0
  · have hb : (r.err == 0) = true := beq_iff_eq.2 he
    have HF := Lib.hid (show r.fails er p = { r with err := er, bad := p } from if_pos he)
    clear he
    go_enter Tryz.func40, Tryz.ntmps40
    go_wp2
    go_end0
    exact ⟨rfl, by rw [HF.out]; exact (H.out.set_err er).set_bad p, grown_set (grown_set (World.grownBy.refl w _) 5 _) 6 _⟩
  · have hb : (r.err == 0) = false := beq_false_of_ne he
    have HF := Lib.hid (show r.fails er p = r from if_neg he)
    clear he
    go_enter Tryz.func40, Tryz.ntmps40
    go_wp2
    go_end0
    exact ⟨rfl, by rw [HF.out]; exact H.out, World.grownBy.refl w _⟩
end
/-- A token, as a value. -/
abbrev tkV (t : Nx) : Value := .agg #[.int .i64 t.kind, .string t.text, .int .u64 (t.num : Int), .int .i64 (t.pos : Int)]
abbrev tokO6 : Obj := .cells #[.int .i64 0, .string ⟨#[]⟩, .int .u64 0, .int .i64 0] 77
set_option maxRecDepth 100000 in
/-- A box at the heap's end, beside what a step turns. -/
theorem tbox6 {W W' : World} {b : Nat} (hb : b < W.heap.size) (hg : (W.alloc tokO6).grownBy W' (some b)) : W'.heap[W.heap.size]? = some (.cells #[.int .i64 0, .string ⟨#[]⟩, .int .u64 0, .int .i64 0] 77 (0, 0)) :=
  (hg.block W.heap.size (by simp) (fun e => by injection e with e; omega)).trans (World.alloc_heap_new W _)
set_option maxRecDepth 100000 in
theorem box_kept {W W' : World} {b : Nat} (hb : b < W.heap.size) {o : Obj} (hg : (W.alloc o).grownBy W' (some b)) : W'.heap[W.heap.size]? = some o :=
  (hg.block W.heap.size (by simp) (fun e => by injection e with e; omega)).trans (World.alloc_heap_new W _)
set_option maxRecDepth 100000 in
theorem cell6 {W : World} {B : Nat} {c : Array Value} {t : TypeId} (h : W.heap[B]? = some (.cells c t (0, 0))) (i : Nat) {v : Value} (hv : c[i]? = some v) : W.cell? ⟨B, i, none⟩ = some v := by
  unfold World.cell?; rw [h]; exact hv
set_option maxRecDepth 100000 in
theorem frozen6 {W : World} {B : Nat} {c : Array Value} {t : TypeId} (h : W.heap[B]? = some (.cells c t (0, 0))) (i : Nat) : W.frozen? ⟨B, i, none⟩ = false := by
  unfold World.frozen?; rw [h]; simp
set_option maxRecDepth 100000 in
theorem grown_new {a w : World} {b B : Nat} (h : a.grownBy w (some b)) (hB : a.heap.size ≤ B) (i : Nat) (u : Value) : a.grownBy (w.setCell ⟨B, i, none⟩ u) (some b) :=
  ⟨h.os, h.tape, h.output, by simpa [World.setCell] using h.size, fun k hk hne => (Below.heap_setCell w ⟨B, i, none⟩ u k (fun e => by have : k = B := e; omega)).trans (h.block k hk hne)⟩
set_option maxRecDepth 100000 in
theorem row_new {w : World} {b B : Nat} {T : TypeId} {n : Nat} {F : Nat → Value} (h : w.rowIs b T n F) (hne : b ≠ B) (i : Nat) (u : Value) : (w.setCell ⟨B, i, none⟩ u).rowIs b T n F :=
  h.of_block (Below.heap_setCell w ⟨B, i, none⟩ u b hne)
set_option maxRecDepth 100000 in
theorem RdAt.new {w : World} {b B : Nat} {A : Option Addr} {cap : Nat} {S : Src} {r : Rd} (h : RdAt w b A cap S r) (hne : b < B) (i : Nat) (u : Value) : RdAt (w.setCell ⟨B, i, none⟩ u) b A cap S r :=
  ⟨row_new h.row (by omega) i u, fun hn => by
    obtain ⟨tb, o, rfl, hl, hc⟩ := h.toks hn
    obtain ⟨tb', o', e, hl'⟩ := h.low hn
    injection e with e; injection e with e1 _ _; subst e1
    have hk := Below.heap_setCell w ⟨B, i, none⟩ u tb (show tb ≠ B by omega)
    have cell : ∀ j v, w.cell? ⟨tb, j, none⟩ = some v → (w.setCell ⟨B, i, none⟩ u).cell? ⟨tb, j, none⟩ = some v := fun j v hv => (World.cell?_of_block (a := ⟨tb, j, none⟩) hk).trans hv
    refine ⟨tb, o, rfl, by simpa [World.setCell] using hl, fun i hi => ?_⟩
    obtain ⟨c0, c1, c2, c3⟩ := hc i hi
    exact ⟨cell _ _ c0, cell _ _ c1, cell _ _ c2, cell _ _ c3⟩, h.low, h.size⟩
section
variable (w : World) (b : Nat) (A : Option Addr) (cap : Nat) (S : Src) (r : Rd) (h : RdAt w b A cap S r)
include h
set_option maxRecDepth 100000 in
theorem rd6_peek : Calls Tryz.prog 38 #[.pointer (some ⟨b, 0, none⟩)] w (RdP w b A cap S (tkV (r.peekT S)) (r.peekR S)) := by
  have hlt := h.row.lt
  have h' := h.below (lbox w tokO6)
  have c0 : (w.alloc tokO6).cell? ⟨b, 0, none⟩ = some (.slice A S.toks.length cap) := World.rowIs.cell h'.row (i := 0) (by decide)
  have c1 : (w.alloc tokO6).cell? ⟨b, 1, none⟩ = some (.int .i64 S.err) := World.rowIs.cell h'.row (i := 1) (by decide)
  have c2 : (w.alloc tokO6).cell? ⟨b, 2, none⟩ = some (.int .i64 (S.place : Int)) := World.rowIs.cell h'.row (i := 2) (by decide)
  have c3 : (w.alloc tokO6).cell? ⟨b, 3, none⟩ = some (.int .i64 (r.at_ : Int)) := World.rowIs.cell h'.row (i := 3) (by decide)
  have c5 : (w.alloc tokO6).cell? ⟨b, 5, none⟩ = some (.int .i64 r.err) := World.rowIs.cell h'.row (i := 5) (by decide)
  have hg0 := (grown_of_below (lbox w tokO6) (some b))
  by_cases he : r.err = 0
  · have hb : (r.err != 0) = false := by rw [he]; rfl
    by_cases ha : r.at_ < S.toks.length
    · have HT := Lib.hid (show r.peekT S = S.toks.getD r.at_ noT from if_pos ⟨he, ha⟩)
      have HR := Lib.hid (show r.peekR S = r from if_neg (fun g => g.2 ha))
      obtain ⟨tb, o, hA, htl, hcs⟩ := h'.toks (by omega)
      subst hA
      have hx := hcs r.at_ ha
      change TokCells _ tb (o + r.at_ * 4) (S.toks.getD r.at_ noT) at hx
      generalize S.toks.getD r.at_ noT = q at HT hx
      obtain ⟨x0, x1, x2, x3⟩ := hx
      have g1 : ¬ (S.toks.length : Int) ≤ (r.at_ : Int) := by omega
      have g2 : (r.at_ : Int) < (S.toks.length : Int) := by omega
      have H := Lib.hid (And.intro h' hg0)
      have hsz := h.size
      clear he h h' hg0 hcs
      go_enter Tryz.func38, Tryz.ntmps38
      have HBX := Lib.hid (World.alloc_heap_new w tokO6)
      go_wp2
      go_quiet (fail)
      go_wp2
      have hV : ((w.alloc tokO6).drewN nq).heap = (w.alloc tokO6).heap := rfl
      have HV := Lib.hid (show RdAt ((w.alloc tokO6).drewN nq) b (some ⟨tb, o, none⟩) cap S r ∧ w.grownBy ((w.alloc tokO6).drewN nq) (some b) from ⟨⟨H.out.1.row, H.out.1.toks, H.out.1.low, H.out.1.size⟩, grown_drawn H.out.2 nq⟩)
      have HBV := Lib.hid (show ((w.alloc tokO6).drewN nq).heap[w.heap.size]? = _ from HBX.out)
      have y0 : ((w.alloc tokO6).drewN nq).cell? ⟨tb, o + r.at_ * 4, none⟩ = some (.int .i64 q.kind) := x0
      have y1 : ((w.alloc tokO6).drewN nq).cell? ⟨tb, o + r.at_ * 4 + 1, none⟩ = some (.string q.text) := x1
      have y2 : ((w.alloc tokO6).drewN nq).cell? ⟨tb, o + r.at_ * 4 + 2, none⟩ = some (.int .u64 (q.num : Int)) := x2
      have y3 : ((w.alloc tokO6).drewN nq).cell? ⟨tb, o + r.at_ * 4 + 3, none⟩ = some (.int .i64 (q.pos : Int)) := x3
      clear hV x0 x1 x2 x3 c0 c1 c2 c3 c5 HBX
      generalize (w.alloc tokO6).drewN nq = V at HV HBV y0 y1 y2 y3 ⊢
      have v0 : V.cell? ⟨b, 0, none⟩ = some (.slice (some ⟨tb, o, none⟩) S.toks.length cap) := World.rowIs.cell HV.out.1.row (i := 0) (by decide)
      have v3 : V.cell? ⟨b, 3, none⟩ = some (.int .i64 (r.at_ : Int)) := World.rowIs.cell HV.out.1.row (i := 3) (by decide)
      have s0 : ({ V with drawn := V.drawn + 1 } : World).cell? ⟨b, 0, none⟩ = some (.slice (some ⟨tb, o, none⟩) S.toks.length cap) := World.rowIs.cell HV.out.1.row (i := 0) (by decide)
      have s3 : ({ V with drawn := V.drawn + 1 } : World).cell? ⟨b, 3, none⟩ = some (.int .i64 (r.at_ : Int)) := World.rowIs.cell HV.out.1.row (i := 3) (by decide)
      have t0 : ({ V with drawn := V.drawn + 1 } : World).cell? ⟨tb, o + r.at_ * 4, none⟩ = some (.int .i64 q.kind) := y0
      have t1 : ({ V with drawn := V.drawn + 1 } : World).cell? ⟨tb, o + r.at_ * 4 + 1, none⟩ = some (.string q.text) := y1
      have t2 : ({ V with drawn := V.drawn + 1 } : World).cell? ⟨tb, o + r.at_ * 4 + 2, none⟩ = some (.int .u64 (q.num : Int)) := y2
      have t3 : ({ V with drawn := V.drawn + 1 } : World).cell? ⟨tb, o + r.at_ * 4 + 3, none⟩ = some (.int .i64 (q.pos : Int)) := y3
      go_still_tail 10, (by kernel_rfl)
      change wpList _ _ _ _ _ V.drew
      have HV2 := Lib.hid (show RdAt V.drew b (some ⟨tb, o, none⟩) cap S r ∧ w.grownBy V.drew (some b) from ⟨⟨HV.out.1.row, HV.out.1.toks, HV.out.1.low, HV.out.1.size⟩, grown_drawn HV.out.2 1⟩)
      have HB2 := Lib.hid (show V.drew.heap[w.heap.size]? = _ from HBV.out)
      clear v0 v3 s0 s3 t0 t1 t2 t3 y0 y1 y2 y3 HV HBV
      generalize V.drew = V2 at HV2 HB2 ⊢
      have d0 := cell6 HB2.out 0 rfl
      have d1 := cell6 HB2.out 1 rfl
      have d2 := cell6 HB2.out 2 rfl
      have d3 := cell6 HB2.out 3 rfl
      have z0 := frozen6 HB2.out 0
      have z1 := frozen6 HB2.out 1
      have z2 := frozen6 HB2.out 2
      have z3 := frozen6 HB2.out 3
      go_wp2
      exact bodyPost_ret (v := tkV q) (by simp [results, Tryz.results38, go_sem, d0, d1, d2, d3, World.cell?_setCell_same']) rfl ⟨by rw [HT.out], by rw [HR.out]; exact (((HV2.out.1.new hlt 0 _).new hlt 1 _).new hlt 2 _).new hlt 3 _, grown_new (grown_new (grown_new (grown_new HV2.out.2 (Nat.le_refl _) 0 _) (Nat.le_refl _) 1 _) (Nat.le_refl _) 2 _) (Nat.le_refl _) 3 _⟩
    · have HT := Lib.hid (show r.peekT S = noT from if_neg (fun g => ha g.2))
      have HR := Lib.hid (show r.peekR S = r.fails S.err S.place by unfold Rd.peekR Rd.fails; rw [if_pos ⟨he, ha⟩, if_pos he])
      have g1 : (S.toks.length : Int) ≤ (r.at_ : Int) := by omega
      have HF := Lib.hid (fun w h => rd6_fails w b A cap S r h S.err S.place)
      have H := Lib.hid (And.intro h' hg0)
      clear he h h' hg0
      go_enter Tryz.func38, Tryz.ntmps38
      have HBX := Lib.hid (World.alloc_heap_new w tokO6)
      go_wp2
      go_quiet (fail)
      go_wp2
      have HV := Lib.hid (show RdAt ((w.alloc tokO6).drewN nq) b A cap S r ∧ w.grownBy ((w.alloc tokO6).drewN nq) (some b) from ⟨⟨H.out.1.row, H.out.1.toks, H.out.1.low, H.out.1.size⟩, grown_drawn H.out.2 nq⟩)
      have HBV := Lib.hid (show ((w.alloc tokO6).drewN nq).heap[w.heap.size]? = _ from HBX.out)
      clear c0 c1 c2 c3 c5 HBX
      generalize (w.alloc tokO6).drewN nq = V at HV HBV ⊢
      have v1 : V.cell? ⟨b, 1, none⟩ = some (.int .i64 S.err) := World.rowIs.cell HV.out.1.row (i := 1) (by decide)
      have v2 : V.cell? ⟨b, 2, none⟩ = some (.int .i64 (S.place : Int)) := World.rowIs.cell HV.out.1.row (i := 2) (by decide)
      have s1 : ({ V with drawn := V.drawn + 1 } : World).cell? ⟨b, 1, none⟩ = some (.int .i64 S.err) := World.rowIs.cell HV.out.1.row (i := 1) (by decide)
      have s2 : ({ V with drawn := V.drawn + 1 } : World).cell? ⟨b, 2, none⟩ = some (.int .i64 (S.place : Int)) := World.rowIs.cell HV.out.1.row (i := 2) (by decide)
      go_still_tail 9, (by kernel_rfl)
      change wpList _ _ _ _ _ V.drew
      have HV2 := Lib.hid (show RdAt V.drew b A cap S r ∧ w.grownBy V.drew (some b) from ⟨⟨HV.out.1.row, HV.out.1.toks, HV.out.1.low, HV.out.1.size⟩, grown_drawn HV.out.2 1⟩)
      have HB2 := Lib.hid (show V.drew.heap[w.heap.size]? = _ from HBV.out)
      clear v1 v2 s1 s2 HV HBV
      generalize V.drew = V2 at HV2 HB2 ⊢
      go_wp2_with (go_at_call 40; (with_reducible refine (HF.out _ HV2.out.1).mono ?_); rintro e w1 ⟨rfl, hr1, hg1⟩; have H1 := Lib.hid (And.intro hr1 (grown_trans HV2.out.2 hg1)); have hbx := (hg1.block w.heap.size (Array.getElem?_eq_some_iff.1 HB2.out).1 (fun e => by injection e with e; omega)).trans HB2.out; have d0 := cell6 hbx 0 rfl; have d1 := cell6 hbx 1 rfl; have d2 := cell6 hbx 2 rfl; have d3 := cell6 hbx 3 rfl; have z0 := frozen6 hbx 0; have z1 := frozen6 hbx 1; have z2 := frozen6 hbx 2; have z3 := frozen6 hbx 3; clear hr1 hg1 hbx)
      exact bodyPost_ret (v := tkV noT) (by simp [results, Tryz.results38, go_sem, noT, d0, d1, d2, d3, World.cell?_setCell_same']) rfl ⟨by rw [HT.out], by rw [HR.out]; exact (((H1.out.1.new hlt 0 _).new hlt 1 _).new hlt 2 _).new hlt 3 _, grown_new (grown_new (grown_new (grown_new H1.out.2 (Nat.le_refl _) 0 _) (Nat.le_refl _) 1 _) (Nat.le_refl _) 2 _) (Nat.le_refl _) 3 _⟩
  · have hb : (r.err != 0) = true := bne_iff_ne.2 he
    have HT := Lib.hid (show r.peekT S = noT from if_neg (fun g => he g.1))
    have HR := Lib.hid (show r.peekR S = r from if_neg (fun g => he g.1))
    have H := Lib.hid (And.intro h' hg0)
    clear he h h' hg0
    go_enter Tryz.func38, Tryz.ntmps38
    go_wp2
    exact bodyPost_ret (v := tkV noT) (by simp [results, Tryz.results38, go_sem, noT]) rfl ⟨by rw [HT.out], by rw [HR.out]; exact H.out.1, H.out.2⟩
set_option maxRecDepth 100000 in
theorem rd6_next (hat : r.at_ ≤ 1000000) : Calls Tryz.prog 71 #[.pointer (some ⟨b, 0, none⟩)] w (RdP w b A cap S (tkV (r.peekT S)) (r.nextR S)) := by
  have hlt := h.row.lt
  have HP := Lib.hid (fun w h => rd6_peek w b A cap S r h)
  have HB := Lib.hid (h.below (lbox w tokO6))
  have HG := Lib.hid (grown_of_below (lbox w tokO6) (some b))
  have hat1 : (r.peekR S).at_ ≤ 1000000 := by unfold Rd.peekR; split <;> exact hat
  generalize r.peekT S = q at HP ⊢
  by_cases he : (r.peekR S).err = 0
  · have HN := Lib.hid (show r.nextR S = (r.peekR S).step from if_pos he)
    have hb : ((r.peekR S).err == 0) = true := beq_iff_eq.2 he
    clear he h
    generalize r.peekR S = r1 at HP HN hb hat1
    have hw : IntKind.i64.wrap ((r1.at_ : Int) + 1) = ((r1.at_ + 1 : Nat) : Int) := by rw [IntWalk.i64_in _ (by omega)] <;> omega
    go_enter Tryz.func71, Tryz.ntmps71
    go_wp2_with (go_at_call 38; (with_reducible refine (HP.out _ HB.out).mono ?_); rintro e w1 ⟨rfl, hr1, hg1⟩; have H1 := Lib.hid (And.intro hr1 (grown_trans HG.out hg1)); have hbx := tbox6 hlt hg1; have HBX := Lib.hid hbx; have hbo := fun o => (Below.heap_alloc w1 o w.heap.size (Array.getElem?_eq_some_iff.1 hbx).1).trans hbx; have d0 := fun o => cell6 (hbo o) 0 rfl; have d1 := fun o => cell6 (hbo o) 1 rfl; have d2 := fun o => cell6 (hbo o) 2 rfl; have d3 := fun o => cell6 (hbo o) 3 rfl; have z0 := fun o => frozen6 (hbo o) 0; have z1 := fun o => frozen6 (hbo o) 1; have z2 := fun o => frozen6 (hbo o) 2; have z3 := fun o => frozen6 (hbo o) 3; clear hbo; have n1 : ¬ b = w1.heap.size := Nat.ne_of_lt hr1.row.lt; have n2 : ¬ b = w.heap.size := Nat.ne_of_lt hlt; have n3 : ¬ w1.heap.size = w.heap.size := fun e => absurd (Array.getElem?_eq_some_iff.1 hbx).1 (by omega); have c5 : ∀ o, (w1.alloc o).cell? ⟨b, 5, none⟩ = some (.int .i64 r1.err) := fun o => World.rowIs.cell (World.rowIs.alloc hr1.row o) (i := 5) (by decide); have c3 : ∀ o, (w1.alloc o).cell? ⟨b, 3, none⟩ = some (.int .i64 (r1.at_ : Int)) := fun o => World.rowIs.cell (World.rowIs.alloc hr1.row o) (i := 3) (by decide); have z33 : ∀ o, (w1.alloc o).frozen? ⟨b, 3, none⟩ = false := fun o => World.rowIs.frozen (World.rowIs.alloc hr1.row o) 3; clear hr1 hg1 hbx)
    exact bodyPost_ret (v := tkV q) (by simp [results, Tryz.results71, go_sem, d0, d1, d2, d3, World.cell?_setCell_same', n1, n2, n3]) rfl ⟨rfl, by rw [HN.out]; exact (((((H1.out.1.below (lbox w1 _)).set_at (r1.at_ + 1)).new hlt 0 _).new hlt 1 _).new hlt 2 _).new hlt 3 _, grown_new (grown_new (grown_new (grown_new (grown_set (grown_trans H1.out.2 (grown_of_below (lbox w1 _) (some b))) 3 _) (Nat.le_refl _) 0 _) (Nat.le_refl _) 1 _) (Nat.le_refl _) 2 _) (Nat.le_refl _) 3 _⟩
  · have HN := Lib.hid (show r.nextR S = r.peekR S from if_neg he)
    have hb : ((r.peekR S).err == 0) = false := beq_false_of_ne he
    clear he h
    generalize r.peekR S = r1 at HP HN hb hat1
    go_enter Tryz.func71, Tryz.ntmps71
    go_wp2_with (go_at_call 38; (with_reducible refine (HP.out _ HB.out).mono ?_); rintro e w1 ⟨rfl, hr1, hg1⟩; have H1 := Lib.hid (And.intro hr1 (grown_trans HG.out hg1)); have hbx := tbox6 hlt hg1; have HBX := Lib.hid hbx; have hbo := fun o => (Below.heap_alloc w1 o w.heap.size (Array.getElem?_eq_some_iff.1 hbx).1).trans hbx; have d0 := fun o => cell6 (hbo o) 0 rfl; have d1 := fun o => cell6 (hbo o) 1 rfl; have d2 := fun o => cell6 (hbo o) 2 rfl; have d3 := fun o => cell6 (hbo o) 3 rfl; have z0 := fun o => frozen6 (hbo o) 0; have z1 := fun o => frozen6 (hbo o) 1; have z2 := fun o => frozen6 (hbo o) 2; have z3 := fun o => frozen6 (hbo o) 3; clear hbo; have n1 : ¬ b = w1.heap.size := Nat.ne_of_lt hr1.row.lt; have n2 : ¬ b = w.heap.size := Nat.ne_of_lt hlt; have n3 : ¬ w1.heap.size = w.heap.size := fun e => absurd (Array.getElem?_eq_some_iff.1 hbx).1 (by omega); have c5 : ∀ o, (w1.alloc o).cell? ⟨b, 5, none⟩ = some (.int .i64 r1.err) := fun o => World.rowIs.cell (World.rowIs.alloc hr1.row o) (i := 5) (by decide); have c3 : ∀ o, (w1.alloc o).cell? ⟨b, 3, none⟩ = some (.int .i64 (r1.at_ : Int)) := fun o => World.rowIs.cell (World.rowIs.alloc hr1.row o) (i := 3) (by decide); have z33 : ∀ o, (w1.alloc o).frozen? ⟨b, 3, none⟩ = false := fun o => World.rowIs.frozen (World.rowIs.alloc hr1.row o) 3; clear hr1 hg1 hbx)
    exact bodyPost_ret (v := tkV q) (by simp [results, Tryz.results71, go_sem, d0, d1, d2, d3, World.cell?_setCell_same', n1, n2, n3]) rfl ⟨rfl, by rw [HN.out]; exact ((((H1.out.1.below (lbox w1 _)).new hlt 0 _).new hlt 1 _).new hlt 2 _).new hlt 3 _, grown_new (grown_new (grown_new (grown_new (grown_trans H1.out.2 (grown_of_below (lbox w1 _) (some b))) (Nat.le_refl _) 0 _) (Nat.le_refl _) 1 _) (Nat.le_refl _) 2 _) (Nat.le_refl _) 3 _⟩
end
end Go.Proofs.YtgeapkjegemkeaaGreatDoor

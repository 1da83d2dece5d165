/-
  For 'LexGoes': the walk where a text's tokens end without an error. Condition: that.
-/
import Derived.Test.YtbcjffjifocaeaaGoesBase
namespace Go.Proofs.Ytbcjffjifocaeaa.lexGoes
open Go Go.ChangeShapes Go.WideShapes Go.ChangeAt Go.RowKit Go.Shelf
attribute [local go_sem] Oper.semAt_some
set_option linter.unusedSimpArgs false
set_option linter.unusedVariables false

theorem fn_eq_nil (f : Nat) (cap : Array Value) (w : World) : (binOp .eql 43 (.func (.func f) #[] cap) .nilFunc).run Try.prog w = .ok (.bool false) w := by rfl
/-- What is read in rounds, where the turns begin. -/
structure Bxs (w : World) (B : Nat) (s : ByteArray) (a1 : Int) (A : Option Addr) (cap : Nat) (E : Int) (n : Nat) (W : World) : Prop where
  most : Boxed W w.heap.size 3 (.int .i64 a1)
  res : Boxed W (w.heap.size + 1) 4 (.bool false)
  want : Boxed W B 23 (.slice A (toksF s).1.length cap)
  err : Boxed W (B + 1) 24 (.int .i64 E)
  num : Boxed W (B + 1 + 1) 3 (.int .i64 (n : Int))
  text : Boxed W (B + 1 + 1 + 1) 9 (.string s)
  seq : Boxed W (B + 1 + 1 + 1 + 1) 43 (.func (.func 33) #[] #[.pointer (some ⟨B + 1 + 1 + 1, 0, none⟩)])
  toks : TokAt W A (toksF s).1.length (fun i => (toksF s).1.getD i noTok)
  cap : (toksF s).1.length ≤ cap
  low : 0 < (toksF s).1.length → ∃ b o, A = some ⟨b, o, none⟩ ∧ b < B
  big : B + 5 ≤ W.heap.size
  below : Below w.heap.size w W
theorem Bxs.st {w : World} {B : Nat} {s : ByteArray} {a1 : Int} {A : Option Addr} {cap : Nat} {E : Int} {n : Nat} {W W' : World} {X : Nat → Prop} (h : Bxs w B s a1 A cap E n W) (k : St B X W W') (hX : ∀ j, X j → B + 5 ≤ j) (hw : w.heap.size + 2 ≤ B) : Bxs w B s a1 A cap E n W' :=
  { most := k.box h.most (fun g => by have := hX _ g; omega)
    res := k.box h.res (fun g => by have := hX _ g; omega)
    want := k.box h.want (fun g => by have := hX _ g; omega)
    err := k.box h.err (fun g => by have := hX _ g; omega)
    num := k.box h.num (fun g => by have := hX _ g; omega)
    text := k.box h.text (fun g => by have := hX _ g; omega)
    seq := k.box h.seq (fun g => by have := hX _ g; omega)
    toks := fun hn => by
      obtain ⟨b, o, e, hl, hc⟩ := h.toks hn
      obtain ⟨b', o', e', hl'⟩ := h.low hn
      rw [e] at e'; injection e' with e'; injection e' with e1 _ _; subst e1
      exact ⟨b, o, e, Nat.lt_of_lt_of_le hl k.below.size, fun i hi => (hc i hi).below k.below hl'⟩
    cap := h.cap
    low := h.low
    big := Nat.le_trans h.big k.below.size
    below := h.below.trans (k.below.mono (by omega)) }
set_option maxRecDepth 100000 in
set_option maxHeartbeats 4000000 in
theorem walk_ok (s0 : ByteArray) (a1 : Int) (w : World) (w0 : s0.size ≤ maxLen) (hb1 : -9223372036854775808 ≤ a1 ∧ a1 ≤ 9223372036854775807) (hE : (toksF s0).2.1 = 0) :
    Calls Try.prog 6 #[.string s0, .int .i64 a1] w fun e w' => e = .returned (.bool true) ∧ Below w.heap.size w w' := by
  have HL := Lib.hid (fun w => lives_is w)
  have HE := Lib.hid hE
  have HT : Hid (∀ w, Calls Try.prog 18 #[.string s0] w fun e w' => ∃ A cap, e = .returned (.tuple #[.slice A (toksF s0).1.length cap, .int .i64 0, .int .i64 ((toksF s0).2.2 : Int)]) ∧ (TokAt w' A (toksF s0).1.length (fun i => (toksF s0).1.getD i noTok) ∧ (toksF s0).1.length ≤ cap ∧ (0 < (toksF s0).1.length → ∃ b o, A = some ⟨b, o, none⟩ ∧ b < w'.heap.size)) ∧ Below w.heap.size w w') := Lib.hid fun w => (ref_Tokens s0 w w0).mono fun e w' ⟨v, he, ho, hb⟩ => by
    obtain ⟨A, cap, rfl, ht⟩ := own_tok2 ho
    exact ⟨A, cap, by rw [he, HE.out], ht, hb⟩
  have HA := Lib.hid (fun w => all_is s0 w)
  have h18 : 1 ≤ 8 := by decide
  have hfn := fn_eq_nil
  have hsm := toks_small s0
  have hn0 : (itemsF s0).length = (toksF s0).1.length := by
    show ((toksF s0).1 ++ (if (toksF s0).2.1 ≠ 0 then _ else _)).length = _
    rw [if_neg (fun g => g hE), List.append_nil]
  clear hE
  refine (callsIn_wide (n := 8)).1 ?_
  refine callsIn_of_wp_marks Try.func6 rfl trivial ?_ rfl
  simp only [Try.ntmps6, List.size_toArray, List.length_cons, List.length_nil, Nat.reduceAdd, Nat.reduceSub, Array.replicate_succ, Array.replicate_zero, List.push_toArray, List.append_toArray, List.nil_append, List.cons_append]
  gi_wp2_with (first
    | (refine ⟨trivial, ?_⟩; gi_at_call 8; refine (callsIn_wide.2 (HL.out _)).mono ?_; rintro e wa ⟨rfl, hb⟩; have HBa := Lib.hid hb; clear hb)
    | (refine ⟨trivial, ?_⟩; gi_at_call 18; refine (callsIn_wide.2 (HT.out _)).mono ?_; rintro e wb ⟨A, cap, rfl, ht, hb⟩; have HBb := Lib.hid (And.intro ht hb); clear hb ht)
    | (refine ⟨trivial, ?_⟩; gi_at_call 19; refine (callsIn_wide.2 (HA.out _)).mono ?_; rintro e wc ⟨rfl, rfl⟩))
  have hB1 : w.heap.size + 2 ≤ wb.heap.size := by have h1 := HBa.out.size; have h2 := HBb.out.2.size; simp at h1; omega
  have hms : Boxed wb w.heap.size 3 (.int .i64 a1) := by
    have h1 := (Boxed.new w 3 (.int .i64 a1)).alloc (.cells #[.bool false] 4)
    have h2 := box_below h1 HBa.out h1.lt
    exact box_below h2 HBb.out.2 h2.lt
  have hrs : Boxed wb (w.heap.size + 1) 4 (.bool false) := by
    have h1 := Boxed.new (w.alloc (.cells #[.int .i64 a1] 3)) 4 (.bool false)
    simp only [World.size_alloc] at h1
    have h2 := box_below h1 HBa.out h1.lt
    exact box_below h2 HBb.out.2 h2.lt
  have hbw : Below w.heap.size w wb := by
    have h1 : Below w.heap.size w ((w.alloc (.cells #[.int .i64 a1] 3)).alloc (.cells #[.bool false] 4)) := ((Below.refl _ w).alloc (Nat.le_refl _) _).alloc (by simp) _
    have h2 := h1.trans (HBa.out.mono (by simp <;> omega))
    exact h2.trans (HBb.out.2.mono h2.size)
  have hSt : St wb.heap.size (fun _ => False) wb ((((((wb.alloc (.cells #[.slice A (toksF s0).1.length cap] 23)).alloc (.cells #[.int .i64 0] 24)).alloc (.cells #[.int .i64 ((toksF s0).1.length : Int)] 3)).alloc (.cells #[.string s0] 9)).alloc (.cells #[.func (.func 33) #[] #[.pointer (some ⟨wb.heap.size + 1 + 1 + 1, 0, none⟩)]] 43)).alloc (.cells #[.int .i64 0] 3)) := ((((((St.refl _ _ _).trans (St.alloc _ (by simp <;> omega))).trans (St.alloc _ (by simp <;> omega))).trans (St.alloc _ (by simp <;> omega))).trans (St.alloc _ (by simp <;> omega))).trans (St.alloc _ (by simp <;> omega))).trans (St.alloc _ (by simp <;> omega))
  have qwant := Boxed.new wb 23 (.slice A (toksF s0).1.length cap)
  have pwant : Boxed ((((((wb.alloc (.cells #[.slice A (toksF s0).1.length cap] 23)).alloc (.cells #[.int .i64 0] 24)).alloc (.cells #[.int .i64 ((toksF s0).1.length : Int)] 3)).alloc (.cells #[.string s0] 9)).alloc (.cells #[.func (.func 33) #[] #[.pointer (some ⟨wb.heap.size + 1 + 1 + 1, 0, none⟩)]] 43)).alloc (.cells #[.int .i64 0] 3)) (wb.heap.size) 23 (.slice A (toksF s0).1.length cap) := (((((qwant.alloc _).alloc _).alloc _).alloc _).alloc _)
  clear qwant
  have qerr := Boxed.new (wb.alloc (.cells #[.slice A (toksF s0).1.length cap] 23)) 24 (.int .i64 0)
  simp only [World.size_alloc, World.size_setCell] at qerr
  have perr : Boxed ((((((wb.alloc (.cells #[.slice A (toksF s0).1.length cap] 23)).alloc (.cells #[.int .i64 0] 24)).alloc (.cells #[.int .i64 ((toksF s0).1.length : Int)] 3)).alloc (.cells #[.string s0] 9)).alloc (.cells #[.func (.func 33) #[] #[.pointer (some ⟨wb.heap.size + 1 + 1 + 1, 0, none⟩)]] 43)).alloc (.cells #[.int .i64 0] 3)) (wb.heap.size + 1) 24 (.int .i64 0) := ((((qerr.alloc _).alloc _).alloc _).alloc _)
  clear qerr
  have qnum := Boxed.new ((wb.alloc (.cells #[.slice A (toksF s0).1.length cap] 23)).alloc (.cells #[.int .i64 0] 24)) 3 (.int .i64 ((toksF s0).1.length : Int))
  simp only [World.size_alloc, World.size_setCell] at qnum
  have pnum : Boxed ((((((wb.alloc (.cells #[.slice A (toksF s0).1.length cap] 23)).alloc (.cells #[.int .i64 0] 24)).alloc (.cells #[.int .i64 ((toksF s0).1.length : Int)] 3)).alloc (.cells #[.string s0] 9)).alloc (.cells #[.func (.func 33) #[] #[.pointer (some ⟨wb.heap.size + 1 + 1 + 1, 0, none⟩)]] 43)).alloc (.cells #[.int .i64 0] 3)) (wb.heap.size + 1 + 1) 3 (.int .i64 ((toksF s0).1.length : Int)) := (((qnum.alloc _).alloc _).alloc _)
  clear qnum
  have qtext := Boxed.new (((wb.alloc (.cells #[.slice A (toksF s0).1.length cap] 23)).alloc (.cells #[.int .i64 0] 24)).alloc (.cells #[.int .i64 ((toksF s0).1.length : Int)] 3)) 9 (.string s0)
  simp only [World.size_alloc, World.size_setCell] at qtext
  have ptext : Boxed ((((((wb.alloc (.cells #[.slice A (toksF s0).1.length cap] 23)).alloc (.cells #[.int .i64 0] 24)).alloc (.cells #[.int .i64 ((toksF s0).1.length : Int)] 3)).alloc (.cells #[.string s0] 9)).alloc (.cells #[.func (.func 33) #[] #[.pointer (some ⟨wb.heap.size + 1 + 1 + 1, 0, none⟩)]] 43)).alloc (.cells #[.int .i64 0] 3)) (wb.heap.size + 1 + 1 + 1) 9 (.string s0) := ((qtext.alloc _).alloc _)
  clear qtext
  have qseq := Boxed.new ((((wb.alloc (.cells #[.slice A (toksF s0).1.length cap] 23)).alloc (.cells #[.int .i64 0] 24)).alloc (.cells #[.int .i64 ((toksF s0).1.length : Int)] 3)).alloc (.cells #[.string s0] 9)) 43 (.func (.func 33) #[] #[.pointer (some ⟨wb.heap.size + 1 + 1 + 1, 0, none⟩)])
  simp only [World.size_alloc, World.size_setCell] at qseq
  have pseq : Boxed ((((((wb.alloc (.cells #[.slice A (toksF s0).1.length cap] 23)).alloc (.cells #[.int .i64 0] 24)).alloc (.cells #[.int .i64 ((toksF s0).1.length : Int)] 3)).alloc (.cells #[.string s0] 9)).alloc (.cells #[.func (.func 33) #[] #[.pointer (some ⟨wb.heap.size + 1 + 1 + 1, 0, none⟩)]] 43)).alloc (.cells #[.int .i64 0] 3)) (wb.heap.size + 1 + 1 + 1 + 1) 43 (.func (.func 33) #[] #[.pointer (some ⟨wb.heap.size + 1 + 1 + 1, 0, none⟩)]) := (qseq.alloc _)
  clear qseq
  have qturn := Boxed.new (((((wb.alloc (.cells #[.slice A (toksF s0).1.length cap] 23)).alloc (.cells #[.int .i64 0] 24)).alloc (.cells #[.int .i64 ((toksF s0).1.length : Int)] 3)).alloc (.cells #[.string s0] 9)).alloc (.cells #[.func (.func 33) #[] #[.pointer (some ⟨wb.heap.size + 1 + 1 + 1, 0, none⟩)]] 43)) 3 (.int .i64 0)
  simp only [World.size_alloc, World.size_setCell] at qturn
  have pturn : Boxed ((((((wb.alloc (.cells #[.slice A (toksF s0).1.length cap] 23)).alloc (.cells #[.int .i64 0] 24)).alloc (.cells #[.int .i64 ((toksF s0).1.length : Int)] 3)).alloc (.cells #[.string s0] 9)).alloc (.cells #[.func (.func 33) #[] #[.pointer (some ⟨wb.heap.size + 1 + 1 + 1, 0, none⟩)]] 43)).alloc (.cells #[.int .i64 0] 3)) (wb.heap.size + 1 + 1 + 1 + 1 + 1) 3 (.int .i64 0) := qturn
  clear qturn
  have hBx : Bxs w wb.heap.size s0 a1 A cap 0 (toksF s0).1.length ((((((wb.alloc (.cells #[.slice A (toksF s0).1.length cap] 23)).alloc (.cells #[.int .i64 0] 24)).alloc (.cells #[.int .i64 ((toksF s0).1.length : Int)] 3)).alloc (.cells #[.string s0] 9)).alloc (.cells #[.func (.func 33) #[] #[.pointer (some ⟨wb.heap.size + 1 + 1 + 1, 0, none⟩)]] 43)).alloc (.cells #[.int .i64 0] 3)) :=
    { most := hSt.box hms (fun g => g), res := hSt.box hrs (fun g => g), want := pwant, err := perr, num := pnum, text := ptext, seq := pseq
      toks := HBb.out.1.1.below (hSt.below), cap := HBb.out.1.2.1, low := HBb.out.1.2.2, big := (by simp), below := hbw.trans (hSt.below.mono (by omega)) }
  have hTu := pturn
  clear pwant perr pnum ptext pseq pturn hSt hms hrs hbw
  generalize hV1 : ((((((wb.alloc (.cells #[.slice A (toksF s0).1.length cap] 23)).alloc (.cells #[.int .i64 0] 24)).alloc (.cells #[.int .i64 ((toksF s0).1.length : Int)] 3)).alloc (.cells #[.string s0] 9)).alloc (.cells #[.func (.func 33) #[] #[.pointer (some ⟨wb.heap.size + 1 + 1 + 1, 0, none⟩)]] 43)).alloc (.cells #[.int .i64 0] 3)) = V1 at hBx hTu ⊢
  generalize wb.heap.size = B at hB1 hBx hTu ⊢
  clear hV1 HBa HBb HT HA HL hfn
  refine wpIn_loop_rounds 3 ?_
  rw [roundsIn_succ]
  have c11 := fun o => (hTu.alloc o).cell
  have c11' := hTu.cell
  have c10 := fun o => (hBx.seq.alloc o).cell
  gi_wp2
  have hlow := hBx.big
  have hB2 := hBx.st (St.alloc (X := fun _ => False) (.cells #[.int .i64 0] 3) (by omega)) (fun j g => g.elim) hB1
  have hT2 := hTu.alloc (.cells #[.int .i64 0] 3)
  have hK2 := Boxed.new V1 3 (.int .i64 0)
  have hKb : B + 1 + 1 + 1 + 1 + 1 < V1.heap.size := hTu.lt
  have hKb2 : B + 5 ≤ V1.heap.size := hlow
  generalize V1.alloc (.cells #[.int .i64 0] 3) = W2 at hB2 hT2 hK2 ⊢
  generalize V1.heap.size = Kb at hKb hKb2 hK2 ⊢
  clear c11 c11' c10 hlow
  have HB2 := Lib.hid hB2
  have HT2 := Lib.hid hT2
  have HK2 := Lib.hid hK2
  have hKlt := hK2.lt
  clear hB2 hT2 hK2
  refine rangeH5 rfl (by decide) (gf := 33) (lb := #[.pointer (some ⟨B + 1 + 1 + 1, 0, none⟩)]) rfl trivial (enters_of Try.func33 (by kernel_rfl) rfl)
      (all_stops5 s0 w0 (8 - 1) (by decide) (B + 1 + 1 + 1) (fun k => k = Kb) W2 (fun k h => by omega) HB2.out.text (fun h => by omega)) keepC_t keepC_b (fun _ => rfl)
      (Cnt B (fun k => k = Kb) W2 Kb 3) (fun c pre W => (c = .ret ∧ ¬ (pre <+: itemsF s0)) ∨ (c = .exit 2 ∧ (pre.length : Int) = a1 ∧ Cnt B (fun k => k = Kb) W2 Kb 3 pre W))
      (cnt_own B _ W2 Kb 3 (Nat.le_refl _) (by have := HB2.out.big; omega))
      (fun c pre X Y row h hg hr => by
        rcases h with h | ⟨h1, h2, h3⟩
        · exact .inl h
        · exact .inr ⟨h1, h2, cnt_own B _ W2 Kb 3 (Nat.le_refl _) (by have := HB2.out.big; omega) pre X Y row h3 hg hr⟩)
      ⟨HK2.out, St.refl _ _ _⟩
      (fun a x a' W => ∃ Bx, W2.heap.size ≤ Bx ∧ W.heap[Bx]? = some (.cells #[.int .i64 x.kind, .string x.text, .int .u64 (x.num : Int), .int .i64 (x.pos : Int)] 30 (0, 0)) ∧
        a' = { tmps := (((#[43, 44].zip (encI x)).foldl (fun t (p, v) => t.setIfInBounds p v) a.tmps).setIfInBounds 13 (.pointer (some ⟨Bx, 0, none⟩))).setIfInBounds 14 (.int .i64 x.err), defers := [] })
      (fun x a' _ X Y row hs hg hr => by
        obtain ⟨Bx, h1, h2, h3⟩ := hs
        refine ⟨Bx, h1, (hg.block Bx (Array.getElem?_eq_some_iff.1 h2).1 (fun e => ?_)).trans h2, h3⟩
        obtain ⟨_, o, ho, hc⟩ := hr Bx e.symm
        rw [h2] at ho; cases ho; cases hc)
      ?assign0 ?body0 ?done0 ?stop0
  case assign0 =>
    rintro l pre x W K hI hK
    have HI := Lib.hid hI
    clear hI
    gi_wp2
    exact hK _ _ ((KeepsOthers.alloc _ _).from _) (KeepC.alloc _) ⟨HI.out.1.alloc _, HI.out.2.trans (St.alloc _ (by have h1 := HB2.out.big; have h2 := HI.out.2.below.size; omega))⟩ ⟨W.heap.size, HI.out.2.below.size, World.alloc_heap_new W _, by simp [encI]⟩
  case body0 =>
    rintro l pre x a' W hl ⟨r, hr⟩ hI ⟨Bx, hBx, hTx, rfl⟩ hlt
    have HI := Lib.hid hI
    have HX := Lib.hid (HB2.out.st hI.2 (fun j g => by omega) hB1)
    have c12 := hI.1.cell
    have f12 := hI.1.frozen
    have c9 := HX.out.num.cell
    have c6 := HX.out.want.cell
    have HTx := Lib.hid hTx
    have t0 : W.cell? ⟨Bx, 0, none⟩ = some (.int .i64 x.kind) := World.cell?_of_heap5 hTx
    have t1 : W.cell? ⟨Bx, 1, none⟩ = some (.string x.text) := by unfold World.cell?; rw [hTx]; rfl
    have t2 : W.cell? ⟨Bx, 2, none⟩ = some (.int .u64 (x.num : Int)) := by unfold World.cell?; rw [hTx]; rfl
    have t3 : W.cell? ⟨Bx, 3, none⟩ = some (.int .i64 (x.pos : Int)) := by unfold World.cell?; rw [hTx]; rfl
    have g1 : ¬ ((toksF s0).1.length : Int) ≤ (pre.length : Int) := by omega
    clear hI hTx
    have hlt2 : pre.length < (toksF s0).1.length := by omega
    have g2 : (pre.length : Int) < ((toksF s0).1.length : Int) := by omega
    clear hlt
    have hsW : B + 5 ≤ W.heap.size := HX.out.big
    obtain ⟨tb, to_, hA, htl⟩ := HX.out.low (by omega)
    have hcells := HX.out.toks (by omega)
    obtain ⟨tb', to', hA', htl', hcs⟩ := hcells
    rw [hA] at hA'; injection hA' with hA'; injection hA' with e1 e2 _; subst e1; subst e2
    have HQ := Lib.hid (hcs pre.length hlt2)
    have hcap := HX.out.cap
    have hcapm : ¬ cap = pre.length := by omega
    clear hcs
    subst hA
    have hwr : IntKind.i64.wrap ((pre.length : Int) + 1) = (pre.length : Int) + 1 := by rw [IntWalk.i64_in _ (by omega)]
    have hw1 : (0 : Int) ≤ (pre.length : Int) + 1 := by omega
    have hw2 : (pre.length : Int) + 1 ≤ (cap : Int) := by omega
    have hw3 : ((pre.length : Int) + 1).toNat = pre.length + 1 := by omega
    gi_wp2
    refine wpIn_region_held_drew (S := fun W' => Tk W' Bx x.kind x.text x.num x.pos ∧ W'.cell? ⟨Kb, 0, none⟩ = some (.int .i64 (pre.length : Int)) ∧ W'.cell? ⟨B, 0, none⟩ = some (.slice (some ⟨tb, to_, none⟩) (toksF s0).1.length cap)) (by kernel_rfl) (by kernel_rfl) (fun ⟨_, _, h⟩ => h) ⟨⟨t0, t1, t2, t3⟩, c12, c6⟩ (fun hHeld => ?_)
    refine wpAnyH_take (i := 0) (v := ?_) rfl (by kernel_rfl) (by kernel_rfl) (by kernel_rfl) (fun _ _ _ h => h) (Or.inl ⟨by rfl, ?_⟩) (by assumption) ?_
    rotate_left
    · intro wS hSw
      (obtain ⟨⟨i0, i1, i2, i3⟩, i4, i5⟩ := hSw)
      go_simp
      all_goals with_reducible rfl
    (try simp only [List.getElem_toArray, List.getElem_cons_zero, List.getElem_cons_succ, Act.put, List.setIfInBounds_toArray, List.set_cons_zero, List.set_cons_succ])
    refine wpAnyH_take (i := 2) (v := ?_) rfl (by kernel_rfl) (by kernel_rfl) (by kernel_rfl) (fun _ _ _ h => h) (Or.inl ⟨by rfl, ?_⟩) (by assumption) ?_
    rotate_left
    · intro wS hSw
      (obtain ⟨⟨i0, i1, i2, i3⟩, i4, i5⟩ := hSw)
      go_simp
      all_goals with_reducible rfl
    (try simp only [List.getElem_toArray, List.getElem_cons_zero, List.getElem_cons_succ, Act.put, List.setIfInBounds_toArray, List.set_cons_zero, List.set_cons_succ])
    refine wpAnyH_take (i := 3) (v := ?_) rfl (by kernel_rfl) (by kernel_rfl) (by kernel_rfl) (fun _ _ _ h => h) (Or.inl ⟨by rfl, ?_⟩) (by assumption) ?_
    rotate_left
    · intro wS hSw
      (obtain ⟨⟨i0, i1, i2, i3⟩, i4, i5⟩ := hSw)
      go_simp
      all_goals with_reducible rfl
    (try simp only [List.getElem_toArray, List.getElem_cons_zero, List.getElem_cons_succ, Act.put, List.setIfInBounds_toArray, List.set_cons_zero, List.set_cons_succ])
    refine wpAnyH_take (i := 4) (v := ?_) rfl (by kernel_rfl) (by kernel_rfl) (by kernel_rfl) (fun _ _ _ h => h) (Or.inl ⟨by rfl, ?_⟩) (by assumption) ?_
    rotate_left
    · intro wS hSw
      (obtain ⟨⟨i0, i1, i2, i3⟩, i4, i5⟩ := hSw)
      go_simp
      all_goals with_reducible rfl
    (try simp only [List.getElem_toArray, List.getElem_cons_zero, List.getElem_cons_succ, Act.put, List.setIfInBounds_toArray, List.set_cons_zero, List.set_cons_succ])
    refine wpAnyH_take (i := 5) (v := ?_) rfl (by kernel_rfl) (by kernel_rfl) (by kernel_rfl) (fun _ _ _ h => h) (Or.inl ⟨by rfl, ?_⟩) (by assumption) ?_
    rotate_left
    · intro wS hSw
      (obtain ⟨⟨i0, i1, i2, i3⟩, i4, i5⟩ := hSw)
      go_simp
      all_goals with_reducible rfl
    (try simp only [List.getElem_toArray, List.getElem_cons_zero, List.getElem_cons_succ, Act.put, List.setIfInBounds_toArray, List.set_cons_zero, List.set_cons_succ])
    refine wpAnyH_take (i := 6) (v := ?_) rfl (by kernel_rfl) (by kernel_rfl) (by kernel_rfl) (fun _ _ _ h => h) (Or.inl ⟨by rfl, ?_⟩) (by assumption) ?_
    rotate_left
    · intro wS hSw
      (obtain ⟨⟨i0, i1, i2, i3⟩, i4, i5⟩ := hSw)
      go_simp
      all_goals with_reducible rfl
    (try simp only [List.getElem_toArray, List.getElem_cons_zero, List.getElem_cons_succ, Act.put, List.setIfInBounds_toArray, List.set_cons_zero, List.set_cons_succ])
    clear t0 t1 t2 t3 c12 f12 c9 c6
    have HT4 := Lib.hid hHeld
    have HWd := Lib.hid (show Below W.heap.size W W.drew from below_drawn (Below.refl W.heap.size W) 1)
    have HszY := Lib.hid (show W.drew.heap.size = W.heap.size from rfl)
    generalize W.drew = Y at HT4 HWd HszY ⊢
    refine held_one (i := 1) (by kernel_rfl) rfl (fun K hK => ?_)
    go_simp
    have hS2 : Hid (∀ Z, Below Y.heap.size Y Z → Tk Z Bx x.kind x.text x.num x.pos ∧ Z.cell? ⟨Kb, 0, none⟩ = some (.int .i64 (pre.length : Int)) ∧ Z.cell? ⟨B, 0, none⟩ = some (.slice (some ⟨tb, to_, none⟩) (toksF s0).1.length cap)) := Lib.hid fun Z hZ =>
      ⟨HT4.out.1.below hZ, (hZ.cell (p := ⟨Kb, 0, none⟩) (cell_lt HT4.out.2.1)).trans HT4.out.2.1, (hZ.cell (p := ⟨B, 0, none⟩) (cell_lt HT4.out.2.2)).trans HT4.out.2.2⟩
    have HBY := Lib.hid (lbox_up Y (.cells #[.int .i64 x.kind, .string x.text, .int .u64 (x.num : Int), .int .i64 (x.pos : Int)] 30) (Nat.le_refl Y.heap.size))
    refine hK.out _ _ (hS2.out _ HBY.out) (fun hH2 => ?_)
    clear hK K
    refine held_one (i := 7) (by kernel_rfl) rfl (fun K hK => ?_)
    go_simp
    have HNP0 := Lib.hid (fun (g : pre ++ [x] <+: itemsF s0) => item_at g hlt2)
    have HNPE := Lib.hid (toks_errs_at (s := s0) hlt2)
    generalize (toksF s0).1.getD pre.length noTok = q at HQ HNP0 HNPE
    obtain ⟨bt, hbt⟩ : ∃ bt, tokB x q = bt := ⟨_, rfl⟩
    refine (same_one (Y.alloc (.cells #[.int .i64 x.kind, .string x.text, .int .u64 (x.num : Int), .int .i64 (x.pos : Int)] 30)) Y.heap.size 0 tb (to_ + pre.length * 4) 1 (cap - pre.length) x q ⟨by simp, by simp, by simp, by simp⟩ (by simp) ((HQ.out.below HWd.out htl').below HBY.out (by rw [HszY.out]; exact htl')) (by have := HszY.out; simp; omega)).mono ?_
    rintro e Z ⟨rfl, m, hZ⟩
    rw [hbt]
    have HBT := Lib.hid hbt
    clear hbt
    have HBZ := Lib.hid (show Below Y.heap.size Y Z by rw [hZ]; exact below_drawn HBY.out m)
    refine hK.out _ _ (hS2.out _ HBZ.out) (fun _ => ?_)
    clear hK K hH2 hHeld
    refine wpAnyH_take (i := 8) (v := ?_) rfl (by kernel_rfl) (by kernel_rfl) (by kernel_rfl) (fun _ _ _ h => h) (Or.inl ⟨by rfl, ?_⟩) (by assumption) ?_
    rotate_left
    · intro wS hSw
      (skip)
      go_simp
      all_goals with_reducible rfl
    (try simp only [List.getElem_toArray, List.getElem_cons_zero, List.getElem_cons_succ, Act.put, List.setIfInBounds_toArray, List.set_cons_zero, List.set_cons_succ])
    refine wpAnyH_done (by kernel_rfl) ?_ _
    have HSZ := Lib.hid (show St B (fun k => k = Kb) W Z from St.of_below (HWd.out.trans (HBZ.out.mono (by rw [HszY.out]; exact Nat.le_refl _))) (by omega))
    have HXZ := Lib.hid (HX.out.st HSZ.out (fun j g => by omega) hB1)
    have HKZ := Lib.hid (box_below HI.out.1 (HWd.out.trans (HBZ.out.mono (by rw [HszY.out]; exact Nat.le_refl _))) HI.out.1.lt)
    have HTZ := Lib.hid (box_below (HI.out.2.box HT2.out (by omega)) (HWd.out.trans (HBZ.out.mono (by rw [HszY.out]; exact Nat.le_refl _))) (HI.out.2.box HT2.out (by omega)).lt)
    have cr := HXZ.out.res.cell
    have fr := HXZ.out.res.frozen
    clear hZ HBZ HBY hS2 HT4
    cases bt with
    | false =>
      have HNP : Hid (¬ (pre ++ [x] <+: itemsF s0)) := Lib.hid fun g => by
        have := HBT.out; rw [HNP0.out g, tok_self] at this; cases this
      gi_wp2
      exact ⟨(KeepsFrom.trans (HSZ.out.from _) ((KeepsOthers.setCell _ _ _).from _)), .inl ⟨rfl, HNP.out⟩⟩
    | true =>
      by_cases he : x.err = 0
      · have he2 : (x.err != 0) = false := by rw [he]; rfl
        clear he
        by_cases hp0 : (pre.length : Int) = 0
        · have b0 : ((pre.length : Int) == 0) = true := beq_iff_eq.2 hp0
          have HP0 := Lib.hid hp0
          clear hp0
          have ck := HKZ.out.cell
          have ct := HTZ.out.cell
          have cs := fun o => (HXZ.out.seq.alloc o).cell
          gi_wp2
          have hbZ : B + 5 ≤ Z.heap.size := HXZ.out.big
          have hSV0 := HSZ.out.trans (St.alloc (X := fun k => k = Kb) (.cells #[.int .i64 0] 3) (show B ≤ Z.heap.size by omega))
          have hXV := HXZ.out.st (St.alloc (X := fun k => k = Kb) (.cells #[.int .i64 0] 3) (show B ≤ Z.heap.size by omega)) (fun j g => by omega) hB1
          have hKV := HKZ.out.alloc (.cells #[.int .i64 0] 3)
          have hTV := HTZ.out.alloc (.cells #[.int .i64 0] 3)
          have hIV := Boxed.new Z 3 (.int .i64 0)
          obtain ⟨Ib, hIbe⟩ : ∃ Ib, Ib = Z.heap.size := ⟨_, rfl⟩
          have hWZ : W.heap.size ≤ Ib := by rw [hIbe]; exact HSZ.out.below.size
          have hbI : B + 5 ≤ Ib := by rw [hIbe]; exact hbZ
          generalize Z.alloc (.cells #[.int .i64 0] 3) = V at hSV0 hXV hKV hTV hIV ⊢
          rw [← hIbe] at hIV ⊢
          have HIBE := Lib.hid hIbe
          clear hIbe
          have HSV := Lib.hid hSV0
          have HXV := Lib.hid hXV
          have HKV := Lib.hid hKV
          have HTV := Lib.hid hTV
          have HIV := Lib.hid hIV
          have hIlt := hIV.lt
          have hr2 : V.heap[l]? = some (.loop r) := hSV0.defer hr rfl
          have hVb : B + 5 ≤ V.heap.size := HXV.out.big
          have hKI : Kb < Ib := by have h1 := HI.out.1.lt; omega
          have hTI : B + 1 + 1 + 1 + 1 + 1 < Ib := by have h1 := (HI.out.2.box HT2.out (by omega)).lt; omega
          clear hSV0 hXV hKV hTV hIV ck ct cs
          refine rangeN5 (l₀ := l) (r₀ := r) rfl hr2 (by decide) (gf := 33) (lb := #[.pointer (some ⟨B + 1 + 1 + 1, 0, none⟩)]) rfl trivial (enters_of Try.func33 (by kernel_rfl) rfl)
            (SeqStopsK.inRound l (all_stops5 s0 w0 (8 - 1 - 1 - 1) (by decide) (B + 1 + 1 + 1) (fun k => k = Ib) V (fun k h => by omega) HXV.out.text (fun h => by omega))) keepC_t keepC_b (fun _ => rfl)
            (Cnt B (fun k => k = Ib) V Ib 3) (fun _ _ _ => False)
            (cnt_own B _ V Ib 3 (Nat.le_refl _) (by omega))
            (fun _ _ _ _ _ h _ _ => h)
            ⟨HIV.out, St.refl _ _ _⟩
            (fun a y a'' _ => a'' = { tmps := (#[96, 97].zip (encI y)).foldl (fun t (p, v) => t.setIfInBounds p v) a.tmps, defers := [] })
            (fun _ _ _ _ _ _ hs _ _ => hs)
            ?assign2 ?body2 ?done2 ?stop2
          case assign2 =>
            rintro l2 pre2 y W4 K2 hI2 hK2
            have HI2 := Lib.hid hI2
            clear hI2
            gi_wp2
            exact hK2 _ _ (KeepsFrom.refl _ _) (KeepC.refl _ _) HI2.out (by simp [encI])
          case body2 =>
            rintro l2 pre2 y a'' W4 hl2 ⟨r2, hr2'⟩ hI2 rfl hlt3
            have HI2 := Lib.hid hI2
            have c16 := hI2.1.cell
            have f16 := hI2.1.frozen
            have hwi : IntKind.i64.wrap ((pre2.length : Int) + 1) = (pre2.length : Int) + 1 := by rw [IntWalk.i64_in _ (by omega)]
            have HLEN2 := Lib.hid (show (((pre2 ++ [y]).length : Nat) : Int) = (pre2.length : Int) + 1 by simp)
            have HBI := Lib.hid (show B ≤ Ib by omega)
            clear hI2
            gi_wp2
            exact ⟨((St.refl B (fun k => k = Ib) W4).set (.inl rfl) HBI.out _).from _, ((St.refl B (fun k => k = Ib) W4).set (.inl rfl) HBI.out _).keep, by show Boxed _ _ _ (.int .i64 (((pre2 ++ [y]).length : Nat) : Int)); rw [HLEN2.out]; exact HI2.out.1.set _, HI2.out.2.set (.inl rfl) HBI.out _⟩
          case done2 =>
            rintro ys W5 rfl hI2
            have HSU := Lib.hid (HSV.out.trans_new hI2.2 (fun j g => by omega))
            have HKU := Lib.hid (hI2.2.box HKV.out (by omega))
            have HTU := Lib.hid (hI2.2.box HTV.out (by omega))
            have HXU := Lib.hid (HXV.out.st hI2.2 (fun j g => by omega) hB1)
            have c16 := hI2.1.cell
            have c9 := HXU.out.num.cell
            have gne : (((itemsF s0).length : Int) != ((toksF s0).1.length : Int)) = false := by rw [hn0]; exact bne_self_eq_false _
            clear hI2
            have ck := HKU.out.cell
            have fk := HKU.out.frozen
            have ct0 := HTU.out.cell
            have ct := fun v => (HTU.out.other (show B + 1 + 1 + 1 + 1 + 1 ≠ Kb by omega) v).cell
            have cm := fun v => (HXU.out.most.other (show w.heap.size ≠ Kb by omega) v).cell
            have hlen : (((pre ++ [x]).length : Nat) : Int) = (pre.length : Int) + 1 := by simp
            have HLEN := Lib.hid hlen
            have HBK := Lib.hid (show B ≤ Kb by omega)
            clear hlen
            by_cases hm : (pre.length : Int) + 1 = a1
            · have e1 : ((pre.length : Int) + 1 == a1) = true := beq_iff_eq.2 hm
              have HM := Lib.hid hm
              clear hm
              gi_wp2
              exact ⟨(HSU.out.set (.inl rfl) HBK.out _).from _, .inr ⟨rfl, by rw [HLEN.out]; exact HM.out, by show Boxed _ _ _ (.int .i64 (((pre ++ [x]).length : Nat) : Int)); rw [HLEN.out]; exact HKU.out.set _, (HI.out.2.trans HSU.out).set (.inl rfl) HBK.out _⟩⟩
            · have e1 : ((pre.length : Int) + 1 == a1) = false := beq_false_of_ne hm
              clear hm
              gi_wp2
              exact ⟨(HSU.out.set (.inl rfl) HBK.out _).from _, (HSU.out.set (.inl rfl) HBK.out _).keep, by show Boxed _ _ _ (.int .i64 (((pre ++ [x]).length : Nat) : Int)); rw [HLEN.out]; exact HKU.out.set _, (HI.out.2.trans HSU.out).set (.inl rfl) HBK.out _⟩
          case stop2 =>
            rintro c pre2 W5 _ h
            exact h.elim
        · have b0 : ((pre.length : Int) == 0) = false := beq_false_of_ne hp0
          have ck := HKZ.out.cell
          have fk := HKZ.out.frozen
          have ct0 := HTZ.out.cell
          have ct := fun v => (HTZ.out.other (show B + 1 + 1 + 1 + 1 + 1 ≠ Kb by omega) v).cell
          have cm := fun v => (HXZ.out.most.other (show w.heap.size ≠ Kb by omega) v).cell
          have hlen : (((pre ++ [x]).length : Nat) : Int) = (pre.length : Int) + 1 := by simp
          have HLEN := Lib.hid hlen
          have HBK := Lib.hid (show B ≤ Kb by omega)
          clear hlen
          by_cases hm : (pre.length : Int) + 1 = a1
          · have e1 : ((pre.length : Int) + 1 == a1) = true := beq_iff_eq.2 hm
            have HM := Lib.hid hm
            clear hm
            gi_wp2
            exact ⟨(HSZ.out.set (.inl rfl) HBK.out _).from _, .inr ⟨rfl, by rw [HLEN.out]; exact HM.out, by show Boxed _ _ _ (.int .i64 (((pre ++ [x]).length : Nat) : Int)); rw [HLEN.out]; exact HKZ.out.set _, (HI.out.2.trans HSZ.out).set (.inl rfl) HBK.out _⟩⟩
          · have e1 : ((pre.length : Int) + 1 == a1) = false := beq_false_of_ne hm
            clear hm
            gi_wp2
            exact ⟨(HSZ.out.set (.inl rfl) HBK.out _).from _, (HSZ.out.set (.inl rfl) HBK.out _).keep, by show Boxed _ _ _ (.int .i64 (((pre ++ [x]).length : Nat) : Int)); rw [HLEN.out]; exact HKZ.out.set _, (HI.out.2.trans HSZ.out).set (.inl rfl) HBK.out _⟩
      · have he2 : (x.err != 0) = true := bne_iff_ne.2 he
        have HNP : Hid (¬ (pre ++ [x] <+: itemsF s0)) := Lib.hid fun g => he (by rw [HNP0.out g]; exact HNPE.out)
        gi_wp2
        exact ⟨(KeepsFrom.trans (HSZ.out.from _) ((KeepsOthers.setCell _ _ _).from _)), .inl ⟨rfl, HNP.out⟩⟩
  case done0 =>
    rintro D ys W5 hD rfl hI hK
    have HDW := Lib.hid (Nat.le_trans HB2.out.below.size hD)
    have kne : (((itemsF s0).length : Int) != ((toksF s0).1.length : Int)) = false := by rw [hn0]; exact bne_self_eq_false _
    have HX5 := Lib.hid (HB2.out.st hI.2 (fun j g => by omega) hB1)
    have HT5 := Lib.hid (hI.2.box HT2.out (by omega))
    have c12 := hI.1.cell
    have c9 := HX5.out.num.cell
    have c11 := HT5.out.cell
    have cm := HX5.out.most.cell
    have HK5 := Lib.hid hK
    have HS5 := Lib.hid hI.2
    clear hI hK
    gi_wp2
    rw [roundsIn_succ]
    have hn5 : B ≤ W5.heap.size := by have := HX5.out.big; omega
    have hS6 : St B (fun _ => False) W5 (W5.alloc (.cells #[.int .i64 1] 3)) := St.alloc _ hn5
    have hBx := HX5.out.st hS6 (fun j g => g.elim) hB1
    have hTu : Boxed (W5.alloc (.cells #[.int .i64 1] 3)) W5.heap.size 3 (.int .i64 1) := Boxed.new W5 3 (.int .i64 1)
    have hD0 := hS6.defer HK5.out rfl
    generalize (W5.alloc (.cells #[.int .i64 1] 3)) = V3 at hBx hTu hD0 ⊢
    generalize W5.heap.size = Tc at hn5 hTu ⊢
    clear c12 c9 c11 cm HX5 HT5 HK5 HS5 hS6 HB2 HT2 HK2
    have c11 := fun o => (hTu.alloc o).cell
    have c11' := hTu.cell
    have c10 := fun o => (hBx.seq.alloc o).cell
    gi_wp2
    have hlow := hBx.big
    have hB2 := hBx.st (St.alloc (X := fun _ => False) (.cells #[.int .i64 0] 3) (by omega)) (fun j g => g.elim) hB1
    have hT2 := hTu.alloc (.cells #[.int .i64 0] 3)
    have hK2 := Boxed.new V3 3 (.int .i64 0)
    have hKb : Tc < V3.heap.size := hTu.lt
    have hD2 := (Below.heap_alloc V3 (.cells #[.int .i64 0] 3) _ (Array.getElem?_eq_some_iff.1 hD0).1).trans hD0
    have hKb2 : B + 5 ≤ V3.heap.size := hlow
    generalize V3.alloc (.cells #[.int .i64 0] 3) = W2 at hB2 hT2 hK2 hD2 ⊢
    generalize V3.heap.size = Kb at hKb hKb2 hK2 ⊢
    clear c11 c11' c10 hlow
    have HB2 := Lib.hid hB2
    have HT2 := Lib.hid hT2
    have HK2 := Lib.hid hK2
    have hKlt := hK2.lt
    clear hB2 hT2 hK2
    refine rangeH5 rfl (by decide) (gf := 33) (lb := #[.pointer (some ⟨B + 1 + 1 + 1, 0, none⟩)]) rfl trivial (enters_of Try.func33 (by kernel_rfl) rfl)
        (all_stops5 s0 w0 (8 - 1) (by decide) (B + 1 + 1 + 1) (fun k => k = Kb) W2 (fun k h => by omega) HB2.out.text (fun h => by omega)) keepC_t keepC_b (fun _ => rfl)
        (Cnt B (fun k => k = Kb) W2 Kb 3) (fun c pre W => c = .ret ∧ ¬ (pre <+: itemsF s0))
        (cnt_own B _ W2 Kb 3 (Nat.le_refl _) (by have := HB2.out.big; omega))
        (fun c pre X Y row h hg hr => h)
        ⟨HK2.out, St.refl _ _ _⟩
        (fun a x a' W => ∃ Bx, W2.heap.size ≤ Bx ∧ W.heap[Bx]? = some (.cells #[.int .i64 x.kind, .string x.text, .int .u64 (x.num : Int), .int .i64 (x.pos : Int)] 30 (0, 0)) ∧
          a' = { tmps := (((#[43, 44].zip (encI x)).foldl (fun t (p, v) => t.setIfInBounds p v) a.tmps).setIfInBounds 13 (.pointer (some ⟨Bx, 0, none⟩))).setIfInBounds 14 (.int .i64 x.err), defers := [] })
        (fun x a' _ X Y row hs hg hr => by
          obtain ⟨Bx, h1, h2, h3⟩ := hs
          refine ⟨Bx, h1, (hg.block Bx (Array.getElem?_eq_some_iff.1 h2).1 (fun e => ?_)).trans h2, h3⟩
          obtain ⟨_, o, ho, hc⟩ := hr Bx e.symm
          rw [h2] at ho; cases ho; cases hc)
        ?assign1 ?body1 ?done1 ?stop1
    case assign1 =>
      rintro l pre x W K hI hK
      have HI := Lib.hid hI
      clear hI
      gi_wp2
      exact hK _ _ ((KeepsOthers.alloc _ _).from _) (KeepC.alloc _) ⟨HI.out.1.alloc _, HI.out.2.trans (St.alloc _ (by have h1 := HB2.out.big; have h2 := HI.out.2.below.size; omega))⟩ ⟨W.heap.size, HI.out.2.below.size, World.alloc_heap_new W _, by simp [encI]⟩
    case body1 =>
      rintro l pre x a' W hl ⟨r, hr⟩ hI ⟨Bx, hBx, hTx, rfl⟩ hlt
      have HI := Lib.hid hI
      have HX := Lib.hid (HB2.out.st hI.2 (fun j g => by omega) hB1)
      have c12 := hI.1.cell
      have f12 := hI.1.frozen
      have c9 := HX.out.num.cell
      have c6 := HX.out.want.cell
      have HTx := Lib.hid hTx
      have t0 : W.cell? ⟨Bx, 0, none⟩ = some (.int .i64 x.kind) := World.cell?_of_heap5 hTx
      have t1 : W.cell? ⟨Bx, 1, none⟩ = some (.string x.text) := by unfold World.cell?; rw [hTx]; rfl
      have t2 : W.cell? ⟨Bx, 2, none⟩ = some (.int .u64 (x.num : Int)) := by unfold World.cell?; rw [hTx]; rfl
      have t3 : W.cell? ⟨Bx, 3, none⟩ = some (.int .i64 (x.pos : Int)) := by unfold World.cell?; rw [hTx]; rfl
      have g1 : ¬ ((toksF s0).1.length : Int) ≤ (pre.length : Int) := by omega
      clear hI hTx
      have hlt2 : pre.length < (toksF s0).1.length := by omega
      have g2 : (pre.length : Int) < ((toksF s0).1.length : Int) := by omega
      clear hlt
      have hsW : B + 5 ≤ W.heap.size := HX.out.big
      obtain ⟨tb, to_, hA, htl⟩ := HX.out.low (by omega)
      have hcells := HX.out.toks (by omega)
      obtain ⟨tb', to', hA', htl', hcs⟩ := hcells
      rw [hA] at hA'; injection hA' with hA'; injection hA' with e1 e2 _; subst e1; subst e2
      have HQ := Lib.hid (hcs pre.length hlt2)
      have hcap := HX.out.cap
      have hcapm : ¬ cap = pre.length := by omega
      clear hcs
      subst hA
      have hwr : IntKind.i64.wrap ((pre.length : Int) + 1) = (pre.length : Int) + 1 := by rw [IntWalk.i64_in _ (by omega)]
      have hw1 : (0 : Int) ≤ (pre.length : Int) + 1 := by omega
      have hw2 : (pre.length : Int) + 1 ≤ (cap : Int) := by omega
      have hw3 : ((pre.length : Int) + 1).toNat = pre.length + 1 := by omega
      gi_wp2
      refine wpIn_region_held_drew (S := fun W' => Tk W' Bx x.kind x.text x.num x.pos ∧ W'.cell? ⟨Kb, 0, none⟩ = some (.int .i64 (pre.length : Int)) ∧ W'.cell? ⟨B, 0, none⟩ = some (.slice (some ⟨tb, to_, none⟩) (toksF s0).1.length cap)) (by kernel_rfl) (by kernel_rfl) (fun ⟨_, _, h⟩ => h) ⟨⟨t0, t1, t2, t3⟩, c12, c6⟩ (fun hHeld => ?_)
      refine wpAnyH_take (i := 0) (v := ?_) rfl (by kernel_rfl) (by kernel_rfl) (by kernel_rfl) (fun _ _ _ h => h) (Or.inl ⟨by rfl, ?_⟩) (by assumption) ?_
      rotate_left
      · intro wS hSw
        (obtain ⟨⟨i0, i1, i2, i3⟩, i4, i5⟩ := hSw)
        go_simp
        all_goals with_reducible rfl
      (try simp only [List.getElem_toArray, List.getElem_cons_zero, List.getElem_cons_succ, Act.put, List.setIfInBounds_toArray, List.set_cons_zero, List.set_cons_succ])
      refine wpAnyH_take (i := 2) (v := ?_) rfl (by kernel_rfl) (by kernel_rfl) (by kernel_rfl) (fun _ _ _ h => h) (Or.inl ⟨by rfl, ?_⟩) (by assumption) ?_
      rotate_left
      · intro wS hSw
        (obtain ⟨⟨i0, i1, i2, i3⟩, i4, i5⟩ := hSw)
        go_simp
        all_goals with_reducible rfl
      (try simp only [List.getElem_toArray, List.getElem_cons_zero, List.getElem_cons_succ, Act.put, List.setIfInBounds_toArray, List.set_cons_zero, List.set_cons_succ])
      refine wpAnyH_take (i := 3) (v := ?_) rfl (by kernel_rfl) (by kernel_rfl) (by kernel_rfl) (fun _ _ _ h => h) (Or.inl ⟨by rfl, ?_⟩) (by assumption) ?_
      rotate_left
      · intro wS hSw
        (obtain ⟨⟨i0, i1, i2, i3⟩, i4, i5⟩ := hSw)
        go_simp
        all_goals with_reducible rfl
      (try simp only [List.getElem_toArray, List.getElem_cons_zero, List.getElem_cons_succ, Act.put, List.setIfInBounds_toArray, List.set_cons_zero, List.set_cons_succ])
      refine wpAnyH_take (i := 4) (v := ?_) rfl (by kernel_rfl) (by kernel_rfl) (by kernel_rfl) (fun _ _ _ h => h) (Or.inl ⟨by rfl, ?_⟩) (by assumption) ?_
      rotate_left
      · intro wS hSw
        (obtain ⟨⟨i0, i1, i2, i3⟩, i4, i5⟩ := hSw)
        go_simp
        all_goals with_reducible rfl
      (try simp only [List.getElem_toArray, List.getElem_cons_zero, List.getElem_cons_succ, Act.put, List.setIfInBounds_toArray, List.set_cons_zero, List.set_cons_succ])
      refine wpAnyH_take (i := 5) (v := ?_) rfl (by kernel_rfl) (by kernel_rfl) (by kernel_rfl) (fun _ _ _ h => h) (Or.inl ⟨by rfl, ?_⟩) (by assumption) ?_
      rotate_left
      · intro wS hSw
        (obtain ⟨⟨i0, i1, i2, i3⟩, i4, i5⟩ := hSw)
        go_simp
        all_goals with_reducible rfl
      (try simp only [List.getElem_toArray, List.getElem_cons_zero, List.getElem_cons_succ, Act.put, List.setIfInBounds_toArray, List.set_cons_zero, List.set_cons_succ])
      refine wpAnyH_take (i := 6) (v := ?_) rfl (by kernel_rfl) (by kernel_rfl) (by kernel_rfl) (fun _ _ _ h => h) (Or.inl ⟨by rfl, ?_⟩) (by assumption) ?_
      rotate_left
      · intro wS hSw
        (obtain ⟨⟨i0, i1, i2, i3⟩, i4, i5⟩ := hSw)
        go_simp
        all_goals with_reducible rfl
      (try simp only [List.getElem_toArray, List.getElem_cons_zero, List.getElem_cons_succ, Act.put, List.setIfInBounds_toArray, List.set_cons_zero, List.set_cons_succ])
      clear t0 t1 t2 t3 c12 f12 c9 c6
      have HT4 := Lib.hid hHeld
      have HWd := Lib.hid (show Below W.heap.size W W.drew from below_drawn (Below.refl W.heap.size W) 1)
      have HszY := Lib.hid (show W.drew.heap.size = W.heap.size from rfl)
      generalize W.drew = Y at HT4 HWd HszY ⊢
      refine held_one (i := 1) (by kernel_rfl) rfl (fun K hK => ?_)
      go_simp
      have hS2 : Hid (∀ Z, Below Y.heap.size Y Z → Tk Z Bx x.kind x.text x.num x.pos ∧ Z.cell? ⟨Kb, 0, none⟩ = some (.int .i64 (pre.length : Int)) ∧ Z.cell? ⟨B, 0, none⟩ = some (.slice (some ⟨tb, to_, none⟩) (toksF s0).1.length cap)) := Lib.hid fun Z hZ =>
        ⟨HT4.out.1.below hZ, (hZ.cell (p := ⟨Kb, 0, none⟩) (cell_lt HT4.out.2.1)).trans HT4.out.2.1, (hZ.cell (p := ⟨B, 0, none⟩) (cell_lt HT4.out.2.2)).trans HT4.out.2.2⟩
      have HBY := Lib.hid (lbox_up Y (.cells #[.int .i64 x.kind, .string x.text, .int .u64 (x.num : Int), .int .i64 (x.pos : Int)] 30) (Nat.le_refl Y.heap.size))
      refine hK.out _ _ (hS2.out _ HBY.out) (fun hH2 => ?_)
      clear hK K
      refine held_one (i := 7) (by kernel_rfl) rfl (fun K hK => ?_)
      go_simp
      have HNP0 := Lib.hid (fun (g : pre ++ [x] <+: itemsF s0) => item_at g hlt2)
      have HNPE := Lib.hid (toks_errs_at (s := s0) hlt2)
      generalize (toksF s0).1.getD pre.length noTok = q at HQ HNP0 HNPE
      obtain ⟨bt, hbt⟩ : ∃ bt, tokB x q = bt := ⟨_, rfl⟩
      refine (same_one (Y.alloc (.cells #[.int .i64 x.kind, .string x.text, .int .u64 (x.num : Int), .int .i64 (x.pos : Int)] 30)) Y.heap.size 0 tb (to_ + pre.length * 4) 1 (cap - pre.length) x q ⟨by simp, by simp, by simp, by simp⟩ (by simp) ((HQ.out.below HWd.out htl').below HBY.out (by rw [HszY.out]; exact htl')) (by have := HszY.out; simp; omega)).mono ?_
      rintro e Z ⟨rfl, m, hZ⟩
      rw [hbt]
      have HBT := Lib.hid hbt
      clear hbt
      have HBZ := Lib.hid (show Below Y.heap.size Y Z by rw [hZ]; exact below_drawn HBY.out m)
      refine hK.out _ _ (hS2.out _ HBZ.out) (fun _ => ?_)
      clear hK K hH2 hHeld
      refine wpAnyH_take (i := 8) (v := ?_) rfl (by kernel_rfl) (by kernel_rfl) (by kernel_rfl) (fun _ _ _ h => h) (Or.inl ⟨by rfl, ?_⟩) (by assumption) ?_
      rotate_left
      · intro wS hSw
        (skip)
        go_simp
        all_goals with_reducible rfl
      (try simp only [List.getElem_toArray, List.getElem_cons_zero, List.getElem_cons_succ, Act.put, List.setIfInBounds_toArray, List.set_cons_zero, List.set_cons_succ])
      refine wpAnyH_done (by kernel_rfl) ?_ _
      have HSZ := Lib.hid (show St B (fun k => k = Kb) W Z from St.of_below (HWd.out.trans (HBZ.out.mono (by rw [HszY.out]; exact Nat.le_refl _))) (by omega))
      have HXZ := Lib.hid (HX.out.st HSZ.out (fun j g => by omega) hB1)
      have HKZ := Lib.hid (box_below HI.out.1 (HWd.out.trans (HBZ.out.mono (by rw [HszY.out]; exact Nat.le_refl _))) HI.out.1.lt)
      have HTZ := Lib.hid (box_below (HI.out.2.box HT2.out (by omega)) (HWd.out.trans (HBZ.out.mono (by rw [HszY.out]; exact Nat.le_refl _))) (HI.out.2.box HT2.out (by omega)).lt)
      have cr := HXZ.out.res.cell
      have fr := HXZ.out.res.frozen
      clear hZ HBZ HBY hS2 HT4
      cases bt with
      | false =>
        have HNP : Hid (¬ (pre ++ [x] <+: itemsF s0)) := Lib.hid fun g => by
          have := HBT.out; rw [HNP0.out g, tok_self] at this; cases this
        gi_wp2
        exact ⟨(KeepsFrom.trans (HSZ.out.from _) ((KeepsOthers.setCell _ _ _).from _)), ⟨rfl, HNP.out⟩⟩
      | true =>
        by_cases he : x.err = 0
        · have he2 : (x.err != 0) = false := by rw [he]; rfl
          clear he
          by_cases hp0 : (pre.length : Int) = 0
          · have b0 : ((pre.length : Int) == 0) = true := beq_iff_eq.2 hp0
            have HP0 := Lib.hid hp0
            clear hp0
            have ck := HKZ.out.cell
            have fk := HKZ.out.frozen
            have ct0 := HTZ.out.cell
            have ct := fun v => (HTZ.out.other (show Tc ≠ Kb by omega) v).cell
            have cm := fun v => (HXZ.out.most.other (show w.heap.size ≠ Kb by omega) v).cell
            have hlen : (((pre ++ [x]).length : Nat) : Int) = (pre.length : Int) + 1 := by simp
            have HLEN := Lib.hid hlen
            have HBK := Lib.hid (show B ≤ Kb by omega)
            clear hlen
            gi_wp2
            exact ⟨(HSZ.out.set (.inl rfl) HBK.out _).from _, (HSZ.out.set (.inl rfl) HBK.out _).keep, by show Boxed _ _ _ (.int .i64 (((pre ++ [x]).length : Nat) : Int)); rw [HLEN.out]; exact HKZ.out.set _, (HI.out.2.trans HSZ.out).set (.inl rfl) HBK.out _⟩
          · have b0 : ((pre.length : Int) == 0) = false := beq_false_of_ne hp0
            have ck := HKZ.out.cell
            have fk := HKZ.out.frozen
            have ct0 := HTZ.out.cell
            have ct := fun v => (HTZ.out.other (show Tc ≠ Kb by omega) v).cell
            have cm := fun v => (HXZ.out.most.other (show w.heap.size ≠ Kb by omega) v).cell
            have hlen : (((pre ++ [x]).length : Nat) : Int) = (pre.length : Int) + 1 := by simp
            have HLEN := Lib.hid hlen
            have HBK := Lib.hid (show B ≤ Kb by omega)
            clear hlen
            gi_wp2
            exact ⟨(HSZ.out.set (.inl rfl) HBK.out _).from _, (HSZ.out.set (.inl rfl) HBK.out _).keep, by show Boxed _ _ _ (.int .i64 (((pre ++ [x]).length : Nat) : Int)); rw [HLEN.out]; exact HKZ.out.set _, (HI.out.2.trans HSZ.out).set (.inl rfl) HBK.out _⟩
        · have he2 : (x.err != 0) = true := bne_iff_ne.2 he
          have HNP : Hid (¬ (pre ++ [x] <+: itemsF s0)) := Lib.hid fun g => he (by rw [HNP0.out g]; exact HNPE.out)
          gi_wp2
          exact ⟨(KeepsFrom.trans (HSZ.out.from _) ((KeepsOthers.setCell _ _ _).from _)), ⟨rfl, HNP.out⟩⟩
    case done1 =>
      rintro D1 ys W5 hD1' rfl hI hK
      have kne : (((itemsF s0).length : Int) != ((toksF s0).1.length : Int)) = false := by rw [hn0]; exact bne_self_eq_false _
      have HX5 := Lib.hid (HB2.out.st hI.2 (fun j g => by omega) hB1)
      have HT5 := Lib.hid (hI.2.box HT2.out (by omega))
      have c12 := hI.1.cell
      have c9 := HX5.out.num.cell
      have c11 := HT5.out.cell
      have cm := HX5.out.most.cell
      have HK5 := Lib.hid hK
      have HS5 := Lib.hid hI.2
      clear hI hK
      gi_wp2
      rw [roundsIn_succ]
      have hn5 : B ≤ W5.heap.size := by have := HX5.out.big; omega
      have hS6 : St B (fun _ => False) W5 (W5.alloc (.cells #[.int .i64 2] 3)) := St.alloc _ hn5
      have hBx := HX5.out.st hS6 (fun j g => g.elim) hB1
      have hTu : Boxed (W5.alloc (.cells #[.int .i64 2] 3)) W5.heap.size 3 (.int .i64 2) := Boxed.new W5 3 (.int .i64 2)
      have hD0 := hS6.defer HK5.out rfl
      have hD1 := hS6.defer (HS5.out.defer hD2 rfl) rfl
      have cr := hBx.res.cell
      have fr := hBx.res.frozen
      have ct := hTu.cell
      generalize (W5.alloc (.cells #[.int .i64 2] 3)) = V3 at hBx hTu hD0 hD1 cr fr ct ⊢
      have HB3 := Lib.hid hBx
      have HDa := Lib.hid hD0
      have HDb := Lib.hid hD1
      have hDlt : D < W2.heap.size := (Array.getElem?_eq_some_iff.1 hD2).1
      have hw2 : w.heap.size ≤ W2.heap.size := HB2.out.below.size
      clear hBx hTu hD0 hD1 c12 c9 c11 cm
      gi_wp2
      have hDa := (KeepsOthers.setCell V3 ⟨w.heap.size + 1, 0, none⟩ (.bool true)).same _ _ HDa.out rfl
      have hDb := (KeepsOthers.setCell V3 ⟨w.heap.size + 1, 0, none⟩ (.bool true)).same _ _ HDb.out rfl
      have hres := HB3.out.res.set (.bool true)
      have hbw : Below w.heap.size w (V3.setCell ⟨w.heap.size + 1, 0, none⟩ (.bool true)) := HB3.out.below.setCell (p := ⟨w.heap.size + 1, 0, none⟩) (by show w.heap.size ≤ w.heap.size + 1; omega) _
      generalize V3.setCell ⟨w.heap.size + 1, 0, none⟩ (.bool true) = V4 at hDa hDb hres hbw ⊢
      refine ⟨by simp, .inl ⟨_, _, rfl, run_takeDeferred hDa, ?_⟩⟩
      have hDc := ((grownBy_putObj' V4 D1 (.deferred none)).block D (Array.getElem?_eq_some_iff.1 hDb).1 (fun e => by cases e; omega)).trans hDb
      have hr1 := hres.kept (grownBy_putObj' V4 D1 (.deferred none)) (box_def hres hDa rfl)
      have hb1 := hbw.trans (belowK_b (w := w) (Nat.le_refl _) V4 D1 (.deferred (some [])) (.deferred none) (by omega) hDa rfl rfl)
      generalize V4.putObj D1 (.deferred none) = V5 at hDc hr1 hb1 ⊢
      refine ⟨by simp, .inl ⟨_, _, rfl, run_takeDeferred hDc, ?_⟩⟩
      have hr2 := (hr1.kept (grownBy_putObj' V5 D (.deferred none)) (box_def hr1 hDc rfl)).cell
      have hb2 := hb1.trans (belowK_b (w := w) (Nat.le_refl _) V5 D (.deferred (some [])) (.deferred none) HDW.out hDc rfl rfl)
      exact ⟨.bool true, by simp [results, Try.results6, go_sem, hr2], rfl, hb2⟩
    case stop1 =>
      rintro D c pre W5 _ hpre ⟨_, hx⟩ _
      exact absurd hpre hx
  case stop0 =>
    rintro D c pre W5 hD hpre hx hK
    have HDW := Lib.hid (Nat.le_trans HB2.out.below.size hD)
    rcases hx with ⟨_, hx⟩ | ⟨rfl, hk, hI⟩
    · exact absurd hpre hx
    · have kne2 : ((pre.length : Int) != a1) = false := by rw [hk]; exact bne_self_eq_false _
      have HX5 := Lib.hid (HB2.out.st hI.2 (fun j g => by omega) hB1)
      have HT5 := Lib.hid (hI.2.box HT2.out (by omega))
      have c12 := hI.1.cell
      have c9 := HX5.out.num.cell
      have c11 := HT5.out.cell
      have cm := HX5.out.most.cell
      have HK5 := Lib.hid hK
      have HS5 := Lib.hid hI.2
      clear hI hK hk
      by_cases hkn : (pre.length : Int) = ((toksF s0).1.length : Int)
      · have kne : ((pre.length : Int) != ((toksF s0).1.length : Int)) = false := by rw [hkn]; exact bne_self_eq_false _
        clear hkn
        gi_wp2
        rw [roundsIn_succ]
        have hn5 : B ≤ W5.heap.size := by have := HX5.out.big; omega
        have hS6 : St B (fun _ => False) W5 (W5.alloc (.cells #[.int .i64 1] 3)) := St.alloc _ hn5
        have hBx := HX5.out.st hS6 (fun j g => g.elim) hB1
        have hTu : Boxed (W5.alloc (.cells #[.int .i64 1] 3)) W5.heap.size 3 (.int .i64 1) := Boxed.new W5 3 (.int .i64 1)
        have hD0 := hS6.defer HK5.out rfl
        generalize (W5.alloc (.cells #[.int .i64 1] 3)) = V3 at hBx hTu hD0 ⊢
        generalize W5.heap.size = Tc at hn5 hTu ⊢
        clear c12 c9 c11 cm HX5 HT5 HK5 HS5 hS6 HB2 HT2 HK2
        have c11 := fun o => (hTu.alloc o).cell
        have c11' := hTu.cell
        have c10 := fun o => (hBx.seq.alloc o).cell
        gi_wp2
        have hlow := hBx.big
        have hB2 := hBx.st (St.alloc (X := fun _ => False) (.cells #[.int .i64 0] 3) (by omega)) (fun j g => g.elim) hB1
        have hT2 := hTu.alloc (.cells #[.int .i64 0] 3)
        have hK2 := Boxed.new V3 3 (.int .i64 0)
        have hKb : Tc < V3.heap.size := hTu.lt
        have hD2 := (Below.heap_alloc V3 (.cells #[.int .i64 0] 3) _ (Array.getElem?_eq_some_iff.1 hD0).1).trans hD0
        have hKb2 : B + 5 ≤ V3.heap.size := hlow
        generalize V3.alloc (.cells #[.int .i64 0] 3) = W2 at hB2 hT2 hK2 hD2 ⊢
        generalize V3.heap.size = Kb at hKb hKb2 hK2 ⊢
        clear c11 c11' c10 hlow
        have HB2 := Lib.hid hB2
        have HT2 := Lib.hid hT2
        have HK2 := Lib.hid hK2
        have hKlt := hK2.lt
        clear hB2 hT2 hK2
        refine rangeH5 rfl (by decide) (gf := 33) (lb := #[.pointer (some ⟨B + 1 + 1 + 1, 0, none⟩)]) rfl trivial (enters_of Try.func33 (by kernel_rfl) rfl)
            (all_stops5 s0 w0 (8 - 1) (by decide) (B + 1 + 1 + 1) (fun k => k = Kb) W2 (fun k h => by omega) HB2.out.text (fun h => by omega)) keepC_t keepC_b (fun _ => rfl)
            (Cnt B (fun k => k = Kb) W2 Kb 3) (fun c pre W => c = .ret ∧ ¬ (pre <+: itemsF s0))
            (cnt_own B _ W2 Kb 3 (Nat.le_refl _) (by have := HB2.out.big; omega))
            (fun c pre X Y row h hg hr => h)
            ⟨HK2.out, St.refl _ _ _⟩
            (fun a x a' W => ∃ Bx, W2.heap.size ≤ Bx ∧ W.heap[Bx]? = some (.cells #[.int .i64 x.kind, .string x.text, .int .u64 (x.num : Int), .int .i64 (x.pos : Int)] 30 (0, 0)) ∧
              a' = { tmps := (((#[43, 44].zip (encI x)).foldl (fun t (p, v) => t.setIfInBounds p v) a.tmps).setIfInBounds 13 (.pointer (some ⟨Bx, 0, none⟩))).setIfInBounds 14 (.int .i64 x.err), defers := [] })
            (fun x a' _ X Y row hs hg hr => by
              obtain ⟨Bx, h1, h2, h3⟩ := hs
              refine ⟨Bx, h1, (hg.block Bx (Array.getElem?_eq_some_iff.1 h2).1 (fun e => ?_)).trans h2, h3⟩
              obtain ⟨_, o, ho, hc⟩ := hr Bx e.symm
              rw [h2] at ho; cases ho; cases hc)
            ?assign1a ?body1a ?done1a ?stop1a
        case assign1a =>
          rintro l pre x W K hI hK
          have HI := Lib.hid hI
          clear hI
          gi_wp2
          exact hK _ _ ((KeepsOthers.alloc _ _).from _) (KeepC.alloc _) ⟨HI.out.1.alloc _, HI.out.2.trans (St.alloc _ (by have h1 := HB2.out.big; have h2 := HI.out.2.below.size; omega))⟩ ⟨W.heap.size, HI.out.2.below.size, World.alloc_heap_new W _, by simp [encI]⟩
        case body1a =>
          rintro l pre x a' W hl ⟨r, hr⟩ hI ⟨Bx, hBx, hTx, rfl⟩ hlt
          have HI := Lib.hid hI
          have HX := Lib.hid (HB2.out.st hI.2 (fun j g => by omega) hB1)
          have c12 := hI.1.cell
          have f12 := hI.1.frozen
          have c9 := HX.out.num.cell
          have c6 := HX.out.want.cell
          have HTx := Lib.hid hTx
          have t0 : W.cell? ⟨Bx, 0, none⟩ = some (.int .i64 x.kind) := World.cell?_of_heap5 hTx
          have t1 : W.cell? ⟨Bx, 1, none⟩ = some (.string x.text) := by unfold World.cell?; rw [hTx]; rfl
          have t2 : W.cell? ⟨Bx, 2, none⟩ = some (.int .u64 (x.num : Int)) := by unfold World.cell?; rw [hTx]; rfl
          have t3 : W.cell? ⟨Bx, 3, none⟩ = some (.int .i64 (x.pos : Int)) := by unfold World.cell?; rw [hTx]; rfl
          have g1 : ¬ ((toksF s0).1.length : Int) ≤ (pre.length : Int) := by omega
          clear hI hTx
          have hlt2 : pre.length < (toksF s0).1.length := by omega
          have g2 : (pre.length : Int) < ((toksF s0).1.length : Int) := by omega
          clear hlt
          have hsW : B + 5 ≤ W.heap.size := HX.out.big
          obtain ⟨tb, to_, hA, htl⟩ := HX.out.low (by omega)
          have hcells := HX.out.toks (by omega)
          obtain ⟨tb', to', hA', htl', hcs⟩ := hcells
          rw [hA] at hA'; injection hA' with hA'; injection hA' with e1 e2 _; subst e1; subst e2
          have HQ := Lib.hid (hcs pre.length hlt2)
          have hcap := HX.out.cap
          have hcapm : ¬ cap = pre.length := by omega
          clear hcs
          subst hA
          have hwr : IntKind.i64.wrap ((pre.length : Int) + 1) = (pre.length : Int) + 1 := by rw [IntWalk.i64_in _ (by omega)]
          have hw1 : (0 : Int) ≤ (pre.length : Int) + 1 := by omega
          have hw2 : (pre.length : Int) + 1 ≤ (cap : Int) := by omega
          have hw3 : ((pre.length : Int) + 1).toNat = pre.length + 1 := by omega
          gi_wp2
          refine wpIn_region_held_drew (S := fun W' => Tk W' Bx x.kind x.text x.num x.pos ∧ W'.cell? ⟨Kb, 0, none⟩ = some (.int .i64 (pre.length : Int)) ∧ W'.cell? ⟨B, 0, none⟩ = some (.slice (some ⟨tb, to_, none⟩) (toksF s0).1.length cap)) (by kernel_rfl) (by kernel_rfl) (fun ⟨_, _, h⟩ => h) ⟨⟨t0, t1, t2, t3⟩, c12, c6⟩ (fun hHeld => ?_)
          refine wpAnyH_take (i := 0) (v := ?_) rfl (by kernel_rfl) (by kernel_rfl) (by kernel_rfl) (fun _ _ _ h => h) (Or.inl ⟨by rfl, ?_⟩) (by assumption) ?_
          rotate_left
          · intro wS hSw
            (obtain ⟨⟨i0, i1, i2, i3⟩, i4, i5⟩ := hSw)
            go_simp
            all_goals with_reducible rfl
          (try simp only [List.getElem_toArray, List.getElem_cons_zero, List.getElem_cons_succ, Act.put, List.setIfInBounds_toArray, List.set_cons_zero, List.set_cons_succ])
          refine wpAnyH_take (i := 2) (v := ?_) rfl (by kernel_rfl) (by kernel_rfl) (by kernel_rfl) (fun _ _ _ h => h) (Or.inl ⟨by rfl, ?_⟩) (by assumption) ?_
          rotate_left
          · intro wS hSw
            (obtain ⟨⟨i0, i1, i2, i3⟩, i4, i5⟩ := hSw)
            go_simp
            all_goals with_reducible rfl
          (try simp only [List.getElem_toArray, List.getElem_cons_zero, List.getElem_cons_succ, Act.put, List.setIfInBounds_toArray, List.set_cons_zero, List.set_cons_succ])
          refine wpAnyH_take (i := 3) (v := ?_) rfl (by kernel_rfl) (by kernel_rfl) (by kernel_rfl) (fun _ _ _ h => h) (Or.inl ⟨by rfl, ?_⟩) (by assumption) ?_
          rotate_left
          · intro wS hSw
            (obtain ⟨⟨i0, i1, i2, i3⟩, i4, i5⟩ := hSw)
            go_simp
            all_goals with_reducible rfl
          (try simp only [List.getElem_toArray, List.getElem_cons_zero, List.getElem_cons_succ, Act.put, List.setIfInBounds_toArray, List.set_cons_zero, List.set_cons_succ])
          refine wpAnyH_take (i := 4) (v := ?_) rfl (by kernel_rfl) (by kernel_rfl) (by kernel_rfl) (fun _ _ _ h => h) (Or.inl ⟨by rfl, ?_⟩) (by assumption) ?_
          rotate_left
          · intro wS hSw
            (obtain ⟨⟨i0, i1, i2, i3⟩, i4, i5⟩ := hSw)
            go_simp
            all_goals with_reducible rfl
          (try simp only [List.getElem_toArray, List.getElem_cons_zero, List.getElem_cons_succ, Act.put, List.setIfInBounds_toArray, List.set_cons_zero, List.set_cons_succ])
          refine wpAnyH_take (i := 5) (v := ?_) rfl (by kernel_rfl) (by kernel_rfl) (by kernel_rfl) (fun _ _ _ h => h) (Or.inl ⟨by rfl, ?_⟩) (by assumption) ?_
          rotate_left
          · intro wS hSw
            (obtain ⟨⟨i0, i1, i2, i3⟩, i4, i5⟩ := hSw)
            go_simp
            all_goals with_reducible rfl
          (try simp only [List.getElem_toArray, List.getElem_cons_zero, List.getElem_cons_succ, Act.put, List.setIfInBounds_toArray, List.set_cons_zero, List.set_cons_succ])
          refine wpAnyH_take (i := 6) (v := ?_) rfl (by kernel_rfl) (by kernel_rfl) (by kernel_rfl) (fun _ _ _ h => h) (Or.inl ⟨by rfl, ?_⟩) (by assumption) ?_
          rotate_left
          · intro wS hSw
            (obtain ⟨⟨i0, i1, i2, i3⟩, i4, i5⟩ := hSw)
            go_simp
            all_goals with_reducible rfl
          (try simp only [List.getElem_toArray, List.getElem_cons_zero, List.getElem_cons_succ, Act.put, List.setIfInBounds_toArray, List.set_cons_zero, List.set_cons_succ])
          clear t0 t1 t2 t3 c12 f12 c9 c6
          have HT4 := Lib.hid hHeld
          have HWd := Lib.hid (show Below W.heap.size W W.drew from below_drawn (Below.refl W.heap.size W) 1)
          have HszY := Lib.hid (show W.drew.heap.size = W.heap.size from rfl)
          generalize W.drew = Y at HT4 HWd HszY ⊢
          refine held_one (i := 1) (by kernel_rfl) rfl (fun K hK => ?_)
          go_simp
          have hS2 : Hid (∀ Z, Below Y.heap.size Y Z → Tk Z Bx x.kind x.text x.num x.pos ∧ Z.cell? ⟨Kb, 0, none⟩ = some (.int .i64 (pre.length : Int)) ∧ Z.cell? ⟨B, 0, none⟩ = some (.slice (some ⟨tb, to_, none⟩) (toksF s0).1.length cap)) := Lib.hid fun Z hZ =>
            ⟨HT4.out.1.below hZ, (hZ.cell (p := ⟨Kb, 0, none⟩) (cell_lt HT4.out.2.1)).trans HT4.out.2.1, (hZ.cell (p := ⟨B, 0, none⟩) (cell_lt HT4.out.2.2)).trans HT4.out.2.2⟩
          have HBY := Lib.hid (lbox_up Y (.cells #[.int .i64 x.kind, .string x.text, .int .u64 (x.num : Int), .int .i64 (x.pos : Int)] 30) (Nat.le_refl Y.heap.size))
          refine hK.out _ _ (hS2.out _ HBY.out) (fun hH2 => ?_)
          clear hK K
          refine held_one (i := 7) (by kernel_rfl) rfl (fun K hK => ?_)
          go_simp
          have HNP0 := Lib.hid (fun (g : pre ++ [x] <+: itemsF s0) => item_at g hlt2)
          have HNPE := Lib.hid (toks_errs_at (s := s0) hlt2)
          generalize (toksF s0).1.getD pre.length noTok = q at HQ HNP0 HNPE
          obtain ⟨bt, hbt⟩ : ∃ bt, tokB x q = bt := ⟨_, rfl⟩
          refine (same_one (Y.alloc (.cells #[.int .i64 x.kind, .string x.text, .int .u64 (x.num : Int), .int .i64 (x.pos : Int)] 30)) Y.heap.size 0 tb (to_ + pre.length * 4) 1 (cap - pre.length) x q ⟨by simp, by simp, by simp, by simp⟩ (by simp) ((HQ.out.below HWd.out htl').below HBY.out (by rw [HszY.out]; exact htl')) (by have := HszY.out; simp; omega)).mono ?_
          rintro e Z ⟨rfl, m, hZ⟩
          rw [hbt]
          have HBT := Lib.hid hbt
          clear hbt
          have HBZ := Lib.hid (show Below Y.heap.size Y Z by rw [hZ]; exact below_drawn HBY.out m)
          refine hK.out _ _ (hS2.out _ HBZ.out) (fun _ => ?_)
          clear hK K hH2 hHeld
          refine wpAnyH_take (i := 8) (v := ?_) rfl (by kernel_rfl) (by kernel_rfl) (by kernel_rfl) (fun _ _ _ h => h) (Or.inl ⟨by rfl, ?_⟩) (by assumption) ?_
          rotate_left
          · intro wS hSw
            (skip)
            go_simp
            all_goals with_reducible rfl
          (try simp only [List.getElem_toArray, List.getElem_cons_zero, List.getElem_cons_succ, Act.put, List.setIfInBounds_toArray, List.set_cons_zero, List.set_cons_succ])
          refine wpAnyH_done (by kernel_rfl) ?_ _
          have HSZ := Lib.hid (show St B (fun k => k = Kb) W Z from St.of_below (HWd.out.trans (HBZ.out.mono (by rw [HszY.out]; exact Nat.le_refl _))) (by omega))
          have HXZ := Lib.hid (HX.out.st HSZ.out (fun j g => by omega) hB1)
          have HKZ := Lib.hid (box_below HI.out.1 (HWd.out.trans (HBZ.out.mono (by rw [HszY.out]; exact Nat.le_refl _))) HI.out.1.lt)
          have HTZ := Lib.hid (box_below (HI.out.2.box HT2.out (by omega)) (HWd.out.trans (HBZ.out.mono (by rw [HszY.out]; exact Nat.le_refl _))) (HI.out.2.box HT2.out (by omega)).lt)
          have cr := HXZ.out.res.cell
          have fr := HXZ.out.res.frozen
          clear hZ HBZ HBY hS2 HT4
          cases bt with
          | false =>
            have HNP : Hid (¬ (pre ++ [x] <+: itemsF s0)) := Lib.hid fun g => by
              have := HBT.out; rw [HNP0.out g, tok_self] at this; cases this
            gi_wp2
            exact ⟨(KeepsFrom.trans (HSZ.out.from _) ((KeepsOthers.setCell _ _ _).from _)), ⟨rfl, HNP.out⟩⟩
          | true =>
            by_cases he : x.err = 0
            · have he2 : (x.err != 0) = false := by rw [he]; rfl
              clear he
              by_cases hp0 : (pre.length : Int) = 0
              · have b0 : ((pre.length : Int) == 0) = true := beq_iff_eq.2 hp0
                have HP0 := Lib.hid hp0
                clear hp0
                have ck := HKZ.out.cell
                have fk := HKZ.out.frozen
                have ct0 := HTZ.out.cell
                have ct := fun v => (HTZ.out.other (show Tc ≠ Kb by omega) v).cell
                have cm := fun v => (HXZ.out.most.other (show w.heap.size ≠ Kb by omega) v).cell
                have hlen : (((pre ++ [x]).length : Nat) : Int) = (pre.length : Int) + 1 := by simp
                have HLEN := Lib.hid hlen
                have HBK := Lib.hid (show B ≤ Kb by omega)
                clear hlen
                gi_wp2
                exact ⟨(HSZ.out.set (.inl rfl) HBK.out _).from _, (HSZ.out.set (.inl rfl) HBK.out _).keep, by show Boxed _ _ _ (.int .i64 (((pre ++ [x]).length : Nat) : Int)); rw [HLEN.out]; exact HKZ.out.set _, (HI.out.2.trans HSZ.out).set (.inl rfl) HBK.out _⟩
              · have b0 : ((pre.length : Int) == 0) = false := beq_false_of_ne hp0
                have ck := HKZ.out.cell
                have fk := HKZ.out.frozen
                have ct0 := HTZ.out.cell
                have ct := fun v => (HTZ.out.other (show Tc ≠ Kb by omega) v).cell
                have cm := fun v => (HXZ.out.most.other (show w.heap.size ≠ Kb by omega) v).cell
                have hlen : (((pre ++ [x]).length : Nat) : Int) = (pre.length : Int) + 1 := by simp
                have HLEN := Lib.hid hlen
                have HBK := Lib.hid (show B ≤ Kb by omega)
                clear hlen
                gi_wp2
                exact ⟨(HSZ.out.set (.inl rfl) HBK.out _).from _, (HSZ.out.set (.inl rfl) HBK.out _).keep, by show Boxed _ _ _ (.int .i64 (((pre ++ [x]).length : Nat) : Int)); rw [HLEN.out]; exact HKZ.out.set _, (HI.out.2.trans HSZ.out).set (.inl rfl) HBK.out _⟩
            · have he2 : (x.err != 0) = true := bne_iff_ne.2 he
              have HNP : Hid (¬ (pre ++ [x] <+: itemsF s0)) := Lib.hid fun g => he (by rw [HNP0.out g]; exact HNPE.out)
              gi_wp2
              exact ⟨(KeepsFrom.trans (HSZ.out.from _) ((KeepsOthers.setCell _ _ _).from _)), ⟨rfl, HNP.out⟩⟩
        case done1a =>
          rintro D1 ys W5 hD1' rfl hI hK
          have kne : (((itemsF s0).length : Int) != ((toksF s0).1.length : Int)) = false := by rw [hn0]; exact bne_self_eq_false _
          have HX5 := Lib.hid (HB2.out.st hI.2 (fun j g => by omega) hB1)
          have HT5 := Lib.hid (hI.2.box HT2.out (by omega))
          have c12 := hI.1.cell
          have c9 := HX5.out.num.cell
          have c11 := HT5.out.cell
          have cm := HX5.out.most.cell
          have HK5 := Lib.hid hK
          have HS5 := Lib.hid hI.2
          clear hI hK
          gi_wp2
          rw [roundsIn_succ]
          have hn5 : B ≤ W5.heap.size := by have := HX5.out.big; omega
          have hS6 : St B (fun _ => False) W5 (W5.alloc (.cells #[.int .i64 2] 3)) := St.alloc _ hn5
          have hBx := HX5.out.st hS6 (fun j g => g.elim) hB1
          have hTu : Boxed (W5.alloc (.cells #[.int .i64 2] 3)) W5.heap.size 3 (.int .i64 2) := Boxed.new W5 3 (.int .i64 2)
          have hD0 := hS6.defer HK5.out rfl
          have hD1 := hS6.defer (HS5.out.defer hD2 rfl) rfl
          have cr := hBx.res.cell
          have fr := hBx.res.frozen
          have ct := hTu.cell
          generalize (W5.alloc (.cells #[.int .i64 2] 3)) = V3 at hBx hTu hD0 hD1 cr fr ct ⊢
          have HB3 := Lib.hid hBx
          have HDa := Lib.hid hD0
          have HDb := Lib.hid hD1
          have hDlt : D < W2.heap.size := (Array.getElem?_eq_some_iff.1 hD2).1
          have hw2 : w.heap.size ≤ W2.heap.size := HB2.out.below.size
          clear hBx hTu hD0 hD1 c12 c9 c11 cm
          gi_wp2
          have hDa := (KeepsOthers.setCell V3 ⟨w.heap.size + 1, 0, none⟩ (.bool true)).same _ _ HDa.out rfl
          have hDb := (KeepsOthers.setCell V3 ⟨w.heap.size + 1, 0, none⟩ (.bool true)).same _ _ HDb.out rfl
          have hres := HB3.out.res.set (.bool true)
          have hbw : Below w.heap.size w (V3.setCell ⟨w.heap.size + 1, 0, none⟩ (.bool true)) := HB3.out.below.setCell (p := ⟨w.heap.size + 1, 0, none⟩) (by show w.heap.size ≤ w.heap.size + 1; omega) _
          generalize V3.setCell ⟨w.heap.size + 1, 0, none⟩ (.bool true) = V4 at hDa hDb hres hbw ⊢
          refine ⟨by simp, .inl ⟨_, _, rfl, run_takeDeferred hDa, ?_⟩⟩
          have hDc := ((grownBy_putObj' V4 D1 (.deferred none)).block D (Array.getElem?_eq_some_iff.1 hDb).1 (fun e => by cases e; omega)).trans hDb
          have hr1 := hres.kept (grownBy_putObj' V4 D1 (.deferred none)) (box_def hres hDa rfl)
          have hb1 := hbw.trans (belowK_b (w := w) (Nat.le_refl _) V4 D1 (.deferred (some [])) (.deferred none) (by omega) hDa rfl rfl)
          generalize V4.putObj D1 (.deferred none) = V5 at hDc hr1 hb1 ⊢
          refine ⟨by simp, .inl ⟨_, _, rfl, run_takeDeferred hDc, ?_⟩⟩
          have hr2 := (hr1.kept (grownBy_putObj' V5 D (.deferred none)) (box_def hr1 hDc rfl)).cell
          have hb2 := hb1.trans (belowK_b (w := w) (Nat.le_refl _) V5 D (.deferred (some [])) (.deferred none) HDW.out hDc rfl rfl)
          exact ⟨.bool true, by simp [results, Try.results6, go_sem, hr2], rfl, hb2⟩
        case stop1a =>
          rintro D c pre W5 _ hpre ⟨_, hx⟩ _
          exact absurd hpre hx
      · have kne : ((pre.length : Int) != ((toksF s0).1.length : Int)) = true := bne_iff_ne.2 hkn
        clear hkn
        gi_wp2
        rw [roundsIn_succ]
        have hn5 : B ≤ W5.heap.size := by have := HX5.out.big; omega
        have hS6 : St B (fun _ => False) W5 (W5.alloc (.cells #[.int .i64 1] 3)) := St.alloc _ hn5
        have hBx := HX5.out.st hS6 (fun j g => g.elim) hB1
        have hTu : Boxed (W5.alloc (.cells #[.int .i64 1] 3)) W5.heap.size 3 (.int .i64 1) := Boxed.new W5 3 (.int .i64 1)
        have hD0 := hS6.defer HK5.out rfl
        generalize (W5.alloc (.cells #[.int .i64 1] 3)) = V3 at hBx hTu hD0 ⊢
        generalize W5.heap.size = Tc at hn5 hTu ⊢
        clear c12 c9 c11 cm HX5 HT5 HK5 HS5 hS6 HB2 HT2 HK2
        have c11 := fun o => (hTu.alloc o).cell
        have c11' := hTu.cell
        have c10 := fun o => (hBx.seq.alloc o).cell
        gi_wp2
        have hlow := hBx.big
        have hB2 := hBx.st (St.alloc (X := fun _ => False) (.cells #[.int .i64 0] 3) (by omega)) (fun j g => g.elim) hB1
        have hT2 := hTu.alloc (.cells #[.int .i64 0] 3)
        have hK2 := Boxed.new V3 3 (.int .i64 0)
        have hKb : Tc < V3.heap.size := hTu.lt
        have hD2 := (Below.heap_alloc V3 (.cells #[.int .i64 0] 3) _ (Array.getElem?_eq_some_iff.1 hD0).1).trans hD0
        have hKb2 : B + 5 ≤ V3.heap.size := hlow
        generalize V3.alloc (.cells #[.int .i64 0] 3) = W2 at hB2 hT2 hK2 hD2 ⊢
        generalize V3.heap.size = Kb at hKb hKb2 hK2 ⊢
        clear c11 c11' c10 hlow
        have HB2 := Lib.hid hB2
        have HT2 := Lib.hid hT2
        have HK2 := Lib.hid hK2
        have hKlt := hK2.lt
        clear hB2 hT2 hK2
        refine rangeH5 rfl (by decide) (gf := 33) (lb := #[.pointer (some ⟨B + 1 + 1 + 1, 0, none⟩)]) rfl trivial (enters_of Try.func33 (by kernel_rfl) rfl)
            (all_stops5 s0 w0 (8 - 1) (by decide) (B + 1 + 1 + 1) (fun k => k = Kb) W2 (fun k h => by omega) HB2.out.text (fun h => by omega)) keepC_t keepC_b (fun _ => rfl)
            (Cnt B (fun k => k = Kb) W2 Kb 3) (fun c pre W => c = .ret ∧ ¬ (pre <+: itemsF s0))
            (cnt_own B _ W2 Kb 3 (Nat.le_refl _) (by have := HB2.out.big; omega))
            (fun c pre X Y row h hg hr => h)
            ⟨HK2.out, St.refl _ _ _⟩
            (fun a x a' W => ∃ Bx, W2.heap.size ≤ Bx ∧ W.heap[Bx]? = some (.cells #[.int .i64 x.kind, .string x.text, .int .u64 (x.num : Int), .int .i64 (x.pos : Int)] 30 (0, 0)) ∧
              a' = { tmps := (((#[43, 44].zip (encI x)).foldl (fun t (p, v) => t.setIfInBounds p v) a.tmps).setIfInBounds 13 (.pointer (some ⟨Bx, 0, none⟩))).setIfInBounds 14 (.int .i64 x.err), defers := [] })
            (fun x a' _ X Y row hs hg hr => by
              obtain ⟨Bx, h1, h2, h3⟩ := hs
              refine ⟨Bx, h1, (hg.block Bx (Array.getElem?_eq_some_iff.1 h2).1 (fun e => ?_)).trans h2, h3⟩
              obtain ⟨_, o, ho, hc⟩ := hr Bx e.symm
              rw [h2] at ho; cases ho; cases hc)
            ?assign1b ?body1b ?done1b ?stop1b
        case assign1b =>
          rintro l pre x W K hI hK
          have HI := Lib.hid hI
          clear hI
          gi_wp2
          exact hK _ _ ((KeepsOthers.alloc _ _).from _) (KeepC.alloc _) ⟨HI.out.1.alloc _, HI.out.2.trans (St.alloc _ (by have h1 := HB2.out.big; have h2 := HI.out.2.below.size; omega))⟩ ⟨W.heap.size, HI.out.2.below.size, World.alloc_heap_new W _, by simp [encI]⟩
        case body1b =>
          rintro l pre x a' W hl ⟨r, hr⟩ hI ⟨Bx, hBx, hTx, rfl⟩ hlt
          have HI := Lib.hid hI
          have HX := Lib.hid (HB2.out.st hI.2 (fun j g => by omega) hB1)
          have c12 := hI.1.cell
          have f12 := hI.1.frozen
          have c9 := HX.out.num.cell
          have c6 := HX.out.want.cell
          have HTx := Lib.hid hTx
          have t0 : W.cell? ⟨Bx, 0, none⟩ = some (.int .i64 x.kind) := World.cell?_of_heap5 hTx
          have t1 : W.cell? ⟨Bx, 1, none⟩ = some (.string x.text) := by unfold World.cell?; rw [hTx]; rfl
          have t2 : W.cell? ⟨Bx, 2, none⟩ = some (.int .u64 (x.num : Int)) := by unfold World.cell?; rw [hTx]; rfl
          have t3 : W.cell? ⟨Bx, 3, none⟩ = some (.int .i64 (x.pos : Int)) := by unfold World.cell?; rw [hTx]; rfl
          have g1 : ¬ ((toksF s0).1.length : Int) ≤ (pre.length : Int) := by omega
          clear hI hTx
          have hlt2 : pre.length < (toksF s0).1.length := by omega
          have g2 : (pre.length : Int) < ((toksF s0).1.length : Int) := by omega
          clear hlt
          have hsW : B + 5 ≤ W.heap.size := HX.out.big
          obtain ⟨tb, to_, hA, htl⟩ := HX.out.low (by omega)
          have hcells := HX.out.toks (by omega)
          obtain ⟨tb', to', hA', htl', hcs⟩ := hcells
          rw [hA] at hA'; injection hA' with hA'; injection hA' with e1 e2 _; subst e1; subst e2
          have HQ := Lib.hid (hcs pre.length hlt2)
          have hcap := HX.out.cap
          have hcapm : ¬ cap = pre.length := by omega
          clear hcs
          subst hA
          have hwr : IntKind.i64.wrap ((pre.length : Int) + 1) = (pre.length : Int) + 1 := by rw [IntWalk.i64_in _ (by omega)]
          have hw1 : (0 : Int) ≤ (pre.length : Int) + 1 := by omega
          have hw2 : (pre.length : Int) + 1 ≤ (cap : Int) := by omega
          have hw3 : ((pre.length : Int) + 1).toNat = pre.length + 1 := by omega
          gi_wp2
          refine wpIn_region_held_drew (S := fun W' => Tk W' Bx x.kind x.text x.num x.pos ∧ W'.cell? ⟨Kb, 0, none⟩ = some (.int .i64 (pre.length : Int)) ∧ W'.cell? ⟨B, 0, none⟩ = some (.slice (some ⟨tb, to_, none⟩) (toksF s0).1.length cap)) (by kernel_rfl) (by kernel_rfl) (fun ⟨_, _, h⟩ => h) ⟨⟨t0, t1, t2, t3⟩, c12, c6⟩ (fun hHeld => ?_)
          refine wpAnyH_take (i := 0) (v := ?_) rfl (by kernel_rfl) (by kernel_rfl) (by kernel_rfl) (fun _ _ _ h => h) (Or.inl ⟨by rfl, ?_⟩) (by assumption) ?_
          rotate_left
          · intro wS hSw
            (obtain ⟨⟨i0, i1, i2, i3⟩, i4, i5⟩ := hSw)
            go_simp
            all_goals with_reducible rfl
          (try simp only [List.getElem_toArray, List.getElem_cons_zero, List.getElem_cons_succ, Act.put, List.setIfInBounds_toArray, List.set_cons_zero, List.set_cons_succ])
          refine wpAnyH_take (i := 2) (v := ?_) rfl (by kernel_rfl) (by kernel_rfl) (by kernel_rfl) (fun _ _ _ h => h) (Or.inl ⟨by rfl, ?_⟩) (by assumption) ?_
          rotate_left
          · intro wS hSw
            (obtain ⟨⟨i0, i1, i2, i3⟩, i4, i5⟩ := hSw)
            go_simp
            all_goals with_reducible rfl
          (try simp only [List.getElem_toArray, List.getElem_cons_zero, List.getElem_cons_succ, Act.put, List.setIfInBounds_toArray, List.set_cons_zero, List.set_cons_succ])
          refine wpAnyH_take (i := 3) (v := ?_) rfl (by kernel_rfl) (by kernel_rfl) (by kernel_rfl) (fun _ _ _ h => h) (Or.inl ⟨by rfl, ?_⟩) (by assumption) ?_
          rotate_left
          · intro wS hSw
            (obtain ⟨⟨i0, i1, i2, i3⟩, i4, i5⟩ := hSw)
            go_simp
            all_goals with_reducible rfl
          (try simp only [List.getElem_toArray, List.getElem_cons_zero, List.getElem_cons_succ, Act.put, List.setIfInBounds_toArray, List.set_cons_zero, List.set_cons_succ])
          refine wpAnyH_take (i := 4) (v := ?_) rfl (by kernel_rfl) (by kernel_rfl) (by kernel_rfl) (fun _ _ _ h => h) (Or.inl ⟨by rfl, ?_⟩) (by assumption) ?_
          rotate_left
          · intro wS hSw
            (obtain ⟨⟨i0, i1, i2, i3⟩, i4, i5⟩ := hSw)
            go_simp
            all_goals with_reducible rfl
          (try simp only [List.getElem_toArray, List.getElem_cons_zero, List.getElem_cons_succ, Act.put, List.setIfInBounds_toArray, List.set_cons_zero, List.set_cons_succ])
          refine wpAnyH_take (i := 5) (v := ?_) rfl (by kernel_rfl) (by kernel_rfl) (by kernel_rfl) (fun _ _ _ h => h) (Or.inl ⟨by rfl, ?_⟩) (by assumption) ?_
          rotate_left
          · intro wS hSw
            (obtain ⟨⟨i0, i1, i2, i3⟩, i4, i5⟩ := hSw)
            go_simp
            all_goals with_reducible rfl
          (try simp only [List.getElem_toArray, List.getElem_cons_zero, List.getElem_cons_succ, Act.put, List.setIfInBounds_toArray, List.set_cons_zero, List.set_cons_succ])
          refine wpAnyH_take (i := 6) (v := ?_) rfl (by kernel_rfl) (by kernel_rfl) (by kernel_rfl) (fun _ _ _ h => h) (Or.inl ⟨by rfl, ?_⟩) (by assumption) ?_
          rotate_left
          · intro wS hSw
            (obtain ⟨⟨i0, i1, i2, i3⟩, i4, i5⟩ := hSw)
            go_simp
            all_goals with_reducible rfl
          (try simp only [List.getElem_toArray, List.getElem_cons_zero, List.getElem_cons_succ, Act.put, List.setIfInBounds_toArray, List.set_cons_zero, List.set_cons_succ])
          clear t0 t1 t2 t3 c12 f12 c9 c6
          have HT4 := Lib.hid hHeld
          have HWd := Lib.hid (show Below W.heap.size W W.drew from below_drawn (Below.refl W.heap.size W) 1)
          have HszY := Lib.hid (show W.drew.heap.size = W.heap.size from rfl)
          generalize W.drew = Y at HT4 HWd HszY ⊢
          refine held_one (i := 1) (by kernel_rfl) rfl (fun K hK => ?_)
          go_simp
          have hS2 : Hid (∀ Z, Below Y.heap.size Y Z → Tk Z Bx x.kind x.text x.num x.pos ∧ Z.cell? ⟨Kb, 0, none⟩ = some (.int .i64 (pre.length : Int)) ∧ Z.cell? ⟨B, 0, none⟩ = some (.slice (some ⟨tb, to_, none⟩) (toksF s0).1.length cap)) := Lib.hid fun Z hZ =>
            ⟨HT4.out.1.below hZ, (hZ.cell (p := ⟨Kb, 0, none⟩) (cell_lt HT4.out.2.1)).trans HT4.out.2.1, (hZ.cell (p := ⟨B, 0, none⟩) (cell_lt HT4.out.2.2)).trans HT4.out.2.2⟩
          have HBY := Lib.hid (lbox_up Y (.cells #[.int .i64 x.kind, .string x.text, .int .u64 (x.num : Int), .int .i64 (x.pos : Int)] 30) (Nat.le_refl Y.heap.size))
          refine hK.out _ _ (hS2.out _ HBY.out) (fun hH2 => ?_)
          clear hK K
          refine held_one (i := 7) (by kernel_rfl) rfl (fun K hK => ?_)
          go_simp
          have HNP0 := Lib.hid (fun (g : pre ++ [x] <+: itemsF s0) => item_at g hlt2)
          have HNPE := Lib.hid (toks_errs_at (s := s0) hlt2)
          generalize (toksF s0).1.getD pre.length noTok = q at HQ HNP0 HNPE
          obtain ⟨bt, hbt⟩ : ∃ bt, tokB x q = bt := ⟨_, rfl⟩
          refine (same_one (Y.alloc (.cells #[.int .i64 x.kind, .string x.text, .int .u64 (x.num : Int), .int .i64 (x.pos : Int)] 30)) Y.heap.size 0 tb (to_ + pre.length * 4) 1 (cap - pre.length) x q ⟨by simp, by simp, by simp, by simp⟩ (by simp) ((HQ.out.below HWd.out htl').below HBY.out (by rw [HszY.out]; exact htl')) (by have := HszY.out; simp; omega)).mono ?_
          rintro e Z ⟨rfl, m, hZ⟩
          rw [hbt]
          have HBT := Lib.hid hbt
          clear hbt
          have HBZ := Lib.hid (show Below Y.heap.size Y Z by rw [hZ]; exact below_drawn HBY.out m)
          refine hK.out _ _ (hS2.out _ HBZ.out) (fun _ => ?_)
          clear hK K hH2 hHeld
          refine wpAnyH_take (i := 8) (v := ?_) rfl (by kernel_rfl) (by kernel_rfl) (by kernel_rfl) (fun _ _ _ h => h) (Or.inl ⟨by rfl, ?_⟩) (by assumption) ?_
          rotate_left
          · intro wS hSw
            (skip)
            go_simp
            all_goals with_reducible rfl
          (try simp only [List.getElem_toArray, List.getElem_cons_zero, List.getElem_cons_succ, Act.put, List.setIfInBounds_toArray, List.set_cons_zero, List.set_cons_succ])
          refine wpAnyH_done (by kernel_rfl) ?_ _
          have HSZ := Lib.hid (show St B (fun k => k = Kb) W Z from St.of_below (HWd.out.trans (HBZ.out.mono (by rw [HszY.out]; exact Nat.le_refl _))) (by omega))
          have HXZ := Lib.hid (HX.out.st HSZ.out (fun j g => by omega) hB1)
          have HKZ := Lib.hid (box_below HI.out.1 (HWd.out.trans (HBZ.out.mono (by rw [HszY.out]; exact Nat.le_refl _))) HI.out.1.lt)
          have HTZ := Lib.hid (box_below (HI.out.2.box HT2.out (by omega)) (HWd.out.trans (HBZ.out.mono (by rw [HszY.out]; exact Nat.le_refl _))) (HI.out.2.box HT2.out (by omega)).lt)
          have cr := HXZ.out.res.cell
          have fr := HXZ.out.res.frozen
          clear hZ HBZ HBY hS2 HT4
          cases bt with
          | false =>
            have HNP : Hid (¬ (pre ++ [x] <+: itemsF s0)) := Lib.hid fun g => by
              have := HBT.out; rw [HNP0.out g, tok_self] at this; cases this
            gi_wp2
            exact ⟨(KeepsFrom.trans (HSZ.out.from _) ((KeepsOthers.setCell _ _ _).from _)), ⟨rfl, HNP.out⟩⟩
          | true =>
            by_cases he : x.err = 0
            · have he2 : (x.err != 0) = false := by rw [he]; rfl
              clear he
              by_cases hp0 : (pre.length : Int) = 0
              · have b0 : ((pre.length : Int) == 0) = true := beq_iff_eq.2 hp0
                have HP0 := Lib.hid hp0
                clear hp0
                have ck := HKZ.out.cell
                have fk := HKZ.out.frozen
                have ct0 := HTZ.out.cell
                have ct := fun v => (HTZ.out.other (show Tc ≠ Kb by omega) v).cell
                have cm := fun v => (HXZ.out.most.other (show w.heap.size ≠ Kb by omega) v).cell
                have hlen : (((pre ++ [x]).length : Nat) : Int) = (pre.length : Int) + 1 := by simp
                have HLEN := Lib.hid hlen
                have HBK := Lib.hid (show B ≤ Kb by omega)
                clear hlen
                gi_wp2
                exact ⟨(HSZ.out.set (.inl rfl) HBK.out _).from _, (HSZ.out.set (.inl rfl) HBK.out _).keep, by show Boxed _ _ _ (.int .i64 (((pre ++ [x]).length : Nat) : Int)); rw [HLEN.out]; exact HKZ.out.set _, (HI.out.2.trans HSZ.out).set (.inl rfl) HBK.out _⟩
              · have b0 : ((pre.length : Int) == 0) = false := beq_false_of_ne hp0
                have ck := HKZ.out.cell
                have fk := HKZ.out.frozen
                have ct0 := HTZ.out.cell
                have ct := fun v => (HTZ.out.other (show Tc ≠ Kb by omega) v).cell
                have cm := fun v => (HXZ.out.most.other (show w.heap.size ≠ Kb by omega) v).cell
                have hlen : (((pre ++ [x]).length : Nat) : Int) = (pre.length : Int) + 1 := by simp
                have HLEN := Lib.hid hlen
                have HBK := Lib.hid (show B ≤ Kb by omega)
                clear hlen
                gi_wp2
                exact ⟨(HSZ.out.set (.inl rfl) HBK.out _).from _, (HSZ.out.set (.inl rfl) HBK.out _).keep, by show Boxed _ _ _ (.int .i64 (((pre ++ [x]).length : Nat) : Int)); rw [HLEN.out]; exact HKZ.out.set _, (HI.out.2.trans HSZ.out).set (.inl rfl) HBK.out _⟩
            · have he2 : (x.err != 0) = true := bne_iff_ne.2 he
              have HNP : Hid (¬ (pre ++ [x] <+: itemsF s0)) := Lib.hid fun g => he (by rw [HNP0.out g]; exact HNPE.out)
              gi_wp2
              exact ⟨(KeepsFrom.trans (HSZ.out.from _) ((KeepsOthers.setCell _ _ _).from _)), ⟨rfl, HNP.out⟩⟩
        case done1b =>
          rintro D1 ys W5 hD1' rfl hI hK
          have kne : (((itemsF s0).length : Int) != ((toksF s0).1.length : Int)) = false := by rw [hn0]; exact bne_self_eq_false _
          have HX5 := Lib.hid (HB2.out.st hI.2 (fun j g => by omega) hB1)
          have HT5 := Lib.hid (hI.2.box HT2.out (by omega))
          have c12 := hI.1.cell
          have c9 := HX5.out.num.cell
          have c11 := HT5.out.cell
          have cm := HX5.out.most.cell
          have HK5 := Lib.hid hK
          have HS5 := Lib.hid hI.2
          clear hI hK
          gi_wp2
          rw [roundsIn_succ]
          have hn5 : B ≤ W5.heap.size := by have := HX5.out.big; omega
          have hS6 : St B (fun _ => False) W5 (W5.alloc (.cells #[.int .i64 2] 3)) := St.alloc _ hn5
          have hBx := HX5.out.st hS6 (fun j g => g.elim) hB1
          have hTu : Boxed (W5.alloc (.cells #[.int .i64 2] 3)) W5.heap.size 3 (.int .i64 2) := Boxed.new W5 3 (.int .i64 2)
          have hD0 := hS6.defer HK5.out rfl
          have hD1 := hS6.defer (HS5.out.defer hD2 rfl) rfl
          have cr := hBx.res.cell
          have fr := hBx.res.frozen
          have ct := hTu.cell
          generalize (W5.alloc (.cells #[.int .i64 2] 3)) = V3 at hBx hTu hD0 hD1 cr fr ct ⊢
          have HB3 := Lib.hid hBx
          have HDa := Lib.hid hD0
          have HDb := Lib.hid hD1
          have hDlt : D < W2.heap.size := (Array.getElem?_eq_some_iff.1 hD2).1
          have hw2 : w.heap.size ≤ W2.heap.size := HB2.out.below.size
          clear hBx hTu hD0 hD1 c12 c9 c11 cm
          gi_wp2
          have hDa := (KeepsOthers.setCell V3 ⟨w.heap.size + 1, 0, none⟩ (.bool true)).same _ _ HDa.out rfl
          have hDb := (KeepsOthers.setCell V3 ⟨w.heap.size + 1, 0, none⟩ (.bool true)).same _ _ HDb.out rfl
          have hres := HB3.out.res.set (.bool true)
          have hbw : Below w.heap.size w (V3.setCell ⟨w.heap.size + 1, 0, none⟩ (.bool true)) := HB3.out.below.setCell (p := ⟨w.heap.size + 1, 0, none⟩) (by show w.heap.size ≤ w.heap.size + 1; omega) _
          generalize V3.setCell ⟨w.heap.size + 1, 0, none⟩ (.bool true) = V4 at hDa hDb hres hbw ⊢
          refine ⟨by simp, .inl ⟨_, _, rfl, run_takeDeferred hDa, ?_⟩⟩
          have hDc := ((grownBy_putObj' V4 D1 (.deferred none)).block D (Array.getElem?_eq_some_iff.1 hDb).1 (fun e => by cases e; omega)).trans hDb
          have hr1 := hres.kept (grownBy_putObj' V4 D1 (.deferred none)) (box_def hres hDa rfl)
          have hb1 := hbw.trans (belowK_b (w := w) (Nat.le_refl _) V4 D1 (.deferred (some [])) (.deferred none) (by omega) hDa rfl rfl)
          generalize V4.putObj D1 (.deferred none) = V5 at hDc hr1 hb1 ⊢
          refine ⟨by simp, .inl ⟨_, _, rfl, run_takeDeferred hDc, ?_⟩⟩
          have hr2 := (hr1.kept (grownBy_putObj' V5 D (.deferred none)) (box_def hr1 hDc rfl)).cell
          have hb2 := hb1.trans (belowK_b (w := w) (Nat.le_refl _) V5 D (.deferred (some [])) (.deferred none) HDW.out hDc rfl rfl)
          exact ⟨.bool true, by simp [results, Try.results6, go_sem, hr2], rfl, hb2⟩
        case stop1b =>
          rintro D c pre W5 _ hpre ⟨_, hx⟩ _
          exact absurd hpre hx
end Go.Proofs.Ytbcjffjifocaeaa.lexGoes

/-
  The law's asks: does an expression test a field? A contract. Condition: the expression lies somewhere.
-/
import Derived.Test.YtgeapkjegemkeaaDoorGSemEnd
import Derived.Test.YtgeapkjegemkeaaDoorSemFsP
namespace Go.Proofs.YtgeapkjegemkeaaDoor
open Go Go.RowKit
set_option linter.unusedSimpArgs false
set_option linter.unusedVariables false

theorem asksL_at (f : Int) (l : List Ex) (k : Nat) (hk : k < l.length) : asksL f (l.drop k) = (asksF f (l.getD k .zero) || asksL f (l.drop (k + 1))) := by
  rw [List.drop_eq_getElem_cons hk]
  have : l.getD k .zero = l[k] := by rw [List.getD_eq_getElem?_getD, List.getElem?_eq_getElem hk]; rfl
  rw [this, asksL]
theorem asksL_end (f : Int) (l : List Ex) (k : Nat) (hk : l.length ≤ k) : asksL f (l.drop k) = false := by
  rw [List.drop_of_length_le hk, asksL]
theorem asks_is (g : Int) (o : Int) (l : List Ex) (f : Int) (m : Nat) (r : Int) (v : Nat) : asksF g (.mk o l f m r v) = if o = 6 then decide (f = g) else asksL g l := by rw [asksF]
set_option maxRecDepth 100000 in
set_option maxHeartbeats 4000000 in
theorem law_asks_six (g : Int) (l : List Ex) (f : Int) (m : Nat) (r : Int) (v : Nat) (A : Option Addr) (cap : Nat) (W : World) (h : ExL W (.mk 6 l f m r v) A cap) :
    Calls Tryd.prog 7 #[exV (.mk 6 l f m r v) A cap, .int .i64 g] W fun e w' => e = .returned (.bool (decide (f = g))) ∧ Below W.heap.size W w' := by
  have HB := Lib.hid (lbox W (exCell (.mk 6 l f m r v) A cap))
  have q6 : ((Ex.mk 6 l f m r v).op == 6) = true := rfl
  clear h
  show Calls Tryd.prog 7 #[.agg #[.int .i64 6, .slice A l.length cap, .int .i64 f, .int .u64 (m : Int), .int .i64 r, .int .u64 (v : Int)], .int .i64 g] W _
  go_enter Tryd.func7, Tryd.ntmps7
  go_wp2
  go_ret
  exact ⟨rfl, HB.out⟩
set_option maxRecDepth 100000 in
set_option maxHeartbeats 4000000 in
theorem law_asks_on (g : Int) (o : Int) (l : List Ex) (f : Int) (m : Nat) (r : Int) (v : Nat) (A : Option Addr) (cap : Nat) (W : World) (h : ExL W (.mk o l f m r v) A cap) (ho : o ≠ 6)
    (ih : ∀ k, k < l.length → ∀ (V : World) (A1 : Option Addr) (cap1 : Nat), ExL V (l.getD k .zero) A1 cap1 → Calls Tryd.prog 7 #[exV (l.getD k .zero) A1 cap1, .int .i64 g] V fun e w' => e = .returned (.bool (asksF g (l.getD k .zero))) ∧ Below V.heap.size V w') :
    Calls Tryd.prog 7 #[exV (.mk o l f m r v) A cap, .int .i64 g] W fun e w' => e = .returned (.bool (asksL g l)) ∧ Below W.heap.size W w' := by
  have hlen : l.length ≤ maxLen := h.1
  unfold maxLen at hlen
  have HEX := Lib.hid h
  have HIH := Lib.hid ih
  have q6 : (o == 6) = false := beq_false_of_ne ho
  have HX := Lib.hid (World.alloc_heap_new W (exCell (.mk o l f m r v) A cap))
  have HB := Lib.hid (lbox W (exCell (.mk o l f m r v) A cap))
  obtain ⟨z, hz⟩ : ∃ z, z = asksL g l := ⟨_, rfl⟩
  rw [← hz]
  have HZ : Hid (z = asksL g (l.drop 0)) := Lib.hid hz
  clear hz ih h ho
  show Calls Tryd.prog 7 #[.agg #[.int .i64 o, .slice A l.length cap, .int .i64 f, .int .u64 (m : Int), .int .i64 r, .int .u64 (v : Int)], .int .i64 g] W _
  go_enter Tryd.func7, Tryd.ntmps7
  go_wp2
  go_loopw [5] (fun i wr => ∃ k : Nat, k ≤ l.length ∧ i = .int .i64 (k : Int) ∧ z = asksL g (l.drop k) ∧ Below W.heap.size W wr ∧ wr.heap[W.heap.size]? = some (exCell (.mk o l f m r v) A cap)) (fun i _ => l.length - (intOf i).toNat)
  case atStart => exact ⟨0, Nat.zero_le _, rfl, HZ.out, HB.out, HX.out⟩
  case round =>
    obtain ⟨k, hk, rfl, hgk, hbw, hbx⟩ := hrel
    have c1 : wr.cell? ⟨W.heap.size, 1, none⟩ = some (.slice A l.length cap) := cell6 hbx 1 rfl
    have hlW : W.heap.size < wr.heap.size := (Array.getElem?_eq_some_iff.1 hbx).1
    by_cases hlt : k < l.length
    · have hlt' : (k : Int) < (l.length : Int) := by omega
      have hw : IntKind.i64.wrap ((k : Int) + 1) = ((k + 1 : Nat) : Int) := by rw [IntWalk.i64_in _ (by omega)]; omega
      rw [asksL_at g l k hlt] at hgk
      obtain ⟨tb, ob, rfl, htl, A1, cap1, hx1, hc1⟩ := exL_arg (x := .mk o l f m r v) HEX.out k hlt
      have ih2 := HIH.out k hlt
      change ExL W (l.getD k .zero) A1 cap1 at hx1
      change ∀ j u, (exC (l.getD k .zero) A1 cap1)[j]? = some u → W.cell? ⟨tb, ob + k * 6 + j, none⟩ = some u at hc1
      generalize l.getD k .zero = y at hx1 hc1 ih2 hgk
      have e0 := (hbw.cell (p := ⟨tb, ob + k * 6, none⟩) htl).trans (hc1 0 _ rfl)
      have e1 := (hbw.cell (p := ⟨tb, ob + k * 6 + 1, none⟩) htl).trans (hc1 1 _ rfl)
      have e2 := (hbw.cell (p := ⟨tb, ob + k * 6 + 2, none⟩) htl).trans (hc1 2 _ rfl)
      have e3 := (hbw.cell (p := ⟨tb, ob + k * 6 + 3, none⟩) htl).trans (hc1 3 _ rfl)
      have e4 := (hbw.cell (p := ⟨tb, ob + k * 6 + 4, none⟩) htl).trans (hc1 4 _ rfl)
      have e5 := (hbw.cell (p := ⟨tb, ob + k * 6 + 5, none⟩) htl).trans (hc1 5 _ rfl)
      have HIY := Lib.hid (fun V hV => ih2 V A1 cap1 hV)
      have HY : Hid (ExL wr y A1 cap1) := Lib.hid (hx1.below hbw)
      have HBW := Lib.hid (And.intro hbw hbx)
      clear hx1 hc1 hbw hbx ih2
      generalize asksF g y = b at hgk HIY
      cases b with
      | true =>
        have HGK := Lib.hid hgk
        clear hgk
        go_wp2_with (go_at_call 7; (with_reducible refine (HIY.out _ HY.out).mono ?_); rintro e w2 ⟨rfl, hb2⟩; have HB2 := Lib.hid (on7 HBW.out.1 hb2); clear hb2)
        go_ret
        exact ⟨by rw [HGK.out]; rfl, HB2.out⟩
      | false =>
        have HGK := Lib.hid hgk
        clear hgk
        go_wp2_with (go_at_call 7; (with_reducible refine (HIY.out _ HY.out).mono ?_); rintro e w2 ⟨rfl, hb2⟩; have HB2 := Lib.hid (And.intro (on7 HBW.out.1 hb2) (keep7 HBW.out.2 hb2)); clear hb2)
        exact ⟨⟨k + 1, by omega, by go_num, by simpa using HGK.out, HB2.out.1, HB2.out.2⟩, by simp [intOf]; omega⟩
    · have hlt' : ¬ (k : Int) < (l.length : Int) := by omega
      rw [asksL_end g l k (by omega)] at hgk
      have HGK := Lib.hid hgk
      have HBW := Lib.hid hbw
      clear hgk hbw hbx
      go_wp2
      go_ret
      exact ⟨by rw [HGK.out]; rfl, HBW.out⟩
theorem law_asks (g : Int) : ∀ (N : Nat) (x : Ex), SizeOf.sizeOf x < N → ∀ (A : Option Addr) (cap : Nat) (W : World), ExL W x A cap → Calls Tryd.prog 7 #[exV x A cap, .int .i64 g] W fun e w' => e = .returned (.bool (asksF g x)) ∧ Below W.heap.size W w'
  | 0, x, hN, _, _, _, _ => absurd hN (by omega)
  | N + 1, .mk o l f m r v, hN, A, cap, W, h => by
    rw [asks_is]
    by_cases h6 : o = 6
    · subst h6; rw [if_pos rfl]; exact law_asks_six g l f m r v A cap W h
    · rw [if_neg h6]
      refine law_asks_on g o l f m r v A cap W h h6 (fun k hk V A1 cap1 hV => ?_)
      refine law_asks g N _ ?_ A1 cap1 V hV
      have : l.getD k .zero = l[k] := by rw [List.getD_eq_getElem?_getD, List.getElem?_eq_getElem hk]; rfl
      rw [this]
      have := List.sizeOf_lt_of_mem (List.getElem_mem hk)
      simp only [Ex.mk.sizeOf_spec] at hN
      omega
end Go.Proofs.YtgeapkjegemkeaaDoor

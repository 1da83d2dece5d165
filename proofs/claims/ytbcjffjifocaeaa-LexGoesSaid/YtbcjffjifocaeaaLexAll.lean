/-
  The program's All of a text: the walk through its tokens, and what it hands to a loop: contracts. Conditions: those that each names.
-/
import Derived.RangeFuncNested
import Derived.RangeFuncBound
import Derived.RangeFuncCalls
import Derived.RangeFuncLeaves
import Derived.Shelf.Abstract
import Derived.Shelf.RegionOpen
import Derived.WalkKit
import Derived.OwnWalkIn
import Derived.TacticsInMore
import Derived.LoopNIn
import Derived.LoopIn
import Derived.Test.YtbcjffjifocaeaaLexToks
import Derived.Test.YtbcjffjifocaeaaPLexStep
import Derived.Test.YtbcjffjifocaeaaLexItems
import Derived.Test.YtbcjffjifocaeaaKeepC
namespace Go.Proofs.Ytbcjffjifocaeaa
open Go Go.RowKit Go.Shelf
attribute [local go_sem] Oper.semAt_some
set_option linter.unusedSimpArgs false
set_option linter.unusedVariables false

/-- What a round is handed. -/
abbrev encI (x : Nx) : Array Value := #[.agg #[.int .i64 x.kind, .string x.text, .int .u64 (x.num : Int), .int .i64 (x.pos : Int)], .int .i64 x.err]
theorem abides_below {β : Type} {B : Nat} {J : β → World → Prop} (h : AbidesFrom B J) {s : β} {W W' : World} (hs : J s W) (hb : Below W.heap.size W W') : J s W' :=
  h s W W' none hs ⟨hb.os, hb.tape, hb.output, hb.size, fun k hk _ => hb.block k hk⟩ (fun r e => by cases e)
theorem lbox_at {B : Nat} (w : World) (o : Obj) (h : B ≤ w.heap.size) : Below B w (w.alloc o) := (Below.refl _ _).alloc h o
theorem World.cell?_of_heap5 {W : World} {b : Nat} {c : Array Value} {t : TypeId} {v : Value} (h : W.heap[b]? = some (.cells c t (0, 0))) (hv : c[0]? = some v := by rfl) : W.cell? ⟨b, 0, none⟩ = some v := by
  unfold World.cell?; rw [h]; exact hv
set_option maxRecDepth 100000 in
set_option maxHeartbeats 1000000 in
theorem all1_in (s : ByteArray) (hm : s.size ≤ maxLen) (n : Nat) (hn : 1 ≤ n) (l Bn : Nat) (X : Nat → Prop) (J Jx : List Nx → World → Prop) (B0 : Nat) (hJ : AbidesFrom B0 J)
    (hY : ∀ pre x W, J pre W → pre.length < (itemsF s).length → YieldAt Fence.wide (n - 1) Try.prog l (encI x) W fun e W' =>
      (e = .returned (.bool true) ∧ J (pre ++ [x]) W' ∧ KeepC X W W') ∨ (e = .returned (.bool false) ∧ Jx (pre ++ [x]) W'))
    (W : World) (hX : ∀ k, X k → k < W.heap.size) (hBn : Boxed W Bn 9 (.string s)) (hBX : ¬ X Bn) (h0 : J [] W) :
    CallsIn Fence.wide n Try.prog 33 #[.func (.yield l) #[] #[], .pointer (some ⟨Bn, 0, none⟩)] W fun e W' => (∃ v, e = .returned v) ∧
      ((∃ ys, ys = itemsF s ∧ J ys W') ∨ (∃ pre, pre <+: itemsF s ∧ Jx pre W')) := by
  have HXX := Lib.hid hX
  have hXs : ¬ X W.heap.size := fun h => by have := hX _ h; omega
  clear hX
  refine callsIn_of_wp Try.func33 rfl trivial ?_ rfl
  simp only [Try.ntmps33, List.size_toArray, List.length_cons, List.length_nil, Nat.reduceAdd, Nat.reduceSub, Array.replicate_succ, Array.replicate_zero, List.push_toArray, List.append_toArray, List.nil_append, List.cons_append]
  gi_wp2
  gi_loopw [3] (fun p wr => ∃ (pre : List Nx) (i : Nat), p = .int .i64 (i : Int) ∧ AtI s pre i ∧ J pre wr ∧ Boxed wr Bn 9 (.string s) ∧ W.heap.size ≤ wr.heap.size)
    (fun p _ => s.size - (intOf p).toNat)
  case atStart =>
    exact ⟨[], 0, rfl, at_start s, h0, hBn, Nat.le_refl _⟩
  case round =>
    obtain ⟨pre, i, rfl, hA, hJs, hcb, hbl⟩ := hrel
    have hc := hcb.cell
    obtain ⟨kind, text, num, pos, next, err, hx⟩ : ∃ kind text num pos next err, nextF s (i : Int) = ⟨kind, text, num, pos, next, err⟩ := ⟨_, _, _, _, _, _, rfl⟩
    have HN := Lib.hid (fun w => p_NextAt s (i : Int) hx w)
    have HA := Lib.hid hA
    have HX := Lib.hid hx
    have HJ := Lib.hid hJs
    have HC := Lib.hid hcb
    clear hA hx hJs h0 hcb
    gi_wp2_with ((refine ⟨trivial, ?_⟩; gi_at_call 10; refine (callsIn_wide.2 (HN.out _)).mono ?_; rintro e w1 ⟨rfl, hb⟩; have HB := Lib.hid (hb.trans (lbox_at w1 (.cells #[.int .i64 kind, .string text, .int .u64 (num : Int), .int .i64 (pos : Int)] 30) hb.size)); have HZ := Lib.hid (fun hz => HXX.out w1.heap.size hz); have hsz := hb.size; obtain ⟨fn, tmps, assign, body, hy, hR⟩ := hY pre ⟨kind, text, num, pos, next, err⟩ (w1.alloc (.cells #[.int .i64 kind, .string text, .int .u64 (num : Int), .int .i64 (pos : Int)] 30)) (abides_below hJ HJ.out HB.out) HA.out.more; dsimp only [encI] at hy; clear hb HN))
    refine hR.mono ?_
    rintro e W3 (⟨rfl, hJ3, hk3⟩ | ⟨rfl, hJx3⟩)
    · have t0 : W3.cell? ⟨w1.heap.size, 0, none⟩ = some (.int .i64 kind) := World.cell?_of_heap5 (hk3.same w1.heap.size _ (fun h => by have := HZ.out h; omega) (World.alloc_heap_new w1 _) rfl)
      have cB : Boxed W3 Bn 9 (.string s) := hk3.box hBX (box_below HC.out HB.out HC.out.lt)
      have HJ3 := Lib.hid hJ3
      have HS3 := Lib.hid (show W.heap.size ≤ W3.heap.size from Nat.le_trans (Nat.le_trans hbl HB.out.size) hk3.size)
      clear hJ3 hk3 hy hR
      by_cases he : err = 0
      · subst he
        by_cases hk : kind = 1
        · subst hk
          have HD := Lib.hid (show pre ++ [(⟨1, text, num, pos, next, 0⟩ : Nx)] = itemsF s by have := HA.out.last (.inr (by rw [HX.out])); rw [HX.out] at this; exact this.symm)
          gi_wp2
          refine bodyPost_ret (results_none rfl _ _ _) rfl ?_
          exact ⟨⟨_, rfl⟩, .inl ⟨_, HD.out, HJ3.out⟩⟩
        · have hk2 : (kind == 1) = false := beq_false_of_ne hk
          have HD := Lib.hid (show AtI s (pre ++ [(⟨kind, text, num, pos, next, 0⟩ : Nx)]) next ∧ i < next by have := HA.out.on (by rw [HX.out]) (by rw [HX.out]; exact hk); rw [HX.out] at this; exact this)
          gi_wp2
          go_roundw
          case rel => exact ⟨_, next, rfl, HD.out.1, HJ3.out, cB, HS3.out⟩
          case measure => have h1 := HD.out.2; have h2 := HD.out.1.le; simp [intOf]; omega
      · have he2 : (err != 0) = true := bne_iff_ne.2 he
        have HD := Lib.hid (show pre ++ [(⟨kind, text, num, pos, next, err⟩ : Nx)] = itemsF s by have := HA.out.last (.inl (by rw [HX.out]; exact he)); rw [HX.out] at this; exact this.symm)
        gi_wp2
        refine bodyPost_ret (results_none rfl _ _ _) rfl ?_
        exact ⟨⟨_, rfl⟩, .inl ⟨_, HD.out, HJ3.out⟩⟩
    · gi_wp2
      refine bodyPost_ret (results_none rfl _ _ _) rfl ?_
      exact ⟨⟨_, rfl⟩, .inr ⟨_, by have := HA.out.prefix_; rw [HX.out] at this; exact this, hJx3⟩⟩
/-- What All hands to a loop: it walks through the items; whatever round leaves, a part has come. -/
theorem all_stops5 (s : ByteArray) (hm : s.size ≤ maxLen) (n : Nat) (hn : 1 ≤ n) (Bn : Nat) (X : Nat → Prop) (w : World) (hX : ∀ k, X k → k < w.heap.size) (hc : Boxed w Bn 9 (.string s)) (hBX : ¬ X Bn) :
    SeqStopsK Fence.wide n Try.prog 33 #[.pointer (some ⟨Bn, 0, none⟩)] encI (KeepC X) (fun ys => ys = itemsF s) (fun pre => pre <+: itemsF s) (itemsF s).length w := fun l J Jx W hW hJ _ hY h0 =>
  all1_in s hm n hn l Bn X J Jx _ hJ hY W (fun k h => Nat.lt_of_lt_of_le (hX k h) hW.size) (box_below hc hW hc.lt) hBX h0
theorem all_is (s : ByteArray) (w : World) : Calls Try.prog 19 #[.string s] w fun e w' => e = .returned (.func (.func 33) #[] #[.pointer (some ⟨w.heap.size, 0, none⟩)]) ∧ w' = w.alloc (.cells #[.string s] 9) := by
  have hmf : ∀ (fn : Fn) (first cap : Array Value) (w : World), (Instr.makeFunc fn first cap).run Try.prog w = .ok (.func fn first cap) w := fun _ _ _ _ => rfl
  go_enter Try.func19, Try.ntmps19
  go_wp2
  go_ret
  exact ⟨rfl, rfl⟩
end Go.Proofs.Ytbcjffjifocaeaa

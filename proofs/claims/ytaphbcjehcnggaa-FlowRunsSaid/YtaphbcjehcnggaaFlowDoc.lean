/-
  The document's account of where programs lead: Next, Reach, Blocks, Above, Longest. Conditions: those that each names.
-/
import Derived.Test.YtaphbcjehcnggaaFlowInt
import Derived.Test.YtaphbcjehcnggaaFlowPure
import Derived.Test.YtaphbcjehcnggaaCbpfFns
import Derived.Test.YtaphbcjehcnggaaCheckRef
import Derived.Deep.Cut
import Derived.StillTailTactics
import Derived.Test.YtaphbcjehcnggaaOperAppend
import Derived.Test.YtaphbcjehcnggaaCbpfRun
namespace Go.Proofs.Ytaphbcjehcnggaa
open Go Go.RowKit
set_option linter.unusedSimpArgs false
set_option linter.unusedVariables false
set_option linter.unusedSectionVars false

/-- .. at any place. -/
def nextZ (q : Nat → Ins) (n : Nat) (at_ : Int) : List Nat := if 0 ≤ at_ then nextF10 q n at_.toNat else []
/-- What Next answers. -/
def FreshA (B : Nat) (A : Option Addr) : Prop := ∀ b o, A = some ⟨b, o, none⟩ → B ≤ b
def NextP (w : World) (l : List Nat) (e : Ending) (w' : World) : Prop := ∃ A' c, e = .returned (.slice A' l.length c) ∧ IntsAt w' A' l ∧ FreshA w.heap.size A' ∧ Below w.heap.size w w'
theorem fresh_none (B : Nat) : FreshA B none := fun _ _ h => by cases h
theorem fresh_own {w : World} {B B' : Nat} {e : TypeId} {A : Option Addr} {n c : Nat} {xs : List Value} (h : w.ownsRow B e 1 (.slice A n c) n xs) (hB : B' ≤ B) : FreshA B' A := fun b o hA => by
  rcases h.2 with ⟨e1, e2⟩ | ⟨g, c', cur, e1, hg, _⟩
  · injection e1 with e1; rw [e1] at hA; cases hA
  · injection e1 with e1; rw [e1] at hA; injection hA with hA; injection hA with hA; omega
theorem IntsAt.set {w : World} {A : Option Addr} {l : List Nat} {B g j : Nat} {u : Value} (h : IntsAt w A l) (hf : FreshA B A) (hg : g < B) : IntsAt (w.setCell ⟨g, j, none⟩ u) A l := fun hl => by
  obtain ⟨b, o, rfl, hb, hc⟩ := h hl
  have := hf b o rfl
  exact ⟨b, o, rfl, by simpa [World.setCell] using hb, fun i hi => by rw [World.cell?_setCell_far _ _ _ _ (by show g ≠ b; omega)]; exact hc i hi⟩
theorem ints_nil (w : World) (A : Option Addr) : IntsAt w A [] := fun h => absurd h (Nat.lt_irrefl _)
theorem r_Next_before (w : World) (A : Option Addr) (n cap : Nat) (at_ : Int) (h : at_ < 0) : Calls Try.prog 12 #[.slice A n cap, .int .i64 at_] w (NextP w []) := by
  go_enter Try.func12, Try.ntmps12
  go_wp2
  go_ret
  exact ⟨_, _, rfl, ints_nil _ _, fresh_none _, Below.refl _ _⟩
theorem r_Next_behind (w : World) (A : Option Addr) (n cap : Nat) (at_ : Int) (h0 : 0 ≤ at_) (h : (n : Int) ≤ at_) : Calls Try.prog 12 #[.slice A n cap, .int .i64 at_] w (NextP w []) := by
  go_enter Try.func12, Try.ntmps12
  go_wp2
  go_ret
  exact ⟨_, _, rfl, ints_nil _ _, fresh_none _, Below.refl _ _⟩
theorem filt_snoc (n : Nat) (c : List Nat) (k : Nat) (h : k < c.length) : ((c.take (k + 1)).filter fun j => decide (j < n)) = ((c.take k).filter fun j => decide (j < n)) ++ (if c.getD k 0 < n then [c.getD k 0] else []) := by
  have e : c.take (k + 1) = c.take k ++ [c.getD k 0] := by
    rw [List.take_add_one, List.getD_eq_getElem?_getD, List.getElem?_eq_getElem h]; rfl
  rw [e, List.filter_append]
  congr 1
  by_cases g : c.getD k 0 < n
  · rw [if_pos g, List.filter_cons, if_pos (by simpa using g)]; rfl
  · rw [if_neg g, List.filter_cons, if_neg (by simpa using g)]; rfl
/-- What has been put so far. -/
structure PutAt (V wr : World) (n : Nat) (c : List Nat) (k : Nat) (v : Value) (l : List Nat) : Prop where
  own : wr.ownsRow V.heap.size 3 1 v l.length (intL l)
  is : l = (c.take k).filter fun j => decide (j < n)
  bel : Below V.heap.size V wr
theorem put_start (V : World) (n : Nat) (c : List Nat) : PutAt V V n c 0 (.slice none 0 0) [] := ⟨World.ownsRow_nil _ _ _ _, rfl, Below.refl _ _⟩
theorem put_yes {V wr w1 : World} {n : Nat} {c : List Nat} {k : Nat} {v v' : Value} {l : List Nat} {x : Nat} (h : PutAt V wr n c k v l) (hk : k < c.length) (hx : c.getD k 0 = x) (hn : x < n) {o : Obj}
    (ho : w1.ownsRow V.heap.size 3 1 v' (l.length + 1) (intL l ++ [.int .i64 (x : Int)])) (hg : (wr.alloc o).grownBy w1 v.ownBlock) : PutAt V w1 n c (k + 1) v' (l ++ [x]) :=
  ⟨by rw [List.length_append, intL_snoc]; exact ho, by rw [filt_snoc n c k hk, hx, if_pos hn, h.is], below_own (h.bel.trans ((lbox10 wr o).mono h.bel.size)) (own_below h.own (lbox10 wr o)) hg (Nat.le_refl _)⟩
theorem put_no {V wr : World} {n : Nat} {c : List Nat} {k : Nat} {v : Value} {l : List Nat} {x : Nat} (h : PutAt V wr n c k v l) (hk : k < c.length) (hx : c.getD k 0 = x) (hn : ¬ x < n) : PutAt V wr n c (k + 1) v l :=
  ⟨h.own, by rw [filt_snoc n c k hk, hx, if_neg hn, List.append_nil, h.is], h.bel⟩
theorem put_len {V wr : World} {n : Nat} {c : List Nat} {k : Nat} {v : Value} {l : List Nat} (h : PutAt V wr n c k v l) : l.length ≤ k := by
  rw [h.is]
  refine Nat.le_trans (List.length_filter_le _ _) ?_
  rw [List.length_take]; omega
theorem put_end {w V wr : World} {n : Nat} {c : List Nat} {v : Value} {l : List Nat} (h : PutAt V wr n c c.length v l) (hb : Below w.heap.size w V) : NextP w (c.filter fun j => decide (j < n)) (.returned v) wr := by
  obtain ⟨A, cp, rfl⟩ := own_form10 h.own
  have e := h.is
  rw [List.take_length] at e
  rw [← e]
  exact ⟨A, cp, rfl, own_ints h.own, fresh_own h.own hb.size, hb.trans (h.bel.mono hb.size)⟩
/-- The first place. -/
theorem put_first {w V1 : World} {O o : Obj} {x : Nat} {v1 : Value} (ho : V1.ownsRow w.heap.size 3 1 v1 (0 + 1) ([] ++ [.int .i64 (x : Int)])) (hg : ((w.alloc O).alloc o).grownBy V1 (Value.slice none 0 0).ownBlock) :
    ∃ A1 c1, v1 = .slice A1 1 c1 ∧ V1.ownsRow w.heap.size 3 1 (.slice A1 1 c1) 1 (intL [x]) ∧ Below w.heap.size w V1 ∧ V1.heap[w.heap.size]? = some O := by
  obtain ⟨A1, c1, rfl⟩ := own_form10 ho
  have h1 := lbox10 w O
  have h2 := lbox10 (w.alloc O) o
  have hb : Below w.heap.size w V1 := below_own (h1.trans (h2.mono h1.size)) (show ((w.alloc O).alloc o).ownsRow w.heap.size 3 1 (.slice none 0 0) 0 [] from World.ownsRow_nil _ _ _ _) hg (Nat.le_refl _)
  refine ⟨A1, c1, rfl, ho, hb, ?_⟩
  have e := hg.block w.heap.size (by simp; omega) (by simp [Value.ownBlock])
  rw [e, h2.block w.heap.size (by simp)]
  exact World.alloc_heap_new w O
/-- The second. -/
theorem put_second {w V1 V2 : World} {o : Obj} {x y : Nat} {A1 : Option Addr} {c1 : Nat} {v2 : Value} (h1 : V1.ownsRow w.heap.size 3 1 (.slice A1 1 c1) 1 (intL [x])) (hb : Below w.heap.size w V1) (ho : V2.ownsRow w.heap.size 3 1 v2 (1 + 1) (intL [x] ++ [.int .i64 (y : Int)])) (hg : (V1.alloc o).grownBy V2 (Value.slice A1 1 c1).ownBlock) :
    ∃ A2 c2, v2 = .slice A2 2 c2 ∧ V2.ownsRow w.heap.size 3 1 (.slice A2 2 c2) 2 (intL [x, y]) ∧ Below w.heap.size w V2 := by
  obtain ⟨A2, c2, rfl⟩ := own_form10 ho
  have h2 := lbox10 V1 o
  exact ⟨A2, c2, rfl, ho, below_own (hb.trans (h2.mono hb.size)) (own_below h1 h2) hg (Nat.le_refl _)⟩
abbrev insO10 (code : Int) (jt jf : Nat) (k : Nat) : Obj := .cells #[.int .u16 code, .int .u8 (jt : Int), .int .u8 (jf : Int), .int .u32 (k : Int)] 56
section
variable (w : World) (qb qo n cap p : Nat) (code : Int) (jt jf k : Nat) (hp : p < n) (hn : n ≤ 17592186044416)
  (x0 : w.cell? ⟨qb, qo + p * 4, none⟩ = some (.int .u16 code)) (x1 : w.cell? ⟨qb, qo + p * 4 + 1, none⟩ = some (.int .u8 (jt : Int))) (x2 : w.cell? ⟨qb, qo + p * 4 + 2, none⟩ = some (.int .u8 (jf : Int))) (x3 : w.cell? ⟨qb, qo + p * 4 + 3, none⟩ = some (.int .u32 (k : Int)))
  (hc : 0 ≤ code ∧ code < 65536) (hjt : jt < 256) (hjf : jf < 256) (hk : k < 4294967296)
include hp hn x0 x1 x2 x3 hc hjt hjf hk
set_option maxHeartbeats 1000000 in
set_option maxRecDepth 100000 in
theorem next_ret6 (h : code = 6) : Calls Try.prog 12 #[.slice (some ⟨qb, qo, none⟩) n cap, .int .i64 (p : Int)] w (NextP w (([] : List Nat).filter fun j => decide (j < n))) := by
  have hlt0 : ¬ (p : Int) < 0 := by omega
  have hge0 : ¬ (n : Int) ≤ (p : Int) := by omega
  have hpn : (p : Int) < (n : Int) := by omega
  have hw0 : IntKind.i64.wrap ((p : Int) + 1) = ((p + 1 : Nat) : Int) := by rw [IntWalk.i64_in _ (by omega)]; omega
  subst h
  have HJ := Lib.hid (fun V => ref_Jump_is (c := 6) (b := false) rfl V)
  obtain ⟨C, hC⟩ : ∃ C : List Nat, C = [] := ⟨_, rfl⟩
  rw [← hC]
  have HCL : Hid (C = []) := Lib.hid hC
  clear hC
  go_enter Try.func12, Try.ntmps12
  go_wp2_with (go_at_call 27; (with_reducible refine (HJ.out _).mono ?_); rintro e wj ⟨rfl, rfl⟩)
  have HC : Hid (IntsAt (w.alloc (insO10 6 jt jf k)) none C ∧ C.length = 0) := Lib.hid ⟨by rw [HCL.out]; exact ints_nil _ _, by rw [HCL.out]; rfl⟩
  have HB : Hid (Below w.heap.size w (w.alloc (insO10 6 jt jf k))) := Lib.hid (lbox10 _ _)
  go_loopw [8, 9] (fun v i wr => v = .slice none 0 0 ∧ i = .int .i64 0 ∧ wr = (w.alloc (insO10 6 jt jf k))) (fun _ _ _ => 0)
  case atStart => exact ⟨rfl, rfl, rfl⟩
  case round =>
    obtain ⟨rfl, rfl, rfl⟩ := hrel
    go_wp2
    go_ret
    exact put_end (by rw [HC.out.2]; exact put_start _ n C) HB.out
set_option maxHeartbeats 1000000 in
set_option maxRecDepth 100000 in
theorem next_ret22 (h : code = 22) : Calls Try.prog 12 #[.slice (some ⟨qb, qo, none⟩) n cap, .int .i64 (p : Int)] w (NextP w (([] : List Nat).filter fun j => decide (j < n))) := by
  have hlt0 : ¬ (p : Int) < 0 := by omega
  have hge0 : ¬ (n : Int) ≤ (p : Int) := by omega
  have hpn : (p : Int) < (n : Int) := by omega
  have hw0 : IntKind.i64.wrap ((p : Int) + 1) = ((p + 1 : Nat) : Int) := by rw [IntWalk.i64_in _ (by omega)]; omega
  subst h
  have HJ := Lib.hid (fun V => ref_Jump_is (c := 22) (b := false) rfl V)
  obtain ⟨C, hC⟩ : ∃ C : List Nat, C = [] := ⟨_, rfl⟩
  rw [← hC]
  have HCL : Hid (C = []) := Lib.hid hC
  clear hC
  go_enter Try.func12, Try.ntmps12
  go_wp2_with (go_at_call 27; (with_reducible refine (HJ.out _).mono ?_); rintro e wj ⟨rfl, rfl⟩)
  have HC : Hid (IntsAt (w.alloc (insO10 22 jt jf k)) none C ∧ C.length = 0) := Lib.hid ⟨by rw [HCL.out]; exact ints_nil _ _, by rw [HCL.out]; rfl⟩
  have HB : Hid (Below w.heap.size w (w.alloc (insO10 22 jt jf k))) := Lib.hid (lbox10 _ _)
  go_loopw [8, 9] (fun v i wr => v = .slice none 0 0 ∧ i = .int .i64 0 ∧ wr = (w.alloc (insO10 22 jt jf k))) (fun _ _ _ => 0)
  case atStart => exact ⟨rfl, rfl, rfl⟩
  case round =>
    obtain ⟨rfl, rfl, rfl⟩ := hrel
    go_wp2
    go_ret
    exact put_end (by rw [HC.out.2]; exact put_start _ n C) HB.out
set_option maxHeartbeats 1000000 in
set_option maxRecDepth 100000 in
theorem next_far (h : code = 5) (hkn : ¬ k < n) : Calls Try.prog 12 #[.slice (some ⟨qb, qo, none⟩) n cap, .int .i64 (p : Int)] w (NextP w (([] : List Nat).filter fun j => decide (j < n))) := by
  have hlt0 : ¬ (p : Int) < 0 := by omega
  have hge0 : ¬ (n : Int) ≤ (p : Int) := by omega
  have hpn : (p : Int) < (n : Int) := by omega
  have hw0 : IntKind.i64.wrap ((p : Int) + 1) = ((p + 1 : Nat) : Int) := by rw [IntWalk.i64_in _ (by omega)]; omega
  subst h
  have HJ := Lib.hid (fun V => ref_Jump_is (c := 5) (b := false) rfl V)
  have hkn' : ¬ (k : Int) < (n : Int) := by omega
  obtain ⟨C, hC⟩ : ∃ C : List Nat, C = [] := ⟨_, rfl⟩
  rw [← hC]
  have HCL : Hid (C = []) := Lib.hid hC
  clear hC
  go_enter Try.func12, Try.ntmps12
  go_wp2_with (go_at_call 27; (with_reducible refine (HJ.out _).mono ?_); rintro e wj ⟨rfl, rfl⟩)
  have HC : Hid (IntsAt (w.alloc (insO10 5 jt jf k)) none C ∧ C.length = 0) := Lib.hid ⟨by rw [HCL.out]; exact ints_nil _ _, by rw [HCL.out]; rfl⟩
  have HB : Hid (Below w.heap.size w (w.alloc (insO10 5 jt jf k))) := Lib.hid (lbox10 _ _)
  go_loopw [8, 9] (fun v i wr => v = .slice none 0 0 ∧ i = .int .i64 0 ∧ wr = (w.alloc (insO10 5 jt jf k))) (fun _ _ _ => 0)
  case atStart => exact ⟨rfl, rfl, rfl⟩
  case round =>
    obtain ⟨rfl, rfl, rfl⟩ := hrel
    go_wp2
    go_ret
    exact put_end (by rw [HC.out.2]; exact put_start _ n C) HB.out
set_option maxHeartbeats 1000000 in
set_option maxRecDepth 100000 in
theorem next_ja (h : code = 5) (hkn : k < n) : Calls Try.prog 12 #[.slice (some ⟨qb, qo, none⟩) n cap, .int .i64 (p : Int)] w (NextP w (([p + 1 + k] : List Nat).filter fun j => decide (j < n))) := by
  have hlt0 : ¬ (p : Int) < 0 := by omega
  have hge0 : ¬ (n : Int) ≤ (p : Int) := by omega
  have hpn : (p : Int) < (n : Int) := by omega
  have hw0 : IntKind.i64.wrap ((p : Int) + 1) = ((p + 1 : Nat) : Int) := by rw [IntWalk.i64_in _ (by omega)]; omega
  subst h
  have HJ := Lib.hid (fun V => ref_Jump_is (c := 5) (b := false) rfl V)
  have hkn' : (k : Int) < (n : Int) := by omega
  have hw2 : IntKind.i64.wrap (((p + 1 : Nat) : Int) + (k : Int)) = ((p + 1 + k : Nat) : Int) := by rw [IntWalk.i64_in _ (by omega)]; omega
  obtain ⟨C, hC⟩ : ∃ C : List Nat, C = [p + 1 + k] := ⟨_, rfl⟩
  rw [← hC]
  have HCL : Hid (C = [p + 1 + k]) := Lib.hid hC
  clear hC
  go_enter Try.func12, Try.ntmps12
  go_wp2_with (first
    | (at_builtin; refine wpList_append_own _ rfl _ _ 23 rfl 3 (.int .i64 0) 1 8 Try.underlying23 info_int10 rfl (by decide) w.heap.size (.slice none 0 0) 0 [] rfl (World.ownsRow_nil _ _ _ _) ⟨w.heap.size + 1, 0, none⟩ 1 1 [.int .i64 ((p + 1 + k : Nat) : Int)] rfl rfl (int_new11 _ _ _ (by simp)) (int_one10 _ _) (by unfold maxLen; omega) (by omega) (by simp; omega) ?_; intro v1 V1 ho hg hb; obtain ⟨A1, c1, rfl, p1, p2, p3⟩ := put_first ho hg; have H1 := Lib.hid (And.intro p1 (And.intro p2 p3)); have y1 : V1.cell? ⟨w.heap.size, 1, none⟩ = some (.int .u8 (jt : Int)) := (by unfold World.cell?; rw [H1.out.2.2]; rfl); have y2 : V1.cell? ⟨w.heap.size, 2, none⟩ = some (.int .u8 (jf : Int)) := (by unfold World.cell?; rw [H1.out.2.2]; rfl); clear ho hg hb p1 p2 p3)
    | (go_at_call 27; (with_reducible refine (HJ.out _).mono ?_); rintro e wj ⟨rfl, rfl⟩))
  have HC : Hid (IntsAt V1 A1 C ∧ C.length = 1) := Lib.hid ⟨by rw [HCL.out]; exact own_ints H1.out.1, by rw [HCL.out]; rfl⟩
  have HB : Hid (Below w.heap.size w V1) := Lib.hid H1.out.2.1
  clear y1 y2
  have HV2 := Lib.hid (put_start V1 n C)
  go_loopw [8, 9] (fun v i wr => ∃ (kk : Nat) (l : List Nat), kk ≤ 1 ∧ i = .int .i64 (kk : Int) ∧ PutAt V1 wr n C kk v l) (fun _ i _ => 1 - (intOf i).toNat)
  case atStart => exact ⟨0, [], by omega, rfl, HV2.out⟩
  case round =>
    obtain ⟨kk, l, hkk, rfl, hP⟩ := hrel
    obtain ⟨Ao, co, rfl⟩ := own_form10 hP.own
    have HP := Lib.hid hP
    have hl := put_len hP
    clear hP
    by_cases hlt : kk < 1
    · have hlt' : (kk : Int) < (1 : Int) := by omega
      have hw1 : IntKind.i64.wrap ((kk : Int) + 1) = ((kk + 1 : Nat) : Int) := by rw [IntWalk.i64_in _ (by omega)]; omega
      obtain ⟨ab, ao, rfl, hal, ha⟩ := ints_cell (HC.out.1.below HP.out.bel) (i := kk) (by rw [HC.out.2]; exact hlt)
      obtain ⟨y, hy⟩ : ∃ y, y = C.getD kk 0 := ⟨_, rfl⟩
      rw [← hy] at ha
      have HY := Lib.hid hy.symm
      clear hy hal
      by_cases hyn : y < n
      · have hyn' : (y : Int) < (n : Int) := by omega
        have HYN := Lib.hid hyn
        clear hyn
        go_wp2_with (at_builtin; refine wpList_append_own _ rfl _ _ 23 rfl 3 (.int .i64 0) 1 8 Try.underlying23 info_int10 rfl (by decide) V1.heap.size (.slice Ao l.length co) l.length (intL l) rfl (own_below HP.out.own (lbox10 wr _)) ⟨wr.heap.size, 0, none⟩ 1 1 [.int .i64 (y : Int)] rfl rfl (int_new10 _ _ _) (int_one10 _ _) (by unfold maxLen; omega) (by omega) (Nat.le_trans HP.out.bel.size (lbox10 wr _).size) ?_; intro v' w1 ho hg hb; have HP1 := Lib.hid (put_yes HP.out (by rw [HC.out.2]; exact hlt) HY.out HYN.out ho hg); clear ho hg hb)
        exact ⟨⟨kk + 1, _, by omega, by go_num, HP1.out⟩, by simp [intOf]; omega⟩
      · have hyn' : ¬ (y : Int) < (n : Int) := by omega
        have HYN := Lib.hid hyn
        clear hyn
        go_wp2
        exact ⟨⟨kk + 1, _, by omega, by go_num, put_no HP.out (by rw [HC.out.2]; exact hlt) HY.out HYN.out⟩, by simp [intOf]; omega⟩
    · obtain rfl : kk = 1 := by omega
      go_wp2
      go_ret
      exact put_end (by rw [HC.out.2]; exact HP.out) HB.out
set_option maxHeartbeats 1000000 in
set_option maxRecDepth 100000 in
theorem next_same (hj : jumpC code = true) (he : jt = jf) : Calls Try.prog 12 #[.slice (some ⟨qb, qo, none⟩) n cap, .int .i64 (p : Int)] w (NextP w (([p + 1 + jt] : List Nat).filter fun j => decide (j < n))) := by
  have hlt0 : ¬ (p : Int) < 0 := by omega
  have hge0 : ¬ (n : Int) ≤ (p : Int) := by omega
  have hpn : (p : Int) < (n : Int) := by omega
  have hw0 : IntKind.i64.wrap ((p : Int) + 1) = ((p + 1 : Nat) : Int) := by rw [IntWalk.i64_in _ (by omega)]; omega
  have hne : ((jt : Int) != (jf : Int)) = false := by rw [he]; exact bne_self_eq_false _
  clear he
  have b6 : (code == 6) = false := beq_false_of_ne (fun e => by subst e; exact absurd hj (by decide))
  have b22 : (code == 22) = false := beq_false_of_ne (fun e => by subst e; exact absurd hj (by decide))
  have b5 : (code == 5) = false := beq_false_of_ne (fun e => by subst e; exact absurd hj (by decide))
  have HJ := Lib.hid (fun V => ref_Jump_is hj V)
  clear hj
  have hw2 : IntKind.i64.wrap (((p + 1 : Nat) : Int) + (jt : Int)) = ((p + 1 + jt : Nat) : Int) := by rw [IntWalk.i64_in _ (by omega)]; omega
  have hw3 : IntKind.i64.wrap (((p + 1 : Nat) : Int) + (jf : Int)) = ((p + 1 + jf : Nat) : Int) := by rw [IntWalk.i64_in _ (by omega)]; omega
  obtain ⟨C, hC⟩ : ∃ C : List Nat, C = [p + 1 + jt] := ⟨_, rfl⟩
  rw [← hC]
  have HCL : Hid (C = [p + 1 + jt]) := Lib.hid hC
  clear hC
  go_enter Try.func12, Try.ntmps12
  go_wp2_with (first
    | (at_builtin; refine wpList_append_own _ rfl _ _ 23 rfl 3 (.int .i64 0) 1 8 Try.underlying23 info_int10 rfl (by decide) w.heap.size (.slice none 0 0) 0 [] rfl (World.ownsRow_nil _ _ _ _) ⟨w.heap.size + 1, 0, none⟩ 1 1 [.int .i64 ((p + 1 + jt : Nat) : Int)] rfl rfl (int_new11 _ _ _ (by simp)) (int_one10 _ _) (by unfold maxLen; omega) (by omega) (by simp; omega) ?_; intro v1 V1 ho hg hb; obtain ⟨A1, c1, rfl, p1, p2, p3⟩ := put_first ho hg; have H1 := Lib.hid (And.intro p1 (And.intro p2 p3)); have y1 : V1.cell? ⟨w.heap.size, 1, none⟩ = some (.int .u8 (jt : Int)) := (by unfold World.cell?; rw [H1.out.2.2]; rfl); have y2 : V1.cell? ⟨w.heap.size, 2, none⟩ = some (.int .u8 (jf : Int)) := (by unfold World.cell?; rw [H1.out.2.2]; rfl); clear ho hg hb p1 p2 p3)
    | (go_at_call 27; (with_reducible refine (HJ.out _).mono ?_); rintro e wj ⟨rfl, rfl⟩))
  have HC : Hid (IntsAt V1 A1 C ∧ C.length = 1) := Lib.hid ⟨by rw [HCL.out]; exact own_ints H1.out.1, by rw [HCL.out]; rfl⟩
  have HB : Hid (Below w.heap.size w V1) := Lib.hid H1.out.2.1
  clear y1 y2
  have HV2 := Lib.hid (put_start V1 n C)
  go_loopw [8, 9] (fun v i wr => ∃ (kk : Nat) (l : List Nat), kk ≤ 1 ∧ i = .int .i64 (kk : Int) ∧ PutAt V1 wr n C kk v l) (fun _ i _ => 1 - (intOf i).toNat)
  case atStart => exact ⟨0, [], by omega, rfl, HV2.out⟩
  case round =>
    obtain ⟨kk, l, hkk, rfl, hP⟩ := hrel
    obtain ⟨Ao, co, rfl⟩ := own_form10 hP.own
    have HP := Lib.hid hP
    have hl := put_len hP
    clear hP
    by_cases hlt : kk < 1
    · have hlt' : (kk : Int) < (1 : Int) := by omega
      have hw1 : IntKind.i64.wrap ((kk : Int) + 1) = ((kk + 1 : Nat) : Int) := by rw [IntWalk.i64_in _ (by omega)]; omega
      obtain ⟨ab, ao, rfl, hal, ha⟩ := ints_cell (HC.out.1.below HP.out.bel) (i := kk) (by rw [HC.out.2]; exact hlt)
      obtain ⟨y, hy⟩ : ∃ y, y = C.getD kk 0 := ⟨_, rfl⟩
      rw [← hy] at ha
      have HY := Lib.hid hy.symm
      clear hy hal
      by_cases hyn : y < n
      · have hyn' : (y : Int) < (n : Int) := by omega
        have HYN := Lib.hid hyn
        clear hyn
        go_wp2_with (at_builtin; refine wpList_append_own _ rfl _ _ 23 rfl 3 (.int .i64 0) 1 8 Try.underlying23 info_int10 rfl (by decide) V1.heap.size (.slice Ao l.length co) l.length (intL l) rfl (own_below HP.out.own (lbox10 wr _)) ⟨wr.heap.size, 0, none⟩ 1 1 [.int .i64 (y : Int)] rfl rfl (int_new10 _ _ _) (int_one10 _ _) (by unfold maxLen; omega) (by omega) (Nat.le_trans HP.out.bel.size (lbox10 wr _).size) ?_; intro v' w1 ho hg hb; have HP1 := Lib.hid (put_yes HP.out (by rw [HC.out.2]; exact hlt) HY.out HYN.out ho hg); clear ho hg hb)
        exact ⟨⟨kk + 1, _, by omega, by go_num, HP1.out⟩, by simp [intOf]; omega⟩
      · have hyn' : ¬ (y : Int) < (n : Int) := by omega
        have HYN := Lib.hid hyn
        clear hyn
        go_wp2
        exact ⟨⟨kk + 1, _, by omega, by go_num, put_no HP.out (by rw [HC.out.2]; exact hlt) HY.out HYN.out⟩, by simp [intOf]; omega⟩
    · obtain rfl : kk = 1 := by omega
      go_wp2
      go_ret
      exact put_end (by rw [HC.out.2]; exact HP.out) HB.out
set_option maxHeartbeats 1000000 in
set_option maxRecDepth 100000 in
theorem next_two (hj : jumpC code = true) (he : jt ≠ jf) : Calls Try.prog 12 #[.slice (some ⟨qb, qo, none⟩) n cap, .int .i64 (p : Int)] w (NextP w (([p + 1 + jt, p + 1 + jf] : List Nat).filter fun j => decide (j < n))) := by
  have hlt0 : ¬ (p : Int) < 0 := by omega
  have hge0 : ¬ (n : Int) ≤ (p : Int) := by omega
  have hpn : (p : Int) < (n : Int) := by omega
  have hw0 : IntKind.i64.wrap ((p : Int) + 1) = ((p + 1 : Nat) : Int) := by rw [IntWalk.i64_in _ (by omega)]; omega
  have b6 : (code == 6) = false := beq_false_of_ne (fun e => by subst e; exact absurd hj (by decide))
  have b22 : (code == 22) = false := beq_false_of_ne (fun e => by subst e; exact absurd hj (by decide))
  have b5 : (code == 5) = false := beq_false_of_ne (fun e => by subst e; exact absurd hj (by decide))
  have HJ := Lib.hid (fun V => ref_Jump_is hj V)
  clear hj
  have hw2 : IntKind.i64.wrap (((p + 1 : Nat) : Int) + (jt : Int)) = ((p + 1 + jt : Nat) : Int) := by rw [IntWalk.i64_in _ (by omega)]; omega
  have hw3 : IntKind.i64.wrap (((p + 1 : Nat) : Int) + (jf : Int)) = ((p + 1 + jf : Nat) : Int) := by rw [IntWalk.i64_in _ (by omega)]; omega
  have hne : ((jt : Int) != (jf : Int)) = true := bne_iff_ne.2 (by omega)
  clear he
  obtain ⟨C, hC⟩ : ∃ C : List Nat, C = [p + 1 + jt, p + 1 + jf] := ⟨_, rfl⟩
  rw [← hC]
  have HCL : Hid (C = [p + 1 + jt, p + 1 + jf]) := Lib.hid hC
  clear hC
  go_enter Try.func12, Try.ntmps12
  go_wp2_with (first
    | (at_builtin; refine wpList_append_own _ rfl _ _ 23 rfl 3 (.int .i64 0) 1 8 Try.underlying23 info_int10 rfl (by decide) w.heap.size (.slice A1 1 c1) 1 (intL [p + 1 + jt]) rfl (own_below H1.out.1 (lbox10 _ _)) ⟨V1.heap.size, 0, none⟩ 1 1 [.int .i64 ((p + 1 + jf : Nat) : Int)] rfl rfl (int_new11 _ _ _ (by simp)) (int_one10 _ _) (by unfold maxLen; omega) (by omega) (Nat.le_trans H1.out.2.1.size (lbox10 _ _).size) ?_; intro v2 V2 ho hg hb; obtain ⟨A2, c2, rfl, p1, p2⟩ := put_second H1.out.1 H1.out.2.1 ho hg; have H2 := Lib.hid (And.intro p1 p2); clear ho hg hb p1 p2 y1 y2)
    | (at_builtin; refine wpList_append_own _ rfl _ _ 23 rfl 3 (.int .i64 0) 1 8 Try.underlying23 info_int10 rfl (by decide) w.heap.size (.slice none 0 0) 0 [] rfl (World.ownsRow_nil _ _ _ _) ⟨w.heap.size + 1, 0, none⟩ 1 1 [.int .i64 ((p + 1 + jt : Nat) : Int)] rfl rfl (int_new11 _ _ _ (by simp)) (int_one10 _ _) (by unfold maxLen; omega) (by omega) (by simp; omega) ?_; intro v1 V1 ho hg hb; obtain ⟨A1, c1, rfl, p1, p2, p3⟩ := put_first ho hg; have H1 := Lib.hid (And.intro p1 (And.intro p2 p3)); have y1 : V1.cell? ⟨w.heap.size, 1, none⟩ = some (.int .u8 (jt : Int)) := (by unfold World.cell?; rw [H1.out.2.2]; rfl); have y2 : V1.cell? ⟨w.heap.size, 2, none⟩ = some (.int .u8 (jf : Int)) := (by unfold World.cell?; rw [H1.out.2.2]; rfl); clear ho hg hb p1 p2 p3)
    | (go_at_call 27; (with_reducible refine (HJ.out _).mono ?_); rintro e wj ⟨rfl, rfl⟩))
  have HC : Hid (IntsAt V2 A2 C ∧ C.length = 2) := Lib.hid ⟨by rw [HCL.out]; exact own_ints H2.out.1, by rw [HCL.out]; rfl⟩
  have HB : Hid (Below w.heap.size w V2) := Lib.hid H2.out.2
  have HV2 := Lib.hid (put_start V2 n C)
  go_loopw [8, 9] (fun v i wr => ∃ (kk : Nat) (l : List Nat), kk ≤ 2 ∧ i = .int .i64 (kk : Int) ∧ PutAt V2 wr n C kk v l) (fun _ i _ => 2 - (intOf i).toNat)
  case atStart => exact ⟨0, [], by omega, rfl, HV2.out⟩
  case round =>
    obtain ⟨kk, l, hkk, rfl, hP⟩ := hrel
    obtain ⟨Ao, co, rfl⟩ := own_form10 hP.own
    have HP := Lib.hid hP
    have hl := put_len hP
    clear hP
    by_cases hlt : kk < 2
    · have hlt' : (kk : Int) < (2 : Int) := by omega
      have hw1 : IntKind.i64.wrap ((kk : Int) + 1) = ((kk + 1 : Nat) : Int) := by rw [IntWalk.i64_in _ (by omega)]; omega
      obtain ⟨ab, ao, rfl, hal, ha⟩ := ints_cell (HC.out.1.below HP.out.bel) (i := kk) (by rw [HC.out.2]; exact hlt)
      obtain ⟨y, hy⟩ : ∃ y, y = C.getD kk 0 := ⟨_, rfl⟩
      rw [← hy] at ha
      have HY := Lib.hid hy.symm
      clear hy hal
      by_cases hyn : y < n
      · have hyn' : (y : Int) < (n : Int) := by omega
        have HYN := Lib.hid hyn
        clear hyn
        go_wp2_with (at_builtin; refine wpList_append_own _ rfl _ _ 23 rfl 3 (.int .i64 0) 1 8 Try.underlying23 info_int10 rfl (by decide) V2.heap.size (.slice Ao l.length co) l.length (intL l) rfl (own_below HP.out.own (lbox10 wr _)) ⟨wr.heap.size, 0, none⟩ 1 1 [.int .i64 (y : Int)] rfl rfl (int_new10 _ _ _) (int_one10 _ _) (by unfold maxLen; omega) (by omega) (Nat.le_trans HP.out.bel.size (lbox10 wr _).size) ?_; intro v' w1 ho hg hb; have HP1 := Lib.hid (put_yes HP.out (by rw [HC.out.2]; exact hlt) HY.out HYN.out ho hg); clear ho hg hb)
        exact ⟨⟨kk + 1, _, by omega, by go_num, HP1.out⟩, by simp [intOf]; omega⟩
      · have hyn' : ¬ (y : Int) < (n : Int) := by omega
        have HYN := Lib.hid hyn
        clear hyn
        go_wp2
        exact ⟨⟨kk + 1, _, by omega, by go_num, put_no HP.out (by rw [HC.out.2]; exact hlt) HY.out HYN.out⟩, by simp [intOf]; omega⟩
    · obtain rfl : kk = 2 := by omega
      go_wp2
      go_ret
      exact put_end (by rw [HC.out.2]; exact HP.out) HB.out
set_option maxHeartbeats 1000000 in
set_option maxRecDepth 100000 in
theorem next_plain (h6 : code ≠ 6) (h22 : code ≠ 22) (h5 : code ≠ 5) (hj : jumpC code = false) : Calls Try.prog 12 #[.slice (some ⟨qb, qo, none⟩) n cap, .int .i64 (p : Int)] w (NextP w (([p + 1] : List Nat).filter fun j => decide (j < n))) := by
  have hlt0 : ¬ (p : Int) < 0 := by omega
  have hge0 : ¬ (n : Int) ≤ (p : Int) := by omega
  have hpn : (p : Int) < (n : Int) := by omega
  have hw0 : IntKind.i64.wrap ((p : Int) + 1) = ((p + 1 : Nat) : Int) := by rw [IntWalk.i64_in _ (by omega)]; omega
  have b6 : (code == 6) = false := beq_false_of_ne h6
  have b22 : (code == 22) = false := beq_false_of_ne h22
  have b5 : (code == 5) = false := beq_false_of_ne h5
  have HJ := Lib.hid (fun V => ref_Jump_is hj V)
  clear hj h6 h22 h5
  obtain ⟨C, hC⟩ : ∃ C : List Nat, C = [p + 1] := ⟨_, rfl⟩
  rw [← hC]
  have HCL : Hid (C = [p + 1]) := Lib.hid hC
  clear hC
  go_enter Try.func12, Try.ntmps12
  go_wp2_with (first
    | (at_builtin; refine wpList_append_own _ rfl _ _ 23 rfl 3 (.int .i64 0) 1 8 Try.underlying23 info_int10 rfl (by decide) w.heap.size (.slice none 0 0) 0 [] rfl (World.ownsRow_nil _ _ _ _) ⟨w.heap.size + 1, 0, none⟩ 1 1 [.int .i64 ((p + 1 : Nat) : Int)] rfl rfl (int_new11 _ _ _ (by simp)) (int_one10 _ _) (by unfold maxLen; omega) (by omega) (by simp; omega) ?_; intro v1 V1 ho hg hb; obtain ⟨A1, c1, rfl, p1, p2, p3⟩ := put_first ho hg; have H1 := Lib.hid (And.intro p1 (And.intro p2 p3)); have y1 : V1.cell? ⟨w.heap.size, 1, none⟩ = some (.int .u8 (jt : Int)) := (by unfold World.cell?; rw [H1.out.2.2]; rfl); have y2 : V1.cell? ⟨w.heap.size, 2, none⟩ = some (.int .u8 (jf : Int)) := (by unfold World.cell?; rw [H1.out.2.2]; rfl); clear ho hg hb p1 p2 p3)
    | (go_at_call 27; (with_reducible refine (HJ.out _).mono ?_); rintro e wj ⟨rfl, rfl⟩))
  have HC : Hid (IntsAt V1 A1 C ∧ C.length = 1) := Lib.hid ⟨by rw [HCL.out]; exact own_ints H1.out.1, by rw [HCL.out]; rfl⟩
  have HB : Hid (Below w.heap.size w V1) := Lib.hid H1.out.2.1
  clear y1 y2
  have HV2 := Lib.hid (put_start V1 n C)
  go_loopw [8, 9] (fun v i wr => ∃ (kk : Nat) (l : List Nat), kk ≤ 1 ∧ i = .int .i64 (kk : Int) ∧ PutAt V1 wr n C kk v l) (fun _ i _ => 1 - (intOf i).toNat)
  case atStart => exact ⟨0, [], by omega, rfl, HV2.out⟩
  case round =>
    obtain ⟨kk, l, hkk, rfl, hP⟩ := hrel
    obtain ⟨Ao, co, rfl⟩ := own_form10 hP.own
    have HP := Lib.hid hP
    have hl := put_len hP
    clear hP
    by_cases hlt : kk < 1
    · have hlt' : (kk : Int) < (1 : Int) := by omega
      have hw1 : IntKind.i64.wrap ((kk : Int) + 1) = ((kk + 1 : Nat) : Int) := by rw [IntWalk.i64_in _ (by omega)]; omega
      obtain ⟨ab, ao, rfl, hal, ha⟩ := ints_cell (HC.out.1.below HP.out.bel) (i := kk) (by rw [HC.out.2]; exact hlt)
      obtain ⟨y, hy⟩ : ∃ y, y = C.getD kk 0 := ⟨_, rfl⟩
      rw [← hy] at ha
      have HY := Lib.hid hy.symm
      clear hy hal
      by_cases hyn : y < n
      · have hyn' : (y : Int) < (n : Int) := by omega
        have HYN := Lib.hid hyn
        clear hyn
        go_wp2_with (at_builtin; refine wpList_append_own _ rfl _ _ 23 rfl 3 (.int .i64 0) 1 8 Try.underlying23 info_int10 rfl (by decide) V1.heap.size (.slice Ao l.length co) l.length (intL l) rfl (own_below HP.out.own (lbox10 wr _)) ⟨wr.heap.size, 0, none⟩ 1 1 [.int .i64 (y : Int)] rfl rfl (int_new10 _ _ _) (int_one10 _ _) (by unfold maxLen; omega) (by omega) (Nat.le_trans HP.out.bel.size (lbox10 wr _).size) ?_; intro v' w1 ho hg hb; have HP1 := Lib.hid (put_yes HP.out (by rw [HC.out.2]; exact hlt) HY.out HYN.out ho hg); clear ho hg hb)
        exact ⟨⟨kk + 1, _, by omega, by go_num, HP1.out⟩, by simp [intOf]; omega⟩
      · have hyn' : ¬ (y : Int) < (n : Int) := by omega
        have HYN := Lib.hid hyn
        clear hyn
        go_wp2
        exact ⟨⟨kk + 1, _, by omega, by go_num, put_no HP.out (by rw [HC.out.2]; exact hlt) HY.out HYN.out⟩, by simp [intOf]; omega⟩
    · obtain rfl : kk = 1 := by omega
      go_wp2
      go_ret
      exact put_end (by rw [HC.out.2]; exact HP.out) HB.out
end
theorem r_Next {w : World} {A : Option Addr} {n : Nat} (cap : Nat) {q : Nat → Ins} (h : ProgAt w A n q) (hok : ∀ i, i < n → (q i).OK) (hn : n ≤ 17592186044416) (at_ : Int) : Calls Try.prog 12 #[.slice A n cap, .int .i64 at_] w (NextP w (nextZ q n at_)) := by
  unfold nextZ
  by_cases h0 : 0 ≤ at_
  · rw [if_pos h0]
    by_cases hp : (n : Int) ≤ at_
    · have e : nextF10 q n at_.toNat = [] := if_neg (by omega)
      rw [e]; exact r_Next_behind w A n cap at_ h0 hp
    · obtain ⟨p, rfl⟩ : ∃ p : Nat, at_ = p := ⟨at_.toNat, by omega⟩
      have hpn : p < n := by omega
      obtain ⟨qb, qo, rfl, hlt, hcells⟩ := h (by omega)
      obtain ⟨x0, x1, x2, x3⟩ := hcells p hpn
      have ho := hok p hpn
      rw [Int.toNat_natCast]
      unfold nextF10
      rw [if_pos hpn]
      generalize q p = x at x0 x1 x2 x3 ho ⊢
      obtain ⟨code, jt, jf, kb⟩ := x
      have hk : kb.toNat < 4294967296 := kb.isLt
      obtain ⟨hc1, hc2, hj1, hj2⟩ := ho
      have hc : 0 ≤ code ∧ code < 65536 := ⟨hc1, hc2⟩
      have hj1 : jt < 256 := hj1
      have hj2 : jf < 256 := hj2
      unfold candF
      simp only
      by_cases h6 : code = 6
      · rw [if_pos (.inl h6)]; exact next_ret6 w qb qo n cap p code jt jf kb.toNat hpn hn x0 x1 x2 x3 hc hj1 hj2 hk h6
      by_cases h22 : code = 22
      · rw [if_pos (.inr h22)]; exact next_ret22 w qb qo n cap p code jt jf kb.toNat hpn hn x0 x1 x2 x3 hc hj1 hj2 hk h22
      rw [if_neg (by omega)]
      by_cases h5 : code = 5
      · rw [if_pos h5]
        by_cases hkn : kb.toNat < n
        · rw [if_pos hkn]; exact next_ja w qb qo n cap p code jt jf kb.toNat hpn hn x0 x1 x2 x3 hc hj1 hj2 hk h5 hkn
        · rw [if_neg hkn]; exact next_far w qb qo n cap p code jt jf kb.toNat hpn hn x0 x1 x2 x3 hc hj1 hj2 hk h5 hkn
      rw [if_neg h5]
      cases hj : jumpC code with
      | true =>
        rw [if_pos rfl]
        by_cases he : jt = jf
        · rw [if_pos he]; exact next_same w qb qo n cap p code jt jf kb.toNat hpn hn x0 x1 x2 x3 hc hj1 hj2 hk hj he
        · rw [if_neg he]; exact next_two w qb qo n cap p code jt jf kb.toNat hpn hn x0 x1 x2 x3 hc hj1 hj2 hk hj he
      | false =>
        rw [if_neg (by decide)]; exact next_plain w qb qo n cap p code jt jf kb.toNat hpn hn x0 x1 x2 x3 hc hj1 hj2 hk h6 h22 h5 hj
  · rw [if_neg h0]; exact r_Next_before w A n cap at_ (by omega)
end Go.Proofs.Ytaphbcjehcnggaa
namespace Go.Proofs.Ytaphbcjehcnggaa
open Go Go.RowKit
set_option linter.unusedSimpArgs false
set_option linter.unusedVariables false

theorem info_bool10 : (Try.prog.info? 4).map (fun i => (i.zero, i.size, i.bytes)) = some (some (.bool false), 1, 1) := by kernel_rfl
theorem row_below10 {W W' : World} {g : Nat} {e : TypeId} {c : Nat} {F : Nat → Value} (h : W.rowIs g e c F) (hb : Below W.heap.size W W') : W'.rowIs g e c F := by
  obtain ⟨a, h1, h2, h3⟩ := h
  exact ⟨a, (hb.block g (Array.getElem?_eq_some_iff.1 h1).1).trans h1, h2, h3⟩
/-- Bools in a row. -/
def BoolsAt (W : World) (b n : Nat) (f : Nat → Bool) : Prop := W.rowIs b 4 n fun j => .bool (f j)
theorem BoolsAt.below {W W' : World} {b n : Nat} {f : Nat → Bool} (h : BoolsAt W b n f) (hb : Below W.heap.size W W') : BoolsAt W' b n f := row_below10 h hb
theorem BoolsAt.cell {W : World} {b n : Nat} {f : Nat → Bool} (h : BoolsAt W b n f) {i : Nat} (hi : i < n) : W.cell? ⟨b, i, none⟩ = some (.bool (f i)) := World.rowIs.cell h hi
theorem BoolsAt.lt {W : World} {b n : Nat} {f : Nat → Bool} (h : BoolsAt W b n f) : b < W.heap.size := World.rowIs.lt h
theorem BoolsAt.free {W : World} {b n : Nat} {f : Nat → Bool} (h : BoolsAt W b n f) (j : Nat) : W.frozen? ⟨b, j, none⟩ = false := World.rowIs.frozen h j
theorem BoolsAt.congr {W : World} {b n : Nat} {f g : Nat → Bool} (h : BoolsAt W b n f) (e : ∀ i, i < n → f i = g i) : BoolsAt W b n g := World.rowIs.congr h fun i hi => by rw [e i hi]
theorem BoolsAt.on {W : World} {b n : Nat} {f : Nat → Bool} (h : BoolsAt W b n f) (k : Nat) : BoolsAt (W.setCell ⟨b, k, none⟩ (.bool true)) b n fun j => f j || decide (j = k) :=
  World.rowIs.congr (World.rowIs.set h k _) fun i hi => by
    by_cases e : i = k
    · rw [if_pos e]; simp [e]
    · rw [if_neg e]; simp [e]
/-- The program stays readable. -/
theorem prog_set10 {W : World} {A : Option Addr} {n : Nat} {q : Nat → Ins} {B g j : Nat} {u : Value} (h : ProgAt W A n q) (hlt : ∀ b o, A = some ⟨b, o, none⟩ → b ≠ g) : ProgAt (W.setCell ⟨g, j, none⟩ u) A n q := fun hn => by
  obtain ⟨qb, qo, rfl, h1, h2⟩ := h hn
  have hne := hlt qb qo rfl
  refine ⟨qb, qo, rfl, by simpa [World.setCell] using h1, fun i hi => ?_⟩
  obtain ⟨c0, c1, c2, c3⟩ := h2 i hi
  refine ⟨?_, ?_, ?_, ?_⟩
  · rw [World.cell?_setCell_far _ _ _ _ (by show g ≠ qb; omega)]; exact c0
  · rw [World.cell?_setCell_far _ _ _ _ (by show g ≠ qb; omega)]; exact c1
  · rw [World.cell?_setCell_far _ _ _ _ (by show g ≠ qb; omega)]; exact c2
  · rw [World.cell?_setCell_far _ _ _ _ (by show g ≠ qb; omega)]; exact c3
/-- While places are gone through: the program, and a row of bools behind it. -/
structure RchAt (w W : World) (A : Option Addr) (n : Nat) (q : Nat → Ins) (b : Nat) (f : Nat → Bool) : Prop where
  prog : ProgAt w A n q
  row : BoolsAt W b n f
  bel : Below w.heap.size w W
  le : w.heap.size ≤ b
theorem RchAt.q {w W : World} {A : Option Addr} {n : Nat} {q : Nat → Ins} {b : Nat} {f : Nat → Bool} (h : RchAt w W A n q b f) : ProgAt W A n q := h.prog.below h.bel
theorem RchAt.up {w W W' : World} {A : Option Addr} {n : Nat} {q : Nat → Ins} {b : Nat} {f : Nat → Bool} (h : RchAt w W A n q b f) (hb : Below W.heap.size W W') : RchAt w W' A n q b f :=
  ⟨h.prog, h.row.below hb, h.bel.trans (hb.mono h.bel.size), h.le⟩
theorem RchAt.on {w W : World} {A : Option Addr} {n : Nat} {q : Nat → Ins} {b : Nat} {f : Nat → Bool} (h : RchAt w W A n q b f) (k : Nat) : RchAt w (W.setCell ⟨b, k, none⟩ (.bool true)) A n q b (fun j => f j || decide (j = k)) :=
  ⟨h.prog, h.row.on k, h.bel.setCell (p := ⟨b, k, none⟩) h.le _, h.le⟩
theorem RchAt.congr {w W : World} {A : Option Addr} {n : Nat} {q : Nat → Ins} {b : Nat} {f g : Nat → Bool} (h : RchAt w W A n q b f) (e : ∀ i, i < n → f i = g i) : RchAt w W A n q b g := ⟨h.prog, h.row.congr e, h.bel, h.le⟩
/-- Some of the places that an instruction leads to have been marked. -/
def partR (q : Nat → Ins) (n m kk : Nat) (j : Nat) : Bool := reachN q n m j || ((nextF10 q n m).take kk).contains j
theorem part_zero (q : Nat → Ins) (n m j : Nat) : partR q n m 0 j = reachN q n m j := by unfold partR; simp
theorem part_succ {q : Nat → Ins} {n m kk : Nat} (h : kk < (nextF10 q n m).length) (j : Nat) : (partR q n m kk j || decide (j = (nextF10 q n m).getD kk 0)) = partR q n m (kk + 1) j := by
  unfold partR
  have e : (nextF10 q n m).take (kk + 1) = (nextF10 q n m).take kk ++ [(nextF10 q n m).getD kk 0] := by
    rw [List.take_add_one, List.getD_eq_getElem?_getD, List.getElem?_eq_getElem h]; rfl
  rw [e, List.contains_append, Bool.or_assoc]
  congr 2
  simp
theorem part_all {q : Nat → Ins} {n m : Nat} (h : reachN q n m m = true) (j : Nat) : partR q n m (nextF10 q n m).length j = reachN q n (m + 1) j := by
  unfold partR
  rw [List.take_length, reachN, h, Bool.true_and]
theorem part_self {q : Nat → Ins} {n m : Nat} (kk : Nat) : partR q n m kk m = reachN q n m m := by
  unfold partR
  have : ((nextF10 q n m).take kk).contains m = false := by
    rw [Bool.eq_false_iff]
    intro h
    have := next_in (List.mem_of_mem_take (List.contains_iff_mem.1 h))
    omega
  rw [this, Bool.or_false]
theorem reach_stay {q : Nat → Ins} {n m : Nat} (h : reachN q n m m = false) (j : Nat) : reachN q n m j = reachN q n (m + 1) j := by
  rw [reachN, h, Bool.false_and, Bool.or_false]
theorem next_z (q : Nat → Ins) (n m : Nat) : nextZ q n (m : Int) = nextF10 q n m := by
  unfold nextZ; rw [if_pos (by omega), Int.toNat_natCast]
theorem next_at {q : Nat → Ins} {n m kk : Nat} (h : kk < (nextF10 q n m).length) : (nextF10 q n m).getD kk 0 < n := by
  rw [List.getD_eq_getElem?_getD, List.getElem?_eq_getElem h]
  exact (next_in (List.getElem_mem h)).2.1
set_option maxHeartbeats 2000000 in
set_option maxRecDepth 100000 in
theorem r_Reach {w : World} {A : Option Addr} {n : Nat} (cap : Nat) {q : Nat → Ins} (h : ProgAt w A n q) (hok : ∀ i, i < n → (q i).OK) (h0 : 0 < n) (hn : n ≤ 4096) :
    Calls Try.prog 19 #[.slice A n cap] w fun e w' => e = .returned (.slice (some ⟨w.heap.size, 0, none⟩) n n) ∧ BoolsAt w' w.heap.size n (reachF q n) ∧ Below w.heap.size w w' := by
  obtain ⟨O, hmk, hO⟩ := make_zero 30 4 (.bool false) 1 Try.underlying30 info_bool10 rfl n (by omega) (by omega)
  have hf := World.rowIs.frozen (hO w) 0
  have hx0 := World.rowIs.cell (hO w) (i := 0) h0
  have HS : Hid (RchAt w ((w.alloc O).setCell ⟨w.heap.size, 0, none⟩ (.bool true)) A n q w.heap.size (reachN q n 0)) := Lib.hid (by
    have h1 : BoolsAt (w.alloc O) w.heap.size n (fun _ => false) := hO w
    exact ⟨h, (h1.on 0).congr fun i _ => by simp [reachN], ((lbox10 w O).setCell (p := ⟨w.heap.size, 0, none⟩) (Nat.le_refl _) _), Nat.le_refl _⟩)
  have HNX := Lib.hid (fun (V : World) (m : Nat) (hV : ProgAt V A n q) => (next_z q n m) ▸ r_Next (w := V) cap hV hok (by omega) (m : Int))
  have hlt0 : (0 : Int) < (n : Int) := by omega
  clear h hok hO
  go_enter Try.func19, Try.ntmps19
  go_wp2
  go_loopw [4] (fun i wr => ∃ m : Nat, m ≤ n ∧ i = .int .i64 (m : Int) ∧ RchAt w wr A n q w.heap.size (reachN q n m)) (fun i _ => n - (intOf i).toNat)
  case atStart => exact ⟨0, by omega, rfl, HS.out⟩
  case round =>
    obtain ⟨m, hm, rfl, hR⟩ := hrel
    have HR := Lib.hid hR
    clear hR HS
    by_cases hlt : m < n
    · have hlt' : (m : Int) < (n : Int) := by omega
      have hw1 : IntKind.i64.wrap ((m : Int) + 1) = ((m + 1 : Nat) : Int) := by rw [IntWalk.i64_in _ (by omega)]; omega
      go_wp2_with (go_at_call 12; (with_reducible refine (HNX.out _ m HR.out.q).mono ?_); rintro e w1 ⟨A1, c1, rfl, hi, hf1, hb1⟩; have H1 := Lib.hid (And.intro hi (And.intro (show FreshA wr.heap.size A1 from hf1) (HR.out.up hb1))); clear hi hf1 hb1)
      have hsz := HR.out.row.lt
      cases hr : reachN q n m m with
      | false =>
        have g0 := H1.out.2.2.row.cell hlt
        rw [hr] at g0
        have HRF := Lib.hid hr
        clear hr
        go_loopw [6] (fun k V => k = .int .i64 0 ∧ V = w1) (fun _ _ => 0)
        case atStart => exact ⟨rfl, rfl⟩
        case round =>
          obtain ⟨rfl, rfl⟩ := hrel
          by_cases hl : 0 < (nextF10 q n m).length
          · have hl' : (0 : Int) < ((nextF10 q n m).length : Int) := by omega
            go_wp2
            exact ⟨⟨m + 1, by omega, by go_num, H1.out.2.2.congr fun j _ => reach_stay HRF.out j⟩, by simp [intOf]; omega⟩
          · have hl' : ¬ (0 : Int) < ((nextF10 q n m).length : Int) := by omega
            go_wp2
            exact ⟨⟨m + 1, by omega, by go_num, H1.out.2.2.congr fun j _ => reach_stay HRF.out j⟩, by simp [intOf]; omega⟩
      | true =>
        have HRT := Lib.hid hr
        have hlen := next_len (q := q) (n := n) m
        have HI := Lib.hid (fun kk (hkk : kk < (nextF10 q n m).length) => next_at hkk)
        clear hr
        go_loopw [6] (fun k V => ∃ kk : Nat, kk ≤ (nextF10 q n m).length ∧ k = .int .i64 (kk : Int) ∧ IntsAt V A1 (nextF10 q n m) ∧ RchAt w V A n q w.heap.size (partR q n m kk)) (fun k _ => (nextF10 q n m).length - (intOf k).toNat)
        case atStart => exact ⟨0, by omega, rfl, H1.out.1, H1.out.2.2.congr fun j _ => (part_zero q n m j).symm⟩
        case round =>
          obtain ⟨kk, hkk, rfl, hI, hP⟩ := hrel
          have HP := Lib.hid (And.intro hI hP)
          by_cases hl : kk < (nextF10 q n m).length
          · have hl' : (kk : Int) < ((nextF10 q n m).length : Int) := by omega
            have hw2 : IntKind.i64.wrap ((kk : Int) + 1) = ((kk + 1 : Nat) : Int) := by rw [IntWalk.i64_in _ (by omega)]; omega
            have g0 := hP.row.cell hlt
            rw [part_self, HRT.out] at g0
            obtain ⟨ib, io, rfl, hil, g1⟩ := ints_cell hI hl
            have hyn := HI.out kk hl
            have HL := Lib.hid hl
            have g2 := hP.row.cell hyn
            have g3 := hP.row.free ((nextF10 q n m).getD kk 0)
            have hyn' : (((nextF10 q n m).getD kk 0 : Nat) : Int) < (n : Int) := by omega
            clear hI hP hil
            generalize hy : (nextF10 q n m).getD kk 0 = y at *
            have HY := Lib.hid hy
            clear hy
            go_wp2
            refine ⟨⟨kk + 1, by have := HL.out; omega, by go_num, HP.out.1.set H1.out.2.1 hsz, (HP.out.2.on y).congr fun j _ => by rw [← part_succ HL.out, HY.out]⟩, by simp [intOf]; have := HL.out; omega⟩
          · have hl' : ¬ (kk : Int) < ((nextF10 q n m).length : Int) := by omega
            obtain rfl : kk = (nextF10 q n m).length := by omega
            clear hI hP
            go_wp2
            exact ⟨⟨m + 1, by omega, by go_num, HP.out.2.congr fun j _ => part_all HRT.out j⟩, by simp [intOf]; omega⟩
    · obtain rfl : m = n := by omega
      go_wp2
      go_ret
      exact ⟨rfl, HR.out.row, HR.out.bel⟩
end Go.Proofs.Ytaphbcjehcnggaa
namespace Go.Proofs.Ytaphbcjehcnggaa
open Go Go.RowKit
set_option linter.unusedSimpArgs false
set_option linter.unusedVariables false

/-- Numbers in a row that may be written. -/
def NumsAt (W : World) (b n : Nat) (f : Nat → Nat) : Prop := W.rowIs b 3 n fun j => .int .i64 ((f j : Nat) : Int)
theorem NumsAt.below {W W' : World} {b n : Nat} {f : Nat → Nat} (h : NumsAt W b n f) (hb : Below W.heap.size W W') : NumsAt W' b n f := row_below10 h hb
theorem NumsAt.cell {W : World} {b n : Nat} {f : Nat → Nat} (h : NumsAt W b n f) {i : Nat} (hi : i < n) : W.cell? ⟨b, i, none⟩ = some (.int .i64 ((f i : Nat) : Int)) := World.rowIs.cell h hi
theorem NumsAt.lt {W : World} {b n : Nat} {f : Nat → Nat} (h : NumsAt W b n f) : b < W.heap.size := World.rowIs.lt h
theorem NumsAt.free {W : World} {b n : Nat} {f : Nat → Nat} (h : NumsAt W b n f) (j : Nat) : W.frozen? ⟨b, j, none⟩ = false := World.rowIs.frozen h j
theorem NumsAt.congr {W : World} {b n : Nat} {f g : Nat → Nat} (h : NumsAt W b n f) (e : ∀ i, i < n → f i = g i) : NumsAt W b n g := World.rowIs.congr h fun i hi => by rw [e i hi]
theorem NumsAt.set {W : World} {b n : Nat} {f : Nat → Nat} (h : NumsAt W b n f) (k x : Nat) : NumsAt (W.setCell ⟨b, k, none⟩ (.int .i64 ((x : Nat) : Int))) b n fun j => if j = k then x else f j :=
  World.rowIs.congr (World.rowIs.set h k _) fun i hi => by
    by_cases e : i = k
    · rw [if_pos e]; simp [e]
    · rw [if_neg e]; simp [e]
theorem NumsAt.drawn {W : World} {b n : Nat} {f : Nat → Nat} (h : NumsAt W b n f) (k : Nat) : NumsAt (W.drewN k) b n f := h
/-- The program behind which a row of numbers stands. -/
structure FarAt10 (w W : World) (A : Option Addr) (n : Nat) (q : Nat → Ins) (b : Nat) (f : Nat → Nat) : Prop where
  prog : ProgAt w A n q
  row : NumsAt W b n f
  bel : Below w.heap.size w W
  le : w.heap.size ≤ b
theorem FarAt10.q {w W : World} {A : Option Addr} {n : Nat} {q : Nat → Ins} {b : Nat} {f : Nat → Nat} (h : FarAt10 w W A n q b f) : ProgAt W A n q := h.prog.below h.bel
theorem FarAt10.up {w W W' : World} {A : Option Addr} {n : Nat} {q : Nat → Ins} {b : Nat} {f : Nat → Nat} (h : FarAt10 w W A n q b f) (hb : Below W.heap.size W W') : FarAt10 w W' A n q b f :=
  ⟨h.prog, h.row.below hb, h.bel.trans (hb.mono h.bel.size), h.le⟩
theorem FarAt10.set {w W : World} {A : Option Addr} {n : Nat} {q : Nat → Ins} {b : Nat} {f : Nat → Nat} (h : FarAt10 w W A n q b f) (k x : Nat) : FarAt10 w (W.setCell ⟨b, k, none⟩ (.int .i64 ((x : Nat) : Int))) A n q b (fun j => if j = k then x else f j) :=
  ⟨h.prog, h.row.set k x, h.bel.setCell (p := ⟨b, k, none⟩) h.le _, h.le⟩
theorem FarAt10.congr {w W : World} {A : Option Addr} {n : Nat} {q : Nat → Ins} {b : Nat} {f g : Nat → Nat} (h : FarAt10 w W A n q b f) (e : ∀ i, i < n → f i = g i) : FarAt10 w W A n q b g := ⟨h.prog, h.row.congr e, h.bel, h.le⟩
theorem far_none {q : Nat → Ins} {n : Nat} : ∀ m j, j < n - m → farN q n m j = 0
  | 0, _, _ => rfl
  | m + 1, j, h => by rw [farN, if_neg (by omega), far_none m j (by omega)]
theorem far_le {q : Nat → Ins} {n : Nat} : ∀ m j, farN q n m j ≤ m
  | 0, _ => Nat.le_refl _
  | m + 1, j => by
    rw [farN]
    have hf : ∀ (l : List Nat) (a : Nat), a ≤ m → l.foldl (fun x k => max x (farN q n m k)) a ≤ m := by
      intro l
      induction l with
      | nil => intro a h; exact h
      | cons x l ih => intro a h; exact ih _ (Nat.max_le.2 ⟨h, far_le m x⟩)
    split
    · have := hf (nextF10 q n j) 0 (by omega); omega
    · have := far_le m j (q := q) (n := n); omega
/-- While the places behind one are gone through. -/
def partL (q : Nat → Ins) (n m p kk : Nat) (j : Nat) : Nat := if j = p then ((nextF10 q n p).take kk).foldl (fun x k => max x (farN q n m k)) 0 else farN q n m j
theorem partL_zero {q : Nat → Ins} {n m p : Nat} (h : p < n - m) (j : Nat) : partL q n m p 0 j = farN q n m j := by
  unfold partL
  split
  · rename_i e; subst e; rw [far_none m j h]; rfl
  · rfl
theorem partL_self (q : Nat → Ins) (n m p kk : Nat) : partL q n m p kk p = ((nextF10 q n p).take kk).foldl (fun x k => max x (farN q n m k)) 0 := if_pos rfl
theorem partL_other {q : Nat → Ins} {n m p kk y : Nat} (h : y ≠ p) : partL q n m p kk y = farN q n m y := if_neg h
theorem partL_succ {q : Nat → Ins} {n m p kk y : Nat} (h : kk < (nextF10 q n p).length) (hy : (nextF10 q n p).getD kk 0 = y) (j : Nat) : (if j = p then max (partL q n m p kk p) (farN q n m y) else partL q n m p kk j) = partL q n m p (kk + 1) j := by
  unfold partL
  by_cases e : j = p
  · rw [if_pos e, if_pos rfl, if_pos e]
    have e : (nextF10 q n p).take (kk + 1) = (nextF10 q n p).take kk ++ [(nextF10 q n p).getD kk 0] := by
      rw [List.take_add_one, List.getD_eq_getElem?_getD, List.getElem?_eq_getElem h]; rfl
    rw [e, List.foldl_append, hy]; rfl
  · rw [if_neg e, if_neg e, if_neg e]
theorem partL_le (q : Nat → Ins) (n m p kk j : Nat) : partL q n m p kk j ≤ m := by
  unfold partL
  split
  · have hf : ∀ (l : List Nat) (a : Nat), a ≤ m → l.foldl (fun x k => max x (farN q n m k)) a ≤ m := by
      intro l
      induction l with
      | nil => intro a h; exact h
      | cons x l ih => intro a h; exact ih _ (Nat.max_le.2 ⟨h, far_le m x⟩)
    exact hf _ 0 (Nat.zero_le _)
  · exact far_le m j
theorem partL_end {q : Nat → Ins} {n m p : Nat} (hp : p + m + 1 = n) (j : Nat) : (if j = p then partL q n m p (nextF10 q n p).length p + 1 else partL q n m p (nextF10 q n p).length j) = farN q n (m + 1) j := by
  rw [farN, partL_self, List.take_length]
  by_cases e : j = p
  · subst e; rw [if_pos rfl, if_pos (by omega)]
  · rw [if_neg e, if_neg (by omega), partL_other e]
theorem next_len_le {q : Nat → Ins} {n p : Nat} : (nextF10 q n p).length ≤ 2 := next_len p
set_option maxHeartbeats 2000000 in
set_option maxRecDepth 100000 in
theorem r_Longest {w : World} {A : Option Addr} {n : Nat} (cap : Nat) {q : Nat → Ins} (h : ProgAt w A n q) (hok : ∀ i, i < n → (q i).OK) (h0 : 0 < n) (hn : n ≤ 4096) :
    Calls Try.prog 21 #[.slice A n cap] w fun e w' => e = .returned (.int .i64 ((farF q n : Nat) : Int)) ∧ Below w.heap.size w w' := by
  obtain ⟨O, hmk, hO⟩ := make_zero 23 3 (.int .i64 0) 8 Try.underlying23 info_int10 rfl n (by omega) (by omega)
  have HS : Hid (FarAt10 w (w.alloc O) A n q w.heap.size (farN q n 0)) := Lib.hid ⟨h, hO w, lbox10 w O, Nat.le_refl _⟩
  have HNX := Lib.hid (fun (V : World) (m : Nat) (hV : ProgAt V A n q) => (next_z q n m) ▸ r_Next (w := V) cap hV hok (by omega) (m : Int))
  have hlt0 : (0 : Int) < (n : Int) := by omega
  have hw0 : IntKind.i64.wrap ((n : Int) - 1) = (n : Int) - 1 := IntWalk.i64_in _ (by omega)
  clear h hok hO
  go_enter Try.func21, Try.ntmps21
  go_wp2
  go_loopw [4] (fun i wr => ∃ m : Nat, m ≤ n ∧ i = .int .i64 ((n : Int) - 1 - (m : Int)) ∧ FarAt10 w wr A n q w.heap.size (farN q n m)) (fun i _ => (intOf i + 1).toNat)
  case atStart => exact ⟨0, by omega, by simp, HS.out⟩
  case round =>
    obtain ⟨m, hm, rfl, hR⟩ := hrel
    have HR := Lib.hid hR
    clear HS
    by_cases hlt : m < n
    · obtain ⟨p, hp⟩ : ∃ p, p + m + 1 = n := ⟨n - m - 1, by omega⟩
      have hpi : (n : Int) - 1 - (m : Int) = (p : Int) := by omega
      rw [hpi]
      have hge : (0 : Int) ≤ (p : Int) := by omega
      have hpn : (p : Int) < (n : Int) := by omega
      have HPP := Lib.hid hp
      have hlen := next_len (q := q) (n := n) p
      have hpn' : p < n := by omega
      clear hp hpi hR
      go_wp2_with (go_at_call 12; (with_reducible refine (HNX.out _ p HR.out.q).mono ?_); rintro e w1 ⟨A1, c1, rfl, hi, hf1, hb1⟩; have H1 := Lib.hid (And.intro hi (And.intro (show FreshA wr.heap.size A1 from hf1) (HR.out.up hb1))); clear hi hf1 hb1)
      have hsz := HR.out.row.lt
      have HI := Lib.hid (fun kk (hkk : kk < (nextF10 q n p).length) => And.intro (next_at hkk) (next_in (q := q) (n := n) (p := p) (j := (nextF10 q n p).getD kk 0) (by rw [List.getD_eq_getElem?_getD, List.getElem?_eq_getElem hkk]; exact List.getElem_mem hkk)).1)
      go_loopw [6] (fun k V => ∃ kk : Nat, kk ≤ (nextF10 q n p).length ∧ k = .int .i64 (kk : Int) ∧ IntsAt V A1 (nextF10 q n p) ∧ FarAt10 w V A n q w.heap.size (partL q n m p kk)) (fun k _ => (nextF10 q n p).length - (intOf k).toNat)
      case atStart => exact ⟨0, by omega, rfl, H1.out.1, H1.out.2.2.congr fun j _ => (partL_zero (by have := HPP.out; omega) j).symm⟩
      case round =>
        obtain ⟨kk, hkk, rfl, hI, hP⟩ := hrel
        have HP := Lib.hid (And.intro hI hP)
        by_cases hl : kk < (nextF10 q n p).length
        · have hl' : (kk : Int) < ((nextF10 q n p).length : Int) := by omega
          have hw2 : IntKind.i64.wrap ((kk : Int) + 1) = ((kk + 1 : Nat) : Int) := by rw [IntWalk.i64_in _ (by omega)]; omega
          obtain ⟨ib, io, rfl, hil, g1⟩ := ints_cell hI hl
          obtain ⟨hyn, hyp⟩ := HI.out kk hl
          have HL := Lib.hid hl
          have hyn' : (((nextF10 q n p).getD kk 0 : Nat) : Int) < (n : Int) := by omega
          generalize hy : (nextF10 q n p).getD kk 0 = y at *
          have HY := Lib.hid hy
          clear hy
          have g0 := hP.row.cell hpn'
          have g2 := hP.row.cell hyn
          rw [partL_other (by omega)] at g2
          have g3 := hP.row.free p
          have HV := Lib.hid (And.intro (partL_le q n m p kk p) (far_le m y (q := q) (n := n)))
          generalize hu : partL q n m p kk p = u at g0 HV
          generalize hz : farN q n m y = z at g2 HV
          have HU := Lib.hid (And.intro hu hz)
          clear hu hz hI hP hil
          have t0 : ({ wr with drawn := wr.drawn + 1 } : World).cell? ⟨w.heap.size, p, none⟩ = some (.int .i64 ((u : Nat) : Int)) := g0
          have t1 : ({ wr with drawn := wr.drawn + 1 } : World).cell? ⟨ib, io + kk, none⟩ = some (.int .i64 ((y : Nat) : Int)) := g1
          have t2 : ({ wr with drawn := wr.drawn + 1 } : World).cell? ⟨w.heap.size, y, none⟩ = some (.int .i64 ((z : Nat) : Int)) := g2
          have H2 : Hid (IntsAt wr.drew (some ⟨ib, io, none⟩) (nextF10 q n p) ∧ FarAt10 w wr.drew A n q w.heap.size (partL q n m p kk)) := Lib.hid ⟨HP.out.1.below (Below.refl _ _).drew, HP.out.2.up (Below.refl _ _).drew⟩
          go_wp2
          go_still_tail 14, (by kernel_rfl)
          change wpList _ _ _ _ _ wr.drew
          have g4 : wr.drew.cell? ⟨w.heap.size, p, none⟩ = some (.int .i64 ((u : Nat) : Int)) := g0
          have g5 : wr.drew.frozen? ⟨w.heap.size, p, none⟩ = false := g3
          clear g0 g1 g2 g3 t0 t1 t2 HP
          generalize wr.drew = Y at H2 g4 g5 ⊢
          have hmx : (if u < z then (z : Int) else (u : Int)) = ((max u z : Nat) : Int) := by
            split <;> omega
          rw [hmx]
          generalize hmm : max u z = mx at hmx ⊢
          have HMX := Lib.hid hmm
          clear hmm hmx
          go_wp2
          refine ⟨⟨kk + 1, by have := HL.out; omega, by go_num, H2.out.1.set H1.out.2.1 hsz, (H2.out.2.set p mx).congr fun j _ => by rw [← partL_succ HL.out HY.out, ← HMX.out, HU.out.1, HU.out.2]⟩, by simp [intOf]; have := HL.out; omega⟩
        · have hl' : ¬ (kk : Int) < ((nextF10 q n p).length : Int) := by omega
          obtain rfl : kk = (nextF10 q n p).length := by omega
          have g0 := hP.row.cell hpn'
          have g3 := hP.row.free p
          have hle := partL_le q n m p (nextF10 q n p).length p
          have HE := Lib.hid (fun j => partL_end (q := q) HPP.out j)
          generalize hu : partL q n m p (nextF10 q n p).length p = u at g0 hle
          have HU := Lib.hid hu
          have hw3 : IntKind.i64.wrap ((u : Int) + 1) = ((u + 1 : Nat) : Int) := by rw [IntWalk.i64_in _ (by omega)]; omega
          have hw4 : IntKind.i64.wrap ((p : Int) - 1) = (p : Int) - 1 := IntWalk.i64_in _ (by omega)
          clear hI hP hu
          go_wp2
          refine ⟨⟨m + 1, by omega, ?_, (HP.out.2.set p (u + 1)).congr fun j _ => by rw [← HE.out j, HU.out]⟩, ?_⟩
          · have := HPP.out
            rw [show (n : Int) - 1 - ((m + 1 : Nat) : Int) = (p : Int) - 1 by omega]
          · simp [intOf]
    · obtain rfl : m = n := by omega
      have hneg : (m : Int) - 1 - (m : Int) = -1 := by omega
      rw [hneg]
      have hx := hR.row.cell h0
      go_wp2
      go_ret
      exact ⟨rfl, HR.out.bel⟩
/-- Is a program accepted? -/
theorem r_Accepted {w : World} {A : Option Addr} {n : Nat} (cap : Nat) {q : Nat → Ins} (h : ProgAt w A n q) (hok : ∀ i, i < n → (q i).OK) :
    Calls Try.prog 18 #[.slice A n cap] w fun e w' => e = .returned (.bool (decide (checkE q n = 0))) ∧ Below w.heap.size w w' := by
  have HC := Lib.hid (ref_Check w A n cap q h hok)
  have hI : Calls Try.prog 34 #[.slice A n cap] w fun e w' => e = .returned (.bool (decide (checkE q n = 0))) ∧ Below w.heap.size w w' := by
    clear h hok
    unfold CheckP at HC
    by_cases h0 : checkE q n = 0
    · rw [h0] at HC
      have e : decide (checkE q n = 0) = true := decide_eq_true h0
      rw [e]
      clear h0 e
      go_enter Try.func34, Try.ntmps34
      go_wp2_with (go_at_call 47; (with_reducible refine HC.out.mono ?_); rintro e w1 ⟨rfl, hb1⟩; have H1 := Lib.hid hb1; clear hb1)
      go_ret
      exact ⟨rfl, H1.out⟩
    · have hb : (checkE q n == 0) = false := beq_false_of_ne h0
      have e : decide (checkE q n = 0) = false := decide_eq_false h0
      rw [e]
      generalize checkE q n = z at HC hb
      clear h0 e
      go_enter Try.func34, Try.ntmps34
      go_wp2_with (go_at_call 47; (with_reducible refine HC.out.mono ?_); rintro e w1 ⟨rfl, hb1⟩; have H1 := Lib.hid hb1; clear hb1)
      go_ret
      exact ⟨rfl, H1.out⟩
  have HI := Lib.hid hI
  clear hI HC h hok
  generalize decide (checkE q n = 0) = b at HI ⊢
  go_enter Try.func18, Try.ntmps18
  go_wp2_with (go_at_call 34; (with_reducible refine HI.out.mono ?_); rintro e w1 ⟨rfl, hb1⟩; have H1 := Lib.hid hb1; clear hb1)
  go_ret
  exact ⟨rfl, H1.out⟩
end Go.Proofs.Ytaphbcjehcnggaa
namespace Go.Proofs.Ytaphbcjehcnggaa
open Go
set_option linter.unusedSimpArgs false
set_option linter.unusedVariables false

section
variable {q : Nat → Ins} {n : Nat}
/-- How many lead to an instruction: at least as many as are known. -/
theorem into_two : ∀ m {i k j : Nat}, i < k → k < m → reachF q n i = true → reachF q n k = true → j ∈ nextF10 q n i → j ∈ nextF10 q n k → 2 ≤ intoN q n m j
  | 0, i, k, j, h1, h2, _, _, _, _ => by omega
  | m + 1, i, k, j, h1, h2, r1, r2, n1, n2 => by
    rw [intoN]
    by_cases g : k = m
    · subst g
      rw [if_pos ⟨r2, n2⟩]
      have one : ∀ m, i < m → 1 ≤ intoN q n m j := by
        intro m
        induction m with
        | zero => intro h; omega
        | succ m ih =>
          intro h
          rw [intoN]
          by_cases e : i = m
          · subst e; rw [if_pos ⟨r1, n1⟩]; omega
          · have := ih (by omega); omega
      have := one k h1
      omega
    · have := into_two m h1 (by omega) r1 r2 n1 n2
      omega
theorem into_one {j : Nat} (h : intoN q n n j = 1) {i k : Nat} (r1 : reachF q n i = true) (r2 : reachF q n k = true) (n1 : j ∈ nextF10 q n i) (n2 : j ∈ nextF10 q n k) : i = k := by
  have hi := next_in n1
  have hk := next_in n2
  rcases Nat.lt_trichotomy i k with g | g | g
  · have := into_two n g hk.2.2 r1 r2 n1 n2; omega
  · exact g
  · have := into_two n g hi.2.2 r2 r1 n2 n1; omega
abbrev fromB (q : Nat → Ins) (n b : Nat) : Nat := ((blkF q n).getD b (0, 0)).1
abbrev toB (q : Nat → Ins) (n b : Nat) : Nat := ((blkF q n).getD b (0, 0)).2
theorem blk_rise {b c : Nat} (hb : c < (blkF q n).length) (h : b < c) : toB q n b ≤ fromB q n c := by
  have B := blk_all (q := q) (n := n)
  induction c with
  | zero => omega
  | succ c ih =>
    rcases Nat.lt_or_ge b c with g | g
    · have h1 := ih (by omega) g
      have h2 := (B.each c (by omega)).1
      have h3 := B.rise c hb
      exact Nat.le_trans h1 (Nat.le_trans (Nat.le_of_lt h2) h3)
    · obtain rfl : b = c := by omega
      exact B.rise b hb
/-- From an instruction on: within its block, or from its block's end to another one's beginning. -/
theorem way_on {p p' : Nat} (hr : reachF q n p = true) (hp : p' ∈ nextF10 q n p) :
    (p' = p + 1 ∧ p' < toB q n (numF q n p) ∧ numF q n p' = numF q n p) ∨
    (p + 1 = toB q n (numF q n p) ∧ p' = fromB q n (numF q n p') ∧ numF q n p' ∈ leadF q n (numF q n p) ∧ numF q n p < numF q n p' ∧ numF q n p' < (blkF q n).length) := by
  have B := blk_all (q := q) (n := n)
  have hin := next_in hp
  have hr' := reach_next hr hp
  obtain ⟨c1, c2, c3⟩ := B.come p hin.2.2 hr
  obtain ⟨d1, d2, d3⟩ := B.come p' hin.2.1 hr'
  by_cases h : p + 1 < toB q n (numF q n p)
  · have hg := goes_pos (B.goes _ (p + 1) c1 (by omega) h)
    rw [Nat.add_sub_cancel] at hg
    rw [hg.2.2.1] at hp
    have e := List.mem_singleton.1 hp
    subst e
    exact .inl ⟨rfl, h, (B.back _ _ c1 (by omega) h).2⟩
  · have he : p + 1 = toB q n (numF q n p) := by
      have : p < toB q n (numF q n p) := c3
      omega
    have hf : p' = fromB q n (numF q n p') := by
      rcases Nat.lt_or_ge (fromB q n (numF q n p')) p' with g | g
      · exfalso
        have hg := goes_pos (B.goes _ p' d1 g d3)
        have hpp : p' - 1 = p := into_one hg.2.2.2.2.2 hg.2.1 hr (by rw [hg.2.2.1]; simp) hp
        have hb := B.back _ (p' - 1) d1 (by show fromB q n (numF q n p') ≤ p' - 1; omega) (by omega)
        rw [hpp] at hb
        have e2 : numF q n p = numF q n p' := hb.2
        have : p' < toB q n (numF q n p') := d3
        rw [← e2, ← he] at this
        omega
      · have : fromB q n (numF q n p') ≤ p' := d2
        omega
    refine .inr ⟨he, hf, ?_, ?_, d1⟩
    · unfold leadF
      refine List.mem_map.2 ⟨p', ?_, rfl⟩
      have : ((blkF q n).getD (numF q n p) (0, 0)).2 - 1 = p := by
        show toB q n (numF q n p) - 1 = p
        omega
      rw [this]; exact hp
    · rcases Nat.lt_trichotomy (numF q n p) (numF q n p') with g | g | g
      · exact g
      · exfalso
        have h1 : fromB q n (numF q n p) ≤ p := c2
        rw [g, ← hf] at h1
        omega
      · exfalso
        have h1 := blk_rise (q := q) (n := n) c1 g
        have h2 : fromB q n (numF q n p) ≤ p := c2
        have h3 : p' < toB q n (numF q n p') := d3
        omega
/-! ### What lies above -/
theorem lead_in {b c : Nat} (hb : b < (blkF q n).length) (h : c ∈ leadF q n b) : b < c ∧ c < (blkF q n).length := by
  have B := blk_all (q := q) (n := n)
  unfold leadF at h
  obtain ⟨p', hp, rfl⟩ := List.mem_map.1 h
  have he := B.each b hb
  have hbk := B.back b (toB q n b - 1) hb (by show fromB q n b ≤ toB q n b - 1; have : fromB q n b < toB q n b := he.1; omega) (by have : fromB q n b < toB q n b := he.1; show toB q n b - 1 < toB q n b; omega)
  have hw := way_on hbk.1 hp
  rw [hbk.2] at hw
  rcases hw with ⟨h1, h2, _⟩ | ⟨_, _, _, h4, h5⟩
  · have : fromB q n b < toB q n b := he.1
    omega
  · exact ⟨h4, h5⟩
theorem can_up {c m j : Nat} (h : canN q n c m j = true) : ∀ d, canN q n c (m + d) j = true
  | 0 => h
  | d + 1 => by rw [← Nat.add_assoc, canN, can_up h d, Bool.true_or]
theorem can_fix {c m j : Nat} (hj : j ≤ m) : ∀ d, m + d ≤ (blkF q n).length → canN q n c (m + d) j = canN q n c m j
  | 0, _ => rfl
  | d + 1, hd => by
    rw [← Nat.add_assoc, canN, can_fix hj d (by omega)]
    have : (leadF q n (m + d)).contains j = false := by
      rw [Bool.eq_false_iff]
      intro h
      have := lead_in (by omega) (List.contains_iff_mem.1 h)
      omega
    rw [this, Bool.and_false, Bool.or_false]
theorem can_zero {c : Nat} (h : c ≠ 0) : canF q n c 0 = true := by
  have := can_up (q := q) (n := n) (c := c) (m := 0) (j := 0) (by simp [canN, h]) (blkF q n).length
  unfold canF
  rwa [Nat.zero_add] at this
theorem can_on {c x y : Nat} (hx : x < (blkF q n).length) (h : canF q n c x = true) (hc : x ≠ c) (hy : y ∈ leadF q n x) : canF q n c y = true := by
  have e : canN q n c x x = true := by
    have := can_fix (q := q) (n := n) (c := c) (Nat.le_refl x) ((blkF q n).length - x) (by omega)
    rw [show x + ((blkF q n).length - x) = (blkF q n).length by omega] at this
    rw [← this]; exact h
  have h2 : canN q n c (x + 1) y = true := by rw [canN, e, decide_eq_true hc, List.contains_iff_mem.2 hy]; simp
  have := can_up h2 ((blkF q n).length - (x + 1))
  unfold canF
  rwa [show x + 1 + ((blkF q n).length - (x + 1)) = (blkF q n).length by omega] at this
/-- What has been come to, on a way of blocks: all above it as well. -/
def Dom (q : Nat → Ins) (n : Nat) (been : Nat → Prop) : Prop := ∀ x, been x → x < (blkF q n).length ∧ ∀ c, c ≠ x → canF q n c x = false → been c ∧ c < x
theorem dom_zero (h : 0 < (blkF q n).length) : Dom q n (fun x => x = 0) := by
  rintro x rfl
  refine ⟨h, fun c hc hf => ?_⟩
  rw [can_zero hc] at hf; cases hf
theorem dom_on {been : Nat → Prop} (h : Dom q n been) {x y : Nat} (hx : been x) (hy : y ∈ leadF q n x) : Dom q n (fun z => been z ∨ z = y) := by
  have hl := h x hx
  have hxy := lead_in hl.1 hy
  rintro z (hz | rfl)
  · exact ⟨(h z hz).1, fun c hc hf => ⟨.inl ((h z hz).2 c hc hf).1, ((h z hz).2 c hc hf).2⟩⟩
  · refine ⟨hxy.2, fun c hc hf => ?_⟩
    by_cases e : c = x
    · subst e; exact ⟨.inl hx, hxy.1⟩
    · have : canF q n c x = false := by
        rw [Bool.eq_false_iff]
        intro g
        rw [can_on hl.1 g (fun e' => e e'.symm) hy] at hf; cases hf
      have := hl.2 c e this
      exact ⟨.inl this.1, by omega⟩
theorem above_is {b : Nat} : ∀ (m : Nat) {a : Int}, aboveN q n b m = a → a = -1 ∨ ∃ c : Nat, a = c ∧ c < m ∧ c ≠ b ∧ canF q n c b = false
  | 0, a, h => .inl h.symm
  | m + 1, a, h => by
    rw [aboveN] at h
    by_cases g : b ≠ m ∧ canF q n m b = false
    · rw [if_pos g] at h
      exact .inr ⟨m, h.symm, by omega, fun e => g.1 e.symm, g.2⟩
    · rw [if_neg g] at h
      rcases above_is m h with h | ⟨c, h1, h2, h3, h4⟩
      · exact .inl h
      · exact .inr ⟨c, h1, by omega, h3, h4⟩
theorem above_been {been : Nat → Prop} (h : Dom q n been) {b : Nat} (hb : been b) : aboveF q n b = -1 ∨ ∃ c : Nat, aboveF q n b = c ∧ c < b ∧ been c ∧ c < (blkF q n).length := by
  rcases above_is _ (rfl : aboveN q n b (blkF q n).length = aboveF q n b) with e | ⟨c, h1, h2, h3, h4⟩
  · exact .inl e
  · have := (h b hb).2 c h3 h4
    exact .inr ⟨c, h1, this.2, this.1, h2⟩
/-! ### The longest way -/
theorem fold_max (f : Nat → Nat) : ∀ (l : List Nat) (a : Nat), a ≤ l.foldl (fun x k => max x (f k)) a ∧ ∀ k ∈ l, f k ≤ l.foldl (fun x k => max x (f k)) a
  | [], a => ⟨Nat.le_refl _, fun _ h => (by cases h)⟩
  | x :: l, a => by
    have ih := fold_max f l (max a (f x))
    rw [List.foldl_cons]
    refine ⟨Nat.le_trans (Nat.le_max_left _ _) ih.1, fun k hk => ?_⟩
    rcases List.mem_cons.1 hk with rfl | hk
    · exact Nat.le_trans (Nat.le_max_right _ _) ih.1
    · exact ih.2 k hk
theorem far_fix {m j : Nat} (hj : n - m ≤ j) : ∀ d, m + d ≤ n → farN q n (m + d) j = farN q n m j
  | 0, _ => rfl
  | d + 1, hd => by
    rw [← Nat.add_assoc, farN, if_neg (by omega), far_fix hj d (by omega)]
theorem far_on {p p' : Nat} (h : p' ∈ nextF10 q n p) : farN q n n p' + 1 ≤ farN q n n p := by
  have hin := next_in h
  obtain ⟨m, hm⟩ : ∃ m, n = p + m + 1 := ⟨n - p - 1, by omega⟩
  have e1 := far_fix (q := q) (n := n) (m := m + 1) (j := p) (by omega) p (by omega)
  rw [show m + 1 + p = n by omega] at e1
  have e2 := far_fix (q := q) (n := n) (m := m) (j := p') (by omega) (p + 1) (by omega)
  rw [show m + (p + 1) = n by omega] at e2
  rw [e1, e2, farN, if_pos (by omega)]
  have := (fold_max (fun k => farN q n m k) (nextF10 q n p) 0).2 p' h
  omega
theorem far_pos {p : Nat} (h : p < n) : 1 ≤ farN q n n p := by
  have e1 := far_fix (q := q) (n := n) (m := n - p) (j := p) (by omega) p (by omega)
  rw [show n - p + p = n by omega] at e1
  rw [e1, show n - p = (n - p - 1) + 1 by omega, farN, if_pos (by omega)]
  omega
/-! ### A machine's places -/
theorem step_leads (h : Accepted q n) (word : Nat → BitVec 32) (s : Mach) (hd : s.done = false) (hp : s.place < n) :
    (s.step q n 64 word).done = true ∨ ((s.step q n 64 word).done = false ∧ (s.step q n 64 word).place ∈ nextF10 q n s.place) := by
  have ho := one_ok.1 (h.all _ hp)
  have hw := ho.wrong
  have e : s.step q n 64 word = s.does word (q s.place) := by
    unfold Mach.step
    rw [if_neg (by rw [hd]; decide), if_neg (by decide), if_neg (by omega), if_neg (fun g => g hw)]
  have hacc := accepted_step h word s hd hp
  rw [e] at hacc ⊢
  have nx : ¬ isRet (q s.place).code → s.place + 1 < n := fun hr => by
    rcases Nat.lt_or_ge (s.place + 1) n with g | g
    · exact g
    · have : s.place = n - 1 := by omega
      exact absurd (this ▸ h.last) hr
  have put : ∀ j, j < n → j ∈ candF n (q s.place) s.place → j ∈ nextF10 q n s.place := fun j h1 h2 => by
    unfold nextF10
    rw [if_pos hp]
    exact List.mem_filter.2 ⟨h2, by simpa using h1⟩
  generalize hx : q s.place = x at *
  obtain ⟨c, jt, jf, k⟩ := x
  have hs3 := seals_three (k := k) ho.wrong
  simp only at hs3 nx
  have plain : ¬ (c = 6 ∨ c = 22) → c ≠ 5 → jumpC c = false → s.place + 1 < n → s.place + 1 ∈ nextF10 q n s.place := fun h1 h2 h3 h4 => put _ h4 (by
    unfold candF
    rw [if_neg h1, if_neg h2, if_neg (by rw [h3]; decide)]; simp)
  unfold Mach.does at hacc ⊢
  simp only at hacc ⊢
  generalize (if usesX c = true then s.x else k) = bv at *
  rcases hs3 with ha | ⟨ha, hj⟩ | ⟨ha, hj, hr⟩
  · have hc := alu_cases ha
    have hnr : ¬ isRet c := by rintro (rfl | rfl) <;> cases ha
    rw [ha]
    simp only [if_true]
    split
    · exact .inl rfl
    · refine .inr ⟨hd, ?_⟩
      show s.place + 1 ∈ _
      have hjf : jumpC c = false := by rcases hc with rfl | rfl | rfl | rfl | rfl | rfl | rfl | rfl | rfl | rfl | rfl | rfl | rfl | rfl | rfl | rfl | rfl | rfl <;> rfl
      exact plain hnr (by rintro rfl; cases ha) hjf (nx hnr)
  · rw [ha, hj]
    simp only [Bool.false_eq_true, if_false, if_true]
    have hjj : jt < n - s.place - 1 ∧ jf < n - s.place - 1 := ho.jump hj
    have hc := jump_cases hj
    refine .inr ⟨hd, put _ ?_ ?_⟩
    · show s.place + (1 + _) < n
      split <;> omega
    · have hcand : candF n ⟨c, jt, jf, k⟩ s.place = if jt = jf then [s.place + 1 + jt] else [s.place + 1 + jt, s.place + 1 + jf] := by
        unfold candF
        rw [if_neg (by show ¬ (c = 6 ∨ c = 22); omega), if_neg (by show ¬ c = 5; omega), if_pos hj]
      rw [hcand]
      show s.place + (1 + (if saysN (opN c) s.a bv = true then jt else jf)) ∈ _
      by_cases he : jt = jf
      · rw [if_pos he, ← he]
        have : (if saysN (opN c) s.a bv = true then jt else jt) = jt := by split <;> rfl
        rw [this]
        simp; omega
      · rw [if_neg he]
        split
        · simp; omega
        · simp; omega
  · rw [ha, hj]
    simp only [Bool.false_eq_true, if_false]
    by_cases h5 : c = 5
    · rw [if_pos h5]
      have := ho.ja h5
      simp only at this
      refine .inr ⟨hd, put _ ?_ ?_⟩
      · show s.place + (1 + k.toNat) < n
        omega
      · show s.place + (1 + k.toNat) ∈ _
        unfold candF
        rw [if_neg (by show ¬ (c = 6 ∨ c = 22); omega), if_pos h5, if_pos (by show k.toNat < n; omega)]
        simp; omega
    · rw [if_neg h5]
      by_cases h6 : c = 6
      · rw [if_pos h6]; exact .inl rfl
      · rw [if_neg h6]
        by_cases h22 : c = 22
        · rw [if_pos h22]; exact .inl rfl
        · rw [if_neg h22]
          have hm := moves_keeps word s ⟨c, jt, jf, k⟩
          refine .inr ⟨?_, ?_⟩
          · show (s.moves word ⟨c, jt, jf, k⟩).done = false
            simp only [Mach.moves, apply_ite Mach.done, ite_self]; exact hd
          · show (s.moves word ⟨c, jt, jf, k⟩).place + 1 ∈ _
            rw [hm.1]
            exact plain (by rintro (g | g); exact h6 g; exact h22 g) h5 hj (nx (by rintro (g | g); exact h6 g; exact h22 g))
end
end Go.Proofs.Ytaphbcjehcnggaa
namespace Go.Proofs.Ytaphbcjehcnggaa
open Go Go.RowKit
set_option linter.unusedSimpArgs false
set_option linter.unusedVariables false

theorem info_blk10 : (Try.prog.info? 46).map (fun i => (i.zero, i.size, i.bytes)) = some (some (.agg #[.int .i64 0, .int .i64 0, .slice none 0 0]), 3, 40) := by kernel_rfl
/-- A row of one's own, a cell of which is turned. -/
theorem own_put10 {w : World} {B : Nat} {e : TypeId} {sz n c g : Nat} {xs : List Value} (h : w.ownsRow B e sz (.slice (some ⟨g, 0, none⟩) n c) n xs) (k : Nat) (u : Value) : (w.setCell ⟨g, k, none⟩ u).ownsRow B e sz (.slice (some ⟨g, 0, none⟩) n c) n (xs.set k u) := by
  obtain ⟨h1, h⟩ := h
  refine ⟨by rw [List.length_set]; exact h1, ?_⟩
  rcases h with ⟨e1, e2⟩ | ⟨g', c', cur, e1, hB, hg, hc, hm, hs, ht⟩
  · injection e1 with e1; cases e1
  · injection e1 with e1 _ e3
    injection e1 with e1
    injection e1 with e1
    subst e1 e3
    refine .inr ⟨g, c, cur.setIfInBounds k u, rfl, hB, ?_, hc, hm, by rw [Array.size_setIfInBounds]; exact hs, ?_⟩
    · unfold World.setCell
      simp only [Array.getElem?_modify, if_true, hg]
      rfl
    · rw [Array.toList_setIfInBounds, List.take_set, ht]
theorem own_cell10 {w : World} {B : Nat} {e : TypeId} {sz n c g : Nat} {xs : List Value} (h : w.ownsRow B e sz (.slice (some ⟨g, 0, none⟩) n c) n xs) {k : Nat} {u : Value} (hu : xs[k]? = some u) : w.cell? ⟨g, k, none⟩ = some u ∧ w.frozen? ⟨g, k, none⟩ = false := by
  rcases h.2 with ⟨e1, e2⟩ | ⟨g', c', cur, e1, hB, hg, hc, hm, hs, ht⟩
  · injection e1 with e1; cases e1
  · injection e1 with e1 _ e3
    injection e1 with e1
    injection e1 with e1
    subst e1 e3
    rw [← ht, List.getElem?_take] at hu
    split at hu
    · exact ⟨by unfold World.cell?; rw [hg]; simpa using hu, by unfold World.frozen?; rw [hg]; simp⟩
    · cases hu
abbrev blkC (x : Nat × Nat) : List Value := [.int .i64 (x.1 : Int), .int .i64 (x.2 : Int), .slice none 0 0]
def blkL (l : List (Nat × Nat)) : List Value := l.flatMap blkC
theorem blkL_snoc (l : List (Nat × Nat)) (x : Nat × Nat) : blkL (l ++ [x]) = blkL l ++ blkC x := by unfold blkL; rw [List.flatMap_append]; simp
theorem blkL_len (l : List (Nat × Nat)) : (blkL l).length = l.length * 3 := by
  unfold blkL
  induction l with
  | nil => rfl
  | cons a t ih => rw [List.flatMap_cons, List.length_append, ih, List.length_cons]; show 3 + t.length * 3 = (t.length + 1) * 3; omega
theorem blkL_get : ∀ (l : List (Nat × Nat)) (b : Nat), b < l.length → (blkL l)[b * 3]? = some (.int .i64 ((l.getD b (0, 0)).1 : Int)) ∧ (blkL l)[b * 3 + 1]? = some (.int .i64 ((l.getD b (0, 0)).2 : Int)) ∧ (blkL l)[b * 3 + 2]? = some (.slice none 0 0)
  | [], b, h => absurd h (by simp)
  | x :: l, 0, _ => ⟨rfl, rfl, rfl⟩
  | x :: l, b + 1, h => by
    have ih := blkL_get l b (by simpa using h)
    have e : (b + 1) * 3 = b * 3 + 3 := by omega
    rw [e]
    exact ih
theorem blkL_end (e : Nat) : ∀ (l : List (Nat × Nat)), l ≠ [] → blkL (endF l e) = (blkL l).set ((l.length - 1) * 3 + 1) (.int .i64 (e : Int))
  | [], h => absurd rfl h
  | [x], _ => rfl
  | x :: y :: l, _ => by
    have ih := blkL_end e (y :: l) (by simp)
    show blkC x ++ blkL (endF (y :: l) e) = (blkC x ++ blkL (y :: l)).set _ _
    rw [ih, List.set_append_right _ _ (by simp; omega)]
    congr 2
    simp
    omega
theorem blk_new10 (V : World) (a b : Nat) : ∀ j u, (blkC (a, b))[j]? = some u → (V.alloc (.cells #[.int .i64 (a : Int), .int .i64 (b : Int), .slice none 0 0] 46)).cell? ((⟨V.heap.size, 0, none⟩ : Addr).add j) = some u := fun j u hj => by
  have h := World.alloc_heap_new V (.cells #[.int .i64 (a : Int), .int .i64 (b : Int), .slice none 0 0] 46)
  rw [addr_add, Nat.zero_add]
  unfold World.cell?
  rw [h]
  simpa using hj
theorem blk_one10 (a b : Nat) : ∀ u ∈ blkC (a, b), u.oneCell' = true := fun u hu => by
  simp only [List.mem_cons, List.not_mem_nil, or_false] at hu
  rcases hu with rfl | rfl | rfl <;> rfl
/-- While it is counted how many lead to each. -/
structure IntoAt (w W : World) (A : Option Addr) (n : Nat) (q : Nat → Ins) (rb ib : Nat) (f : Nat → Nat) : Prop where
  prog : ProgAt w A n q
  reach : BoolsAt W rb n (reachF q n)
  row : NumsAt W ib n f
  bel : Below w.heap.size w W
  le : w.heap.size ≤ rb
  lt : rb < ib
theorem IntoAt.q {w W : World} {A : Option Addr} {n : Nat} {q : Nat → Ins} {rb ib : Nat} {f : Nat → Nat} (h : IntoAt w W A n q rb ib f) : ProgAt W A n q := h.prog.below h.bel
theorem IntoAt.up {w W W' : World} {A : Option Addr} {n : Nat} {q : Nat → Ins} {rb ib : Nat} {f : Nat → Nat} (h : IntoAt w W A n q rb ib f) (hb : Below W.heap.size W W') : IntoAt w W' A n q rb ib f :=
  ⟨h.prog, h.reach.below hb, h.row.below hb, h.bel.trans (hb.mono h.bel.size), h.le, h.lt⟩
theorem BoolsAt.other {W : World} {b n g j : Nat} {f : Nat → Bool} {u : Value} (h : BoolsAt W b n f) (hne : b ≠ g) : BoolsAt (W.setCell ⟨g, j, none⟩ u) b n f := by
  obtain ⟨c, h1, h2, h3⟩ := h
  refine ⟨c, ?_, h2, h3⟩
  unfold World.setCell
  simp only
  rw [Array.getElem?_modify, if_neg (by simpa using fun e => hne e.symm)]
  exact h1
theorem NumsAt.other {W : World} {b n g j : Nat} {f : Nat → Nat} {u : Value} (h : NumsAt W b n f) (hne : b ≠ g) : NumsAt (W.setCell ⟨g, j, none⟩ u) b n f := by
  obtain ⟨c, h1, h2, h3⟩ := h
  refine ⟨c, ?_, h2, h3⟩
  unfold World.setCell
  simp only
  rw [Array.getElem?_modify, if_neg (by simpa using fun e => hne e.symm)]
  exact h1
theorem IntoAt.set {w W : World} {A : Option Addr} {n : Nat} {q : Nat → Ins} {rb ib : Nat} {f : Nat → Nat} (h : IntoAt w W A n q rb ib f) (k x : Nat) : IntoAt w (W.setCell ⟨ib, k, none⟩ (.int .i64 ((x : Nat) : Int))) A n q rb ib (fun j => if j = k then x else f j) :=
  ⟨h.prog, h.reach.other (by have := h.lt; omega), h.row.set k x, h.bel.setCell (p := ⟨ib, k, none⟩) (by have := h.lt; have := h.le; show w.heap.size ≤ ib; omega) _, h.le, h.lt⟩
theorem IntoAt.congr {w W : World} {A : Option Addr} {n : Nat} {q : Nat → Ins} {rb ib : Nat} {f g : Nat → Nat} (h : IntoAt w W A n q rb ib f) (e : ∀ i, i < n → f i = g i) : IntoAt w W A n q rb ib g := ⟨h.prog, h.reach, h.row.congr e, h.bel, h.le, h.lt⟩
/-- Some of the places that an instruction leads to have been counted. -/
def partI (q : Nat → Ins) (n m kk : Nat) (j : Nat) : Nat := intoN q n m j + (if j ∈ (nextF10 q n m).take kk then 1 else 0)
theorem partI_zero (q : Nat → Ins) (n m j : Nat) : partI q n m 0 j = intoN q n m j := by unfold partI; simp
theorem partI_succ {q : Nat → Ins} {n m kk y : Nat} (h : kk < (nextF10 q n m).length) (hy : (nextF10 q n m).getD kk 0 = y) (j : Nat) : (if j = y then partI q n m kk y + 1 else partI q n m kk j) = partI q n m (kk + 1) j := by
  unfold partI
  have e : (nextF10 q n m).take (kk + 1) = (nextF10 q n m).take kk ++ [y] := by
    rw [← hy, List.take_add_one, List.getD_eq_getElem?_getD, List.getElem?_eq_getElem h]; rfl
  have hno : y ∉ (nextF10 q n m).take kk := by
    intro hm
    have hn := next_nodup (q := q) (n := n) m
    have hp : (nextF10 q n m).take (kk + 1) <+: nextF10 q n m := List.take_prefix _ _
    have := hn.sublist hp.sublist
    rw [e] at this
    exact (List.nodup_append.1 this).2.2 y hm y (by simp) rfl
  rw [e]
  by_cases g : j = y
  · subst g
    rw [if_pos rfl, if_neg hno, if_pos (by simp)]
  · rw [if_neg g]
    congr 1
    simp only [List.mem_append, List.mem_singleton, g, or_false]
theorem partI_end {q : Nat → Ins} {n m : Nat} (h : reachF q n m = true) (j : Nat) : partI q n m (nextF10 q n m).length j = intoN q n (m + 1) j := by
  unfold partI
  rw [List.take_length, intoN]
  congr 1
  simp only [h, true_and]
theorem into_stay {q : Nat → Ins} {n m : Nat} (h : reachF q n m = false) (j : Nat) : intoN q n m j = intoN q n (m + 1) j := by
  rw [intoN, if_neg (by rw [h]; simp), Nat.add_zero]
theorem into_le {q : Nat → Ins} {n : Nat} : ∀ m j, intoN q n m j ≤ m
  | 0, _ => Nat.le_refl _
  | m + 1, j => by
    rw [intoN]
    have := into_le m j (q := q) (n := n)
    split <;> omega
theorem partI_le (q : Nat → Ins) (n m kk j : Nat) : partI q n m kk j ≤ m + 1 := by
  unfold partI
  have := into_le m j (q := q) (n := n)
  split <;> omega
/-- While blocks are made. -/
structure BldAt (w W : World) (A : Option Addr) (n : Nat) (q : Nat → Ins) (rb ib nb B m : Nat) (v : Value) : Prop where
  prog : ProgAt w A n q
  reach : BoolsAt W rb n (reachF q n)
  into : NumsAt W ib n (intoN q n n)
  num : ∃ f, NumsAt W nb n f ∧ ∀ j, j < m → reachF q n j = true → f j = numF q n j
  own : W.ownsRow B 46 3 v (blkN q n m).length (blkL (blkN q n m))
  bel : Below w.heap.size w W
  le : w.heap.size ≤ rb ∧ rb < ib ∧ ib < nb ∧ nb < B ∧ B ≤ W.heap.size
theorem BldAt.q {w W : World} {A : Option Addr} {n : Nat} {q : Nat → Ins} {rb ib nb B m : Nat} {v : Value} (h : BldAt w W A n q rb ib nb B m v) : ProgAt W A n q := h.prog.below h.bel
theorem BldAt.up {w W W' : World} {A : Option Addr} {n : Nat} {q : Nat → Ins} {rb ib nb B m : Nat} {v : Value} (h : BldAt w W A n q rb ib nb B m v) (hb : Below W.heap.size W W') : BldAt w W' A n q rb ib nb B m v :=
  ⟨h.prog, h.reach.below hb, h.into.below hb, by obtain ⟨f, f1, f2⟩ := h.num; exact ⟨f, f1.below hb, f2⟩, own_below h.own hb, h.bel.trans (hb.mono h.bel.size), h.le.1, h.le.2.1, h.le.2.2.1, h.le.2.2.2.1, Nat.le_trans h.le.2.2.2.2 hb.size⟩
/-- An instruction that can't be come to. -/
theorem BldAt.skip {w W : World} {A : Option Addr} {n : Nat} {q : Nat → Ins} {rb ib nb B m : Nat} {v : Value} (h : BldAt w W A n q rb ib nb B m v) (hr : reachF q n m = false) : BldAt w W A n q rb ib nb B (m + 1) v := by
  have e : blkN q n (m + 1) = blkN q n m := by rw [blkN, if_pos hr]
  obtain ⟨f, f1, f2⟩ := h.num
  refine ⟨h.prog, h.reach, h.into, ⟨f, f1, fun j hj hrj => f2 j ?_ hrj⟩, by rw [e]; exact h.own, h.bel, h.le⟩
  rcases Nat.lt_or_ge j m with g | g
  · exact g
  · obtain rfl : j = m := by omega
    rw [hr] at hrj; cases hrj
/-- A number is put. -/
theorem bld_num {w W : World} {A : Option Addr} {n : Nat} {q : Nat → Ins} {rb ib nb B m : Nat} {v : Value} (hprog : ProgAt w A n q) (hreach : BoolsAt W rb n (reachF q n)) (hinto : NumsAt W ib n (intoN q n n)) (hnum : ∃ f, NumsAt W nb n f ∧ ∀ j, j < m → reachF q n j = true → f j = numF q n j)
    (hown : W.ownsRow B 46 3 v (blkN q n (m + 1)).length (blkL (blkN q n (m + 1)))) (hbel : Below w.heap.size w W) (hle : w.heap.size ≤ rb ∧ rb < ib ∧ ib < nb ∧ nb < B ∧ B ≤ W.heap.size) {x : Nat} (hx : x = (blkN q n (m + 1)).length - 1) :
    BldAt w (W.setCell ⟨nb, m, none⟩ (.int .i64 ((x : Nat) : Int))) A n q rb ib nb B (m + 1) v := by
  obtain ⟨f, f1, f2⟩ := hnum
  obtain ⟨l1, l2, l3, l4, l5⟩ := hle
  refine ⟨hprog, hreach.other (by omega), hinto.other (by omega), ⟨_, f1.set m x, fun j hj hrj => ?_⟩, ?_, hbel.setCell (p := ⟨nb, m, none⟩) (by show w.heap.size ≤ nb; omega) _, l1, l2, l3, l4, by simpa [World.setCell] using l5⟩
  · by_cases e : j = m
    · rw [if_pos e, e]; exact hx
    · rw [if_neg e]; exact f2 j (by omega) hrj
  · exact ownsRow_setCell_below hown l4 _
/-- It continues the one ahead. -/
theorem bld_goes {w W : World} {A : Option Addr} {n : Nat} {q : Nat → Ins} {rb ib nb B m g c : Nat} (h : BldAt w W A n q rb ib nb B m (.slice (some ⟨g, 0, none⟩) (blkN q n m).length c)) (hr : reachF q n m = true) (hg : goesF q n m = true) (hl : 0 < (blkN q n m).length) {x : Nat} (hx : x = (blkN q n m).length - 1) :
    BldAt w ((W.setCell ⟨g, x * 3 + 1, none⟩ (.int .i64 ((m + 1 : Nat) : Int))).setCell ⟨nb, m, none⟩ (.int .i64 ((x : Nat) : Int))) A n q rb ib nb B (m + 1) (.slice (some ⟨g, 0, none⟩) (blkN q n m).length c) := by
  have e : blkN q n (m + 1) = endF (blkN q n m) (m + 1) := by rw [blkN, if_neg (by rw [hr]; decide), if_pos hg]
  have hne : blkN q n m ≠ [] := fun q => by rw [q] at hl; exact absurd hl (by simp)
  have hB : B ≤ g := by
    rcases h.own.2 with ⟨e1, _⟩ | ⟨g', c', cur, e1, hB, _⟩
    · injection e1 with e1; cases e1
    · injection e1 with e1; injection e1 with e1; injection e1 with e1; omega
  obtain ⟨l1, l2, l3, l4, l5⟩ := h.le
  obtain ⟨f, f1, f2⟩ := h.num
  have ho := own_put10 h.own (x * 3 + 1) (.int .i64 ((m + 1 : Nat) : Int))
  refine bld_num h.prog (h.reach.other (by omega)) (h.into.other (by omega)) ⟨f, f1.other (by omega), f2⟩ ?_ (h.bel.setCell (p := ⟨g, x * 3 + 1, none⟩) (by show w.heap.size ≤ g; omega) _) ⟨l1, l2, l3, l4, by simpa [World.setCell] using l5⟩ (by rw [e, end_len]; exact hx)
  rw [e, end_len, blkL_end _ _ hne, ← hx]
  exact ho
/-- A block of its own. -/
theorem bld_new {w W W1 : World} {A : Option Addr} {n : Nat} {q : Nat → Ins} {rb ib nb B m : Nat} {v v' : Value} {o : Obj} (h : BldAt w W A n q rb ib nb B m v) (hr : reachF q n m = true) (hg : goesF q n m = false)
    (ho : W1.ownsRow B 46 3 v' ((blkN q n m).length + 1) (blkL (blkN q n m) ++ blkC (m, m + 1))) (hgr : (W.alloc o).grownBy W1 v.ownBlock) {x : Nat} (hx : x = (blkN q n m).length) :
    BldAt w (W1.setCell ⟨nb, m, none⟩ (.int .i64 ((x : Nat) : Int))) A n q rb ib nb B (m + 1) v' := by
  have e : blkN q n (m + 1) = blkN q n m ++ [(m, m + 1)] := by rw [blkN, if_neg (by rw [hr]; decide), if_neg (by rw [hg]; decide)]
  obtain ⟨l1, l2, l3, l4, l5⟩ := h.le
  have hal := lbox10 W o
  have hb : Below B W W1 := below_own (hal.mono l5) (own_below h.own hal) hgr l5
  have hk : ∀ k, k < B → W1.heap[k]? = W.heap[k]? := fun k hk => hb.block k hk
  have keepB : ∀ {b : Nat} {f : Nat → Bool}, b < B → BoolsAt W b n f → BoolsAt W1 b n f := fun {b f} hlt h => by
    obtain ⟨c, h1, h2, h3⟩ := h
    exact ⟨c, (hk b hlt).trans h1, h2, h3⟩
  have keepN : ∀ {b : Nat} {f : Nat → Nat}, b < B → NumsAt W b n f → NumsAt W1 b n f := fun {b f} hlt h => by
    obtain ⟨c, h1, h2, h3⟩ := h
    exact ⟨c, (hk b hlt).trans h1, h2, h3⟩
  obtain ⟨f, f1, f2⟩ := h.num
  refine bld_num h.prog (keepB (by omega) h.reach) (keepN (by omega) h.into) ⟨f, keepN l4 f1, f2⟩ ?_ (h.bel.trans (hb.mono (by omega))) ⟨l1, l2, l3, l4, Nat.le_trans l5 hb.size⟩ (by rw [e]; simp [hx])
  rw [e, blkL_snoc, List.length_append]; exact ho
/-! ### Blocks that may be read -/
/-- Blocks, and where each leads. -/
def BlksAt (W : World) (A : Option Addr) (l : List (Nat × Nat)) (lead : Nat → List Nat) : Prop := ∃ g o, A = some ⟨g, o, none⟩ ∧ g < W.heap.size ∧ ∀ b, b < l.length → W.cell? ⟨g, o + b * 3, none⟩ = some (.int .i64 ((l.getD b (0, 0)).1 : Int)) ∧ W.cell? ⟨g, o + b * 3 + 1, none⟩ = some (.int .i64 ((l.getD b (0, 0)).2 : Int)) ∧
  ∃ An cn, W.cell? ⟨g, o + b * 3 + 2, none⟩ = some (.slice An (lead b).length cn) ∧ IntsAt W An (lead b)
theorem BlksAt.below {W W' : World} {A : Option Addr} {l : List (Nat × Nat)} {lead : Nat → List Nat} (h : BlksAt W A l lead) (hb : Below W.heap.size W W') : BlksAt W' A l lead := by
  obtain ⟨g, o, rfl, hg, h⟩ := h
  refine ⟨g, o, rfl, Nat.lt_of_lt_of_le hg hb.size, fun b hb' => ?_⟩
  obtain ⟨h1, h2, An, cn, h3, h4⟩ := h b hb'
  exact ⟨(hb.cell (p := ⟨g, o + b * 3, none⟩) hg).trans h1, (hb.cell (p := ⟨g, o + b * 3 + 1, none⟩) hg).trans h2, An, cn, (hb.cell (p := ⟨g, o + b * 3 + 2, none⟩) hg).trans h3, h4.below hb⟩
/-! ### While it is put where they lead -/
/-- The blocks' third cells, each a row of its own. -/
structure LedAt (w W : World) (A : Option Addr) (n : Nat) (q : Nat → Ins) (nb g c B : Nat) (nx : Nat → Value) (part : Nat → List Nat) : Prop where
  prog : ProgAt w A n q
  num : ∃ f, NumsAt W nb n f ∧ ∀ j, j < n → reachF q n j = true → f j = numF q n j
  row : ∃ F, W.rowIs g 46 (c * 3) F ∧ ∀ b, b < (blkF q n).length → F (b * 3) = .int .i64 (((blkF q n).getD b (0, 0)).1 : Int) ∧ F (b * 3 + 1) = .int .i64 (((blkF q n).getD b (0, 0)).2 : Int) ∧ F (b * 3 + 2) = nx b
  own : ∀ b, b < (blkF q n).length → W.ownsRow B 3 1 (nx b) (part b).length (intL (part b))
  apart : ∀ b b', b < (blkF q n).length → b' < (blkF q n).length → b ≠ b' → (nx b).ownBlock = (nx b').ownBlock → (nx b).ownBlock = none
  bel : Below w.heap.size w W
  le : w.heap.size ≤ nb ∧ nb < g ∧ g < B ∧ B ≤ W.heap.size ∧ (blkF q n).length ≤ c
theorem LedAt.q {w W : World} {A : Option Addr} {n : Nat} {q : Nat → Ins} {nb g c B : Nat} {nx : Nat → Value} {part : Nat → List Nat} (h : LedAt w W A n q nb g c B nx part) : ProgAt W A n q := h.prog.below h.bel
theorem LedAt.up {w W W' : World} {A : Option Addr} {n : Nat} {q : Nat → Ins} {nb g c B : Nat} {nx : Nat → Value} {part : Nat → List Nat} (h : LedAt w W A n q nb g c B nx part) (hb : Below W.heap.size W W') : LedAt w W' A n q nb g c B nx part := by
  obtain ⟨f, f1, f2⟩ := h.num
  obtain ⟨F, F1, F2⟩ := h.row
  exact ⟨h.prog, ⟨f, f1.below hb, f2⟩, ⟨F, row_below10 F1 hb, F2⟩, fun b hb' => own_below (h.own b hb') hb, h.apart, h.bel.trans (hb.mono h.bel.size), h.le.1, h.le.2.1, h.le.2.2.1, Nat.le_trans h.le.2.2.2.1 hb.size, h.le.2.2.2.2⟩
theorem LedAt.congr {w W : World} {A : Option Addr} {n : Nat} {q : Nat → Ins} {nb g c B : Nat} {nx : Nat → Value} {part part' : Nat → List Nat} (h : LedAt w W A n q nb g c B nx part) (e : ∀ b, b < (blkF q n).length → part b = part' b) : LedAt w W A n q nb g c B nx part' :=
  ⟨h.prog, h.num, h.row, fun b hb => by rw [← e b hb]; exact h.own b hb, h.apart, h.bel, h.le⟩
/-- A block's third cell, and its second. -/
theorem LedAt.cells {w W : World} {A : Option Addr} {n : Nat} {q : Nat → Ins} {nb g c B : Nat} {nx : Nat → Value} {part : Nat → List Nat} (h : LedAt w W A n q nb g c B nx part) {b : Nat} (hb : b < (blkF q n).length) :
    W.cell? ⟨g, b * 3 + 1, none⟩ = some (.int .i64 (((blkF q n).getD b (0, 0)).2 : Int)) ∧ W.cell? ⟨g, b * 3 + 2, none⟩ = some (nx b) ∧ W.frozen? ⟨g, b * 3 + 2, none⟩ = false := by
  obtain ⟨F, F1, F2⟩ := h.row
  obtain ⟨f0, f1, f2⟩ := F2 b hb
  have := h.le
  exact ⟨by rw [World.rowIs.cell F1 (i := b * 3 + 1) (by omega), f1], by rw [World.rowIs.cell F1 (i := b * 3 + 2) (by omega), f2], World.rowIs.frozen F1 _⟩
/-- One more place. -/
theorem led_more {w W V W1 : World} {A : Option Addr} {n : Nat} {q : Nat → Ins} {nb g c B : Nat} {nx : Nat → Value} {part : Nat → List Nat} (h : LedAt w W A n q nb g c B nx part) {b : Nat} (hb : b < (blkF q n).length) {x : Nat} {v' : Value} (hV : Below W.heap.size W V)
    (ho : W1.ownsRow B 3 1 v' ((part b).length + 1) (intL (part b) ++ [.int .i64 (x : Int)])) (hgr : V.grownBy W1 (nx b).ownBlock) (hw : v'.ownBlock = (nx b).ownBlock ∨ v'.ownBlock = some V.heap.size) :
    LedAt w (W1.setCell ⟨g, b * 3 + 2, none⟩ v') A n q nb g c B (fun k => if k = b then v' else nx k) (fun k => if k = b then part b ++ [x] else part k) := by
  obtain ⟨l1, l2, l3, l4, l5⟩ := h.le
  have h' := h.up hV
  have hbel : Below B V W1 := by
    refine ⟨hgr.os, hgr.tape, hgr.output, hgr.size, fun k hk => hgr.block k (Nat.lt_of_lt_of_le hk (Nat.le_trans l4 hV.size)) (fun e => ?_)⟩
    have := ((h'.own b hb).lt k e.symm).1
    omega
  have keepN : ∀ {b : Nat} {f : Nat → Nat}, b < B → NumsAt V b n f → NumsAt W1 b n f := fun {b f} hlt h => by
    obtain ⟨c, h1, h2, h3⟩ := h
    exact ⟨c, (hbel.block b hlt).trans h1, h2, h3⟩
  obtain ⟨f, f1, f2⟩ := h'.num
  obtain ⟨F, F1, F2⟩ := h'.row
  have F1' : W1.rowIs g 46 (c * 3) F := by
    obtain ⟨cc, h1, h2, h3⟩ := F1
    exact ⟨cc, (hbel.block g l3).trans h1, h2, h3⟩
  have hvo : ∀ k, v'.ownBlock = some k → B ≤ k ∧ k < W1.heap.size := fun k hk => ho.lt k hk
  have hnew : ∀ k, k < (blkF q n).length → k ≠ b → v'.ownBlock = (nx k).ownBlock → v'.ownBlock = none := fun k hk hkb e => by
    rcases hw with e1 | e1
    · rw [e1]; exact h.apart b k hb hk (fun q => hkb q.symm) (by rw [← e1]; exact e)
    · exfalso
      have := (h'.own k hk).lt V.heap.size (by rw [← e, e1])
      omega
  refine ⟨h.prog, ⟨f, (keepN (by omega) f1).other (by omega), f2⟩, ⟨_, World.rowIs.set F1' (b * 3 + 2) v', fun k hk => ?_⟩, fun k hk => ?_, fun k k' hk hk' hne e => ?_, ?_, l1, l2, l3, ?_, l5⟩
  · obtain ⟨f0, f1, f2⟩ := F2 k hk
    refine ⟨by rw [if_neg (by omega)]; exact f0, by rw [if_neg (by omega)]; exact f1, ?_⟩
    by_cases q : k = b
    · subst q; rw [if_pos rfl]; simp
    · rw [if_neg (by omega)]; simp only [q, if_false]; exact f2
  · by_cases q : k = b
    · subst q
      simp only [if_true]
      refine ownsRow_setCell_below ?_ l3 _
      rw [List.length_append, intL_snoc]; exact ho
    · simp only [q, if_false]
      refine ownsRow_setCell_below ((h'.own k hk).kept hgr ?_) l3 _
      by_cases e : (nx k).ownBlock = none
      · exact .inl e
      · exact .inr fun q' => e (h.apart k b hk hb q q')
  · by_cases q : k = b
    · subst q
      have q' : k' ≠ k := fun e => hne e.symm
      simp only [if_true, q', if_false] at e ⊢
      exact hnew k' hk' q' e
    · by_cases q' : k' = b
      · subst q'
        simp only [if_true, q, if_false] at e ⊢
        rw [e]; exact hnew k hk q e.symm
      · simp only [q, q', if_false] at e ⊢
        exact h.apart k k' hk hk' hne e
  · exact ((h.bel.trans (hV.mono h.bel.size)).trans (hbel.mono (by omega))).setCell (p := ⟨g, b * 3 + 2, none⟩) (by show w.heap.size ≤ g; omega) _
  · have := hgr.size
    have := hV.size
    simp [World.setCell]; omega
/-- All have been put. -/
theorem led_end {w W : World} {A : Option Addr} {n : Nat} {q : Nat → Ins} {nb g c B : Nat} {nx : Nat → Value} {part : Nat → List Nat} (h : LedAt w W A n q nb g c B nx part) (hp : ∀ b, b < (blkF q n).length → part b = leadF q n b) : BlksAt W (some ⟨g, 0, none⟩) (blkF q n) (leadF q n) := by
  obtain ⟨F, F1, F2⟩ := h.row
  have hle := h.le
  refine ⟨g, 0, rfl, World.rowIs.lt F1, fun b hb => ?_⟩
  obtain ⟨f0, f1, f2⟩ := F2 b hb
  obtain ⟨An, cn, e⟩ := own_form10 (h.own b hb)
  have ho := h.own b hb
  rw [e] at ho f2
  rw [Nat.zero_add]
  refine ⟨by rw [World.rowIs.cell F1 (i := b * 3) (by omega), f0], by rw [World.rowIs.cell F1 (i := b * 3 + 1) (by omega), f1], An, cn, by rw [World.rowIs.cell F1 (i := b * 3 + 2) (by omega), f2, hp b hb], ?_⟩
  rw [← hp b hb]; exact own_ints ho
/-- The start. -/
theorem led_start {w W : World} {A : Option Addr} {n : Nat} {q : Nat → Ins} {rb ib nb B g c : Nat} (h : BldAt w W A n q rb ib nb B n (.slice (some ⟨g, 0, none⟩) (blkF q n).length c)) : LedAt w W A n q nb g c W.heap.size (fun _ => .slice none 0 0) (fun _ => []) := by
  obtain ⟨l1, l2, l3, l4, l5⟩ := h.le
  obtain ⟨h1, ho⟩ := h.own
  rcases ho with ⟨e1, _⟩ | ⟨g', c', cur, e1, hB, hg, hc, hm, hs, ht⟩
  · injection e1 with e1; cases e1
  · injection e1 with e1 _ e3
    injection e1 with e1
    injection e1 with e1
    subst e1 e3
    have hF : W.rowIs g 46 (c * 3) (fun k => cur.getD k undef) := ⟨cur, hg, hs, fun i hi => by
      show cur[i]? = some (cur.getD i undef)
      rw [Array.getD_eq_getD_getElem?, Array.getElem?_eq_getElem (by omega)]; rfl⟩
    have hcell : ∀ k u, k < (blkF q n).length * 3 → (blkL (blkF q n))[k]? = some u → cur.getD k undef = u := fun k u hk hu => by
      have e : blkL (blkN q n n) = blkL (blkF q n) := rfl
      rw [← e, ← ht, List.getElem?_take] at hu
      split at hu
      · rw [Array.getD_eq_getD_getElem?, ← Array.getElem?_toList, hu]; rfl
      · cases hu
    refine ⟨h.prog, h.num, ⟨_, hF, fun b hb => ?_⟩, fun b hb => World.ownsRow_nil _ _ _ _, fun b b' _ _ _ _ => rfl, h.bel, by omega, by omega, (Array.getElem?_eq_some_iff.1 hg).1, Nat.le_refl _, hc⟩
    obtain ⟨b0, b1, b2⟩ := blkL_get (blkF q n) b hb
    exact ⟨hcell _ _ (by omega) b0, hcell _ _ (by omega) b1, hcell _ _ (by omega) b2⟩
end Go.Proofs.Ytaphbcjehcnggaa
namespace Go.Proofs.Ytaphbcjehcnggaa
open Go Go.RowKit
set_option linter.unusedSimpArgs false
set_option linter.unusedVariables false

theorem blk_len {q : Nat → Ins} {n : Nat} : ∀ m, (blkN q n m).length ≤ m
  | 0 => Nat.le_refl _
  | m + 1 => by
    have ih := blk_len m (q := q) (n := n)
    rw [blkN]
    split
    · omega
    · split
      · rw [end_len]; omega
      · rw [List.length_append]; simp; omega
theorem goes_is (q : Nat → Ins) (n m : Nat) : goesF q n (m + 1) = (reachF q n m && decide (nextF10 q n m = [m + 1]) && !jumpC (q m).code && decide ((q m).code ≠ 5) && decide (intoN q n n (m + 1) = 1)) := by
  unfold goesF
  rw [Nat.add_sub_cancel, decide_eq_true (show 0 < m + 1 by omega), Bool.true_and]
theorem goes_zero (q : Nat → Ins) (n : Nat) : goesF q n 0 = false := by
  unfold goesF
  rfl
theorem one_is {l : List Nat} {x : Nat} (h1 : l.length = 1) (h2 : l.getD 0 0 = x) : l = [x] := by
  match l, h1 with
  | [y], _ => rw [show y = x from h2]
theorem cell_grown10 {V W1 : World} {r : Option Nat} (hg : V.grownBy W1 r) {b j : Nat} (hb : b < V.heap.size) (hne : r ≠ some b) : W1.cell? ⟨b, j, none⟩ = V.cell? ⟨b, j, none⟩ := World.cell?_of_block (a := ⟨b, j, none⟩) (hg.block b hb (fun e => hne e.symm))
theorem frozen_grown10 {V W1 : World} {r : Option Nat} (hg : V.grownBy W1 r) {b j : Nat} (hb : b < V.heap.size) (hne : r ≠ some b) : W1.frozen? ⟨b, j, none⟩ = V.frozen? ⟨b, j, none⟩ := by
  unfold World.frozen?
  rw [hg.block b hb (fun e => hne e.symm)]
/-- Where a number is put behind a new block. -/
theorem bld_at {w W W1 : World} {A : Option Addr} {n : Nat} {q : Nat → Ins} {rb ib nb B m : Nat} {v : Value} {o : Obj} (h : BldAt w W A n q rb ib nb B m v) (hm : m < n) (hgr : (W.alloc o).grownBy W1 v.ownBlock) : (∃ x, W1.cell? ⟨nb, m, none⟩ = some x) ∧ W1.frozen? ⟨nb, m, none⟩ = false := by
  obtain ⟨f, f1, f2⟩ := h.num
  have hl := h.le
  have hal := lbox10 W o
  have hne : v.ownBlock ≠ some nb := fun e => by have := h.own.lt nb e; omega
  have hlt : nb < (W.alloc o).heap.size := Nat.lt_of_lt_of_le f1.lt hal.size
  rw [cell_grown10 hgr hlt hne, frozen_grown10 hgr hlt hne]
  have g := f1.below hal
  exact ⟨⟨_, g.cell hm⟩, g.free m⟩
theorem bld_num_at {w W : World} {A : Option Addr} {n : Nat} {q : Nat → Ins} {rb ib nb B m : Nat} {v : Value} (h : BldAt w W A n q rb ib nb B m v) (hm : m < n) : (∃ x, W.cell? ⟨nb, m, none⟩ = some x) ∧ W.frozen? ⟨nb, m, none⟩ = false := by
  obtain ⟨f, f1, f2⟩ := h.num
  exact ⟨⟨_, f1.cell hm⟩, f1.free m⟩
theorem bld_apart {w W : World} {A : Option Addr} {n : Nat} {q : Nat → Ins} {rb ib nb B m g l c : Nat} (h : BldAt w W A n q rb ib nb B m (.slice (some ⟨g, 0, none⟩) l c)) : g ≠ nb := fun e => by
  have h1 := h.own.lt g rfl
  have h2 := h.le
  omega
theorem own_some10 {w : World} {B : Nat} {e : TypeId} {sz n : Nat} {v : Value} {xs : List Value} (h : w.ownsRow B e sz v n xs) (hn : 0 < n) : ∃ g c, v = .slice (some ⟨g, 0, none⟩) n c := by
  rcases h.2 with ⟨rfl, rfl⟩ | ⟨g, c, cur, rfl, _⟩
  · omega
  · exact ⟨g, c, rfl⟩
theorem prog_cell10 {W : World} {A : Option Addr} {n : Nat} {q : Nat → Ins} (h : ProgAt W A n q) {i : Nat} (hi : i < n) : ∃ qb qo, A = some ⟨qb, qo, none⟩ ∧ W.cell? ⟨qb, qo + i * 4, none⟩ = some (.int .u16 (q i).code) := by
  obtain ⟨qb, qo, rfl, _, hc⟩ := h (by omega)
  exact ⟨qb, qo, rfl, (hc i hi).1⟩
/-- Where blocks lead, as far as it is put. -/
def partB (q : Nat → Ins) (n b : Nat) (l : List Nat) (k : Nat) : List Nat := if k < b then leadF q n k else if k = b then l else []
/-- What is at hand in the last loop. -/
structure LedIn (w W : World) (A : Option Addr) (n : Nat) (q : Nat → Ins) (nb g c B b : Nat) (l : List Nat) (S : Nat) (nx : Nat → Value) : Prop where
  led : LedAt w W A n q nb g c B nx (partB q n b l)
  nil : ∀ k, b < k → k < (blkF q n).length → nx k = .slice none 0 0
  here : ∀ r, (nx b).ownBlock = some r → S ≤ r
theorem LedIn.up {w W W' : World} {A : Option Addr} {n : Nat} {q : Nat → Ins} {nb g c B b : Nat} {l : List Nat} {S : Nat} {nx : Nat → Value} (h : LedIn w W A n q nb g c B b l S nx) (hb : Below W.heap.size W W') : LedIn w W' A n q nb g c B b l S nx := ⟨h.led.up hb, h.nil, h.here⟩
/-- .. between two blocks. -/
structure LedOut (w W : World) (A : Option Addr) (n : Nat) (q : Nat → Ins) (nb g c B b : Nat) (nx : Nat → Value) : Prop where
  led : LedAt w W A n q nb g c B nx (partB q n b [])
  nil : ∀ k, b ≤ k → k < (blkF q n).length → nx k = .slice none 0 0
theorem LedOut.up {w W W' : World} {A : Option Addr} {n : Nat} {q : Nat → Ins} {nb g c B b : Nat} {nx : Nat → Value} (h : LedOut w W A n q nb g c B b nx) (hb : Below W.heap.size W W') : LedOut w W' A n q nb g c B b nx := ⟨h.led.up hb, h.nil⟩
theorem LedOut.in_ {w W : World} {A : Option Addr} {n : Nat} {q : Nat → Ins} {nb g c B b : Nat} {nx : Nat → Value} (h : LedOut w W A n q nb g c B b nx) (hb : b < (blkF q n).length) (S : Nat) : LedIn w W A n q nb g c B b [] S nx :=
  ⟨h.led, fun k h1 h2 => h.nil k (by omega) h2, fun r hr => by rw [h.nil b (Nat.le_refl _) hb] at hr; cases hr⟩
theorem LedIn.out {w W : World} {A : Option Addr} {n : Nat} {q : Nat → Ins} {nb g c B b : Nat} {l : List Nat} {S : Nat} {nx : Nat → Value} (h : LedIn w W A n q nb g c B b l S nx) (hl : l = leadF q n b) : LedOut w W A n q nb g c B (b + 1) nx :=
  ⟨h.led.congr fun k hk => by
    unfold partB
    by_cases h1 : k < b
    · rw [if_pos h1, if_pos (by omega)]
    · rw [if_neg h1]
      by_cases h2 : k = b
      · rw [if_pos h2, if_pos (by omega), h2, hl]
      · rw [if_neg h2, if_neg (by omega)]
        by_cases h3 : k = b + 1
        · rw [if_pos h3]
        · rw [if_neg h3], fun k h1 h2 => h.nil k (by omega) h2⟩
theorem led_one {w W V W1 : World} {A : Option Addr} {n : Nat} {q : Nat → Ins} {nb g c B b : Nat} {l : List Nat} {S : Nat} {nx : Nat → Value} {vb : Value} (h : LedIn w W A n q nb g c B b l S nx) (hvb : nx b = vb) (hb : b < (blkF q n).length) {x : Nat} {v' : Value} (hV : Below W.heap.size W V) (hS : S ≤ V.heap.size)
    (ho : W1.ownsRow B 3 1 v' (l.length + 1) (intL l ++ [.int .i64 (x : Int)])) (hgr : V.grownBy W1 vb.ownBlock) (hw : v'.ownBlock = vb.ownBlock ∨ v'.ownBlock = some V.heap.size) : ∃ nx', LedIn w (W1.setCell ⟨g, b * 3 + 2, none⟩ v') A n q nb g c B b (l ++ [x]) S nx' := by
  have hp : partB q n b l b = l := by unfold partB; rw [if_neg (by omega), if_pos rfl]
  subst hvb
  refine ⟨_, (led_more h.led hb hV (by rw [hp]; exact ho) hgr hw).congr (fun k hk => ?_), fun k h1 h2 => ?_, fun r hr => ?_⟩
  · rw [hp]
    unfold partB
    by_cases e : k = b
    · subst e; rw [if_pos rfl, if_neg (by omega), if_pos rfl]
    · rw [if_neg e]
      by_cases e2 : k < b
      · rw [if_pos e2, if_pos e2]
      · rw [if_neg e2, if_neg e2, if_neg e, if_neg e]
  · have e : k ≠ b := by omega
    simp only [e, if_false]
    exact h.nil k h1 h2
  · simp only [if_true] at hr
    rcases hw with e | e
    · exact h.here r (by rw [← e]; exact hr)
    · rw [e] at hr; injection hr with hr; omega
theorem led_own {w W : World} {A : Option Addr} {n : Nat} {q : Nat → Ins} {nb g c B b : Nat} {l : List Nat} {S : Nat} {nx : Nat → Value} (h : LedIn w W A n q nb g c B b l S nx) (hb : b < (blkF q n).length) : W.ownsRow B 3 1 (nx b) l.length (intL l) := by
  have := h.led.own b hb
  have hp : partB q n b l b = l := by unfold partB; rw [if_neg (by omega), if_pos rfl]
  rwa [hp] at this
theorem led_nums {w W : World} {A : Option Addr} {n : Nat} {q : Nat → Ins} {nb g c B : Nat} {nx : Nat → Value} {part : Nat → List Nat} (h : LedAt w W A n q nb g c B nx part) {y : Nat} (hy : y < n) (hr : reachF q n y = true) : W.cell? ⟨nb, y, none⟩ = some (.int .i64 ((numF q n y : Nat) : Int)) := by
  obtain ⟨f, f1, f2⟩ := h.num
  rw [f1.cell hy, f2 y hy hr]
theorem lead_snoc {q : Nat → Ins} {n kk y : Nat} {ls : List Nat} (hk : kk < ls.length) (hy : ls.getD kk 0 = y) : (ls.take (kk + 1)).map (numF q n) = (ls.take kk).map (numF q n) ++ [numF q n y] := by
  have e : ls.take (kk + 1) = ls.take kk ++ [y] := by
    rw [← hy, List.take_add_one, List.getD_eq_getElem?_getD, List.getElem?_eq_getElem hk]; rfl
  rw [e, List.map_append]; rfl
/-- A block's last instruction. -/
theorem blk_last {q : Nat → Ins} {n b : Nat} (hb : b < (blkF q n).length) : 1 ≤ ((blkF q n).getD b (0, 0)).2 ∧ ((blkF q n).getD b (0, 0)).2 ≤ n ∧ reachF q n (((blkF q n).getD b (0, 0)).2 - 1) = true := by
  have B := blk_all (q := q) (n := n)
  have h := B.each b hb
  exact ⟨by omega, h.2, (B.back b _ hb (by omega) (by omega)).1⟩
/-- The blocks are some. -/
theorem blk_some {q : Nat → Ins} {n : Nat} (h0 : 0 < n) : 0 < (blkF q n).length := by
  have B := blk_all (q := q) (n := n)
  have := (B.come 0 h0 reach_zero).1
  omega
/-- While a place is put behind the others of a block. -/
structure AppAt (w W : World) (A : Option Addr) (n : Nat) (q : Nat → Ins) (nb g c B b : Nat) (l : List Nat) (S lb lo kk y z : Nat) (ls : List Nat) (c1 : Nat) (vb : Value) : Prop where
  led : ∃ nx, nx b = vb ∧ LedIn w W A n q nb g c B b l S nx
  ints : IntsAt W (some ⟨lb, lo, none⟩) ls
  big : S ≤ W.heap.size
  at_ : B ≤ lb ∧ lb < S
  cy : W.cell? ⟨lb, lo + kk, none⟩ = some (.int .i64 ((y : Nat) : Int))
  cz : W.cell? ⟨nb, y, none⟩ = some (.int .i64 ((z : Nat) : Int))
  next : W.cell? ⟨g, b * 3 + 2, none⟩ = some vb
  free : W.frozen? ⟨g, b * 3 + 2, none⟩ = false
  own : W.ownsRow B 3 1 vb l.length (intL l)
  lt : b < (blkF q n).length
  sz : w.heap.size ≤ nb ∧ nb < g ∧ g < B ∧ B ≤ W.heap.size
theorem AppAt.up {w W V : World} {A : Option Addr} {n : Nat} {q : Nat → Ins} {nb g c B b : Nat} {l : List Nat} {S lb lo kk y z : Nat} {ls : List Nat} {c1 : Nat} {vb : Value} (h : AppAt w W A n q nb g c B b l S lb lo kk y z ls c1 vb) (hb : Below W.heap.size W V) : AppAt w V A n q nb g c B b l S lb lo kk y z ls c1 vb := by
  obtain ⟨nx, e, hl⟩ := h.led
  have h1 := h.at_; have h2 := h.sz; have h3 := h.big
  have hf : V.frozen? ⟨g, b * 3 + 2, none⟩ = W.frozen? ⟨g, b * 3 + 2, none⟩ := by
    unfold World.frozen?
    rw [hb.block g (by show g < W.heap.size; omega)]
  exact ⟨⟨nx, e, hl.up hb⟩, h.ints.below hb, Nat.le_trans h3 hb.size, h1, (hb.cell (p := ⟨lb, lo + kk, none⟩) (by show lb < W.heap.size; omega)).trans h.cy, (hb.cell (p := ⟨nb, y, none⟩) (by show nb < W.heap.size; omega)).trans h.cz, (hb.cell (p := ⟨g, b * 3 + 2, none⟩) (by show g < W.heap.size; omega)).trans h.next, hf.trans h.free, own_below h.own hb, h.lt, h2.1, h2.2.1, h2.2.2.1, Nat.le_trans h2.2.2.2 hb.size⟩
theorem AppAt.drew {w W : World} {A : Option Addr} {n : Nat} {q : Nat → Ins} {nb g c B b : Nat} {l : List Nat} {S lb lo kk y z : Nat} {ls : List Nat} {c1 : Nat} {vb : Value} (h : AppAt w W A n q nb g c B b l S lb lo kk y z ls c1 vb) : AppAt w W.drew A n q nb g c B b l S lb lo kk y z ls c1 vb := h.up (Below.refl _ _).drew
/-- .. the new place lying in a cell of its own. -/
structure AppOn (w Z : World) (A : Option Addr) (n : Nat) (q : Nat → Ins) (nb g c B b : Nat) (l : List Nat) (S lb lo kk y z : Nat) (ls : List Nat) (c1 : Nat) (vb : Value) (k9 : Nat) : Prop extends AppAt w Z A n q nb g c B b l S lb lo kk y z ls c1 vb where
  new : ∀ j u, ([.int .i64 ((z : Nat) : Int)] : List Value)[j]? = some u → Z.cell? ((⟨k9, 0, none⟩ : Addr).add j) = some u
  le : B ≤ Z.heap.size
theorem AppAt.more {w W : World} {A : Option Addr} {n : Nat} {q : Nat → Ins} {nb g c B b : Nat} {l : List Nat} {S lb lo kk y z : Nat} {ls : List Nat} {c1 : Nat} {vb : Value} (h : AppAt w W A n q nb g c B b l S lb lo kk y z ls c1 vb) : AppOn w (W.alloc (.cells #[.int .i64 ((z : Nat) : Int)] 3)) A n q nb g c B b l S lb lo kk y z ls c1 vb W.heap.size :=
  ⟨h.up (lbox10 _ _), int_new10 _ _ _, (h.up (lbox10 _ _)).sz.2.2.2⟩
section
variable {w Z Y4 : World} {A : Option Addr} {n : Nat} {q : Nat → Ins} {nb g c B b : Nat} {l : List Nat} {S lb lo kk y z : Nat} {ls : List Nat} {c1 : Nat} {vb v9 : Value} {k9 : Nat}
theorem app_grown (h : AppOn w Z A n q nb g c B b l S lb lo kk y z ls c1 vb k9) (hg : Z.grownBy Y4 vb.ownBlock) {r : Nat} (hr : r < S) : Y4.heap[r]? = Z.heap[r]? := by
  obtain ⟨nx, e, hl⟩ := h.led
  have hb := h.big
  refine hg.block r (by omega) (fun e' => ?_)
  have := hl.here r (by rw [e]; exact e'.symm)
  omega
theorem app_keep (h : AppOn w Z A n q nb g c B b l S lb lo kk y z ls c1 vb k9) (ho : Y4.ownsRow B 3 1 v9 (l.length + 1) (intL l ++ [.int .i64 ((z : Nat) : Int)])) (hg : Z.grownBy Y4 vb.ownBlock) (hw : v9.ownBlock = vb.ownBlock ∨ v9.ownBlock = some Z.heap.size) :
    (Y4.cell? ⟨lb, lo + kk, none⟩ = some (.int .i64 ((y : Nat) : Int)) ∧ Y4.cell? ⟨nb, y, none⟩ = some (.int .i64 ((z : Nat) : Int))) ∧ Y4.cell? ⟨g, b * 3 + 2, none⟩ = some vb ∧ Y4.frozen? ⟨g, b * 3 + 2, none⟩ = false := by
  have h1 := h.at_; have h2 := h.sz
  refine ⟨⟨(World.cell?_of_block (a := ⟨lb, lo + kk, none⟩) (app_grown h hg (show lb < S by omega))).trans h.cy, (World.cell?_of_block (a := ⟨nb, y, none⟩) (app_grown h hg (show nb < S by omega))).trans h.cz⟩, (World.cell?_of_block (a := ⟨g, b * 3 + 2, none⟩) (app_grown h hg (show g < S by omega))).trans h.next, ?_⟩
  have hf : Y4.frozen? ⟨g, b * 3 + 2, none⟩ = Z.frozen? ⟨g, b * 3 + 2, none⟩ := by
    unfold World.frozen?
    rw [app_grown h hg (show g < S by omega)]
  exact hf.trans h.free
theorem app_end (h : AppOn w Z A n q nb g c B b l S lb lo kk y z ls c1 vb k9) (ho : Y4.ownsRow B 3 1 v9 (l.length + 1) (intL l ++ [.int .i64 ((z : Nat) : Int)])) (hg : Z.grownBy Y4 vb.ownBlock) (hw : v9.ownBlock = vb.ownBlock ∨ v9.ownBlock = some Z.heap.size) :
    ((Y4.setCell ⟨g, b * 3 + 2, none⟩ v9).cell? ⟨lb, lo + kk, none⟩ = some (.int .i64 ((y : Nat) : Int)) ∧ (Y4.setCell ⟨g, b * 3 + 2, none⟩ v9).cell? ⟨nb, y, none⟩ = some (.int .i64 ((z : Nat) : Int))) ∧
    IntsAt (Y4.setCell ⟨g, b * 3 + 2, none⟩ v9) (some ⟨lb, lo, none⟩) ls ∧ S ≤ (Y4.setCell ⟨g, b * 3 + 2, none⟩ v9).heap.size ∧ ∃ nx', LedIn w (Y4.setCell ⟨g, b * 3 + 2, none⟩ v9) A n q nb g c B b (l ++ [z]) S nx' := by
  have hk := app_keep h ho hg hw
  have h1 := h.at_; have h2 := h.sz
  obtain ⟨nx, e, hl⟩ := h.led
  have hsz : S ≤ Y4.heap.size := Nat.le_trans h.big hg.size
  refine ⟨⟨?_, ?_⟩, ?_, by simpa [World.setCell] using hsz, led_one hl e h.lt (Below.refl _ _) h.big ho hg hw⟩
  · rw [World.cell?_setCell_far _ _ _ _ (by show g ≠ lb; omega)]; exact hk.1.1
  · rw [World.cell?_setCell_far _ _ _ _ (by show g ≠ nb; omega)]; exact hk.1.2
  · intro hne
    obtain ⟨b', o', e', hl', hc'⟩ := h.ints hne
    injection e' with e'
    injection e' with e1 e2
    subst e1 e2
    refine ⟨lb, lo, rfl, by simp [World.setCell]; omega, fun i hi => ?_⟩
    rw [World.cell?_setCell_far _ _ _ _ (by show g ≠ lb; omega)]
    exact (World.cell?_of_block (a := ⟨lb, lo + i, none⟩) (app_grown h hg (show lb < S by omega))).trans (hc' i hi)
end
set_option maxHeartbeats 8000000 in
set_option maxRecDepth 100000 in
theorem r_Blocks {w : World} {A : Option Addr} {n : Nat} (cap : Nat) {q : Nat → Ins} (h : ProgAt w A n q) (hok : ∀ i, i < n → (q i).OK) (h0 : 0 < n) (hn : n ≤ 4096) :
    Calls Try.prog 20 #[.slice A n cap] w fun e w' => ∃ A' c, e = .returned (.slice A' (blkF q n).length c) ∧ BlksAt w' A' (blkF q n) (leadF q n) ∧ Below w.heap.size w w' := by
  obtain ⟨O, hmk, hO⟩ := make_zero 23 3 (.int .i64 0) 8 Try.underlying23 info_int10 rfl n (by omega) (by omega)
  have HNX := Lib.hid (fun (V : World) (m : Nat) (hV : ProgAt V A n q) => (next_z q n m) ▸ r_Next (w := V) cap hV hok (by omega) (m : Int))
  have HRC := Lib.hid (r_Reach cap h hok h0 hn)
  have HP0 := Lib.hid h
  have HOO := Lib.hid hO
  have HLS := Lib.hid (blk_some (q := q) h0)
  have hlt0 : (0 : Int) < (n : Int) := by omega
  clear h hok hO
  go_enter Try.func20, Try.ntmps20
  go_wp2_with (go_at_call 19; (with_reducible refine HRC.out.mono ?_); rintro e wR ⟨rfl, hrow, hb⟩; have HR0 := Lib.hid (And.intro hrow hb); clear hrow hb)
  have HS : Hid (IntoAt w (wR.alloc O) A n q w.heap.size wR.heap.size (intoN q n 0)) := Lib.hid ⟨HP0.out, HR0.out.1.below (lbox10 _ _), HOO.out wR, HR0.out.2.trans ((lbox10 wR O).mono HR0.out.2.size), Nat.le_refl _, HR0.out.1.lt⟩
  clear HR0 HRC
  generalize wR.heap.size = ib at HS ⊢
  generalize wR.alloc O = wI at HS ⊢
  go_loopw [5] (fun i wr => ∃ m : Nat, m ≤ n ∧ i = .int .i64 (m : Int) ∧ IntoAt w wr A n q w.heap.size ib (intoN q n m)) (fun i _ => n - (intOf i).toNat)
  case atStart => exact ⟨0, by omega, rfl, HS.out⟩
  case round =>
    obtain ⟨m, hm, rfl, hR⟩ := hrel
    have HR := Lib.hid hR
    clear HS hR
    by_cases hlt : m < n
    · have hlt' : (m : Int) < (n : Int) := by omega
      have hw1 : IntKind.i64.wrap ((m : Int) + 1) = ((m + 1 : Nat) : Int) := by rw [IntWalk.i64_in _ (by omega)]; omega
      go_wp2_with (go_at_call 12; (with_reducible refine (HNX.out _ m HR.out.q).mono ?_); rintro e w1 ⟨A1, c1, rfl, hi, hf1, hb1⟩; have H1 := Lib.hid (And.intro hi (And.intro (show FreshA wr.heap.size A1 from hf1) (HR.out.up hb1))); clear hi hf1 hb1)
      have hsz := HR.out.row.lt
      have hsz0 := HR.out.reach.lt
      cases hr : reachF q n m with
      | false =>
        have g0 := H1.out.2.2.reach.cell hlt
        rw [hr] at g0
        have HRF := Lib.hid hr
        clear hr
        go_loopw [7] (fun k V => k = .int .i64 0 ∧ V = w1) (fun _ _ => 0)
        case atStart => exact ⟨rfl, rfl⟩
        case round =>
          obtain ⟨rfl, rfl⟩ := hrel
          by_cases hl : 0 < (nextF10 q n m).length
          · have hl' : (0 : Int) < ((nextF10 q n m).length : Int) := by omega
            go_wp2
            exact ⟨⟨m + 1, by omega, by go_num, H1.out.2.2.congr fun j _ => into_stay HRF.out j⟩, by simp [intOf]; omega⟩
          · have hl' : ¬ (0 : Int) < ((nextF10 q n m).length : Int) := by omega
            go_wp2
            exact ⟨⟨m + 1, by omega, by go_num, H1.out.2.2.congr fun j _ => into_stay HRF.out j⟩, by simp [intOf]; omega⟩
      | true =>
        have HRT := Lib.hid hr
        have hlen := next_len (q := q) (n := n) m
        have HI := Lib.hid (fun kk (hkk : kk < (nextF10 q n m).length) => next_at hkk)
        clear hr
        go_loopw [7] (fun k V => ∃ kk : Nat, kk ≤ (nextF10 q n m).length ∧ k = .int .i64 (kk : Int) ∧ IntsAt V A1 (nextF10 q n m) ∧ IntoAt w V A n q w.heap.size ib (partI q n m kk)) (fun k _ => (nextF10 q n m).length - (intOf k).toNat)
        case atStart => exact ⟨0, by omega, rfl, H1.out.1, H1.out.2.2.congr fun j _ => (partI_zero q n m j).symm⟩
        case round =>
          obtain ⟨kk, hkk, rfl, hI, hP⟩ := hrel
          have HP := Lib.hid (And.intro hI hP)
          by_cases hl : kk < (nextF10 q n m).length
          · have hl' : (kk : Int) < ((nextF10 q n m).length : Int) := by omega
            have hw2 : IntKind.i64.wrap ((kk : Int) + 1) = ((kk + 1 : Nat) : Int) := by rw [IntWalk.i64_in _ (by omega)]; omega
            have g0 := hP.reach.cell hlt
            rw [HRT.out] at g0
            obtain ⟨lb, lo, rfl, hil, g1⟩ := ints_cell hI hl
            have hyn := HI.out kk hl
            have HL := Lib.hid hl
            have g2 := hP.row.cell hyn
            have g3 := hP.row.free ((nextF10 q n m).getD kk 0)
            have hyn' : (((nextF10 q n m).getD kk 0 : Nat) : Int) < (n : Int) := by omega
            have hul := partI_le q n m kk ((nextF10 q n m).getD kk 0)
            clear hI hP hil
            generalize hy : (nextF10 q n m).getD kk 0 = y at *
            generalize hu : partI q n m kk y = u at *
            have HY := Lib.hid (And.intro hy hu)
            have hw6 : IntKind.i64.wrap ((u : Int) + 1) = ((u + 1 : Nat) : Int) := by rw [IntWalk.i64_in _ (by omega)]; omega
            clear hy hu
            go_wp2
            refine ⟨⟨kk + 1, by have := HL.out; omega, by go_num, HP.out.1.set H1.out.2.1 hsz, (HP.out.2.set y (u + 1)).congr fun j _ => by rw [← partI_succ HL.out HY.out.1, HY.out.2]⟩, by simp [intOf]; have := HL.out; omega⟩
          · have hl' : ¬ (kk : Int) < ((nextF10 q n m).length : Int) := by omega
            obtain rfl : kk = (nextF10 q n m).length := by omega
            clear hI hP
            go_wp2
            exact ⟨⟨m + 1, by omega, by go_num, HP.out.2.congr fun j _ => partI_end HRT.out j⟩, by simp [intOf]; omega⟩
    · obtain rfl : n = m := by omega
      go_wp2
      have HB0 : Hid (BldAt w (wr.alloc O) A n q w.heap.size ib wr.heap.size (wr.heap.size + 1) 0 (.slice none 0 0)) := Lib.hid ⟨HP0.out, HR.out.reach.below (lbox10 _ _), HR.out.row.below (lbox10 _ _), ⟨fun _ => 0, HOO.out wr, fun j hj => absurd hj (Nat.not_lt_zero _)⟩, World.ownsRow_nil _ _ _ _, HR.out.bel.trans ((lbox10 wr O).mono HR.out.bel.size), Nat.le_refl _, HR.out.lt, HR.out.row.lt, Nat.lt_succ_self _, by simp⟩
      clear HR HOO
      generalize hB : wr.heap.size + 1 = B at HB0
      clear hB
      generalize wr.heap.size = nb at HB0 ⊢
      generalize wr.alloc O = wN at HB0 ⊢
      go_loopw [9, 10] (fun v i wr => ∃ m : Nat, m ≤ n ∧ i = .int .i64 (m : Int) ∧ BldAt w wr A n q w.heap.size ib nb B m v) (fun _ i _ => n - (intOf i).toNat)
      case atStart => exact ⟨0, by omega, rfl, HB0.out⟩
      case round =>
        obtain ⟨m, hm, rfl, hBd⟩ := hrel
        obtain ⟨Ao, co, rfl⟩ := own_form10 hBd.own
        have HBc := Lib.hid hBd
        clear HB0
        by_cases hlt : m < n
        · have hlt' : (m : Int) < (n : Int) := by omega
          have hw1 : IntKind.i64.wrap ((m : Int) + 1) = ((m + 1 : Nat) : Int) := by rw [IntWalk.i64_in _ (by omega)]; omega
          have g0 := hBd.reach.cell hlt
          have HM := Lib.hid hlt
          clear hBd
          cases hr : reachF q n m with
          | false =>
            rw [hr] at g0
            have HRF := Lib.hid hr
            clear hr
            go_wp2
            exact ⟨⟨m + 1, by omega, by go_num, HBc.out.skip HRF.out⟩, by simp [intOf]; omega⟩
          | true =>
            rw [hr] at g0
            have HRT := Lib.hid hr
            clear hr
            by_cases hm0 : m = 0
            · have HGO : Hid (goesF q n m = false) := Lib.hid (by rw [hm0]; exact goes_zero q n)
              have hpos : ¬ (0 : Int) < (m : Int) := by omega
              clear hm0
              have hL := blk_len (q := q) (n := n) (m)
              have hw5 : IntKind.i64.wrap ((((blkN q n (m)).length + 1 : Nat) : Int) - 1) = (((blkN q n (m)).length : Nat) : Int) := by rw [IntWalk.i64_in _ (by omega)]; omega
              go_wp2_with (at_builtin; refine wpList_append_own _ rfl _ _ 34 rfl 46 _ 3 40 Try.underlying34 info_blk10 rfl (by decide) B (.slice Ao (blkN q n (m)).length co) (blkN q n (m)).length (blkL (blkN q n (m))) rfl (own_below HBc.out.own (lbox10 _ _)) ⟨wr.heap.size, 0, none⟩ 1 1 (blkC (m, m + 1)) rfl rfl (blk_new10 _ _ _) (blk_one10 _ _) (by unfold maxLen; omega) (by omega) (Nat.le_trans HBc.out.le.2.2.2.2 (lbox10 _ _).size) ?_; intro v9 W9 ho hg hb9; obtain ⟨A9, c9, rfl⟩ := own_form10 ho; obtain ⟨⟨x9, n1⟩, n2⟩ := bld_at HBc.out HM.out hg; have H9 := Lib.hid (bld_new HBc.out HRT.out HGO.out ho hg rfl); clear ho hg hb9)
              exact ⟨⟨m + 1, by omega, by go_num, H9.out⟩, by simp [intOf]; omega⟩
            · have hpos : (0 : Int) < (m : Int) := by omega
              obtain ⟨m', hmm⟩ : ∃ m', m = m' + 1 := ⟨m - 1, by omega⟩
              have HMP := Lib.hid hmm
              have hw7 : IntKind.i64.wrap ((m : Int) - 1) = (m' : Int) := by rw [IntWalk.i64_in _ (by omega)]; omega
              have g4 := HBc.out.reach.cell (i := m') (by omega)
              have HGI : Hid (goesF q n m = (reachF q n m' && decide (nextF10 q n m' = [m]) && !jumpC (q m').code && decide ((q m').code ≠ 5) && decide (intoN q n n m = 1))) := Lib.hid (by rw [hmm]; exact goes_is q n m')
              have hm'n : (m' : Int) < (n : Int) := by omega
              have hm'0 : (0 : Int) ≤ (m' : Int) := by omega
              cases hr2 : reachF q n m' with
              | false =>
                rw [hr2] at g4
                have HGO : Hid (goesF q n m = false) := Lib.hid (by rw [HGI.out, hr2]; rfl)
                clear hr2 hmm hm0
                have hL := blk_len (q := q) (n := n) (m)
                have hw5 : IntKind.i64.wrap ((((blkN q n (m)).length + 1 : Nat) : Int) - 1) = (((blkN q n (m)).length : Nat) : Int) := by rw [IntWalk.i64_in _ (by omega)]; omega
                go_wp2_with (at_builtin; refine wpList_append_own _ rfl _ _ 34 rfl 46 _ 3 40 Try.underlying34 info_blk10 rfl (by decide) B (.slice Ao (blkN q n (m)).length co) (blkN q n (m)).length (blkL (blkN q n (m))) rfl (own_below HBc.out.own (lbox10 _ _)) ⟨wr.heap.size, 0, none⟩ 1 1 (blkC (m, m + 1)) rfl rfl (blk_new10 _ _ _) (blk_one10 _ _) (by unfold maxLen; omega) (by omega) (Nat.le_trans HBc.out.le.2.2.2.2 (lbox10 _ _).size) ?_; intro v9 W9 ho hg hb9; obtain ⟨A9, c9, rfl⟩ := own_form10 ho; obtain ⟨⟨x9, n1⟩, n2⟩ := bld_at HBc.out HM.out hg; have H9 := Lib.hid (bld_new HBc.out HRT.out HGO.out ho hg rfl); clear ho hg hb9)
                exact ⟨⟨m + 1, by omega, by go_num, H9.out⟩, by simp [intOf]; omega⟩
              | true =>
                rw [hr2] at g4
                have HR2 := Lib.hid hr2
                clear hr2 hmm hm0
                obtain ⟨z, hz⟩ : ∃ z, z = intoN q n n m := ⟨_, rfl⟩
                have HZ := Lib.hid hz
                obtain ⟨code, hcode⟩ : ∃ code, code = (q m').code := ⟨_, rfl⟩
                have HCO := Lib.hid hcode
                obtain ⟨bj, hbj⟩ : ∃ bj, bj = jumpC code := ⟨_, rfl⟩
                have HJ := Lib.hid (fun V => ref_Jump_is (c := code) (b := bj) hbj.symm V)
                have HBJ := Lib.hid hbj
                obtain ⟨ls, hls⟩ : ∃ ls, ls = nextF10 q n m' := ⟨_, rfl⟩
                have HN1 : Hid (∀ V, ProgAt V A n q → Calls Try.prog 12 #[.slice A n cap, .int .i64 (m' : Int)] V (NextP V ls)) := Lib.hid (fun V hV => by rw [hls]; exact HNX.out V m' hV)
                have HLSS := Lib.hid hls
                have HUP : Hid (∀ w1, Below wr.heap.size wr w1 → BldAt w w1 A n q w.heap.size ib nb B m (.slice Ao (blkN q n m).length co)) := Lib.hid (fun w1 h => HBc.out.up h)
                clear hz hcode hbj hls HBc
                obtain ⟨qb, qo, rfl⟩ : ∃ qb qo, A = some ⟨qb, qo, none⟩ := by
                  obtain ⟨qb, qo, e, _⟩ := HP0.out (by omega)
                  exact ⟨qb, qo, e⟩
                by_cases hl1 : ls.length = 1
                · have HLEN := Lib.hid hl1
                  obtain ⟨y1, hy1⟩ : ∃ y1, y1 = ls.getD 0 0 := ⟨_, rfl⟩
                  have HY1 := Lib.hid hy1
                  have hlb : ((ls.length : Int) == 1) = true := by rw [hl1]; rfl
                  have hl0 : (0 : Int) < (ls.length : Int) := by omega
                  by_cases hy2 : y1 = m
                  · have hyb : ((y1 : Int) == (m : Int)) = true := by rw [hy2]; exact beq_self_eq_true _
                    have HNL : Hid (nextF10 q n m' = [m]) := Lib.hid (by rw [← HLSS.out]; exact one_is hl1 (by rw [← hy1, hy2]))
                    clear hl1 hy1 hy2
                    cases bj with
                    | true =>
                      have HGO : Hid (goesF q n m = false) := Lib.hid (by rw [HGI.out, ← HCO.out, ← HBJ.out]; simp)
                      have hL := blk_len (q := q) (n := n) m
                      have hw5 : IntKind.i64.wrap ((((blkN q n m).length + 1 : Nat) : Int) - 1) = (((blkN q n m).length : Nat) : Int) := by rw [IntWalk.i64_in _ (by omega)]; omega
                      go_wp2_with (first | (at_builtin; refine wpList_append_own _ rfl _ _ 34 rfl 46 _ 3 40 Try.underlying34 info_blk10 rfl (by decide) B (.slice Ao (blkN q n m).length co) (blkN q n m).length (blkL (blkN q n m)) rfl (own_below HBc.out.own (lbox10 _ _)) ⟨w1.heap.size, 0, none⟩ 1 1 (blkC (m, m + 1)) rfl rfl (blk_new10 _ _ _) (blk_one10 _ _) (by unfold maxLen; omega) (by omega) (Nat.le_trans HBc.out.le.2.2.2.2 (lbox10 _ _).size) ?_; intro v9 W9 ho hg hb9; obtain ⟨A9, c9, rfl⟩ := own_form10 ho; obtain ⟨⟨x9, n1⟩, n2⟩ := bld_at HBc.out HM.out hg; have H9 := Lib.hid (bld_new HBc.out HRT.out HGO.out ho hg rfl); clear ho hg hb9) | (go_at_call 27; (with_reducible refine (HJ.out _).mono ?_); rintro e wj ⟨rfl, rfl⟩) | (go_at_call 12; (with_reducible refine (HN1.out _ (HUP.out wr (Below.refl _ _)).q).mono ?_); rintro e w1 ⟨A1, c1, rfl, hi, hf1, hb1⟩; have HBc := Lib.hid (HUP.out w1 hb1); have HIN := Lib.hid hi; have HBL := Lib.hid hb1; obtain ⟨qb9, qo9, eA, x0⟩ := prog_cell10 HBc.out.q (i := m') (by have := HM.out; have := HMP.out; omega); injection eA with eA; injection eA with eA1 eA2; subst eA1; subst eA2; rw [← HCO.out] at x0; have y0 := HBc.out.into.cell HM.out; rw [← HZ.out] at y0; obtain ⟨lb, lo, rfl, hil, l0⟩ := ints_cell HIN.out (i := 0) (by have := HLEN.out; omega); rw [Nat.add_zero] at l0; clear hil; rw [← HY1.out] at l0; clear hi hf1 hb1))
                      exact ⟨⟨m + 1, by omega, by go_num, H9.out⟩, by simp [intOf]; omega⟩
                    | false =>
                      by_cases h5 : code = 5
                      · have h5b : (code != 5) = false := by rw [h5]; rfl
                        have HGO : Hid (goesF q n m = false) := Lib.hid (by rw [HGI.out, ← HCO.out, h5]; simp)
                        clear h5
                        have hL := blk_len (q := q) (n := n) m
                        have hw5 : IntKind.i64.wrap ((((blkN q n m).length + 1 : Nat) : Int) - 1) = (((blkN q n m).length : Nat) : Int) := by rw [IntWalk.i64_in _ (by omega)]; omega
                        go_wp2_with (first | (at_builtin; refine wpList_append_own _ rfl _ _ 34 rfl 46 _ 3 40 Try.underlying34 info_blk10 rfl (by decide) B (.slice Ao (blkN q n m).length co) (blkN q n m).length (blkL (blkN q n m)) rfl (own_below HBc.out.own (lbox10 _ _)) ⟨w1.heap.size, 0, none⟩ 1 1 (blkC (m, m + 1)) rfl rfl (blk_new10 _ _ _) (blk_one10 _ _) (by unfold maxLen; omega) (by omega) (Nat.le_trans HBc.out.le.2.2.2.2 (lbox10 _ _).size) ?_; intro v9 W9 ho hg hb9; obtain ⟨A9, c9, rfl⟩ := own_form10 ho; obtain ⟨⟨x9, n1⟩, n2⟩ := bld_at HBc.out HM.out hg; have H9 := Lib.hid (bld_new HBc.out HRT.out HGO.out ho hg rfl); clear ho hg hb9) | (go_at_call 27; (with_reducible refine (HJ.out _).mono ?_); rintro e wj ⟨rfl, rfl⟩) | (go_at_call 12; (with_reducible refine (HN1.out _ (HUP.out wr (Below.refl _ _)).q).mono ?_); rintro e w1 ⟨A1, c1, rfl, hi, hf1, hb1⟩; have HBc := Lib.hid (HUP.out w1 hb1); have HIN := Lib.hid hi; have HBL := Lib.hid hb1; obtain ⟨qb9, qo9, eA, x0⟩ := prog_cell10 HBc.out.q (i := m') (by have := HM.out; have := HMP.out; omega); injection eA with eA; injection eA with eA1 eA2; subst eA1; subst eA2; rw [← HCO.out] at x0; have y0 := HBc.out.into.cell HM.out; rw [← HZ.out] at y0; obtain ⟨lb, lo, rfl, hil, l0⟩ := ints_cell HIN.out (i := 0) (by have := HLEN.out; omega); rw [Nat.add_zero] at l0; clear hil; rw [← HY1.out] at l0; clear hi hf1 hb1))
                        exact ⟨⟨m + 1, by omega, by go_num, H9.out⟩, by simp [intOf]; omega⟩
                      · have h5b : (code != 5) = true := bne_iff_ne.2 h5
                        by_cases hz1 : z = 1
                        · have hzb : ((z : Int) == 1) = true := by rw [hz1]; rfl
                          have HGO : Hid (goesF q n m = true) := Lib.hid (by rw [HGI.out, ← HCO.out, ← HBJ.out, HNL.out, ← HZ.out, hz1, HR2.out]; simp [h5])
                          clear h5 hz1
                          have hL := blk_len (q := q) (n := n) m
                          have HLP : Hid (0 < (blkN q n m).length) := Lib.hid ((blk_inv (q := q) (n := n) (m) (by omega)).last (by have := HMP.out; omega) (by rw [HMP.out, Nat.add_sub_cancel]; exact HR2.out)).1
                          obtain ⟨L1, hL1⟩ : ∃ L1, L1 = (blkN q n m).length - 1 := ⟨_, rfl⟩
                          have HL1 := Lib.hid hL1
                          have hw5 : IntKind.i64.wrap ((((blkN q n m).length : Nat) : Int) - 1) = (L1 : Int) := by have := HLP.out; rw [IntWalk.i64_in _ (by omega)]; omega
                          have hL2 : (L1 : Int) < (((blkN q n m).length : Nat) : Int) := by have := HLP.out; omega
                          clear hL1
                          go_wp2_with (first | (go_at_call 27; (with_reducible refine (HJ.out _).mono ?_); rintro e wj ⟨rfl, rfl⟩) | (go_at_call 12; (with_reducible refine (HN1.out _ (HUP.out wr (Below.refl _ _)).q).mono ?_); rintro e w1 ⟨A1, c1, rfl, hi, hf1, hb1⟩; have HBc := Lib.hid (HUP.out w1 hb1); have HIN := Lib.hid hi; have HBL := Lib.hid hb1; obtain ⟨qb9, qo9, eA, x0⟩ := prog_cell10 HBc.out.q (i := m') (by have := HM.out; have := HMP.out; omega); injection eA with eA; injection eA with eA1 eA2; subst eA1; subst eA2; rw [← HCO.out] at x0; have y0 := HBc.out.into.cell HM.out; rw [← HZ.out] at y0; obtain ⟨lb, lo, rfl, hil, l0⟩ := ints_cell HIN.out (i := 0) (by have := HLEN.out; omega); rw [Nat.add_zero] at l0; clear hil; rw [← HY1.out] at l0; obtain ⟨g9, c9, e9⟩ := own_some10 HBc.out.own HLP.out; injection e9 with e91 _ e93; subst e91; subst e93; have HB8 := Lib.hid (bld_goes HBc.out HRT.out HGO.out HLP.out (x := L1) HL1.out); have z0 := own_cell10 HBc.out.own ((blkL_get _ L1 (by have := HLP.out; have := HL1.out; omega)).2.1); obtain ⟨⟨x9, n1⟩, n2⟩ := bld_num_at HBc.out HM.out; have z1 := z0.1; have z2 := z0.2; have hgn := bld_apart HBc.out; have n3 := (fun u => (World.cell?_setCell_far w1 ⟨g9, L1 * 3 + 1, none⟩ ⟨nb, m, none⟩ u hgn).trans n1); have n4 := (fun u => (World.frozen?_setCell w1 ⟨g9, L1 * 3 + 1, none⟩ ⟨nb, m, none⟩ u).trans n2); clear z0 hgn; clear hi hf1 hb1))
                          exact ⟨⟨m + 1, by omega, by go_num, HB8.out⟩, by simp [intOf]; omega⟩
                        · have hzb : ((z : Int) == 1) = false := beq_false_of_ne (by omega)
                          have HGO : Hid (goesF q n m = false) := Lib.hid (by rw [HGI.out, ← HZ.out]; simp [hz1])
                          clear h5 hz1
                          have hL := blk_len (q := q) (n := n) m
                          have hw5 : IntKind.i64.wrap ((((blkN q n m).length + 1 : Nat) : Int) - 1) = (((blkN q n m).length : Nat) : Int) := by rw [IntWalk.i64_in _ (by omega)]; omega
                          go_wp2_with (first | (at_builtin; refine wpList_append_own _ rfl _ _ 34 rfl 46 _ 3 40 Try.underlying34 info_blk10 rfl (by decide) B (.slice Ao (blkN q n m).length co) (blkN q n m).length (blkL (blkN q n m)) rfl (own_below HBc.out.own (lbox10 _ _)) ⟨w1.heap.size, 0, none⟩ 1 1 (blkC (m, m + 1)) rfl rfl (blk_new10 _ _ _) (blk_one10 _ _) (by unfold maxLen; omega) (by omega) (Nat.le_trans HBc.out.le.2.2.2.2 (lbox10 _ _).size) ?_; intro v9 W9 ho hg hb9; obtain ⟨A9, c9, rfl⟩ := own_form10 ho; obtain ⟨⟨x9, n1⟩, n2⟩ := bld_at HBc.out HM.out hg; have H9 := Lib.hid (bld_new HBc.out HRT.out HGO.out ho hg rfl); clear ho hg hb9) | (go_at_call 27; (with_reducible refine (HJ.out _).mono ?_); rintro e wj ⟨rfl, rfl⟩) | (go_at_call 12; (with_reducible refine (HN1.out _ (HUP.out wr (Below.refl _ _)).q).mono ?_); rintro e w1 ⟨A1, c1, rfl, hi, hf1, hb1⟩; have HBc := Lib.hid (HUP.out w1 hb1); have HIN := Lib.hid hi; have HBL := Lib.hid hb1; obtain ⟨qb9, qo9, eA, x0⟩ := prog_cell10 HBc.out.q (i := m') (by have := HM.out; have := HMP.out; omega); injection eA with eA; injection eA with eA1 eA2; subst eA1; subst eA2; rw [← HCO.out] at x0; have y0 := HBc.out.into.cell HM.out; rw [← HZ.out] at y0; obtain ⟨lb, lo, rfl, hil, l0⟩ := ints_cell HIN.out (i := 0) (by have := HLEN.out; omega); rw [Nat.add_zero] at l0; clear hil; rw [← HY1.out] at l0; clear hi hf1 hb1))
                          exact ⟨⟨m + 1, by omega, by go_num, H9.out⟩, by simp [intOf]; omega⟩
                  · have hyb : ((y1 : Int) == (m : Int)) = false := beq_false_of_ne (by omega)
                    have HGO : Hid (goesF q n m = false) := Lib.hid (by rw [HGI.out, ← HLSS.out]; have : ls ≠ [m] := (fun e => by rw [e] at hy1; exact hy2 hy1); simp [this])
                    clear hl1 hy1 hy2
                    have hL := blk_len (q := q) (n := n) m
                    have hw5 : IntKind.i64.wrap ((((blkN q n m).length + 1 : Nat) : Int) - 1) = (((blkN q n m).length : Nat) : Int) := by rw [IntWalk.i64_in _ (by omega)]; omega
                    go_wp2_with (first | (at_builtin; refine wpList_append_own _ rfl _ _ 34 rfl 46 _ 3 40 Try.underlying34 info_blk10 rfl (by decide) B (.slice Ao (blkN q n m).length co) (blkN q n m).length (blkL (blkN q n m)) rfl (own_below HBc.out.own (lbox10 _ _)) ⟨w1.heap.size, 0, none⟩ 1 1 (blkC (m, m + 1)) rfl rfl (blk_new10 _ _ _) (blk_one10 _ _) (by unfold maxLen; omega) (by omega) (Nat.le_trans HBc.out.le.2.2.2.2 (lbox10 _ _).size) ?_; intro v9 W9 ho hg hb9; obtain ⟨A9, c9, rfl⟩ := own_form10 ho; obtain ⟨⟨x9, n1⟩, n2⟩ := bld_at HBc.out HM.out hg; have H9 := Lib.hid (bld_new HBc.out HRT.out HGO.out ho hg rfl); clear ho hg hb9) | (go_at_call 27; (with_reducible refine (HJ.out _).mono ?_); rintro e wj ⟨rfl, rfl⟩) | (go_at_call 12; (with_reducible refine (HN1.out _ (HUP.out wr (Below.refl _ _)).q).mono ?_); rintro e w1 ⟨A1, c1, rfl, hi, hf1, hb1⟩; have HBc := Lib.hid (HUP.out w1 hb1); have HIN := Lib.hid hi; have HBL := Lib.hid hb1; obtain ⟨qb9, qo9, eA, x0⟩ := prog_cell10 HBc.out.q (i := m') (by have := HM.out; have := HMP.out; omega); injection eA with eA; injection eA with eA1 eA2; subst eA1; subst eA2; rw [← HCO.out] at x0; have y0 := HBc.out.into.cell HM.out; rw [← HZ.out] at y0; obtain ⟨lb, lo, rfl, hil, l0⟩ := ints_cell HIN.out (i := 0) (by have := HLEN.out; omega); rw [Nat.add_zero] at l0; clear hil; rw [← HY1.out] at l0; clear hi hf1 hb1))
                    exact ⟨⟨m + 1, by omega, by go_num, H9.out⟩, by simp [intOf]; omega⟩
                · have hlb : ((ls.length : Int) == 1) = false := beq_false_of_ne (by omega)
                  have HGO : Hid (goesF q n m = false) := Lib.hid (by rw [HGI.out, ← HLSS.out]; have : ls ≠ [m] := (fun e => by rw [e] at hl1; exact hl1 rfl); simp [this])
                  clear hl1
                  have hL := blk_len (q := q) (n := n) m
                  have hw5 : IntKind.i64.wrap ((((blkN q n m).length + 1 : Nat) : Int) - 1) = (((blkN q n m).length : Nat) : Int) := by rw [IntWalk.i64_in _ (by omega)]; omega
                  go_wp2_with (first | (at_builtin; refine wpList_append_own _ rfl _ _ 34 rfl 46 _ 3 40 Try.underlying34 info_blk10 rfl (by decide) B (.slice Ao (blkN q n m).length co) (blkN q n m).length (blkL (blkN q n m)) rfl (own_below HBc.out.own (lbox10 _ _)) ⟨w1.heap.size, 0, none⟩ 1 1 (blkC (m, m + 1)) rfl rfl (blk_new10 _ _ _) (blk_one10 _ _) (by unfold maxLen; omega) (by omega) (Nat.le_trans HBc.out.le.2.2.2.2 (lbox10 _ _).size) ?_; intro v9 W9 ho hg hb9; obtain ⟨A9, c9, rfl⟩ := own_form10 ho; obtain ⟨⟨x9, n1⟩, n2⟩ := bld_at HBc.out HM.out hg; have H9 := Lib.hid (bld_new HBc.out HRT.out HGO.out ho hg rfl); clear ho hg hb9) | (go_at_call 27; (with_reducible refine (HJ.out _).mono ?_); rintro e wj ⟨rfl, rfl⟩) | (go_at_call 12; (with_reducible refine (HN1.out _ (HUP.out wr (Below.refl _ _)).q).mono ?_); rintro e w1 ⟨A1, c1, rfl, hi, hf1, hb1⟩; have HBc := Lib.hid (HUP.out w1 hb1); have HIN := Lib.hid hi; have HBL := Lib.hid hb1; obtain ⟨qb9, qo9, eA, x0⟩ := prog_cell10 HBc.out.q (i := m') (by have := HM.out; have := HMP.out; omega); injection eA with eA; injection eA with eA1 eA2; subst eA1; subst eA2; rw [← HCO.out] at x0; have y0 := HBc.out.into.cell HM.out; rw [← HZ.out] at y0;  clear hi hf1 hb1))
                  exact ⟨⟨m + 1, by omega, by go_num, H9.out⟩, by simp [intOf]; omega⟩
        · obtain rfl : n = m := by omega
          obtain ⟨g, c, e⟩ := own_some10 hBd.own HLS.out
          injection e with e1 _ e3
          subst e1 e3
          clear hBd
          go_wp2
          have HL0 : Hid (LedOut w wr A n q nb g co wr.heap.size 0 (fun _ => .slice none 0 0)) := Lib.hid ⟨(led_start HBc.out).congr (fun k _ => by unfold partB; simp), fun _ _ _ => rfl⟩
          have hLn := blk_len (q := q) (n := n) n
          have hLe : (blkN q n n).length = (blkF q n).length := rfl
          rw [hLe] at hLn ⊢
          clear hLe HBc
          generalize wr.heap.size = B3 at HL0
          generalize wr = wK at HL0 ⊢
          go_loopw [14] (fun i wr => ∃ b : Nat, b ≤ (blkF q n).length ∧ i = .int .i64 (b : Int) ∧ ∃ nx, LedOut w wr A n q nb g co B3 b nx) (fun i _ => (blkF q n).length - (intOf i).toNat)
          case atStart => exact ⟨0, by omega, rfl, _, HL0.out⟩
          case round =>
            obtain ⟨b, hb, rfl, nx, hLO⟩ := hrel
            have HLO := Lib.hid hLO
            clear HL0
            by_cases hlt : b < (blkF q n).length
            · have hlt' : (b : Int) < ((blkF q n).length : Int) := by omega
              have hw1 : IntKind.i64.wrap ((b : Int) + 1) = ((b + 1 : Nat) : Int) := by rw [IntWalk.i64_in _ (by omega)]; omega
              have y0 := (hLO.led.cells hlt).1
              obtain ⟨t1, t2, t3⟩ := blk_last (q := q) (n := n) hlt
              have HM := Lib.hid hlt
              clear hLO
              obtain ⟨T, hT⟩ : ∃ T, T = ((blkF q n).getD b (0, 0)).2 := ⟨_, rfl⟩
              obtain ⟨p, hp⟩ : ∃ p, p = ((blkF q n).getD b (0, 0)).2 - 1 := ⟨_, rfl⟩
              rw [← hT] at y0 t1 t2
              rw [← hp] at t3
              have hw7 : IntKind.i64.wrap ((T : Int) - 1) = (p : Int) := by rw [IntWalk.i64_in _ (by omega)]; omega
              obtain ⟨ls, hls⟩ : ∃ ls, ls = nextF10 q n p := ⟨_, rfl⟩
              have HLD : Hid (leadF q n b = ls.map (numF q n)) := Lib.hid (by unfold leadF; rw [← hp, hls])
              have HN1 : Hid (∀ V, ProgAt V A n q → Calls Try.prog 12 #[.slice A n cap, .int .i64 (p : Int)] V (NextP V ls)) := Lib.hid (fun V hV => by rw [hls]; exact HNX.out V p hV)
              have HIN : Hid (∀ kk, kk < ls.length → ls.getD kk 0 < n ∧ reachF q n (ls.getD kk 0) = true) := Lib.hid (fun kk hkk => by
                rw [hls] at hkk ⊢
                refine ⟨next_at hkk, reach_next t3 ?_⟩
                rw [List.getD_eq_getElem?_getD, List.getElem?_eq_getElem hkk]; exact List.getElem_mem hkk)
              have hlen : ls.length ≤ 2 := by rw [hls]; exact next_len p
              have HLsz := Lib.hid (HLO.out.led.le)
              clear hp hT hls t1 t2 t3
              go_wp2_with (go_at_call 12; (with_reducible refine (HN1.out _ HLO.out.led.q).mono ?_); rintro e w1 ⟨A1, c1, rfl, hi, hf1, hb1⟩; have H1 := Lib.hid (And.intro hi (And.intro (show FreshA wr.heap.size A1 from hf1) (And.intro (HLO.out.up hb1) hb1))); clear hi hf1 hb1)
              have HAI : Hid (∀ lb lo, A1 = some ⟨lb, lo, none⟩ → ls ≠ [] → wr.heap.size ≤ lb ∧ lb < w1.heap.size) := Lib.hid (fun lb lo e hne => by
                refine ⟨H1.out.2.1 lb lo e, ?_⟩
                obtain ⟨b', o', e', hl', _⟩ := H1.out.1 (List.length_pos_iff.2 hne)
                rw [e] at e'; injection e' with e'; injection e' with e'; omega)
              go_loopw [16] (fun k V => ∃ kk : Nat, kk ≤ ls.length ∧ k = .int .i64 (kk : Int) ∧ IntsAt V A1 ls ∧ w1.heap.size ≤ V.heap.size ∧ ∃ nx', LedIn w V A n q nb g co B3 b ((ls.take kk).map (numF q n)) w1.heap.size nx') (fun k _ => ls.length - (intOf k).toNat)
              case atStart => exact ⟨0, by omega, rfl, H1.out.1, Nat.le_refl _, nx, H1.out.2.2.1.in_ HM.out _⟩
              case round =>
                obtain ⟨kk, hkk, rfl, hI, hsz, nx', hP⟩ := hrel
                have HP := Lib.hid (And.intro hI (And.intro hsz hP))
                by_cases hl : kk < ls.length
                · have hl' : (kk : Int) < (ls.length : Int) := by omega
                  have hw2 : IntKind.i64.wrap ((kk : Int) + 1) = ((kk + 1 : Nat) : Int) := by rw [IntWalk.i64_in _ (by omega)]; omega
                  obtain ⟨lb, lo, rfl, hil, g1⟩ := ints_cell hI hl
                  obtain ⟨hyn, hyr⟩ := HIN.out kk hl
                  have HL := Lib.hid hl
                  have HAB := Lib.hid (HAI.out lb lo rfl (fun e => by rw [e] at hl; exact absurd hl (by simp)))
                  have g2 := led_nums hP.led hyn hyr
                  obtain ⟨_, g3, g4⟩ := hP.led.cells HM.out
                  have hyn' : ((ls.getD kk 0 : Nat) : Int) < (n : Int) := by omega
                  have HOW := Lib.hid (led_own hP HM.out)
                  generalize hy : ls.getD kk 0 = y at *
                  generalize hz : numF q n y = z at *
                  generalize hv : nx' b = vb at *
                  have HY := Lib.hid (And.intro hy (And.intro hz hv))
                  have hll : ((ls.take kk).map (numF q n)).length ≤ 2 := by rw [List.length_map, List.length_take]; omega
                  generalize hlp : (ls.take kk).map (numF q n) = lp at HP HOW hll
                  have HLP := Lib.hid hlp
                  have HLL := Lib.hid hll
                  clear hlp hll
                  clear hy hz hv hI hP hil hyr
                  have HA0 : Hid (AppAt w wr A n q nb g co B3 b lp w1.heap.size lb lo kk y z ls c1 vb) := Lib.hid ⟨⟨nx', HY.out.2.2, HP.out.2.2⟩, HP.out.1, HP.out.2.1, ⟨Nat.le_trans HLsz.out.2.2.2.1 HAB.out.1, HAB.out.2⟩, g1, g2, g3, g4, HOW.out, HM.out, ⟨HP.out.2.2.led.le.1, HP.out.2.2.led.le.2.1, HP.out.2.2.led.le.2.2.1, HP.out.2.2.led.le.2.2.2.1⟩⟩
                  go_upto_region 33 with fail
                  refine wp_region_held_drew (S := fun W' => W'.cell? ⟨lb, lo + kk, none⟩ = some (.int .i64 ((y : Nat) : Int)) ∧ W'.cell? ⟨nb, y, none⟩ = some (.int .i64 ((z : Nat) : Int))) (by kernel_rfl) ⟨g1, g2⟩ (fun hHeld => ?_)
                  have H1 := Lib.hid HA0.out.drew
                  generalize wr.drew = Y at H1 hHeld ⊢
                  clear g1 g2 g3 g4 HA0 HP HOW
                  refine wpAnyH_take (i := 0) (v := ?_) rfl (by kernel_rfl) (by kernel_rfl) (by kernel_rfl) (fun _ _ _ h => h) (Or.inl ⟨by rfl, ?_⟩) (by assumption) ?_
                  rotate_left
                  · intro wS hSw
                    (obtain ⟨s1, s2⟩ := hSw)
                    go_simp
                    all_goals with_reducible rfl
                  (try simp only [List.getElem_toArray, List.getElem_cons_zero, List.getElem_cons_succ, Act.put, List.setIfInBounds_toArray, List.set_cons_zero, List.set_cons_succ])
                  refine wpAnyH_take (i := 1) (v := ?_) rfl (by kernel_rfl) (by kernel_rfl) (by kernel_rfl) (fun _ _ _ h => h) (Or.inl ⟨by rfl, ?_⟩) (by assumption) ?_
                  rotate_left
                  · intro wS hSw
                    (obtain ⟨s1, s2⟩ := hSw)
                    go_simp
                    all_goals with_reducible rfl
                  (try simp only [List.getElem_toArray, List.getElem_cons_zero, List.getElem_cons_succ, Act.put, List.setIfInBounds_toArray, List.set_cons_zero, List.set_cons_succ])
                  refine wpAnyH_take (i := 2) (v := ?_) rfl (by kernel_rfl) (by kernel_rfl) (by kernel_rfl) (fun _ _ _ h => h) (Or.inl ⟨by rfl, ?_⟩) (by assumption) ?_
                  rotate_left
                  · intro wS hSw
                    (obtain ⟨s1, s2⟩ := hSw)
                    go_simp
                    all_goals with_reducible rfl
                  (try simp only [List.getElem_toArray, List.getElem_cons_zero, List.getElem_cons_succ, Act.put, List.setIfInBounds_toArray, List.set_cons_zero, List.set_cons_succ])
                  refine wpAnyH_take (i := 3) (v := ?_) rfl (by kernel_rfl) (by kernel_rfl) (by kernel_rfl) (fun _ _ _ h => h) (Or.inl ⟨by rfl, ?_⟩) (by assumption) ?_
                  rotate_left
                  · intro wS hSw
                    (obtain ⟨s1, s2⟩ := hSw)
                    go_simp
                    all_goals with_reducible rfl
                  (try simp only [List.getElem_toArray, List.getElem_cons_zero, List.getElem_cons_succ, Act.put, List.setIfInBounds_toArray, List.set_cons_zero, List.set_cons_succ])
                  refine wpAnyH_take (i := 4) (v := ?_) rfl (by kernel_rfl) (by kernel_rfl) (by kernel_rfl) (fun _ _ _ h => h) (Or.inl ⟨by rfl, ?_⟩) (by assumption) ?_
                  rotate_left
                  · intro wS hSw
                    (obtain ⟨s1, s2⟩ := hSw)
                    go_simp
                    all_goals with_reducible rfl
                  (try simp only [List.getElem_toArray, List.getElem_cons_zero, List.getElem_cons_succ, Act.put, List.setIfInBounds_toArray, List.set_cons_zero, List.set_cons_succ])
                  refine wpAnyH_take (i := 5) (v := ?_) rfl (by kernel_rfl) (by kernel_rfl) (by kernel_rfl) (fun _ _ _ h => h) (Or.inl ⟨by rfl, ?_⟩) (by assumption) ?_
                  rotate_left
                  · intro wS hSw
                    (obtain ⟨s1, s2⟩ := hSw)
                    go_simp
                    all_goals with_reducible rfl
                  (try simp only [List.getElem_toArray, List.getElem_cons_zero, List.getElem_cons_succ, Act.put, List.setIfInBounds_toArray, List.set_cons_zero, List.set_cons_succ])
                  refine wpAnyH_take (i := 7) (v := ?_) rfl (by kernel_rfl) (by kernel_rfl) (by kernel_rfl) (fun _ _ _ h => h) (Or.inl ⟨by rfl, ?_⟩) (by assumption) ?_
                  rotate_left
                  · intro wS hSw
                    (obtain ⟨s1, s2⟩ := hSw)
                    go_simp
                    all_goals with_reducible rfl
                  (try simp only [List.getElem_toArray, List.getElem_cons_zero, List.getElem_cons_succ, Act.put, List.setIfInBounds_toArray, List.set_cons_zero, List.set_cons_succ])
                  refine wpAnyH_take (i := 8) (v := ?_) rfl (by kernel_rfl) (by kernel_rfl) (by kernel_rfl) (fun _ _ _ h => h) (Or.inl ⟨by rfl, ?_⟩) (by assumption) ?_
                  rotate_left
                  · intro wS hSw
                    (obtain ⟨s1, s2⟩ := hSw)
                    go_simp
                    all_goals with_reducible rfl
                  (try simp only [List.getElem_toArray, List.getElem_cons_zero, List.getElem_cons_succ, Act.put, List.setIfInBounds_toArray, List.set_cons_zero, List.set_cons_succ])
                  refine wpAnyH_take (i := 9) (v := ?_) rfl (by kernel_rfl) (by kernel_rfl) (by kernel_rfl) (fun _ _ _ h => h) (Or.inl ⟨by rfl, ?_⟩) (by assumption) ?_
                  rotate_left
                  · intro wS hSw
                    (obtain ⟨s1, s2⟩ := hSw)
                    go_simp
                    all_goals with_reducible rfl
                  (try simp only [List.getElem_toArray, List.getElem_cons_zero, List.getElem_cons_succ, Act.put, List.setIfInBounds_toArray, List.set_cons_zero, List.set_cons_succ])
                  refine wpAnyH_take (i := 10) (v := ?_) rfl (by kernel_rfl) (by kernel_rfl) (by kernel_rfl) (fun _ _ _ h => h) (Or.inl ⟨by rfl, ?_⟩) (by assumption) ?_
                  rotate_left
                  · intro wS hSw
                    (obtain ⟨s1, s2⟩ := hSw)
                    go_simp
                    all_goals with_reducible rfl
                  (try simp only [List.getElem_toArray, List.getElem_cons_zero, List.getElem_cons_succ, Act.put, List.setIfInBounds_toArray, List.set_cons_zero, List.set_cons_succ])
                  refine wpAnyH_take (i := 11) (v := ?_) rfl (by kernel_rfl) (by kernel_rfl) (by kernel_rfl) (fun _ _ _ h => h) (Or.inl ⟨by rfl, ?_⟩) (by assumption) ?_
                  rotate_left
                  · intro wS hSw
                    (obtain ⟨s1, s2⟩ := hSw)
                    go_simp
                    all_goals with_reducible rfl
                  (try simp only [List.getElem_toArray, List.getElem_cons_zero, List.getElem_cons_succ, Act.put, List.setIfInBounds_toArray, List.set_cons_zero, List.set_cons_succ])
                  refine wpAnyH_take (i := 12) (v := ?_) rfl (by kernel_rfl) (by kernel_rfl) (by kernel_rfl) (fun _ _ _ h => h) (Or.inl ⟨by rfl, ?_⟩) (by assumption) ?_
                  rotate_left
                  · intro wS hSw
                    (obtain ⟨s1, s2⟩ := hSw)
                    go_simp
                    all_goals with_reducible rfl
                  (try simp only [List.getElem_toArray, List.getElem_cons_zero, List.getElem_cons_succ, Act.put, List.setIfInBounds_toArray, List.set_cons_zero, List.set_cons_succ])
                  refine wpAnyH_take (i := 13) (v := ?_) rfl (by kernel_rfl) (by kernel_rfl) (by kernel_rfl) (fun _ _ _ h => h) (Or.inl ⟨by rfl, ?_⟩) (by assumption) ?_
                  rotate_left
                  · intro wS hSw
                    (obtain ⟨s1, s2⟩ := hSw)
                    go_simp
                    all_goals with_reducible rfl
                  (try simp only [List.getElem_toArray, List.getElem_cons_zero, List.getElem_cons_succ, Act.put, List.setIfInBounds_toArray, List.set_cons_zero, List.set_cons_succ])
                  refine wpAnyH_ready (rs := [6, 14]) (by kernel_rfl) (by simp) (AllReadyH.cons rfl (fun K hK => ?_) (AllReadyH.cons rfl (fun K hK => ?_) AllReadyH.nil))
                  · have x0 := H1.out.next
                    go_simp
                    clear hHeld
                    refine hK.out _ _ ⟨H1.out.cy, H1.out.cz⟩ (fun hHeld0 => ?_)
                    clear hK K x0
                    (try simp only [Act.put, List.setIfInBounds_toArray, List.set_cons_zero, List.set_cons_succ, List.getElem_toArray, List.getElem_cons_zero, List.getElem_cons_succ])
                    refine held_one (i := 14) (by kernel_rfl) rfl (fun K hK => ?_)
                    go_simp
                    have H3 := Lib.hid (H1.out.more (z := z))
                    refine hK.out _ _ ⟨H3.out.cy, H3.out.cz⟩ (fun hH2 => ?_)
                    clear hK K hHeld0 H1
                    (try simp only [Act.put, List.setIfInBounds_toArray, List.set_cons_zero, List.set_cons_succ, List.getElem_toArray, List.getElem_cons_zero, List.getElem_cons_succ])
                    generalize hZ : Y.alloc (.cells #[.int .i64 ((z : Nat) : Int)] 3) = Z at H3 hH2 ⊢
                    generalize Y.heap.size = k9 at H3 ⊢
                    clear hZ
                    obtain ⟨i8, hi8, hz8, hs8, hb8⟩ := info_parts6 info_int10
                    refine held_one (i := 15) (by kernel_rfl) rfl (fun K hK => ?_)
                    rw [if_pos (by kernel_rfl)]
                    refine oper_append6 (.tmp 164) (.tmp 172) 23 rfl B3 3 i8 _ 1 8 Try.underlying23 hi8 hz8 hs8 hb8 rfl (by decide) vb lp.length (intL lp) rfl H3.out.own ⟨k9, 0, none⟩ 1 1 [.int .i64 ((z : Nat) : Int)] rfl rfl H3.out.new (int_one10 _ _) (by have := HLL.out; unfold maxLen; omega) (by have := HLL.out; omega) H3.out.le ?_
                    intro v9 Y4 ho hg hv9
                    obtain ⟨A9, c9, rfl⟩ := own_form10 ho
                    have H4 := Lib.hid (app_end H3.out ho hg hv9)
                    have hS4 := app_keep H3.out ho hg hv9
                    refine hK.out _ _ hS4.1 (fun hH3 => ?_)
                    have x1 := hS4.2.1
                    have x2 := hS4.2.2
                    clear hK K hH2 ho hg hv9 H3 hS4
                    (try simp only [Act.put, List.setIfInBounds_toArray, List.set_cons_zero, List.set_cons_succ, List.getElem_toArray, List.getElem_cons_zero, List.getElem_cons_succ])
                    refine wpAnyH_take (i := 16) (v := ?_) rfl (by kernel_rfl) (by kernel_rfl) (by kernel_rfl) (fun _ _ _ h => h) (Or.inl ⟨by rfl, ?_⟩) (by assumption) ?_
                    rotate_left
                    · intro wS hSw
                      (skip)
                      go_simp
                      all_goals with_reducible rfl
                    (try simp only [List.getElem_toArray, List.getElem_cons_zero, List.getElem_cons_succ, Act.put, List.setIfInBounds_toArray, List.set_cons_zero, List.set_cons_succ])
                    refine wpAnyH_take (i := 17) (v := ?_) rfl (by kernel_rfl) (by kernel_rfl) (by kernel_rfl) (fun _ _ _ h => h) (Or.inl ⟨by rfl, ?_⟩) (by assumption) ?_
                    rotate_left
                    · intro wS hSw
                      (skip)
                      go_simp
                      all_goals with_reducible rfl
                    (try simp only [List.getElem_toArray, List.getElem_cons_zero, List.getElem_cons_succ, Act.put, List.setIfInBounds_toArray, List.set_cons_zero, List.set_cons_succ])
                    refine held_one (i := 18) (by kernel_rfl) rfl (fun K hK => ?_)
                    go_simp
                    refine hK.out _ _ H4.out.1 (fun hH5 => ?_)
                    clear hK K hH3
                    (try simp only [Act.put, List.setIfInBounds_toArray, List.set_cons_zero, List.set_cons_succ, List.getElem_toArray, List.getElem_cons_zero, List.getElem_cons_succ])
                    refine wpAnyH_done (by kernel_rfl) ?_ _
                    go_wp2
                    obtain ⟨nx9, hnx⟩ := H4.out.2.2.2
                    exact ⟨⟨kk + 1, by have := HL.out; omega, by go_num, H4.out.2.1, H4.out.2.2.1, nx9, by rw [lead_snoc HL.out HY.out.1, HY.out.2.1, HLP.out]; exact hnx⟩, by simp [intOf]; have := HL.out; omega⟩
                  · go_simp
                    have H3 := Lib.hid (H1.out.more (z := z))
                    clear hHeld
                    refine hK.out _ _ ⟨H3.out.cy, H3.out.cz⟩ (fun hHeld0 => ?_)
                    clear hK K H1
                    (try simp only [Act.put, List.setIfInBounds_toArray, List.set_cons_zero, List.set_cons_succ, List.getElem_toArray, List.getElem_cons_zero, List.getElem_cons_succ])
                    refine held_one (i := 6) (by kernel_rfl) rfl (fun K hK => ?_)
                    have x0 := H3.out.next
                    go_simp
                    refine hK.out _ _ ⟨H3.out.cy, H3.out.cz⟩ (fun hH2 => ?_)
                    clear hK K x0 hHeld0
                    (try simp only [Act.put, List.setIfInBounds_toArray, List.set_cons_zero, List.set_cons_succ, List.getElem_toArray, List.getElem_cons_zero, List.getElem_cons_succ])
                    generalize hZ : Y.alloc (.cells #[.int .i64 ((z : Nat) : Int)] 3) = Z at H3 hH2 ⊢
                    generalize Y.heap.size = k9 at H3 ⊢
                    clear hZ
                    obtain ⟨i8, hi8, hz8, hs8, hb8⟩ := info_parts6 info_int10
                    refine held_one (i := 15) (by kernel_rfl) rfl (fun K hK => ?_)
                    rw [if_pos (by kernel_rfl)]
                    refine oper_append6 (.tmp 164) (.tmp 172) 23 rfl B3 3 i8 _ 1 8 Try.underlying23 hi8 hz8 hs8 hb8 rfl (by decide) vb lp.length (intL lp) rfl H3.out.own ⟨k9, 0, none⟩ 1 1 [.int .i64 ((z : Nat) : Int)] rfl rfl H3.out.new (int_one10 _ _) (by have := HLL.out; unfold maxLen; omega) (by have := HLL.out; omega) H3.out.le ?_
                    intro v9 Y4 ho hg hv9
                    obtain ⟨A9, c9, rfl⟩ := own_form10 ho
                    have H4 := Lib.hid (app_end H3.out ho hg hv9)
                    have hS4 := app_keep H3.out ho hg hv9
                    refine hK.out _ _ hS4.1 (fun hH3 => ?_)
                    have x1 := hS4.2.1
                    have x2 := hS4.2.2
                    clear hK K hH2 ho hg hv9 H3 hS4
                    (try simp only [Act.put, List.setIfInBounds_toArray, List.set_cons_zero, List.set_cons_succ, List.getElem_toArray, List.getElem_cons_zero, List.getElem_cons_succ])
                    refine wpAnyH_take (i := 16) (v := ?_) rfl (by kernel_rfl) (by kernel_rfl) (by kernel_rfl) (fun _ _ _ h => h) (Or.inl ⟨by rfl, ?_⟩) (by assumption) ?_
                    rotate_left
                    · intro wS hSw
                      (skip)
                      go_simp
                      all_goals with_reducible rfl
                    (try simp only [List.getElem_toArray, List.getElem_cons_zero, List.getElem_cons_succ, Act.put, List.setIfInBounds_toArray, List.set_cons_zero, List.set_cons_succ])
                    refine wpAnyH_take (i := 17) (v := ?_) rfl (by kernel_rfl) (by kernel_rfl) (by kernel_rfl) (fun _ _ _ h => h) (Or.inl ⟨by rfl, ?_⟩) (by assumption) ?_
                    rotate_left
                    · intro wS hSw
                      (skip)
                      go_simp
                      all_goals with_reducible rfl
                    (try simp only [List.getElem_toArray, List.getElem_cons_zero, List.getElem_cons_succ, Act.put, List.setIfInBounds_toArray, List.set_cons_zero, List.set_cons_succ])
                    refine held_one (i := 18) (by kernel_rfl) rfl (fun K hK => ?_)
                    go_simp
                    refine hK.out _ _ H4.out.1 (fun hH5 => ?_)
                    clear hK K hH3
                    (try simp only [Act.put, List.setIfInBounds_toArray, List.set_cons_zero, List.set_cons_succ, List.getElem_toArray, List.getElem_cons_zero, List.getElem_cons_succ])
                    refine wpAnyH_done (by kernel_rfl) ?_ _
                    go_wp2
                    obtain ⟨nx9, hnx⟩ := H4.out.2.2.2
                    exact ⟨⟨kk + 1, by have := HL.out; omega, by go_num, H4.out.2.1, H4.out.2.2.1, nx9, by rw [lead_snoc HL.out HY.out.1, HY.out.2.1, HLP.out]; exact hnx⟩, by simp [intOf]; have := HL.out; omega⟩
                · have hl' : ¬ (kk : Int) < (ls.length : Int) := by omega
                  obtain rfl : kk = ls.length := by omega
                  clear hI hP
                  go_wp2
                  exact ⟨⟨b + 1, by omega, by go_num, nx', HP.out.2.2.out (by rw [List.take_length, HLD.out])⟩, by simp [intOf]; omega⟩
            · obtain rfl : b = (blkF q n).length := by omega
              clear hLO
              go_wp2
              go_ret
              exact ⟨_, _, rfl, led_end HLO.out.led (fun k hk => if_pos hk), HLO.out.led.bel⟩
end Go.Proofs.Ytaphbcjehcnggaa
namespace Go.Proofs.Ytaphbcjehcnggaa
open Go Go.RowKit
set_option linter.unusedSimpArgs false
set_option linter.unusedVariables false

theorem BoolsAt.put {W : World} {b n : Nat} {f : Nat → Bool} (h : BoolsAt W b n f) (k : Nat) (x : Bool) : BoolsAt (W.setCell ⟨b, k, none⟩ (.bool x)) b n fun j => if j = k then x else f j :=
  World.rowIs.congr (World.rowIs.set h k _) fun i hi => by
    by_cases e : i = k
    · rw [if_pos e]; simp [e]
    · rw [if_neg e]; simp [e]
/-- Blocks, and a row of bools behind them. -/
structure CanAt (w W : World) (A : Option Addr) (q : Nat → Ins) (n b : Nat) (f : Nat → Bool) : Prop where
  blks : BlksAt w A (blkF q n) (leadF q n)
  row : BoolsAt W b (blkF q n).length f
  bel : Below w.heap.size w W
  le : w.heap.size ≤ b
theorem CanAt.q {w W : World} {A : Option Addr} {q : Nat → Ins} {n b : Nat} {f : Nat → Bool} (h : CanAt w W A q n b f) : BlksAt W A (blkF q n) (leadF q n) := h.blks.below h.bel
theorem CanAt.on {w W : World} {A : Option Addr} {q : Nat → Ins} {n b : Nat} {f : Nat → Bool} (h : CanAt w W A q n b f) (k : Nat) : CanAt w (W.setCell ⟨b, k, none⟩ (.bool true)) A q n b (fun j => f j || decide (j = k)) :=
  ⟨h.blks, h.row.on k, h.bel.setCell (p := ⟨b, k, none⟩) h.le _, h.le⟩
theorem CanAt.congr {w W : World} {A : Option Addr} {q : Nat → Ins} {n b : Nat} {f g : Nat → Bool} (h : CanAt w W A q n b f) (e : ∀ i, i < (blkF q n).length → f i = g i) : CanAt w W A q n b g := ⟨h.blks, h.row.congr e, h.bel, h.le⟩
/-- Some of the blocks to which a block leads have been marked. -/
def partC (q : Nat → Ins) (n c m kk : Nat) (j : Nat) : Bool := canN q n c m j || ((leadF q n m).take kk).contains j
theorem partC_zero (q : Nat → Ins) (n c m j : Nat) : partC q n c m 0 j = canN q n c m j := by unfold partC; simp
theorem partC_succ {q : Nat → Ins} {n c m kk : Nat} (h : kk < (leadF q n m).length) (j : Nat) : (partC q n c m kk j || decide (j = (leadF q n m).getD kk 0)) = partC q n c m (kk + 1) j := by
  unfold partC
  have e : (leadF q n m).take (kk + 1) = (leadF q n m).take kk ++ [(leadF q n m).getD kk 0] := by
    rw [List.take_add_one, List.getD_eq_getElem?_getD, List.getElem?_eq_getElem h]; rfl
  rw [e, List.contains_append, Bool.or_assoc]
  congr 2
  simp
theorem partC_all {q : Nat → Ins} {n c m : Nat} (h : canN q n c m m = true) (hc : m ≠ c) (j : Nat) : partC q n c m (leadF q n m).length j = canN q n c (m + 1) j := by
  unfold partC
  rw [List.take_length, canN, h, decide_eq_true hc, Bool.true_and, Bool.true_and]
theorem partC_self {q : Nat → Ins} {n c m : Nat} (hm : m < (blkF q n).length) (kk : Nat) : partC q n c m kk m = canN q n c m m := by
  unfold partC
  have : ((leadF q n m).take kk).contains m = false := by
    rw [Bool.eq_false_iff]
    intro h
    have := lead_in hm (List.mem_of_mem_take (List.contains_iff_mem.1 h))
    omega
  rw [this, Bool.or_false]
theorem can_stay {q : Nat → Ins} {n c m : Nat} (h : canN q n c m m = false ∨ m = c) (j : Nat) : canN q n c m j = canN q n c (m + 1) j := by
  rw [canN]
  rcases h with h | h
  · rw [h, Bool.false_and, Bool.false_and, Bool.or_false]
  · rw [decide_eq_false (fun e => e h), Bool.and_false, Bool.false_and, Bool.or_false]
theorem lead_at {q : Nat → Ins} {n m kk : Nat} (hm : m < (blkF q n).length) (h : kk < (leadF q n m).length) : (leadF q n m).getD kk 0 < (blkF q n).length := by
  rw [List.getD_eq_getElem?_getD, List.getElem?_eq_getElem h]
  exact (lead_in hm (List.getElem_mem h)).2
theorem lead_len {q : Nat → Ins} {n m : Nat} : (leadF q n m).length ≤ 2 := by
  unfold leadF
  rw [List.length_map]
  exact next_len _
theorem IntsAt.away {w : World} {A : Option Addr} {l : List Nat} {g j : Nat} {u : Value} (h : IntsAt w A l) (hg : ∀ b o, A = some ⟨b, o, none⟩ → l ≠ [] → b ≠ g) : IntsAt (w.setCell ⟨g, j, none⟩ u) A l := fun hl => by
  obtain ⟨b, o, rfl, hb, hc⟩ := h hl
  have := hg b o rfl (List.length_pos_iff.1 hl)
  exact ⟨b, o, rfl, by simpa [World.setCell] using hb, fun i hi => by rw [World.cell?_setCell_far _ _ _ _ (by show g ≠ b; omega)]; exact hc i hi⟩
set_option maxHeartbeats 4000000 in
set_option maxRecDepth 100000 in
theorem r_without {w : World} {A : Option Addr} {n : Nat} (cap : Nat) {q : Nat → Ins} (h : BlksAt w A (blkF q n) (leadF q n)) (c : Nat) (h0 : 0 < (blkF q n).length) (hn : (blkF q n).length ≤ 4096) :
    Calls Try.prog 35 #[.slice A (blkF q n).length cap, .int .i64 (c : Int)] w fun e w' => e = .returned (.slice (some ⟨w.heap.size, 0, none⟩) (blkF q n).length (blkF q n).length) ∧ BoolsAt w' w.heap.size (blkF q n).length (canF q n c) ∧ Below w.heap.size w w' := by
  obtain ⟨N, hN⟩ : ∃ N, N = (blkF q n).length := ⟨_, rfl⟩
  obtain ⟨O, hmk, hO⟩ := make_zero 30 4 (.bool false) 1 Try.underlying30 info_bool10 rfl N (by omega) (by omega)
  have hf := World.rowIs.frozen (hO w) 0
  have hx0 := World.rowIs.cell (hO w) (i := 0) (by omega)
  obtain ⟨bc, hbc⟩ : ∃ bc : Bool, bc = ((c : Int) != 0) := ⟨_, rfl⟩
  have HS : Hid (CanAt w ((w.alloc O).setCell ⟨w.heap.size, 0, none⟩ (.bool bc)) A q n w.heap.size (canN q n c 0)) := Lib.hid (by
    have h1 : BoolsAt (w.alloc O) w.heap.size (blkF q n).length (fun _ => false) := hN ▸ hO w
    refine ⟨h, (h1.put 0 bc).congr fun i _ => ?_, ((lbox10 w O).setCell (p := ⟨w.heap.size, 0, none⟩) (Nat.le_refl _) _), Nat.le_refl _⟩
    rw [canN, hbc]
    by_cases e : i = 0
    · rw [if_pos e]
      by_cases e2 : c = 0
      · simp [e, e2]
      · have : ((c : Int) != 0) = true := bne_iff_ne.2 (by omega)
        rw [this]; simp [e, e2]
    · rw [if_neg e]; simp [e])
  have hbc' : ((c : Int) != 0) = bc := hbc.symm
  have hlt0 : (0 : Int) < (N : Int) := by omega
  have HNN := Lib.hid hN
  rw [← hN] at h0 hn ⊢
  clear h hO hbc hN
  go_enter Try.func35, Try.ntmps35
  go_wp2
  go_loopw [6] (fun i wr => ∃ m : Nat, m ≤ N ∧ i = .int .i64 (m : Int) ∧ CanAt w wr A q n w.heap.size (canN q n c m)) (fun i _ => N - (intOf i).toNat)
  case atStart => exact ⟨0, by omega, rfl, HS.out⟩
  case round =>
    obtain ⟨m, hm, rfl, hR⟩ := hrel
    have HR := Lib.hid hR
    clear HS
    by_cases hlt : m < N
    · have hlt' : (m : Int) < (N : Int) := by omega
      have hw1 : IntKind.i64.wrap ((m : Int) + 1) = ((m + 1 : Nat) : Int) := by rw [IntWalk.i64_in _ (by omega)]; omega
      have HM : Hid (m < (blkF q n).length) := Lib.hid (HNN.out ▸ hlt)
      obtain ⟨g, o, rfl, hgl, hgc⟩ := hR.q
      obtain ⟨_, _, An, cn, x2, hi⟩ := hgc m HM.out
      have hsz := HR.out.row.lt
      have g0 := HR.out.row.cell HM.out
      have hgw : g < w.heap.size := by
        obtain ⟨g', o', e, hl, _⟩ := HR.out.blks
        injection e with e; injection e with e1 e2
        omega
      have HAN : Hid (∀ b o', An = some ⟨b, o', none⟩ → leadF q n m ≠ [] → b ≠ w.heap.size) := Lib.hid (fun b o' e hne => by
        obtain ⟨g', o2, e2, hl2, hc2⟩ := HR.out.blks
        injection e2 with e2; injection e2 with e21 e22
        subst e21 e22
        obtain ⟨_, _, An', cn', y2, hi'⟩ := hc2 m HM.out
        have hx := HR.out.bel.cell (p := ⟨g, o + m * 3 + 2, none⟩) hl2
        rw [y2, x2] at hx
        injection hx with hx; injection hx with hx1 hx2 hx3
        subst hx1
        obtain ⟨b3, o3, e3, hl3, _⟩ := hi' (List.length_pos_iff.2 hne)
        rw [e] at e3; injection e3 with e3; injection e3 with e3
        omega)
      have HI := Lib.hid hi
      have hlen := lead_len (q := q) (n := n) (m := m)
      obtain ⟨LL, hLL⟩ : ∃ LL, LL = (leadF q n m).length := ⟨_, rfl⟩
      have HLL := Lib.hid hLL
      rw [← hLL] at x2 hlen
      clear hR hgc hi hLL hgl
      by_cases hex : canN q n c m m = false ∨ m = c
      · have HE := Lib.hid hex
        go_wp2
        go_loopw [7] (fun k V => k = .int .i64 0 ∧ V = wr) (fun _ _ => 0)
        case atStart => exact ⟨rfl, rfl⟩
        case round =>
          obtain ⟨rfl, rfl⟩ := hrel
          by_cases hl : 0 < LL
          · have hl' : (0 : Int) < (LL : Int) := by omega
            cases hcn : canN q n c m m with
            | false =>
              rw [hcn] at g0
              clear hex hcn
              go_wp2
              exact ⟨⟨m + 1, by omega, by go_num, HR.out.congr fun j _ => can_stay HE.out j⟩, by simp [intOf]; omega⟩
            | true =>
              rw [hcn] at g0
              have hmc : ((m : Int) != (c : Int)) = false := by
                rcases hex with e | e
                · rw [hcn] at e; cases e
                · rw [e]; exact bne_self_eq_false _
              clear hex hcn
              go_wp2
              exact ⟨⟨m + 1, by omega, by go_num, HR.out.congr fun j _ => can_stay HE.out j⟩, by simp [intOf]; omega⟩
          · have hl' : ¬ (0 : Int) < (LL : Int) := by omega
            clear hex
            go_wp2
            exact ⟨⟨m + 1, by omega, by go_num, HR.out.congr fun j _ => can_stay HE.out j⟩, by simp [intOf]; omega⟩
      · have hct : canN q n c m m = true := by
          cases e : canN q n c m m
          · exact absurd (.inl e) hex
          · rfl
        have hmc0 : m ≠ c := fun e => hex (.inr e)
        have hmc : ((m : Int) != (c : Int)) = true := bne_iff_ne.2 (by omega)
        have HCT := Lib.hid (And.intro hct hmc0)
        have HX2 := Lib.hid x2
        clear hex hct hmc0 g0
        go_wp2
        go_loopw [7] (fun k V => ∃ kk : Nat, kk ≤ LL ∧ k = .int .i64 (kk : Int) ∧ V.cell? ⟨g, o + m * 3 + 2, none⟩ = some (.slice An LL cn) ∧ IntsAt V An (leadF q n m) ∧ CanAt w V (some ⟨g, o, none⟩) q n w.heap.size (partC q n c m kk)) (fun k _ => LL - (intOf k).toNat)
        case atStart => exact ⟨0, by omega, rfl, HX2.out, HI.out, HR.out.congr fun j _ => (partC_zero q n c m j).symm⟩
        case round =>
          obtain ⟨kk, hkk, rfl, hX, hI, hP⟩ := hrel
          have HP := Lib.hid (And.intro hX (And.intro hI hP))
          clear x2
          by_cases hl : kk < LL
          · have hl' : (kk : Int) < (LL : Int) := by omega
            have hw2 : IntKind.i64.wrap ((kk : Int) + 1) = ((kk + 1 : Nat) : Int) := by rw [IntWalk.i64_in _ (by omega)]; omega
            have g0 := hP.row.cell HM.out
            rw [partC_self HM.out, HCT.out.1] at g0
            have HL : Hid (kk < (leadF q n m).length) := Lib.hid (HLL.out ▸ hl)
            obtain ⟨ib, io, rfl, hil, g1⟩ := ints_cell hI HL.out
            have hyn := lead_at HM.out HL.out
            have g2 := hP.row.cell hyn
            have g3 := hP.row.free ((leadF q n m).getD kk 0)
            have hyn' : (((leadF q n m).getD kk 0 : Nat) : Int) < (N : Int) := by rw [HNN.out]; omega
            clear hI hP hil
            generalize hy : (leadF q n m).getD kk 0 = y at *
            have HY := Lib.hid hy
            clear hy
            go_wp2
            refine ⟨⟨kk + 1, by omega, by go_num, ?_, HP.out.2.1.away HAN.out, (HP.out.2.2.on y).congr fun j _ => by rw [← partC_succ HL.out, HY.out]⟩, by simp [intOf]; omega⟩
            rw [World.cell?_setCell_far _ _ _ _ (by show w.heap.size ≠ g; omega)]; exact HP.out.1
          · have hl' : ¬ (kk : Int) < (LL : Int) := by omega
            obtain rfl : LL = kk := by omega
            clear hI hP
            go_wp2
            exact ⟨⟨m + 1, by omega, by go_num, HP.out.2.2.congr fun j _ => by rw [HLL.out]; exact partC_all HCT.out.1 HCT.out.2 j⟩, by simp [intOf]; omega⟩
    · obtain rfl : N = m := by omega
      go_wp2
      go_ret
      refine ⟨rfl, ?_, HR.out.bel⟩
      have := HR.out.row
      rw [HNN.out] at this ⊢
      exact this
/-- Numbers with a sign in a row that may be written. -/
def ZsAt (W : World) (b n : Nat) (f : Nat → Int) : Prop := W.rowIs b 3 n fun j => .int .i64 (f j)
theorem ZsAt.below {W W' : World} {b n : Nat} {f : Nat → Int} (h : ZsAt W b n f) (hb : Below W.heap.size W W') : ZsAt W' b n f := row_below10 h hb
theorem ZsAt.cell {W : World} {b n : Nat} {f : Nat → Int} (h : ZsAt W b n f) {i : Nat} (hi : i < n) : W.cell? ⟨b, i, none⟩ = some (.int .i64 (f i)) := World.rowIs.cell h hi
theorem ZsAt.lt {W : World} {b n : Nat} {f : Nat → Int} (h : ZsAt W b n f) : b < W.heap.size := World.rowIs.lt h
theorem ZsAt.free {W : World} {b n : Nat} {f : Nat → Int} (h : ZsAt W b n f) (j : Nat) : W.frozen? ⟨b, j, none⟩ = false := World.rowIs.frozen h j
theorem ZsAt.congr {W : World} {b n : Nat} {f g : Nat → Int} (h : ZsAt W b n f) (e : ∀ i, i < n → f i = g i) : ZsAt W b n g := World.rowIs.congr h fun i hi => by rw [e i hi]
theorem ZsAt.set {W : World} {b n : Nat} {f : Nat → Int} (h : ZsAt W b n f) (k : Nat) (x : Int) : ZsAt (W.setCell ⟨b, k, none⟩ (.int .i64 x)) b n fun j => if j = k then x else f j :=
  World.rowIs.congr (World.rowIs.set h k _) fun i hi => by
    by_cases e : i = k
    · rw [if_pos e]; simp [e]
    · rw [if_neg e]; simp [e]
theorem ZsAt.holds {W : World} {b n : Nat} {f : Nat → Int} (h : ZsAt W b n f) : Holds W (some ⟨b, 0, none⟩) n fun j => .int .i64 (f j) := holds_of_row h (Nat.le_refl _)
/-- While it is told what lies above. -/
structure AbvAt (w W : World) (A : Option Addr) (q : Nat → Ins) (n b : Nat) (f : Nat → Int) : Prop where
  blks : BlksAt w A (blkF q n) (leadF q n)
  row : ZsAt W b (blkF q n).length f
  bel : Below w.heap.size w W
  le : w.heap.size ≤ b
theorem AbvAt.q {w W : World} {A : Option Addr} {q : Nat → Ins} {n b : Nat} {f : Nat → Int} (h : AbvAt w W A q n b f) : BlksAt W A (blkF q n) (leadF q n) := h.blks.below h.bel
theorem AbvAt.up {w W W' : World} {A : Option Addr} {q : Nat → Ins} {n b : Nat} {f : Nat → Int} (h : AbvAt w W A q n b f) (hb : Below W.heap.size W W') : AbvAt w W' A q n b f := ⟨h.blks, h.row.below hb, h.bel.trans (hb.mono h.bel.size), h.le⟩
theorem AbvAt.set {w W : World} {A : Option Addr} {q : Nat → Ins} {n b : Nat} {f : Nat → Int} (h : AbvAt w W A q n b f) (k : Nat) (x : Int) : AbvAt w (W.setCell ⟨b, k, none⟩ (.int .i64 x)) A q n b (fun j => if j = k then x else f j) :=
  ⟨h.blks, h.row.set k x, h.bel.setCell (p := ⟨b, k, none⟩) h.le _, h.le⟩
theorem AbvAt.congr {w W : World} {A : Option Addr} {q : Nat → Ins} {n b : Nat} {f g : Nat → Int} (h : AbvAt w W A q n b f) (e : ∀ i, i < (blkF q n).length → f i = g i) : AbvAt w W A q n b g := ⟨h.blks, h.row.congr e, h.bel, h.le⟩
def partA (q : Nat → Ins) (n c kk : Nat) (j : Nat) : Int := if j < kk then aboveN q n j (c + 1) else aboveN q n j c
theorem partA_put {q : Nat → Ins} {n c kk : Nat} (h : kk ≠ c ∧ canF q n c kk = false) (j : Nat) : (if j = kk then (c : Int) else partA q n c kk j) = partA q n c (kk + 1) j := by
  unfold partA
  by_cases e : j = kk
  · subst e; rw [if_pos rfl, if_pos (by omega), aboveN, if_pos h]
  · rw [if_neg e]
    by_cases e2 : j < kk
    · rw [if_pos e2, if_pos (by omega)]
    · rw [if_neg e2, if_neg (by omega)]
theorem partA_stay {q : Nat → Ins} {n c kk : Nat} (h : ¬ (kk ≠ c ∧ canF q n c kk = false)) (j : Nat) : partA q n c kk j = partA q n c (kk + 1) j := by
  unfold partA
  by_cases e : j = kk
  · subst e; rw [if_neg (by omega), if_pos (by omega), aboveN, if_neg h]
  · by_cases e2 : j < kk
    · rw [if_pos e2, if_pos (by omega)]
    · rw [if_neg e2, if_neg (by omega)]
set_option maxHeartbeats 4000000 in
set_option maxRecDepth 100000 in
theorem r_Above {w : World} {A : Option Addr} {n : Nat} (cap : Nat) {q : Nat → Ins} (h : ProgAt w A n q) (hok : ∀ i, i < n → (q i).OK) (h0 : 0 < n) (hn : n ≤ 4096) :
    Calls Try.prog 22 #[.slice A n cap] w fun e w' => ∃ b, e = .returned (.slice (some ⟨b, 0, none⟩) (blkF q n).length (blkF q n).length) ∧ ZsAt w' b (blkF q n).length (aboveF q n) ∧ Below w.heap.size w w' := by
  have hle : (blkF q n).length ≤ 4096 := Nat.le_trans (blk_len n) hn
  obtain ⟨N, hN⟩ : ∃ N, N = (blkF q n).length := ⟨_, rfl⟩
  obtain ⟨O, hmk, hO⟩ := make_zero 23 3 (.int .i64 0) 8 Try.underlying23 info_int10 rfl N (by omega) (by omega)
  have HNN := Lib.hid hN
  have HLE := Lib.hid hle
  have HBL : Hid (Calls Try.prog 20 #[.slice A n cap] w fun e w' => ∃ A' c, e = .returned (.slice A' N c) ∧ BlksAt w' A' (blkF q n) (leadF q n) ∧ Below w.heap.size w w') := Lib.hid (by rw [hN]; exact r_Blocks cap h hok h0 hn)
  have hs0 : 0 < N := by rw [hN]; exact blk_some h0
  have HOO := Lib.hid hO
  rw [← hN] at hle ⊢
  clear h hok hO hN
  go_enter Try.func22, Try.ntmps22
  go_wp2_with (go_at_call 20; (with_reducible refine HBL.out.mono ?_); rintro e wB ⟨Ab, cb, rfl, hbk, hb⟩; have HB0 := Lib.hid (And.intro hbk hb); clear hbk hb)
  have HS : Hid (AbvAt wB (wB.alloc O) Ab q n wB.heap.size (fun _ => 0) ∧ Below w.heap.size w wB) := Lib.hid ⟨⟨HB0.out.1, HNN.out ▸ HOO.out wB, lbox10 _ _, Nat.le_refl _⟩, HB0.out.2⟩
  clear HB0 HOO
  go_loopw [5] (fun i wr => ∃ m : Nat, m ≤ N ∧ i = .int .i64 (m : Int) ∧ AbvAt wB wr Ab q n wB.heap.size (fun j => if j < m then -1 else 0)) (fun i _ => N - (intOf i).toNat)
  case atStart => exact ⟨0, by omega, rfl, HS.out.1.congr fun j _ => by rw [if_neg (by omega)]⟩
  case round =>
    obtain ⟨m, hm, rfl, hR⟩ := hrel
    have HR := Lib.hid hR
    by_cases hlt : m < N
    · have hlt' : (m : Int) < (N : Int) := by omega
      have hw1 : IntKind.i64.wrap ((m : Int) + 1) = ((m + 1 : Nat) : Int) := by rw [IntWalk.i64_in _ (by omega)]; omega
      have g0 := hR.row.cell (i := m) (HNN.out ▸ hlt)
      have g1 := hR.row.free m
      clear hR
      go_wp2
      exact ⟨⟨m + 1, by omega, by go_num, (HR.out.set m (-1)).congr fun j _ => by
        by_cases e : j = m
        · rw [if_pos e, if_pos (by omega)]
        · rw [if_neg e]
          by_cases e2 : j < m
          · rw [if_pos e2, if_pos (by omega)]
          · rw [if_neg e2, if_neg (by omega)]⟩, by simp [intOf]; omega⟩
    · obtain rfl : N = m := by omega
      have HR2 : Hid (AbvAt wB wr Ab q n wB.heap.size (fun j => aboveN q n j 0)) := Lib.hid (HR.out.congr fun j hj => by rw [if_pos (by rw [HNN.out]; exact hj)]; rfl)
      clear hR HR
      go_wp2
      go_loopw [6] (fun i wr => ∃ m : Nat, m ≤ N ∧ i = .int .i64 (m : Int) ∧ AbvAt wB wr Ab q n wB.heap.size (fun j => aboveN q n j m)) (fun i _ => N - (intOf i).toNat)
      case atStart => exact ⟨0, by omega, rfl, HR2.out⟩
      case round =>
        obtain ⟨m, hm, rfl, hR⟩ := hrel
        have HR := Lib.hid hR
        clear HR2
        by_cases hlt : m < N
        · have hlt' : (m : Int) < (N : Int) := by omega
          have hw1 : IntKind.i64.wrap ((m : Int) + 1) = ((m + 1 : Nat) : Int) := by rw [IntWalk.i64_in _ (by omega)]; omega
          have HM : Hid (m < (blkF q n).length) := Lib.hid (HNN.out ▸ hlt)
          have HW : Hid (Calls Try.prog 35 #[.slice Ab N cb, .int .i64 (m : Int)] wr fun e w' => e = .returned (.slice (some ⟨wr.heap.size, 0, none⟩) N N) ∧ BoolsAt w' wr.heap.size N (canF q n m) ∧ Below wr.heap.size wr w') := Lib.hid (by
            have := r_without cb hR.q m (by have := HM.out; omega) HLE.out
            rwa [← HNN.out] at this)
          clear hR
          go_wp2_with (go_at_call 35; (with_reducible refine HW.out.mono ?_); rintro e w1 ⟨rfl, hcn, hb1⟩; have H1 := Lib.hid (And.intro hcn (HR.out.up hb1)); clear hcn hb1)
          have hrb := HR.out.row.lt
          generalize hcb : wr.heap.size = cbk at H1 hrb ⊢
          clear hcb
          go_loopw [8] (fun k V => ∃ kk : Nat, kk ≤ N ∧ k = .int .i64 (kk : Int) ∧ BoolsAt V cbk N (canF q n m) ∧ AbvAt wB V Ab q n wB.heap.size (partA q n m kk)) (fun k _ => N - (intOf k).toNat)
          case atStart => exact ⟨0, by omega, rfl, H1.out.1, H1.out.2.congr fun j _ => by unfold partA; rw [if_neg (by omega)]⟩
          case round =>
            obtain ⟨kk, hkk, rfl, hC, hP⟩ := hrel
            have HP := Lib.hid (And.intro hC hP)
            by_cases hl : kk < N
            · have hl' : (kk : Int) < (N : Int) := by omega
              have hw2 : IntKind.i64.wrap ((kk : Int) + 1) = ((kk + 1 : Nat) : Int) := by rw [IntWalk.i64_in _ (by omega)]; omega
              have g0 := hC.cell hl
              have g1 := hP.row.cell (i := kk) (HNN.out ▸ hl)
              have g2 := hP.row.free kk
              clear hC hP
              by_cases he : kk = m
              · have heb : ((kk : Int) != (m : Int)) = false := by rw [he]; exact bne_self_eq_false _
                have HE := Lib.hid he
                clear he
                go_wp2
                exact ⟨⟨kk + 1, by omega, by go_num, HP.out.1, HP.out.2.congr fun j _ => partA_stay (fun h => h.1 HE.out) j⟩, by simp [intOf]; omega⟩
              · have heb : ((kk : Int) != (m : Int)) = true := bne_iff_ne.2 (by omega)
                have HE := Lib.hid he
                clear he
                cases hcc : canF q n m kk with
                | true =>
                  rw [hcc] at g0
                  have HCC := Lib.hid hcc
                  clear hcc
                  go_wp2
                  exact ⟨⟨kk + 1, by omega, by go_num, HP.out.1, HP.out.2.congr fun j _ => partA_stay (fun h => by rw [HCC.out] at h; cases h.2) j⟩, by simp [intOf]; omega⟩
                | false =>
                  rw [hcc] at g0
                  have HCC := Lib.hid hcc
                  clear hcc
                  go_wp2
                  exact ⟨⟨kk + 1, by omega, by go_num, HP.out.1.other (by omega), (HP.out.2.set kk (m : Int)).congr fun j _ => partA_put ⟨HE.out, HCC.out⟩ j⟩, by simp [intOf]; omega⟩
            · obtain rfl : N = kk := by omega
              clear hC hP
              go_wp2
              exact ⟨⟨m + 1, by omega, by go_num, HP.out.2.congr fun j hj => by unfold partA; rw [if_pos (by rw [HNN.out]; exact hj)]⟩, by simp [intOf]; omega⟩
        · obtain rfl : N = m := by omega
          clear hR
          go_wp2
          go_ret
          refine ⟨wB.heap.size, rfl, ?_, HS.out.2.trans (HR.out.bel.mono HS.out.2.size)⟩
          have := HR.out.row
          rw [HNN.out] at this ⊢
          exact this
/-! ### Comparing -/
def eqN (n : Nat) (f : Nat → Int) (m : Nat) (g : Nat → Int) : Bool := decide (n = m) && (List.range n).all fun i => decide (f i = g i)
theorem eqN_true {n m : Nat} {f g : Nat → Int} (h : n = m) (e : ∀ i, i < n → f i = g i) : eqN n f m g = true := by
  unfold eqN
  rw [decide_eq_true h, Bool.true_and, List.all_eq_true]
  exact fun i hi => by simpa using e i (List.mem_range.1 hi)
theorem eqN_len {n m : Nat} {f g : Nat → Int} (h : n ≠ m) : eqN n f m g = false := by unfold eqN; rw [decide_eq_false h, Bool.false_and]
theorem eqN_at {n m : Nat} {f g : Nat → Int} {i : Nat} (hi : i < n) (h : f i ≠ g i) : eqN n f m g = false := by
  unfold eqN
  rw [Bool.and_eq_false_iff]
  refine .inr ?_
  rw [Bool.eq_false_iff]
  intro hall
  have := List.all_eq_true.1 hall i (List.mem_range.2 hi)
  exact h (by simpa using this)
theorem eqN_is {n m : Nat} {f g : Nat → Int} (h : eqN n f m g = true) : n = m ∧ ∀ i, i < n → f i = g i := by
  unfold eqN at h
  rw [Bool.and_eq_true] at h
  exact ⟨by simpa using h.1, fun i hi => by simpa using List.all_eq_true.1 h.2 i (List.mem_range.2 hi)⟩
set_option maxHeartbeats 2000000 in
set_option maxRecDepth 100000 in
theorem l_numbers {w : World} {A B : Option Addr} {n m ca cb : Nat} {f g : Nat → Int} (ha : Holds w A n fun i => .int .i64 (f i)) (hb : Holds w B m fun i => .int .i64 (g i)) (hn : n ≤ 17592186044416) :
    Calls Try.prog 11 #[.slice A n ca, .slice B m cb] w fun e w' => e = .returned (.bool (eqN n f m g)) ∧ Below w.heap.size w w' := by
  by_cases hnm : n = m
  · subst hnm
    have HA := Lib.hid (And.intro ha hb)
    have hne : ((n : Int) != (n : Int)) = false := bne_self_eq_false _
    have HT : Hid (∀ e : ∀ i, i < n → f i = g i, eqN n f n g = true) := Lib.hid (fun e => eqN_true rfl e)
    clear ha hb
    go_enter Try.func11, Try.ntmps11
    go_wp2
    go_loopw [5] (fun i wr => ∃ k : Nat, k ≤ n ∧ i = .int .i64 (k : Int) ∧ (∀ j, j < k → f j = g j) ∧ Below w.heap.size w wr) (fun i _ => n - (intOf i).toNat)
    case atStart => exact ⟨0, by omega, rfl, fun j hj => absurd hj (Nat.not_lt_zero _), Below.refl _ _⟩
    case round =>
      obtain ⟨k, hk, rfl, he, hbl⟩ := hrel
      have HE := Lib.hid (And.intro he hbl)
      have HH := Lib.hid (And.intro (HA.out.1.below hbl) (HA.out.2.below hbl))
      clear he hbl
      by_cases hlt : k < n
      · have hlt' : (k : Int) < (n : Int) := by omega
        have hw1 : IntKind.i64.wrap ((k : Int) + 1) = ((k + 1 : Nat) : Int) := by rw [IntWalk.i64_in _ (by omega)]; omega
        obtain ⟨b1, o1, rfl, _, c1⟩ := HH.out.1 (by omega)
        obtain ⟨b2, o2, rfl, _, c2⟩ := HH.out.2 (by omega)
        have g1 := c1 k hlt
        have g2 := c2 k hlt
        clear c1 c2
        by_cases hfg : f k = g k
        · have hne2 : (f k != g k) = false := by rw [hfg]; exact bne_self_eq_false _
          have HE2 : Hid (∀ j, j < k + 1 → f j = g j) := Lib.hid (fun j hj => by
            rcases Nat.lt_or_ge j k with h | h
            · exact HE.out.1 j h
            · rw [show j = k by omega]; exact hfg)
          clear hfg
          go_wp2
          go_quiet (fail)
          go_wp2
          exact ⟨⟨k + 1, by omega, by go_num, HE2.out, below_drawn HE.out.2 _⟩, by simp [intOf]; omega⟩
        · have hne2 : (f k != g k) = true := bne_iff_ne.2 hfg
          have HFG := Lib.hid (eqN_at (m := n) hlt hfg)
          clear hfg
          go_wp2
          go_quiet (fail)
          go_wp2
          go_ret
          exact ⟨by rw [HFG.out]; rfl, below_drawn HE.out.2 _⟩
      · obtain rfl : n = k := by omega
        go_wp2
        go_ret
        exact ⟨by rw [HT.out HE.out.1]; rfl, HE.out.2⟩
  · have hne : ((n : Int) != (m : Int)) = true := bne_iff_ne.2 (by omega)
    rw [eqN_len hnm]
    clear ha hb hnm
    go_enter Try.func11, Try.ntmps11
    go_wp2
    go_ret
    exact ⟨rfl, Below.refl _ _⟩
end Go.Proofs.Ytaphbcjehcnggaa
namespace Go.Proofs.Ytaphbcjehcnggaa
open Go Go.RowKit
set_option linter.unusedSimpArgs false
set_option linter.unusedVariables false

/-- The places of the first k states. -/
def placesF (q : Nat → Ins) (n : Nat) (word : Nat → BitVec 32) (k : Nat) : List Nat := (List.range k).map fun i => (iterS q n 64 word i).place
theorem places_succ (q : Nat → Ins) (n : Nat) (word : Nat → BitVec 32) (k : Nat) : placesF q n word (k + 1) = placesF q n word k ++ [(iterS q n 64 word k).place] := by
  unfold placesF; rw [List.range_succ, List.map_append]; rfl
theorem places_len (q : Nat → Ins) (n : Nat) (word : Nat → BitVec 32) (k : Nat) : (placesF q n word k).length = k := by
  unfold placesF; rw [List.length_map, List.length_range]
theorem places_get (q : Nat → Ins) (n : Nat) (word : Nat → BitVec 32) {k i : Nat} (h : i < k) : (placesF q n word k).getD i 0 = (iterS q n 64 word i).place := by
  unfold placesF
  rw [List.getD_eq_getElem?_getD, List.getElem?_map, List.getElem?_range h]; rfl
/-- How many places there are. -/
def lenV : Value → Nat
  | .slice _ n _ => n
  | _ => 0
/-- While a run is gone through: the machine in block b, the places in a row behind block B. -/
structure WlkAt (w W : World) (qa : Option Addr) (n qcap : Nat) (q : Nat → Ins) (da : Option Addr) (dcap : Nat) (z : Nat → Int) (B k : Nat) (v : Value) : Prop where
  lies : Lies w qa n q da 64 z
  mach : MachAt W w.heap.size (.slice qa n qcap) (.slice da 64 dcap) (iterS q n 64 (wordZ z) k)
  own : W.ownsRow B 3 1 v k (intL (placesF q n (wordZ z) k))
  bel : Below w.heap.size w W
  le : w.heap.size < B ∧ B ≤ W.heap.size
theorem wlk_ready {w W : World} {qa : Option Addr} {n qcap : Nat} {q : Nat → Ins} {da : Option Addr} {dcap : Nat} {z : Nat → Int} {k : Nat} (h : Lies w qa n q da 64 z) (hm : MachAt W w.heap.size (.slice qa n qcap) (.slice da 64 dcap) (iterS q n 64 (wordZ z) k)) (hbel : Below w.heap.size w W) (hk : k ≤ n) (hn : n ≤ 4096) : Ready W w.heap.size qa n qcap q da 64 dcap z (iterS q n 64 (wordZ z) k) :=
  ⟨hm, h.prog.below hbel, fun h64 => by
    obtain ⟨db, doff, rfl, hz⟩ := h.data h64
    exact ⟨db, doff, rfl, hz.below hbel hz.1⟩, fun ad hn e => by
    obtain ⟨qb, qo, e', hl, _⟩ := h.prog hn
    rw [e] at e'; injection e' with e'; subst e'; exact Nat.ne_of_lt hl, fun ad h64 e => by
    obtain ⟨db, doff, e', hz⟩ := h.data h64
    rw [e] at e'; injection e' with e'; subst e'; exact Nat.ne_of_lt hz.1, h.len, h.ok, Nat.lt_of_le_of_lt (iter_steps q n 64 (wordZ z) k) (by omega)⟩
/-- A place more. -/
theorem wlk_put {w W W1 : World} {qa : Option Addr} {n qcap : Nat} {q : Nat → Ins} {da : Option Addr} {dcap : Nat} {z : Nat → Int} {B k : Nat} {v v' : Value} {o : Obj} (h : WlkAt w W qa n qcap q da dcap z B k v) {p : Nat} (hp : p = (iterS q n 64 (wordZ z) k).place)
    (ho : W1.ownsRow B 3 1 v' (k + 1) (intL (placesF q n (wordZ z) k) ++ [.int .i64 (p : Int)])) (hg : (W.alloc o).grownBy W1 v.ownBlock) :
    MachAt W1 w.heap.size (.slice qa n qcap) (.slice da 64 dcap) (iterS q n 64 (wordZ z) k) ∧ W1.ownsRow B 3 1 v' (k + 1) (intL (placesF q n (wordZ z) (k + 1))) ∧ Below w.heap.size w W1 ∧ B ≤ W1.heap.size := by
  have hal := lbox10 W o
  have hb : Below B W W1 := below_own (hal.mono h.le.2) (own_below h.own hal) hg h.le.2
  exact ⟨h.mach.below hb h.le.1, by rw [places_succ, intL_snoc, ← hp]; exact ho, h.bel.trans (hb.mono (Nat.le_of_lt h.le.1)), Nat.le_trans h.le.2 hb.size⟩
/-- A step more. -/
theorem wlk_step {w W1 W2 : World} {qa : Option Addr} {n qcap : Nat} {q : Nat → Ins} {da : Option Addr} {dcap : Nat} {z : Nat → Int} {B k : Nat} {v : Value} (hl : Lies w qa n q da 64 z) (h2 : W1.ownsRow B 3 1 v (k + 1) (intL (placesF q n (wordZ z) (k + 1)))) (h3 : Below w.heap.size w W1) (h4 : B ≤ W1.heap.size) (h5 : w.heap.size < B)
    (hm : MachAt W2 w.heap.size (.slice qa n qcap) (.slice da 64 dcap) (iterS q n 64 (wordZ z) (k + 1))) (hg : W1.grownBy W2 (some w.heap.size)) : WlkAt w W2 qa n qcap q da dcap z B (k + 1) v :=
  ⟨hl, hm, h2.kept hg (by
    by_cases e : v.ownBlock = none
    · exact .inl e
    · refine .inr fun e' => ?_
      have := h2.lt w.heap.size e'
      omega), h3.trans ⟨hg.os, hg.tape, hg.output, hg.size, fun i hi => hg.block i (Nat.lt_of_lt_of_le hi h3.size) (fun e => by injection e with e; omega)⟩, h5, Nat.le_trans h4 hg.size⟩
set_option maxHeartbeats 2000000 in
set_option maxRecDepth 100000 in
theorem l_walked {w : World} {qa : Option Addr} {n : Nat} (qcap : Nat) {q : Nat → Ins} {da : Option Addr} (dcap : Nat) {z : Nat → Int} (h : Lies w qa n q da 64 z) (hn : n ≤ 4096) :
    Calls Try.prog 23 #[.slice qa n qcap, .slice da 64 dcap] w fun e w' => ∃ A c K, e = .returned (.slice A K c) ∧ IntsAt w' A (placesF q n (wordZ z) K) ∧ Below w.heap.size w w' ∧ 1 ≤ K ∧ (∀ i, i < K → (iterS q n 64 (wordZ z) i).done = false) ∧ (iterS q n 64 (wordZ z) K).done = true := by
  have HL := Lib.hid h
  have HNEW := Lib.hid (ref_New w qa da n qcap 64 dcap)
  have HST := Lib.hid (fun W s hR => ref_Step W w.heap.size qa n qcap q da 64 dcap z s hR)
  clear h
  go_enter Try.func23, Try.ntmps23
  go_wp2_with (go_at_call 36; (with_reducible refine HNEW.out.mono ?_); rintro e w1 ⟨rfl, hm, hb⟩; have H1 := Lib.hid (And.intro hm hb); clear hm hb)
  have HS : Hid (WlkAt w w1 qa n qcap q da dcap z w1.heap.size 0 (.slice none 0 0)) := Lib.hid ⟨HL.out, H1.out.1, World.ownsRow_nil _ _ _ _, H1.out.2, World.rowIs.lt H1.out.1, Nat.le_refl _⟩
  clear H1
  generalize w1.heap.size = B at HS
  go_loopw [5, 7] (fun v t wr => ∃ k : Nat, k ≤ n + 1 ∧ t = .bool (iterS q n 64 (wordZ z) k).done ∧ lenV v = k ∧ (∀ i, i < k → (iterS q n 64 (wordZ z) i).done = false) ∧ WlkAt w wr qa n qcap q da dcap z B k v) (fun v _ _ => n + 2 - lenV v)
  case atStart => exact ⟨0, by omega, rfl, rfl, fun i hi => absurd hi (Nat.not_lt_zero _), HS.out⟩
  case round =>
    obtain ⟨k, hk, rfl, hlen, hall, hW⟩ := hrel
    clear HS
    obtain ⟨Ao, co, rfl⟩ := own_form10 hW.own
    have HW := Lib.hid (And.intro hall hW)
    have HLV := Lib.hid hlen
    clear hall hlen
    cases hd : (iterS q n 64 (wordZ z) k).done with
    | false =>
      have hkn := (iter_going q n 64 (wordZ z) k hd).2.1
      have c20 := World.rowIs.cell hW.mach (i := 20) (by decide)
      have HD := Lib.hid hd
      clear hd hW
      obtain ⟨p, hp⟩ : ∃ p, p = (iterS q n 64 (wordZ z) k).place := ⟨_, rfl⟩
      have hc20 : wr.cell? ⟨w.heap.size, 20, none⟩ = some (.int .i64 (p : Int)) := by rw [hp]; exact c20
      have HP := Lib.hid hp
      clear c20 hp
      go_wp2_with (first
        | (at_builtin; refine wpList_append_own _ rfl _ _ 23 rfl 3 (.int .i64 0) 1 8 Try.underlying23 info_int10 rfl (by decide) B (.slice Ao k co) k (intL (placesF q n (wordZ z) k)) rfl (own_below HW.out.2.own (lbox10 _ _)) ⟨wr.heap.size, 0, none⟩ 1 1 [.int .i64 (p : Int)] rfl rfl (int_new10 _ _ _) (int_one10 _ _) (by unfold maxLen; omega) (by omega) (Nat.le_trans HW.out.2.le.2 (lbox10 _ _).size) ?_; intro v9 W9 ho hg hb9; obtain ⟨A9, c9, rfl⟩ := own_form10 ho; have H9 := Lib.hid (wlk_put HW.out.2 HP.out ho hg); clear ho hg hb9)
        | (go_at_call 37; (with_reducible refine (HST.out _ _ (wlk_ready HL.out H9.out.1 H9.out.2.2.1 hkn hn)).mono ?_); rintro e w3 ⟨rfl, hm, hg⟩; have H3 := Lib.hid (wlk_step HL.out H9.out.2.1 H9.out.2.2.1 H9.out.2.2.2 HW.out.2.le.1 hm hg); clear hm hg))
      exact ⟨⟨k + 1, by omega, rfl, rfl, fun i hi => by
        rcases Nat.lt_or_ge i k with g | g
        · exact HW.out.1 i g
        · rw [show i = k by omega]; exact HD.out, H3.out⟩, by show n + 2 - (k + 1) < n + 2 - k; omega⟩
    | true =>
      have HD := Lib.hid hd
      have h1 : 1 ≤ k := by
        rcases Nat.eq_zero_or_pos k with e | e
        · rw [e] at hd; cases hd
        · exact e
      clear hd hW
      go_wp2
      go_ret
      exact ⟨Ao, co, k, rfl, by have := HW.out.2.own; have e := places_len q n (wordZ z) k; rw [IntsAt, e]; exact own_holds10 this (fun i hi => by rw [intL_get (by rw [e]; exact hi)]), HW.out.2.bel, h1, HW.out.1, HD.out⟩
end Go.Proofs.Ytaphbcjehcnggaa

/-
  What a step of the program's machine of registers does: contracts. Conditions: those that each names.
-/
import Derived.Test.YtoajommeiocfpaaGreatMirMach
import Derived.Deep.Cut
namespace Go.Proofs.YtoajommeiocfpaaGreat
open Go Go.RowKit
set_option linter.unusedSimpArgs false
set_option linter.unusedVariables false
set_option maxRecDepth 100000

/-- From one world to another: only two blocks are turned. -/
structure Mv (W W' : World) (mb g : Nat) : Prop where
  os : W'.os = W.os
  tape : W'.tape = W.tape
  output : W'.output = W.output
  size : W.heap.size ≤ W'.heap.size
  block : ∀ k, k < W.heap.size → k ≠ mb → k ≠ g → W'.heap[k]? = W.heap[k]?
theorem Mv.of {W W' : World} {mb g : Nat} (h : Below W.heap.size W W') : Mv W W' mb g := ⟨h.os, h.tape, h.output, h.size, fun k hk _ _ => h.block k hk⟩
theorem Mv.up {W W' W2 : World} {mb g : Nat} (h : Mv W W' mb g) (hb : Below W'.heap.size W' W2) : Mv W W2 mb g := ⟨hb.os.trans h.os, hb.tape.trans h.tape, hb.output.trans h.output, Nat.le_trans h.size hb.size, fun k hk h1 h2 => (hb.block k (Nat.lt_of_lt_of_le hk h.size)).trans (h.block k hk h1 h2)⟩
theorem Mv.setm {W W' : World} {mb g : Nat} (h : Mv W W' mb g) (i : Nat) (v : Value) : Mv W (W'.setCell ⟨mb, i, none⟩ v) mb g := ⟨h.os, h.tape, h.output, by simpa [World.setCell] using h.size, fun k hk h1 h2 => (Below.heap_setCell W' ⟨mb, i, none⟩ v k h1).trans (h.block k hk h1 h2)⟩
theorem Mv.setg {W W' : World} {mb g : Nat} (h : Mv W W' mb g) (i : Nat) (v : Value) : Mv W (W'.setCell ⟨g, i, none⟩ v) mb g := ⟨h.os, h.tape, h.output, by simpa [World.setCell] using h.size, fun k hk h1 h2 => (Below.heap_setCell W' ⟨g, i, none⟩ v k h2).trans (h.block k hk h1 h2)⟩
theorem Mv.below {w W W' : World} {mb g : Nat} (h : Mv W W' mb g) (hb : Below w.heap.size w W) (h1 : w.heap.size ≤ mb) (h2 : w.heap.size ≤ g) : Below w.heap.size w W' :=
  ⟨h.os.trans hb.os, h.tape.trans hb.tape, h.output.trans hb.output, Nat.le_trans hb.size h.size, fun k hk => (h.block k (Nat.lt_of_lt_of_le hk hb.size) (by omega) (by omega)).trans (hb.block k hk)⟩
theorem set_otherM {W : World} {g k : Nat} {v : Value} {p : Nat} (h : p ≠ g) : (W.setCell ⟨g, k, none⟩ v).heap[p]? = W.heap[p]? := Below.heap_setCell W ⟨g, k, none⟩ v p h
/-- What a step leaves of machine and registers. -/
def AftM (W' : World) (mb g nr : Nat) (dv : Value) (p s : Nat) (st : StepM) : Prop :=
  match st with
  | .stop e => W'.heap[mb]? = some (macO dv g nr p (s + e.n) true e.ans e.err)
  | .on p' r' => W'.heap[mb]? = some (macO dv g nr p' (s + 1) false 0#32 0) ∧ W'.rowIs g 33 nr (regF r')
/-- Ahead of a step. -/
structure PreM (W : World) (mb g nr n db doff dcap : Nat) (z : Nat → Int) (p s : Nat) (x : Irx) (r : Nat → BitVec 32) : Prop where
  mac : W.heap[mb]? = some (macO (.slice (some ⟨db, doff, none⟩) 64 dcap) g nr p s false 0#32 0)
  row : W.rowIs g 33 nr (regF r)
  ne : mb ≠ g
  one : OneMOK (nr : Int) n x p
  data : Bytes64 W db doff z
  steps : s ≤ 1000000
  places : p ≤ 1000000

set_option maxHeartbeats 16000000 in
set_option maxRecDepth 100000 in
theorem p_step_c (op d a b : Int) (k : BitVec 32) (t f : Int) (W : World) (mb g nr n db doff dcap : Nat) (z : Nat → Int) (p s : Nat) (r : Nat → BitVec 32) (hop : op = 1) (hP : PreM W mb g nr n db doff dcap z p s ⟨op, d, a, b, k, t, f⟩ r) :
    Calls Tryz.prog 21 #[.pointer (some ⟨mb, 0, none⟩), irV ⟨op, d, a, b, k, t, f⟩] W fun e w' => e = .returned (.tuple #[]) ∧ Mv W w' mb g ∧ AftM w' mb g nr (.slice (some ⟨db, doff, none⟩) 64 dcap) p s (stepX ⟨op, d, a, b, k, t, f⟩ (fun i => i) (wordZ z) p r) := by
  subst hop
  have hone := hP.one
  have hsl := hP.steps
  have hpl := hP.places
  obtain ⟨hd0, hd1⟩ := hone.d (by simp [dM] <;> omega)
  simp only at hd0 hd1
  obtain ⟨dn, rfl⟩ : ∃ m : Nat, d = (m : Int) := ⟨d.toNat, by omega⟩
  have hd2 : dn < nr := by omega
  have hd3 : (dn : Int) < (nr : Int) := by omega
  have HA : Hid (∀ V : World, V.heap[mb]? = some (macO (.slice (some ⟨db, doff, none⟩) 64 dcap) g nr p s false 0#32 0) → V.rowIs g 33 nr (regF r) → Calls Tryz.prog 47 #[.pointer (some ⟨mb, 0, none⟩), irV ⟨1, (dn : Int), a, b, k, t, f⟩] V fun e w' => e = .returned (.tuple #[.int .u32 ((0#32).toNat : Int), .int .u32 ((0#32).toNat : Int)]) ∧ Below V.heap.size V w') := Lib.hid fun V h1 h2 => p_asked_0 1 _ 0 0 a b k _ _ V mb g nr _ p s false 0#32 0 r rfl h1 h2
  have HP := Lib.hid hP
  have hml := (Array.getElem?_eq_some_iff.1 hP.mac).1
  have hgl := hP.row.lt
  have hmg : ¬ mb = g := hP.ne
  have hgm : ¬ g = mb := fun e => hP.ne e.symm
  have hBm : ¬ W.heap.size = mb := by omega
  have hmB : ¬ mb = W.heap.size := by omega
  have hBg : ¬ W.heap.size = g := by omega
  have hgB : ¬ g = W.heap.size := by omega
  have hs1 : IntKind.i64.wrap ((s : Int) + 1) = (s : Int) + 1 := IntWalk.i64_in _ (by omega)
  have hp1 : IntKind.i64.wrap ((p : Int) + 1) = (p : Int) + 1 := IntWalk.i64_in _ (by omega)
  have HW0 : Hid (∀ w1, Below (W.alloc (irO ⟨1, (dn : Int), a, b, k, t, f⟩)).heap.size (W.alloc (irO ⟨1, (dn : Int), a, b, k, t, f⟩)) w1 → Mv W w1 mb g ∧ w1.heap[mb]? = some (macO (.slice (some ⟨db, doff, none⟩) 64 dcap) g nr p s false 0#32 0) ∧ w1.rowIs g 33 nr (regF r) ∧ w1.heap[W.heap.size]? = some (irO ⟨1, (dn : Int), a, b, k, t, f⟩) ∧ Bytes64 w1 db doff z) := Lib.hid fun w1 hb =>
    ⟨(Mv.of (onM (lboxM W _) hb)), keepM (kept_allocM hP.mac _) hb, rowIs_below (rowIs_below hP.row (lboxM W _) hP.row.lt) hb (Nat.lt_of_lt_of_le hP.row.lt (lboxM W _).size), keepM (World.alloc_heap_new W _) hb, (hP.data.below (lboxM W _) hP.data.1).below hb (Nat.lt_of_lt_of_le hP.data.1 (lboxM W _).size)⟩
  have HM0 := Lib.hid (And.intro (kept_allocM hP.mac (irO ⟨1, (dn : Int), a, b, k, t, f⟩)) (rowIs_below hP.row (lboxM W (irO ⟨1, (dn : Int), a, b, k, t, f⟩)) hP.row.lt))
  have HST := Lib.hid (tX_const (fun i => i) (wordZ z) p r (dn : Int) a b k t f)
  simp only [Int.toNat_natCast] at HST
  have HRS : Hid (∀ (V : World) (s' : Nat), V.heap[mb]? = some (macO (.slice (some ⟨db, doff, none⟩) 64 dcap) g nr p s' false 0#32 0) → Bytes64 V db doff z → Calls Tryz.prog 49 #[.pointer (some ⟨mb, 0, none⟩), irV ⟨1, (dn : Int), a, b, k, t, f⟩, .int .u32 ((0#32).toNat : Int), .int .u32 ((0#32).toNat : Int)] V fun e w' => e = .returned (.int .u32 ((valM (wordZ z) ⟨1, (dn : Int), a, b, k, t, f⟩ (0#32) (0#32)).toNat : Int)) ∧ Below V.heap.size V w') := Lib.hid fun V s' h1 h2 => p_result 1 _ _ _ k _ _ (0#32) (0#32) V mb g nr db doff dcap z p s' false 0#32 0 (by omega) (fun e => (by cases e)) (fun e => (by cases e)) h1 h2
  have hval : valM (wordZ z) ⟨1, (dn : Int), a, b, k, t, f⟩ (0#32) (0#32) = k := rfl
  rw [hval] at HRS
  clear hval
  clear hone hP
  rw [HST.out]
  go_enter Tryz.func21, Tryz.ntmps21
  go_upto_region 6 with (go_at_call 47; (with_reducible refine (HA.out _ HM0.out.1 HM0.out.2).mono ?_); rintro e w1 ⟨rfl, hb1⟩; have HW := Lib.hid (HW0.out w1 hb1); clear hb1; have m2 := cellM HW.out.2.1 2 rfl; have m3 := cellM HW.out.2.1 3 rfl; have m1 := cellM HW.out.2.1 1 rfl; have m4 : w1.cell? ⟨mb, 4, none⟩ = some (.bool false) := cellM HW.out.2.1 4 rfl; have m5 : w1.cell? ⟨mb, 5, none⟩ = some (.int .u32 0) := cellM HW.out.2.1 5 rfl; have m6 : w1.cell? ⟨mb, 6, none⟩ = some (.int .i64 0) := cellM HW.out.2.1 6 rfl; have fz := fun i => frozenM HW.out.2.1 i; have z2 := fz 2; have z3 := fz 3; have z4 := fz 4; have z5 := fz 5; have z6 := fz 6; have u0 := cellM HW.out.2.2.2.1 0 rfl; have u1 := cellM HW.out.2.2.2.1 1 rfl; have u5 := cellM HW.out.2.2.2.1 5 rfl; have u6 := cellM HW.out.2.2.2.1 6 rfl; clear fz)
  have HV : Hid (Mv W (w1.setCell ⟨mb, 3, none⟩ (.int .i64 ((s : Int) + 1))) mb g ∧ (w1.setCell ⟨mb, 3, none⟩ (.int .i64 ((s : Int) + 1))).heap[mb]? = some (macO (.slice (some ⟨db, doff, none⟩) 64 dcap) g nr p (s + 1) false 0#32 0) ∧ (w1.setCell ⟨mb, 3, none⟩ (.int .i64 ((s : Int) + 1))).rowIs g 33 nr (regF r) ∧ (w1.setCell ⟨mb, 3, none⟩ (.int .i64 ((s : Int) + 1))).heap[W.heap.size]? = some (irO ⟨1, (dn : Int), a, b, k, t, f⟩) ∧ Bytes64 (w1.setCell ⟨mb, 3, none⟩ (.int .i64 ((s : Int) + 1))) db doff z) := Lib.hid ⟨HW.out.1.setm 3 _, heap_setM HW.out.2.1 3 (.int .i64 ((s : Int) + 1)), HW.out.2.2.1.of_block (set_otherM hgm), (set_otherM hBm).trans HW.out.2.2.2.1, bytes_setM HW.out.2.2.2.2 (bytes_ne HP.out.data HP.out.mac (by show (7 : Nat) ≤ 63; decide)) 3 _⟩
  clear HW m1 m2 m3 m4 m5 m6 z2 z3 z4 z5 z6 u0 u1 u5 u6
  generalize w1.setCell ⟨mb, 3, none⟩ (.int .i64 ((s : Int) + 1)) = V at HV ⊢
  have u0 := cellM HV.out.2.2.2.1 0 rfl
  go_wp2
  clear u0
  refine wp_region_held_drew (S := fun W' => W'.heap[mb]? = some (macO (.slice (some ⟨db, doff, none⟩) 64 dcap) g nr p (s + 1) false 0#32 0) ∧ W'.heap[W.heap.size]? = some (irO ⟨1, (dn : Int), a, b, k, t, f⟩)) (by kernel_rfl) ⟨HV.out.2.1, HV.out.2.2.2.1⟩ (fun hHeld => ?_)
  have HY := Lib.hid (show Mv W V.drew mb g ∧ V.drew.heap[mb]? = some (macO (.slice (some ⟨db, doff, none⟩) 64 dcap) g nr p (s + 1) false 0#32 0) ∧ V.drew.rowIs g 33 nr (regF r) ∧ Bytes64 V.drew db doff z from ⟨HV.out.1.up (below_drawn (Below.refl _ _) 1), HV.out.2.1, HV.out.2.2.1, HV.out.2.2.2.2⟩)
  clear HV
  generalize V.drew = Y at HY hHeld ⊢
  have HH := Lib.hid hHeld
  refine wpAnyH_take (i := 0) (v := ?_) rfl (by kernel_rfl) (by kernel_rfl) (by kernel_rfl) (fun _ _ _ h => h) (Or.inl ⟨by rfl, ?_⟩) (by assumption) ?_
  rotate_left
  · intro wS hSw
    (obtain ⟨i0, i1⟩ := hSw; have a1 := cellM i0 1 rfl; have e0 := cellM i1 0 rfl; have e1 := cellM i1 1 rfl; have e2 := cellM i1 2 rfl; have e3 := cellM i1 3 rfl; have e4 := cellM i1 4 rfl; have e5 := cellM i1 5 rfl; have e6 := cellM i1 6 rfl; clear i0 i1)
    go_simp
    all_goals with_reducible rfl
  (try simp only [List.getElem_toArray, List.getElem_cons_zero, List.getElem_cons_succ, Act.put, List.setIfInBounds_toArray, List.set_cons_zero, List.set_cons_succ])
  refine wpAnyH_take (i := 1) (v := ?_) rfl (by kernel_rfl) (by kernel_rfl) (by kernel_rfl) (fun _ _ _ h => h) (Or.inl ⟨by rfl, ?_⟩) (by assumption) ?_
  rotate_left
  · intro wS hSw
    (obtain ⟨i0, i1⟩ := hSw; have a1 := cellM i0 1 rfl; have e0 := cellM i1 0 rfl; have e1 := cellM i1 1 rfl; have e2 := cellM i1 2 rfl; have e3 := cellM i1 3 rfl; have e4 := cellM i1 4 rfl; have e5 := cellM i1 5 rfl; have e6 := cellM i1 6 rfl; clear i0 i1)
    go_simp
    all_goals with_reducible rfl
  (try simp only [List.getElem_toArray, List.getElem_cons_zero, List.getElem_cons_succ, Act.put, List.setIfInBounds_toArray, List.set_cons_zero, List.set_cons_succ])
  refine wpAnyH_take (i := 2) (v := ?_) rfl (by kernel_rfl) (by kernel_rfl) (by kernel_rfl) (fun _ _ _ h => h) (Or.inl ⟨by rfl, ?_⟩) (by assumption) ?_
  rotate_left
  · intro wS hSw
    (obtain ⟨i0, i1⟩ := hSw; have a1 := cellM i0 1 rfl; have e0 := cellM i1 0 rfl; have e1 := cellM i1 1 rfl; have e2 := cellM i1 2 rfl; have e3 := cellM i1 3 rfl; have e4 := cellM i1 4 rfl; have e5 := cellM i1 5 rfl; have e6 := cellM i1 6 rfl; clear i0 i1)
    go_simp
    all_goals with_reducible rfl
  (try simp only [List.getElem_toArray, List.getElem_cons_zero, List.getElem_cons_succ, Act.put, List.setIfInBounds_toArray, List.set_cons_zero, List.set_cons_succ])
  refine wpAnyH_take (i := 3) (v := ?_) rfl (by kernel_rfl) (by kernel_rfl) (by kernel_rfl) (fun _ _ _ h => h) (Or.inl ⟨by rfl, ?_⟩) (by assumption) ?_
  rotate_left
  · intro wS hSw
    (obtain ⟨i0, i1⟩ := hSw; have a1 := cellM i0 1 rfl; have e0 := cellM i1 0 rfl; have e1 := cellM i1 1 rfl; have e2 := cellM i1 2 rfl; have e3 := cellM i1 3 rfl; have e4 := cellM i1 4 rfl; have e5 := cellM i1 5 rfl; have e6 := cellM i1 6 rfl; clear i0 i1)
    go_simp
    all_goals with_reducible rfl
  (try simp only [List.getElem_toArray, List.getElem_cons_zero, List.getElem_cons_succ, Act.put, List.setIfInBounds_toArray, List.set_cons_zero, List.set_cons_succ])
  refine wpAnyH_take (i := 4) (v := ?_) rfl (by kernel_rfl) (by kernel_rfl) (by kernel_rfl) (fun _ _ _ h => h) (Or.inl ⟨by rfl, ?_⟩) (by assumption) ?_
  rotate_left
  · intro wS hSw
    (obtain ⟨i0, i1⟩ := hSw; have a1 := cellM i0 1 rfl; have e0 := cellM i1 0 rfl; have e1 := cellM i1 1 rfl; have e2 := cellM i1 2 rfl; have e3 := cellM i1 3 rfl; have e4 := cellM i1 4 rfl; have e5 := cellM i1 5 rfl; have e6 := cellM i1 6 rfl; clear i0 i1)
    go_simp
    all_goals with_reducible rfl
  (try simp only [List.getElem_toArray, List.getElem_cons_zero, List.getElem_cons_succ, Act.put, List.setIfInBounds_toArray, List.set_cons_zero, List.set_cons_succ])
  refine wpAnyH_take (i := 5) (v := ?_) rfl (by kernel_rfl) (by kernel_rfl) (by kernel_rfl) (fun _ _ _ h => h) (Or.inl ⟨by rfl, ?_⟩) (by assumption) ?_
  rotate_left
  · intro wS hSw
    (obtain ⟨i0, i1⟩ := hSw; have a1 := cellM i0 1 rfl; have e0 := cellM i1 0 rfl; have e1 := cellM i1 1 rfl; have e2 := cellM i1 2 rfl; have e3 := cellM i1 3 rfl; have e4 := cellM i1 4 rfl; have e5 := cellM i1 5 rfl; have e6 := cellM i1 6 rfl; clear i0 i1)
    go_simp
    all_goals with_reducible rfl
  (try simp only [List.getElem_toArray, List.getElem_cons_zero, List.getElem_cons_succ, Act.put, List.setIfInBounds_toArray, List.set_cons_zero, List.set_cons_succ])
  refine wpAnyH_take (i := 6) (v := ?_) rfl (by kernel_rfl) (by kernel_rfl) (by kernel_rfl) (fun _ _ _ h => h) (Or.inl ⟨by rfl, ?_⟩) (by assumption) ?_
  rotate_left
  · intro wS hSw
    (obtain ⟨i0, i1⟩ := hSw; have a1 := cellM i0 1 rfl; have e0 := cellM i1 0 rfl; have e1 := cellM i1 1 rfl; have e2 := cellM i1 2 rfl; have e3 := cellM i1 3 rfl; have e4 := cellM i1 4 rfl; have e5 := cellM i1 5 rfl; have e6 := cellM i1 6 rfl; clear i0 i1)
    go_simp
    all_goals with_reducible rfl
  (try simp only [List.getElem_toArray, List.getElem_cons_zero, List.getElem_cons_succ, Act.put, List.setIfInBounds_toArray, List.set_cons_zero, List.set_cons_succ])
  refine wpAnyH_take (i := 7) (v := ?_) rfl (by kernel_rfl) (by kernel_rfl) (by kernel_rfl) (fun _ _ _ h => h) (Or.inl ⟨by rfl, ?_⟩) (by assumption) ?_
  rotate_left
  · intro wS hSw
    (obtain ⟨i0, i1⟩ := hSw; have a1 := cellM i0 1 rfl; have e0 := cellM i1 0 rfl; have e1 := cellM i1 1 rfl; have e2 := cellM i1 2 rfl; have e3 := cellM i1 3 rfl; have e4 := cellM i1 4 rfl; have e5 := cellM i1 5 rfl; have e6 := cellM i1 6 rfl; clear i0 i1)
    go_simp
    all_goals with_reducible rfl
  (try simp only [List.getElem_toArray, List.getElem_cons_zero, List.getElem_cons_succ, Act.put, List.setIfInBounds_toArray, List.set_cons_zero, List.set_cons_succ])
  refine wpAnyH_take (i := 8) (v := ?_) rfl (by kernel_rfl) (by kernel_rfl) (by kernel_rfl) (fun _ _ _ h => h) (Or.inl ⟨by rfl, ?_⟩) (by assumption) ?_
  rotate_left
  · intro wS hSw
    (obtain ⟨i0, i1⟩ := hSw; have a1 := cellM i0 1 rfl; have e0 := cellM i1 0 rfl; have e1 := cellM i1 1 rfl; have e2 := cellM i1 2 rfl; have e3 := cellM i1 3 rfl; have e4 := cellM i1 4 rfl; have e5 := cellM i1 5 rfl; have e6 := cellM i1 6 rfl; clear i0 i1)
    go_simp
    all_goals with_reducible rfl
  (try simp only [List.getElem_toArray, List.getElem_cons_zero, List.getElem_cons_succ, Act.put, List.setIfInBounds_toArray, List.set_cons_zero, List.set_cons_succ])
  refine wpAnyH_take (i := 9) (v := ?_) rfl (by kernel_rfl) (by kernel_rfl) (by kernel_rfl) (fun _ _ _ h => h) (Or.inl ⟨by rfl, ?_⟩) (by assumption) ?_
  rotate_left
  · intro wS hSw
    (obtain ⟨i0, i1⟩ := hSw; have a1 := cellM i0 1 rfl; have e0 := cellM i1 0 rfl; have e1 := cellM i1 1 rfl; have e2 := cellM i1 2 rfl; have e3 := cellM i1 3 rfl; have e4 := cellM i1 4 rfl; have e5 := cellM i1 5 rfl; have e6 := cellM i1 6 rfl; clear i0 i1)
    go_simp
    all_goals with_reducible rfl
  (try simp only [List.getElem_toArray, List.getElem_cons_zero, List.getElem_cons_succ, Act.put, List.setIfInBounds_toArray, List.set_cons_zero, List.set_cons_succ])
  refine held_one (i := 10) (by kernel_rfl) rfl (fun K hK => ?_)
  go_simp
  go_at_call 49
  refine (HRS.out _ _ HY.out.2.1 HY.out.2.2.2).mono ?_
  rintro e w4 ⟨rfl, hb4⟩
  have HZ := Lib.hid (show Mv W w4 mb g ∧ w4.heap[mb]? = some (macO (.slice (some ⟨db, doff, none⟩) 64 dcap) g nr p (s + 1) false 0#32 0) ∧ w4.rowIs g 33 nr (regF r) ∧ w4.heap[W.heap.size]? = some (irO ⟨1, (dn : Int), a, b, k, t, f⟩) from ⟨HY.out.1.up hb4, keepM HY.out.2.1 hb4, rowIs_below HY.out.2.2.1 hb4 HY.out.2.2.1.lt, keepM HH.out.2 hb4⟩)
  refine hK.out _ _ ⟨HZ.out.2.1, HZ.out.2.2.2⟩ (fun hH1 => ?_)
  clear hK K hHeld hb4 HY HH
  (try simp only [Act.put, List.setIfInBounds_toArray, List.set_cons_zero, List.set_cons_succ, List.getElem_toArray, List.getElem_cons_zero, List.getElem_cons_succ])
  refine wpAnyH_take (i := 11) (v := ?_) rfl (by kernel_rfl) (by kernel_rfl) (by kernel_rfl) (fun _ _ _ h => h) (Or.inl ⟨by rfl, ?_⟩) (by assumption) ?_
  rotate_left
  · intro wS hSw
    (skip)
    go_simp
    all_goals with_reducible rfl
  (try simp only [List.getElem_toArray, List.getElem_cons_zero, List.getElem_cons_succ, Act.put, List.setIfInBounds_toArray, List.set_cons_zero, List.set_cons_succ])
  have hfz : w4.frozen? ⟨g, dn, none⟩ = false := World.rowIs.frozen HZ.out.2.2.1 _
  obtain ⟨v0, hrd⟩ : ∃ v, w4.cell? ⟨g, dn, none⟩ = some v := ⟨_, World.rowIs.cell HZ.out.2.2.1 hd2⟩
  refine held_one (i := 12) (by kernel_rfl) rfl (fun K hK => ?_)
  go_simp
  have HQ := Lib.hid (show Mv W (w4.setCell ⟨g, dn, none⟩ (.int .u32 ((k).toNat : Int))) mb g ∧ (w4.setCell ⟨g, dn, none⟩ (.int .u32 ((k).toNat : Int))).heap[mb]? = some (macO (.slice (some ⟨db, doff, none⟩) 64 dcap) g nr p (s + 1) false 0#32 0) ∧ (w4.setCell ⟨g, dn, none⟩ (.int .u32 ((k).toNat : Int))).rowIs g 33 nr (regF (upd r dn (k))) from ⟨HZ.out.1.setg dn _, (set_otherM hmg).trans HZ.out.2.1, reg_set HZ.out.2.2.1 dn (k)⟩)
  refine hK.out _ _ ⟨HQ.out.2.1, (set_otherM hBg).trans HZ.out.2.2.2⟩ (fun hH2 => ?_)
  clear hK K hH1 hH2 HZ hfz hrd
  (try simp only [Act.put, List.setIfInBounds_toArray, List.set_cons_zero, List.set_cons_succ, List.getElem_toArray, List.getElem_cons_zero, List.getElem_cons_succ])
  refine wpAnyH_done (by kernel_rfl) ?_ _
  generalize w4.setCell ⟨g, dn, none⟩ (.int .u32 ((k).toNat : Int)) = U at HQ ⊢
  have m2 := cellM HQ.out.2.1 2 rfl
  have z2 := frozenM HQ.out.2.1 2
  go_wp2
  go_end0
  refine ⟨rfl, HQ.out.1.setm 2 _, ?_, ?_⟩
  · exact heap_setM HQ.out.2.1 2 (.int .i64 ((p : Int) + 1))
  · exact HQ.out.2.2.of_block (set_otherM hgm)
set_option maxHeartbeats 16000000 in
set_option maxRecDepth 100000 in
theorem p_step_l (op d a b : Int) (k : BitVec 32) (t f : Int) (W : World) (mb g nr n db doff dcap : Nat) (z : Nat → Int) (p s : Nat) (r : Nat → BitVec 32) (hop : op = 3) (hP : PreM W mb g nr n db doff dcap z p s ⟨op, d, a, b, k, t, f⟩ r) :
    Calls Tryz.prog 21 #[.pointer (some ⟨mb, 0, none⟩), irV ⟨op, d, a, b, k, t, f⟩] W fun e w' => e = .returned (.tuple #[]) ∧ Mv W w' mb g ∧ AftM w' mb g nr (.slice (some ⟨db, doff, none⟩) 64 dcap) p s (stepX ⟨op, d, a, b, k, t, f⟩ (fun i => i) (wordZ z) p r) := by
  subst hop
  have hone := hP.one
  have hsl := hP.steps
  have hpl := hP.places
  obtain ⟨hd0, hd1⟩ := hone.d (by simp [dM] <;> omega)
  simp only at hd0 hd1
  obtain ⟨dn, rfl⟩ : ∃ m : Nat, d = (m : Int) := ⟨d.toNat, by omega⟩
  have hd2 : dn < nr := by omega
  have hd3 : (dn : Int) < (nr : Int) := by omega
  have HA : Hid (∀ V : World, V.heap[mb]? = some (macO (.slice (some ⟨db, doff, none⟩) 64 dcap) g nr p s false 0#32 0) → V.rowIs g 33 nr (regF r) → Calls Tryz.prog 47 #[.pointer (some ⟨mb, 0, none⟩), irV ⟨3, (dn : Int), a, b, k, t, f⟩] V fun e w' => e = .returned (.tuple #[.int .u32 ((0#32).toNat : Int), .int .u32 ((0#32).toNat : Int)]) ∧ Below V.heap.size V w') := Lib.hid fun V h1 h2 => p_asked_0 3 _ 0 0 a b k _ _ V mb g nr _ p s false 0#32 0 r rfl h1 h2
  have HP := Lib.hid hP
  have hml := (Array.getElem?_eq_some_iff.1 hP.mac).1
  have hgl := hP.row.lt
  have hmg : ¬ mb = g := hP.ne
  have hgm : ¬ g = mb := fun e => hP.ne e.symm
  have hBm : ¬ W.heap.size = mb := by omega
  have hmB : ¬ mb = W.heap.size := by omega
  have hBg : ¬ W.heap.size = g := by omega
  have hgB : ¬ g = W.heap.size := by omega
  have hs1 : IntKind.i64.wrap ((s : Int) + 1) = (s : Int) + 1 := IntWalk.i64_in _ (by omega)
  have hp1 : IntKind.i64.wrap ((p : Int) + 1) = (p : Int) + 1 := IntWalk.i64_in _ (by omega)
  have HW0 : Hid (∀ w1, Below (W.alloc (irO ⟨3, (dn : Int), a, b, k, t, f⟩)).heap.size (W.alloc (irO ⟨3, (dn : Int), a, b, k, t, f⟩)) w1 → Mv W w1 mb g ∧ w1.heap[mb]? = some (macO (.slice (some ⟨db, doff, none⟩) 64 dcap) g nr p s false 0#32 0) ∧ w1.rowIs g 33 nr (regF r) ∧ w1.heap[W.heap.size]? = some (irO ⟨3, (dn : Int), a, b, k, t, f⟩) ∧ Bytes64 w1 db doff z) := Lib.hid fun w1 hb =>
    ⟨(Mv.of (onM (lboxM W _) hb)), keepM (kept_allocM hP.mac _) hb, rowIs_below (rowIs_below hP.row (lboxM W _) hP.row.lt) hb (Nat.lt_of_lt_of_le hP.row.lt (lboxM W _).size), keepM (World.alloc_heap_new W _) hb, (hP.data.below (lboxM W _) hP.data.1).below hb (Nat.lt_of_lt_of_le hP.data.1 (lboxM W _).size)⟩
  have HM0 := Lib.hid (And.intro (kept_allocM hP.mac (irO ⟨3, (dn : Int), a, b, k, t, f⟩)) (rowIs_below hP.row (lboxM W (irO ⟨3, (dn : Int), a, b, k, t, f⟩)) hP.row.lt))
  have HST := Lib.hid (tX_load (fun i => i) (wordZ z) p r (dn : Int) a b k t f)
  simp only [Int.toNat_natCast] at HST
  have HRS : Hid (∀ (V : World) (s' : Nat), V.heap[mb]? = some (macO (.slice (some ⟨db, doff, none⟩) 64 dcap) g nr p s' false 0#32 0) → Bytes64 V db doff z → Calls Tryz.prog 49 #[.pointer (some ⟨mb, 0, none⟩), irV ⟨3, (dn : Int), a, b, k, t, f⟩, .int .u32 ((0#32).toNat : Int), .int .u32 ((0#32).toNat : Int)] V fun e w' => e = .returned (.int .u32 ((valM (wordZ z) ⟨3, (dn : Int), a, b, k, t, f⟩ (0#32) (0#32)).toNat : Int)) ∧ Below V.heap.size V w') := Lib.hid fun V s' h1 h2 => p_result 3 _ _ _ k _ _ (0#32) (0#32) V mb g nr db doff dcap z p s' false 0#32 0 (by omega) (fun e => (by cases e)) (fun e => hone.k e) h1 h2
  have hval : valM (wordZ z) ⟨3, (dn : Int), a, b, k, t, f⟩ (0#32) (0#32) = (wordZ z k.toNat) := rfl
  rw [hval] at HRS
  clear hval
  clear hone hP
  rw [HST.out]
  go_enter Tryz.func21, Tryz.ntmps21
  go_upto_region 6 with (go_at_call 47; (with_reducible refine (HA.out _ HM0.out.1 HM0.out.2).mono ?_); rintro e w1 ⟨rfl, hb1⟩; have HW := Lib.hid (HW0.out w1 hb1); clear hb1; have m2 := cellM HW.out.2.1 2 rfl; have m3 := cellM HW.out.2.1 3 rfl; have m1 := cellM HW.out.2.1 1 rfl; have m4 : w1.cell? ⟨mb, 4, none⟩ = some (.bool false) := cellM HW.out.2.1 4 rfl; have m5 : w1.cell? ⟨mb, 5, none⟩ = some (.int .u32 0) := cellM HW.out.2.1 5 rfl; have m6 : w1.cell? ⟨mb, 6, none⟩ = some (.int .i64 0) := cellM HW.out.2.1 6 rfl; have fz := fun i => frozenM HW.out.2.1 i; have z2 := fz 2; have z3 := fz 3; have z4 := fz 4; have z5 := fz 5; have z6 := fz 6; have u0 := cellM HW.out.2.2.2.1 0 rfl; have u1 := cellM HW.out.2.2.2.1 1 rfl; have u5 := cellM HW.out.2.2.2.1 5 rfl; have u6 := cellM HW.out.2.2.2.1 6 rfl; clear fz)
  have HV : Hid (Mv W (w1.setCell ⟨mb, 3, none⟩ (.int .i64 ((s : Int) + 1))) mb g ∧ (w1.setCell ⟨mb, 3, none⟩ (.int .i64 ((s : Int) + 1))).heap[mb]? = some (macO (.slice (some ⟨db, doff, none⟩) 64 dcap) g nr p (s + 1) false 0#32 0) ∧ (w1.setCell ⟨mb, 3, none⟩ (.int .i64 ((s : Int) + 1))).rowIs g 33 nr (regF r) ∧ (w1.setCell ⟨mb, 3, none⟩ (.int .i64 ((s : Int) + 1))).heap[W.heap.size]? = some (irO ⟨3, (dn : Int), a, b, k, t, f⟩) ∧ Bytes64 (w1.setCell ⟨mb, 3, none⟩ (.int .i64 ((s : Int) + 1))) db doff z) := Lib.hid ⟨HW.out.1.setm 3 _, heap_setM HW.out.2.1 3 (.int .i64 ((s : Int) + 1)), HW.out.2.2.1.of_block (set_otherM hgm), (set_otherM hBm).trans HW.out.2.2.2.1, bytes_setM HW.out.2.2.2.2 (bytes_ne HP.out.data HP.out.mac (by show (7 : Nat) ≤ 63; decide)) 3 _⟩
  clear HW m1 m2 m3 m4 m5 m6 z2 z3 z4 z5 z6 u0 u1 u5 u6
  generalize w1.setCell ⟨mb, 3, none⟩ (.int .i64 ((s : Int) + 1)) = V at HV ⊢
  have u0 := cellM HV.out.2.2.2.1 0 rfl
  go_wp2
  clear u0
  refine wp_region_held_drew (S := fun W' => W'.heap[mb]? = some (macO (.slice (some ⟨db, doff, none⟩) 64 dcap) g nr p (s + 1) false 0#32 0) ∧ W'.heap[W.heap.size]? = some (irO ⟨3, (dn : Int), a, b, k, t, f⟩)) (by kernel_rfl) ⟨HV.out.2.1, HV.out.2.2.2.1⟩ (fun hHeld => ?_)
  have HY := Lib.hid (show Mv W V.drew mb g ∧ V.drew.heap[mb]? = some (macO (.slice (some ⟨db, doff, none⟩) 64 dcap) g nr p (s + 1) false 0#32 0) ∧ V.drew.rowIs g 33 nr (regF r) ∧ Bytes64 V.drew db doff z from ⟨HV.out.1.up (below_drawn (Below.refl _ _) 1), HV.out.2.1, HV.out.2.2.1, HV.out.2.2.2.2⟩)
  clear HV
  generalize V.drew = Y at HY hHeld ⊢
  have HH := Lib.hid hHeld
  refine wpAnyH_take (i := 0) (v := ?_) rfl (by kernel_rfl) (by kernel_rfl) (by kernel_rfl) (fun _ _ _ h => h) (Or.inl ⟨by rfl, ?_⟩) (by assumption) ?_
  rotate_left
  · intro wS hSw
    (obtain ⟨i0, i1⟩ := hSw; have a1 := cellM i0 1 rfl; have e0 := cellM i1 0 rfl; have e1 := cellM i1 1 rfl; have e2 := cellM i1 2 rfl; have e3 := cellM i1 3 rfl; have e4 := cellM i1 4 rfl; have e5 := cellM i1 5 rfl; have e6 := cellM i1 6 rfl; clear i0 i1)
    go_simp
    all_goals with_reducible rfl
  (try simp only [List.getElem_toArray, List.getElem_cons_zero, List.getElem_cons_succ, Act.put, List.setIfInBounds_toArray, List.set_cons_zero, List.set_cons_succ])
  refine wpAnyH_take (i := 1) (v := ?_) rfl (by kernel_rfl) (by kernel_rfl) (by kernel_rfl) (fun _ _ _ h => h) (Or.inl ⟨by rfl, ?_⟩) (by assumption) ?_
  rotate_left
  · intro wS hSw
    (obtain ⟨i0, i1⟩ := hSw; have a1 := cellM i0 1 rfl; have e0 := cellM i1 0 rfl; have e1 := cellM i1 1 rfl; have e2 := cellM i1 2 rfl; have e3 := cellM i1 3 rfl; have e4 := cellM i1 4 rfl; have e5 := cellM i1 5 rfl; have e6 := cellM i1 6 rfl; clear i0 i1)
    go_simp
    all_goals with_reducible rfl
  (try simp only [List.getElem_toArray, List.getElem_cons_zero, List.getElem_cons_succ, Act.put, List.setIfInBounds_toArray, List.set_cons_zero, List.set_cons_succ])
  refine wpAnyH_take (i := 2) (v := ?_) rfl (by kernel_rfl) (by kernel_rfl) (by kernel_rfl) (fun _ _ _ h => h) (Or.inl ⟨by rfl, ?_⟩) (by assumption) ?_
  rotate_left
  · intro wS hSw
    (obtain ⟨i0, i1⟩ := hSw; have a1 := cellM i0 1 rfl; have e0 := cellM i1 0 rfl; have e1 := cellM i1 1 rfl; have e2 := cellM i1 2 rfl; have e3 := cellM i1 3 rfl; have e4 := cellM i1 4 rfl; have e5 := cellM i1 5 rfl; have e6 := cellM i1 6 rfl; clear i0 i1)
    go_simp
    all_goals with_reducible rfl
  (try simp only [List.getElem_toArray, List.getElem_cons_zero, List.getElem_cons_succ, Act.put, List.setIfInBounds_toArray, List.set_cons_zero, List.set_cons_succ])
  refine wpAnyH_take (i := 3) (v := ?_) rfl (by kernel_rfl) (by kernel_rfl) (by kernel_rfl) (fun _ _ _ h => h) (Or.inl ⟨by rfl, ?_⟩) (by assumption) ?_
  rotate_left
  · intro wS hSw
    (obtain ⟨i0, i1⟩ := hSw; have a1 := cellM i0 1 rfl; have e0 := cellM i1 0 rfl; have e1 := cellM i1 1 rfl; have e2 := cellM i1 2 rfl; have e3 := cellM i1 3 rfl; have e4 := cellM i1 4 rfl; have e5 := cellM i1 5 rfl; have e6 := cellM i1 6 rfl; clear i0 i1)
    go_simp
    all_goals with_reducible rfl
  (try simp only [List.getElem_toArray, List.getElem_cons_zero, List.getElem_cons_succ, Act.put, List.setIfInBounds_toArray, List.set_cons_zero, List.set_cons_succ])
  refine wpAnyH_take (i := 4) (v := ?_) rfl (by kernel_rfl) (by kernel_rfl) (by kernel_rfl) (fun _ _ _ h => h) (Or.inl ⟨by rfl, ?_⟩) (by assumption) ?_
  rotate_left
  · intro wS hSw
    (obtain ⟨i0, i1⟩ := hSw; have a1 := cellM i0 1 rfl; have e0 := cellM i1 0 rfl; have e1 := cellM i1 1 rfl; have e2 := cellM i1 2 rfl; have e3 := cellM i1 3 rfl; have e4 := cellM i1 4 rfl; have e5 := cellM i1 5 rfl; have e6 := cellM i1 6 rfl; clear i0 i1)
    go_simp
    all_goals with_reducible rfl
  (try simp only [List.getElem_toArray, List.getElem_cons_zero, List.getElem_cons_succ, Act.put, List.setIfInBounds_toArray, List.set_cons_zero, List.set_cons_succ])
  refine wpAnyH_take (i := 5) (v := ?_) rfl (by kernel_rfl) (by kernel_rfl) (by kernel_rfl) (fun _ _ _ h => h) (Or.inl ⟨by rfl, ?_⟩) (by assumption) ?_
  rotate_left
  · intro wS hSw
    (obtain ⟨i0, i1⟩ := hSw; have a1 := cellM i0 1 rfl; have e0 := cellM i1 0 rfl; have e1 := cellM i1 1 rfl; have e2 := cellM i1 2 rfl; have e3 := cellM i1 3 rfl; have e4 := cellM i1 4 rfl; have e5 := cellM i1 5 rfl; have e6 := cellM i1 6 rfl; clear i0 i1)
    go_simp
    all_goals with_reducible rfl
  (try simp only [List.getElem_toArray, List.getElem_cons_zero, List.getElem_cons_succ, Act.put, List.setIfInBounds_toArray, List.set_cons_zero, List.set_cons_succ])
  refine wpAnyH_take (i := 6) (v := ?_) rfl (by kernel_rfl) (by kernel_rfl) (by kernel_rfl) (fun _ _ _ h => h) (Or.inl ⟨by rfl, ?_⟩) (by assumption) ?_
  rotate_left
  · intro wS hSw
    (obtain ⟨i0, i1⟩ := hSw; have a1 := cellM i0 1 rfl; have e0 := cellM i1 0 rfl; have e1 := cellM i1 1 rfl; have e2 := cellM i1 2 rfl; have e3 := cellM i1 3 rfl; have e4 := cellM i1 4 rfl; have e5 := cellM i1 5 rfl; have e6 := cellM i1 6 rfl; clear i0 i1)
    go_simp
    all_goals with_reducible rfl
  (try simp only [List.getElem_toArray, List.getElem_cons_zero, List.getElem_cons_succ, Act.put, List.setIfInBounds_toArray, List.set_cons_zero, List.set_cons_succ])
  refine wpAnyH_take (i := 7) (v := ?_) rfl (by kernel_rfl) (by kernel_rfl) (by kernel_rfl) (fun _ _ _ h => h) (Or.inl ⟨by rfl, ?_⟩) (by assumption) ?_
  rotate_left
  · intro wS hSw
    (obtain ⟨i0, i1⟩ := hSw; have a1 := cellM i0 1 rfl; have e0 := cellM i1 0 rfl; have e1 := cellM i1 1 rfl; have e2 := cellM i1 2 rfl; have e3 := cellM i1 3 rfl; have e4 := cellM i1 4 rfl; have e5 := cellM i1 5 rfl; have e6 := cellM i1 6 rfl; clear i0 i1)
    go_simp
    all_goals with_reducible rfl
  (try simp only [List.getElem_toArray, List.getElem_cons_zero, List.getElem_cons_succ, Act.put, List.setIfInBounds_toArray, List.set_cons_zero, List.set_cons_succ])
  refine wpAnyH_take (i := 8) (v := ?_) rfl (by kernel_rfl) (by kernel_rfl) (by kernel_rfl) (fun _ _ _ h => h) (Or.inl ⟨by rfl, ?_⟩) (by assumption) ?_
  rotate_left
  · intro wS hSw
    (obtain ⟨i0, i1⟩ := hSw; have a1 := cellM i0 1 rfl; have e0 := cellM i1 0 rfl; have e1 := cellM i1 1 rfl; have e2 := cellM i1 2 rfl; have e3 := cellM i1 3 rfl; have e4 := cellM i1 4 rfl; have e5 := cellM i1 5 rfl; have e6 := cellM i1 6 rfl; clear i0 i1)
    go_simp
    all_goals with_reducible rfl
  (try simp only [List.getElem_toArray, List.getElem_cons_zero, List.getElem_cons_succ, Act.put, List.setIfInBounds_toArray, List.set_cons_zero, List.set_cons_succ])
  refine wpAnyH_take (i := 9) (v := ?_) rfl (by kernel_rfl) (by kernel_rfl) (by kernel_rfl) (fun _ _ _ h => h) (Or.inl ⟨by rfl, ?_⟩) (by assumption) ?_
  rotate_left
  · intro wS hSw
    (obtain ⟨i0, i1⟩ := hSw; have a1 := cellM i0 1 rfl; have e0 := cellM i1 0 rfl; have e1 := cellM i1 1 rfl; have e2 := cellM i1 2 rfl; have e3 := cellM i1 3 rfl; have e4 := cellM i1 4 rfl; have e5 := cellM i1 5 rfl; have e6 := cellM i1 6 rfl; clear i0 i1)
    go_simp
    all_goals with_reducible rfl
  (try simp only [List.getElem_toArray, List.getElem_cons_zero, List.getElem_cons_succ, Act.put, List.setIfInBounds_toArray, List.set_cons_zero, List.set_cons_succ])
  refine held_one (i := 10) (by kernel_rfl) rfl (fun K hK => ?_)
  go_simp
  go_at_call 49
  refine (HRS.out _ _ HY.out.2.1 HY.out.2.2.2).mono ?_
  rintro e w4 ⟨rfl, hb4⟩
  have HZ := Lib.hid (show Mv W w4 mb g ∧ w4.heap[mb]? = some (macO (.slice (some ⟨db, doff, none⟩) 64 dcap) g nr p (s + 1) false 0#32 0) ∧ w4.rowIs g 33 nr (regF r) ∧ w4.heap[W.heap.size]? = some (irO ⟨3, (dn : Int), a, b, k, t, f⟩) from ⟨HY.out.1.up hb4, keepM HY.out.2.1 hb4, rowIs_below HY.out.2.2.1 hb4 HY.out.2.2.1.lt, keepM HH.out.2 hb4⟩)
  refine hK.out _ _ ⟨HZ.out.2.1, HZ.out.2.2.2⟩ (fun hH1 => ?_)
  clear hK K hHeld hb4 HY HH
  (try simp only [Act.put, List.setIfInBounds_toArray, List.set_cons_zero, List.set_cons_succ, List.getElem_toArray, List.getElem_cons_zero, List.getElem_cons_succ])
  refine wpAnyH_take (i := 11) (v := ?_) rfl (by kernel_rfl) (by kernel_rfl) (by kernel_rfl) (fun _ _ _ h => h) (Or.inl ⟨by rfl, ?_⟩) (by assumption) ?_
  rotate_left
  · intro wS hSw
    (skip)
    go_simp
    all_goals with_reducible rfl
  (try simp only [List.getElem_toArray, List.getElem_cons_zero, List.getElem_cons_succ, Act.put, List.setIfInBounds_toArray, List.set_cons_zero, List.set_cons_succ])
  have hfz : w4.frozen? ⟨g, dn, none⟩ = false := World.rowIs.frozen HZ.out.2.2.1 _
  obtain ⟨v0, hrd⟩ : ∃ v, w4.cell? ⟨g, dn, none⟩ = some v := ⟨_, World.rowIs.cell HZ.out.2.2.1 hd2⟩
  refine held_one (i := 12) (by kernel_rfl) rfl (fun K hK => ?_)
  go_simp
  have HQ := Lib.hid (show Mv W (w4.setCell ⟨g, dn, none⟩ (.int .u32 (((wordZ z k.toNat)).toNat : Int))) mb g ∧ (w4.setCell ⟨g, dn, none⟩ (.int .u32 (((wordZ z k.toNat)).toNat : Int))).heap[mb]? = some (macO (.slice (some ⟨db, doff, none⟩) 64 dcap) g nr p (s + 1) false 0#32 0) ∧ (w4.setCell ⟨g, dn, none⟩ (.int .u32 (((wordZ z k.toNat)).toNat : Int))).rowIs g 33 nr (regF (upd r dn ((wordZ z k.toNat)))) from ⟨HZ.out.1.setg dn _, (set_otherM hmg).trans HZ.out.2.1, reg_set HZ.out.2.2.1 dn ((wordZ z k.toNat))⟩)
  refine hK.out _ _ ⟨HQ.out.2.1, (set_otherM hBg).trans HZ.out.2.2.2⟩ (fun hH2 => ?_)
  clear hK K hH1 hH2 HZ hfz hrd
  (try simp only [Act.put, List.setIfInBounds_toArray, List.set_cons_zero, List.set_cons_succ, List.getElem_toArray, List.getElem_cons_zero, List.getElem_cons_succ])
  refine wpAnyH_done (by kernel_rfl) ?_ _
  generalize w4.setCell ⟨g, dn, none⟩ (.int .u32 (((wordZ z k.toNat)).toNat : Int)) = U at HQ ⊢
  have m2 := cellM HQ.out.2.1 2 rfl
  have z2 := frozenM HQ.out.2.1 2
  go_wp2
  go_end0
  refine ⟨rfl, HQ.out.1.setm 2 _, ?_, ?_⟩
  · exact heap_setM HQ.out.2.1 2 (.int .i64 ((p : Int) + 1))
  · exact HQ.out.2.2.of_block (set_otherM hgm)
set_option maxHeartbeats 16000000 in
set_option maxRecDepth 100000 in
theorem p_step_m (op d a b : Int) (k : BitVec 32) (t f : Int) (W : World) (mb g nr n db doff dcap : Nat) (z : Nat → Int) (p s : Nat) (r : Nat → BitVec 32) (hop : op = 2) (hP : PreM W mb g nr n db doff dcap z p s ⟨op, d, a, b, k, t, f⟩ r) :
    Calls Tryz.prog 21 #[.pointer (some ⟨mb, 0, none⟩), irV ⟨op, d, a, b, k, t, f⟩] W fun e w' => e = .returned (.tuple #[]) ∧ Mv W w' mb g ∧ AftM w' mb g nr (.slice (some ⟨db, doff, none⟩) 64 dcap) p s (stepX ⟨op, d, a, b, k, t, f⟩ (fun i => i) (wordZ z) p r) := by
  subst hop
  have hone := hP.one
  have hsl := hP.steps
  have hpl := hP.places
  obtain ⟨hd0, hd1⟩ := hone.d (by simp [dM] <;> omega)
  simp only at hd0 hd1
  obtain ⟨dn, rfl⟩ : ∃ m : Nat, d = (m : Int) := ⟨d.toNat, by omega⟩
  have hd2 : dn < nr := by omega
  have hd3 : (dn : Int) < (nr : Int) := by omega
  obtain ⟨ha0, ha1⟩ := hone.a (by simp [aM] <;> omega)
  simp only at ha0 ha1
  obtain ⟨an, rfl⟩ : ∃ m : Nat, a = (m : Int) := ⟨a.toNat, by omega⟩
  have ha2 : an < nr := by omega
  have ha3 : (an : Int) < (nr : Int) := by omega
  have HA : Hid (∀ V : World, V.heap[mb]? = some (macO (.slice (some ⟨db, doff, none⟩) 64 dcap) g nr p s false 0#32 0) → V.rowIs g 33 nr (regF r) → Calls Tryz.prog 47 #[.pointer (some ⟨mb, 0, none⟩), irV ⟨2, (dn : Int), (an : Int), b, k, t, f⟩] V fun e w' => e = .returned (.tuple #[.int .u32 ((r an).toNat : Int), .int .u32 ((0#32).toNat : Int)]) ∧ Below V.heap.size V w') := Lib.hid fun V h1 h2 => p_asked_1 2 _ an 0 0 b k _ _ V mb g nr _ p s false 0#32 0 r rfl h1 h2 ha2
  have HP := Lib.hid hP
  have hml := (Array.getElem?_eq_some_iff.1 hP.mac).1
  have hgl := hP.row.lt
  have hmg : ¬ mb = g := hP.ne
  have hgm : ¬ g = mb := fun e => hP.ne e.symm
  have hBm : ¬ W.heap.size = mb := by omega
  have hmB : ¬ mb = W.heap.size := by omega
  have hBg : ¬ W.heap.size = g := by omega
  have hgB : ¬ g = W.heap.size := by omega
  have hs1 : IntKind.i64.wrap ((s : Int) + 1) = (s : Int) + 1 := IntWalk.i64_in _ (by omega)
  have hp1 : IntKind.i64.wrap ((p : Int) + 1) = (p : Int) + 1 := IntWalk.i64_in _ (by omega)
  have HW0 : Hid (∀ w1, Below (W.alloc (irO ⟨2, (dn : Int), (an : Int), b, k, t, f⟩)).heap.size (W.alloc (irO ⟨2, (dn : Int), (an : Int), b, k, t, f⟩)) w1 → Mv W w1 mb g ∧ w1.heap[mb]? = some (macO (.slice (some ⟨db, doff, none⟩) 64 dcap) g nr p s false 0#32 0) ∧ w1.rowIs g 33 nr (regF r) ∧ w1.heap[W.heap.size]? = some (irO ⟨2, (dn : Int), (an : Int), b, k, t, f⟩) ∧ Bytes64 w1 db doff z) := Lib.hid fun w1 hb =>
    ⟨(Mv.of (onM (lboxM W _) hb)), keepM (kept_allocM hP.mac _) hb, rowIs_below (rowIs_below hP.row (lboxM W _) hP.row.lt) hb (Nat.lt_of_lt_of_le hP.row.lt (lboxM W _).size), keepM (World.alloc_heap_new W _) hb, (hP.data.below (lboxM W _) hP.data.1).below hb (Nat.lt_of_lt_of_le hP.data.1 (lboxM W _).size)⟩
  have HM0 := Lib.hid (And.intro (kept_allocM hP.mac (irO ⟨2, (dn : Int), (an : Int), b, k, t, f⟩)) (rowIs_below hP.row (lboxM W (irO ⟨2, (dn : Int), (an : Int), b, k, t, f⟩)) hP.row.lt))
  have HST := Lib.hid (tX_move (fun i => i) (wordZ z) p r (dn : Int) (an : Int) b k t f)
  simp only [Int.toNat_natCast] at HST
  have HRS : Hid (∀ (V : World) (s' : Nat), V.heap[mb]? = some (macO (.slice (some ⟨db, doff, none⟩) 64 dcap) g nr p s' false 0#32 0) → Bytes64 V db doff z → Calls Tryz.prog 49 #[.pointer (some ⟨mb, 0, none⟩), irV ⟨2, (dn : Int), (an : Int), b, k, t, f⟩, .int .u32 ((r an).toNat : Int), .int .u32 ((0#32).toNat : Int)] V fun e w' => e = .returned (.int .u32 ((valM (wordZ z) ⟨2, (dn : Int), (an : Int), b, k, t, f⟩ (r an) (0#32)).toNat : Int)) ∧ Below V.heap.size V w') := Lib.hid fun V s' h1 h2 => p_result 2 _ _ _ k _ _ (r an) (0#32) V mb g nr db doff dcap z p s' false 0#32 0 (by omega) (fun e => (by cases e)) (fun e => (by cases e)) h1 h2
  have hval : valM (wordZ z) ⟨2, (dn : Int), (an : Int), b, k, t, f⟩ (r an) (0#32) = (r an) := rfl
  rw [hval] at HRS
  clear hval
  clear hone hP
  rw [HST.out]
  go_enter Tryz.func21, Tryz.ntmps21
  go_upto_region 6 with (go_at_call 47; (with_reducible refine (HA.out _ HM0.out.1 HM0.out.2).mono ?_); rintro e w1 ⟨rfl, hb1⟩; have HW := Lib.hid (HW0.out w1 hb1); clear hb1; have m2 := cellM HW.out.2.1 2 rfl; have m3 := cellM HW.out.2.1 3 rfl; have m1 := cellM HW.out.2.1 1 rfl; have m4 : w1.cell? ⟨mb, 4, none⟩ = some (.bool false) := cellM HW.out.2.1 4 rfl; have m5 : w1.cell? ⟨mb, 5, none⟩ = some (.int .u32 0) := cellM HW.out.2.1 5 rfl; have m6 : w1.cell? ⟨mb, 6, none⟩ = some (.int .i64 0) := cellM HW.out.2.1 6 rfl; have fz := fun i => frozenM HW.out.2.1 i; have z2 := fz 2; have z3 := fz 3; have z4 := fz 4; have z5 := fz 5; have z6 := fz 6; have u0 := cellM HW.out.2.2.2.1 0 rfl; have u1 := cellM HW.out.2.2.2.1 1 rfl; have u5 := cellM HW.out.2.2.2.1 5 rfl; have u6 := cellM HW.out.2.2.2.1 6 rfl; clear fz)
  have HV : Hid (Mv W (w1.setCell ⟨mb, 3, none⟩ (.int .i64 ((s : Int) + 1))) mb g ∧ (w1.setCell ⟨mb, 3, none⟩ (.int .i64 ((s : Int) + 1))).heap[mb]? = some (macO (.slice (some ⟨db, doff, none⟩) 64 dcap) g nr p (s + 1) false 0#32 0) ∧ (w1.setCell ⟨mb, 3, none⟩ (.int .i64 ((s : Int) + 1))).rowIs g 33 nr (regF r) ∧ (w1.setCell ⟨mb, 3, none⟩ (.int .i64 ((s : Int) + 1))).heap[W.heap.size]? = some (irO ⟨2, (dn : Int), (an : Int), b, k, t, f⟩) ∧ Bytes64 (w1.setCell ⟨mb, 3, none⟩ (.int .i64 ((s : Int) + 1))) db doff z) := Lib.hid ⟨HW.out.1.setm 3 _, heap_setM HW.out.2.1 3 (.int .i64 ((s : Int) + 1)), HW.out.2.2.1.of_block (set_otherM hgm), (set_otherM hBm).trans HW.out.2.2.2.1, bytes_setM HW.out.2.2.2.2 (bytes_ne HP.out.data HP.out.mac (by show (7 : Nat) ≤ 63; decide)) 3 _⟩
  clear HW m1 m2 m3 m4 m5 m6 z2 z3 z4 z5 z6 u0 u1 u5 u6
  generalize w1.setCell ⟨mb, 3, none⟩ (.int .i64 ((s : Int) + 1)) = V at HV ⊢
  have u0 := cellM HV.out.2.2.2.1 0 rfl
  go_wp2
  clear u0
  refine wp_region_held_drew (S := fun W' => W'.heap[mb]? = some (macO (.slice (some ⟨db, doff, none⟩) 64 dcap) g nr p (s + 1) false 0#32 0) ∧ W'.heap[W.heap.size]? = some (irO ⟨2, (dn : Int), (an : Int), b, k, t, f⟩)) (by kernel_rfl) ⟨HV.out.2.1, HV.out.2.2.2.1⟩ (fun hHeld => ?_)
  have HY := Lib.hid (show Mv W V.drew mb g ∧ V.drew.heap[mb]? = some (macO (.slice (some ⟨db, doff, none⟩) 64 dcap) g nr p (s + 1) false 0#32 0) ∧ V.drew.rowIs g 33 nr (regF r) ∧ Bytes64 V.drew db doff z from ⟨HV.out.1.up (below_drawn (Below.refl _ _) 1), HV.out.2.1, HV.out.2.2.1, HV.out.2.2.2.2⟩)
  clear HV
  generalize V.drew = Y at HY hHeld ⊢
  have HH := Lib.hid hHeld
  refine wpAnyH_take (i := 0) (v := ?_) rfl (by kernel_rfl) (by kernel_rfl) (by kernel_rfl) (fun _ _ _ h => h) (Or.inl ⟨by rfl, ?_⟩) (by assumption) ?_
  rotate_left
  · intro wS hSw
    (obtain ⟨i0, i1⟩ := hSw; have a1 := cellM i0 1 rfl; have e0 := cellM i1 0 rfl; have e1 := cellM i1 1 rfl; have e2 := cellM i1 2 rfl; have e3 := cellM i1 3 rfl; have e4 := cellM i1 4 rfl; have e5 := cellM i1 5 rfl; have e6 := cellM i1 6 rfl; clear i0 i1)
    go_simp
    all_goals with_reducible rfl
  (try simp only [List.getElem_toArray, List.getElem_cons_zero, List.getElem_cons_succ, Act.put, List.setIfInBounds_toArray, List.set_cons_zero, List.set_cons_succ])
  refine wpAnyH_take (i := 1) (v := ?_) rfl (by kernel_rfl) (by kernel_rfl) (by kernel_rfl) (fun _ _ _ h => h) (Or.inl ⟨by rfl, ?_⟩) (by assumption) ?_
  rotate_left
  · intro wS hSw
    (obtain ⟨i0, i1⟩ := hSw; have a1 := cellM i0 1 rfl; have e0 := cellM i1 0 rfl; have e1 := cellM i1 1 rfl; have e2 := cellM i1 2 rfl; have e3 := cellM i1 3 rfl; have e4 := cellM i1 4 rfl; have e5 := cellM i1 5 rfl; have e6 := cellM i1 6 rfl; clear i0 i1)
    go_simp
    all_goals with_reducible rfl
  (try simp only [List.getElem_toArray, List.getElem_cons_zero, List.getElem_cons_succ, Act.put, List.setIfInBounds_toArray, List.set_cons_zero, List.set_cons_succ])
  refine wpAnyH_take (i := 2) (v := ?_) rfl (by kernel_rfl) (by kernel_rfl) (by kernel_rfl) (fun _ _ _ h => h) (Or.inl ⟨by rfl, ?_⟩) (by assumption) ?_
  rotate_left
  · intro wS hSw
    (obtain ⟨i0, i1⟩ := hSw; have a1 := cellM i0 1 rfl; have e0 := cellM i1 0 rfl; have e1 := cellM i1 1 rfl; have e2 := cellM i1 2 rfl; have e3 := cellM i1 3 rfl; have e4 := cellM i1 4 rfl; have e5 := cellM i1 5 rfl; have e6 := cellM i1 6 rfl; clear i0 i1)
    go_simp
    all_goals with_reducible rfl
  (try simp only [List.getElem_toArray, List.getElem_cons_zero, List.getElem_cons_succ, Act.put, List.setIfInBounds_toArray, List.set_cons_zero, List.set_cons_succ])
  refine wpAnyH_take (i := 3) (v := ?_) rfl (by kernel_rfl) (by kernel_rfl) (by kernel_rfl) (fun _ _ _ h => h) (Or.inl ⟨by rfl, ?_⟩) (by assumption) ?_
  rotate_left
  · intro wS hSw
    (obtain ⟨i0, i1⟩ := hSw; have a1 := cellM i0 1 rfl; have e0 := cellM i1 0 rfl; have e1 := cellM i1 1 rfl; have e2 := cellM i1 2 rfl; have e3 := cellM i1 3 rfl; have e4 := cellM i1 4 rfl; have e5 := cellM i1 5 rfl; have e6 := cellM i1 6 rfl; clear i0 i1)
    go_simp
    all_goals with_reducible rfl
  (try simp only [List.getElem_toArray, List.getElem_cons_zero, List.getElem_cons_succ, Act.put, List.setIfInBounds_toArray, List.set_cons_zero, List.set_cons_succ])
  refine wpAnyH_take (i := 4) (v := ?_) rfl (by kernel_rfl) (by kernel_rfl) (by kernel_rfl) (fun _ _ _ h => h) (Or.inl ⟨by rfl, ?_⟩) (by assumption) ?_
  rotate_left
  · intro wS hSw
    (obtain ⟨i0, i1⟩ := hSw; have a1 := cellM i0 1 rfl; have e0 := cellM i1 0 rfl; have e1 := cellM i1 1 rfl; have e2 := cellM i1 2 rfl; have e3 := cellM i1 3 rfl; have e4 := cellM i1 4 rfl; have e5 := cellM i1 5 rfl; have e6 := cellM i1 6 rfl; clear i0 i1)
    go_simp
    all_goals with_reducible rfl
  (try simp only [List.getElem_toArray, List.getElem_cons_zero, List.getElem_cons_succ, Act.put, List.setIfInBounds_toArray, List.set_cons_zero, List.set_cons_succ])
  refine wpAnyH_take (i := 5) (v := ?_) rfl (by kernel_rfl) (by kernel_rfl) (by kernel_rfl) (fun _ _ _ h => h) (Or.inl ⟨by rfl, ?_⟩) (by assumption) ?_
  rotate_left
  · intro wS hSw
    (obtain ⟨i0, i1⟩ := hSw; have a1 := cellM i0 1 rfl; have e0 := cellM i1 0 rfl; have e1 := cellM i1 1 rfl; have e2 := cellM i1 2 rfl; have e3 := cellM i1 3 rfl; have e4 := cellM i1 4 rfl; have e5 := cellM i1 5 rfl; have e6 := cellM i1 6 rfl; clear i0 i1)
    go_simp
    all_goals with_reducible rfl
  (try simp only [List.getElem_toArray, List.getElem_cons_zero, List.getElem_cons_succ, Act.put, List.setIfInBounds_toArray, List.set_cons_zero, List.set_cons_succ])
  refine wpAnyH_take (i := 6) (v := ?_) rfl (by kernel_rfl) (by kernel_rfl) (by kernel_rfl) (fun _ _ _ h => h) (Or.inl ⟨by rfl, ?_⟩) (by assumption) ?_
  rotate_left
  · intro wS hSw
    (obtain ⟨i0, i1⟩ := hSw; have a1 := cellM i0 1 rfl; have e0 := cellM i1 0 rfl; have e1 := cellM i1 1 rfl; have e2 := cellM i1 2 rfl; have e3 := cellM i1 3 rfl; have e4 := cellM i1 4 rfl; have e5 := cellM i1 5 rfl; have e6 := cellM i1 6 rfl; clear i0 i1)
    go_simp
    all_goals with_reducible rfl
  (try simp only [List.getElem_toArray, List.getElem_cons_zero, List.getElem_cons_succ, Act.put, List.setIfInBounds_toArray, List.set_cons_zero, List.set_cons_succ])
  refine wpAnyH_take (i := 7) (v := ?_) rfl (by kernel_rfl) (by kernel_rfl) (by kernel_rfl) (fun _ _ _ h => h) (Or.inl ⟨by rfl, ?_⟩) (by assumption) ?_
  rotate_left
  · intro wS hSw
    (obtain ⟨i0, i1⟩ := hSw; have a1 := cellM i0 1 rfl; have e0 := cellM i1 0 rfl; have e1 := cellM i1 1 rfl; have e2 := cellM i1 2 rfl; have e3 := cellM i1 3 rfl; have e4 := cellM i1 4 rfl; have e5 := cellM i1 5 rfl; have e6 := cellM i1 6 rfl; clear i0 i1)
    go_simp
    all_goals with_reducible rfl
  (try simp only [List.getElem_toArray, List.getElem_cons_zero, List.getElem_cons_succ, Act.put, List.setIfInBounds_toArray, List.set_cons_zero, List.set_cons_succ])
  refine wpAnyH_take (i := 8) (v := ?_) rfl (by kernel_rfl) (by kernel_rfl) (by kernel_rfl) (fun _ _ _ h => h) (Or.inl ⟨by rfl, ?_⟩) (by assumption) ?_
  rotate_left
  · intro wS hSw
    (obtain ⟨i0, i1⟩ := hSw; have a1 := cellM i0 1 rfl; have e0 := cellM i1 0 rfl; have e1 := cellM i1 1 rfl; have e2 := cellM i1 2 rfl; have e3 := cellM i1 3 rfl; have e4 := cellM i1 4 rfl; have e5 := cellM i1 5 rfl; have e6 := cellM i1 6 rfl; clear i0 i1)
    go_simp
    all_goals with_reducible rfl
  (try simp only [List.getElem_toArray, List.getElem_cons_zero, List.getElem_cons_succ, Act.put, List.setIfInBounds_toArray, List.set_cons_zero, List.set_cons_succ])
  refine wpAnyH_take (i := 9) (v := ?_) rfl (by kernel_rfl) (by kernel_rfl) (by kernel_rfl) (fun _ _ _ h => h) (Or.inl ⟨by rfl, ?_⟩) (by assumption) ?_
  rotate_left
  · intro wS hSw
    (obtain ⟨i0, i1⟩ := hSw; have a1 := cellM i0 1 rfl; have e0 := cellM i1 0 rfl; have e1 := cellM i1 1 rfl; have e2 := cellM i1 2 rfl; have e3 := cellM i1 3 rfl; have e4 := cellM i1 4 rfl; have e5 := cellM i1 5 rfl; have e6 := cellM i1 6 rfl; clear i0 i1)
    go_simp
    all_goals with_reducible rfl
  (try simp only [List.getElem_toArray, List.getElem_cons_zero, List.getElem_cons_succ, Act.put, List.setIfInBounds_toArray, List.set_cons_zero, List.set_cons_succ])
  refine held_one (i := 10) (by kernel_rfl) rfl (fun K hK => ?_)
  go_simp
  go_at_call 49
  refine (HRS.out _ _ HY.out.2.1 HY.out.2.2.2).mono ?_
  rintro e w4 ⟨rfl, hb4⟩
  have HZ := Lib.hid (show Mv W w4 mb g ∧ w4.heap[mb]? = some (macO (.slice (some ⟨db, doff, none⟩) 64 dcap) g nr p (s + 1) false 0#32 0) ∧ w4.rowIs g 33 nr (regF r) ∧ w4.heap[W.heap.size]? = some (irO ⟨2, (dn : Int), (an : Int), b, k, t, f⟩) from ⟨HY.out.1.up hb4, keepM HY.out.2.1 hb4, rowIs_below HY.out.2.2.1 hb4 HY.out.2.2.1.lt, keepM HH.out.2 hb4⟩)
  refine hK.out _ _ ⟨HZ.out.2.1, HZ.out.2.2.2⟩ (fun hH1 => ?_)
  clear hK K hHeld hb4 HY HH
  (try simp only [Act.put, List.setIfInBounds_toArray, List.set_cons_zero, List.set_cons_succ, List.getElem_toArray, List.getElem_cons_zero, List.getElem_cons_succ])
  refine wpAnyH_take (i := 11) (v := ?_) rfl (by kernel_rfl) (by kernel_rfl) (by kernel_rfl) (fun _ _ _ h => h) (Or.inl ⟨by rfl, ?_⟩) (by assumption) ?_
  rotate_left
  · intro wS hSw
    (skip)
    go_simp
    all_goals with_reducible rfl
  (try simp only [List.getElem_toArray, List.getElem_cons_zero, List.getElem_cons_succ, Act.put, List.setIfInBounds_toArray, List.set_cons_zero, List.set_cons_succ])
  have hfz : w4.frozen? ⟨g, dn, none⟩ = false := World.rowIs.frozen HZ.out.2.2.1 _
  obtain ⟨v0, hrd⟩ : ∃ v, w4.cell? ⟨g, dn, none⟩ = some v := ⟨_, World.rowIs.cell HZ.out.2.2.1 hd2⟩
  refine held_one (i := 12) (by kernel_rfl) rfl (fun K hK => ?_)
  go_simp
  have HQ := Lib.hid (show Mv W (w4.setCell ⟨g, dn, none⟩ (.int .u32 (((r an)).toNat : Int))) mb g ∧ (w4.setCell ⟨g, dn, none⟩ (.int .u32 (((r an)).toNat : Int))).heap[mb]? = some (macO (.slice (some ⟨db, doff, none⟩) 64 dcap) g nr p (s + 1) false 0#32 0) ∧ (w4.setCell ⟨g, dn, none⟩ (.int .u32 (((r an)).toNat : Int))).rowIs g 33 nr (regF (upd r dn ((r an)))) from ⟨HZ.out.1.setg dn _, (set_otherM hmg).trans HZ.out.2.1, reg_set HZ.out.2.2.1 dn ((r an))⟩)
  refine hK.out _ _ ⟨HQ.out.2.1, (set_otherM hBg).trans HZ.out.2.2.2⟩ (fun hH2 => ?_)
  clear hK K hH1 hH2 HZ hfz hrd
  (try simp only [Act.put, List.setIfInBounds_toArray, List.set_cons_zero, List.set_cons_succ, List.getElem_toArray, List.getElem_cons_zero, List.getElem_cons_succ])
  refine wpAnyH_done (by kernel_rfl) ?_ _
  generalize w4.setCell ⟨g, dn, none⟩ (.int .u32 (((r an)).toNat : Int)) = U at HQ ⊢
  have m2 := cellM HQ.out.2.1 2 rfl
  have z2 := frozenM HQ.out.2.1 2
  go_wp2
  go_end0
  refine ⟨rfl, HQ.out.1.setm 2 _, ?_, ?_⟩
  · exact heap_setM HQ.out.2.1 2 (.int .i64 ((p : Int) + 1))
  · exact HQ.out.2.2.of_block (set_otherM hgm)
set_option maxHeartbeats 16000000 in
set_option maxRecDepth 100000 in
theorem p_step_n (op d a b : Int) (k : BitVec 32) (t f : Int) (W : World) (mb g nr n db doff dcap : Nat) (z : Nat → Int) (p s : Nat) (r : Nat → BitVec 32) (hop : op = 13) (hP : PreM W mb g nr n db doff dcap z p s ⟨op, d, a, b, k, t, f⟩ r) :
    Calls Tryz.prog 21 #[.pointer (some ⟨mb, 0, none⟩), irV ⟨op, d, a, b, k, t, f⟩] W fun e w' => e = .returned (.tuple #[]) ∧ Mv W w' mb g ∧ AftM w' mb g nr (.slice (some ⟨db, doff, none⟩) 64 dcap) p s (stepX ⟨op, d, a, b, k, t, f⟩ (fun i => i) (wordZ z) p r) := by
  subst hop
  have hone := hP.one
  have hsl := hP.steps
  have hpl := hP.places
  obtain ⟨hd0, hd1⟩ := hone.d (by simp [dM] <;> omega)
  simp only at hd0 hd1
  obtain ⟨dn, rfl⟩ : ∃ m : Nat, d = (m : Int) := ⟨d.toNat, by omega⟩
  have hd2 : dn < nr := by omega
  have hd3 : (dn : Int) < (nr : Int) := by omega
  obtain ⟨ha0, ha1⟩ := hone.a (by simp [aM] <;> omega)
  simp only at ha0 ha1
  obtain ⟨an, rfl⟩ : ∃ m : Nat, a = (m : Int) := ⟨a.toNat, by omega⟩
  have ha2 : an < nr := by omega
  have ha3 : (an : Int) < (nr : Int) := by omega
  have HA : Hid (∀ V : World, V.heap[mb]? = some (macO (.slice (some ⟨db, doff, none⟩) 64 dcap) g nr p s false 0#32 0) → V.rowIs g 33 nr (regF r) → Calls Tryz.prog 47 #[.pointer (some ⟨mb, 0, none⟩), irV ⟨13, (dn : Int), (an : Int), b, k, t, f⟩] V fun e w' => e = .returned (.tuple #[.int .u32 ((r an).toNat : Int), .int .u32 ((0#32).toNat : Int)]) ∧ Below V.heap.size V w') := Lib.hid fun V h1 h2 => p_asked_1 13 _ an 0 0 b k _ _ V mb g nr _ p s false 0#32 0 r rfl h1 h2 ha2
  have HP := Lib.hid hP
  have hml := (Array.getElem?_eq_some_iff.1 hP.mac).1
  have hgl := hP.row.lt
  have hmg : ¬ mb = g := hP.ne
  have hgm : ¬ g = mb := fun e => hP.ne e.symm
  have hBm : ¬ W.heap.size = mb := by omega
  have hmB : ¬ mb = W.heap.size := by omega
  have hBg : ¬ W.heap.size = g := by omega
  have hgB : ¬ g = W.heap.size := by omega
  have hs1 : IntKind.i64.wrap ((s : Int) + 1) = (s : Int) + 1 := IntWalk.i64_in _ (by omega)
  have hp1 : IntKind.i64.wrap ((p : Int) + 1) = (p : Int) + 1 := IntWalk.i64_in _ (by omega)
  have HW0 : Hid (∀ w1, Below (W.alloc (irO ⟨13, (dn : Int), (an : Int), b, k, t, f⟩)).heap.size (W.alloc (irO ⟨13, (dn : Int), (an : Int), b, k, t, f⟩)) w1 → Mv W w1 mb g ∧ w1.heap[mb]? = some (macO (.slice (some ⟨db, doff, none⟩) 64 dcap) g nr p s false 0#32 0) ∧ w1.rowIs g 33 nr (regF r) ∧ w1.heap[W.heap.size]? = some (irO ⟨13, (dn : Int), (an : Int), b, k, t, f⟩) ∧ Bytes64 w1 db doff z) := Lib.hid fun w1 hb =>
    ⟨(Mv.of (onM (lboxM W _) hb)), keepM (kept_allocM hP.mac _) hb, rowIs_below (rowIs_below hP.row (lboxM W _) hP.row.lt) hb (Nat.lt_of_lt_of_le hP.row.lt (lboxM W _).size), keepM (World.alloc_heap_new W _) hb, (hP.data.below (lboxM W _) hP.data.1).below hb (Nat.lt_of_lt_of_le hP.data.1 (lboxM W _).size)⟩
  have HM0 := Lib.hid (And.intro (kept_allocM hP.mac (irO ⟨13, (dn : Int), (an : Int), b, k, t, f⟩)) (rowIs_below hP.row (lboxM W (irO ⟨13, (dn : Int), (an : Int), b, k, t, f⟩)) hP.row.lt))
  have HST := Lib.hid (tX_neg (fun i => i) (wordZ z) p r (dn : Int) (an : Int) b k t f)
  simp only [Int.toNat_natCast] at HST
  have HRS : Hid (∀ (V : World) (s' : Nat), V.heap[mb]? = some (macO (.slice (some ⟨db, doff, none⟩) 64 dcap) g nr p s' false 0#32 0) → Bytes64 V db doff z → Calls Tryz.prog 49 #[.pointer (some ⟨mb, 0, none⟩), irV ⟨13, (dn : Int), (an : Int), b, k, t, f⟩, .int .u32 ((r an).toNat : Int), .int .u32 ((0#32).toNat : Int)] V fun e w' => e = .returned (.int .u32 ((valM (wordZ z) ⟨13, (dn : Int), (an : Int), b, k, t, f⟩ (r an) (0#32)).toNat : Int)) ∧ Below V.heap.size V w') := Lib.hid fun V s' h1 h2 => p_result 13 _ _ _ k _ _ (r an) (0#32) V mb g nr db doff dcap z p s' false 0#32 0 (by omega) (fun e => (by cases e)) (fun e => (by cases e)) h1 h2
  have hval : valM (wordZ z) ⟨13, (dn : Int), (an : Int), b, k, t, f⟩ (r an) (0#32) = (-(r an)) := rfl
  rw [hval] at HRS
  clear hval
  generalize -(r an) = v at HST HRS
  clear hone hP
  rw [HST.out]
  go_enter Tryz.func21, Tryz.ntmps21
  go_upto_region 6 with (go_at_call 47; (with_reducible refine (HA.out _ HM0.out.1 HM0.out.2).mono ?_); rintro e w1 ⟨rfl, hb1⟩; have HW := Lib.hid (HW0.out w1 hb1); clear hb1; have m2 := cellM HW.out.2.1 2 rfl; have m3 := cellM HW.out.2.1 3 rfl; have m1 := cellM HW.out.2.1 1 rfl; have m4 : w1.cell? ⟨mb, 4, none⟩ = some (.bool false) := cellM HW.out.2.1 4 rfl; have m5 : w1.cell? ⟨mb, 5, none⟩ = some (.int .u32 0) := cellM HW.out.2.1 5 rfl; have m6 : w1.cell? ⟨mb, 6, none⟩ = some (.int .i64 0) := cellM HW.out.2.1 6 rfl; have fz := fun i => frozenM HW.out.2.1 i; have z2 := fz 2; have z3 := fz 3; have z4 := fz 4; have z5 := fz 5; have z6 := fz 6; have u0 := cellM HW.out.2.2.2.1 0 rfl; have u1 := cellM HW.out.2.2.2.1 1 rfl; have u5 := cellM HW.out.2.2.2.1 5 rfl; have u6 := cellM HW.out.2.2.2.1 6 rfl; clear fz)
  have HV : Hid (Mv W (w1.setCell ⟨mb, 3, none⟩ (.int .i64 ((s : Int) + 1))) mb g ∧ (w1.setCell ⟨mb, 3, none⟩ (.int .i64 ((s : Int) + 1))).heap[mb]? = some (macO (.slice (some ⟨db, doff, none⟩) 64 dcap) g nr p (s + 1) false 0#32 0) ∧ (w1.setCell ⟨mb, 3, none⟩ (.int .i64 ((s : Int) + 1))).rowIs g 33 nr (regF r) ∧ (w1.setCell ⟨mb, 3, none⟩ (.int .i64 ((s : Int) + 1))).heap[W.heap.size]? = some (irO ⟨13, (dn : Int), (an : Int), b, k, t, f⟩) ∧ Bytes64 (w1.setCell ⟨mb, 3, none⟩ (.int .i64 ((s : Int) + 1))) db doff z) := Lib.hid ⟨HW.out.1.setm 3 _, heap_setM HW.out.2.1 3 (.int .i64 ((s : Int) + 1)), HW.out.2.2.1.of_block (set_otherM hgm), (set_otherM hBm).trans HW.out.2.2.2.1, bytes_setM HW.out.2.2.2.2 (bytes_ne HP.out.data HP.out.mac (by show (7 : Nat) ≤ 63; decide)) 3 _⟩
  clear HW m1 m2 m3 m4 m5 m6 z2 z3 z4 z5 z6 u0 u1 u5 u6
  generalize w1.setCell ⟨mb, 3, none⟩ (.int .i64 ((s : Int) + 1)) = V at HV ⊢
  have u0 := cellM HV.out.2.2.2.1 0 rfl
  go_wp2
  clear u0
  refine wp_region_held_drew (S := fun W' => W'.heap[mb]? = some (macO (.slice (some ⟨db, doff, none⟩) 64 dcap) g nr p (s + 1) false 0#32 0) ∧ W'.heap[W.heap.size]? = some (irO ⟨13, (dn : Int), (an : Int), b, k, t, f⟩)) (by kernel_rfl) ⟨HV.out.2.1, HV.out.2.2.2.1⟩ (fun hHeld => ?_)
  have HY := Lib.hid (show Mv W V.drew mb g ∧ V.drew.heap[mb]? = some (macO (.slice (some ⟨db, doff, none⟩) 64 dcap) g nr p (s + 1) false 0#32 0) ∧ V.drew.rowIs g 33 nr (regF r) ∧ Bytes64 V.drew db doff z from ⟨HV.out.1.up (below_drawn (Below.refl _ _) 1), HV.out.2.1, HV.out.2.2.1, HV.out.2.2.2.2⟩)
  clear HV
  generalize V.drew = Y at HY hHeld ⊢
  have HH := Lib.hid hHeld
  refine wpAnyH_take (i := 0) (v := ?_) rfl (by kernel_rfl) (by kernel_rfl) (by kernel_rfl) (fun _ _ _ h => h) (Or.inl ⟨by rfl, ?_⟩) (by assumption) ?_
  rotate_left
  · intro wS hSw
    (obtain ⟨i0, i1⟩ := hSw; have a1 := cellM i0 1 rfl; have e0 := cellM i1 0 rfl; have e1 := cellM i1 1 rfl; have e2 := cellM i1 2 rfl; have e3 := cellM i1 3 rfl; have e4 := cellM i1 4 rfl; have e5 := cellM i1 5 rfl; have e6 := cellM i1 6 rfl; clear i0 i1)
    go_simp
    all_goals with_reducible rfl
  (try simp only [List.getElem_toArray, List.getElem_cons_zero, List.getElem_cons_succ, Act.put, List.setIfInBounds_toArray, List.set_cons_zero, List.set_cons_succ])
  refine wpAnyH_take (i := 1) (v := ?_) rfl (by kernel_rfl) (by kernel_rfl) (by kernel_rfl) (fun _ _ _ h => h) (Or.inl ⟨by rfl, ?_⟩) (by assumption) ?_
  rotate_left
  · intro wS hSw
    (obtain ⟨i0, i1⟩ := hSw; have a1 := cellM i0 1 rfl; have e0 := cellM i1 0 rfl; have e1 := cellM i1 1 rfl; have e2 := cellM i1 2 rfl; have e3 := cellM i1 3 rfl; have e4 := cellM i1 4 rfl; have e5 := cellM i1 5 rfl; have e6 := cellM i1 6 rfl; clear i0 i1)
    go_simp
    all_goals with_reducible rfl
  (try simp only [List.getElem_toArray, List.getElem_cons_zero, List.getElem_cons_succ, Act.put, List.setIfInBounds_toArray, List.set_cons_zero, List.set_cons_succ])
  refine wpAnyH_take (i := 2) (v := ?_) rfl (by kernel_rfl) (by kernel_rfl) (by kernel_rfl) (fun _ _ _ h => h) (Or.inl ⟨by rfl, ?_⟩) (by assumption) ?_
  rotate_left
  · intro wS hSw
    (obtain ⟨i0, i1⟩ := hSw; have a1 := cellM i0 1 rfl; have e0 := cellM i1 0 rfl; have e1 := cellM i1 1 rfl; have e2 := cellM i1 2 rfl; have e3 := cellM i1 3 rfl; have e4 := cellM i1 4 rfl; have e5 := cellM i1 5 rfl; have e6 := cellM i1 6 rfl; clear i0 i1)
    go_simp
    all_goals with_reducible rfl
  (try simp only [List.getElem_toArray, List.getElem_cons_zero, List.getElem_cons_succ, Act.put, List.setIfInBounds_toArray, List.set_cons_zero, List.set_cons_succ])
  refine wpAnyH_take (i := 3) (v := ?_) rfl (by kernel_rfl) (by kernel_rfl) (by kernel_rfl) (fun _ _ _ h => h) (Or.inl ⟨by rfl, ?_⟩) (by assumption) ?_
  rotate_left
  · intro wS hSw
    (obtain ⟨i0, i1⟩ := hSw; have a1 := cellM i0 1 rfl; have e0 := cellM i1 0 rfl; have e1 := cellM i1 1 rfl; have e2 := cellM i1 2 rfl; have e3 := cellM i1 3 rfl; have e4 := cellM i1 4 rfl; have e5 := cellM i1 5 rfl; have e6 := cellM i1 6 rfl; clear i0 i1)
    go_simp
    all_goals with_reducible rfl
  (try simp only [List.getElem_toArray, List.getElem_cons_zero, List.getElem_cons_succ, Act.put, List.setIfInBounds_toArray, List.set_cons_zero, List.set_cons_succ])
  refine wpAnyH_take (i := 4) (v := ?_) rfl (by kernel_rfl) (by kernel_rfl) (by kernel_rfl) (fun _ _ _ h => h) (Or.inl ⟨by rfl, ?_⟩) (by assumption) ?_
  rotate_left
  · intro wS hSw
    (obtain ⟨i0, i1⟩ := hSw; have a1 := cellM i0 1 rfl; have e0 := cellM i1 0 rfl; have e1 := cellM i1 1 rfl; have e2 := cellM i1 2 rfl; have e3 := cellM i1 3 rfl; have e4 := cellM i1 4 rfl; have e5 := cellM i1 5 rfl; have e6 := cellM i1 6 rfl; clear i0 i1)
    go_simp
    all_goals with_reducible rfl
  (try simp only [List.getElem_toArray, List.getElem_cons_zero, List.getElem_cons_succ, Act.put, List.setIfInBounds_toArray, List.set_cons_zero, List.set_cons_succ])
  refine wpAnyH_take (i := 5) (v := ?_) rfl (by kernel_rfl) (by kernel_rfl) (by kernel_rfl) (fun _ _ _ h => h) (Or.inl ⟨by rfl, ?_⟩) (by assumption) ?_
  rotate_left
  · intro wS hSw
    (obtain ⟨i0, i1⟩ := hSw; have a1 := cellM i0 1 rfl; have e0 := cellM i1 0 rfl; have e1 := cellM i1 1 rfl; have e2 := cellM i1 2 rfl; have e3 := cellM i1 3 rfl; have e4 := cellM i1 4 rfl; have e5 := cellM i1 5 rfl; have e6 := cellM i1 6 rfl; clear i0 i1)
    go_simp
    all_goals with_reducible rfl
  (try simp only [List.getElem_toArray, List.getElem_cons_zero, List.getElem_cons_succ, Act.put, List.setIfInBounds_toArray, List.set_cons_zero, List.set_cons_succ])
  refine wpAnyH_take (i := 6) (v := ?_) rfl (by kernel_rfl) (by kernel_rfl) (by kernel_rfl) (fun _ _ _ h => h) (Or.inl ⟨by rfl, ?_⟩) (by assumption) ?_
  rotate_left
  · intro wS hSw
    (obtain ⟨i0, i1⟩ := hSw; have a1 := cellM i0 1 rfl; have e0 := cellM i1 0 rfl; have e1 := cellM i1 1 rfl; have e2 := cellM i1 2 rfl; have e3 := cellM i1 3 rfl; have e4 := cellM i1 4 rfl; have e5 := cellM i1 5 rfl; have e6 := cellM i1 6 rfl; clear i0 i1)
    go_simp
    all_goals with_reducible rfl
  (try simp only [List.getElem_toArray, List.getElem_cons_zero, List.getElem_cons_succ, Act.put, List.setIfInBounds_toArray, List.set_cons_zero, List.set_cons_succ])
  refine wpAnyH_take (i := 7) (v := ?_) rfl (by kernel_rfl) (by kernel_rfl) (by kernel_rfl) (fun _ _ _ h => h) (Or.inl ⟨by rfl, ?_⟩) (by assumption) ?_
  rotate_left
  · intro wS hSw
    (obtain ⟨i0, i1⟩ := hSw; have a1 := cellM i0 1 rfl; have e0 := cellM i1 0 rfl; have e1 := cellM i1 1 rfl; have e2 := cellM i1 2 rfl; have e3 := cellM i1 3 rfl; have e4 := cellM i1 4 rfl; have e5 := cellM i1 5 rfl; have e6 := cellM i1 6 rfl; clear i0 i1)
    go_simp
    all_goals with_reducible rfl
  (try simp only [List.getElem_toArray, List.getElem_cons_zero, List.getElem_cons_succ, Act.put, List.setIfInBounds_toArray, List.set_cons_zero, List.set_cons_succ])
  refine wpAnyH_take (i := 8) (v := ?_) rfl (by kernel_rfl) (by kernel_rfl) (by kernel_rfl) (fun _ _ _ h => h) (Or.inl ⟨by rfl, ?_⟩) (by assumption) ?_
  rotate_left
  · intro wS hSw
    (obtain ⟨i0, i1⟩ := hSw; have a1 := cellM i0 1 rfl; have e0 := cellM i1 0 rfl; have e1 := cellM i1 1 rfl; have e2 := cellM i1 2 rfl; have e3 := cellM i1 3 rfl; have e4 := cellM i1 4 rfl; have e5 := cellM i1 5 rfl; have e6 := cellM i1 6 rfl; clear i0 i1)
    go_simp
    all_goals with_reducible rfl
  (try simp only [List.getElem_toArray, List.getElem_cons_zero, List.getElem_cons_succ, Act.put, List.setIfInBounds_toArray, List.set_cons_zero, List.set_cons_succ])
  refine wpAnyH_take (i := 9) (v := ?_) rfl (by kernel_rfl) (by kernel_rfl) (by kernel_rfl) (fun _ _ _ h => h) (Or.inl ⟨by rfl, ?_⟩) (by assumption) ?_
  rotate_left
  · intro wS hSw
    (obtain ⟨i0, i1⟩ := hSw; have a1 := cellM i0 1 rfl; have e0 := cellM i1 0 rfl; have e1 := cellM i1 1 rfl; have e2 := cellM i1 2 rfl; have e3 := cellM i1 3 rfl; have e4 := cellM i1 4 rfl; have e5 := cellM i1 5 rfl; have e6 := cellM i1 6 rfl; clear i0 i1)
    go_simp
    all_goals with_reducible rfl
  (try simp only [List.getElem_toArray, List.getElem_cons_zero, List.getElem_cons_succ, Act.put, List.setIfInBounds_toArray, List.set_cons_zero, List.set_cons_succ])
  refine held_one (i := 10) (by kernel_rfl) rfl (fun K hK => ?_)
  go_simp
  go_at_call 49
  refine (HRS.out _ _ HY.out.2.1 HY.out.2.2.2).mono ?_
  rintro e w4 ⟨rfl, hb4⟩
  have HZ := Lib.hid (show Mv W w4 mb g ∧ w4.heap[mb]? = some (macO (.slice (some ⟨db, doff, none⟩) 64 dcap) g nr p (s + 1) false 0#32 0) ∧ w4.rowIs g 33 nr (regF r) ∧ w4.heap[W.heap.size]? = some (irO ⟨13, (dn : Int), (an : Int), b, k, t, f⟩) from ⟨HY.out.1.up hb4, keepM HY.out.2.1 hb4, rowIs_below HY.out.2.2.1 hb4 HY.out.2.2.1.lt, keepM HH.out.2 hb4⟩)
  refine hK.out _ _ ⟨HZ.out.2.1, HZ.out.2.2.2⟩ (fun hH1 => ?_)
  clear hK K hHeld hb4 HY HH
  (try simp only [Act.put, List.setIfInBounds_toArray, List.set_cons_zero, List.set_cons_succ, List.getElem_toArray, List.getElem_cons_zero, List.getElem_cons_succ])
  refine wpAnyH_take (i := 11) (v := ?_) rfl (by kernel_rfl) (by kernel_rfl) (by kernel_rfl) (fun _ _ _ h => h) (Or.inl ⟨by rfl, ?_⟩) (by assumption) ?_
  rotate_left
  · intro wS hSw
    (skip)
    go_simp
    all_goals with_reducible rfl
  (try simp only [List.getElem_toArray, List.getElem_cons_zero, List.getElem_cons_succ, Act.put, List.setIfInBounds_toArray, List.set_cons_zero, List.set_cons_succ])
  have hfz : w4.frozen? ⟨g, dn, none⟩ = false := World.rowIs.frozen HZ.out.2.2.1 _
  obtain ⟨v0, hrd⟩ : ∃ v, w4.cell? ⟨g, dn, none⟩ = some v := ⟨_, World.rowIs.cell HZ.out.2.2.1 hd2⟩
  refine held_one (i := 12) (by kernel_rfl) rfl (fun K hK => ?_)
  go_simp
  have HQ := Lib.hid (show Mv W (w4.setCell ⟨g, dn, none⟩ (.int .u32 ((v).toNat : Int))) mb g ∧ (w4.setCell ⟨g, dn, none⟩ (.int .u32 ((v).toNat : Int))).heap[mb]? = some (macO (.slice (some ⟨db, doff, none⟩) 64 dcap) g nr p (s + 1) false 0#32 0) ∧ (w4.setCell ⟨g, dn, none⟩ (.int .u32 ((v).toNat : Int))).rowIs g 33 nr (regF (upd r dn (v))) from ⟨HZ.out.1.setg dn _, (set_otherM hmg).trans HZ.out.2.1, reg_set HZ.out.2.2.1 dn (v)⟩)
  refine hK.out _ _ ⟨HQ.out.2.1, (set_otherM hBg).trans HZ.out.2.2.2⟩ (fun hH2 => ?_)
  clear hK K hH1 hH2 HZ hfz hrd
  (try simp only [Act.put, List.setIfInBounds_toArray, List.set_cons_zero, List.set_cons_succ, List.getElem_toArray, List.getElem_cons_zero, List.getElem_cons_succ])
  refine wpAnyH_done (by kernel_rfl) ?_ _
  generalize w4.setCell ⟨g, dn, none⟩ (.int .u32 ((v).toNat : Int)) = U at HQ ⊢
  have m2 := cellM HQ.out.2.1 2 rfl
  have z2 := frozenM HQ.out.2.1 2
  go_wp2
  go_end0
  refine ⟨rfl, HQ.out.1.setm 2 _, ?_, ?_⟩
  · exact heap_setM HQ.out.2.1 2 (.int .i64 ((p : Int) + 1))
  · exact HQ.out.2.2.of_block (set_otherM hgm)
set_option maxHeartbeats 16000000 in
set_option maxRecDepth 100000 in
theorem p_step_w (op d a b : Int) (k : BitVec 32) (t f : Int) (W : World) (mb g nr n db doff dcap : Nat) (z : Nat → Int) (p s : Nat) (r : Nat → BitVec 32) (hop : 4 ≤ op ∧ op ≤ 12) (hP : PreM W mb g nr n db doff dcap z p s ⟨op, d, a, b, k, t, f⟩ r) :
    Calls Tryz.prog 21 #[.pointer (some ⟨mb, 0, none⟩), irV ⟨op, d, a, b, k, t, f⟩] W fun e w' => e = .returned (.tuple #[]) ∧ Mv W w' mb g ∧ AftM w' mb g nr (.slice (some ⟨db, doff, none⟩) 64 dcap) p s (stepX ⟨op, d, a, b, k, t, f⟩ (fun i => i) (wordZ z) p r) := by
  have hone := hP.one
  have hsl := hP.steps
  have hpl := hP.places
  obtain ⟨hd0, hd1⟩ := hone.d (by simp [dM] <;> omega)
  simp only at hd0 hd1
  obtain ⟨dn, rfl⟩ : ∃ m : Nat, d = (m : Int) := ⟨d.toNat, by omega⟩
  have hd2 : dn < nr := by omega
  have hd3 : (dn : Int) < (nr : Int) := by omega
  obtain ⟨ha0, ha1⟩ := hone.a (by simp [aM] <;> omega)
  simp only at ha0 ha1
  obtain ⟨an, rfl⟩ : ∃ m : Nat, a = (m : Int) := ⟨a.toNat, by omega⟩
  have ha2 : an < nr := by omega
  have ha3 : (an : Int) < (nr : Int) := by omega
  obtain ⟨hb0, hb1⟩ := hone.b (by simp [bM] <;> omega)
  simp only at hb0 hb1
  obtain ⟨bn, rfl⟩ : ∃ m : Nat, b = (m : Int) := ⟨b.toNat, by omega⟩
  have hb2 : bn < nr := by omega
  have hb3 : (bn : Int) < (nr : Int) := by omega
  have HA : Hid (∀ V : World, V.heap[mb]? = some (macO (.slice (some ⟨db, doff, none⟩) 64 dcap) g nr p s false 0#32 0) → V.rowIs g 33 nr (regF r) → Calls Tryz.prog 47 #[.pointer (some ⟨mb, 0, none⟩), irV ⟨op, (dn : Int), (an : Int), (bn : Int), k, t, f⟩] V fun e w' => e = .returned (.tuple #[.int .u32 ((r an).toNat : Int), .int .u32 ((r bn).toNat : Int)]) ∧ Below V.heap.size V w') := Lib.hid fun V h1 h2 => p_asked_2 op _ an bn 0 0 k _ _ V mb g nr _ p s false 0#32 0 r (by unfold askN; rw [if_pos (show bM op = true by simp [bM]; omega)]) h1 h2 ha2 hb2
  have HP := Lib.hid hP
  have hml := (Array.getElem?_eq_some_iff.1 hP.mac).1
  have hgl := hP.row.lt
  have hmg : ¬ mb = g := hP.ne
  have hgm : ¬ g = mb := fun e => hP.ne e.symm
  have hBm : ¬ W.heap.size = mb := by omega
  have hmB : ¬ mb = W.heap.size := by omega
  have hBg : ¬ W.heap.size = g := by omega
  have hgB : ¬ g = W.heap.size := by omega
  have hs1 : IntKind.i64.wrap ((s : Int) + 1) = (s : Int) + 1 := IntWalk.i64_in _ (by omega)
  have hp1 : IntKind.i64.wrap ((p : Int) + 1) = (p : Int) + 1 := IntWalk.i64_in _ (by omega)
  have HW0 : Hid (∀ w1, Below (W.alloc (irO ⟨op, (dn : Int), (an : Int), (bn : Int), k, t, f⟩)).heap.size (W.alloc (irO ⟨op, (dn : Int), (an : Int), (bn : Int), k, t, f⟩)) w1 → Mv W w1 mb g ∧ w1.heap[mb]? = some (macO (.slice (some ⟨db, doff, none⟩) 64 dcap) g nr p s false 0#32 0) ∧ w1.rowIs g 33 nr (regF r) ∧ w1.heap[W.heap.size]? = some (irO ⟨op, (dn : Int), (an : Int), (bn : Int), k, t, f⟩) ∧ Bytes64 w1 db doff z) := Lib.hid fun w1 hb =>
    ⟨(Mv.of (onM (lboxM W _) hb)), keepM (kept_allocM hP.mac _) hb, rowIs_below (rowIs_below hP.row (lboxM W _) hP.row.lt) hb (Nat.lt_of_lt_of_le hP.row.lt (lboxM W _).size), keepM (World.alloc_heap_new W _) hb, (hP.data.below (lboxM W _) hP.data.1).below hb (Nat.lt_of_lt_of_le hP.data.1 (lboxM W _).size)⟩
  have HM0 := Lib.hid (And.intro (kept_allocM hP.mac (irO ⟨op, (dn : Int), (an : Int), (bn : Int), k, t, f⟩)) (rowIs_below hP.row (lboxM W (irO ⟨op, (dn : Int), (an : Int), (bn : Int), k, t, f⟩)) hP.row.lt))
  by_cases h7 : op = 7 ∧ r bn = 0#32
  · obtain ⟨rfl, h0⟩ := h7
    have HST := Lib.hid (tX_div0 (fun i => i) (wordZ z) p r (dn : Int) (an : Int) (bn : Int) k t f (by simpa using h0))
    clear hone hP hop
    rw [h0] at HA
    rw [HST.out]
    go_enter Tryz.func21, Tryz.ntmps21
    go_wp2_with (go_at_call 47; (with_reducible refine (HA.out _ HM0.out.1 HM0.out.2).mono ?_); rintro e w1 ⟨rfl, hb1⟩; have HW := Lib.hid (HW0.out w1 hb1); clear hb1; have m2 := cellM HW.out.2.1 2 rfl; have m3 := cellM HW.out.2.1 3 rfl; have m1 := cellM HW.out.2.1 1 rfl; have m4 : w1.cell? ⟨mb, 4, none⟩ = some (.bool false) := cellM HW.out.2.1 4 rfl; have m5 : w1.cell? ⟨mb, 5, none⟩ = some (.int .u32 0) := cellM HW.out.2.1 5 rfl; have m6 : w1.cell? ⟨mb, 6, none⟩ = some (.int .i64 0) := cellM HW.out.2.1 6 rfl; have fz := fun i => frozenM HW.out.2.1 i; have z2 := fz 2; have z3 := fz 3; have z4 := fz 4; have z5 := fz 5; have z6 := fz 6; have u0 := cellM HW.out.2.2.2.1 0 rfl; have u1 := cellM HW.out.2.2.2.1 1 rfl; have u5 := cellM HW.out.2.2.2.1 5 rfl; have u6 := cellM HW.out.2.2.2.1 6 rfl; clear fz)
    (try simp only [Exit.inBlock, Exit.then])
    refine bodyPost_ret (results_none rfl _ _ _) rfl ?_
    refine ⟨rfl, (HW.out.1.setm 4 _).setm 6 _, ?_⟩
    exact heap_setM (heap_setM HW.out.2.1 4 (.bool true)) 6 (.int .i64 8)
  have hdv : op = 7 → r bn ≠ 0#32 := fun e g => h7 ⟨e, g⟩

  have HST := Lib.hid (tX_two (fun i => i) (wordZ z) p r (dn : Int) (an : Int) (bn : Int) k t f op hop hdv)
  simp only [Int.toNat_natCast] at HST
  have HRS : Hid (∀ (V : World) (s' : Nat), V.heap[mb]? = some (macO (.slice (some ⟨db, doff, none⟩) 64 dcap) g nr p s' false 0#32 0) → Bytes64 V db doff z → Calls Tryz.prog 49 #[.pointer (some ⟨mb, 0, none⟩), irV ⟨op, (dn : Int), (an : Int), (bn : Int), k, t, f⟩, .int .u32 ((r an).toNat : Int), .int .u32 ((r bn).toNat : Int)] V fun e w' => e = .returned (.int .u32 ((valM (wordZ z) ⟨op, (dn : Int), (an : Int), (bn : Int), k, t, f⟩ (r an) (r bn)).toNat : Int)) ∧ Below V.heap.size V w') := Lib.hid fun V s' h1 h2 => p_result op _ _ _ k _ _ (r an) (r bn) V mb g nr db doff dcap z p s' false 0#32 0 (by omega) hdv (fun e => by omega) h1 h2
  generalize valM (wordZ z) ⟨op, (dn : Int), (an : Int), (bn : Int), k, t, f⟩ (r an) (r bn) = v at HST HRS

  clear h7
  rcases (show op = 4 ∨ op = 5 ∨ op = 6 ∨ op = 7 ∨ op = 8 ∨ op = 9 ∨ op = 10 ∨ op = 11 ∨ op = 12 by omega) with rfl | rfl | rfl | rfl | rfl | rfl | rfl | rfl | rfl
  · clear hdv hop
    clear hone hP
    rw [HST.out]
    go_enter Tryz.func21, Tryz.ntmps21
    go_upto_region 6 with (go_at_call 47; (with_reducible refine (HA.out _ HM0.out.1 HM0.out.2).mono ?_); rintro e w1 ⟨rfl, hb1⟩; have HW := Lib.hid (HW0.out w1 hb1); clear hb1; have m2 := cellM HW.out.2.1 2 rfl; have m3 := cellM HW.out.2.1 3 rfl; have m1 := cellM HW.out.2.1 1 rfl; have m4 : w1.cell? ⟨mb, 4, none⟩ = some (.bool false) := cellM HW.out.2.1 4 rfl; have m5 : w1.cell? ⟨mb, 5, none⟩ = some (.int .u32 0) := cellM HW.out.2.1 5 rfl; have m6 : w1.cell? ⟨mb, 6, none⟩ = some (.int .i64 0) := cellM HW.out.2.1 6 rfl; have fz := fun i => frozenM HW.out.2.1 i; have z2 := fz 2; have z3 := fz 3; have z4 := fz 4; have z5 := fz 5; have z6 := fz 6; have u0 := cellM HW.out.2.2.2.1 0 rfl; have u1 := cellM HW.out.2.2.2.1 1 rfl; have u5 := cellM HW.out.2.2.2.1 5 rfl; have u6 := cellM HW.out.2.2.2.1 6 rfl; clear fz)
    have HV : Hid (Mv W (w1.setCell ⟨mb, 3, none⟩ (.int .i64 ((s : Int) + 1))) mb g ∧ (w1.setCell ⟨mb, 3, none⟩ (.int .i64 ((s : Int) + 1))).heap[mb]? = some (macO (.slice (some ⟨db, doff, none⟩) 64 dcap) g nr p (s + 1) false 0#32 0) ∧ (w1.setCell ⟨mb, 3, none⟩ (.int .i64 ((s : Int) + 1))).rowIs g 33 nr (regF r) ∧ (w1.setCell ⟨mb, 3, none⟩ (.int .i64 ((s : Int) + 1))).heap[W.heap.size]? = some (irO ⟨4, (dn : Int), (an : Int), (bn : Int), k, t, f⟩) ∧ Bytes64 (w1.setCell ⟨mb, 3, none⟩ (.int .i64 ((s : Int) + 1))) db doff z) := Lib.hid ⟨HW.out.1.setm 3 _, heap_setM HW.out.2.1 3 (.int .i64 ((s : Int) + 1)), HW.out.2.2.1.of_block (set_otherM hgm), (set_otherM hBm).trans HW.out.2.2.2.1, bytes_setM HW.out.2.2.2.2 (bytes_ne HP.out.data HP.out.mac (by show (7 : Nat) ≤ 63; decide)) 3 _⟩
    clear HW m1 m2 m3 m4 m5 m6 z2 z3 z4 z5 z6 u0 u1 u5 u6
    generalize w1.setCell ⟨mb, 3, none⟩ (.int .i64 ((s : Int) + 1)) = V at HV ⊢
    have u0 := cellM HV.out.2.2.2.1 0 rfl
    go_wp2
    clear u0
    refine wp_region_held_drew (S := fun W' => W'.heap[mb]? = some (macO (.slice (some ⟨db, doff, none⟩) 64 dcap) g nr p (s + 1) false 0#32 0) ∧ W'.heap[W.heap.size]? = some (irO ⟨4, (dn : Int), (an : Int), (bn : Int), k, t, f⟩)) (by kernel_rfl) ⟨HV.out.2.1, HV.out.2.2.2.1⟩ (fun hHeld => ?_)
    have HY := Lib.hid (show Mv W V.drew mb g ∧ V.drew.heap[mb]? = some (macO (.slice (some ⟨db, doff, none⟩) 64 dcap) g nr p (s + 1) false 0#32 0) ∧ V.drew.rowIs g 33 nr (regF r) ∧ Bytes64 V.drew db doff z from ⟨HV.out.1.up (below_drawn (Below.refl _ _) 1), HV.out.2.1, HV.out.2.2.1, HV.out.2.2.2.2⟩)
    clear HV
    generalize V.drew = Y at HY hHeld ⊢
    have HH := Lib.hid hHeld
    refine wpAnyH_take (i := 0) (v := ?_) rfl (by kernel_rfl) (by kernel_rfl) (by kernel_rfl) (fun _ _ _ h => h) (Or.inl ⟨by rfl, ?_⟩) (by assumption) ?_
    rotate_left
    · intro wS hSw
      (obtain ⟨i0, i1⟩ := hSw; have a1 := cellM i0 1 rfl; have e0 := cellM i1 0 rfl; have e1 := cellM i1 1 rfl; have e2 := cellM i1 2 rfl; have e3 := cellM i1 3 rfl; have e4 := cellM i1 4 rfl; have e5 := cellM i1 5 rfl; have e6 := cellM i1 6 rfl; clear i0 i1)
      go_simp
      all_goals with_reducible rfl
    (try simp only [List.getElem_toArray, List.getElem_cons_zero, List.getElem_cons_succ, Act.put, List.setIfInBounds_toArray, List.set_cons_zero, List.set_cons_succ])
    refine wpAnyH_take (i := 1) (v := ?_) rfl (by kernel_rfl) (by kernel_rfl) (by kernel_rfl) (fun _ _ _ h => h) (Or.inl ⟨by rfl, ?_⟩) (by assumption) ?_
    rotate_left
    · intro wS hSw
      (obtain ⟨i0, i1⟩ := hSw; have a1 := cellM i0 1 rfl; have e0 := cellM i1 0 rfl; have e1 := cellM i1 1 rfl; have e2 := cellM i1 2 rfl; have e3 := cellM i1 3 rfl; have e4 := cellM i1 4 rfl; have e5 := cellM i1 5 rfl; have e6 := cellM i1 6 rfl; clear i0 i1)
      go_simp
      all_goals with_reducible rfl
    (try simp only [List.getElem_toArray, List.getElem_cons_zero, List.getElem_cons_succ, Act.put, List.setIfInBounds_toArray, List.set_cons_zero, List.set_cons_succ])
    refine wpAnyH_take (i := 2) (v := ?_) rfl (by kernel_rfl) (by kernel_rfl) (by kernel_rfl) (fun _ _ _ h => h) (Or.inl ⟨by rfl, ?_⟩) (by assumption) ?_
    rotate_left
    · intro wS hSw
      (obtain ⟨i0, i1⟩ := hSw; have a1 := cellM i0 1 rfl; have e0 := cellM i1 0 rfl; have e1 := cellM i1 1 rfl; have e2 := cellM i1 2 rfl; have e3 := cellM i1 3 rfl; have e4 := cellM i1 4 rfl; have e5 := cellM i1 5 rfl; have e6 := cellM i1 6 rfl; clear i0 i1)
      go_simp
      all_goals with_reducible rfl
    (try simp only [List.getElem_toArray, List.getElem_cons_zero, List.getElem_cons_succ, Act.put, List.setIfInBounds_toArray, List.set_cons_zero, List.set_cons_succ])
    refine wpAnyH_take (i := 3) (v := ?_) rfl (by kernel_rfl) (by kernel_rfl) (by kernel_rfl) (fun _ _ _ h => h) (Or.inl ⟨by rfl, ?_⟩) (by assumption) ?_
    rotate_left
    · intro wS hSw
      (obtain ⟨i0, i1⟩ := hSw; have a1 := cellM i0 1 rfl; have e0 := cellM i1 0 rfl; have e1 := cellM i1 1 rfl; have e2 := cellM i1 2 rfl; have e3 := cellM i1 3 rfl; have e4 := cellM i1 4 rfl; have e5 := cellM i1 5 rfl; have e6 := cellM i1 6 rfl; clear i0 i1)
      go_simp
      all_goals with_reducible rfl
    (try simp only [List.getElem_toArray, List.getElem_cons_zero, List.getElem_cons_succ, Act.put, List.setIfInBounds_toArray, List.set_cons_zero, List.set_cons_succ])
    refine wpAnyH_take (i := 4) (v := ?_) rfl (by kernel_rfl) (by kernel_rfl) (by kernel_rfl) (fun _ _ _ h => h) (Or.inl ⟨by rfl, ?_⟩) (by assumption) ?_
    rotate_left
    · intro wS hSw
      (obtain ⟨i0, i1⟩ := hSw; have a1 := cellM i0 1 rfl; have e0 := cellM i1 0 rfl; have e1 := cellM i1 1 rfl; have e2 := cellM i1 2 rfl; have e3 := cellM i1 3 rfl; have e4 := cellM i1 4 rfl; have e5 := cellM i1 5 rfl; have e6 := cellM i1 6 rfl; clear i0 i1)
      go_simp
      all_goals with_reducible rfl
    (try simp only [List.getElem_toArray, List.getElem_cons_zero, List.getElem_cons_succ, Act.put, List.setIfInBounds_toArray, List.set_cons_zero, List.set_cons_succ])
    refine wpAnyH_take (i := 5) (v := ?_) rfl (by kernel_rfl) (by kernel_rfl) (by kernel_rfl) (fun _ _ _ h => h) (Or.inl ⟨by rfl, ?_⟩) (by assumption) ?_
    rotate_left
    · intro wS hSw
      (obtain ⟨i0, i1⟩ := hSw; have a1 := cellM i0 1 rfl; have e0 := cellM i1 0 rfl; have e1 := cellM i1 1 rfl; have e2 := cellM i1 2 rfl; have e3 := cellM i1 3 rfl; have e4 := cellM i1 4 rfl; have e5 := cellM i1 5 rfl; have e6 := cellM i1 6 rfl; clear i0 i1)
      go_simp
      all_goals with_reducible rfl
    (try simp only [List.getElem_toArray, List.getElem_cons_zero, List.getElem_cons_succ, Act.put, List.setIfInBounds_toArray, List.set_cons_zero, List.set_cons_succ])
    refine wpAnyH_take (i := 6) (v := ?_) rfl (by kernel_rfl) (by kernel_rfl) (by kernel_rfl) (fun _ _ _ h => h) (Or.inl ⟨by rfl, ?_⟩) (by assumption) ?_
    rotate_left
    · intro wS hSw
      (obtain ⟨i0, i1⟩ := hSw; have a1 := cellM i0 1 rfl; have e0 := cellM i1 0 rfl; have e1 := cellM i1 1 rfl; have e2 := cellM i1 2 rfl; have e3 := cellM i1 3 rfl; have e4 := cellM i1 4 rfl; have e5 := cellM i1 5 rfl; have e6 := cellM i1 6 rfl; clear i0 i1)
      go_simp
      all_goals with_reducible rfl
    (try simp only [List.getElem_toArray, List.getElem_cons_zero, List.getElem_cons_succ, Act.put, List.setIfInBounds_toArray, List.set_cons_zero, List.set_cons_succ])
    refine wpAnyH_take (i := 7) (v := ?_) rfl (by kernel_rfl) (by kernel_rfl) (by kernel_rfl) (fun _ _ _ h => h) (Or.inl ⟨by rfl, ?_⟩) (by assumption) ?_
    rotate_left
    · intro wS hSw
      (obtain ⟨i0, i1⟩ := hSw; have a1 := cellM i0 1 rfl; have e0 := cellM i1 0 rfl; have e1 := cellM i1 1 rfl; have e2 := cellM i1 2 rfl; have e3 := cellM i1 3 rfl; have e4 := cellM i1 4 rfl; have e5 := cellM i1 5 rfl; have e6 := cellM i1 6 rfl; clear i0 i1)
      go_simp
      all_goals with_reducible rfl
    (try simp only [List.getElem_toArray, List.getElem_cons_zero, List.getElem_cons_succ, Act.put, List.setIfInBounds_toArray, List.set_cons_zero, List.set_cons_succ])
    refine wpAnyH_take (i := 8) (v := ?_) rfl (by kernel_rfl) (by kernel_rfl) (by kernel_rfl) (fun _ _ _ h => h) (Or.inl ⟨by rfl, ?_⟩) (by assumption) ?_
    rotate_left
    · intro wS hSw
      (obtain ⟨i0, i1⟩ := hSw; have a1 := cellM i0 1 rfl; have e0 := cellM i1 0 rfl; have e1 := cellM i1 1 rfl; have e2 := cellM i1 2 rfl; have e3 := cellM i1 3 rfl; have e4 := cellM i1 4 rfl; have e5 := cellM i1 5 rfl; have e6 := cellM i1 6 rfl; clear i0 i1)
      go_simp
      all_goals with_reducible rfl
    (try simp only [List.getElem_toArray, List.getElem_cons_zero, List.getElem_cons_succ, Act.put, List.setIfInBounds_toArray, List.set_cons_zero, List.set_cons_succ])
    refine wpAnyH_take (i := 9) (v := ?_) rfl (by kernel_rfl) (by kernel_rfl) (by kernel_rfl) (fun _ _ _ h => h) (Or.inl ⟨by rfl, ?_⟩) (by assumption) ?_
    rotate_left
    · intro wS hSw
      (obtain ⟨i0, i1⟩ := hSw; have a1 := cellM i0 1 rfl; have e0 := cellM i1 0 rfl; have e1 := cellM i1 1 rfl; have e2 := cellM i1 2 rfl; have e3 := cellM i1 3 rfl; have e4 := cellM i1 4 rfl; have e5 := cellM i1 5 rfl; have e6 := cellM i1 6 rfl; clear i0 i1)
      go_simp
      all_goals with_reducible rfl
    (try simp only [List.getElem_toArray, List.getElem_cons_zero, List.getElem_cons_succ, Act.put, List.setIfInBounds_toArray, List.set_cons_zero, List.set_cons_succ])
    refine held_one (i := 10) (by kernel_rfl) rfl (fun K hK => ?_)
    go_simp
    go_at_call 49
    refine (HRS.out _ _ HY.out.2.1 HY.out.2.2.2).mono ?_
    rintro e w4 ⟨rfl, hb4⟩
    have HZ := Lib.hid (show Mv W w4 mb g ∧ w4.heap[mb]? = some (macO (.slice (some ⟨db, doff, none⟩) 64 dcap) g nr p (s + 1) false 0#32 0) ∧ w4.rowIs g 33 nr (regF r) ∧ w4.heap[W.heap.size]? = some (irO ⟨4, (dn : Int), (an : Int), (bn : Int), k, t, f⟩) from ⟨HY.out.1.up hb4, keepM HY.out.2.1 hb4, rowIs_below HY.out.2.2.1 hb4 HY.out.2.2.1.lt, keepM HH.out.2 hb4⟩)
    refine hK.out _ _ ⟨HZ.out.2.1, HZ.out.2.2.2⟩ (fun hH1 => ?_)
    clear hK K hHeld hb4 HY HH
    (try simp only [Act.put, List.setIfInBounds_toArray, List.set_cons_zero, List.set_cons_succ, List.getElem_toArray, List.getElem_cons_zero, List.getElem_cons_succ])
    refine wpAnyH_take (i := 11) (v := ?_) rfl (by kernel_rfl) (by kernel_rfl) (by kernel_rfl) (fun _ _ _ h => h) (Or.inl ⟨by rfl, ?_⟩) (by assumption) ?_
    rotate_left
    · intro wS hSw
      (skip)
      go_simp
      all_goals with_reducible rfl
    (try simp only [List.getElem_toArray, List.getElem_cons_zero, List.getElem_cons_succ, Act.put, List.setIfInBounds_toArray, List.set_cons_zero, List.set_cons_succ])
    have hfz : w4.frozen? ⟨g, dn, none⟩ = false := World.rowIs.frozen HZ.out.2.2.1 _
    obtain ⟨v0, hrd⟩ : ∃ v, w4.cell? ⟨g, dn, none⟩ = some v := ⟨_, World.rowIs.cell HZ.out.2.2.1 hd2⟩
    refine held_one (i := 12) (by kernel_rfl) rfl (fun K hK => ?_)
    go_simp
    have HQ := Lib.hid (show Mv W (w4.setCell ⟨g, dn, none⟩ (.int .u32 ((v).toNat : Int))) mb g ∧ (w4.setCell ⟨g, dn, none⟩ (.int .u32 ((v).toNat : Int))).heap[mb]? = some (macO (.slice (some ⟨db, doff, none⟩) 64 dcap) g nr p (s + 1) false 0#32 0) ∧ (w4.setCell ⟨g, dn, none⟩ (.int .u32 ((v).toNat : Int))).rowIs g 33 nr (regF (upd r dn (v))) from ⟨HZ.out.1.setg dn _, (set_otherM hmg).trans HZ.out.2.1, reg_set HZ.out.2.2.1 dn (v)⟩)
    refine hK.out _ _ ⟨HQ.out.2.1, (set_otherM hBg).trans HZ.out.2.2.2⟩ (fun hH2 => ?_)
    clear hK K hH1 hH2 HZ hfz hrd
    (try simp only [Act.put, List.setIfInBounds_toArray, List.set_cons_zero, List.set_cons_succ, List.getElem_toArray, List.getElem_cons_zero, List.getElem_cons_succ])
    refine wpAnyH_done (by kernel_rfl) ?_ _
    generalize w4.setCell ⟨g, dn, none⟩ (.int .u32 ((v).toNat : Int)) = U at HQ ⊢
    have m2 := cellM HQ.out.2.1 2 rfl
    have z2 := frozenM HQ.out.2.1 2
    go_wp2
    go_end0
    refine ⟨rfl, HQ.out.1.setm 2 _, ?_, ?_⟩
    · exact heap_setM HQ.out.2.1 2 (.int .i64 ((p : Int) + 1))
    · exact HQ.out.2.2.of_block (set_otherM hgm)
  · clear hdv hop
    clear hone hP
    rw [HST.out]
    go_enter Tryz.func21, Tryz.ntmps21
    go_upto_region 6 with (go_at_call 47; (with_reducible refine (HA.out _ HM0.out.1 HM0.out.2).mono ?_); rintro e w1 ⟨rfl, hb1⟩; have HW := Lib.hid (HW0.out w1 hb1); clear hb1; have m2 := cellM HW.out.2.1 2 rfl; have m3 := cellM HW.out.2.1 3 rfl; have m1 := cellM HW.out.2.1 1 rfl; have m4 : w1.cell? ⟨mb, 4, none⟩ = some (.bool false) := cellM HW.out.2.1 4 rfl; have m5 : w1.cell? ⟨mb, 5, none⟩ = some (.int .u32 0) := cellM HW.out.2.1 5 rfl; have m6 : w1.cell? ⟨mb, 6, none⟩ = some (.int .i64 0) := cellM HW.out.2.1 6 rfl; have fz := fun i => frozenM HW.out.2.1 i; have z2 := fz 2; have z3 := fz 3; have z4 := fz 4; have z5 := fz 5; have z6 := fz 6; have u0 := cellM HW.out.2.2.2.1 0 rfl; have u1 := cellM HW.out.2.2.2.1 1 rfl; have u5 := cellM HW.out.2.2.2.1 5 rfl; have u6 := cellM HW.out.2.2.2.1 6 rfl; clear fz)
    have HV : Hid (Mv W (w1.setCell ⟨mb, 3, none⟩ (.int .i64 ((s : Int) + 1))) mb g ∧ (w1.setCell ⟨mb, 3, none⟩ (.int .i64 ((s : Int) + 1))).heap[mb]? = some (macO (.slice (some ⟨db, doff, none⟩) 64 dcap) g nr p (s + 1) false 0#32 0) ∧ (w1.setCell ⟨mb, 3, none⟩ (.int .i64 ((s : Int) + 1))).rowIs g 33 nr (regF r) ∧ (w1.setCell ⟨mb, 3, none⟩ (.int .i64 ((s : Int) + 1))).heap[W.heap.size]? = some (irO ⟨5, (dn : Int), (an : Int), (bn : Int), k, t, f⟩) ∧ Bytes64 (w1.setCell ⟨mb, 3, none⟩ (.int .i64 ((s : Int) + 1))) db doff z) := Lib.hid ⟨HW.out.1.setm 3 _, heap_setM HW.out.2.1 3 (.int .i64 ((s : Int) + 1)), HW.out.2.2.1.of_block (set_otherM hgm), (set_otherM hBm).trans HW.out.2.2.2.1, bytes_setM HW.out.2.2.2.2 (bytes_ne HP.out.data HP.out.mac (by show (7 : Nat) ≤ 63; decide)) 3 _⟩
    clear HW m1 m2 m3 m4 m5 m6 z2 z3 z4 z5 z6 u0 u1 u5 u6
    generalize w1.setCell ⟨mb, 3, none⟩ (.int .i64 ((s : Int) + 1)) = V at HV ⊢
    have u0 := cellM HV.out.2.2.2.1 0 rfl
    go_wp2
    clear u0
    refine wp_region_held_drew (S := fun W' => W'.heap[mb]? = some (macO (.slice (some ⟨db, doff, none⟩) 64 dcap) g nr p (s + 1) false 0#32 0) ∧ W'.heap[W.heap.size]? = some (irO ⟨5, (dn : Int), (an : Int), (bn : Int), k, t, f⟩)) (by kernel_rfl) ⟨HV.out.2.1, HV.out.2.2.2.1⟩ (fun hHeld => ?_)
    have HY := Lib.hid (show Mv W V.drew mb g ∧ V.drew.heap[mb]? = some (macO (.slice (some ⟨db, doff, none⟩) 64 dcap) g nr p (s + 1) false 0#32 0) ∧ V.drew.rowIs g 33 nr (regF r) ∧ Bytes64 V.drew db doff z from ⟨HV.out.1.up (below_drawn (Below.refl _ _) 1), HV.out.2.1, HV.out.2.2.1, HV.out.2.2.2.2⟩)
    clear HV
    generalize V.drew = Y at HY hHeld ⊢
    have HH := Lib.hid hHeld
    refine wpAnyH_take (i := 0) (v := ?_) rfl (by kernel_rfl) (by kernel_rfl) (by kernel_rfl) (fun _ _ _ h => h) (Or.inl ⟨by rfl, ?_⟩) (by assumption) ?_
    rotate_left
    · intro wS hSw
      (obtain ⟨i0, i1⟩ := hSw; have a1 := cellM i0 1 rfl; have e0 := cellM i1 0 rfl; have e1 := cellM i1 1 rfl; have e2 := cellM i1 2 rfl; have e3 := cellM i1 3 rfl; have e4 := cellM i1 4 rfl; have e5 := cellM i1 5 rfl; have e6 := cellM i1 6 rfl; clear i0 i1)
      go_simp
      all_goals with_reducible rfl
    (try simp only [List.getElem_toArray, List.getElem_cons_zero, List.getElem_cons_succ, Act.put, List.setIfInBounds_toArray, List.set_cons_zero, List.set_cons_succ])
    refine wpAnyH_take (i := 1) (v := ?_) rfl (by kernel_rfl) (by kernel_rfl) (by kernel_rfl) (fun _ _ _ h => h) (Or.inl ⟨by rfl, ?_⟩) (by assumption) ?_
    rotate_left
    · intro wS hSw
      (obtain ⟨i0, i1⟩ := hSw; have a1 := cellM i0 1 rfl; have e0 := cellM i1 0 rfl; have e1 := cellM i1 1 rfl; have e2 := cellM i1 2 rfl; have e3 := cellM i1 3 rfl; have e4 := cellM i1 4 rfl; have e5 := cellM i1 5 rfl; have e6 := cellM i1 6 rfl; clear i0 i1)
      go_simp
      all_goals with_reducible rfl
    (try simp only [List.getElem_toArray, List.getElem_cons_zero, List.getElem_cons_succ, Act.put, List.setIfInBounds_toArray, List.set_cons_zero, List.set_cons_succ])
    refine wpAnyH_take (i := 2) (v := ?_) rfl (by kernel_rfl) (by kernel_rfl) (by kernel_rfl) (fun _ _ _ h => h) (Or.inl ⟨by rfl, ?_⟩) (by assumption) ?_
    rotate_left
    · intro wS hSw
      (obtain ⟨i0, i1⟩ := hSw; have a1 := cellM i0 1 rfl; have e0 := cellM i1 0 rfl; have e1 := cellM i1 1 rfl; have e2 := cellM i1 2 rfl; have e3 := cellM i1 3 rfl; have e4 := cellM i1 4 rfl; have e5 := cellM i1 5 rfl; have e6 := cellM i1 6 rfl; clear i0 i1)
      go_simp
      all_goals with_reducible rfl
    (try simp only [List.getElem_toArray, List.getElem_cons_zero, List.getElem_cons_succ, Act.put, List.setIfInBounds_toArray, List.set_cons_zero, List.set_cons_succ])
    refine wpAnyH_take (i := 3) (v := ?_) rfl (by kernel_rfl) (by kernel_rfl) (by kernel_rfl) (fun _ _ _ h => h) (Or.inl ⟨by rfl, ?_⟩) (by assumption) ?_
    rotate_left
    · intro wS hSw
      (obtain ⟨i0, i1⟩ := hSw; have a1 := cellM i0 1 rfl; have e0 := cellM i1 0 rfl; have e1 := cellM i1 1 rfl; have e2 := cellM i1 2 rfl; have e3 := cellM i1 3 rfl; have e4 := cellM i1 4 rfl; have e5 := cellM i1 5 rfl; have e6 := cellM i1 6 rfl; clear i0 i1)
      go_simp
      all_goals with_reducible rfl
    (try simp only [List.getElem_toArray, List.getElem_cons_zero, List.getElem_cons_succ, Act.put, List.setIfInBounds_toArray, List.set_cons_zero, List.set_cons_succ])
    refine wpAnyH_take (i := 4) (v := ?_) rfl (by kernel_rfl) (by kernel_rfl) (by kernel_rfl) (fun _ _ _ h => h) (Or.inl ⟨by rfl, ?_⟩) (by assumption) ?_
    rotate_left
    · intro wS hSw
      (obtain ⟨i0, i1⟩ := hSw; have a1 := cellM i0 1 rfl; have e0 := cellM i1 0 rfl; have e1 := cellM i1 1 rfl; have e2 := cellM i1 2 rfl; have e3 := cellM i1 3 rfl; have e4 := cellM i1 4 rfl; have e5 := cellM i1 5 rfl; have e6 := cellM i1 6 rfl; clear i0 i1)
      go_simp
      all_goals with_reducible rfl
    (try simp only [List.getElem_toArray, List.getElem_cons_zero, List.getElem_cons_succ, Act.put, List.setIfInBounds_toArray, List.set_cons_zero, List.set_cons_succ])
    refine wpAnyH_take (i := 5) (v := ?_) rfl (by kernel_rfl) (by kernel_rfl) (by kernel_rfl) (fun _ _ _ h => h) (Or.inl ⟨by rfl, ?_⟩) (by assumption) ?_
    rotate_left
    · intro wS hSw
      (obtain ⟨i0, i1⟩ := hSw; have a1 := cellM i0 1 rfl; have e0 := cellM i1 0 rfl; have e1 := cellM i1 1 rfl; have e2 := cellM i1 2 rfl; have e3 := cellM i1 3 rfl; have e4 := cellM i1 4 rfl; have e5 := cellM i1 5 rfl; have e6 := cellM i1 6 rfl; clear i0 i1)
      go_simp
      all_goals with_reducible rfl
    (try simp only [List.getElem_toArray, List.getElem_cons_zero, List.getElem_cons_succ, Act.put, List.setIfInBounds_toArray, List.set_cons_zero, List.set_cons_succ])
    refine wpAnyH_take (i := 6) (v := ?_) rfl (by kernel_rfl) (by kernel_rfl) (by kernel_rfl) (fun _ _ _ h => h) (Or.inl ⟨by rfl, ?_⟩) (by assumption) ?_
    rotate_left
    · intro wS hSw
      (obtain ⟨i0, i1⟩ := hSw; have a1 := cellM i0 1 rfl; have e0 := cellM i1 0 rfl; have e1 := cellM i1 1 rfl; have e2 := cellM i1 2 rfl; have e3 := cellM i1 3 rfl; have e4 := cellM i1 4 rfl; have e5 := cellM i1 5 rfl; have e6 := cellM i1 6 rfl; clear i0 i1)
      go_simp
      all_goals with_reducible rfl
    (try simp only [List.getElem_toArray, List.getElem_cons_zero, List.getElem_cons_succ, Act.put, List.setIfInBounds_toArray, List.set_cons_zero, List.set_cons_succ])
    refine wpAnyH_take (i := 7) (v := ?_) rfl (by kernel_rfl) (by kernel_rfl) (by kernel_rfl) (fun _ _ _ h => h) (Or.inl ⟨by rfl, ?_⟩) (by assumption) ?_
    rotate_left
    · intro wS hSw
      (obtain ⟨i0, i1⟩ := hSw; have a1 := cellM i0 1 rfl; have e0 := cellM i1 0 rfl; have e1 := cellM i1 1 rfl; have e2 := cellM i1 2 rfl; have e3 := cellM i1 3 rfl; have e4 := cellM i1 4 rfl; have e5 := cellM i1 5 rfl; have e6 := cellM i1 6 rfl; clear i0 i1)
      go_simp
      all_goals with_reducible rfl
    (try simp only [List.getElem_toArray, List.getElem_cons_zero, List.getElem_cons_succ, Act.put, List.setIfInBounds_toArray, List.set_cons_zero, List.set_cons_succ])
    refine wpAnyH_take (i := 8) (v := ?_) rfl (by kernel_rfl) (by kernel_rfl) (by kernel_rfl) (fun _ _ _ h => h) (Or.inl ⟨by rfl, ?_⟩) (by assumption) ?_
    rotate_left
    · intro wS hSw
      (obtain ⟨i0, i1⟩ := hSw; have a1 := cellM i0 1 rfl; have e0 := cellM i1 0 rfl; have e1 := cellM i1 1 rfl; have e2 := cellM i1 2 rfl; have e3 := cellM i1 3 rfl; have e4 := cellM i1 4 rfl; have e5 := cellM i1 5 rfl; have e6 := cellM i1 6 rfl; clear i0 i1)
      go_simp
      all_goals with_reducible rfl
    (try simp only [List.getElem_toArray, List.getElem_cons_zero, List.getElem_cons_succ, Act.put, List.setIfInBounds_toArray, List.set_cons_zero, List.set_cons_succ])
    refine wpAnyH_take (i := 9) (v := ?_) rfl (by kernel_rfl) (by kernel_rfl) (by kernel_rfl) (fun _ _ _ h => h) (Or.inl ⟨by rfl, ?_⟩) (by assumption) ?_
    rotate_left
    · intro wS hSw
      (obtain ⟨i0, i1⟩ := hSw; have a1 := cellM i0 1 rfl; have e0 := cellM i1 0 rfl; have e1 := cellM i1 1 rfl; have e2 := cellM i1 2 rfl; have e3 := cellM i1 3 rfl; have e4 := cellM i1 4 rfl; have e5 := cellM i1 5 rfl; have e6 := cellM i1 6 rfl; clear i0 i1)
      go_simp
      all_goals with_reducible rfl
    (try simp only [List.getElem_toArray, List.getElem_cons_zero, List.getElem_cons_succ, Act.put, List.setIfInBounds_toArray, List.set_cons_zero, List.set_cons_succ])
    refine held_one (i := 10) (by kernel_rfl) rfl (fun K hK => ?_)
    go_simp
    go_at_call 49
    refine (HRS.out _ _ HY.out.2.1 HY.out.2.2.2).mono ?_
    rintro e w4 ⟨rfl, hb4⟩
    have HZ := Lib.hid (show Mv W w4 mb g ∧ w4.heap[mb]? = some (macO (.slice (some ⟨db, doff, none⟩) 64 dcap) g nr p (s + 1) false 0#32 0) ∧ w4.rowIs g 33 nr (regF r) ∧ w4.heap[W.heap.size]? = some (irO ⟨5, (dn : Int), (an : Int), (bn : Int), k, t, f⟩) from ⟨HY.out.1.up hb4, keepM HY.out.2.1 hb4, rowIs_below HY.out.2.2.1 hb4 HY.out.2.2.1.lt, keepM HH.out.2 hb4⟩)
    refine hK.out _ _ ⟨HZ.out.2.1, HZ.out.2.2.2⟩ (fun hH1 => ?_)
    clear hK K hHeld hb4 HY HH
    (try simp only [Act.put, List.setIfInBounds_toArray, List.set_cons_zero, List.set_cons_succ, List.getElem_toArray, List.getElem_cons_zero, List.getElem_cons_succ])
    refine wpAnyH_take (i := 11) (v := ?_) rfl (by kernel_rfl) (by kernel_rfl) (by kernel_rfl) (fun _ _ _ h => h) (Or.inl ⟨by rfl, ?_⟩) (by assumption) ?_
    rotate_left
    · intro wS hSw
      (skip)
      go_simp
      all_goals with_reducible rfl
    (try simp only [List.getElem_toArray, List.getElem_cons_zero, List.getElem_cons_succ, Act.put, List.setIfInBounds_toArray, List.set_cons_zero, List.set_cons_succ])
    have hfz : w4.frozen? ⟨g, dn, none⟩ = false := World.rowIs.frozen HZ.out.2.2.1 _
    obtain ⟨v0, hrd⟩ : ∃ v, w4.cell? ⟨g, dn, none⟩ = some v := ⟨_, World.rowIs.cell HZ.out.2.2.1 hd2⟩
    refine held_one (i := 12) (by kernel_rfl) rfl (fun K hK => ?_)
    go_simp
    have HQ := Lib.hid (show Mv W (w4.setCell ⟨g, dn, none⟩ (.int .u32 ((v).toNat : Int))) mb g ∧ (w4.setCell ⟨g, dn, none⟩ (.int .u32 ((v).toNat : Int))).heap[mb]? = some (macO (.slice (some ⟨db, doff, none⟩) 64 dcap) g nr p (s + 1) false 0#32 0) ∧ (w4.setCell ⟨g, dn, none⟩ (.int .u32 ((v).toNat : Int))).rowIs g 33 nr (regF (upd r dn (v))) from ⟨HZ.out.1.setg dn _, (set_otherM hmg).trans HZ.out.2.1, reg_set HZ.out.2.2.1 dn (v)⟩)
    refine hK.out _ _ ⟨HQ.out.2.1, (set_otherM hBg).trans HZ.out.2.2.2⟩ (fun hH2 => ?_)
    clear hK K hH1 hH2 HZ hfz hrd
    (try simp only [Act.put, List.setIfInBounds_toArray, List.set_cons_zero, List.set_cons_succ, List.getElem_toArray, List.getElem_cons_zero, List.getElem_cons_succ])
    refine wpAnyH_done (by kernel_rfl) ?_ _
    generalize w4.setCell ⟨g, dn, none⟩ (.int .u32 ((v).toNat : Int)) = U at HQ ⊢
    have m2 := cellM HQ.out.2.1 2 rfl
    have z2 := frozenM HQ.out.2.1 2
    go_wp2
    go_end0
    refine ⟨rfl, HQ.out.1.setm 2 _, ?_, ?_⟩
    · exact heap_setM HQ.out.2.1 2 (.int .i64 ((p : Int) + 1))
    · exact HQ.out.2.2.of_block (set_otherM hgm)
  · clear hdv hop
    clear hone hP
    rw [HST.out]
    go_enter Tryz.func21, Tryz.ntmps21
    go_upto_region 6 with (go_at_call 47; (with_reducible refine (HA.out _ HM0.out.1 HM0.out.2).mono ?_); rintro e w1 ⟨rfl, hb1⟩; have HW := Lib.hid (HW0.out w1 hb1); clear hb1; have m2 := cellM HW.out.2.1 2 rfl; have m3 := cellM HW.out.2.1 3 rfl; have m1 := cellM HW.out.2.1 1 rfl; have m4 : w1.cell? ⟨mb, 4, none⟩ = some (.bool false) := cellM HW.out.2.1 4 rfl; have m5 : w1.cell? ⟨mb, 5, none⟩ = some (.int .u32 0) := cellM HW.out.2.1 5 rfl; have m6 : w1.cell? ⟨mb, 6, none⟩ = some (.int .i64 0) := cellM HW.out.2.1 6 rfl; have fz := fun i => frozenM HW.out.2.1 i; have z2 := fz 2; have z3 := fz 3; have z4 := fz 4; have z5 := fz 5; have z6 := fz 6; have u0 := cellM HW.out.2.2.2.1 0 rfl; have u1 := cellM HW.out.2.2.2.1 1 rfl; have u5 := cellM HW.out.2.2.2.1 5 rfl; have u6 := cellM HW.out.2.2.2.1 6 rfl; clear fz)
    have HV : Hid (Mv W (w1.setCell ⟨mb, 3, none⟩ (.int .i64 ((s : Int) + 1))) mb g ∧ (w1.setCell ⟨mb, 3, none⟩ (.int .i64 ((s : Int) + 1))).heap[mb]? = some (macO (.slice (some ⟨db, doff, none⟩) 64 dcap) g nr p (s + 1) false 0#32 0) ∧ (w1.setCell ⟨mb, 3, none⟩ (.int .i64 ((s : Int) + 1))).rowIs g 33 nr (regF r) ∧ (w1.setCell ⟨mb, 3, none⟩ (.int .i64 ((s : Int) + 1))).heap[W.heap.size]? = some (irO ⟨6, (dn : Int), (an : Int), (bn : Int), k, t, f⟩) ∧ Bytes64 (w1.setCell ⟨mb, 3, none⟩ (.int .i64 ((s : Int) + 1))) db doff z) := Lib.hid ⟨HW.out.1.setm 3 _, heap_setM HW.out.2.1 3 (.int .i64 ((s : Int) + 1)), HW.out.2.2.1.of_block (set_otherM hgm), (set_otherM hBm).trans HW.out.2.2.2.1, bytes_setM HW.out.2.2.2.2 (bytes_ne HP.out.data HP.out.mac (by show (7 : Nat) ≤ 63; decide)) 3 _⟩
    clear HW m1 m2 m3 m4 m5 m6 z2 z3 z4 z5 z6 u0 u1 u5 u6
    generalize w1.setCell ⟨mb, 3, none⟩ (.int .i64 ((s : Int) + 1)) = V at HV ⊢
    have u0 := cellM HV.out.2.2.2.1 0 rfl
    go_wp2
    clear u0
    refine wp_region_held_drew (S := fun W' => W'.heap[mb]? = some (macO (.slice (some ⟨db, doff, none⟩) 64 dcap) g nr p (s + 1) false 0#32 0) ∧ W'.heap[W.heap.size]? = some (irO ⟨6, (dn : Int), (an : Int), (bn : Int), k, t, f⟩)) (by kernel_rfl) ⟨HV.out.2.1, HV.out.2.2.2.1⟩ (fun hHeld => ?_)
    have HY := Lib.hid (show Mv W V.drew mb g ∧ V.drew.heap[mb]? = some (macO (.slice (some ⟨db, doff, none⟩) 64 dcap) g nr p (s + 1) false 0#32 0) ∧ V.drew.rowIs g 33 nr (regF r) ∧ Bytes64 V.drew db doff z from ⟨HV.out.1.up (below_drawn (Below.refl _ _) 1), HV.out.2.1, HV.out.2.2.1, HV.out.2.2.2.2⟩)
    clear HV
    generalize V.drew = Y at HY hHeld ⊢
    have HH := Lib.hid hHeld
    refine wpAnyH_take (i := 0) (v := ?_) rfl (by kernel_rfl) (by kernel_rfl) (by kernel_rfl) (fun _ _ _ h => h) (Or.inl ⟨by rfl, ?_⟩) (by assumption) ?_
    rotate_left
    · intro wS hSw
      (obtain ⟨i0, i1⟩ := hSw; have a1 := cellM i0 1 rfl; have e0 := cellM i1 0 rfl; have e1 := cellM i1 1 rfl; have e2 := cellM i1 2 rfl; have e3 := cellM i1 3 rfl; have e4 := cellM i1 4 rfl; have e5 := cellM i1 5 rfl; have e6 := cellM i1 6 rfl; clear i0 i1)
      go_simp
      all_goals with_reducible rfl
    (try simp only [List.getElem_toArray, List.getElem_cons_zero, List.getElem_cons_succ, Act.put, List.setIfInBounds_toArray, List.set_cons_zero, List.set_cons_succ])
    refine wpAnyH_take (i := 1) (v := ?_) rfl (by kernel_rfl) (by kernel_rfl) (by kernel_rfl) (fun _ _ _ h => h) (Or.inl ⟨by rfl, ?_⟩) (by assumption) ?_
    rotate_left
    · intro wS hSw
      (obtain ⟨i0, i1⟩ := hSw; have a1 := cellM i0 1 rfl; have e0 := cellM i1 0 rfl; have e1 := cellM i1 1 rfl; have e2 := cellM i1 2 rfl; have e3 := cellM i1 3 rfl; have e4 := cellM i1 4 rfl; have e5 := cellM i1 5 rfl; have e6 := cellM i1 6 rfl; clear i0 i1)
      go_simp
      all_goals with_reducible rfl
    (try simp only [List.getElem_toArray, List.getElem_cons_zero, List.getElem_cons_succ, Act.put, List.setIfInBounds_toArray, List.set_cons_zero, List.set_cons_succ])
    refine wpAnyH_take (i := 2) (v := ?_) rfl (by kernel_rfl) (by kernel_rfl) (by kernel_rfl) (fun _ _ _ h => h) (Or.inl ⟨by rfl, ?_⟩) (by assumption) ?_
    rotate_left
    · intro wS hSw
      (obtain ⟨i0, i1⟩ := hSw; have a1 := cellM i0 1 rfl; have e0 := cellM i1 0 rfl; have e1 := cellM i1 1 rfl; have e2 := cellM i1 2 rfl; have e3 := cellM i1 3 rfl; have e4 := cellM i1 4 rfl; have e5 := cellM i1 5 rfl; have e6 := cellM i1 6 rfl; clear i0 i1)
      go_simp
      all_goals with_reducible rfl
    (try simp only [List.getElem_toArray, List.getElem_cons_zero, List.getElem_cons_succ, Act.put, List.setIfInBounds_toArray, List.set_cons_zero, List.set_cons_succ])
    refine wpAnyH_take (i := 3) (v := ?_) rfl (by kernel_rfl) (by kernel_rfl) (by kernel_rfl) (fun _ _ _ h => h) (Or.inl ⟨by rfl, ?_⟩) (by assumption) ?_
    rotate_left
    · intro wS hSw
      (obtain ⟨i0, i1⟩ := hSw; have a1 := cellM i0 1 rfl; have e0 := cellM i1 0 rfl; have e1 := cellM i1 1 rfl; have e2 := cellM i1 2 rfl; have e3 := cellM i1 3 rfl; have e4 := cellM i1 4 rfl; have e5 := cellM i1 5 rfl; have e6 := cellM i1 6 rfl; clear i0 i1)
      go_simp
      all_goals with_reducible rfl
    (try simp only [List.getElem_toArray, List.getElem_cons_zero, List.getElem_cons_succ, Act.put, List.setIfInBounds_toArray, List.set_cons_zero, List.set_cons_succ])
    refine wpAnyH_take (i := 4) (v := ?_) rfl (by kernel_rfl) (by kernel_rfl) (by kernel_rfl) (fun _ _ _ h => h) (Or.inl ⟨by rfl, ?_⟩) (by assumption) ?_
    rotate_left
    · intro wS hSw
      (obtain ⟨i0, i1⟩ := hSw; have a1 := cellM i0 1 rfl; have e0 := cellM i1 0 rfl; have e1 := cellM i1 1 rfl; have e2 := cellM i1 2 rfl; have e3 := cellM i1 3 rfl; have e4 := cellM i1 4 rfl; have e5 := cellM i1 5 rfl; have e6 := cellM i1 6 rfl; clear i0 i1)
      go_simp
      all_goals with_reducible rfl
    (try simp only [List.getElem_toArray, List.getElem_cons_zero, List.getElem_cons_succ, Act.put, List.setIfInBounds_toArray, List.set_cons_zero, List.set_cons_succ])
    refine wpAnyH_take (i := 5) (v := ?_) rfl (by kernel_rfl) (by kernel_rfl) (by kernel_rfl) (fun _ _ _ h => h) (Or.inl ⟨by rfl, ?_⟩) (by assumption) ?_
    rotate_left
    · intro wS hSw
      (obtain ⟨i0, i1⟩ := hSw; have a1 := cellM i0 1 rfl; have e0 := cellM i1 0 rfl; have e1 := cellM i1 1 rfl; have e2 := cellM i1 2 rfl; have e3 := cellM i1 3 rfl; have e4 := cellM i1 4 rfl; have e5 := cellM i1 5 rfl; have e6 := cellM i1 6 rfl; clear i0 i1)
      go_simp
      all_goals with_reducible rfl
    (try simp only [List.getElem_toArray, List.getElem_cons_zero, List.getElem_cons_succ, Act.put, List.setIfInBounds_toArray, List.set_cons_zero, List.set_cons_succ])
    refine wpAnyH_take (i := 6) (v := ?_) rfl (by kernel_rfl) (by kernel_rfl) (by kernel_rfl) (fun _ _ _ h => h) (Or.inl ⟨by rfl, ?_⟩) (by assumption) ?_
    rotate_left
    · intro wS hSw
      (obtain ⟨i0, i1⟩ := hSw; have a1 := cellM i0 1 rfl; have e0 := cellM i1 0 rfl; have e1 := cellM i1 1 rfl; have e2 := cellM i1 2 rfl; have e3 := cellM i1 3 rfl; have e4 := cellM i1 4 rfl; have e5 := cellM i1 5 rfl; have e6 := cellM i1 6 rfl; clear i0 i1)
      go_simp
      all_goals with_reducible rfl
    (try simp only [List.getElem_toArray, List.getElem_cons_zero, List.getElem_cons_succ, Act.put, List.setIfInBounds_toArray, List.set_cons_zero, List.set_cons_succ])
    refine wpAnyH_take (i := 7) (v := ?_) rfl (by kernel_rfl) (by kernel_rfl) (by kernel_rfl) (fun _ _ _ h => h) (Or.inl ⟨by rfl, ?_⟩) (by assumption) ?_
    rotate_left
    · intro wS hSw
      (obtain ⟨i0, i1⟩ := hSw; have a1 := cellM i0 1 rfl; have e0 := cellM i1 0 rfl; have e1 := cellM i1 1 rfl; have e2 := cellM i1 2 rfl; have e3 := cellM i1 3 rfl; have e4 := cellM i1 4 rfl; have e5 := cellM i1 5 rfl; have e6 := cellM i1 6 rfl; clear i0 i1)
      go_simp
      all_goals with_reducible rfl
    (try simp only [List.getElem_toArray, List.getElem_cons_zero, List.getElem_cons_succ, Act.put, List.setIfInBounds_toArray, List.set_cons_zero, List.set_cons_succ])
    refine wpAnyH_take (i := 8) (v := ?_) rfl (by kernel_rfl) (by kernel_rfl) (by kernel_rfl) (fun _ _ _ h => h) (Or.inl ⟨by rfl, ?_⟩) (by assumption) ?_
    rotate_left
    · intro wS hSw
      (obtain ⟨i0, i1⟩ := hSw; have a1 := cellM i0 1 rfl; have e0 := cellM i1 0 rfl; have e1 := cellM i1 1 rfl; have e2 := cellM i1 2 rfl; have e3 := cellM i1 3 rfl; have e4 := cellM i1 4 rfl; have e5 := cellM i1 5 rfl; have e6 := cellM i1 6 rfl; clear i0 i1)
      go_simp
      all_goals with_reducible rfl
    (try simp only [List.getElem_toArray, List.getElem_cons_zero, List.getElem_cons_succ, Act.put, List.setIfInBounds_toArray, List.set_cons_zero, List.set_cons_succ])
    refine wpAnyH_take (i := 9) (v := ?_) rfl (by kernel_rfl) (by kernel_rfl) (by kernel_rfl) (fun _ _ _ h => h) (Or.inl ⟨by rfl, ?_⟩) (by assumption) ?_
    rotate_left
    · intro wS hSw
      (obtain ⟨i0, i1⟩ := hSw; have a1 := cellM i0 1 rfl; have e0 := cellM i1 0 rfl; have e1 := cellM i1 1 rfl; have e2 := cellM i1 2 rfl; have e3 := cellM i1 3 rfl; have e4 := cellM i1 4 rfl; have e5 := cellM i1 5 rfl; have e6 := cellM i1 6 rfl; clear i0 i1)
      go_simp
      all_goals with_reducible rfl
    (try simp only [List.getElem_toArray, List.getElem_cons_zero, List.getElem_cons_succ, Act.put, List.setIfInBounds_toArray, List.set_cons_zero, List.set_cons_succ])
    refine held_one (i := 10) (by kernel_rfl) rfl (fun K hK => ?_)
    go_simp
    go_at_call 49
    refine (HRS.out _ _ HY.out.2.1 HY.out.2.2.2).mono ?_
    rintro e w4 ⟨rfl, hb4⟩
    have HZ := Lib.hid (show Mv W w4 mb g ∧ w4.heap[mb]? = some (macO (.slice (some ⟨db, doff, none⟩) 64 dcap) g nr p (s + 1) false 0#32 0) ∧ w4.rowIs g 33 nr (regF r) ∧ w4.heap[W.heap.size]? = some (irO ⟨6, (dn : Int), (an : Int), (bn : Int), k, t, f⟩) from ⟨HY.out.1.up hb4, keepM HY.out.2.1 hb4, rowIs_below HY.out.2.2.1 hb4 HY.out.2.2.1.lt, keepM HH.out.2 hb4⟩)
    refine hK.out _ _ ⟨HZ.out.2.1, HZ.out.2.2.2⟩ (fun hH1 => ?_)
    clear hK K hHeld hb4 HY HH
    (try simp only [Act.put, List.setIfInBounds_toArray, List.set_cons_zero, List.set_cons_succ, List.getElem_toArray, List.getElem_cons_zero, List.getElem_cons_succ])
    refine wpAnyH_take (i := 11) (v := ?_) rfl (by kernel_rfl) (by kernel_rfl) (by kernel_rfl) (fun _ _ _ h => h) (Or.inl ⟨by rfl, ?_⟩) (by assumption) ?_
    rotate_left
    · intro wS hSw
      (skip)
      go_simp
      all_goals with_reducible rfl
    (try simp only [List.getElem_toArray, List.getElem_cons_zero, List.getElem_cons_succ, Act.put, List.setIfInBounds_toArray, List.set_cons_zero, List.set_cons_succ])
    have hfz : w4.frozen? ⟨g, dn, none⟩ = false := World.rowIs.frozen HZ.out.2.2.1 _
    obtain ⟨v0, hrd⟩ : ∃ v, w4.cell? ⟨g, dn, none⟩ = some v := ⟨_, World.rowIs.cell HZ.out.2.2.1 hd2⟩
    refine held_one (i := 12) (by kernel_rfl) rfl (fun K hK => ?_)
    go_simp
    have HQ := Lib.hid (show Mv W (w4.setCell ⟨g, dn, none⟩ (.int .u32 ((v).toNat : Int))) mb g ∧ (w4.setCell ⟨g, dn, none⟩ (.int .u32 ((v).toNat : Int))).heap[mb]? = some (macO (.slice (some ⟨db, doff, none⟩) 64 dcap) g nr p (s + 1) false 0#32 0) ∧ (w4.setCell ⟨g, dn, none⟩ (.int .u32 ((v).toNat : Int))).rowIs g 33 nr (regF (upd r dn (v))) from ⟨HZ.out.1.setg dn _, (set_otherM hmg).trans HZ.out.2.1, reg_set HZ.out.2.2.1 dn (v)⟩)
    refine hK.out _ _ ⟨HQ.out.2.1, (set_otherM hBg).trans HZ.out.2.2.2⟩ (fun hH2 => ?_)
    clear hK K hH1 hH2 HZ hfz hrd
    (try simp only [Act.put, List.setIfInBounds_toArray, List.set_cons_zero, List.set_cons_succ, List.getElem_toArray, List.getElem_cons_zero, List.getElem_cons_succ])
    refine wpAnyH_done (by kernel_rfl) ?_ _
    generalize w4.setCell ⟨g, dn, none⟩ (.int .u32 ((v).toNat : Int)) = U at HQ ⊢
    have m2 := cellM HQ.out.2.1 2 rfl
    have z2 := frozenM HQ.out.2.1 2
    go_wp2
    go_end0
    refine ⟨rfl, HQ.out.1.setm 2 _, ?_, ?_⟩
    · exact heap_setM HQ.out.2.1 2 (.int .i64 ((p : Int) + 1))
    · exact HQ.out.2.2.of_block (set_otherM hgm)
  · have hz : (((r bn).toNat : Int) == 0) = false := beq_false_of_ne fun g => hdv rfl (BitVec.eq_of_toNat_eq (by simpa using g))
    clear hdv hop
    clear hone hP
    rw [HST.out]
    go_enter Tryz.func21, Tryz.ntmps21
    go_upto_region 6 with (go_at_call 47; (with_reducible refine (HA.out _ HM0.out.1 HM0.out.2).mono ?_); rintro e w1 ⟨rfl, hb1⟩; have HW := Lib.hid (HW0.out w1 hb1); clear hb1; have m2 := cellM HW.out.2.1 2 rfl; have m3 := cellM HW.out.2.1 3 rfl; have m1 := cellM HW.out.2.1 1 rfl; have m4 : w1.cell? ⟨mb, 4, none⟩ = some (.bool false) := cellM HW.out.2.1 4 rfl; have m5 : w1.cell? ⟨mb, 5, none⟩ = some (.int .u32 0) := cellM HW.out.2.1 5 rfl; have m6 : w1.cell? ⟨mb, 6, none⟩ = some (.int .i64 0) := cellM HW.out.2.1 6 rfl; have fz := fun i => frozenM HW.out.2.1 i; have z2 := fz 2; have z3 := fz 3; have z4 := fz 4; have z5 := fz 5; have z6 := fz 6; have u0 := cellM HW.out.2.2.2.1 0 rfl; have u1 := cellM HW.out.2.2.2.1 1 rfl; have u5 := cellM HW.out.2.2.2.1 5 rfl; have u6 := cellM HW.out.2.2.2.1 6 rfl; clear fz)
    have HV : Hid (Mv W (w1.setCell ⟨mb, 3, none⟩ (.int .i64 ((s : Int) + 1))) mb g ∧ (w1.setCell ⟨mb, 3, none⟩ (.int .i64 ((s : Int) + 1))).heap[mb]? = some (macO (.slice (some ⟨db, doff, none⟩) 64 dcap) g nr p (s + 1) false 0#32 0) ∧ (w1.setCell ⟨mb, 3, none⟩ (.int .i64 ((s : Int) + 1))).rowIs g 33 nr (regF r) ∧ (w1.setCell ⟨mb, 3, none⟩ (.int .i64 ((s : Int) + 1))).heap[W.heap.size]? = some (irO ⟨7, (dn : Int), (an : Int), (bn : Int), k, t, f⟩) ∧ Bytes64 (w1.setCell ⟨mb, 3, none⟩ (.int .i64 ((s : Int) + 1))) db doff z) := Lib.hid ⟨HW.out.1.setm 3 _, heap_setM HW.out.2.1 3 (.int .i64 ((s : Int) + 1)), HW.out.2.2.1.of_block (set_otherM hgm), (set_otherM hBm).trans HW.out.2.2.2.1, bytes_setM HW.out.2.2.2.2 (bytes_ne HP.out.data HP.out.mac (by show (7 : Nat) ≤ 63; decide)) 3 _⟩
    clear HW m1 m2 m3 m4 m5 m6 z2 z3 z4 z5 z6 u0 u1 u5 u6
    generalize w1.setCell ⟨mb, 3, none⟩ (.int .i64 ((s : Int) + 1)) = V at HV ⊢
    have u0 := cellM HV.out.2.2.2.1 0 rfl
    go_wp2
    clear u0
    refine wp_region_held_drew (S := fun W' => W'.heap[mb]? = some (macO (.slice (some ⟨db, doff, none⟩) 64 dcap) g nr p (s + 1) false 0#32 0) ∧ W'.heap[W.heap.size]? = some (irO ⟨7, (dn : Int), (an : Int), (bn : Int), k, t, f⟩)) (by kernel_rfl) ⟨HV.out.2.1, HV.out.2.2.2.1⟩ (fun hHeld => ?_)
    have HY := Lib.hid (show Mv W V.drew mb g ∧ V.drew.heap[mb]? = some (macO (.slice (some ⟨db, doff, none⟩) 64 dcap) g nr p (s + 1) false 0#32 0) ∧ V.drew.rowIs g 33 nr (regF r) ∧ Bytes64 V.drew db doff z from ⟨HV.out.1.up (below_drawn (Below.refl _ _) 1), HV.out.2.1, HV.out.2.2.1, HV.out.2.2.2.2⟩)
    clear HV
    generalize V.drew = Y at HY hHeld ⊢
    have HH := Lib.hid hHeld
    refine wpAnyH_take (i := 0) (v := ?_) rfl (by kernel_rfl) (by kernel_rfl) (by kernel_rfl) (fun _ _ _ h => h) (Or.inl ⟨by rfl, ?_⟩) (by assumption) ?_
    rotate_left
    · intro wS hSw
      (obtain ⟨i0, i1⟩ := hSw; have a1 := cellM i0 1 rfl; have e0 := cellM i1 0 rfl; have e1 := cellM i1 1 rfl; have e2 := cellM i1 2 rfl; have e3 := cellM i1 3 rfl; have e4 := cellM i1 4 rfl; have e5 := cellM i1 5 rfl; have e6 := cellM i1 6 rfl; clear i0 i1)
      go_simp
      all_goals with_reducible rfl
    (try simp only [List.getElem_toArray, List.getElem_cons_zero, List.getElem_cons_succ, Act.put, List.setIfInBounds_toArray, List.set_cons_zero, List.set_cons_succ])
    refine wpAnyH_take (i := 1) (v := ?_) rfl (by kernel_rfl) (by kernel_rfl) (by kernel_rfl) (fun _ _ _ h => h) (Or.inl ⟨by rfl, ?_⟩) (by assumption) ?_
    rotate_left
    · intro wS hSw
      (obtain ⟨i0, i1⟩ := hSw; have a1 := cellM i0 1 rfl; have e0 := cellM i1 0 rfl; have e1 := cellM i1 1 rfl; have e2 := cellM i1 2 rfl; have e3 := cellM i1 3 rfl; have e4 := cellM i1 4 rfl; have e5 := cellM i1 5 rfl; have e6 := cellM i1 6 rfl; clear i0 i1)
      go_simp
      all_goals with_reducible rfl
    (try simp only [List.getElem_toArray, List.getElem_cons_zero, List.getElem_cons_succ, Act.put, List.setIfInBounds_toArray, List.set_cons_zero, List.set_cons_succ])
    refine wpAnyH_take (i := 2) (v := ?_) rfl (by kernel_rfl) (by kernel_rfl) (by kernel_rfl) (fun _ _ _ h => h) (Or.inl ⟨by rfl, ?_⟩) (by assumption) ?_
    rotate_left
    · intro wS hSw
      (obtain ⟨i0, i1⟩ := hSw; have a1 := cellM i0 1 rfl; have e0 := cellM i1 0 rfl; have e1 := cellM i1 1 rfl; have e2 := cellM i1 2 rfl; have e3 := cellM i1 3 rfl; have e4 := cellM i1 4 rfl; have e5 := cellM i1 5 rfl; have e6 := cellM i1 6 rfl; clear i0 i1)
      go_simp
      all_goals with_reducible rfl
    (try simp only [List.getElem_toArray, List.getElem_cons_zero, List.getElem_cons_succ, Act.put, List.setIfInBounds_toArray, List.set_cons_zero, List.set_cons_succ])
    refine wpAnyH_take (i := 3) (v := ?_) rfl (by kernel_rfl) (by kernel_rfl) (by kernel_rfl) (fun _ _ _ h => h) (Or.inl ⟨by rfl, ?_⟩) (by assumption) ?_
    rotate_left
    · intro wS hSw
      (obtain ⟨i0, i1⟩ := hSw; have a1 := cellM i0 1 rfl; have e0 := cellM i1 0 rfl; have e1 := cellM i1 1 rfl; have e2 := cellM i1 2 rfl; have e3 := cellM i1 3 rfl; have e4 := cellM i1 4 rfl; have e5 := cellM i1 5 rfl; have e6 := cellM i1 6 rfl; clear i0 i1)
      go_simp
      all_goals with_reducible rfl
    (try simp only [List.getElem_toArray, List.getElem_cons_zero, List.getElem_cons_succ, Act.put, List.setIfInBounds_toArray, List.set_cons_zero, List.set_cons_succ])
    refine wpAnyH_take (i := 4) (v := ?_) rfl (by kernel_rfl) (by kernel_rfl) (by kernel_rfl) (fun _ _ _ h => h) (Or.inl ⟨by rfl, ?_⟩) (by assumption) ?_
    rotate_left
    · intro wS hSw
      (obtain ⟨i0, i1⟩ := hSw; have a1 := cellM i0 1 rfl; have e0 := cellM i1 0 rfl; have e1 := cellM i1 1 rfl; have e2 := cellM i1 2 rfl; have e3 := cellM i1 3 rfl; have e4 := cellM i1 4 rfl; have e5 := cellM i1 5 rfl; have e6 := cellM i1 6 rfl; clear i0 i1)
      go_simp
      all_goals with_reducible rfl
    (try simp only [List.getElem_toArray, List.getElem_cons_zero, List.getElem_cons_succ, Act.put, List.setIfInBounds_toArray, List.set_cons_zero, List.set_cons_succ])
    refine wpAnyH_take (i := 5) (v := ?_) rfl (by kernel_rfl) (by kernel_rfl) (by kernel_rfl) (fun _ _ _ h => h) (Or.inl ⟨by rfl, ?_⟩) (by assumption) ?_
    rotate_left
    · intro wS hSw
      (obtain ⟨i0, i1⟩ := hSw; have a1 := cellM i0 1 rfl; have e0 := cellM i1 0 rfl; have e1 := cellM i1 1 rfl; have e2 := cellM i1 2 rfl; have e3 := cellM i1 3 rfl; have e4 := cellM i1 4 rfl; have e5 := cellM i1 5 rfl; have e6 := cellM i1 6 rfl; clear i0 i1)
      go_simp
      all_goals with_reducible rfl
    (try simp only [List.getElem_toArray, List.getElem_cons_zero, List.getElem_cons_succ, Act.put, List.setIfInBounds_toArray, List.set_cons_zero, List.set_cons_succ])
    refine wpAnyH_take (i := 6) (v := ?_) rfl (by kernel_rfl) (by kernel_rfl) (by kernel_rfl) (fun _ _ _ h => h) (Or.inl ⟨by rfl, ?_⟩) (by assumption) ?_
    rotate_left
    · intro wS hSw
      (obtain ⟨i0, i1⟩ := hSw; have a1 := cellM i0 1 rfl; have e0 := cellM i1 0 rfl; have e1 := cellM i1 1 rfl; have e2 := cellM i1 2 rfl; have e3 := cellM i1 3 rfl; have e4 := cellM i1 4 rfl; have e5 := cellM i1 5 rfl; have e6 := cellM i1 6 rfl; clear i0 i1)
      go_simp
      all_goals with_reducible rfl
    (try simp only [List.getElem_toArray, List.getElem_cons_zero, List.getElem_cons_succ, Act.put, List.setIfInBounds_toArray, List.set_cons_zero, List.set_cons_succ])
    refine wpAnyH_take (i := 7) (v := ?_) rfl (by kernel_rfl) (by kernel_rfl) (by kernel_rfl) (fun _ _ _ h => h) (Or.inl ⟨by rfl, ?_⟩) (by assumption) ?_
    rotate_left
    · intro wS hSw
      (obtain ⟨i0, i1⟩ := hSw; have a1 := cellM i0 1 rfl; have e0 := cellM i1 0 rfl; have e1 := cellM i1 1 rfl; have e2 := cellM i1 2 rfl; have e3 := cellM i1 3 rfl; have e4 := cellM i1 4 rfl; have e5 := cellM i1 5 rfl; have e6 := cellM i1 6 rfl; clear i0 i1)
      go_simp
      all_goals with_reducible rfl
    (try simp only [List.getElem_toArray, List.getElem_cons_zero, List.getElem_cons_succ, Act.put, List.setIfInBounds_toArray, List.set_cons_zero, List.set_cons_succ])
    refine wpAnyH_take (i := 8) (v := ?_) rfl (by kernel_rfl) (by kernel_rfl) (by kernel_rfl) (fun _ _ _ h => h) (Or.inl ⟨by rfl, ?_⟩) (by assumption) ?_
    rotate_left
    · intro wS hSw
      (obtain ⟨i0, i1⟩ := hSw; have a1 := cellM i0 1 rfl; have e0 := cellM i1 0 rfl; have e1 := cellM i1 1 rfl; have e2 := cellM i1 2 rfl; have e3 := cellM i1 3 rfl; have e4 := cellM i1 4 rfl; have e5 := cellM i1 5 rfl; have e6 := cellM i1 6 rfl; clear i0 i1)
      go_simp
      all_goals with_reducible rfl
    (try simp only [List.getElem_toArray, List.getElem_cons_zero, List.getElem_cons_succ, Act.put, List.setIfInBounds_toArray, List.set_cons_zero, List.set_cons_succ])
    refine wpAnyH_take (i := 9) (v := ?_) rfl (by kernel_rfl) (by kernel_rfl) (by kernel_rfl) (fun _ _ _ h => h) (Or.inl ⟨by rfl, ?_⟩) (by assumption) ?_
    rotate_left
    · intro wS hSw
      (obtain ⟨i0, i1⟩ := hSw; have a1 := cellM i0 1 rfl; have e0 := cellM i1 0 rfl; have e1 := cellM i1 1 rfl; have e2 := cellM i1 2 rfl; have e3 := cellM i1 3 rfl; have e4 := cellM i1 4 rfl; have e5 := cellM i1 5 rfl; have e6 := cellM i1 6 rfl; clear i0 i1)
      go_simp
      all_goals with_reducible rfl
    (try simp only [List.getElem_toArray, List.getElem_cons_zero, List.getElem_cons_succ, Act.put, List.setIfInBounds_toArray, List.set_cons_zero, List.set_cons_succ])
    refine held_one (i := 10) (by kernel_rfl) rfl (fun K hK => ?_)
    go_simp
    go_at_call 49
    refine (HRS.out _ _ HY.out.2.1 HY.out.2.2.2).mono ?_
    rintro e w4 ⟨rfl, hb4⟩
    have HZ := Lib.hid (show Mv W w4 mb g ∧ w4.heap[mb]? = some (macO (.slice (some ⟨db, doff, none⟩) 64 dcap) g nr p (s + 1) false 0#32 0) ∧ w4.rowIs g 33 nr (regF r) ∧ w4.heap[W.heap.size]? = some (irO ⟨7, (dn : Int), (an : Int), (bn : Int), k, t, f⟩) from ⟨HY.out.1.up hb4, keepM HY.out.2.1 hb4, rowIs_below HY.out.2.2.1 hb4 HY.out.2.2.1.lt, keepM HH.out.2 hb4⟩)
    refine hK.out _ _ ⟨HZ.out.2.1, HZ.out.2.2.2⟩ (fun hH1 => ?_)
    clear hK K hHeld hb4 HY HH
    (try simp only [Act.put, List.setIfInBounds_toArray, List.set_cons_zero, List.set_cons_succ, List.getElem_toArray, List.getElem_cons_zero, List.getElem_cons_succ])
    refine wpAnyH_take (i := 11) (v := ?_) rfl (by kernel_rfl) (by kernel_rfl) (by kernel_rfl) (fun _ _ _ h => h) (Or.inl ⟨by rfl, ?_⟩) (by assumption) ?_
    rotate_left
    · intro wS hSw
      (skip)
      go_simp
      all_goals with_reducible rfl
    (try simp only [List.getElem_toArray, List.getElem_cons_zero, List.getElem_cons_succ, Act.put, List.setIfInBounds_toArray, List.set_cons_zero, List.set_cons_succ])
    have hfz : w4.frozen? ⟨g, dn, none⟩ = false := World.rowIs.frozen HZ.out.2.2.1 _
    obtain ⟨v0, hrd⟩ : ∃ v, w4.cell? ⟨g, dn, none⟩ = some v := ⟨_, World.rowIs.cell HZ.out.2.2.1 hd2⟩
    refine held_one (i := 12) (by kernel_rfl) rfl (fun K hK => ?_)
    go_simp
    have HQ := Lib.hid (show Mv W (w4.setCell ⟨g, dn, none⟩ (.int .u32 ((v).toNat : Int))) mb g ∧ (w4.setCell ⟨g, dn, none⟩ (.int .u32 ((v).toNat : Int))).heap[mb]? = some (macO (.slice (some ⟨db, doff, none⟩) 64 dcap) g nr p (s + 1) false 0#32 0) ∧ (w4.setCell ⟨g, dn, none⟩ (.int .u32 ((v).toNat : Int))).rowIs g 33 nr (regF (upd r dn (v))) from ⟨HZ.out.1.setg dn _, (set_otherM hmg).trans HZ.out.2.1, reg_set HZ.out.2.2.1 dn (v)⟩)
    refine hK.out _ _ ⟨HQ.out.2.1, (set_otherM hBg).trans HZ.out.2.2.2⟩ (fun hH2 => ?_)
    clear hK K hH1 hH2 HZ hfz hrd
    (try simp only [Act.put, List.setIfInBounds_toArray, List.set_cons_zero, List.set_cons_succ, List.getElem_toArray, List.getElem_cons_zero, List.getElem_cons_succ])
    refine wpAnyH_done (by kernel_rfl) ?_ _
    generalize w4.setCell ⟨g, dn, none⟩ (.int .u32 ((v).toNat : Int)) = U at HQ ⊢
    have m2 := cellM HQ.out.2.1 2 rfl
    have z2 := frozenM HQ.out.2.1 2
    go_wp2
    go_end0
    refine ⟨rfl, HQ.out.1.setm 2 _, ?_, ?_⟩
    · exact heap_setM HQ.out.2.1 2 (.int .i64 ((p : Int) + 1))
    · exact HQ.out.2.2.of_block (set_otherM hgm)
  · clear hdv hop
    clear hone hP
    rw [HST.out]
    go_enter Tryz.func21, Tryz.ntmps21
    go_upto_region 6 with (go_at_call 47; (with_reducible refine (HA.out _ HM0.out.1 HM0.out.2).mono ?_); rintro e w1 ⟨rfl, hb1⟩; have HW := Lib.hid (HW0.out w1 hb1); clear hb1; have m2 := cellM HW.out.2.1 2 rfl; have m3 := cellM HW.out.2.1 3 rfl; have m1 := cellM HW.out.2.1 1 rfl; have m4 : w1.cell? ⟨mb, 4, none⟩ = some (.bool false) := cellM HW.out.2.1 4 rfl; have m5 : w1.cell? ⟨mb, 5, none⟩ = some (.int .u32 0) := cellM HW.out.2.1 5 rfl; have m6 : w1.cell? ⟨mb, 6, none⟩ = some (.int .i64 0) := cellM HW.out.2.1 6 rfl; have fz := fun i => frozenM HW.out.2.1 i; have z2 := fz 2; have z3 := fz 3; have z4 := fz 4; have z5 := fz 5; have z6 := fz 6; have u0 := cellM HW.out.2.2.2.1 0 rfl; have u1 := cellM HW.out.2.2.2.1 1 rfl; have u5 := cellM HW.out.2.2.2.1 5 rfl; have u6 := cellM HW.out.2.2.2.1 6 rfl; clear fz)
    have HV : Hid (Mv W (w1.setCell ⟨mb, 3, none⟩ (.int .i64 ((s : Int) + 1))) mb g ∧ (w1.setCell ⟨mb, 3, none⟩ (.int .i64 ((s : Int) + 1))).heap[mb]? = some (macO (.slice (some ⟨db, doff, none⟩) 64 dcap) g nr p (s + 1) false 0#32 0) ∧ (w1.setCell ⟨mb, 3, none⟩ (.int .i64 ((s : Int) + 1))).rowIs g 33 nr (regF r) ∧ (w1.setCell ⟨mb, 3, none⟩ (.int .i64 ((s : Int) + 1))).heap[W.heap.size]? = some (irO ⟨8, (dn : Int), (an : Int), (bn : Int), k, t, f⟩) ∧ Bytes64 (w1.setCell ⟨mb, 3, none⟩ (.int .i64 ((s : Int) + 1))) db doff z) := Lib.hid ⟨HW.out.1.setm 3 _, heap_setM HW.out.2.1 3 (.int .i64 ((s : Int) + 1)), HW.out.2.2.1.of_block (set_otherM hgm), (set_otherM hBm).trans HW.out.2.2.2.1, bytes_setM HW.out.2.2.2.2 (bytes_ne HP.out.data HP.out.mac (by show (7 : Nat) ≤ 63; decide)) 3 _⟩
    clear HW m1 m2 m3 m4 m5 m6 z2 z3 z4 z5 z6 u0 u1 u5 u6
    generalize w1.setCell ⟨mb, 3, none⟩ (.int .i64 ((s : Int) + 1)) = V at HV ⊢
    have u0 := cellM HV.out.2.2.2.1 0 rfl
    go_wp2
    clear u0
    refine wp_region_held_drew (S := fun W' => W'.heap[mb]? = some (macO (.slice (some ⟨db, doff, none⟩) 64 dcap) g nr p (s + 1) false 0#32 0) ∧ W'.heap[W.heap.size]? = some (irO ⟨8, (dn : Int), (an : Int), (bn : Int), k, t, f⟩)) (by kernel_rfl) ⟨HV.out.2.1, HV.out.2.2.2.1⟩ (fun hHeld => ?_)
    have HY := Lib.hid (show Mv W V.drew mb g ∧ V.drew.heap[mb]? = some (macO (.slice (some ⟨db, doff, none⟩) 64 dcap) g nr p (s + 1) false 0#32 0) ∧ V.drew.rowIs g 33 nr (regF r) ∧ Bytes64 V.drew db doff z from ⟨HV.out.1.up (below_drawn (Below.refl _ _) 1), HV.out.2.1, HV.out.2.2.1, HV.out.2.2.2.2⟩)
    clear HV
    generalize V.drew = Y at HY hHeld ⊢
    have HH := Lib.hid hHeld
    refine wpAnyH_take (i := 0) (v := ?_) rfl (by kernel_rfl) (by kernel_rfl) (by kernel_rfl) (fun _ _ _ h => h) (Or.inl ⟨by rfl, ?_⟩) (by assumption) ?_
    rotate_left
    · intro wS hSw
      (obtain ⟨i0, i1⟩ := hSw; have a1 := cellM i0 1 rfl; have e0 := cellM i1 0 rfl; have e1 := cellM i1 1 rfl; have e2 := cellM i1 2 rfl; have e3 := cellM i1 3 rfl; have e4 := cellM i1 4 rfl; have e5 := cellM i1 5 rfl; have e6 := cellM i1 6 rfl; clear i0 i1)
      go_simp
      all_goals with_reducible rfl
    (try simp only [List.getElem_toArray, List.getElem_cons_zero, List.getElem_cons_succ, Act.put, List.setIfInBounds_toArray, List.set_cons_zero, List.set_cons_succ])
    refine wpAnyH_take (i := 1) (v := ?_) rfl (by kernel_rfl) (by kernel_rfl) (by kernel_rfl) (fun _ _ _ h => h) (Or.inl ⟨by rfl, ?_⟩) (by assumption) ?_
    rotate_left
    · intro wS hSw
      (obtain ⟨i0, i1⟩ := hSw; have a1 := cellM i0 1 rfl; have e0 := cellM i1 0 rfl; have e1 := cellM i1 1 rfl; have e2 := cellM i1 2 rfl; have e3 := cellM i1 3 rfl; have e4 := cellM i1 4 rfl; have e5 := cellM i1 5 rfl; have e6 := cellM i1 6 rfl; clear i0 i1)
      go_simp
      all_goals with_reducible rfl
    (try simp only [List.getElem_toArray, List.getElem_cons_zero, List.getElem_cons_succ, Act.put, List.setIfInBounds_toArray, List.set_cons_zero, List.set_cons_succ])
    refine wpAnyH_take (i := 2) (v := ?_) rfl (by kernel_rfl) (by kernel_rfl) (by kernel_rfl) (fun _ _ _ h => h) (Or.inl ⟨by rfl, ?_⟩) (by assumption) ?_
    rotate_left
    · intro wS hSw
      (obtain ⟨i0, i1⟩ := hSw; have a1 := cellM i0 1 rfl; have e0 := cellM i1 0 rfl; have e1 := cellM i1 1 rfl; have e2 := cellM i1 2 rfl; have e3 := cellM i1 3 rfl; have e4 := cellM i1 4 rfl; have e5 := cellM i1 5 rfl; have e6 := cellM i1 6 rfl; clear i0 i1)
      go_simp
      all_goals with_reducible rfl
    (try simp only [List.getElem_toArray, List.getElem_cons_zero, List.getElem_cons_succ, Act.put, List.setIfInBounds_toArray, List.set_cons_zero, List.set_cons_succ])
    refine wpAnyH_take (i := 3) (v := ?_) rfl (by kernel_rfl) (by kernel_rfl) (by kernel_rfl) (fun _ _ _ h => h) (Or.inl ⟨by rfl, ?_⟩) (by assumption) ?_
    rotate_left
    · intro wS hSw
      (obtain ⟨i0, i1⟩ := hSw; have a1 := cellM i0 1 rfl; have e0 := cellM i1 0 rfl; have e1 := cellM i1 1 rfl; have e2 := cellM i1 2 rfl; have e3 := cellM i1 3 rfl; have e4 := cellM i1 4 rfl; have e5 := cellM i1 5 rfl; have e6 := cellM i1 6 rfl; clear i0 i1)
      go_simp
      all_goals with_reducible rfl
    (try simp only [List.getElem_toArray, List.getElem_cons_zero, List.getElem_cons_succ, Act.put, List.setIfInBounds_toArray, List.set_cons_zero, List.set_cons_succ])
    refine wpAnyH_take (i := 4) (v := ?_) rfl (by kernel_rfl) (by kernel_rfl) (by kernel_rfl) (fun _ _ _ h => h) (Or.inl ⟨by rfl, ?_⟩) (by assumption) ?_
    rotate_left
    · intro wS hSw
      (obtain ⟨i0, i1⟩ := hSw; have a1 := cellM i0 1 rfl; have e0 := cellM i1 0 rfl; have e1 := cellM i1 1 rfl; have e2 := cellM i1 2 rfl; have e3 := cellM i1 3 rfl; have e4 := cellM i1 4 rfl; have e5 := cellM i1 5 rfl; have e6 := cellM i1 6 rfl; clear i0 i1)
      go_simp
      all_goals with_reducible rfl
    (try simp only [List.getElem_toArray, List.getElem_cons_zero, List.getElem_cons_succ, Act.put, List.setIfInBounds_toArray, List.set_cons_zero, List.set_cons_succ])
    refine wpAnyH_take (i := 5) (v := ?_) rfl (by kernel_rfl) (by kernel_rfl) (by kernel_rfl) (fun _ _ _ h => h) (Or.inl ⟨by rfl, ?_⟩) (by assumption) ?_
    rotate_left
    · intro wS hSw
      (obtain ⟨i0, i1⟩ := hSw; have a1 := cellM i0 1 rfl; have e0 := cellM i1 0 rfl; have e1 := cellM i1 1 rfl; have e2 := cellM i1 2 rfl; have e3 := cellM i1 3 rfl; have e4 := cellM i1 4 rfl; have e5 := cellM i1 5 rfl; have e6 := cellM i1 6 rfl; clear i0 i1)
      go_simp
      all_goals with_reducible rfl
    (try simp only [List.getElem_toArray, List.getElem_cons_zero, List.getElem_cons_succ, Act.put, List.setIfInBounds_toArray, List.set_cons_zero, List.set_cons_succ])
    refine wpAnyH_take (i := 6) (v := ?_) rfl (by kernel_rfl) (by kernel_rfl) (by kernel_rfl) (fun _ _ _ h => h) (Or.inl ⟨by rfl, ?_⟩) (by assumption) ?_
    rotate_left
    · intro wS hSw
      (obtain ⟨i0, i1⟩ := hSw; have a1 := cellM i0 1 rfl; have e0 := cellM i1 0 rfl; have e1 := cellM i1 1 rfl; have e2 := cellM i1 2 rfl; have e3 := cellM i1 3 rfl; have e4 := cellM i1 4 rfl; have e5 := cellM i1 5 rfl; have e6 := cellM i1 6 rfl; clear i0 i1)
      go_simp
      all_goals with_reducible rfl
    (try simp only [List.getElem_toArray, List.getElem_cons_zero, List.getElem_cons_succ, Act.put, List.setIfInBounds_toArray, List.set_cons_zero, List.set_cons_succ])
    refine wpAnyH_take (i := 7) (v := ?_) rfl (by kernel_rfl) (by kernel_rfl) (by kernel_rfl) (fun _ _ _ h => h) (Or.inl ⟨by rfl, ?_⟩) (by assumption) ?_
    rotate_left
    · intro wS hSw
      (obtain ⟨i0, i1⟩ := hSw; have a1 := cellM i0 1 rfl; have e0 := cellM i1 0 rfl; have e1 := cellM i1 1 rfl; have e2 := cellM i1 2 rfl; have e3 := cellM i1 3 rfl; have e4 := cellM i1 4 rfl; have e5 := cellM i1 5 rfl; have e6 := cellM i1 6 rfl; clear i0 i1)
      go_simp
      all_goals with_reducible rfl
    (try simp only [List.getElem_toArray, List.getElem_cons_zero, List.getElem_cons_succ, Act.put, List.setIfInBounds_toArray, List.set_cons_zero, List.set_cons_succ])
    refine wpAnyH_take (i := 8) (v := ?_) rfl (by kernel_rfl) (by kernel_rfl) (by kernel_rfl) (fun _ _ _ h => h) (Or.inl ⟨by rfl, ?_⟩) (by assumption) ?_
    rotate_left
    · intro wS hSw
      (obtain ⟨i0, i1⟩ := hSw; have a1 := cellM i0 1 rfl; have e0 := cellM i1 0 rfl; have e1 := cellM i1 1 rfl; have e2 := cellM i1 2 rfl; have e3 := cellM i1 3 rfl; have e4 := cellM i1 4 rfl; have e5 := cellM i1 5 rfl; have e6 := cellM i1 6 rfl; clear i0 i1)
      go_simp
      all_goals with_reducible rfl
    (try simp only [List.getElem_toArray, List.getElem_cons_zero, List.getElem_cons_succ, Act.put, List.setIfInBounds_toArray, List.set_cons_zero, List.set_cons_succ])
    refine wpAnyH_take (i := 9) (v := ?_) rfl (by kernel_rfl) (by kernel_rfl) (by kernel_rfl) (fun _ _ _ h => h) (Or.inl ⟨by rfl, ?_⟩) (by assumption) ?_
    rotate_left
    · intro wS hSw
      (obtain ⟨i0, i1⟩ := hSw; have a1 := cellM i0 1 rfl; have e0 := cellM i1 0 rfl; have e1 := cellM i1 1 rfl; have e2 := cellM i1 2 rfl; have e3 := cellM i1 3 rfl; have e4 := cellM i1 4 rfl; have e5 := cellM i1 5 rfl; have e6 := cellM i1 6 rfl; clear i0 i1)
      go_simp
      all_goals with_reducible rfl
    (try simp only [List.getElem_toArray, List.getElem_cons_zero, List.getElem_cons_succ, Act.put, List.setIfInBounds_toArray, List.set_cons_zero, List.set_cons_succ])
    refine held_one (i := 10) (by kernel_rfl) rfl (fun K hK => ?_)
    go_simp
    go_at_call 49
    refine (HRS.out _ _ HY.out.2.1 HY.out.2.2.2).mono ?_
    rintro e w4 ⟨rfl, hb4⟩
    have HZ := Lib.hid (show Mv W w4 mb g ∧ w4.heap[mb]? = some (macO (.slice (some ⟨db, doff, none⟩) 64 dcap) g nr p (s + 1) false 0#32 0) ∧ w4.rowIs g 33 nr (regF r) ∧ w4.heap[W.heap.size]? = some (irO ⟨8, (dn : Int), (an : Int), (bn : Int), k, t, f⟩) from ⟨HY.out.1.up hb4, keepM HY.out.2.1 hb4, rowIs_below HY.out.2.2.1 hb4 HY.out.2.2.1.lt, keepM HH.out.2 hb4⟩)
    refine hK.out _ _ ⟨HZ.out.2.1, HZ.out.2.2.2⟩ (fun hH1 => ?_)
    clear hK K hHeld hb4 HY HH
    (try simp only [Act.put, List.setIfInBounds_toArray, List.set_cons_zero, List.set_cons_succ, List.getElem_toArray, List.getElem_cons_zero, List.getElem_cons_succ])
    refine wpAnyH_take (i := 11) (v := ?_) rfl (by kernel_rfl) (by kernel_rfl) (by kernel_rfl) (fun _ _ _ h => h) (Or.inl ⟨by rfl, ?_⟩) (by assumption) ?_
    rotate_left
    · intro wS hSw
      (skip)
      go_simp
      all_goals with_reducible rfl
    (try simp only [List.getElem_toArray, List.getElem_cons_zero, List.getElem_cons_succ, Act.put, List.setIfInBounds_toArray, List.set_cons_zero, List.set_cons_succ])
    have hfz : w4.frozen? ⟨g, dn, none⟩ = false := World.rowIs.frozen HZ.out.2.2.1 _
    obtain ⟨v0, hrd⟩ : ∃ v, w4.cell? ⟨g, dn, none⟩ = some v := ⟨_, World.rowIs.cell HZ.out.2.2.1 hd2⟩
    refine held_one (i := 12) (by kernel_rfl) rfl (fun K hK => ?_)
    go_simp
    have HQ := Lib.hid (show Mv W (w4.setCell ⟨g, dn, none⟩ (.int .u32 ((v).toNat : Int))) mb g ∧ (w4.setCell ⟨g, dn, none⟩ (.int .u32 ((v).toNat : Int))).heap[mb]? = some (macO (.slice (some ⟨db, doff, none⟩) 64 dcap) g nr p (s + 1) false 0#32 0) ∧ (w4.setCell ⟨g, dn, none⟩ (.int .u32 ((v).toNat : Int))).rowIs g 33 nr (regF (upd r dn (v))) from ⟨HZ.out.1.setg dn _, (set_otherM hmg).trans HZ.out.2.1, reg_set HZ.out.2.2.1 dn (v)⟩)
    refine hK.out _ _ ⟨HQ.out.2.1, (set_otherM hBg).trans HZ.out.2.2.2⟩ (fun hH2 => ?_)
    clear hK K hH1 hH2 HZ hfz hrd
    (try simp only [Act.put, List.setIfInBounds_toArray, List.set_cons_zero, List.set_cons_succ, List.getElem_toArray, List.getElem_cons_zero, List.getElem_cons_succ])
    refine wpAnyH_done (by kernel_rfl) ?_ _
    generalize w4.setCell ⟨g, dn, none⟩ (.int .u32 ((v).toNat : Int)) = U at HQ ⊢
    have m2 := cellM HQ.out.2.1 2 rfl
    have z2 := frozenM HQ.out.2.1 2
    go_wp2
    go_end0
    refine ⟨rfl, HQ.out.1.setm 2 _, ?_, ?_⟩
    · exact heap_setM HQ.out.2.1 2 (.int .i64 ((p : Int) + 1))
    · exact HQ.out.2.2.of_block (set_otherM hgm)
  · clear hdv hop
    clear hone hP
    rw [HST.out]
    go_enter Tryz.func21, Tryz.ntmps21
    go_upto_region 6 with (go_at_call 47; (with_reducible refine (HA.out _ HM0.out.1 HM0.out.2).mono ?_); rintro e w1 ⟨rfl, hb1⟩; have HW := Lib.hid (HW0.out w1 hb1); clear hb1; have m2 := cellM HW.out.2.1 2 rfl; have m3 := cellM HW.out.2.1 3 rfl; have m1 := cellM HW.out.2.1 1 rfl; have m4 : w1.cell? ⟨mb, 4, none⟩ = some (.bool false) := cellM HW.out.2.1 4 rfl; have m5 : w1.cell? ⟨mb, 5, none⟩ = some (.int .u32 0) := cellM HW.out.2.1 5 rfl; have m6 : w1.cell? ⟨mb, 6, none⟩ = some (.int .i64 0) := cellM HW.out.2.1 6 rfl; have fz := fun i => frozenM HW.out.2.1 i; have z2 := fz 2; have z3 := fz 3; have z4 := fz 4; have z5 := fz 5; have z6 := fz 6; have u0 := cellM HW.out.2.2.2.1 0 rfl; have u1 := cellM HW.out.2.2.2.1 1 rfl; have u5 := cellM HW.out.2.2.2.1 5 rfl; have u6 := cellM HW.out.2.2.2.1 6 rfl; clear fz)
    have HV : Hid (Mv W (w1.setCell ⟨mb, 3, none⟩ (.int .i64 ((s : Int) + 1))) mb g ∧ (w1.setCell ⟨mb, 3, none⟩ (.int .i64 ((s : Int) + 1))).heap[mb]? = some (macO (.slice (some ⟨db, doff, none⟩) 64 dcap) g nr p (s + 1) false 0#32 0) ∧ (w1.setCell ⟨mb, 3, none⟩ (.int .i64 ((s : Int) + 1))).rowIs g 33 nr (regF r) ∧ (w1.setCell ⟨mb, 3, none⟩ (.int .i64 ((s : Int) + 1))).heap[W.heap.size]? = some (irO ⟨9, (dn : Int), (an : Int), (bn : Int), k, t, f⟩) ∧ Bytes64 (w1.setCell ⟨mb, 3, none⟩ (.int .i64 ((s : Int) + 1))) db doff z) := Lib.hid ⟨HW.out.1.setm 3 _, heap_setM HW.out.2.1 3 (.int .i64 ((s : Int) + 1)), HW.out.2.2.1.of_block (set_otherM hgm), (set_otherM hBm).trans HW.out.2.2.2.1, bytes_setM HW.out.2.2.2.2 (bytes_ne HP.out.data HP.out.mac (by show (7 : Nat) ≤ 63; decide)) 3 _⟩
    clear HW m1 m2 m3 m4 m5 m6 z2 z3 z4 z5 z6 u0 u1 u5 u6
    generalize w1.setCell ⟨mb, 3, none⟩ (.int .i64 ((s : Int) + 1)) = V at HV ⊢
    have u0 := cellM HV.out.2.2.2.1 0 rfl
    go_wp2
    clear u0
    refine wp_region_held_drew (S := fun W' => W'.heap[mb]? = some (macO (.slice (some ⟨db, doff, none⟩) 64 dcap) g nr p (s + 1) false 0#32 0) ∧ W'.heap[W.heap.size]? = some (irO ⟨9, (dn : Int), (an : Int), (bn : Int), k, t, f⟩)) (by kernel_rfl) ⟨HV.out.2.1, HV.out.2.2.2.1⟩ (fun hHeld => ?_)
    have HY := Lib.hid (show Mv W V.drew mb g ∧ V.drew.heap[mb]? = some (macO (.slice (some ⟨db, doff, none⟩) 64 dcap) g nr p (s + 1) false 0#32 0) ∧ V.drew.rowIs g 33 nr (regF r) ∧ Bytes64 V.drew db doff z from ⟨HV.out.1.up (below_drawn (Below.refl _ _) 1), HV.out.2.1, HV.out.2.2.1, HV.out.2.2.2.2⟩)
    clear HV
    generalize V.drew = Y at HY hHeld ⊢
    have HH := Lib.hid hHeld
    refine wpAnyH_take (i := 0) (v := ?_) rfl (by kernel_rfl) (by kernel_rfl) (by kernel_rfl) (fun _ _ _ h => h) (Or.inl ⟨by rfl, ?_⟩) (by assumption) ?_
    rotate_left
    · intro wS hSw
      (obtain ⟨i0, i1⟩ := hSw; have a1 := cellM i0 1 rfl; have e0 := cellM i1 0 rfl; have e1 := cellM i1 1 rfl; have e2 := cellM i1 2 rfl; have e3 := cellM i1 3 rfl; have e4 := cellM i1 4 rfl; have e5 := cellM i1 5 rfl; have e6 := cellM i1 6 rfl; clear i0 i1)
      go_simp
      all_goals with_reducible rfl
    (try simp only [List.getElem_toArray, List.getElem_cons_zero, List.getElem_cons_succ, Act.put, List.setIfInBounds_toArray, List.set_cons_zero, List.set_cons_succ])
    refine wpAnyH_take (i := 1) (v := ?_) rfl (by kernel_rfl) (by kernel_rfl) (by kernel_rfl) (fun _ _ _ h => h) (Or.inl ⟨by rfl, ?_⟩) (by assumption) ?_
    rotate_left
    · intro wS hSw
      (obtain ⟨i0, i1⟩ := hSw; have a1 := cellM i0 1 rfl; have e0 := cellM i1 0 rfl; have e1 := cellM i1 1 rfl; have e2 := cellM i1 2 rfl; have e3 := cellM i1 3 rfl; have e4 := cellM i1 4 rfl; have e5 := cellM i1 5 rfl; have e6 := cellM i1 6 rfl; clear i0 i1)
      go_simp
      all_goals with_reducible rfl
    (try simp only [List.getElem_toArray, List.getElem_cons_zero, List.getElem_cons_succ, Act.put, List.setIfInBounds_toArray, List.set_cons_zero, List.set_cons_succ])
    refine wpAnyH_take (i := 2) (v := ?_) rfl (by kernel_rfl) (by kernel_rfl) (by kernel_rfl) (fun _ _ _ h => h) (Or.inl ⟨by rfl, ?_⟩) (by assumption) ?_
    rotate_left
    · intro wS hSw
      (obtain ⟨i0, i1⟩ := hSw; have a1 := cellM i0 1 rfl; have e0 := cellM i1 0 rfl; have e1 := cellM i1 1 rfl; have e2 := cellM i1 2 rfl; have e3 := cellM i1 3 rfl; have e4 := cellM i1 4 rfl; have e5 := cellM i1 5 rfl; have e6 := cellM i1 6 rfl; clear i0 i1)
      go_simp
      all_goals with_reducible rfl
    (try simp only [List.getElem_toArray, List.getElem_cons_zero, List.getElem_cons_succ, Act.put, List.setIfInBounds_toArray, List.set_cons_zero, List.set_cons_succ])
    refine wpAnyH_take (i := 3) (v := ?_) rfl (by kernel_rfl) (by kernel_rfl) (by kernel_rfl) (fun _ _ _ h => h) (Or.inl ⟨by rfl, ?_⟩) (by assumption) ?_
    rotate_left
    · intro wS hSw
      (obtain ⟨i0, i1⟩ := hSw; have a1 := cellM i0 1 rfl; have e0 := cellM i1 0 rfl; have e1 := cellM i1 1 rfl; have e2 := cellM i1 2 rfl; have e3 := cellM i1 3 rfl; have e4 := cellM i1 4 rfl; have e5 := cellM i1 5 rfl; have e6 := cellM i1 6 rfl; clear i0 i1)
      go_simp
      all_goals with_reducible rfl
    (try simp only [List.getElem_toArray, List.getElem_cons_zero, List.getElem_cons_succ, Act.put, List.setIfInBounds_toArray, List.set_cons_zero, List.set_cons_succ])
    refine wpAnyH_take (i := 4) (v := ?_) rfl (by kernel_rfl) (by kernel_rfl) (by kernel_rfl) (fun _ _ _ h => h) (Or.inl ⟨by rfl, ?_⟩) (by assumption) ?_
    rotate_left
    · intro wS hSw
      (obtain ⟨i0, i1⟩ := hSw; have a1 := cellM i0 1 rfl; have e0 := cellM i1 0 rfl; have e1 := cellM i1 1 rfl; have e2 := cellM i1 2 rfl; have e3 := cellM i1 3 rfl; have e4 := cellM i1 4 rfl; have e5 := cellM i1 5 rfl; have e6 := cellM i1 6 rfl; clear i0 i1)
      go_simp
      all_goals with_reducible rfl
    (try simp only [List.getElem_toArray, List.getElem_cons_zero, List.getElem_cons_succ, Act.put, List.setIfInBounds_toArray, List.set_cons_zero, List.set_cons_succ])
    refine wpAnyH_take (i := 5) (v := ?_) rfl (by kernel_rfl) (by kernel_rfl) (by kernel_rfl) (fun _ _ _ h => h) (Or.inl ⟨by rfl, ?_⟩) (by assumption) ?_
    rotate_left
    · intro wS hSw
      (obtain ⟨i0, i1⟩ := hSw; have a1 := cellM i0 1 rfl; have e0 := cellM i1 0 rfl; have e1 := cellM i1 1 rfl; have e2 := cellM i1 2 rfl; have e3 := cellM i1 3 rfl; have e4 := cellM i1 4 rfl; have e5 := cellM i1 5 rfl; have e6 := cellM i1 6 rfl; clear i0 i1)
      go_simp
      all_goals with_reducible rfl
    (try simp only [List.getElem_toArray, List.getElem_cons_zero, List.getElem_cons_succ, Act.put, List.setIfInBounds_toArray, List.set_cons_zero, List.set_cons_succ])
    refine wpAnyH_take (i := 6) (v := ?_) rfl (by kernel_rfl) (by kernel_rfl) (by kernel_rfl) (fun _ _ _ h => h) (Or.inl ⟨by rfl, ?_⟩) (by assumption) ?_
    rotate_left
    · intro wS hSw
      (obtain ⟨i0, i1⟩ := hSw; have a1 := cellM i0 1 rfl; have e0 := cellM i1 0 rfl; have e1 := cellM i1 1 rfl; have e2 := cellM i1 2 rfl; have e3 := cellM i1 3 rfl; have e4 := cellM i1 4 rfl; have e5 := cellM i1 5 rfl; have e6 := cellM i1 6 rfl; clear i0 i1)
      go_simp
      all_goals with_reducible rfl
    (try simp only [List.getElem_toArray, List.getElem_cons_zero, List.getElem_cons_succ, Act.put, List.setIfInBounds_toArray, List.set_cons_zero, List.set_cons_succ])
    refine wpAnyH_take (i := 7) (v := ?_) rfl (by kernel_rfl) (by kernel_rfl) (by kernel_rfl) (fun _ _ _ h => h) (Or.inl ⟨by rfl, ?_⟩) (by assumption) ?_
    rotate_left
    · intro wS hSw
      (obtain ⟨i0, i1⟩ := hSw; have a1 := cellM i0 1 rfl; have e0 := cellM i1 0 rfl; have e1 := cellM i1 1 rfl; have e2 := cellM i1 2 rfl; have e3 := cellM i1 3 rfl; have e4 := cellM i1 4 rfl; have e5 := cellM i1 5 rfl; have e6 := cellM i1 6 rfl; clear i0 i1)
      go_simp
      all_goals with_reducible rfl
    (try simp only [List.getElem_toArray, List.getElem_cons_zero, List.getElem_cons_succ, Act.put, List.setIfInBounds_toArray, List.set_cons_zero, List.set_cons_succ])
    refine wpAnyH_take (i := 8) (v := ?_) rfl (by kernel_rfl) (by kernel_rfl) (by kernel_rfl) (fun _ _ _ h => h) (Or.inl ⟨by rfl, ?_⟩) (by assumption) ?_
    rotate_left
    · intro wS hSw
      (obtain ⟨i0, i1⟩ := hSw; have a1 := cellM i0 1 rfl; have e0 := cellM i1 0 rfl; have e1 := cellM i1 1 rfl; have e2 := cellM i1 2 rfl; have e3 := cellM i1 3 rfl; have e4 := cellM i1 4 rfl; have e5 := cellM i1 5 rfl; have e6 := cellM i1 6 rfl; clear i0 i1)
      go_simp
      all_goals with_reducible rfl
    (try simp only [List.getElem_toArray, List.getElem_cons_zero, List.getElem_cons_succ, Act.put, List.setIfInBounds_toArray, List.set_cons_zero, List.set_cons_succ])
    refine wpAnyH_take (i := 9) (v := ?_) rfl (by kernel_rfl) (by kernel_rfl) (by kernel_rfl) (fun _ _ _ h => h) (Or.inl ⟨by rfl, ?_⟩) (by assumption) ?_
    rotate_left
    · intro wS hSw
      (obtain ⟨i0, i1⟩ := hSw; have a1 := cellM i0 1 rfl; have e0 := cellM i1 0 rfl; have e1 := cellM i1 1 rfl; have e2 := cellM i1 2 rfl; have e3 := cellM i1 3 rfl; have e4 := cellM i1 4 rfl; have e5 := cellM i1 5 rfl; have e6 := cellM i1 6 rfl; clear i0 i1)
      go_simp
      all_goals with_reducible rfl
    (try simp only [List.getElem_toArray, List.getElem_cons_zero, List.getElem_cons_succ, Act.put, List.setIfInBounds_toArray, List.set_cons_zero, List.set_cons_succ])
    refine held_one (i := 10) (by kernel_rfl) rfl (fun K hK => ?_)
    go_simp
    go_at_call 49
    refine (HRS.out _ _ HY.out.2.1 HY.out.2.2.2).mono ?_
    rintro e w4 ⟨rfl, hb4⟩
    have HZ := Lib.hid (show Mv W w4 mb g ∧ w4.heap[mb]? = some (macO (.slice (some ⟨db, doff, none⟩) 64 dcap) g nr p (s + 1) false 0#32 0) ∧ w4.rowIs g 33 nr (regF r) ∧ w4.heap[W.heap.size]? = some (irO ⟨9, (dn : Int), (an : Int), (bn : Int), k, t, f⟩) from ⟨HY.out.1.up hb4, keepM HY.out.2.1 hb4, rowIs_below HY.out.2.2.1 hb4 HY.out.2.2.1.lt, keepM HH.out.2 hb4⟩)
    refine hK.out _ _ ⟨HZ.out.2.1, HZ.out.2.2.2⟩ (fun hH1 => ?_)
    clear hK K hHeld hb4 HY HH
    (try simp only [Act.put, List.setIfInBounds_toArray, List.set_cons_zero, List.set_cons_succ, List.getElem_toArray, List.getElem_cons_zero, List.getElem_cons_succ])
    refine wpAnyH_take (i := 11) (v := ?_) rfl (by kernel_rfl) (by kernel_rfl) (by kernel_rfl) (fun _ _ _ h => h) (Or.inl ⟨by rfl, ?_⟩) (by assumption) ?_
    rotate_left
    · intro wS hSw
      (skip)
      go_simp
      all_goals with_reducible rfl
    (try simp only [List.getElem_toArray, List.getElem_cons_zero, List.getElem_cons_succ, Act.put, List.setIfInBounds_toArray, List.set_cons_zero, List.set_cons_succ])
    have hfz : w4.frozen? ⟨g, dn, none⟩ = false := World.rowIs.frozen HZ.out.2.2.1 _
    obtain ⟨v0, hrd⟩ : ∃ v, w4.cell? ⟨g, dn, none⟩ = some v := ⟨_, World.rowIs.cell HZ.out.2.2.1 hd2⟩
    refine held_one (i := 12) (by kernel_rfl) rfl (fun K hK => ?_)
    go_simp
    have HQ := Lib.hid (show Mv W (w4.setCell ⟨g, dn, none⟩ (.int .u32 ((v).toNat : Int))) mb g ∧ (w4.setCell ⟨g, dn, none⟩ (.int .u32 ((v).toNat : Int))).heap[mb]? = some (macO (.slice (some ⟨db, doff, none⟩) 64 dcap) g nr p (s + 1) false 0#32 0) ∧ (w4.setCell ⟨g, dn, none⟩ (.int .u32 ((v).toNat : Int))).rowIs g 33 nr (regF (upd r dn (v))) from ⟨HZ.out.1.setg dn _, (set_otherM hmg).trans HZ.out.2.1, reg_set HZ.out.2.2.1 dn (v)⟩)
    refine hK.out _ _ ⟨HQ.out.2.1, (set_otherM hBg).trans HZ.out.2.2.2⟩ (fun hH2 => ?_)
    clear hK K hH1 hH2 HZ hfz hrd
    (try simp only [Act.put, List.setIfInBounds_toArray, List.set_cons_zero, List.set_cons_succ, List.getElem_toArray, List.getElem_cons_zero, List.getElem_cons_succ])
    refine wpAnyH_done (by kernel_rfl) ?_ _
    generalize w4.setCell ⟨g, dn, none⟩ (.int .u32 ((v).toNat : Int)) = U at HQ ⊢
    have m2 := cellM HQ.out.2.1 2 rfl
    have z2 := frozenM HQ.out.2.1 2
    go_wp2
    go_end0
    refine ⟨rfl, HQ.out.1.setm 2 _, ?_, ?_⟩
    · exact heap_setM HQ.out.2.1 2 (.int .i64 ((p : Int) + 1))
    · exact HQ.out.2.2.of_block (set_otherM hgm)
  · clear hdv hop
    clear hone hP
    rw [HST.out]
    go_enter Tryz.func21, Tryz.ntmps21
    go_upto_region 6 with (go_at_call 47; (with_reducible refine (HA.out _ HM0.out.1 HM0.out.2).mono ?_); rintro e w1 ⟨rfl, hb1⟩; have HW := Lib.hid (HW0.out w1 hb1); clear hb1; have m2 := cellM HW.out.2.1 2 rfl; have m3 := cellM HW.out.2.1 3 rfl; have m1 := cellM HW.out.2.1 1 rfl; have m4 : w1.cell? ⟨mb, 4, none⟩ = some (.bool false) := cellM HW.out.2.1 4 rfl; have m5 : w1.cell? ⟨mb, 5, none⟩ = some (.int .u32 0) := cellM HW.out.2.1 5 rfl; have m6 : w1.cell? ⟨mb, 6, none⟩ = some (.int .i64 0) := cellM HW.out.2.1 6 rfl; have fz := fun i => frozenM HW.out.2.1 i; have z2 := fz 2; have z3 := fz 3; have z4 := fz 4; have z5 := fz 5; have z6 := fz 6; have u0 := cellM HW.out.2.2.2.1 0 rfl; have u1 := cellM HW.out.2.2.2.1 1 rfl; have u5 := cellM HW.out.2.2.2.1 5 rfl; have u6 := cellM HW.out.2.2.2.1 6 rfl; clear fz)
    have HV : Hid (Mv W (w1.setCell ⟨mb, 3, none⟩ (.int .i64 ((s : Int) + 1))) mb g ∧ (w1.setCell ⟨mb, 3, none⟩ (.int .i64 ((s : Int) + 1))).heap[mb]? = some (macO (.slice (some ⟨db, doff, none⟩) 64 dcap) g nr p (s + 1) false 0#32 0) ∧ (w1.setCell ⟨mb, 3, none⟩ (.int .i64 ((s : Int) + 1))).rowIs g 33 nr (regF r) ∧ (w1.setCell ⟨mb, 3, none⟩ (.int .i64 ((s : Int) + 1))).heap[W.heap.size]? = some (irO ⟨10, (dn : Int), (an : Int), (bn : Int), k, t, f⟩) ∧ Bytes64 (w1.setCell ⟨mb, 3, none⟩ (.int .i64 ((s : Int) + 1))) db doff z) := Lib.hid ⟨HW.out.1.setm 3 _, heap_setM HW.out.2.1 3 (.int .i64 ((s : Int) + 1)), HW.out.2.2.1.of_block (set_otherM hgm), (set_otherM hBm).trans HW.out.2.2.2.1, bytes_setM HW.out.2.2.2.2 (bytes_ne HP.out.data HP.out.mac (by show (7 : Nat) ≤ 63; decide)) 3 _⟩
    clear HW m1 m2 m3 m4 m5 m6 z2 z3 z4 z5 z6 u0 u1 u5 u6
    generalize w1.setCell ⟨mb, 3, none⟩ (.int .i64 ((s : Int) + 1)) = V at HV ⊢
    have u0 := cellM HV.out.2.2.2.1 0 rfl
    go_wp2
    clear u0
    refine wp_region_held_drew (S := fun W' => W'.heap[mb]? = some (macO (.slice (some ⟨db, doff, none⟩) 64 dcap) g nr p (s + 1) false 0#32 0) ∧ W'.heap[W.heap.size]? = some (irO ⟨10, (dn : Int), (an : Int), (bn : Int), k, t, f⟩)) (by kernel_rfl) ⟨HV.out.2.1, HV.out.2.2.2.1⟩ (fun hHeld => ?_)
    have HY := Lib.hid (show Mv W V.drew mb g ∧ V.drew.heap[mb]? = some (macO (.slice (some ⟨db, doff, none⟩) 64 dcap) g nr p (s + 1) false 0#32 0) ∧ V.drew.rowIs g 33 nr (regF r) ∧ Bytes64 V.drew db doff z from ⟨HV.out.1.up (below_drawn (Below.refl _ _) 1), HV.out.2.1, HV.out.2.2.1, HV.out.2.2.2.2⟩)
    clear HV
    generalize V.drew = Y at HY hHeld ⊢
    have HH := Lib.hid hHeld
    refine wpAnyH_take (i := 0) (v := ?_) rfl (by kernel_rfl) (by kernel_rfl) (by kernel_rfl) (fun _ _ _ h => h) (Or.inl ⟨by rfl, ?_⟩) (by assumption) ?_
    rotate_left
    · intro wS hSw
      (obtain ⟨i0, i1⟩ := hSw; have a1 := cellM i0 1 rfl; have e0 := cellM i1 0 rfl; have e1 := cellM i1 1 rfl; have e2 := cellM i1 2 rfl; have e3 := cellM i1 3 rfl; have e4 := cellM i1 4 rfl; have e5 := cellM i1 5 rfl; have e6 := cellM i1 6 rfl; clear i0 i1)
      go_simp
      all_goals with_reducible rfl
    (try simp only [List.getElem_toArray, List.getElem_cons_zero, List.getElem_cons_succ, Act.put, List.setIfInBounds_toArray, List.set_cons_zero, List.set_cons_succ])
    refine wpAnyH_take (i := 1) (v := ?_) rfl (by kernel_rfl) (by kernel_rfl) (by kernel_rfl) (fun _ _ _ h => h) (Or.inl ⟨by rfl, ?_⟩) (by assumption) ?_
    rotate_left
    · intro wS hSw
      (obtain ⟨i0, i1⟩ := hSw; have a1 := cellM i0 1 rfl; have e0 := cellM i1 0 rfl; have e1 := cellM i1 1 rfl; have e2 := cellM i1 2 rfl; have e3 := cellM i1 3 rfl; have e4 := cellM i1 4 rfl; have e5 := cellM i1 5 rfl; have e6 := cellM i1 6 rfl; clear i0 i1)
      go_simp
      all_goals with_reducible rfl
    (try simp only [List.getElem_toArray, List.getElem_cons_zero, List.getElem_cons_succ, Act.put, List.setIfInBounds_toArray, List.set_cons_zero, List.set_cons_succ])
    refine wpAnyH_take (i := 2) (v := ?_) rfl (by kernel_rfl) (by kernel_rfl) (by kernel_rfl) (fun _ _ _ h => h) (Or.inl ⟨by rfl, ?_⟩) (by assumption) ?_
    rotate_left
    · intro wS hSw
      (obtain ⟨i0, i1⟩ := hSw; have a1 := cellM i0 1 rfl; have e0 := cellM i1 0 rfl; have e1 := cellM i1 1 rfl; have e2 := cellM i1 2 rfl; have e3 := cellM i1 3 rfl; have e4 := cellM i1 4 rfl; have e5 := cellM i1 5 rfl; have e6 := cellM i1 6 rfl; clear i0 i1)
      go_simp
      all_goals with_reducible rfl
    (try simp only [List.getElem_toArray, List.getElem_cons_zero, List.getElem_cons_succ, Act.put, List.setIfInBounds_toArray, List.set_cons_zero, List.set_cons_succ])
    refine wpAnyH_take (i := 3) (v := ?_) rfl (by kernel_rfl) (by kernel_rfl) (by kernel_rfl) (fun _ _ _ h => h) (Or.inl ⟨by rfl, ?_⟩) (by assumption) ?_
    rotate_left
    · intro wS hSw
      (obtain ⟨i0, i1⟩ := hSw; have a1 := cellM i0 1 rfl; have e0 := cellM i1 0 rfl; have e1 := cellM i1 1 rfl; have e2 := cellM i1 2 rfl; have e3 := cellM i1 3 rfl; have e4 := cellM i1 4 rfl; have e5 := cellM i1 5 rfl; have e6 := cellM i1 6 rfl; clear i0 i1)
      go_simp
      all_goals with_reducible rfl
    (try simp only [List.getElem_toArray, List.getElem_cons_zero, List.getElem_cons_succ, Act.put, List.setIfInBounds_toArray, List.set_cons_zero, List.set_cons_succ])
    refine wpAnyH_take (i := 4) (v := ?_) rfl (by kernel_rfl) (by kernel_rfl) (by kernel_rfl) (fun _ _ _ h => h) (Or.inl ⟨by rfl, ?_⟩) (by assumption) ?_
    rotate_left
    · intro wS hSw
      (obtain ⟨i0, i1⟩ := hSw; have a1 := cellM i0 1 rfl; have e0 := cellM i1 0 rfl; have e1 := cellM i1 1 rfl; have e2 := cellM i1 2 rfl; have e3 := cellM i1 3 rfl; have e4 := cellM i1 4 rfl; have e5 := cellM i1 5 rfl; have e6 := cellM i1 6 rfl; clear i0 i1)
      go_simp
      all_goals with_reducible rfl
    (try simp only [List.getElem_toArray, List.getElem_cons_zero, List.getElem_cons_succ, Act.put, List.setIfInBounds_toArray, List.set_cons_zero, List.set_cons_succ])
    refine wpAnyH_take (i := 5) (v := ?_) rfl (by kernel_rfl) (by kernel_rfl) (by kernel_rfl) (fun _ _ _ h => h) (Or.inl ⟨by rfl, ?_⟩) (by assumption) ?_
    rotate_left
    · intro wS hSw
      (obtain ⟨i0, i1⟩ := hSw; have a1 := cellM i0 1 rfl; have e0 := cellM i1 0 rfl; have e1 := cellM i1 1 rfl; have e2 := cellM i1 2 rfl; have e3 := cellM i1 3 rfl; have e4 := cellM i1 4 rfl; have e5 := cellM i1 5 rfl; have e6 := cellM i1 6 rfl; clear i0 i1)
      go_simp
      all_goals with_reducible rfl
    (try simp only [List.getElem_toArray, List.getElem_cons_zero, List.getElem_cons_succ, Act.put, List.setIfInBounds_toArray, List.set_cons_zero, List.set_cons_succ])
    refine wpAnyH_take (i := 6) (v := ?_) rfl (by kernel_rfl) (by kernel_rfl) (by kernel_rfl) (fun _ _ _ h => h) (Or.inl ⟨by rfl, ?_⟩) (by assumption) ?_
    rotate_left
    · intro wS hSw
      (obtain ⟨i0, i1⟩ := hSw; have a1 := cellM i0 1 rfl; have e0 := cellM i1 0 rfl; have e1 := cellM i1 1 rfl; have e2 := cellM i1 2 rfl; have e3 := cellM i1 3 rfl; have e4 := cellM i1 4 rfl; have e5 := cellM i1 5 rfl; have e6 := cellM i1 6 rfl; clear i0 i1)
      go_simp
      all_goals with_reducible rfl
    (try simp only [List.getElem_toArray, List.getElem_cons_zero, List.getElem_cons_succ, Act.put, List.setIfInBounds_toArray, List.set_cons_zero, List.set_cons_succ])
    refine wpAnyH_take (i := 7) (v := ?_) rfl (by kernel_rfl) (by kernel_rfl) (by kernel_rfl) (fun _ _ _ h => h) (Or.inl ⟨by rfl, ?_⟩) (by assumption) ?_
    rotate_left
    · intro wS hSw
      (obtain ⟨i0, i1⟩ := hSw; have a1 := cellM i0 1 rfl; have e0 := cellM i1 0 rfl; have e1 := cellM i1 1 rfl; have e2 := cellM i1 2 rfl; have e3 := cellM i1 3 rfl; have e4 := cellM i1 4 rfl; have e5 := cellM i1 5 rfl; have e6 := cellM i1 6 rfl; clear i0 i1)
      go_simp
      all_goals with_reducible rfl
    (try simp only [List.getElem_toArray, List.getElem_cons_zero, List.getElem_cons_succ, Act.put, List.setIfInBounds_toArray, List.set_cons_zero, List.set_cons_succ])
    refine wpAnyH_take (i := 8) (v := ?_) rfl (by kernel_rfl) (by kernel_rfl) (by kernel_rfl) (fun _ _ _ h => h) (Or.inl ⟨by rfl, ?_⟩) (by assumption) ?_
    rotate_left
    · intro wS hSw
      (obtain ⟨i0, i1⟩ := hSw; have a1 := cellM i0 1 rfl; have e0 := cellM i1 0 rfl; have e1 := cellM i1 1 rfl; have e2 := cellM i1 2 rfl; have e3 := cellM i1 3 rfl; have e4 := cellM i1 4 rfl; have e5 := cellM i1 5 rfl; have e6 := cellM i1 6 rfl; clear i0 i1)
      go_simp
      all_goals with_reducible rfl
    (try simp only [List.getElem_toArray, List.getElem_cons_zero, List.getElem_cons_succ, Act.put, List.setIfInBounds_toArray, List.set_cons_zero, List.set_cons_succ])
    refine wpAnyH_take (i := 9) (v := ?_) rfl (by kernel_rfl) (by kernel_rfl) (by kernel_rfl) (fun _ _ _ h => h) (Or.inl ⟨by rfl, ?_⟩) (by assumption) ?_
    rotate_left
    · intro wS hSw
      (obtain ⟨i0, i1⟩ := hSw; have a1 := cellM i0 1 rfl; have e0 := cellM i1 0 rfl; have e1 := cellM i1 1 rfl; have e2 := cellM i1 2 rfl; have e3 := cellM i1 3 rfl; have e4 := cellM i1 4 rfl; have e5 := cellM i1 5 rfl; have e6 := cellM i1 6 rfl; clear i0 i1)
      go_simp
      all_goals with_reducible rfl
    (try simp only [List.getElem_toArray, List.getElem_cons_zero, List.getElem_cons_succ, Act.put, List.setIfInBounds_toArray, List.set_cons_zero, List.set_cons_succ])
    refine held_one (i := 10) (by kernel_rfl) rfl (fun K hK => ?_)
    go_simp
    go_at_call 49
    refine (HRS.out _ _ HY.out.2.1 HY.out.2.2.2).mono ?_
    rintro e w4 ⟨rfl, hb4⟩
    have HZ := Lib.hid (show Mv W w4 mb g ∧ w4.heap[mb]? = some (macO (.slice (some ⟨db, doff, none⟩) 64 dcap) g nr p (s + 1) false 0#32 0) ∧ w4.rowIs g 33 nr (regF r) ∧ w4.heap[W.heap.size]? = some (irO ⟨10, (dn : Int), (an : Int), (bn : Int), k, t, f⟩) from ⟨HY.out.1.up hb4, keepM HY.out.2.1 hb4, rowIs_below HY.out.2.2.1 hb4 HY.out.2.2.1.lt, keepM HH.out.2 hb4⟩)
    refine hK.out _ _ ⟨HZ.out.2.1, HZ.out.2.2.2⟩ (fun hH1 => ?_)
    clear hK K hHeld hb4 HY HH
    (try simp only [Act.put, List.setIfInBounds_toArray, List.set_cons_zero, List.set_cons_succ, List.getElem_toArray, List.getElem_cons_zero, List.getElem_cons_succ])
    refine wpAnyH_take (i := 11) (v := ?_) rfl (by kernel_rfl) (by kernel_rfl) (by kernel_rfl) (fun _ _ _ h => h) (Or.inl ⟨by rfl, ?_⟩) (by assumption) ?_
    rotate_left
    · intro wS hSw
      (skip)
      go_simp
      all_goals with_reducible rfl
    (try simp only [List.getElem_toArray, List.getElem_cons_zero, List.getElem_cons_succ, Act.put, List.setIfInBounds_toArray, List.set_cons_zero, List.set_cons_succ])
    have hfz : w4.frozen? ⟨g, dn, none⟩ = false := World.rowIs.frozen HZ.out.2.2.1 _
    obtain ⟨v0, hrd⟩ : ∃ v, w4.cell? ⟨g, dn, none⟩ = some v := ⟨_, World.rowIs.cell HZ.out.2.2.1 hd2⟩
    refine held_one (i := 12) (by kernel_rfl) rfl (fun K hK => ?_)
    go_simp
    have HQ := Lib.hid (show Mv W (w4.setCell ⟨g, dn, none⟩ (.int .u32 ((v).toNat : Int))) mb g ∧ (w4.setCell ⟨g, dn, none⟩ (.int .u32 ((v).toNat : Int))).heap[mb]? = some (macO (.slice (some ⟨db, doff, none⟩) 64 dcap) g nr p (s + 1) false 0#32 0) ∧ (w4.setCell ⟨g, dn, none⟩ (.int .u32 ((v).toNat : Int))).rowIs g 33 nr (regF (upd r dn (v))) from ⟨HZ.out.1.setg dn _, (set_otherM hmg).trans HZ.out.2.1, reg_set HZ.out.2.2.1 dn (v)⟩)
    refine hK.out _ _ ⟨HQ.out.2.1, (set_otherM hBg).trans HZ.out.2.2.2⟩ (fun hH2 => ?_)
    clear hK K hH1 hH2 HZ hfz hrd
    (try simp only [Act.put, List.setIfInBounds_toArray, List.set_cons_zero, List.set_cons_succ, List.getElem_toArray, List.getElem_cons_zero, List.getElem_cons_succ])
    refine wpAnyH_done (by kernel_rfl) ?_ _
    generalize w4.setCell ⟨g, dn, none⟩ (.int .u32 ((v).toNat : Int)) = U at HQ ⊢
    have m2 := cellM HQ.out.2.1 2 rfl
    have z2 := frozenM HQ.out.2.1 2
    go_wp2
    go_end0
    refine ⟨rfl, HQ.out.1.setm 2 _, ?_, ?_⟩
    · exact heap_setM HQ.out.2.1 2 (.int .i64 ((p : Int) + 1))
    · exact HQ.out.2.2.of_block (set_otherM hgm)
  · clear hdv hop
    clear hone hP
    rw [HST.out]
    go_enter Tryz.func21, Tryz.ntmps21
    go_upto_region 6 with (go_at_call 47; (with_reducible refine (HA.out _ HM0.out.1 HM0.out.2).mono ?_); rintro e w1 ⟨rfl, hb1⟩; have HW := Lib.hid (HW0.out w1 hb1); clear hb1; have m2 := cellM HW.out.2.1 2 rfl; have m3 := cellM HW.out.2.1 3 rfl; have m1 := cellM HW.out.2.1 1 rfl; have m4 : w1.cell? ⟨mb, 4, none⟩ = some (.bool false) := cellM HW.out.2.1 4 rfl; have m5 : w1.cell? ⟨mb, 5, none⟩ = some (.int .u32 0) := cellM HW.out.2.1 5 rfl; have m6 : w1.cell? ⟨mb, 6, none⟩ = some (.int .i64 0) := cellM HW.out.2.1 6 rfl; have fz := fun i => frozenM HW.out.2.1 i; have z2 := fz 2; have z3 := fz 3; have z4 := fz 4; have z5 := fz 5; have z6 := fz 6; have u0 := cellM HW.out.2.2.2.1 0 rfl; have u1 := cellM HW.out.2.2.2.1 1 rfl; have u5 := cellM HW.out.2.2.2.1 5 rfl; have u6 := cellM HW.out.2.2.2.1 6 rfl; clear fz)
    have HV : Hid (Mv W (w1.setCell ⟨mb, 3, none⟩ (.int .i64 ((s : Int) + 1))) mb g ∧ (w1.setCell ⟨mb, 3, none⟩ (.int .i64 ((s : Int) + 1))).heap[mb]? = some (macO (.slice (some ⟨db, doff, none⟩) 64 dcap) g nr p (s + 1) false 0#32 0) ∧ (w1.setCell ⟨mb, 3, none⟩ (.int .i64 ((s : Int) + 1))).rowIs g 33 nr (regF r) ∧ (w1.setCell ⟨mb, 3, none⟩ (.int .i64 ((s : Int) + 1))).heap[W.heap.size]? = some (irO ⟨11, (dn : Int), (an : Int), (bn : Int), k, t, f⟩) ∧ Bytes64 (w1.setCell ⟨mb, 3, none⟩ (.int .i64 ((s : Int) + 1))) db doff z) := Lib.hid ⟨HW.out.1.setm 3 _, heap_setM HW.out.2.1 3 (.int .i64 ((s : Int) + 1)), HW.out.2.2.1.of_block (set_otherM hgm), (set_otherM hBm).trans HW.out.2.2.2.1, bytes_setM HW.out.2.2.2.2 (bytes_ne HP.out.data HP.out.mac (by show (7 : Nat) ≤ 63; decide)) 3 _⟩
    clear HW m1 m2 m3 m4 m5 m6 z2 z3 z4 z5 z6 u0 u1 u5 u6
    generalize w1.setCell ⟨mb, 3, none⟩ (.int .i64 ((s : Int) + 1)) = V at HV ⊢
    have u0 := cellM HV.out.2.2.2.1 0 rfl
    go_wp2
    clear u0
    refine wp_region_held_drew (S := fun W' => W'.heap[mb]? = some (macO (.slice (some ⟨db, doff, none⟩) 64 dcap) g nr p (s + 1) false 0#32 0) ∧ W'.heap[W.heap.size]? = some (irO ⟨11, (dn : Int), (an : Int), (bn : Int), k, t, f⟩)) (by kernel_rfl) ⟨HV.out.2.1, HV.out.2.2.2.1⟩ (fun hHeld => ?_)
    have HY := Lib.hid (show Mv W V.drew mb g ∧ V.drew.heap[mb]? = some (macO (.slice (some ⟨db, doff, none⟩) 64 dcap) g nr p (s + 1) false 0#32 0) ∧ V.drew.rowIs g 33 nr (regF r) ∧ Bytes64 V.drew db doff z from ⟨HV.out.1.up (below_drawn (Below.refl _ _) 1), HV.out.2.1, HV.out.2.2.1, HV.out.2.2.2.2⟩)
    clear HV
    generalize V.drew = Y at HY hHeld ⊢
    have HH := Lib.hid hHeld
    refine wpAnyH_take (i := 0) (v := ?_) rfl (by kernel_rfl) (by kernel_rfl) (by kernel_rfl) (fun _ _ _ h => h) (Or.inl ⟨by rfl, ?_⟩) (by assumption) ?_
    rotate_left
    · intro wS hSw
      (obtain ⟨i0, i1⟩ := hSw; have a1 := cellM i0 1 rfl; have e0 := cellM i1 0 rfl; have e1 := cellM i1 1 rfl; have e2 := cellM i1 2 rfl; have e3 := cellM i1 3 rfl; have e4 := cellM i1 4 rfl; have e5 := cellM i1 5 rfl; have e6 := cellM i1 6 rfl; clear i0 i1)
      go_simp
      all_goals with_reducible rfl
    (try simp only [List.getElem_toArray, List.getElem_cons_zero, List.getElem_cons_succ, Act.put, List.setIfInBounds_toArray, List.set_cons_zero, List.set_cons_succ])
    refine wpAnyH_take (i := 1) (v := ?_) rfl (by kernel_rfl) (by kernel_rfl) (by kernel_rfl) (fun _ _ _ h => h) (Or.inl ⟨by rfl, ?_⟩) (by assumption) ?_
    rotate_left
    · intro wS hSw
      (obtain ⟨i0, i1⟩ := hSw; have a1 := cellM i0 1 rfl; have e0 := cellM i1 0 rfl; have e1 := cellM i1 1 rfl; have e2 := cellM i1 2 rfl; have e3 := cellM i1 3 rfl; have e4 := cellM i1 4 rfl; have e5 := cellM i1 5 rfl; have e6 := cellM i1 6 rfl; clear i0 i1)
      go_simp
      all_goals with_reducible rfl
    (try simp only [List.getElem_toArray, List.getElem_cons_zero, List.getElem_cons_succ, Act.put, List.setIfInBounds_toArray, List.set_cons_zero, List.set_cons_succ])
    refine wpAnyH_take (i := 2) (v := ?_) rfl (by kernel_rfl) (by kernel_rfl) (by kernel_rfl) (fun _ _ _ h => h) (Or.inl ⟨by rfl, ?_⟩) (by assumption) ?_
    rotate_left
    · intro wS hSw
      (obtain ⟨i0, i1⟩ := hSw; have a1 := cellM i0 1 rfl; have e0 := cellM i1 0 rfl; have e1 := cellM i1 1 rfl; have e2 := cellM i1 2 rfl; have e3 := cellM i1 3 rfl; have e4 := cellM i1 4 rfl; have e5 := cellM i1 5 rfl; have e6 := cellM i1 6 rfl; clear i0 i1)
      go_simp
      all_goals with_reducible rfl
    (try simp only [List.getElem_toArray, List.getElem_cons_zero, List.getElem_cons_succ, Act.put, List.setIfInBounds_toArray, List.set_cons_zero, List.set_cons_succ])
    refine wpAnyH_take (i := 3) (v := ?_) rfl (by kernel_rfl) (by kernel_rfl) (by kernel_rfl) (fun _ _ _ h => h) (Or.inl ⟨by rfl, ?_⟩) (by assumption) ?_
    rotate_left
    · intro wS hSw
      (obtain ⟨i0, i1⟩ := hSw; have a1 := cellM i0 1 rfl; have e0 := cellM i1 0 rfl; have e1 := cellM i1 1 rfl; have e2 := cellM i1 2 rfl; have e3 := cellM i1 3 rfl; have e4 := cellM i1 4 rfl; have e5 := cellM i1 5 rfl; have e6 := cellM i1 6 rfl; clear i0 i1)
      go_simp
      all_goals with_reducible rfl
    (try simp only [List.getElem_toArray, List.getElem_cons_zero, List.getElem_cons_succ, Act.put, List.setIfInBounds_toArray, List.set_cons_zero, List.set_cons_succ])
    refine wpAnyH_take (i := 4) (v := ?_) rfl (by kernel_rfl) (by kernel_rfl) (by kernel_rfl) (fun _ _ _ h => h) (Or.inl ⟨by rfl, ?_⟩) (by assumption) ?_
    rotate_left
    · intro wS hSw
      (obtain ⟨i0, i1⟩ := hSw; have a1 := cellM i0 1 rfl; have e0 := cellM i1 0 rfl; have e1 := cellM i1 1 rfl; have e2 := cellM i1 2 rfl; have e3 := cellM i1 3 rfl; have e4 := cellM i1 4 rfl; have e5 := cellM i1 5 rfl; have e6 := cellM i1 6 rfl; clear i0 i1)
      go_simp
      all_goals with_reducible rfl
    (try simp only [List.getElem_toArray, List.getElem_cons_zero, List.getElem_cons_succ, Act.put, List.setIfInBounds_toArray, List.set_cons_zero, List.set_cons_succ])
    refine wpAnyH_take (i := 5) (v := ?_) rfl (by kernel_rfl) (by kernel_rfl) (by kernel_rfl) (fun _ _ _ h => h) (Or.inl ⟨by rfl, ?_⟩) (by assumption) ?_
    rotate_left
    · intro wS hSw
      (obtain ⟨i0, i1⟩ := hSw; have a1 := cellM i0 1 rfl; have e0 := cellM i1 0 rfl; have e1 := cellM i1 1 rfl; have e2 := cellM i1 2 rfl; have e3 := cellM i1 3 rfl; have e4 := cellM i1 4 rfl; have e5 := cellM i1 5 rfl; have e6 := cellM i1 6 rfl; clear i0 i1)
      go_simp
      all_goals with_reducible rfl
    (try simp only [List.getElem_toArray, List.getElem_cons_zero, List.getElem_cons_succ, Act.put, List.setIfInBounds_toArray, List.set_cons_zero, List.set_cons_succ])
    refine wpAnyH_take (i := 6) (v := ?_) rfl (by kernel_rfl) (by kernel_rfl) (by kernel_rfl) (fun _ _ _ h => h) (Or.inl ⟨by rfl, ?_⟩) (by assumption) ?_
    rotate_left
    · intro wS hSw
      (obtain ⟨i0, i1⟩ := hSw; have a1 := cellM i0 1 rfl; have e0 := cellM i1 0 rfl; have e1 := cellM i1 1 rfl; have e2 := cellM i1 2 rfl; have e3 := cellM i1 3 rfl; have e4 := cellM i1 4 rfl; have e5 := cellM i1 5 rfl; have e6 := cellM i1 6 rfl; clear i0 i1)
      go_simp
      all_goals with_reducible rfl
    (try simp only [List.getElem_toArray, List.getElem_cons_zero, List.getElem_cons_succ, Act.put, List.setIfInBounds_toArray, List.set_cons_zero, List.set_cons_succ])
    refine wpAnyH_take (i := 7) (v := ?_) rfl (by kernel_rfl) (by kernel_rfl) (by kernel_rfl) (fun _ _ _ h => h) (Or.inl ⟨by rfl, ?_⟩) (by assumption) ?_
    rotate_left
    · intro wS hSw
      (obtain ⟨i0, i1⟩ := hSw; have a1 := cellM i0 1 rfl; have e0 := cellM i1 0 rfl; have e1 := cellM i1 1 rfl; have e2 := cellM i1 2 rfl; have e3 := cellM i1 3 rfl; have e4 := cellM i1 4 rfl; have e5 := cellM i1 5 rfl; have e6 := cellM i1 6 rfl; clear i0 i1)
      go_simp
      all_goals with_reducible rfl
    (try simp only [List.getElem_toArray, List.getElem_cons_zero, List.getElem_cons_succ, Act.put, List.setIfInBounds_toArray, List.set_cons_zero, List.set_cons_succ])
    refine wpAnyH_take (i := 8) (v := ?_) rfl (by kernel_rfl) (by kernel_rfl) (by kernel_rfl) (fun _ _ _ h => h) (Or.inl ⟨by rfl, ?_⟩) (by assumption) ?_
    rotate_left
    · intro wS hSw
      (obtain ⟨i0, i1⟩ := hSw; have a1 := cellM i0 1 rfl; have e0 := cellM i1 0 rfl; have e1 := cellM i1 1 rfl; have e2 := cellM i1 2 rfl; have e3 := cellM i1 3 rfl; have e4 := cellM i1 4 rfl; have e5 := cellM i1 5 rfl; have e6 := cellM i1 6 rfl; clear i0 i1)
      go_simp
      all_goals with_reducible rfl
    (try simp only [List.getElem_toArray, List.getElem_cons_zero, List.getElem_cons_succ, Act.put, List.setIfInBounds_toArray, List.set_cons_zero, List.set_cons_succ])
    refine wpAnyH_take (i := 9) (v := ?_) rfl (by kernel_rfl) (by kernel_rfl) (by kernel_rfl) (fun _ _ _ h => h) (Or.inl ⟨by rfl, ?_⟩) (by assumption) ?_
    rotate_left
    · intro wS hSw
      (obtain ⟨i0, i1⟩ := hSw; have a1 := cellM i0 1 rfl; have e0 := cellM i1 0 rfl; have e1 := cellM i1 1 rfl; have e2 := cellM i1 2 rfl; have e3 := cellM i1 3 rfl; have e4 := cellM i1 4 rfl; have e5 := cellM i1 5 rfl; have e6 := cellM i1 6 rfl; clear i0 i1)
      go_simp
      all_goals with_reducible rfl
    (try simp only [List.getElem_toArray, List.getElem_cons_zero, List.getElem_cons_succ, Act.put, List.setIfInBounds_toArray, List.set_cons_zero, List.set_cons_succ])
    refine held_one (i := 10) (by kernel_rfl) rfl (fun K hK => ?_)
    go_simp
    go_at_call 49
    refine (HRS.out _ _ HY.out.2.1 HY.out.2.2.2).mono ?_
    rintro e w4 ⟨rfl, hb4⟩
    have HZ := Lib.hid (show Mv W w4 mb g ∧ w4.heap[mb]? = some (macO (.slice (some ⟨db, doff, none⟩) 64 dcap) g nr p (s + 1) false 0#32 0) ∧ w4.rowIs g 33 nr (regF r) ∧ w4.heap[W.heap.size]? = some (irO ⟨11, (dn : Int), (an : Int), (bn : Int), k, t, f⟩) from ⟨HY.out.1.up hb4, keepM HY.out.2.1 hb4, rowIs_below HY.out.2.2.1 hb4 HY.out.2.2.1.lt, keepM HH.out.2 hb4⟩)
    refine hK.out _ _ ⟨HZ.out.2.1, HZ.out.2.2.2⟩ (fun hH1 => ?_)
    clear hK K hHeld hb4 HY HH
    (try simp only [Act.put, List.setIfInBounds_toArray, List.set_cons_zero, List.set_cons_succ, List.getElem_toArray, List.getElem_cons_zero, List.getElem_cons_succ])
    refine wpAnyH_take (i := 11) (v := ?_) rfl (by kernel_rfl) (by kernel_rfl) (by kernel_rfl) (fun _ _ _ h => h) (Or.inl ⟨by rfl, ?_⟩) (by assumption) ?_
    rotate_left
    · intro wS hSw
      (skip)
      go_simp
      all_goals with_reducible rfl
    (try simp only [List.getElem_toArray, List.getElem_cons_zero, List.getElem_cons_succ, Act.put, List.setIfInBounds_toArray, List.set_cons_zero, List.set_cons_succ])
    have hfz : w4.frozen? ⟨g, dn, none⟩ = false := World.rowIs.frozen HZ.out.2.2.1 _
    obtain ⟨v0, hrd⟩ : ∃ v, w4.cell? ⟨g, dn, none⟩ = some v := ⟨_, World.rowIs.cell HZ.out.2.2.1 hd2⟩
    refine held_one (i := 12) (by kernel_rfl) rfl (fun K hK => ?_)
    go_simp
    have HQ := Lib.hid (show Mv W (w4.setCell ⟨g, dn, none⟩ (.int .u32 ((v).toNat : Int))) mb g ∧ (w4.setCell ⟨g, dn, none⟩ (.int .u32 ((v).toNat : Int))).heap[mb]? = some (macO (.slice (some ⟨db, doff, none⟩) 64 dcap) g nr p (s + 1) false 0#32 0) ∧ (w4.setCell ⟨g, dn, none⟩ (.int .u32 ((v).toNat : Int))).rowIs g 33 nr (regF (upd r dn (v))) from ⟨HZ.out.1.setg dn _, (set_otherM hmg).trans HZ.out.2.1, reg_set HZ.out.2.2.1 dn (v)⟩)
    refine hK.out _ _ ⟨HQ.out.2.1, (set_otherM hBg).trans HZ.out.2.2.2⟩ (fun hH2 => ?_)
    clear hK K hH1 hH2 HZ hfz hrd
    (try simp only [Act.put, List.setIfInBounds_toArray, List.set_cons_zero, List.set_cons_succ, List.getElem_toArray, List.getElem_cons_zero, List.getElem_cons_succ])
    refine wpAnyH_done (by kernel_rfl) ?_ _
    generalize w4.setCell ⟨g, dn, none⟩ (.int .u32 ((v).toNat : Int)) = U at HQ ⊢
    have m2 := cellM HQ.out.2.1 2 rfl
    have z2 := frozenM HQ.out.2.1 2
    go_wp2
    go_end0
    refine ⟨rfl, HQ.out.1.setm 2 _, ?_, ?_⟩
    · exact heap_setM HQ.out.2.1 2 (.int .i64 ((p : Int) + 1))
    · exact HQ.out.2.2.of_block (set_otherM hgm)
  · clear hdv hop
    clear hone hP
    rw [HST.out]
    go_enter Tryz.func21, Tryz.ntmps21
    go_upto_region 6 with (go_at_call 47; (with_reducible refine (HA.out _ HM0.out.1 HM0.out.2).mono ?_); rintro e w1 ⟨rfl, hb1⟩; have HW := Lib.hid (HW0.out w1 hb1); clear hb1; have m2 := cellM HW.out.2.1 2 rfl; have m3 := cellM HW.out.2.1 3 rfl; have m1 := cellM HW.out.2.1 1 rfl; have m4 : w1.cell? ⟨mb, 4, none⟩ = some (.bool false) := cellM HW.out.2.1 4 rfl; have m5 : w1.cell? ⟨mb, 5, none⟩ = some (.int .u32 0) := cellM HW.out.2.1 5 rfl; have m6 : w1.cell? ⟨mb, 6, none⟩ = some (.int .i64 0) := cellM HW.out.2.1 6 rfl; have fz := fun i => frozenM HW.out.2.1 i; have z2 := fz 2; have z3 := fz 3; have z4 := fz 4; have z5 := fz 5; have z6 := fz 6; have u0 := cellM HW.out.2.2.2.1 0 rfl; have u1 := cellM HW.out.2.2.2.1 1 rfl; have u5 := cellM HW.out.2.2.2.1 5 rfl; have u6 := cellM HW.out.2.2.2.1 6 rfl; clear fz)
    have HV : Hid (Mv W (w1.setCell ⟨mb, 3, none⟩ (.int .i64 ((s : Int) + 1))) mb g ∧ (w1.setCell ⟨mb, 3, none⟩ (.int .i64 ((s : Int) + 1))).heap[mb]? = some (macO (.slice (some ⟨db, doff, none⟩) 64 dcap) g nr p (s + 1) false 0#32 0) ∧ (w1.setCell ⟨mb, 3, none⟩ (.int .i64 ((s : Int) + 1))).rowIs g 33 nr (regF r) ∧ (w1.setCell ⟨mb, 3, none⟩ (.int .i64 ((s : Int) + 1))).heap[W.heap.size]? = some (irO ⟨12, (dn : Int), (an : Int), (bn : Int), k, t, f⟩) ∧ Bytes64 (w1.setCell ⟨mb, 3, none⟩ (.int .i64 ((s : Int) + 1))) db doff z) := Lib.hid ⟨HW.out.1.setm 3 _, heap_setM HW.out.2.1 3 (.int .i64 ((s : Int) + 1)), HW.out.2.2.1.of_block (set_otherM hgm), (set_otherM hBm).trans HW.out.2.2.2.1, bytes_setM HW.out.2.2.2.2 (bytes_ne HP.out.data HP.out.mac (by show (7 : Nat) ≤ 63; decide)) 3 _⟩
    clear HW m1 m2 m3 m4 m5 m6 z2 z3 z4 z5 z6 u0 u1 u5 u6
    generalize w1.setCell ⟨mb, 3, none⟩ (.int .i64 ((s : Int) + 1)) = V at HV ⊢
    have u0 := cellM HV.out.2.2.2.1 0 rfl
    go_wp2
    clear u0
    refine wp_region_held_drew (S := fun W' => W'.heap[mb]? = some (macO (.slice (some ⟨db, doff, none⟩) 64 dcap) g nr p (s + 1) false 0#32 0) ∧ W'.heap[W.heap.size]? = some (irO ⟨12, (dn : Int), (an : Int), (bn : Int), k, t, f⟩)) (by kernel_rfl) ⟨HV.out.2.1, HV.out.2.2.2.1⟩ (fun hHeld => ?_)
    have HY := Lib.hid (show Mv W V.drew mb g ∧ V.drew.heap[mb]? = some (macO (.slice (some ⟨db, doff, none⟩) 64 dcap) g nr p (s + 1) false 0#32 0) ∧ V.drew.rowIs g 33 nr (regF r) ∧ Bytes64 V.drew db doff z from ⟨HV.out.1.up (below_drawn (Below.refl _ _) 1), HV.out.2.1, HV.out.2.2.1, HV.out.2.2.2.2⟩)
    clear HV
    generalize V.drew = Y at HY hHeld ⊢
    have HH := Lib.hid hHeld
    refine wpAnyH_take (i := 0) (v := ?_) rfl (by kernel_rfl) (by kernel_rfl) (by kernel_rfl) (fun _ _ _ h => h) (Or.inl ⟨by rfl, ?_⟩) (by assumption) ?_
    rotate_left
    · intro wS hSw
      (obtain ⟨i0, i1⟩ := hSw; have a1 := cellM i0 1 rfl; have e0 := cellM i1 0 rfl; have e1 := cellM i1 1 rfl; have e2 := cellM i1 2 rfl; have e3 := cellM i1 3 rfl; have e4 := cellM i1 4 rfl; have e5 := cellM i1 5 rfl; have e6 := cellM i1 6 rfl; clear i0 i1)
      go_simp
      all_goals with_reducible rfl
    (try simp only [List.getElem_toArray, List.getElem_cons_zero, List.getElem_cons_succ, Act.put, List.setIfInBounds_toArray, List.set_cons_zero, List.set_cons_succ])
    refine wpAnyH_take (i := 1) (v := ?_) rfl (by kernel_rfl) (by kernel_rfl) (by kernel_rfl) (fun _ _ _ h => h) (Or.inl ⟨by rfl, ?_⟩) (by assumption) ?_
    rotate_left
    · intro wS hSw
      (obtain ⟨i0, i1⟩ := hSw; have a1 := cellM i0 1 rfl; have e0 := cellM i1 0 rfl; have e1 := cellM i1 1 rfl; have e2 := cellM i1 2 rfl; have e3 := cellM i1 3 rfl; have e4 := cellM i1 4 rfl; have e5 := cellM i1 5 rfl; have e6 := cellM i1 6 rfl; clear i0 i1)
      go_simp
      all_goals with_reducible rfl
    (try simp only [List.getElem_toArray, List.getElem_cons_zero, List.getElem_cons_succ, Act.put, List.setIfInBounds_toArray, List.set_cons_zero, List.set_cons_succ])
    refine wpAnyH_take (i := 2) (v := ?_) rfl (by kernel_rfl) (by kernel_rfl) (by kernel_rfl) (fun _ _ _ h => h) (Or.inl ⟨by rfl, ?_⟩) (by assumption) ?_
    rotate_left
    · intro wS hSw
      (obtain ⟨i0, i1⟩ := hSw; have a1 := cellM i0 1 rfl; have e0 := cellM i1 0 rfl; have e1 := cellM i1 1 rfl; have e2 := cellM i1 2 rfl; have e3 := cellM i1 3 rfl; have e4 := cellM i1 4 rfl; have e5 := cellM i1 5 rfl; have e6 := cellM i1 6 rfl; clear i0 i1)
      go_simp
      all_goals with_reducible rfl
    (try simp only [List.getElem_toArray, List.getElem_cons_zero, List.getElem_cons_succ, Act.put, List.setIfInBounds_toArray, List.set_cons_zero, List.set_cons_succ])
    refine wpAnyH_take (i := 3) (v := ?_) rfl (by kernel_rfl) (by kernel_rfl) (by kernel_rfl) (fun _ _ _ h => h) (Or.inl ⟨by rfl, ?_⟩) (by assumption) ?_
    rotate_left
    · intro wS hSw
      (obtain ⟨i0, i1⟩ := hSw; have a1 := cellM i0 1 rfl; have e0 := cellM i1 0 rfl; have e1 := cellM i1 1 rfl; have e2 := cellM i1 2 rfl; have e3 := cellM i1 3 rfl; have e4 := cellM i1 4 rfl; have e5 := cellM i1 5 rfl; have e6 := cellM i1 6 rfl; clear i0 i1)
      go_simp
      all_goals with_reducible rfl
    (try simp only [List.getElem_toArray, List.getElem_cons_zero, List.getElem_cons_succ, Act.put, List.setIfInBounds_toArray, List.set_cons_zero, List.set_cons_succ])
    refine wpAnyH_take (i := 4) (v := ?_) rfl (by kernel_rfl) (by kernel_rfl) (by kernel_rfl) (fun _ _ _ h => h) (Or.inl ⟨by rfl, ?_⟩) (by assumption) ?_
    rotate_left
    · intro wS hSw
      (obtain ⟨i0, i1⟩ := hSw; have a1 := cellM i0 1 rfl; have e0 := cellM i1 0 rfl; have e1 := cellM i1 1 rfl; have e2 := cellM i1 2 rfl; have e3 := cellM i1 3 rfl; have e4 := cellM i1 4 rfl; have e5 := cellM i1 5 rfl; have e6 := cellM i1 6 rfl; clear i0 i1)
      go_simp
      all_goals with_reducible rfl
    (try simp only [List.getElem_toArray, List.getElem_cons_zero, List.getElem_cons_succ, Act.put, List.setIfInBounds_toArray, List.set_cons_zero, List.set_cons_succ])
    refine wpAnyH_take (i := 5) (v := ?_) rfl (by kernel_rfl) (by kernel_rfl) (by kernel_rfl) (fun _ _ _ h => h) (Or.inl ⟨by rfl, ?_⟩) (by assumption) ?_
    rotate_left
    · intro wS hSw
      (obtain ⟨i0, i1⟩ := hSw; have a1 := cellM i0 1 rfl; have e0 := cellM i1 0 rfl; have e1 := cellM i1 1 rfl; have e2 := cellM i1 2 rfl; have e3 := cellM i1 3 rfl; have e4 := cellM i1 4 rfl; have e5 := cellM i1 5 rfl; have e6 := cellM i1 6 rfl; clear i0 i1)
      go_simp
      all_goals with_reducible rfl
    (try simp only [List.getElem_toArray, List.getElem_cons_zero, List.getElem_cons_succ, Act.put, List.setIfInBounds_toArray, List.set_cons_zero, List.set_cons_succ])
    refine wpAnyH_take (i := 6) (v := ?_) rfl (by kernel_rfl) (by kernel_rfl) (by kernel_rfl) (fun _ _ _ h => h) (Or.inl ⟨by rfl, ?_⟩) (by assumption) ?_
    rotate_left
    · intro wS hSw
      (obtain ⟨i0, i1⟩ := hSw; have a1 := cellM i0 1 rfl; have e0 := cellM i1 0 rfl; have e1 := cellM i1 1 rfl; have e2 := cellM i1 2 rfl; have e3 := cellM i1 3 rfl; have e4 := cellM i1 4 rfl; have e5 := cellM i1 5 rfl; have e6 := cellM i1 6 rfl; clear i0 i1)
      go_simp
      all_goals with_reducible rfl
    (try simp only [List.getElem_toArray, List.getElem_cons_zero, List.getElem_cons_succ, Act.put, List.setIfInBounds_toArray, List.set_cons_zero, List.set_cons_succ])
    refine wpAnyH_take (i := 7) (v := ?_) rfl (by kernel_rfl) (by kernel_rfl) (by kernel_rfl) (fun _ _ _ h => h) (Or.inl ⟨by rfl, ?_⟩) (by assumption) ?_
    rotate_left
    · intro wS hSw
      (obtain ⟨i0, i1⟩ := hSw; have a1 := cellM i0 1 rfl; have e0 := cellM i1 0 rfl; have e1 := cellM i1 1 rfl; have e2 := cellM i1 2 rfl; have e3 := cellM i1 3 rfl; have e4 := cellM i1 4 rfl; have e5 := cellM i1 5 rfl; have e6 := cellM i1 6 rfl; clear i0 i1)
      go_simp
      all_goals with_reducible rfl
    (try simp only [List.getElem_toArray, List.getElem_cons_zero, List.getElem_cons_succ, Act.put, List.setIfInBounds_toArray, List.set_cons_zero, List.set_cons_succ])
    refine wpAnyH_take (i := 8) (v := ?_) rfl (by kernel_rfl) (by kernel_rfl) (by kernel_rfl) (fun _ _ _ h => h) (Or.inl ⟨by rfl, ?_⟩) (by assumption) ?_
    rotate_left
    · intro wS hSw
      (obtain ⟨i0, i1⟩ := hSw; have a1 := cellM i0 1 rfl; have e0 := cellM i1 0 rfl; have e1 := cellM i1 1 rfl; have e2 := cellM i1 2 rfl; have e3 := cellM i1 3 rfl; have e4 := cellM i1 4 rfl; have e5 := cellM i1 5 rfl; have e6 := cellM i1 6 rfl; clear i0 i1)
      go_simp
      all_goals with_reducible rfl
    (try simp only [List.getElem_toArray, List.getElem_cons_zero, List.getElem_cons_succ, Act.put, List.setIfInBounds_toArray, List.set_cons_zero, List.set_cons_succ])
    refine wpAnyH_take (i := 9) (v := ?_) rfl (by kernel_rfl) (by kernel_rfl) (by kernel_rfl) (fun _ _ _ h => h) (Or.inl ⟨by rfl, ?_⟩) (by assumption) ?_
    rotate_left
    · intro wS hSw
      (obtain ⟨i0, i1⟩ := hSw; have a1 := cellM i0 1 rfl; have e0 := cellM i1 0 rfl; have e1 := cellM i1 1 rfl; have e2 := cellM i1 2 rfl; have e3 := cellM i1 3 rfl; have e4 := cellM i1 4 rfl; have e5 := cellM i1 5 rfl; have e6 := cellM i1 6 rfl; clear i0 i1)
      go_simp
      all_goals with_reducible rfl
    (try simp only [List.getElem_toArray, List.getElem_cons_zero, List.getElem_cons_succ, Act.put, List.setIfInBounds_toArray, List.set_cons_zero, List.set_cons_succ])
    refine held_one (i := 10) (by kernel_rfl) rfl (fun K hK => ?_)
    go_simp
    go_at_call 49
    refine (HRS.out _ _ HY.out.2.1 HY.out.2.2.2).mono ?_
    rintro e w4 ⟨rfl, hb4⟩
    have HZ := Lib.hid (show Mv W w4 mb g ∧ w4.heap[mb]? = some (macO (.slice (some ⟨db, doff, none⟩) 64 dcap) g nr p (s + 1) false 0#32 0) ∧ w4.rowIs g 33 nr (regF r) ∧ w4.heap[W.heap.size]? = some (irO ⟨12, (dn : Int), (an : Int), (bn : Int), k, t, f⟩) from ⟨HY.out.1.up hb4, keepM HY.out.2.1 hb4, rowIs_below HY.out.2.2.1 hb4 HY.out.2.2.1.lt, keepM HH.out.2 hb4⟩)
    refine hK.out _ _ ⟨HZ.out.2.1, HZ.out.2.2.2⟩ (fun hH1 => ?_)
    clear hK K hHeld hb4 HY HH
    (try simp only [Act.put, List.setIfInBounds_toArray, List.set_cons_zero, List.set_cons_succ, List.getElem_toArray, List.getElem_cons_zero, List.getElem_cons_succ])
    refine wpAnyH_take (i := 11) (v := ?_) rfl (by kernel_rfl) (by kernel_rfl) (by kernel_rfl) (fun _ _ _ h => h) (Or.inl ⟨by rfl, ?_⟩) (by assumption) ?_
    rotate_left
    · intro wS hSw
      (skip)
      go_simp
      all_goals with_reducible rfl
    (try simp only [List.getElem_toArray, List.getElem_cons_zero, List.getElem_cons_succ, Act.put, List.setIfInBounds_toArray, List.set_cons_zero, List.set_cons_succ])
    have hfz : w4.frozen? ⟨g, dn, none⟩ = false := World.rowIs.frozen HZ.out.2.2.1 _
    obtain ⟨v0, hrd⟩ : ∃ v, w4.cell? ⟨g, dn, none⟩ = some v := ⟨_, World.rowIs.cell HZ.out.2.2.1 hd2⟩
    refine held_one (i := 12) (by kernel_rfl) rfl (fun K hK => ?_)
    go_simp
    have HQ := Lib.hid (show Mv W (w4.setCell ⟨g, dn, none⟩ (.int .u32 ((v).toNat : Int))) mb g ∧ (w4.setCell ⟨g, dn, none⟩ (.int .u32 ((v).toNat : Int))).heap[mb]? = some (macO (.slice (some ⟨db, doff, none⟩) 64 dcap) g nr p (s + 1) false 0#32 0) ∧ (w4.setCell ⟨g, dn, none⟩ (.int .u32 ((v).toNat : Int))).rowIs g 33 nr (regF (upd r dn (v))) from ⟨HZ.out.1.setg dn _, (set_otherM hmg).trans HZ.out.2.1, reg_set HZ.out.2.2.1 dn (v)⟩)
    refine hK.out _ _ ⟨HQ.out.2.1, (set_otherM hBg).trans HZ.out.2.2.2⟩ (fun hH2 => ?_)
    clear hK K hH1 hH2 HZ hfz hrd
    (try simp only [Act.put, List.setIfInBounds_toArray, List.set_cons_zero, List.set_cons_succ, List.getElem_toArray, List.getElem_cons_zero, List.getElem_cons_succ])
    refine wpAnyH_done (by kernel_rfl) ?_ _
    generalize w4.setCell ⟨g, dn, none⟩ (.int .u32 ((v).toNat : Int)) = U at HQ ⊢
    have m2 := cellM HQ.out.2.1 2 rfl
    have z2 := frozenM HQ.out.2.1 2
    go_wp2
    go_end0
    refine ⟨rfl, HQ.out.1.setm 2 _, ?_, ?_⟩
    · exact heap_setM HQ.out.2.1 2 (.int .i64 ((p : Int) + 1))
    · exact HQ.out.2.2.of_block (set_otherM hgm)
set_option maxHeartbeats 16000000 in
set_option maxRecDepth 100000 in
theorem p_step_j (op d a b : Int) (k : BitVec 32) (t f : Int) (W : World) (mb g nr n db doff dcap : Nat) (z : Nat → Int) (p s : Nat) (r : Nat → BitVec 32) (hop : op = 14) (hP : PreM W mb g nr n db doff dcap z p s ⟨op, d, a, b, k, t, f⟩ r) :
    Calls Tryz.prog 21 #[.pointer (some ⟨mb, 0, none⟩), irV ⟨op, d, a, b, k, t, f⟩] W fun e w' => e = .returned (.tuple #[]) ∧ Mv W w' mb g ∧ AftM w' mb g nr (.slice (some ⟨db, doff, none⟩) 64 dcap) p s (stepX ⟨op, d, a, b, k, t, f⟩ (fun i => i) (wordZ z) p r) := by
  subst hop
  have hone := hP.one
  have hsl := hP.steps
  have hpl := hP.places
  obtain ⟨ht0, ht1⟩ := hone.t (by simp [tM] <;> omega)
  simp only at ht0 ht1
  obtain ⟨tn, rfl⟩ : ∃ m : Nat, t = (m : Int) := ⟨t.toNat, by omega⟩
  have HA : Hid (∀ V : World, V.heap[mb]? = some (macO (.slice (some ⟨db, doff, none⟩) 64 dcap) g nr p s false 0#32 0) → V.rowIs g 33 nr (regF r) → Calls Tryz.prog 47 #[.pointer (some ⟨mb, 0, none⟩), irV ⟨14, d, a, b, k, (tn : Int), f⟩] V fun e w' => e = .returned (.tuple #[.int .u32 ((0#32).toNat : Int), .int .u32 ((0#32).toNat : Int)]) ∧ Below V.heap.size V w') := Lib.hid fun V h1 h2 => p_asked_0 14 _ 0 0 a b k _ _ V mb g nr _ p s false 0#32 0 r rfl h1 h2
  have HP := Lib.hid hP
  have hml := (Array.getElem?_eq_some_iff.1 hP.mac).1
  have hgl := hP.row.lt
  have hmg : ¬ mb = g := hP.ne
  have hgm : ¬ g = mb := fun e => hP.ne e.symm
  have hBm : ¬ W.heap.size = mb := by omega
  have hmB : ¬ mb = W.heap.size := by omega
  have hBg : ¬ W.heap.size = g := by omega
  have hgB : ¬ g = W.heap.size := by omega
  have hs1 : IntKind.i64.wrap ((s : Int) + 1) = (s : Int) + 1 := IntWalk.i64_in _ (by omega)
  have hp1 : IntKind.i64.wrap ((p : Int) + 1) = (p : Int) + 1 := IntWalk.i64_in _ (by omega)
  have HW0 : Hid (∀ w1, Below (W.alloc (irO ⟨14, d, a, b, k, (tn : Int), f⟩)).heap.size (W.alloc (irO ⟨14, d, a, b, k, (tn : Int), f⟩)) w1 → Mv W w1 mb g ∧ w1.heap[mb]? = some (macO (.slice (some ⟨db, doff, none⟩) 64 dcap) g nr p s false 0#32 0) ∧ w1.rowIs g 33 nr (regF r) ∧ w1.heap[W.heap.size]? = some (irO ⟨14, d, a, b, k, (tn : Int), f⟩) ∧ Bytes64 w1 db doff z) := Lib.hid fun w1 hb =>
    ⟨(Mv.of (onM (lboxM W _) hb)), keepM (kept_allocM hP.mac _) hb, rowIs_below (rowIs_below hP.row (lboxM W _) hP.row.lt) hb (Nat.lt_of_lt_of_le hP.row.lt (lboxM W _).size), keepM (World.alloc_heap_new W _) hb, (hP.data.below (lboxM W _) hP.data.1).below hb (Nat.lt_of_lt_of_le hP.data.1 (lboxM W _).size)⟩
  have HM0 := Lib.hid (And.intro (kept_allocM hP.mac (irO ⟨14, d, a, b, k, (tn : Int), f⟩)) (rowIs_below hP.row (lboxM W (irO ⟨14, d, a, b, k, (tn : Int), f⟩)) hP.row.lt))
  have HST := Lib.hid (tX_jump (fun i => i) (wordZ z) p r d a b k (tn : Int) f)
  simp only [Int.toNat_natCast] at HST
  clear hone hP
  rw [HST.out]
  go_enter Tryz.func21, Tryz.ntmps21
  go_wp2_with (go_at_call 47; (with_reducible refine (HA.out _ HM0.out.1 HM0.out.2).mono ?_); rintro e w1 ⟨rfl, hb1⟩; have HW := Lib.hid (HW0.out w1 hb1); clear hb1; have m2 := cellM HW.out.2.1 2 rfl; have m3 := cellM HW.out.2.1 3 rfl; have m1 := cellM HW.out.2.1 1 rfl; have m4 : w1.cell? ⟨mb, 4, none⟩ = some (.bool false) := cellM HW.out.2.1 4 rfl; have m5 : w1.cell? ⟨mb, 5, none⟩ = some (.int .u32 0) := cellM HW.out.2.1 5 rfl; have m6 : w1.cell? ⟨mb, 6, none⟩ = some (.int .i64 0) := cellM HW.out.2.1 6 rfl; have fz := fun i => frozenM HW.out.2.1 i; have z2 := fz 2; have z3 := fz 3; have z4 := fz 4; have z5 := fz 5; have z6 := fz 6; have u0 := cellM HW.out.2.2.2.1 0 rfl; have u1 := cellM HW.out.2.2.2.1 1 rfl; have u5 := cellM HW.out.2.2.2.1 5 rfl; have u6 := cellM HW.out.2.2.2.1 6 rfl; clear fz)
  go_end0
  refine ⟨rfl, (HW.out.1.setm 3 _).setm 2 _, ?_, ?_⟩
  · exact heap_setM (heap_setM HW.out.2.1 3 (.int .i64 ((s : Int) + 1))) 2 (.int .i64 (tn : Int))
  · exact (HW.out.2.2.1.of_block (set_otherM hgm)).of_block (set_otherM hgm)
set_option maxHeartbeats 16000000 in
set_option maxRecDepth 100000 in
theorem p_step_i (op d a b : Int) (k : BitVec 32) (t f : Int) (W : World) (mb g nr n db doff dcap : Nat) (z : Nat → Int) (p s : Nat) (r : Nat → BitVec 32) (hop : 15 ≤ op ∧ op ≤ 18) (hP : PreM W mb g nr n db doff dcap z p s ⟨op, d, a, b, k, t, f⟩ r) :
    Calls Tryz.prog 21 #[.pointer (some ⟨mb, 0, none⟩), irV ⟨op, d, a, b, k, t, f⟩] W fun e w' => e = .returned (.tuple #[]) ∧ Mv W w' mb g ∧ AftM w' mb g nr (.slice (some ⟨db, doff, none⟩) 64 dcap) p s (stepX ⟨op, d, a, b, k, t, f⟩ (fun i => i) (wordZ z) p r) := by
  have hone := hP.one
  have hsl := hP.steps
  have hpl := hP.places
  obtain ⟨ha0, ha1⟩ := hone.a (by simp [aM] <;> omega)
  simp only at ha0 ha1
  obtain ⟨an, rfl⟩ : ∃ m : Nat, a = (m : Int) := ⟨a.toNat, by omega⟩
  have ha2 : an < nr := by omega
  have ha3 : (an : Int) < (nr : Int) := by omega
  obtain ⟨hb0, hb1⟩ := hone.b (by simp [bM] <;> omega)
  simp only at hb0 hb1
  obtain ⟨bn, rfl⟩ : ∃ m : Nat, b = (m : Int) := ⟨b.toNat, by omega⟩
  have hb2 : bn < nr := by omega
  have hb3 : (bn : Int) < (nr : Int) := by omega
  obtain ⟨ht0, ht1⟩ := hone.t (by simp [tM] <;> omega)
  simp only at ht0 ht1
  obtain ⟨tn, rfl⟩ : ∃ m : Nat, t = (m : Int) := ⟨t.toNat, by omega⟩
  obtain ⟨hf0, hf1⟩ := hone.f (by simp [fM] <;> omega)
  simp only at hf0 hf1
  obtain ⟨fn, rfl⟩ : ∃ m : Nat, f = (m : Int) := ⟨f.toNat, by omega⟩
  have HA : Hid (∀ V : World, V.heap[mb]? = some (macO (.slice (some ⟨db, doff, none⟩) 64 dcap) g nr p s false 0#32 0) → V.rowIs g 33 nr (regF r) → Calls Tryz.prog 47 #[.pointer (some ⟨mb, 0, none⟩), irV ⟨op, d, (an : Int), (bn : Int), k, (tn : Int), (fn : Int)⟩] V fun e w' => e = .returned (.tuple #[.int .u32 ((r an).toNat : Int), .int .u32 ((r bn).toNat : Int)]) ∧ Below V.heap.size V w') := Lib.hid fun V h1 h2 => p_asked_2 op _ an bn 0 0 k _ _ V mb g nr _ p s false 0#32 0 r (by unfold askN; rw [if_pos (show bM op = true by simp [bM]; omega)]) h1 h2 ha2 hb2
  have HP := Lib.hid hP
  have hml := (Array.getElem?_eq_some_iff.1 hP.mac).1
  have hgl := hP.row.lt
  have hmg : ¬ mb = g := hP.ne
  have hgm : ¬ g = mb := fun e => hP.ne e.symm
  have hBm : ¬ W.heap.size = mb := by omega
  have hmB : ¬ mb = W.heap.size := by omega
  have hBg : ¬ W.heap.size = g := by omega
  have hgB : ¬ g = W.heap.size := by omega
  have hs1 : IntKind.i64.wrap ((s : Int) + 1) = (s : Int) + 1 := IntWalk.i64_in _ (by omega)
  have hp1 : IntKind.i64.wrap ((p : Int) + 1) = (p : Int) + 1 := IntWalk.i64_in _ (by omega)
  have HW0 : Hid (∀ w1, Below (W.alloc (irO ⟨op, d, (an : Int), (bn : Int), k, (tn : Int), (fn : Int)⟩)).heap.size (W.alloc (irO ⟨op, d, (an : Int), (bn : Int), k, (tn : Int), (fn : Int)⟩)) w1 → Mv W w1 mb g ∧ w1.heap[mb]? = some (macO (.slice (some ⟨db, doff, none⟩) 64 dcap) g nr p s false 0#32 0) ∧ w1.rowIs g 33 nr (regF r) ∧ w1.heap[W.heap.size]? = some (irO ⟨op, d, (an : Int), (bn : Int), k, (tn : Int), (fn : Int)⟩) ∧ Bytes64 w1 db doff z) := Lib.hid fun w1 hb =>
    ⟨(Mv.of (onM (lboxM W _) hb)), keepM (kept_allocM hP.mac _) hb, rowIs_below (rowIs_below hP.row (lboxM W _) hP.row.lt) hb (Nat.lt_of_lt_of_le hP.row.lt (lboxM W _).size), keepM (World.alloc_heap_new W _) hb, (hP.data.below (lboxM W _) hP.data.1).below hb (Nat.lt_of_lt_of_le hP.data.1 (lboxM W _).size)⟩
  have HM0 := Lib.hid (And.intro (kept_allocM hP.mac (irO ⟨op, d, (an : Int), (bn : Int), k, (tn : Int), (fn : Int)⟩)) (rowIs_below hP.row (lboxM W (irO ⟨op, d, (an : Int), (bn : Int), k, (tn : Int), (fn : Int)⟩)) hP.row.lt))
  have HST := Lib.hid (tX_if (fun i => i) (wordZ z) p r d (an : Int) (bn : Int) k (tn : Int) (fn : Int) op hop)
  simp only [Int.toNat_natCast] at HST
  have HSA := Lib.hid (fun W => p_holds op (r an) (r bn) hop W)
  have q7 : (op == 7) = false := beq_false_of_ne (by omega)
  have q19 : (op == 19) = false := beq_false_of_ne (by omega)
  have q14 : (op == 14) = false := beq_false_of_ne (by omega)
  clear hone hP
  rw [HST.out]
  generalize saysM op (r an) (r bn) = sy at HSA ⊢
  rcases (show op = 15 ∨ op = 16 ∨ op = 17 ∨ op = 18 by omega) with rfl | rfl | rfl | rfl
  all_goals
    clear hop q7 q19 q14 HST
    cases sy with
    | true =>
      rw [if_pos rfl]
      go_enter Tryz.func21, Tryz.ntmps21
      go_wp2_with (first
        | (go_at_call 47; (with_reducible refine (HA.out _ HM0.out.1 HM0.out.2).mono ?_); rintro e w1 ⟨rfl, hb1⟩; have HW := Lib.hid (HW0.out w1 hb1); clear hb1; have m2 := cellM HW.out.2.1 2 rfl; have m3 := cellM HW.out.2.1 3 rfl; have m1 := cellM HW.out.2.1 1 rfl; have m4 : w1.cell? ⟨mb, 4, none⟩ = some (.bool false) := cellM HW.out.2.1 4 rfl; have m5 : w1.cell? ⟨mb, 5, none⟩ = some (.int .u32 0) := cellM HW.out.2.1 5 rfl; have m6 : w1.cell? ⟨mb, 6, none⟩ = some (.int .i64 0) := cellM HW.out.2.1 6 rfl; have fz := fun i => frozenM HW.out.2.1 i; have z2 := fz 2; have z3 := fz 3; have z4 := fz 4; have z5 := fz 5; have z6 := fz 6; have u0 := cellM HW.out.2.2.2.1 0 rfl; have u1 := cellM HW.out.2.2.2.1 1 rfl; have u5 := cellM HW.out.2.2.2.1 5 rfl; have u6 := cellM HW.out.2.2.2.1 6 rfl; clear fz)
        | (go_at_call 48; (with_reducible refine (HSA.out _).mono ?_); rintro e w2 ⟨rfl, rfl⟩))
      go_end0
      refine ⟨rfl, (HW.out.1.setm 3 _).setm 2 _, ?_, ?_⟩
      · exact heap_setM (heap_setM HW.out.2.1 3 (.int .i64 ((s : Int) + 1))) 2 (.int .i64 (tn : Int))
      · exact (HW.out.2.2.1.of_block (set_otherM hgm)).of_block (set_otherM hgm)
    | false =>
      rw [if_neg (by decide)]
      go_enter Tryz.func21, Tryz.ntmps21
      go_wp2_with (first
        | (go_at_call 47; (with_reducible refine (HA.out _ HM0.out.1 HM0.out.2).mono ?_); rintro e w1 ⟨rfl, hb1⟩; have HW := Lib.hid (HW0.out w1 hb1); clear hb1; have m2 := cellM HW.out.2.1 2 rfl; have m3 := cellM HW.out.2.1 3 rfl; have m1 := cellM HW.out.2.1 1 rfl; have m4 : w1.cell? ⟨mb, 4, none⟩ = some (.bool false) := cellM HW.out.2.1 4 rfl; have m5 : w1.cell? ⟨mb, 5, none⟩ = some (.int .u32 0) := cellM HW.out.2.1 5 rfl; have m6 : w1.cell? ⟨mb, 6, none⟩ = some (.int .i64 0) := cellM HW.out.2.1 6 rfl; have fz := fun i => frozenM HW.out.2.1 i; have z2 := fz 2; have z3 := fz 3; have z4 := fz 4; have z5 := fz 5; have z6 := fz 6; have u0 := cellM HW.out.2.2.2.1 0 rfl; have u1 := cellM HW.out.2.2.2.1 1 rfl; have u5 := cellM HW.out.2.2.2.1 5 rfl; have u6 := cellM HW.out.2.2.2.1 6 rfl; clear fz)
        | (go_at_call 48; (with_reducible refine (HSA.out _).mono ?_); rintro e w2 ⟨rfl, rfl⟩))
      go_end0
      refine ⟨rfl, (HW.out.1.setm 3 _).setm 2 _, ?_, ?_⟩
      · exact heap_setM (heap_setM HW.out.2.1 3 (.int .i64 ((s : Int) + 1))) 2 (.int .i64 (fn : Int))
      · exact (HW.out.2.2.1.of_block (set_otherM hgm)).of_block (set_otherM hgm)
set_option maxHeartbeats 16000000 in
set_option maxRecDepth 100000 in
theorem p_step_r (op d a b : Int) (k : BitVec 32) (t f : Int) (W : World) (mb g nr n db doff dcap : Nat) (z : Nat → Int) (p s : Nat) (r : Nat → BitVec 32) (hop : op = 19) (hP : PreM W mb g nr n db doff dcap z p s ⟨op, d, a, b, k, t, f⟩ r) :
    Calls Tryz.prog 21 #[.pointer (some ⟨mb, 0, none⟩), irV ⟨op, d, a, b, k, t, f⟩] W fun e w' => e = .returned (.tuple #[]) ∧ Mv W w' mb g ∧ AftM w' mb g nr (.slice (some ⟨db, doff, none⟩) 64 dcap) p s (stepX ⟨op, d, a, b, k, t, f⟩ (fun i => i) (wordZ z) p r) := by
  subst hop
  have hone := hP.one
  have hsl := hP.steps
  have hpl := hP.places
  obtain ⟨ha0, ha1⟩ := hone.a (by simp [aM] <;> omega)
  simp only at ha0 ha1
  obtain ⟨an, rfl⟩ : ∃ m : Nat, a = (m : Int) := ⟨a.toNat, by omega⟩
  have ha2 : an < nr := by omega
  have ha3 : (an : Int) < (nr : Int) := by omega
  have HA : Hid (∀ V : World, V.heap[mb]? = some (macO (.slice (some ⟨db, doff, none⟩) 64 dcap) g nr p s false 0#32 0) → V.rowIs g 33 nr (regF r) → Calls Tryz.prog 47 #[.pointer (some ⟨mb, 0, none⟩), irV ⟨19, d, (an : Int), b, k, t, f⟩] V fun e w' => e = .returned (.tuple #[.int .u32 ((r an).toNat : Int), .int .u32 ((0#32).toNat : Int)]) ∧ Below V.heap.size V w') := Lib.hid fun V h1 h2 => p_asked_1 19 _ an 0 0 b k _ _ V mb g nr _ p s false 0#32 0 r rfl h1 h2 ha2
  have HP := Lib.hid hP
  have hml := (Array.getElem?_eq_some_iff.1 hP.mac).1
  have hgl := hP.row.lt
  have hmg : ¬ mb = g := hP.ne
  have hgm : ¬ g = mb := fun e => hP.ne e.symm
  have hBm : ¬ W.heap.size = mb := by omega
  have hmB : ¬ mb = W.heap.size := by omega
  have hBg : ¬ W.heap.size = g := by omega
  have hgB : ¬ g = W.heap.size := by omega
  have hs1 : IntKind.i64.wrap ((s : Int) + 1) = (s : Int) + 1 := IntWalk.i64_in _ (by omega)
  have hp1 : IntKind.i64.wrap ((p : Int) + 1) = (p : Int) + 1 := IntWalk.i64_in _ (by omega)
  have HW0 : Hid (∀ w1, Below (W.alloc (irO ⟨19, d, (an : Int), b, k, t, f⟩)).heap.size (W.alloc (irO ⟨19, d, (an : Int), b, k, t, f⟩)) w1 → Mv W w1 mb g ∧ w1.heap[mb]? = some (macO (.slice (some ⟨db, doff, none⟩) 64 dcap) g nr p s false 0#32 0) ∧ w1.rowIs g 33 nr (regF r) ∧ w1.heap[W.heap.size]? = some (irO ⟨19, d, (an : Int), b, k, t, f⟩) ∧ Bytes64 w1 db doff z) := Lib.hid fun w1 hb =>
    ⟨(Mv.of (onM (lboxM W _) hb)), keepM (kept_allocM hP.mac _) hb, rowIs_below (rowIs_below hP.row (lboxM W _) hP.row.lt) hb (Nat.lt_of_lt_of_le hP.row.lt (lboxM W _).size), keepM (World.alloc_heap_new W _) hb, (hP.data.below (lboxM W _) hP.data.1).below hb (Nat.lt_of_lt_of_le hP.data.1 (lboxM W _).size)⟩
  have HM0 := Lib.hid (And.intro (kept_allocM hP.mac (irO ⟨19, d, (an : Int), b, k, t, f⟩)) (rowIs_below hP.row (lboxM W (irO ⟨19, d, (an : Int), b, k, t, f⟩)) hP.row.lt))
  have HST := Lib.hid (tX_ret (fun i => i) (wordZ z) p r d (an : Int) b k t f)
  simp only [Int.toNat_natCast] at HST
  clear hone hP
  rw [HST.out]
  go_enter Tryz.func21, Tryz.ntmps21
  go_wp2_with (go_at_call 47; (with_reducible refine (HA.out _ HM0.out.1 HM0.out.2).mono ?_); rintro e w1 ⟨rfl, hb1⟩; have HW := Lib.hid (HW0.out w1 hb1); clear hb1; have m2 := cellM HW.out.2.1 2 rfl; have m3 := cellM HW.out.2.1 3 rfl; have m1 := cellM HW.out.2.1 1 rfl; have m4 : w1.cell? ⟨mb, 4, none⟩ = some (.bool false) := cellM HW.out.2.1 4 rfl; have m5 : w1.cell? ⟨mb, 5, none⟩ = some (.int .u32 0) := cellM HW.out.2.1 5 rfl; have m6 : w1.cell? ⟨mb, 6, none⟩ = some (.int .i64 0) := cellM HW.out.2.1 6 rfl; have fz := fun i => frozenM HW.out.2.1 i; have z2 := fz 2; have z3 := fz 3; have z4 := fz 4; have z5 := fz 5; have z6 := fz 6; have u0 := cellM HW.out.2.2.2.1 0 rfl; have u1 := cellM HW.out.2.2.2.1 1 rfl; have u5 := cellM HW.out.2.2.2.1 5 rfl; have u6 := cellM HW.out.2.2.2.1 6 rfl; clear fz)
  go_end0
  refine ⟨rfl, ((HW.out.1.setm 3 _).setm 4 _).setm 5 _, ?_⟩
  exact heap_setM (heap_setM (heap_setM HW.out.2.1 3 (.int .i64 ((s : Int) + 1))) 4 (.bool true)) 5 (.int .u32 ((r an).toNat : Int))
end Go.Proofs.YtoajommeiocfpaaGreat

/-
  What the program's machine of registers asks for, sets and tests: contracts of holds, asked and result. Conditions: those that each names.
-/
import Derived.Test.YtoajommeiocfpaaGreatMirShape
import Derived.Test.YtoajommeiocfpaaGreatMirRegs
import Derived.Test.YtoajommeiocfpaaGreatSecRead
namespace Go.Proofs.YtoajommeiocfpaaGreat
open Go Go.RowKit
set_option linter.unusedSimpArgs false
set_option linter.unusedVariables false
set_option maxRecDepth 100000

abbrev macO (dv : Value) (g nr p s : Nat) (thr : Bool) (ans : BitVec 32) (err : Int) : Obj := .cells #[dv, .slice (some ⟨g, 0, none⟩) nr nr, .int .i64 (p : Int), .int .i64 (s : Int), .bool thr, .int .u32 (ans.toNat : Int), .int .i64 err] 53
theorem heap_setM {w : World} {B : Nat} {c : Array Value} {T : TypeId} {z : Nat × Nat} (h : w.heap[B]? = some (.cells c T z)) (i : Nat) (v : Value) : (w.setCell ⟨B, i, none⟩ v).heap[B]? = some (.cells (c.setIfInBounds i v) T z) := by
  unfold World.setCell
  simp only [Array.getElem?_modify, if_true, h]
  rfl
theorem frozenM {W : World} {B : Nat} {c : Array Value} {t : TypeId} (h : W.heap[B]? = some (.cells c t (0, 0))) (i : Nat) : W.frozen? ⟨B, i, none⟩ = false := by
  unfold World.frozen?; rw [h]; simp

theorem p_holds (op : Int) (a b : BitVec 32) (h : 15 ≤ op ∧ op ≤ 18) (w : World) : Calls Tryz.prog 48 #[.int .i64 op, .int .u32 (a.toNat : Int), .int .u32 (b.toNat : Int)] w fun e w' => e = .returned (.bool (saysM op a b)) ∧ w = w' := by
  rcases (show op = 15 ∨ op = 16 ∨ op = 17 ∨ op = 18 by omega) with rfl | rfl | rfl | rfl
  · clear h
    go_enter Tryz.func48, Tryz.ntmps48
    go_wp2
    go_ret
    exact ⟨ret_bM (eq32 a b), rfl⟩
  · clear h
    go_enter Tryz.func48, Tryz.ntmps48
    go_wp2
    go_ret
    exact ⟨ret_bM (by show _ = decide (b.toNat < a.toNat); simp), rfl⟩
  · clear h
    go_enter Tryz.func48, Tryz.ntmps48
    go_wp2
    go_ret
    exact ⟨ret_bM (by show _ = decide (b.toNat ≤ a.toNat); simp), rfl⟩
  · have e := and32 a b
    clear h
    go_enter Tryz.func48, Tryz.ntmps48
    go_wp2
    go_ret
    exact ⟨ret_bM (by show _ = (a &&& b != 0#32); rw [bne, bne, ← eq32 (a &&& b) 0#32]; rfl), rfl⟩
set_option maxHeartbeats 2000000 in
theorem p_asked_0 (op d : Int) (an bn : Nat) (a b : Int) (k : BitVec 32) (t f : Int) (W : World) (mb g nr : Nat) (dv : Value) (p s : Nat) (thr : Bool) (ans : BitVec 32) (err : Int) (r : Nat → BitVec 32) (hk : askN op = 0) (hm : W.heap[mb]? = some (macO dv g nr p s thr ans err)) (hr : W.rowIs g 33 nr (regF r)) :
    Calls Tryz.prog 47 #[.pointer (some ⟨mb, 0, none⟩), irV ⟨op, d, a, b, k, t, f⟩] W fun e w' => e = .returned (.tuple #[.int .u32 ((0#32).toNat : Int), .int .u32 ((0#32).toNat : Int)]) ∧ Below W.heap.size W w' := by
  have HS0 := Lib.hid (fun V => p_shapeOf op V)
  rw [hk] at HS0
  generalize dM op = sb at HS0
  generalize aimN op = sm at HS0
  have HS : Hid (∀ V, Calls Tryz.prog 72 #[.int .i64 op] V fun e w' => e = .returned (.agg #[.bool sb, .int .i64 0, .int .i64 (sm : Int)]) ∧ Below V.heap.size V w') := Lib.hid fun V => HS0.out V
  have hfld : ∀ V : World, (Instr.field 117 (.agg #[.bool sb, .int .i64 0, .int .i64 (sm : Int)]) 1).run Tryz.prog V = .ok (.int .i64 0) V := fun _ => rfl
  clear HS0
  have HB := Lib.hid (lboxM W (irO ⟨op, d, a, b, k, t, f⟩))
  have HM := Lib.hid hm
  have HR := Lib.hid hr
  have hml := (Array.getElem?_eq_some_iff.1 hm).1
  have hgl := hr.lt
  clear hk hm hr
  go_enter Tryz.func47, Tryz.ntmps47
  go_wp2_with (go_at_call 72; (with_reducible refine (HS.out _).mono ?_); rintro e w1 ⟨rfl, hb1⟩; have HB1 := Lib.hid (And.intro (onM HB.out hb1) (And.intro (keepM (kept_allocM HM.out (irO ⟨op, d, a, b, k, t, f⟩)) hb1) (And.intro (rowIs_below (rowIs_below HR.out HB.out HR.out.lt) hb1 (Nat.lt_of_lt_of_le HR.out.lt HB.out.size)) (keepM (World.alloc_heap_new W (irO ⟨op, d, a, b, k, t, f⟩)) hb1)))); clear hb1; have m1 := cellM HB1.out.2.1 1 rfl; have i2 := cellM HB1.out.2.2.2 2 rfl; have i3 := cellM HB1.out.2.2.2 3 rfl)

  go_ret2
  exact ⟨rfl, HB1.out.1⟩
set_option maxHeartbeats 2000000 in
theorem p_asked_1 (op d : Int) (an bn : Nat) (a b : Int) (k : BitVec 32) (t f : Int) (W : World) (mb g nr : Nat) (dv : Value) (p s : Nat) (thr : Bool) (ans : BitVec 32) (err : Int) (r : Nat → BitVec 32) (hk : askN op = 1) (hm : W.heap[mb]? = some (macO dv g nr p s thr ans err)) (hr : W.rowIs g 33 nr (regF r)) (ha : an < nr) :
    Calls Tryz.prog 47 #[.pointer (some ⟨mb, 0, none⟩), irV ⟨op, d, (an : Int), b, k, t, f⟩] W fun e w' => e = .returned (.tuple #[.int .u32 ((r an).toNat : Int), .int .u32 ((0#32).toNat : Int)]) ∧ Below W.heap.size W w' := by
  have HS0 := Lib.hid (fun V => p_shapeOf op V)
  rw [hk] at HS0
  generalize dM op = sb at HS0
  generalize aimN op = sm at HS0
  have HS : Hid (∀ V, Calls Tryz.prog 72 #[.int .i64 op] V fun e w' => e = .returned (.agg #[.bool sb, .int .i64 1, .int .i64 (sm : Int)]) ∧ Below V.heap.size V w') := Lib.hid fun V => HS0.out V
  have hfld : ∀ V : World, (Instr.field 117 (.agg #[.bool sb, .int .i64 1, .int .i64 (sm : Int)]) 1).run Tryz.prog V = .ok (.int .i64 1) V := fun _ => rfl
  clear HS0
  have HB := Lib.hid (lboxM W (irO ⟨op, d, (an : Int), b, k, t, f⟩))
  have HM := Lib.hid hm
  have HR := Lib.hid hr
  have hml := (Array.getElem?_eq_some_iff.1 hm).1
  have hgl := hr.lt
  have ha' : (an : Int) < (nr : Int) := by omega
  clear hk hm hr
  go_enter Tryz.func47, Tryz.ntmps47
  go_wp2_with (go_at_call 72; (with_reducible refine (HS.out _).mono ?_); rintro e w1 ⟨rfl, hb1⟩; have HB1 := Lib.hid (And.intro (onM HB.out hb1) (And.intro (keepM (kept_allocM HM.out (irO ⟨op, d, (an : Int), b, k, t, f⟩)) hb1) (And.intro (rowIs_below (rowIs_below HR.out HB.out HR.out.lt) hb1 (Nat.lt_of_lt_of_le HR.out.lt HB.out.size)) (keepM (World.alloc_heap_new W (irO ⟨op, d, (an : Int), b, k, t, f⟩)) hb1)))); clear hb1; have m1 := cellM HB1.out.2.1 1 rfl; have i2 := cellM HB1.out.2.2.2 2 rfl; have i3 := cellM HB1.out.2.2.2 3 rfl; have qa := World.rowIs.cell HB1.out.2.2.1 ha)

  go_quiet (fail)
  go_wp2
  go_ret2
  exact ⟨rfl, below_drawn HB1.out.1 _⟩
set_option maxHeartbeats 2000000 in
theorem p_asked_2 (op d : Int) (an bn : Nat) (a b : Int) (k : BitVec 32) (t f : Int) (W : World) (mb g nr : Nat) (dv : Value) (p s : Nat) (thr : Bool) (ans : BitVec 32) (err : Int) (r : Nat → BitVec 32) (hk : askN op = 2) (hm : W.heap[mb]? = some (macO dv g nr p s thr ans err)) (hr : W.rowIs g 33 nr (regF r)) (ha : an < nr) (hb : bn < nr) :
    Calls Tryz.prog 47 #[.pointer (some ⟨mb, 0, none⟩), irV ⟨op, d, (an : Int), (bn : Int), k, t, f⟩] W fun e w' => e = .returned (.tuple #[.int .u32 ((r an).toNat : Int), .int .u32 ((r bn).toNat : Int)]) ∧ Below W.heap.size W w' := by
  have HS0 := Lib.hid (fun V => p_shapeOf op V)
  rw [hk] at HS0
  generalize dM op = sb at HS0
  generalize aimN op = sm at HS0
  have HS : Hid (∀ V, Calls Tryz.prog 72 #[.int .i64 op] V fun e w' => e = .returned (.agg #[.bool sb, .int .i64 2, .int .i64 (sm : Int)]) ∧ Below V.heap.size V w') := Lib.hid fun V => HS0.out V
  have hfld : ∀ V : World, (Instr.field 117 (.agg #[.bool sb, .int .i64 2, .int .i64 (sm : Int)]) 1).run Tryz.prog V = .ok (.int .i64 2) V := fun _ => rfl
  clear HS0
  have HB := Lib.hid (lboxM W (irO ⟨op, d, (an : Int), (bn : Int), k, t, f⟩))
  have HM := Lib.hid hm
  have HR := Lib.hid hr
  have hml := (Array.getElem?_eq_some_iff.1 hm).1
  have hgl := hr.lt
  have ha' : (an : Int) < (nr : Int) := by omega
  have hb' : (bn : Int) < (nr : Int) := by omega
  clear hk hm hr
  go_enter Tryz.func47, Tryz.ntmps47
  go_wp2_with (go_at_call 72; (with_reducible refine (HS.out _).mono ?_); rintro e w1 ⟨rfl, hb1⟩; have HB1 := Lib.hid (And.intro (onM HB.out hb1) (And.intro (keepM (kept_allocM HM.out (irO ⟨op, d, (an : Int), (bn : Int), k, t, f⟩)) hb1) (And.intro (rowIs_below (rowIs_below HR.out HB.out HR.out.lt) hb1 (Nat.lt_of_lt_of_le HR.out.lt HB.out.size)) (keepM (World.alloc_heap_new W (irO ⟨op, d, (an : Int), (bn : Int), k, t, f⟩)) hb1)))); clear hb1; have m1 := cellM HB1.out.2.1 1 rfl; have i2 := cellM HB1.out.2.2.2 2 rfl; have i3 := cellM HB1.out.2.2.2 3 rfl; have qa := World.rowIs.cell HB1.out.2.2.1 ha; have qb := World.rowIs.cell HB1.out.2.2.1 hb)

  go_quiet (fail)
  go_wp2
  go_ret2
  exact ⟨rfl, below_drawn HB1.out.1 _⟩
set_option maxHeartbeats 4000000 in
theorem p_result (op d xa xb : Int) (k : BitVec 32) (t f : Int) (a b : BitVec 32) (W : World) (mb g nr db doff dcap : Nat) (z : Nat → Int) (p s : Nat) (thr : Bool) (ans : BitVec 32) (err : Int) (hop : 1 ≤ op ∧ op ≤ 13) (hb : op = 7 → b ≠ 0#32) (hk : op = 3 → k.toNat ≤ 60 ∧ k.toNat % 4 = 0) (hm : W.heap[mb]? = some (macO (.slice (some ⟨db, doff, none⟩) 64 dcap) g nr p s thr ans err)) (hd : Bytes64 W db doff z) :
    Calls Tryz.prog 49 #[.pointer (some ⟨mb, 0, none⟩), irV ⟨op, d, xa, xb, k, t, f⟩, .int .u32 (a.toNat : Int), .int .u32 (b.toNat : Int)] W fun e w' => e = .returned (.int .u32 ((valM (wordZ z) ⟨op, d, xa, xb, k, t, f⟩ a b).toNat : Int)) ∧ Below W.heap.size W w' := by
  have HB := Lib.hid (lboxM W (irO ⟨op, d, xa, xb, k, t, f⟩))
  have HM := Lib.hid (kept_allocM hm (irO ⟨op, d, xa, xb, k, t, f⟩))
  have hml := (Array.getElem?_eq_some_iff.1 hm).1
  have m0 := cellM hm 0 rfl
  have HD := Lib.hid hd
  have HK := Lib.hid hk
  have HZ := Lib.hid hb
  have hkl : (k.toNat : Int) < 4294967296 := by have := k.isLt; omega
  clear hm hd hk hb
  rcases (show op = 1 ∨ op = 2 ∨ op = 3 ∨ op = 4 ∨ op = 5 ∨ op = 6 ∨ op = 7 ∨ op = 8 ∨ op = 9 ∨ op = 10 ∨ op = 11 ∨ op = 12 ∨ op = 13 by omega) with rfl | rfl | rfl | rfl | rfl | rfl | rfl | rfl | rfl | rfl | rfl | rfl | rfl
  · clear hop HK HZ
    go_enter Tryz.func49, Tryz.ntmps49
    go_wp2
    go_ret
    exact ⟨rfl, HB.out⟩
  · clear hop HK HZ
    go_enter Tryz.func49, Tryz.ntmps49
    go_wp2
    go_ret
    exact ⟨rfl, HB.out⟩
  · have hk := HK.out rfl
    have HW : Hid (∀ V : World, Below W.heap.size W V → Calls Tryz.prog 76 #[.slice (some ⟨db, doff, none⟩) 64 dcap, .int .i64 (k.toNat : Int)] V fun e w' => e = .returned (.tuple #[.int .u32 ((wordZ z k.toNat).toNat : Int), .int .i64 0]) ∧ V = w') := Lib.hid fun V hV => by
      rw [wordZ_nat HD.out.2.1]
      exact secdata_Word db doff dcap z k.toNat hk.1 hk.2 V (HD.out.below hV HD.out.1)
    clear hop hk HK HZ
    go_enter Tryz.func49, Tryz.ntmps49
    go_wp2
    go_quiet ((go_at_call 76; exact quietL (HW.out _ (below_drawn HB.out _))))
    go_wp2
    go_ret
    exact ⟨rfl, below_drawn HB.out _⟩
  · have e1 := add32 a b
    clear hop HK HZ
    go_enter Tryz.func49, Tryz.ntmps49
    go_wp2
    go_ret
    exact ⟨rfl, HB.out⟩
  · have e1 := sub32 a b
    clear hop HK HZ
    go_enter Tryz.func49, Tryz.ntmps49
    go_wp2
    go_ret
    exact ⟨rfl, HB.out⟩
  · have e1 := mul32 a b
    clear hop HK HZ
    go_enter Tryz.func49, Tryz.ntmps49
    go_wp2
    go_ret
    exact ⟨rfl, HB.out⟩
  · have hz : ¬ (b.toNat : Int) = 0 := fun h => HZ.out rfl (BitVec.eq_of_toNat_eq (by simpa using h))
    clear hop HK HZ
    go_enter Tryz.func49, Tryz.ntmps49
    go_wp2
    go_ret
    exact ⟨ret_iM (by rw [div32, Int.emod_eq_of_lt (by omega) (by have := (a / b).isLt; omega)]; rfl), HB.out⟩
  · have e1 := and32 a b
    clear hop HK HZ
    go_enter Tryz.func49, Tryz.ntmps49
    go_wp2
    go_ret
    exact ⟨rfl, HB.out⟩
  · have e1 := or32 a b
    clear hop HK HZ
    go_enter Tryz.func49, Tryz.ntmps49
    go_wp2
    go_ret
    exact ⟨rfl, HB.out⟩
  · have e1 := xor32 a b
    clear hop HK HZ
    go_enter Tryz.func49, Tryz.ntmps49
    go_wp2
    go_ret
    exact ⟨rfl, HB.out⟩
  · have e1 := low5 b
    clear hop HK HZ
    go_enter Tryz.func49, Tryz.ntmps49
    go_wp2
    go_ret
    exact ⟨ret_iM (by have h := shl32 a (b.toNat % 32); rwa [IntKind.wrap_u32] at h), HB.out⟩
  · have e1 := low5 b
    clear hop HK HZ
    go_enter Tryz.func49, Tryz.ntmps49
    go_wp2
    go_ret
    exact ⟨ret_iM (shr32 a (b.toNat % 32)), HB.out⟩
  · have e1 := neg32 a
    clear hop HK HZ
    go_enter Tryz.func49, Tryz.ntmps49
    go_wp2
    go_ret
    exact ⟨rfl, HB.out⟩
end Go.Proofs.YtoajommeiocfpaaGreat

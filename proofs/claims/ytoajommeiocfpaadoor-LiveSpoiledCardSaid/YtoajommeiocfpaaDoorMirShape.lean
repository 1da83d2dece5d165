/-
  What the program's shapeOf, asked, named, targets, ways and within answer of an instruction of a program of registers: contracts. Conditions: those that each names.
-/
import Derived.Test.YtoajommeiocfpaaDoorMirMem
import Derived.Test.YtoajommeiocfpaaDoorRowsOwn
import Derived.Test.YtoajommeiocfpaaDoorRegion
import Derived.Test.YtoajommeiocfpaaDoorOperAppend
import Derived.Test.YtoajommeiocfpaaDoorMemory
import Derived.RangeFuncRecord
namespace Go.Proofs.YtoajommeiocfpaaDoor
open Go Go.RowKit
set_option linter.unusedSimpArgs false
set_option linter.unusedVariables false

theorem own_baseM {w : World} {B B' : Nat} {e : TypeId} {sz : Nat} {v : Value} {n : Nat} {xs : List Value} (h : w.ownsRow B e sz v n xs) (hb : B' ≤ B) : w.ownsRow B' e sz v n xs :=
  ⟨h.1, h.2.imp id fun ⟨g, c, cur, h0, h1, r⟩ => ⟨g, c, cur, h0, Nat.le_trans hb h1, r⟩⟩
theorem info_intM : (Tryd.prog.info? 3).map (fun i => (i.zero, i.size, i.bytes)) = some (some (.int .i64 0), 1, 8) := by kernel_rfl
/-- Numbers as cells. -/
def izL (l : List Int) : List Value := l.map fun i => Value.int .i64 i
theorem izL_len (l : List Int) : (izL l).length = l.length := by unfold izL; rw [List.length_map]
theorem izL_get {l : List Int} {i : Nat} (h : i < l.length) : (izL l)[i]? = some (.int .i64 (l.getD i 0)) := by
  unfold izL; rw [List.getElem?_map, List.getElem?_eq_getElem h, List.getD_eq_getElem?_getD, List.getElem?_eq_getElem h]; rfl
/-- Numbers that may be read. -/
def IzAt (w : World) (A : Option Addr) (l : List Int) : Prop := Holds w A l.length fun i => .int .i64 (l.getD i 0)
theorem IzAt.below {w w' : World} {A : Option Addr} {l : List Int} (h : IzAt w A l) (hb : Below w.heap.size w w') : IzAt w' A l := Holds.below h hb
theorem iz_cell {w : World} {A : Option Addr} {l : List Int} (h : IzAt w A l) {i : Nat} (hi : i < l.length) : ∃ b o, A = some ⟨b, o, none⟩ ∧ b < w.heap.size ∧ w.cell? ⟨b, o + i, none⟩ = some (.int .i64 (l.getD i 0)) := by
  obtain ⟨b, o, rfl, hl, hc⟩ := h (by omega)
  exact ⟨b, o, rfl, hl, hc i hi⟩
theorem own_formM {w : World} {B : Nat} {e : TypeId} {sz : Nat} {v : Value} {n : Nat} {xs : List Value} (h : w.ownsRow B e sz v n xs) : ∃ A c, v = .slice A n c := by
  rcases h.2 with ⟨rfl, rfl⟩ | ⟨g, c, cur, rfl, _⟩
  · exact ⟨none, 0, rfl⟩
  · exact ⟨some ⟨g, 0, none⟩, c, rfl⟩
/-- A row of one's own, read alone. -/
theorem own_holdsM {w : World} {B : Nat} {e : TypeId} {A : Option Addr} {n c : Nat} {xs : List Value} (h : w.ownsRow B e 1 (.slice A n c) n xs) {f : Nat → Value} (hf : ∀ i, i < n → xs[i]? = some (f i)) : Holds w A n f := fun hn => by
  rcases h.2 with ⟨e1, e2⟩ | ⟨g, c', cur, e1, hB, hg, hc, hm, hs, ht⟩
  · omega
  · injection e1 with e1 _ e3
    subst e1 e3
    refine ⟨g, 0, rfl, (Array.getElem?_eq_some_iff.1 hg).1, fun i hi => ?_⟩
    have hu := hf i hi
    rw [← ht, List.getElem?_take] at hu
    split at hu
    · unfold World.cell?; rw [hg]
      simpa using hu
    · cases hu
theorem own_iz {w : World} {B : Nat} {A : Option Addr} {c : Nat} {l : List Int} (h : w.ownsRow B 3 1 (.slice A l.length c) l.length (izL l)) : IzAt w A l := own_holdsM h fun i hi => izL_get hi
theorem int_newM (V : World) (x : Value) (t : TypeId) : ∀ j u, ([x] : List Value)[j]? = some u → (V.alloc (.cells #[x] t)).cell? ((⟨V.heap.size, 0, none⟩ : Addr).add j) = some u := fun j u hj => by
  cases j with
  | zero =>
    injection hj with hj
    subst hj
    unfold World.cell?
    rw [show (⟨V.heap.size, 0, none⟩ : Addr).add 0 = ⟨V.heap.size, 0, none⟩ from rfl, World.alloc_heap_new V _]; rfl
  | succ j => cases hj
theorem int_oneM (k : IntKind) (x : Int) : ∀ u ∈ ([.int k x] : List Value), u.oneCell' = true := fun u hu => by
  rw [List.mem_singleton.1 hu]; rfl
/-- The first k of two numbers that were laid anew. -/
theorem own_two {V : World} {g B : Nat} {x y : Int} (hg : V.heap[g]? = some (.cells #[.int .i64 x, .int .i64 y] 3)) (hB : B ≤ g) {k : Nat} (hk : k ≤ 2) : V.ownsRow B 3 1 (.slice (some ⟨g, 0, none⟩) k 2) ([x, y].take k).length (izL ([x, y].take k)) := by
  have hl : ([x, y].take k).length = k := by rw [List.length_take]; show min k 2 = k; omega
  rw [hl]
  refine ⟨by rw [izL_len, hl]; omega, .inr ⟨g, 2, _, rfl, hB, hg, hk, by unfold maxLen; omega, by simp, ?_⟩⟩
  rcases (show k = 0 ∨ k = 1 ∨ k = 2 by omega) with rfl | rfl | rfl <;> rfl
theorem own_one1 {V : World} {g B : Nat} {x : Int} (hg : V.heap[g]? = some (.cells #[.int .i64 x] 3)) (hB : B ≤ g) : V.ownsRow B 3 1 (.slice (some ⟨g, 0, none⟩) 1 1) 1 (izL [x]) :=
  ⟨rfl, .inr ⟨g, 1, _, rfl, hB, hg, Nat.le_refl _, by unfold maxLen; omega, by simp, rfl⟩⟩
/-- How many registers, how many targets an operation asks for. -/
def askN (op : Int) : Nat := if bM op = true then 2 else if aM op = true then 1 else 0
def aimN (op : Int) : Nat := if fM op = true then 2 else if tM op = true then 1 else 0
abbrev shV (s : Bool) (k m : Nat) : Value := .agg #[.bool s, .int .i64 (k : Int), .int .i64 (m : Int)]
abbrev shO (s : Bool) (k m : Nat) : Obj := .cells #[.bool s, .int .i64 (k : Int), .int .i64 (m : Int)] 104
/-- What an instruction asks for. -/
def askL (x : Irx) (k : Nat) : List Int := [x.a, x.b].take k
def aimL (x : Irx) (m : Nat) : List Int := [x.t, x.f].take m
def nameL (x : Irx) (s : Bool) (k : Nat) : List Int := askL x k ++ (if s = true then [x.d] else [])
theorem ask_le (op : Int) : askN op ≤ 2 := by
  unfold askN
  by_cases h : bM op = true
  · rw [if_pos h]; exact Nat.le_refl _
  · rw [if_neg h]
    by_cases h2 : aM op = true
    · rw [if_pos h2]; omega
    · rw [if_neg h2]; omega
theorem aim_le (op : Int) : aimN op ≤ 2 := by
  unfold aimN
  by_cases h : fM op = true
  · rw [if_pos h]; exact Nat.le_refl _
  · rw [if_neg h]
    by_cases h2 : tM op = true
    · rw [if_pos h2]; omega
    · rw [if_neg h2]; omega
theorem ask_len (x : Irx) {k : Nat} (hk : k ≤ 2) : (askL x k).length = k := by unfold askL; rw [List.length_take]; show min k 2 = k; omega
theorem aim_len (x : Irx) {k : Nat} (hk : k ≤ 2) : (aimL x k).length = k := by unfold aimL; rw [List.length_take]; show min k 2 = k; omega

set_option maxHeartbeats 2000000 in
theorem p_shapeOf (op : Int) (w : World) : Calls Tryd.prog 57 #[.int .i64 op] w fun e w' => e = .returned (shV (dM op) (askN op) (aimN op)) ∧ Below w.heap.size w w' := by
  have HB := Lib.hid (fun o => lboxM w o)
  by_cases h : 1 ≤ op ∧ op ≤ 19
  · rcases op_cases h with rfl | rfl | rfl | rfl | rfl | rfl | rfl | rfl | rfl | rfl | rfl | rfl | rfl | rfl | rfl | rfl | rfl | rfl | rfl
    · clear h
      go_enter Tryd.func57, Tryd.ntmps57
      go_wp2
      (try simp only [Exit.inBlock, Exit.then])
      refine bodyPost_ret (v := .agg #[.bool true, .int .i64 0, .int .i64 0]) (by simp [results, Tryd.results57, go_sem, World.cell?_setCell_same']) rfl ⟨rfl, ?_⟩
      exact HB.out _
    · clear h
      go_enter Tryd.func57, Tryd.ntmps57
      go_wp2
      (try simp only [Exit.inBlock, Exit.then])
      refine bodyPost_ret (v := .agg #[.bool true, .int .i64 1, .int .i64 0]) (by simp [results, Tryd.results57, go_sem, World.cell?_setCell_same']) rfl ⟨rfl, ?_⟩
      exact HB.out _
    · clear h
      go_enter Tryd.func57, Tryd.ntmps57
      go_wp2
      (try simp only [Exit.inBlock, Exit.then])
      refine bodyPost_ret (v := .agg #[.bool true, .int .i64 0, .int .i64 0]) (by simp [results, Tryd.results57, go_sem, World.cell?_setCell_same']) rfl ⟨rfl, ?_⟩
      exact HB.out _
    · clear h
      go_enter Tryd.func57, Tryd.ntmps57
      go_wp2
      (try simp only [Exit.inBlock, Exit.then])
      refine bodyPost_ret (v := .agg #[.bool true, .int .i64 2, .int .i64 0]) (by simp [results, Tryd.results57, go_sem, World.cell?_setCell_same']) rfl ⟨rfl, ?_⟩
      exact HB.out _
    · clear h
      go_enter Tryd.func57, Tryd.ntmps57
      go_wp2
      (try simp only [Exit.inBlock, Exit.then])
      refine bodyPost_ret (v := .agg #[.bool true, .int .i64 2, .int .i64 0]) (by simp [results, Tryd.results57, go_sem, World.cell?_setCell_same']) rfl ⟨rfl, ?_⟩
      exact HB.out _
    · clear h
      go_enter Tryd.func57, Tryd.ntmps57
      go_wp2
      (try simp only [Exit.inBlock, Exit.then])
      refine bodyPost_ret (v := .agg #[.bool true, .int .i64 2, .int .i64 0]) (by simp [results, Tryd.results57, go_sem, World.cell?_setCell_same']) rfl ⟨rfl, ?_⟩
      exact HB.out _
    · clear h
      go_enter Tryd.func57, Tryd.ntmps57
      go_wp2
      (try simp only [Exit.inBlock, Exit.then])
      refine bodyPost_ret (v := .agg #[.bool true, .int .i64 2, .int .i64 0]) (by simp [results, Tryd.results57, go_sem, World.cell?_setCell_same']) rfl ⟨rfl, ?_⟩
      exact HB.out _
    · clear h
      go_enter Tryd.func57, Tryd.ntmps57
      go_wp2
      (try simp only [Exit.inBlock, Exit.then])
      refine bodyPost_ret (v := .agg #[.bool true, .int .i64 2, .int .i64 0]) (by simp [results, Tryd.results57, go_sem, World.cell?_setCell_same']) rfl ⟨rfl, ?_⟩
      exact HB.out _
    · clear h
      go_enter Tryd.func57, Tryd.ntmps57
      go_wp2
      (try simp only [Exit.inBlock, Exit.then])
      refine bodyPost_ret (v := .agg #[.bool true, .int .i64 2, .int .i64 0]) (by simp [results, Tryd.results57, go_sem, World.cell?_setCell_same']) rfl ⟨rfl, ?_⟩
      exact HB.out _
    · clear h
      go_enter Tryd.func57, Tryd.ntmps57
      go_wp2
      (try simp only [Exit.inBlock, Exit.then])
      refine bodyPost_ret (v := .agg #[.bool true, .int .i64 2, .int .i64 0]) (by simp [results, Tryd.results57, go_sem, World.cell?_setCell_same']) rfl ⟨rfl, ?_⟩
      exact HB.out _
    · clear h
      go_enter Tryd.func57, Tryd.ntmps57
      go_wp2
      (try simp only [Exit.inBlock, Exit.then])
      refine bodyPost_ret (v := .agg #[.bool true, .int .i64 2, .int .i64 0]) (by simp [results, Tryd.results57, go_sem, World.cell?_setCell_same']) rfl ⟨rfl, ?_⟩
      exact HB.out _
    · clear h
      go_enter Tryd.func57, Tryd.ntmps57
      go_wp2
      (try simp only [Exit.inBlock, Exit.then])
      refine bodyPost_ret (v := .agg #[.bool true, .int .i64 2, .int .i64 0]) (by simp [results, Tryd.results57, go_sem, World.cell?_setCell_same']) rfl ⟨rfl, ?_⟩
      exact HB.out _
    · clear h
      go_enter Tryd.func57, Tryd.ntmps57
      go_wp2
      (try simp only [Exit.inBlock, Exit.then])
      refine bodyPost_ret (v := .agg #[.bool true, .int .i64 1, .int .i64 0]) (by simp [results, Tryd.results57, go_sem, World.cell?_setCell_same']) rfl ⟨rfl, ?_⟩
      exact HB.out _
    · clear h
      go_enter Tryd.func57, Tryd.ntmps57
      go_wp2
      (try simp only [Exit.inBlock, Exit.then])
      refine bodyPost_ret (v := .agg #[.bool false, .int .i64 0, .int .i64 1]) (by simp [results, Tryd.results57, go_sem, World.cell?_setCell_same']) rfl ⟨rfl, ?_⟩
      exact HB.out _
    · clear h
      go_enter Tryd.func57, Tryd.ntmps57
      go_wp2
      (try simp only [Exit.inBlock, Exit.then])
      refine bodyPost_ret (v := .agg #[.bool false, .int .i64 2, .int .i64 2]) (by simp [results, Tryd.results57, go_sem, World.cell?_setCell_same']) rfl ⟨rfl, ?_⟩
      exact HB.out _
    · clear h
      go_enter Tryd.func57, Tryd.ntmps57
      go_wp2
      (try simp only [Exit.inBlock, Exit.then])
      refine bodyPost_ret (v := .agg #[.bool false, .int .i64 2, .int .i64 2]) (by simp [results, Tryd.results57, go_sem, World.cell?_setCell_same']) rfl ⟨rfl, ?_⟩
      exact HB.out _
    · clear h
      go_enter Tryd.func57, Tryd.ntmps57
      go_wp2
      (try simp only [Exit.inBlock, Exit.then])
      refine bodyPost_ret (v := .agg #[.bool false, .int .i64 2, .int .i64 2]) (by simp [results, Tryd.results57, go_sem, World.cell?_setCell_same']) rfl ⟨rfl, ?_⟩
      exact HB.out _
    · clear h
      go_enter Tryd.func57, Tryd.ntmps57
      go_wp2
      (try simp only [Exit.inBlock, Exit.then])
      refine bodyPost_ret (v := .agg #[.bool false, .int .i64 2, .int .i64 2]) (by simp [results, Tryd.results57, go_sem, World.cell?_setCell_same']) rfl ⟨rfl, ?_⟩
      exact HB.out _
    · clear h
      go_enter Tryd.func57, Tryd.ntmps57
      go_wp2
      (try simp only [Exit.inBlock, Exit.then])
      refine bodyPost_ret (v := .agg #[.bool false, .int .i64 1, .int .i64 0]) (by simp [results, Tryd.results57, go_sem, World.cell?_setCell_same']) rfl ⟨rfl, ?_⟩
      exact HB.out _
  · have g1 : dM op = false := by simp [dM]; omega
    have g2 : aM op = false := by simp [aM]; omega
    have g3 : bM op = false := by simp [bM]; omega
    have g4 : tM op = false := by simp [tM]; omega
    have g5 : fM op = false := by simp [fM]; omega
    have ga : askN op = 0 := by unfold askN; rw [g3, g2]; rfl
    have gm : aimN op = 0 := by unfold aimN; rw [g5, g4]; rfl
    rw [g1, ga, gm]
    have b1 : (op == 1) = false := beq_false_of_ne (by omega)
    have b2 : (op == 2) = false := beq_false_of_ne (by omega)
    have b3 : (op == 3) = false := beq_false_of_ne (by omega)
    have b4 : (op == 4) = false := beq_false_of_ne (by omega)
    have b5 : (op == 5) = false := beq_false_of_ne (by omega)
    have b6 : (op == 6) = false := beq_false_of_ne (by omega)
    have b7 : (op == 7) = false := beq_false_of_ne (by omega)
    have b8 : (op == 8) = false := beq_false_of_ne (by omega)
    have b9 : (op == 9) = false := beq_false_of_ne (by omega)
    have b10 : (op == 10) = false := beq_false_of_ne (by omega)
    have b11 : (op == 11) = false := beq_false_of_ne (by omega)
    have b12 : (op == 12) = false := beq_false_of_ne (by omega)
    have b13 : (op == 13) = false := beq_false_of_ne (by omega)
    have b14 : (op == 14) = false := beq_false_of_ne (by omega)
    have b15 : (op == 15) = false := beq_false_of_ne (by omega)
    have b16 : (op == 16) = false := beq_false_of_ne (by omega)
    have b17 : (op == 17) = false := beq_false_of_ne (by omega)
    have b18 : (op == 18) = false := beq_false_of_ne (by omega)
    have b19 : (op == 19) = false := beq_false_of_ne (by omega)
    clear h g1 g2 g3 g4 g5 ga gm
    go_enter Tryd.func57, Tryd.ntmps57
    go_wp2
    (try simp only [Exit.inBlock, Exit.then])
    refine bodyPost_ret (v := .agg #[.bool false, .int .i64 0, .int .i64 0]) (by simp [results, Tryd.results57, go_sem, World.cell?_setCell_same']) rfl ⟨rfl, ?_⟩
    exact HB.out _
theorem p_asked (x : Irx) (s : Bool) (k m : Nat) (hk : k ≤ 2) (w : World) : Calls Tryd.prog 62 #[shV s k m, irV x] w fun e w' => ∃ v, e = .returned v ∧ w'.ownsRow w.heap.size 3 1 v k (izL (askL x k)) ∧ Below w.heap.size w w' := by
  have hl : ([x.a, x.b].take k).length = k := by rw [List.length_take]; show min k 2 = k; omega
  have hb : Below w.heap.size w (((w.alloc (shO s k m)).alloc (irO x)).alloc (.cells #[.int .i64 x.a, .int .i64 x.b] 3)) := onM (onM (lboxM w _) (lboxM _ _)) (lboxM _ _)
  have ho := own_two (B := w.heap.size) (World.alloc_heap_new ((w.alloc (shO s k m)).alloc (irO x)) (.cells #[.int .i64 x.a, .int .i64 x.b] 3)) (by simp; omega) hk
  rw [hl, show ((w.alloc (shO s k m)).alloc (irO x)).heap.size = w.heap.size + 1 + 1 by simp] at ho
  have HO := Lib.hid (show World.ownsRow _ w.heap.size 3 1 _ k (izL (askL x k)) ∧ Below w.heap.size w _ from ⟨ho, hb⟩)
  clear ho hb hl
  rcases (show k = 0 ∨ k = 1 ∨ k = 2 by omega) with rfl | rfl | rfl
  all_goals
    go_enter Tryd.func62, Tryd.ntmps62
    go_wp2
    go_ret
    exact ⟨_, rfl, HO.out.1, HO.out.2⟩
theorem p_targets (x : Irx) (s : Bool) (k m : Nat) (hk : m ≤ 2) (w : World) : Calls Tryd.prog 60 #[shV s k m, irV x] w fun e w' => ∃ v, e = .returned v ∧ w'.ownsRow w.heap.size 3 1 v m (izL (aimL x m)) ∧ Below w.heap.size w w' := by
  have hl : ([x.t, x.f].take m).length = m := by rw [List.length_take]; show min m 2 = m; omega
  have hb : Below w.heap.size w (((w.alloc (shO s k m)).alloc (irO x)).alloc (.cells #[.int .i64 x.t, .int .i64 x.f] 3)) := onM (onM (lboxM w _) (lboxM _ _)) (lboxM _ _)
  have ho := own_two (B := w.heap.size) (World.alloc_heap_new ((w.alloc (shO s k m)).alloc (irO x)) (.cells #[.int .i64 x.t, .int .i64 x.f] 3)) (by simp; omega) hk
  rw [hl, show ((w.alloc (shO s k m)).alloc (irO x)).heap.size = w.heap.size + 1 + 1 by simp] at ho
  have HO := Lib.hid (show World.ownsRow _ w.heap.size 3 1 _ m (izL (aimL x m)) ∧ Below w.heap.size w _ from ⟨ho, hb⟩)
  clear ho hb hl
  rcases (show m = 0 ∨ m = 1 ∨ m = 2 by omega) with rfl | rfl | rfl
  all_goals
    go_enter Tryd.func60, Tryd.ntmps60
    go_wp2
    go_ret
    exact ⟨_, rfl, HO.out.1, HO.out.2⟩
set_option maxHeartbeats 4000000 in
set_option maxRecDepth 100000 in
theorem p_named (x : Irx) (s : Bool) (k m : Nat) (hk : k ≤ 2) (w : World) : Calls Tryd.prog 59 #[shV s k m, irV x] w fun e w' => ∃ v, e = .returned v ∧ w'.ownsRow w.heap.size 3 1 v (nameL x s k).length (izL (nameL x s k)) ∧ Below w.heap.size w w' := by
  have hb : Below w.heap.size w ((w.alloc (shO s k m)).alloc (irO x)) := onM (lboxM w _) (lboxM _ _)
  have h0 : ((w.alloc (shO s k m)).alloc (irO x)).heap[w.heap.size]? = some (shO s k m) := kept_allocM (World.alloc_heap_new w _) _
  have h1 : ((w.alloc (shO s k m)).alloc (irO x)).heap[w.heap.size + 1]? = some (irO x) := by simpa using World.alloc_heap_new (w.alloc (shO s k m)) (irO x)
  have HX := Lib.hid (And.intro hb (And.intro h0 h1))
  have HA := Lib.hid (fun V => p_asked x s k m hk V)
  have hal := ask_len x hk
  clear hb h0 h1
  cases s with
  | false =>
    have HN : Hid (nameL x false k = askL x k) := Lib.hid (by unfold nameL; simp)
    rw [HN.out, hal]
    clear hal
    go_enter Tryd.func59, Tryd.ntmps59
    go_wp2_with (go_at_call 62; (with_reducible refine (HA.out _).mono ?_); rintro e w1 ⟨v1, rfl, ho, hb1⟩; have HY := Lib.hid (And.intro (own_baseM ho HX.out.1.size) (onM HX.out.1 hb1)); obtain ⟨A1, c1, rfl⟩ := own_formM ho; clear ho hb1)
    go_ret
    exact ⟨_, rfl, HY.out.1, HY.out.2⟩
  | true =>
    have HN : Hid ((nameL x true k).length = k + 1 ∧ izL (nameL x true k) = izL (askL x k) ++ [.int .i64 x.d]) := Lib.hid (by unfold nameL izL; simp [hal])
    rw [HN.out.1, HN.out.2]
    clear hal HN
    go_enter Tryd.func59, Tryd.ntmps59
    go_wp2
    have hR : Hid (Below ((w.alloc (shO true k m)).alloc (irO x)).heap.size ((w.alloc (shO true k m)).alloc (irO x)) ((w.alloc (shO true k m)).alloc (irO x)).drew) := Lib.hid (below_drawn (Below.refl _ _) 1)
    generalize hX0 : ((w.alloc (shO true k m)).alloc (irO x)) = X at HX hR
    clear hX0
    refine wp_region_held_drew (S := fun W' => Below X.heap.size X W') (by kernel_rfl) hR.out (fun hHeld => ?_)
    generalize X.drew = Y at hR hHeld ⊢
    refine wpAnyH_take (i := 0) (v := ?_) rfl (by kernel_rfl) (by kernel_rfl) (by kernel_rfl) (fun _ _ _ h => h) (Or.inl ⟨by rfl, ?_⟩) (by assumption) ?_
    rotate_left
    · intro wS hSw
      (have i0 := keepM HX.out.2.1 hSw; have i1 := keepM HX.out.2.2 hSw; have a0 := cellM i0 0 rfl; have a1 := cellM i0 1 rfl; have a2 := cellM i0 2 rfl; have e0 := cellM i1 0 rfl; have e1 := cellM i1 1 rfl; have e2 := cellM i1 2 rfl; have e3 := cellM i1 3 rfl; have e4 := cellM i1 4 rfl; have e5 := cellM i1 5 rfl; have e6 := cellM i1 6 rfl; clear hSw i0 i1)
      go_simp
      all_goals with_reducible rfl
    (try simp only [List.getElem_toArray, List.getElem_cons_zero, List.getElem_cons_succ, Act.put, List.setIfInBounds_toArray, List.set_cons_zero, List.set_cons_succ])
    refine wpAnyH_take (i := 1) (v := ?_) rfl (by kernel_rfl) (by kernel_rfl) (by kernel_rfl) (fun _ _ _ h => h) (Or.inl ⟨by rfl, ?_⟩) (by assumption) ?_
    rotate_left
    · intro wS hSw
      (have i0 := keepM HX.out.2.1 hSw; have i1 := keepM HX.out.2.2 hSw; have a0 := cellM i0 0 rfl; have a1 := cellM i0 1 rfl; have a2 := cellM i0 2 rfl; have e0 := cellM i1 0 rfl; have e1 := cellM i1 1 rfl; have e2 := cellM i1 2 rfl; have e3 := cellM i1 3 rfl; have e4 := cellM i1 4 rfl; have e5 := cellM i1 5 rfl; have e6 := cellM i1 6 rfl; clear hSw i0 i1)
      go_simp
      all_goals with_reducible rfl
    (try simp only [List.getElem_toArray, List.getElem_cons_zero, List.getElem_cons_succ, Act.put, List.setIfInBounds_toArray, List.set_cons_zero, List.set_cons_succ])
    refine wpAnyH_take (i := 3) (v := ?_) rfl (by kernel_rfl) (by kernel_rfl) (by kernel_rfl) (fun _ _ _ h => h) (Or.inl ⟨by rfl, ?_⟩) (by assumption) ?_
    rotate_left
    · intro wS hSw
      (have i0 := keepM HX.out.2.1 hSw; have i1 := keepM HX.out.2.2 hSw; have a0 := cellM i0 0 rfl; have a1 := cellM i0 1 rfl; have a2 := cellM i0 2 rfl; have e0 := cellM i1 0 rfl; have e1 := cellM i1 1 rfl; have e2 := cellM i1 2 rfl; have e3 := cellM i1 3 rfl; have e4 := cellM i1 4 rfl; have e5 := cellM i1 5 rfl; have e6 := cellM i1 6 rfl; clear hSw i0 i1)
      go_simp
      all_goals with_reducible rfl
    (try simp only [List.getElem_toArray, List.getElem_cons_zero, List.getElem_cons_succ, Act.put, List.setIfInBounds_toArray, List.set_cons_zero, List.set_cons_succ])
    refine wpAnyH_take (i := 4) (v := ?_) rfl (by kernel_rfl) (by kernel_rfl) (by kernel_rfl) (fun _ _ _ h => h) (Or.inl ⟨by rfl, ?_⟩) (by assumption) ?_
    rotate_left
    · intro wS hSw
      (have i0 := keepM HX.out.2.1 hSw; have i1 := keepM HX.out.2.2 hSw; have a0 := cellM i0 0 rfl; have a1 := cellM i0 1 rfl; have a2 := cellM i0 2 rfl; have e0 := cellM i1 0 rfl; have e1 := cellM i1 1 rfl; have e2 := cellM i1 2 rfl; have e3 := cellM i1 3 rfl; have e4 := cellM i1 4 rfl; have e5 := cellM i1 5 rfl; have e6 := cellM i1 6 rfl; clear hSw i0 i1)
      go_simp
      all_goals with_reducible rfl
    (try simp only [List.getElem_toArray, List.getElem_cons_zero, List.getElem_cons_succ, Act.put, List.setIfInBounds_toArray, List.set_cons_zero, List.set_cons_succ])
    refine wpAnyH_ready (rs := [2, 5]) (by kernel_rfl) (by simp) (AllReadyH.cons rfl (fun K hK => ?_) (AllReadyH.cons rfl (fun K hK => ?_) AllReadyH.nil))
    · skip
      go_simp
      go_at_call 62
      refine (HA.out _).mono ?_
      rintro e w4 ⟨v4, rfl, ho4, hb4⟩
      obtain ⟨A1, c1, rfl⟩ := own_formM ho4
      have hb5 := onM hR.out hb4
      refine hK.out _ _ hb5 (fun hH1 => ?_)
      have H4 := Lib.hid (And.intro (own_baseM ho4 hR.out.size) hb5)
      clear hK K hHeld ho4 hb4 hb5
      (try simp only [Act.put, List.setIfInBounds_toArray, List.set_cons_zero, List.set_cons_succ, List.getElem_toArray, List.getElem_cons_zero, List.getElem_cons_succ])
      refine held_one (i := 5) (by kernel_rfl) rfl (fun K hK => ?_)
      go_simp
      have hb6 := onM H4.out.2 (lboxM w4 (.cells #[.int .i64 x.d] 3))
      refine hK.out _ _ hb6 (fun hH2 => ?_)
      have HT := Lib.hid (And.intro hb6 (And.intro (own_below H4.out.1 (lboxM w4 (.cells #[.int .i64 x.d] 3))) (int_newM w4 (.int .i64 x.d) 3)))
      clear hK K hH1 hb6 H4
      (try simp only [Act.put, List.setIfInBounds_toArray, List.set_cons_zero, List.set_cons_succ, List.getElem_toArray, List.getElem_cons_zero, List.getElem_cons_succ])
      generalize w4.alloc (.cells #[.int .i64 x.d] 3) = Z at HT hH2 ⊢
      generalize w4.heap.size = g at HT hH2 ⊢
      have HT2 : Hid (Below w.heap.size w Z ∧ True) := Lib.hid ⟨(HX.out.1.trans (HT.out.1.mono HX.out.1.size)), trivial⟩
      obtain ⟨i8, hi8, hz8, hs8, hb8⟩ := info_parts6 info_intM
      refine held_one (i := 6) (by kernel_rfl) rfl (fun K hK => ?_)
      rw [if_pos (by kernel_rfl)]
      refine oper_append6 (.tmp 9) (.tmp 12) 54 rfl X.heap.size 3 i8 _ 1 8 Tryd.underlying54 hi8 hz8 hs8 hb8 rfl (by decide) (.slice A1 k c1) k (izL (askL x k)) rfl HT.out.2.1 ⟨g, 0, none⟩ 1 1 [.int .i64 x.d] rfl rfl HT.out.2.2 (int_oneM _ _) (by unfold maxLen; omega) (by omega) HT.out.1.size ?_
      intro v' Y4 ho hg hv
      have hbel := below_own HT.out.1 HT.out.2.1 hg (Nat.le_refl _)
      have HE := Lib.hid (show Y4.ownsRow w.heap.size 3 1 v' (k + 1) (izL (askL x k) ++ [.int .i64 x.d]) ∧ Below w.heap.size w Y4 from ⟨own_baseM ho HX.out.1.size, HX.out.1.trans (hbel.mono HX.out.1.size)⟩)
      refine hK.out _ _ hbel (fun hH3 => ?_)
      obtain ⟨A4, c4, rfl⟩ := own_formM ho
      clear hK K hH2 ho hg hv hbel HT hi8
      (try simp only [Act.put, List.setIfInBounds_toArray, List.set_cons_zero, List.set_cons_succ, List.getElem_toArray, List.getElem_cons_zero, List.getElem_cons_succ])
      refine wpAnyH_take (i := 7) (v := ?_) rfl (by kernel_rfl) (by kernel_rfl) (by kernel_rfl) (fun _ _ _ h => h) (Or.inl ⟨by rfl, ?_⟩) (by assumption) ?_
      rotate_left
      · intro wS hSw
        (skip)
        go_simp
        all_goals with_reducible rfl
      (try simp only [List.getElem_toArray, List.getElem_cons_zero, List.getElem_cons_succ, Act.put, List.setIfInBounds_toArray, List.set_cons_zero, List.set_cons_succ])
      refine wpAnyH_done (by kernel_rfl) ?_ _
      go_wp2
      go_ret
      exact ⟨_, rfl, HE.out.1, HE.out.2⟩
    · skip
      go_simp
      have hb5 := onM hR.out (lboxM Y (.cells #[.int .i64 x.d] 3))
      refine hK.out _ _ hb5 (fun hH1 => ?_)
      have H4 := Lib.hid (And.intro hb5 (And.intro (int_newM Y (.int .i64 x.d) 3) (show Y.heap.size < (Y.alloc (.cells #[.int .i64 x.d] 3)).heap.size by simp)))
      clear hK K hHeld hb5
      (try simp only [Act.put, List.setIfInBounds_toArray, List.set_cons_zero, List.set_cons_succ, List.getElem_toArray, List.getElem_cons_zero, List.getElem_cons_succ])
      generalize Y.alloc (.cells #[.int .i64 x.d] 3) = Y5 at H4 hH1 ⊢
      generalize Y.heap.size = g at H4 ⊢
      refine held_one (i := 2) (by kernel_rfl) rfl (fun K hK => ?_)
      go_simp
      go_at_call 62
      refine (HA.out _).mono ?_
      rintro e w4 ⟨v4, rfl, ho4, hb4⟩
      obtain ⟨A1, c1, rfl⟩ := own_formM ho4
      have hb6 := onM H4.out.1 hb4
      refine hK.out _ _ hb6 (fun hH2 => ?_)
      have HT : Hid (Below X.heap.size X w4 ∧ w4.ownsRow X.heap.size 3 1 (.slice A1 k c1) k (izL (askL x k)) ∧ ∀ j u, ([.int .i64 x.d] : List Value)[j]? = some u → w4.cell? ((⟨g, 0, none⟩ : Addr).add j) = some u) := Lib.hid ⟨hb6, own_baseM ho4 H4.out.1.size, fun j u hj => (hb4.cell (p := (⟨g, 0, none⟩ : Addr).add j) (by rw [addr_add]; exact H4.out.2.2)).trans (H4.out.2.1 j u hj)⟩
      clear hK K hH1 hb6 ho4 hb4 H4
      (try simp only [Act.put, List.setIfInBounds_toArray, List.set_cons_zero, List.set_cons_succ, List.getElem_toArray, List.getElem_cons_zero, List.getElem_cons_succ])
      generalize w4 = Z at HT hH2 ⊢
      have HT2 : Hid (Below w.heap.size w Z ∧ True) := Lib.hid ⟨(HX.out.1.trans (HT.out.1.mono HX.out.1.size)), trivial⟩
      obtain ⟨i8, hi8, hz8, hs8, hb8⟩ := info_parts6 info_intM
      refine held_one (i := 6) (by kernel_rfl) rfl (fun K hK => ?_)
      rw [if_pos (by kernel_rfl)]
      refine oper_append6 (.tmp 9) (.tmp 12) 54 rfl X.heap.size 3 i8 _ 1 8 Tryd.underlying54 hi8 hz8 hs8 hb8 rfl (by decide) (.slice A1 k c1) k (izL (askL x k)) rfl HT.out.2.1 ⟨g, 0, none⟩ 1 1 [.int .i64 x.d] rfl rfl HT.out.2.2 (int_oneM _ _) (by unfold maxLen; omega) (by omega) HT.out.1.size ?_
      intro v' Y4 ho hg hv
      have hbel := below_own HT.out.1 HT.out.2.1 hg (Nat.le_refl _)
      have HE := Lib.hid (show Y4.ownsRow w.heap.size 3 1 v' (k + 1) (izL (askL x k) ++ [.int .i64 x.d]) ∧ Below w.heap.size w Y4 from ⟨own_baseM ho HX.out.1.size, HX.out.1.trans (hbel.mono HX.out.1.size)⟩)
      refine hK.out _ _ hbel (fun hH3 => ?_)
      obtain ⟨A4, c4, rfl⟩ := own_formM ho
      clear hK K hH2 ho hg hv hbel HT hi8
      (try simp only [Act.put, List.setIfInBounds_toArray, List.set_cons_zero, List.set_cons_succ, List.getElem_toArray, List.getElem_cons_zero, List.getElem_cons_succ])
      refine wpAnyH_take (i := 7) (v := ?_) rfl (by kernel_rfl) (by kernel_rfl) (by kernel_rfl) (fun _ _ _ h => h) (Or.inl ⟨by rfl, ?_⟩) (by assumption) ?_
      rotate_left
      · intro wS hSw
        (skip)
        go_simp
        all_goals with_reducible rfl
      (try simp only [List.getElem_toArray, List.getElem_cons_zero, List.getElem_cons_succ, Act.put, List.setIfInBounds_toArray, List.set_cons_zero, List.set_cons_succ])
      refine wpAnyH_done (by kernel_rfl) ?_ _
      go_wp2
      go_ret
      exact ⟨_, rfl, HE.out.1, HE.out.2⟩

set_option maxHeartbeats 1000000 in
theorem p_within (A : Option Addr) (c : Nat) (l : List Int) (from_ to : Int) (hl : l.length ≤ 1000) (w : World) (h : IzAt w A l) : Calls Tryd.prog 58 #[.slice A l.length c, .int .i64 from_, .int .i64 to] w fun e w' => e = .returned (.bool (decide (∀ z ∈ l, from_ ≤ z ∧ z < to))) ∧ w' = w := by
  have HI := Lib.hid h
  clear h
  obtain ⟨r, hr⟩ : ∃ r, r = decide (∀ z ∈ l, from_ ≤ z ∧ z < to) := ⟨_, rfl⟩
  rw [← hr]
  have HR := Lib.hid hr
  clear hr
  go_enter Tryd.func58, Tryd.ntmps58
  go_wp2
  go_loopw [11] (fun v wr => ∃ k : Nat, k ≤ l.length ∧ v = .int .i64 (k : Int) ∧ (∀ j, j < k → from_ ≤ l.getD j 0 ∧ l.getD j 0 < to) ∧ wr = w) (fun v _ => l.length - (intOf v).toNat)
  case atStart => exact ⟨0, by omega, rfl, fun j hj => absurd hj (by omega), rfl⟩
  case round =>
    obtain ⟨k, hk, rfl, hall, rfl⟩ := hrel
    have HL := Lib.hid hall
    clear hall
    by_cases hlt : k < l.length
    · have hlt' : (k : Int) < (l.length : Int) := by omega
      obtain ⟨b, o, rfl, hb, hc⟩ := iz_cell HI.out hlt
      have hin : l.getD k 0 ∈ l := by rw [List.getD_eq_getElem?_getD, List.getElem?_eq_getElem hlt]; exact List.getElem_mem hlt
      have HM := Lib.hid hin
      clear hin
      generalize hz : l.getD k 0 = z at hc HM
      have HZ := Lib.hid hz
      clear hz
      by_cases h1 : z < from_
      · have HN : Hid (decide (∀ z ∈ l, from_ ≤ z ∧ z < to) = false) := Lib.hid (decide_eq_false fun g => by have := g z HM.out; omega)
        go_wp2
        go_ret
        exact ⟨ret_bM (by rw [HR.out, HN.out]), rfl⟩
      by_cases h2 : to ≤ z
      · have HN : Hid (decide (∀ z ∈ l, from_ ≤ z ∧ z < to) = false) := Lib.hid (decide_eq_false fun g => by have := g z HM.out; omega)
        go_wp2
        go_ret
        exact ⟨ret_bM (by rw [HR.out, HN.out]), rfl⟩
      go_wp2
      exact ⟨⟨k + 1, by omega, by go_num, fun j hj => by
        rcases Nat.lt_or_ge j k with g | g
        · exact HL.out j g
        · rw [show j = k by omega, HZ.out]; omega, by first | rfl | trivial⟩, by simp [intOf]; omega⟩
    · obtain rfl : k = l.length := by omega
      have HN : Hid (decide (∀ z ∈ l, from_ ≤ z ∧ z < to) = true) := Lib.hid (decide_eq_true fun z hz => by
        obtain ⟨j, hj, rfl⟩ := List.getElem_of_mem hz
        have := HL.out j hj
        rwa [List.getD_eq_getElem?_getD, List.getElem?_eq_getElem hj] at this)
      clear HL
      go_wp2
      go_ret
      exact ⟨ret_bM (by rw [HR.out, HN.out]), rfl⟩
end Go.Proofs.YtoajommeiocfpaaDoor

/-
  The program's relations: a map that a function makes, what a look-up answers, what each relation answers. Conditions: those that each names.
-/
import Derived.Test.YtgeapkjegemkeaaDoorSemExpr
import Derived.Maps.OwnOps
import Derived.Maps.Views
namespace Go.Proofs.YtgeapkjegemkeaaDoor
open Go Go.RowKit
open Go.Maps (Keyed)
set_option linter.unusedSimpArgs false
set_option linter.unusedVariables false

/-- A function's value, or none, as a number. -/
def fnR7 (v : Value) : Option (DataW Unit × List MemPlace) :=
  match v with
  | .nilFunc => some (.lit (.int .i64 (-1)), [])
  | .func (.func f) first captured => if first = #[] ∧ captured = #[] then some (.lit (.int .i64 (f : Int)), []) else none
  | _ => none
theorem fnR7_fn {v : Value} {f : Nat} {ps : List MemPlace} (h : fnR7 v = some (.lit (.int .i64 (f : Int)), ps)) : v = .func (.func f) #[] #[] := by
  unfold fnR7 at h
  split at h
  · simp at h
  · rename_i f' fi ca
    split at h
    · rename_i hc
      obtain ⟨rfl, rfl⟩ := hc
      simp at h
      rw [show f' = f from Int.ofNat.inj h.1]
    · cases h
  · cases h
/-- Which function stands for a relation. -/
def rels7L : List (Int × Nat) := [(1, 45), (2, 46), (3, 47), (4, 48), (5, 49), (6, 50)]
def relD : List (Int × Nat) → DataW Unit → DataW Unit
  | [], D => D
  | x :: r, D => relD r (D.put (.int .i64 x.1) (.lit (.int .i64 (x.2 : Int))))
def relFn : List (Int × Nat) → Int → Int → Int
  | [], _, d => d
  | x :: r, c, d => relFn r c (if x.1 = c then (x.2 : Int) else d)
theorem relD_at : ∀ (l : List (Int × Nat)) (D : DataW Unit) (hD : Maps.IsMap D) (c d : Int), D.atKey (.int .i64 c) (.lit (.int .i64 (-1))) = .lit (.int .i64 d) → (relD l D).atKey (.int .i64 c) (.lit (.int .i64 (-1))) = .lit (.int .i64 (relFn l c d))
  | [], D, hD, c, d, h => h
  | x :: r, D, hD, c, d, h => by
    refine relD_at r _ (Maps.IsMap.put hD _ _) c _ ?_
    by_cases e : x.1 = c
    · rw [if_pos e, ← e, Maps.atKey_put_same hD (by trivial)]
    · rw [if_neg e, Maps.atKey_put_other (fun g => e (by injection g with _ g; exact g.symm)), h]
/-- The map lies in block b. -/
def RelMap (w : World) (b : Nat) : Prop := w.ownsMap Tryd.prog 42 fnR7 b 6 (relD rels7L (.map []))
theorem RelMap.below {w w' : World} {B b : Nat} (h : RelMap w b) (hb : Below B w w') (hlt : b < B) : RelMap w' b := by
  obtain ⟨es, clock, hh, hr⟩ := h
  exact ⟨es, clock, (hb.block b hlt).trans hh, hr⟩
theorem RelMap.lt {w : World} {b : Nat} (h : RelMap w b) : b < w.heap.size := World.ownsMap.lt h
theorem RelMap.up {w w' : World} {b : Nat} (h : RelMap w b) (hb : Below w.heap.size w w') : RelMap w' b := h.below hb h.lt
theorem under_rel7 : Tryd.prog.underlying 42 = some (.int .i64) := Tryd.underlying42
theorem under_rels7 : Tryd.prog.underlying 75 = some (.map 42 111) := Tryd.underlying75
theorem zero_rel7 (w : World) : (zeroValue 111).run Tryd.prog w = .ok .nilFunc w := by kernel_rfl
theorem rel_has (c : Int) (hc : 1 ≤ c ∧ c ≤ 6) : (Lit.int .i64 c).wf = true := by simp [Lit.wf, IntKind.has, IntKind.min, IntKind.max, IntKind.bits, IntKind.signed]; omega
theorem rel_fn {w : World} {b : Nat} (h : RelMap w b) (c : Int) (f : Nat) (hc : 1 ≤ c ∧ c ≤ 6) (hs : relFn rels7L c (-1) = (f : Int)) : (Instr.lookup 75 (.map (some b)) (.int .i64 c) false).run Tryd.prog w = .ok (.func (.func f) #[] #[]) w := by
  obtain ⟨v, ps, hrun, hR⟩ := World.ownsMap.lookup h (Maps.int_keyed under_rel7) under_rels7 (zero_rel7 w) (zd := .lit (.int .i64 (-1))) (zp := []) rfl (Maps.keyOf_int_mk under_rel7 (a := c) (rel_has c hc))
  rw [relD_at rels7L (.map []) ⟨[], rfl⟩ c (-1) rfl, hs] at hR
  rw [hrun, fnR7_fn hR]
/-- While the map is filled. -/
def Filling7 (w w' : World) (b n : Nat) (D : DataW Unit) : Prop := w'.ownsMap Tryd.prog 42 fnR7 b n D ∧ Below b w w'
theorem fill_start7 (w : World) : Filling7 w (w.alloc (.map #[] 0)) w.heap.size 0 (.map []) := ⟨World.ownsMap_made _ _ _ _, lbox w _⟩
theorem wpList_fill7 {w w1 : World} {b n : Nat} {D : DataW Unit} (h : Filling7 w w1 b n D) (hn : n < 1000) {ops : Array Oper} {rest : List Oper} {o : Oper} {a : Act} {Q : Exit → Act → World → Prop} (hg : o.guard = none) (hd : o.dst = none) (c : Int) (f : Nat) (m : Operand)
    (ho : o.op = Op.insert 75 m (.const (.int .i64 c)) (.func f)) (hm : a.eval m = .map (some b)) (hc : 1 ≤ c ∧ c ≤ 6)
    (hK : ∀ w', Filling7 w w' b (n + 1) (D.put (.int .i64 c) (.lit (.int .i64 (f : Int)))) → wpList Tryd.prog ops Q rest a w') : wpList Tryd.prog ops Q (o :: rest) a w1 := by
  refine wpList_plain hg fun K' hK' => ?_
  obtain ⟨w', hrun, r1, r2⟩ := World.ownsMap.update h.1 (Maps.int_keyed under_rel7) under_rels7 (by unfold maxLen; omega) (key := .int .i64 c) (val := .func (.func f) #[] #[]) (kl := .int .i64 c) (d := .lit (.int .i64 (f : Int))) (ps := [])
    (Maps.keyOf_int_mk under_rel7 (a := c) (rel_has c hc)) rfl
  have hx : a.eval (.const (.int .i64 c)) = .int .i64 c := rfl
  have hv : a.eval (.func f) = .func (.func f) #[] #[] := rfl
  unfold Oper.wp
  simp [execOp, ho, hm, hx, hv, hrun, Result.andThen]
  refine hK' _ _ ?_
  rw [hd]
  exact hK w' ⟨r1, h.2.trans ⟨r2.os, r2.tape, r2.output, r2.size, fun i hi => r2.block i (Nat.lt_of_lt_of_le hi (Nat.le_trans (Nat.le_of_lt (World.ownsMap.lt h.1)) (Nat.le_refl _))) (fun e => by injection e with e; omega)⟩⟩
set_option maxRecDepth 100000 in
set_option maxHeartbeats 4000000 in
theorem p_relations (w : World) : Calls Tryd.prog 36 #[] w fun e w' => e = .returned (.map (some w.heap.size)) ∧ RelMap w' w.heap.size ∧ Below w.heap.size w w' := by
  have hmm := @run_makeMap Tryd.prog
  have H0 := Lib.hid (fill_start7 w)
  have H1 := Lib.hid (show w.heap.size < (w.alloc (.map #[] 0)).heap.size by simp)
  go_enter Tryd.func36, Tryd.ntmps36
  go_wp2_with (refine wpList_fill7 H0.out (by decide) rfl rfl _ _ _ rfl rfl (by decide) (fun w1 h1 => ?_); clear H0; have H0 := Lib.hid h1; clear h1)
  go_ret
  exact ⟨rfl, H0.out.1, H0.out.2⟩
/-- What a relation's function answers. -/
def RelIs (f : Nat) (r : Int) : Prop := ∀ (a b : Nat) (w : World), Calls Tryd.prog f #[.int .u64 (a : Int), .int .u64 (b : Int)] w fun e w' => e = .returned (.bool (relB r a b)) ∧ w = w'
set_option maxRecDepth 100000 in
theorem p_equal : RelIs 45 1 := fun a b w => by
  have hE : relB 1 a b = ((a : Int) == (b : Int)) := by
    have e : relB 1 a b = decide (a = b) := by unfold relB; simp
    rw [e]
    by_cases h : a = b
    · rw [decide_eq_true h]; exact (beq_iff_eq.2 (by omega) : ((a : Int) == (b : Int)) = true).symm
    · rw [decide_eq_false h]; exact (beq_false_of_ne (by omega) : ((a : Int) == (b : Int)) = false).symm
  rw [hE]
  clear hE
  go_enter Tryd.func45, Tryd.ntmps45
  go_wp2
  go_ret
  exact ⟨rfl, rfl⟩
set_option maxRecDepth 100000 in
theorem p_unequal : RelIs 46 2 := fun a b w => by
  have hE : relB 2 a b = ((a : Int) != (b : Int)) := by
    have e : relB 2 a b = decide (a ≠ b) := by unfold relB; simp
    rw [e]
    by_cases h : a ≠ b
    · rw [decide_eq_true h]; exact (bne_iff_ne.2 (by omega) : ((a : Int) != (b : Int)) = true).symm
    · rw [decide_eq_false h]; exact (by rw [show a = b by omega]; exact bne_self_eq_false _ : ((a : Int) != (b : Int)) = false).symm
  rw [hE]
  clear hE
  go_enter Tryd.func46, Tryd.ntmps46
  go_wp2
  go_ret
  exact ⟨rfl, rfl⟩
set_option maxRecDepth 100000 in
theorem p_below : RelIs 47 3 := fun a b w => by
  have hE : relB 3 a b = decide (a < b) := by unfold relB; simp
  rw [hE]
  clear hE
  go_enter Tryd.func47, Tryd.ntmps47
  go_wp2
  go_ret
  exact ⟨rfl, rfl⟩
set_option maxRecDepth 100000 in
theorem p_notAbove : RelIs 48 4 := fun a b w => by
  have hE : relB 4 a b = decide (a ≤ b) := by unfold relB; simp
  rw [hE]
  clear hE
  go_enter Tryd.func48, Tryd.ntmps48
  go_wp2
  go_ret
  exact ⟨rfl, rfl⟩
set_option maxRecDepth 100000 in
theorem p_above : RelIs 49 5 := fun a b w => by
  have hE : relB 5 a b = decide (b < a) := by unfold relB; simp
  rw [hE]
  clear hE
  go_enter Tryd.func49, Tryd.ntmps49
  go_wp2
  go_ret
  exact ⟨rfl, rfl⟩
set_option maxRecDepth 100000 in
theorem p_notBelow : RelIs 50 6 := fun a b w => by
  have hE : relB 6 a b = decide (b ≤ a) := by unfold relB; simp
  rw [hE]
  clear hE
  go_enter Tryd.func50, Tryd.ntmps50
  go_wp2
  go_ret
  exact ⟨rfl, rfl⟩
/-- What a relation is looked up as. -/
theorem rel_any (r : Int) (hr : 1 ≤ r ∧ r ≤ 6) : ∃ f : Nat, relFn rels7L r (-1) = (f : Int) ∧ Go.Proofs.Enters Tryd.prog f ∧ RelIs f r := by
  have : r = 1 ∨ r = 2 ∨ r = 3 ∨ r = 4 ∨ r = 5 ∨ r = 6 := by omega
  rcases this with rfl | rfl | rfl | rfl | rfl | rfl
  · exact ⟨45, rfl, Go.Proofs.enters_of Tryd.func45 (by kernel_rfl) rfl, p_equal⟩
  · exact ⟨46, rfl, Go.Proofs.enters_of Tryd.func46 (by kernel_rfl) rfl, p_unequal⟩
  · exact ⟨47, rfl, Go.Proofs.enters_of Tryd.func47 (by kernel_rfl) rfl, p_below⟩
  · exact ⟨48, rfl, Go.Proofs.enters_of Tryd.func48 (by kernel_rfl) rfl, p_notAbove⟩
  · exact ⟨49, rfl, Go.Proofs.enters_of Tryd.func49 (by kernel_rfl) rfl, p_above⟩
  · exact ⟨50, rfl, Go.Proofs.enters_of Tryd.func50 (by kernel_rfl) rfl, p_notBelow⟩
end Go.Proofs.YtgeapkjegemkeaaDoor

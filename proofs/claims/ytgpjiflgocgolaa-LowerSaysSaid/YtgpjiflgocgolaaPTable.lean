/-
  The program's table of operations: a map that a function makes, from codes to functions: what it holds, what a look-up answers. Conditions: those that each names.
-/
import Derived.Test.YtgpjiflgocgolaaCbpfAll
import Derived.Test.YtgpjiflgocgolaaMemory
import Derived.Maps.OwnOps
import Derived.Maps.Views
namespace Go.Proofs.Ytgpjiflgocgolaa
open Go Go.RowKit
open Go.Maps (Keyed)
set_option linter.unusedSimpArgs false
set_option linter.unusedVariables false
set_option maxRecDepth 100000

/-- A function's value, or none, as a number. -/
def fnR (v : Value) : Option (DataW Unit × List MemPlace) :=
  match v with
  | .nilFunc => some (.lit (.int .i64 (-1)), [])
  | .func (.func f) first captured => if first = #[] ∧ captured = #[] then some (.lit (.int .i64 (f : Int)), []) else none
  | _ => none
theorem fnR_nil {v : Value} {ps : List MemPlace} (h : fnR v = some (.lit (.int .i64 (-1)), ps)) : v = .nilFunc := by
  unfold fnR at h
  split at h
  · rfl
  · split at h
    · simp at h
    · cases h
  · cases h
theorem fnR_fn {v : Value} {f : Nat} {ps : List MemPlace} (h : fnR v = some (.lit (.int .i64 (f : Int)), ps)) : v = .func (.func f) #[] #[] := by
  unfold fnR at h
  split at h
  · simp at h
  · rename_i f' fi ca
    split at h
    · rename_i hc
      obtain ⟨rfl, rfl⟩ := hc
      simp at h
      rw [show f' = f from Int.ofNat.inj h.1]
    · cases h
  · cases h
/-- Which function stands for a code. -/
def opL : List (Int × Nat) := [(32, 60), (128, 61), (129, 62), (0, 63), (1, 64), (96, 65), (97, 66), (2, 67), (3, 68), (4, 69), (12, 69), (20, 70), (28, 70), (36, 71), (44, 71), (52, 72), (60, 72), (68, 73), (76, 73), (84, 74), (92, 74), (100, 75), (108, 75), (116, 76), (124, 76), (164, 77), (172, 77), (132, 78), (5, 79), (21, 80), (29, 80), (37, 81), (45, 81), (53, 82), (61, 82), (69, 83), (77, 83), (6, 84), (22, 85), (7, 86), (135, 87)]
def opD : List (Int × Nat) → DataW Unit → DataW Unit
  | [], D => D
  | x :: r, D => opD r (D.put (.int .u16 x.1) (.lit (.int .i64 (x.2 : Int))))
def opF : List (Int × Nat) → Int → Int → Int
  | [], _, d => d
  | x :: r, c, d => opF r c (if x.1 = c then (x.2 : Int) else d)
theorem opD_at : ∀ (l : List (Int × Nat)) (D : DataW Unit) (hD : Maps.IsMap D) (c d : Int), D.atKey (.int .u16 c) (.lit (.int .i64 (-1))) = .lit (.int .i64 d) → (opD l D).atKey (.int .u16 c) (.lit (.int .i64 (-1))) = .lit (.int .i64 (opF l c d))
  | [], D, hD, c, d, h => h
  | x :: r, D, hD, c, d, h => by
    refine opD_at r _ (Maps.IsMap.put hD _ _) c _ ?_
    by_cases e : x.1 = c
    · rw [if_pos e, ← e, Maps.atKey_put_same hD (by trivial)]
    · rw [if_neg e, Maps.atKey_put_other (fun g => e (by injection g with _ g; exact g.symm)), h]
/-- The table lies in block b. -/
def OpsMap (w : World) (b : Nat) : Prop := w.ownsMap Try.prog 23 fnR b 41 (opD opL (.map []))
theorem OpsMap.below {w w' : World} {B b : Nat} (h : OpsMap w b) (hb : Below B w w') (hlt : b < B) : OpsMap w' b := by
  obtain ⟨es, clock, hh, hr⟩ := h
  exact ⟨es, clock, (hb.block b hlt).trans hh, hr⟩
theorem OpsMap.grown {w w' : World} {b g : Nat} (h : OpsMap w b) (hg : w.grownBy w' (some g)) (hne : b ≠ g) : OpsMap w' b := World.ownsMap.kept h hg (fun e => hne (by injection e))
theorem OpsMap.drew {w : World} {b : Nat} (h : OpsMap w b) : OpsMap w.drew b := h
theorem OpsMap.drawn {w : World} {b : Nat} (h : OpsMap w b) (n : Nat) : OpsMap (w.drewN n) b := h
theorem OpsMap.alloc {w : World} {b : Nat} (h : OpsMap w b) (o : Obj) : OpsMap (w.alloc o) b := World.ownsMap.alloc h o
theorem OpsMap.lt {w : World} {b : Nat} (h : OpsMap w b) : b < w.heap.size := World.ownsMap.lt h
theorem under_u16 : Try.prog.underlying 23 = some (.int .u16) := Try.underlying23
theorem under_ops : Try.prog.underlying 85 = some (.map 23 91) := Try.underlying85
theorem zero_fn (w : World) : (zeroValue 91).run Try.prog w = .ok .nilFunc w := by kernel_rfl
/-- What a look-up answers. -/
theorem ops_at {w : World} {b : Nat} (h : OpsMap w b) (c : Int) (hc : 0 ≤ c ∧ c < 65536) : ∃ v ps, (Instr.lookup 85 (.map (some b)) (.int .u16 c) false).run Try.prog w = .ok v w ∧ fnR v = some (.lit (.int .i64 (opF opL c (-1))), ps) := by
  obtain ⟨v, ps, hrun, hR⟩ := World.ownsMap.lookup h (Maps.int_keyed under_u16) under_ops (zero_fn w) (zd := .lit (.int .i64 (-1))) (zp := []) rfl (Maps.keyOf_int_mk under_u16 (a := c) (by simp [Lit.wf, IntKind.has, IntKind.min, IntKind.max, IntKind.bits, IntKind.signed]; omega))
  refine ⟨v, ps, hrun, ?_⟩
  rw [hR, opD_at opL (.map []) ⟨[], rfl⟩ c (-1) rfl]
theorem ops_nil {w : World} {b : Nat} (h : OpsMap w b) (c : Int) (hc : 0 ≤ c ∧ c < 65536) (hs : sealsC c = false) : (Instr.lookup 85 (.map (some b)) (.int .u16 c) false).run Try.prog w = .ok .nilFunc w := by
  obtain ⟨v, ps, hrun, hR⟩ := ops_at h c hc
  have e : opF opL c (-1) = -1 := by
    have h1 : ∀ k : Int, sealsC k = true → ¬ k = c := fun k hk e => by rw [e, hs] at hk; cases hk
    simp only [opL, opF]
    rw [if_neg (h1 135 rfl)]
    rw [if_neg (h1 7 rfl)]
    rw [if_neg (h1 22 rfl)]
    rw [if_neg (h1 6 rfl)]
    rw [if_neg (h1 77 rfl)]
    rw [if_neg (h1 69 rfl)]
    rw [if_neg (h1 61 rfl)]
    rw [if_neg (h1 53 rfl)]
    rw [if_neg (h1 45 rfl)]
    rw [if_neg (h1 37 rfl)]
    rw [if_neg (h1 29 rfl)]
    rw [if_neg (h1 21 rfl)]
    rw [if_neg (h1 5 rfl)]
    rw [if_neg (h1 132 rfl)]
    rw [if_neg (h1 172 rfl)]
    rw [if_neg (h1 164 rfl)]
    rw [if_neg (h1 124 rfl)]
    rw [if_neg (h1 116 rfl)]
    rw [if_neg (h1 108 rfl)]
    rw [if_neg (h1 100 rfl)]
    rw [if_neg (h1 92 rfl)]
    rw [if_neg (h1 84 rfl)]
    rw [if_neg (h1 76 rfl)]
    rw [if_neg (h1 68 rfl)]
    rw [if_neg (h1 60 rfl)]
    rw [if_neg (h1 52 rfl)]
    rw [if_neg (h1 44 rfl)]
    rw [if_neg (h1 36 rfl)]
    rw [if_neg (h1 28 rfl)]
    rw [if_neg (h1 20 rfl)]
    rw [if_neg (h1 12 rfl)]
    rw [if_neg (h1 4 rfl)]
    rw [if_neg (h1 3 rfl)]
    rw [if_neg (h1 2 rfl)]
    rw [if_neg (h1 97 rfl)]
    rw [if_neg (h1 96 rfl)]
    rw [if_neg (h1 1 rfl)]
    rw [if_neg (h1 0 rfl)]
    rw [if_neg (h1 129 rfl)]
    rw [if_neg (h1 128 rfl)]
    rw [if_neg (h1 32 rfl)]
  rw [e] at hR
  rw [hrun, fnR_nil hR]
theorem ops_fn {w : World} {b : Nat} (h : OpsMap w b) (c : Int) (f : Nat) (hc : 0 ≤ c ∧ c < 65536) (hs : opF opL c (-1) = (f : Int)) : (Instr.lookup 85 (.map (some b)) (.int .u16 c) false).run Try.prog w = .ok (.func (.func f) #[] #[]) w := by
  obtain ⟨v, ps, hrun, hR⟩ := ops_at h c hc
  rw [hs] at hR
  rw [hrun, fnR_fn hR]

/-- While the table is filled. -/
def Filling (w w' : World) (b n : Nat) (D : DataW Unit) : Prop := w'.ownsMap Try.prog 23 fnR b n D ∧ Below b w w'
theorem fill_start (w : World) : Filling w (w.alloc (.map #[] 0)) w.heap.size 0 (.map []) := ⟨World.ownsMap_made _ _ _ _, box_below w _⟩
theorem wpList_fill {w w1 : World} {b n : Nat} {D : DataW Unit} (h : Filling w w1 b n D) (hn : n < 1000) {ops : Array Oper} {rest : List Oper} {o : Oper} {a : Act} {Q : Exit → Act → World → Prop} (hg : o.guard = none) (hd : o.dst = none) (c : Int) (f : Nat) (m : Operand)
    (ho : o.op = Op.insert 85 m (.const (.int .u16 c)) (.func f)) (hm : a.eval m = .map (some b)) (hc : 0 ≤ c ∧ c < 65536)
    (hK : ∀ w', Filling w w' b (n + 1) (D.put (.int .u16 c) (.lit (.int .i64 (f : Int)))) → wpList Try.prog ops Q rest a w') : wpList Try.prog ops Q (o :: rest) a w1 := by
  refine wpList_plain hg fun K' hK' => ?_
  obtain ⟨w', hrun, r1, r2⟩ := World.ownsMap.update h.1 (Maps.int_keyed under_u16) under_ops (by unfold maxLen; omega) (key := .int .u16 c) (val := .func (.func f) #[] #[]) (kl := .int .u16 c) (d := .lit (.int .i64 (f : Int))) (ps := [])
    (Maps.keyOf_int_mk under_u16 (a := c) (by simp [Lit.wf, IntKind.has, IntKind.min, IntKind.max, IntKind.bits, IntKind.signed]; omega)) rfl
  have hx : a.eval (.const (.int .u16 c)) = .int .u16 c := rfl
  have hv : a.eval (.func f) = .func (.func f) #[] #[] := rfl
  unfold Oper.wp
  simp [execOp, ho, hm, hx, hv, hrun, Result.andThen]
  refine hK' _ _ ?_
  rw [hd]
  exact hK w' ⟨r1, h.2.trans ⟨r2.os, r2.tape, r2.output, r2.size, fun i hi => r2.block i (Nat.lt_of_lt_of_le hi (Nat.le_trans (Nat.le_of_lt (World.ownsMap.lt h.1)) (Nat.le_refl _))) (fun e => by injection e with e; omega)⟩⟩
set_option maxRecDepth 100000 in
set_option maxHeartbeats 4000000 in
theorem cbpf_operations (w : World) : Calls Try.prog 46 #[] w fun e w' => e = .returned (.map (some w.heap.size)) ∧ OpsMap w' w.heap.size ∧ Below w.heap.size w w' := by
  have hmm := @run_makeMap Try.prog
  have H0 := Lib.hid (fill_start w)
  have H1 := Lib.hid (show w.heap.size < (w.alloc (.map #[] 0)).heap.size by simp)
  go_enter Try.func46, Try.ntmps46
  go_wp2_with (refine wpList_fill H0.out (by decide) rfl rfl _ _ _ rfl rfl (by decide) (fun w1 h1 => ?_); clear H0; have H0 := Lib.hid h1; clear h1)
  go_ret
  exact ⟨rfl, H0.out.1, H0.out.2⟩
end Go.Proofs.Ytgpjiflgocgolaa

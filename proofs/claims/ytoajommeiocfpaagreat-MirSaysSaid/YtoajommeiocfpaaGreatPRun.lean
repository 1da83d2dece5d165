/-
  The program's machine of classic BPF: its table of operations, its faults, its steps, its runs: contracts. Conditions: those that each names.
-/
import Derived.Test.YtoajommeiocfpaaGreatCbpfSpec
import Derived.Test.YtoajommeiocfpaaGreatMemory
import Derived.Maps.OwnOps
import Derived.Maps.Views
import Derived.Test.YtoajommeiocfpaaGreatCbpfStep
import Derived.Test.YtoajommeiocfpaaGreatPMach
import Derived.Test.YtoajommeiocfpaaGreatCbpfGoes
import Derived.Test.YtoajommeiocfpaaGreatPOps
import Derived.Shelf.Abstract
import Derived.Test.YtoajommeiocfpaaGreatCbpfStepped
import Derived.Test.YtoajommeiocfpaaGreatCbpfRun
import Derived.Test.YtoajommeiocfpaaGreatCbpfLent
import Derived.Test.YtoajommeiocfpaaGreatCbpfArgs
namespace Go.Proofs.YtoajommeiocfpaaGreat
open Go Go.RowKit
open Go.Maps (Keyed)
set_option linter.unusedSimpArgs false
set_option linter.unusedVariables false
set_option maxRecDepth 100000

/-- A function's value, or none, as a number. -/
def fnR (v : Value) : Option (DataW Unit × List MemPlace) :=
  match v with
  | .nilFunc => some (.lit (.int .i64 (-1)), [])
  | .func (.func f) first captured => if first = #[] ∧ captured = #[] then some (.lit (.int .i64 (f : Int)), []) else none
  | _ => none
theorem fnR_nil {v : Value} {ps : List MemPlace} (h : fnR v = some (.lit (.int .i64 (-1)), ps)) : v = .nilFunc := by
  unfold fnR at h
  split at h
  · rfl
  · split at h
    · simp at h
    · cases h
  · cases h
theorem fnR_fn {v : Value} {f : Nat} {ps : List MemPlace} (h : fnR v = some (.lit (.int .i64 (f : Int)), ps)) : v = .func (.func f) #[] #[] := by
  unfold fnR at h
  split at h
  · simp at h
  · rename_i f' fi ca
    split at h
    · rename_i hc
      obtain ⟨rfl, rfl⟩ := hc
      simp at h
      rw [show f' = f from Int.ofNat.inj h.1]
    · cases h
  · cases h
/-- Which function stands for a code. -/
def opL : List (Int × Nat) := [(32, 77), (128, 78), (129, 79), (0, 80), (1, 81), (96, 82), (97, 83), (2, 84), (3, 85), (4, 86), (12, 86), (20, 87), (28, 87), (36, 88), (44, 88), (52, 89), (60, 89), (68, 90), (76, 90), (84, 91), (92, 91), (100, 92), (108, 92), (116, 93), (124, 93), (164, 94), (172, 94), (132, 95), (5, 96), (21, 97), (29, 97), (37, 98), (45, 98), (53, 99), (61, 99), (69, 100), (77, 100), (6, 101), (22, 102), (7, 103), (135, 104)]
def opD : List (Int × Nat) → DataW Unit → DataW Unit
  | [], D => D
  | x :: r, D => opD r (D.put (.int .u16 x.1) (.lit (.int .i64 (x.2 : Int))))
def opF : List (Int × Nat) → Int → Int → Int
  | [], _, d => d
  | x :: r, c, d => opF r c (if x.1 = c then (x.2 : Int) else d)
theorem opD_at : ∀ (l : List (Int × Nat)) (D : DataW Unit) (hD : Maps.IsMap D) (c d : Int), D.atKey (.int .u16 c) (.lit (.int .i64 (-1))) = .lit (.int .i64 d) → (opD l D).atKey (.int .u16 c) (.lit (.int .i64 (-1))) = .lit (.int .i64 (opF l c d))
  | [], D, hD, c, d, h => h
  | x :: r, D, hD, c, d, h => by
    refine opD_at r _ (Maps.IsMap.put hD _ _) c _ ?_
    by_cases e : x.1 = c
    · rw [if_pos e, ← e, Maps.atKey_put_same hD (by trivial)]
    · rw [if_neg e, Maps.atKey_put_other (fun g => e (by injection g with _ g; exact g.symm)), h]
/-- The table lies in block b. -/
def OpsMap (w : World) (b : Nat) : Prop := w.ownsMap Tryz.prog 58 fnR b 41 (opD opL (.map []))
theorem OpsMap.below {w w' : World} {B b : Nat} (h : OpsMap w b) (hb : Below B w w') (hlt : b < B) : OpsMap w' b := by
  obtain ⟨es, clock, hh, hr⟩ := h
  exact ⟨es, clock, (hb.block b hlt).trans hh, hr⟩
theorem OpsMap.grown {w w' : World} {b g : Nat} (h : OpsMap w b) (hg : w.grownBy w' (some g)) (hne : b ≠ g) : OpsMap w' b := World.ownsMap.kept h hg (fun e => hne (by injection e))
theorem OpsMap.drew {w : World} {b : Nat} (h : OpsMap w b) : OpsMap w.drew b := h
theorem OpsMap.drawn {w : World} {b : Nat} (h : OpsMap w b) (n : Nat) : OpsMap (w.drewN n) b := h
theorem OpsMap.alloc {w : World} {b : Nat} (h : OpsMap w b) (o : Obj) : OpsMap (w.alloc o) b := World.ownsMap.alloc h o
theorem OpsMap.lt {w : World} {b : Nat} (h : OpsMap w b) : b < w.heap.size := World.ownsMap.lt h
theorem under_u16 : Tryz.prog.underlying 58 = some (.int .u16) := Tryz.underlying58
theorem under_ops : Tryz.prog.underlying 97 = some (.map 58 103) := Tryz.underlying97
theorem zero_fn (w : World) : (zeroValue 103).run Tryz.prog w = .ok .nilFunc w := by kernel_rfl
/-- What a look-up answers. -/
theorem ops_at {w : World} {b : Nat} (h : OpsMap w b) (c : Int) (hc : 0 ≤ c ∧ c < 65536) : ∃ v ps, (Instr.lookup 97 (.map (some b)) (.int .u16 c) false).run Tryz.prog w = .ok v w ∧ fnR v = some (.lit (.int .i64 (opF opL c (-1))), ps) := by
  obtain ⟨v, ps, hrun, hR⟩ := World.ownsMap.lookup h (Maps.int_keyed under_u16) under_ops (zero_fn w) (zd := .lit (.int .i64 (-1))) (zp := []) rfl (Maps.keyOf_int_mk under_u16 (a := c) (by simp [Lit.wf, IntKind.has, IntKind.min, IntKind.max, IntKind.bits, IntKind.signed]; omega))
  refine ⟨v, ps, hrun, ?_⟩
  rw [hR, opD_at opL (.map []) ⟨[], rfl⟩ c (-1) rfl]
theorem ops_nil {w : World} {b : Nat} (h : OpsMap w b) (c : Int) (hc : 0 ≤ c ∧ c < 65536) (hs : sealsC c = false) : (Instr.lookup 97 (.map (some b)) (.int .u16 c) false).run Tryz.prog w = .ok .nilFunc w := by
  obtain ⟨v, ps, hrun, hR⟩ := ops_at h c hc
  have e : opF opL c (-1) = -1 := by
    have h1 : ∀ k : Int, sealsC k = true → ¬ k = c := fun k hk e => by rw [e, hs] at hk; cases hk
    simp only [opL, opF]
    rw [if_neg (h1 135 rfl)]
    rw [if_neg (h1 7 rfl)]
    rw [if_neg (h1 22 rfl)]
    rw [if_neg (h1 6 rfl)]
    rw [if_neg (h1 77 rfl)]
    rw [if_neg (h1 69 rfl)]
    rw [if_neg (h1 61 rfl)]
    rw [if_neg (h1 53 rfl)]
    rw [if_neg (h1 45 rfl)]
    rw [if_neg (h1 37 rfl)]
    rw [if_neg (h1 29 rfl)]
    rw [if_neg (h1 21 rfl)]
    rw [if_neg (h1 5 rfl)]
    rw [if_neg (h1 132 rfl)]
    rw [if_neg (h1 172 rfl)]
    rw [if_neg (h1 164 rfl)]
    rw [if_neg (h1 124 rfl)]
    rw [if_neg (h1 116 rfl)]
    rw [if_neg (h1 108 rfl)]
    rw [if_neg (h1 100 rfl)]
    rw [if_neg (h1 92 rfl)]
    rw [if_neg (h1 84 rfl)]
    rw [if_neg (h1 76 rfl)]
    rw [if_neg (h1 68 rfl)]
    rw [if_neg (h1 60 rfl)]
    rw [if_neg (h1 52 rfl)]
    rw [if_neg (h1 44 rfl)]
    rw [if_neg (h1 36 rfl)]
    rw [if_neg (h1 28 rfl)]
    rw [if_neg (h1 20 rfl)]
    rw [if_neg (h1 12 rfl)]
    rw [if_neg (h1 4 rfl)]
    rw [if_neg (h1 3 rfl)]
    rw [if_neg (h1 2 rfl)]
    rw [if_neg (h1 97 rfl)]
    rw [if_neg (h1 96 rfl)]
    rw [if_neg (h1 1 rfl)]
    rw [if_neg (h1 0 rfl)]
    rw [if_neg (h1 129 rfl)]
    rw [if_neg (h1 128 rfl)]
    rw [if_neg (h1 32 rfl)]
  rw [e] at hR
  rw [hrun, fnR_nil hR]
theorem ops_fn {w : World} {b : Nat} (h : OpsMap w b) (c : Int) (f : Nat) (hc : 0 ≤ c ∧ c < 65536) (hs : opF opL c (-1) = (f : Int)) : (Instr.lookup 97 (.map (some b)) (.int .u16 c) false).run Tryz.prog w = .ok (.func (.func f) #[] #[]) w := by
  obtain ⟨v, ps, hrun, hR⟩ := ops_at h c hc
  rw [hs] at hR
  rw [hrun, fnR_fn hR]

/-- While the table is filled. -/
def Filling (w w' : World) (b n : Nat) (D : DataW Unit) : Prop := w'.ownsMap Tryz.prog 58 fnR b n D ∧ Below b w w'
theorem fill_start (w : World) : Filling w (w.alloc (.map #[] 0)) w.heap.size 0 (.map []) := ⟨World.ownsMap_made _ _ _ _, box_below w _⟩
theorem wpList_fill {w w1 : World} {b n : Nat} {D : DataW Unit} (h : Filling w w1 b n D) (hn : n < 1000) {ops : Array Oper} {rest : List Oper} {o : Oper} {a : Act} {Q : Exit → Act → World → Prop} (hg : o.guard = none) (hd : o.dst = none) (c : Int) (f : Nat) (m : Operand)
    (ho : o.op = Op.insert 97 m (.const (.int .u16 c)) (.func f)) (hm : a.eval m = .map (some b)) (hc : 0 ≤ c ∧ c < 65536)
    (hK : ∀ w', Filling w w' b (n + 1) (D.put (.int .u16 c) (.lit (.int .i64 (f : Int)))) → wpList Tryz.prog ops Q rest a w') : wpList Tryz.prog ops Q (o :: rest) a w1 := by
  refine wpList_plain hg fun K' hK' => ?_
  obtain ⟨w', hrun, r1, r2⟩ := World.ownsMap.update h.1 (Maps.int_keyed under_u16) under_ops (by unfold maxLen; omega) (key := .int .u16 c) (val := .func (.func f) #[] #[]) (kl := .int .u16 c) (d := .lit (.int .i64 (f : Int))) (ps := [])
    (Maps.keyOf_int_mk under_u16 (a := c) (by simp [Lit.wf, IntKind.has, IntKind.min, IntKind.max, IntKind.bits, IntKind.signed]; omega)) rfl
  have hx : a.eval (.const (.int .u16 c)) = .int .u16 c := rfl
  have hv : a.eval (.func f) = .func (.func f) #[] #[] := rfl
  unfold Oper.wp
  simp [execOp, ho, hm, hx, hv, hrun, Result.andThen]
  refine hK' _ _ ?_
  rw [hd]
  exact hK w' ⟨r1, h.2.trans ⟨r2.os, r2.tape, r2.output, r2.size, fun i hi => r2.block i (Nat.lt_of_lt_of_le hi (Nat.le_trans (Nat.le_of_lt (World.ownsMap.lt h.1)) (Nat.le_refl _))) (fun e => by injection e with e; omega)⟩⟩
set_option maxRecDepth 100000 in
set_option maxHeartbeats 4000000 in
theorem cbpf_operations (w : World) : Calls Tryz.prog 52 #[] w fun e w' => e = .returned (.map (some w.heap.size)) ∧ OpsMap w' w.heap.size ∧ Below w.heap.size w w' := by
  have hmm := @run_makeMap Tryz.prog
  have H0 := Lib.hid (fill_start w)
  have H1 := Lib.hid (show w.heap.size < (w.alloc (.map #[] 0)).heap.size by simp)
  go_enter Tryz.func52, Tryz.ntmps52
  go_wp2_with (refine wpList_fill H0.out (by decide) rfl rfl _ _ _ rfl rfl (by decide) (fun w1 h1 => ?_); clear H0; have H0 := Lib.hid h1; clear h1)
  go_ret
  exact ⟨rfl, H0.out.1, H0.out.2⟩
end Go.Proofs.YtoajommeiocfpaaGreat
namespace Go.Proofs.YtoajommeiocfpaaGreat
open Go Go.RowKit
set_option linter.unusedSimpArgs false
set_option linter.unusedVariables false
set_option maxRecDepth 100000

section
variable (w : World) (b : Nat) (qv dv mv : Value) (s : Mach) (c : Int) (jt jf : Nat) (k : BitVec 32)
/-- What a look at an instruction leaves: memory as it was, but for new blocks. -/
def FaultP (w : World) (E : Int) (e : Ending) (w' : World) : Prop := e = .returned (.int .i64 E) ∧ Below w.heap.size w w'
theorem of_load (db doff dcap : Nat) (z : Nat → Int) (hd : Bytes64 w db doff z) (h : PMAt w b qv (.slice (some ⟨db, doff, none⟩) 64 dcap) mv s) (hk : k.toNat ≤ 60) (hk4 : k.toNat % 4 = 0) : Calls Tryz.prog 105 #[.pointer (some ⟨b, 0, none⟩), .agg #[.int .u16 32, .int .u8 (jt : Int), .int .u8 (jf : Int), .int .u32 (k.toNat : Int)]] w (FaultP w 0) := by
  have hkl := k.isLt
  have hwk : IntKind.i64.wrap (k.toNat : Int) = (k.toNat : Int) := IntWalk.i64_in _ (by omega)
  have hlt := World.rowIs.lt h
  have HM1 := Lib.hid (h.alloc (insO 32 jt jf k))
  have HD1 := Lib.hid (hd.below (box_below w (insO 32 jt jf k)) hd.1)
  have d3 : (w.alloc (insO 32 jt jf k)).cell? ⟨w.heap.size, 3, none⟩ = some (.int .u32 (k.toNat : Int)) := by simp
  have B1 := Lib.hid (box_below w (insO 32 jt jf k))
  have HK := Lib.hid hk4
  clear hk4
  clear h hd
  go_enter Tryz.func105, Tryz.ntmps105
  go_wp2
  generalize w.alloc (insO 32 jt jf k) = W1 at HM1 HD1 d3 B1 ⊢
  have u1 : W1.cell? ⟨b, 1, none⟩ = some (.slice (some ⟨db, doff, none⟩) 64 dcap) := World.rowIs.cell HM1.out (i := 1) (by decide)
  go_quiet ((go_at_call 76; exact quietL (secdata_Word db doff dcap z k.toNat hk HK.out _ HD1.out)))
  go_wp2
  go_ret
  exact ⟨rfl, below_drawn B1.out _⟩
theorem of_load_no (db doff dcap : Nat) (z : Nat → Int) (hd : Bytes64 w db doff z) (h : PMAt w b qv (.slice (some ⟨db, doff, none⟩) 64 dcap) mv s) (hk : ¬ (k.toNat ≤ 60 ∧ k.toNat % 4 = 0)) : Calls Tryz.prog 105 #[.pointer (some ⟨b, 0, none⟩), .agg #[.int .u16 32, .int .u8 (jt : Int), .int .u8 (jf : Int), .int .u32 (k.toNat : Int)]] w (FaultP w 34) := by
  have hkl := k.isLt
  have hwk : IntKind.i64.wrap (k.toNat : Int) = (k.toNat : Int) := IntWalk.i64_in _ (by omega)
  have hlt := World.rowIs.lt h
  have HM1 := Lib.hid (h.alloc (insO 32 jt jf k))
  have HD1 := Lib.hid (hd.below (box_below w (insO 32 jt jf k)) hd.1)
  have d3 : (w.alloc (insO 32 jt jf k)).cell? ⟨w.heap.size, 3, none⟩ = some (.int .u32 (k.toNat : Int)) := by simp
  have B1 := Lib.hid (box_below w (insO 32 jt jf k))
  have HK : Hid (¬ (0 ≤ (k.toNat : Int) ∧ (k.toNat : Int) ≤ 60 ∧ (k.toNat : Int) % 4 = 0)) := Lib.hid (by omega)
  clear hk
  clear h hd
  go_enter Tryz.func105, Tryz.ntmps105
  go_wp2
  generalize w.alloc (insO 32 jt jf k) = W1 at HM1 HD1 d3 B1 ⊢
  have u1 : W1.cell? ⟨b, 1, none⟩ = some (.slice (some ⟨db, doff, none⟩) 64 dcap) := World.rowIs.cell HM1.out (i := 1) (by decide)
  go_quiet ((go_at_call 76; exact quietL (secdata_Word_at (some ⟨db, doff, none⟩) dcap (k.toNat : Int) HK.out _)))
  go_wp2
  go_ret
  exact ⟨rfl, below_drawn B1.out _⟩
theorem of_mem_96 (hk : k.toNat < 16) : Calls Tryz.prog 105 #[.pointer (some ⟨b, 0, none⟩), .agg #[.int .u16 96, .int .u8 (jt : Int), .int .u8 (jf : Int), .int .u32 (k.toNat : Int)]] w (FaultP w 0) := by
  have hk' : ¬ (16 : Int) ≤ (k.toNat : Int) := by omega
  have hk2 : (k.toNat : Int) < 16 := by omega
  go_enter Tryz.func105, Tryz.ntmps105
  go_wp2
  go_ret
  exact ⟨rfl, box_below w _⟩
theorem of_mem_no_96 (hk : ¬ k.toNat < 16) : Calls Tryz.prog 105 #[.pointer (some ⟨b, 0, none⟩), .agg #[.int .u16 96, .int .u8 (jt : Int), .int .u8 (jf : Int), .int .u32 (k.toNat : Int)]] w (FaultP w 35) := by
  have hk' : (16 : Int) ≤ (k.toNat : Int) := by omega
  go_enter Tryz.func105, Tryz.ntmps105
  go_wp2
  go_ret
  exact ⟨rfl, box_below w _⟩
theorem of_mem_97 (hk : k.toNat < 16) : Calls Tryz.prog 105 #[.pointer (some ⟨b, 0, none⟩), .agg #[.int .u16 97, .int .u8 (jt : Int), .int .u8 (jf : Int), .int .u32 (k.toNat : Int)]] w (FaultP w 0) := by
  have hk' : ¬ (16 : Int) ≤ (k.toNat : Int) := by omega
  have hk2 : (k.toNat : Int) < 16 := by omega
  go_enter Tryz.func105, Tryz.ntmps105
  go_wp2
  go_ret
  exact ⟨rfl, box_below w _⟩
theorem of_mem_no_97 (hk : ¬ k.toNat < 16) : Calls Tryz.prog 105 #[.pointer (some ⟨b, 0, none⟩), .agg #[.int .u16 97, .int .u8 (jt : Int), .int .u8 (jf : Int), .int .u32 (k.toNat : Int)]] w (FaultP w 35) := by
  have hk' : (16 : Int) ≤ (k.toNat : Int) := by omega
  go_enter Tryz.func105, Tryz.ntmps105
  go_wp2
  go_ret
  exact ⟨rfl, box_below w _⟩
theorem of_mem_2 (hk : k.toNat < 16) : Calls Tryz.prog 105 #[.pointer (some ⟨b, 0, none⟩), .agg #[.int .u16 2, .int .u8 (jt : Int), .int .u8 (jf : Int), .int .u32 (k.toNat : Int)]] w (FaultP w 0) := by
  have hk' : ¬ (16 : Int) ≤ (k.toNat : Int) := by omega
  have hk2 : (k.toNat : Int) < 16 := by omega
  go_enter Tryz.func105, Tryz.ntmps105
  go_wp2
  go_ret
  exact ⟨rfl, box_below w _⟩
theorem of_mem_no_2 (hk : ¬ k.toNat < 16) : Calls Tryz.prog 105 #[.pointer (some ⟨b, 0, none⟩), .agg #[.int .u16 2, .int .u8 (jt : Int), .int .u8 (jf : Int), .int .u32 (k.toNat : Int)]] w (FaultP w 35) := by
  have hk' : (16 : Int) ≤ (k.toNat : Int) := by omega
  go_enter Tryz.func105, Tryz.ntmps105
  go_wp2
  go_ret
  exact ⟨rfl, box_below w _⟩
theorem of_mem_3 (hk : k.toNat < 16) : Calls Tryz.prog 105 #[.pointer (some ⟨b, 0, none⟩), .agg #[.int .u16 3, .int .u8 (jt : Int), .int .u8 (jf : Int), .int .u32 (k.toNat : Int)]] w (FaultP w 0) := by
  have hk' : ¬ (16 : Int) ≤ (k.toNat : Int) := by omega
  have hk2 : (k.toNat : Int) < 16 := by omega
  go_enter Tryz.func105, Tryz.ntmps105
  go_wp2
  go_ret
  exact ⟨rfl, box_below w _⟩
theorem of_mem_no_3 (hk : ¬ k.toNat < 16) : Calls Tryz.prog 105 #[.pointer (some ⟨b, 0, none⟩), .agg #[.int .u16 3, .int .u8 (jt : Int), .int .u8 (jf : Int), .int .u32 (k.toNat : Int)]] w (FaultP w 35) := by
  have hk' : (16 : Int) ≤ (k.toNat : Int) := by omega
  go_enter Tryz.func105, Tryz.ntmps105
  go_wp2
  go_ret
  exact ⟨rfl, box_below w _⟩
theorem of_div (hk : ¬ k = 0#32) : Calls Tryz.prog 105 #[.pointer (some ⟨b, 0, none⟩), .agg #[.int .u16 52, .int .u8 (jt : Int), .int .u8 (jf : Int), .int .u32 (k.toNat : Int)]] w (FaultP w 0) := by
  have hk' : ¬ (k.toNat : Int) = 0 := fun g => hk (BitVec.eq_of_toNat_eq (by simpa using g))
  clear hk
  go_enter Tryz.func105, Tryz.ntmps105
  go_wp2
  go_ret
  exact ⟨rfl, box_below w _⟩
theorem of_div_no (hk : k = 0#32) : Calls Tryz.prog 105 #[.pointer (some ⟨b, 0, none⟩), .agg #[.int .u16 52, .int .u8 (jt : Int), .int .u8 (jf : Int), .int .u32 (k.toNat : Int)]] w (FaultP w 36) := by
  have hk' : (k.toNat : Int) = 0 := by rw [hk]; rfl
  clear hk
  go_enter Tryz.func105, Tryz.ntmps105
  go_wp2
  go_ret
  exact ⟨rfl, box_below w _⟩
theorem of_rest (h1 : ¬ c = 32) (h2 : ¬ c = 96) (h3 : ¬ c = 97) (h4 : ¬ c = 2) (h5 : ¬ c = 3) (h6 : ¬ c = 52) : Calls Tryz.prog 105 #[.pointer (some ⟨b, 0, none⟩), .agg #[.int .u16 c, .int .u8 (jt : Int), .int .u8 (jf : Int), .int .u32 (k.toNat : Int)]] w (FaultP w 0) := by
  go_enter Tryz.func105, Tryz.ntmps105
  go_wp2
  go_ret
  exact ⟨rfl, box_below w _⟩
/-- .. all in one. -/
theorem p_operandFault (db doff dcap : Nat) (z : Nat → Int) (hd : Bytes64 w db doff z) (h : PMAt w b qv (.slice (some ⟨db, doff, none⟩) 64 dcap) mv s) (hs : sealsC c = true) : Calls Tryz.prog 105 #[.pointer (some ⟨b, 0, none⟩), .agg #[.int .u16 c, .int .u8 (jt : Int), .int .u8 (jf : Int), .int .u32 (k.toNat : Int)]] w (FaultP w (wrongE c k)) := by
  have hs' : ¬ sealsC c = false := by rw [hs]; simp
  unfold wrongE
  rw [if_neg hs']
  by_cases h32 : c = 32
  · subst h32
    by_cases hk : k.toNat ≤ 60 ∧ k.toNat % 4 = 0
    · rw [if_neg (by omega), if_neg (by simp), if_neg (by simp)]
      exact of_load w b qv mv s jt jf k db doff dcap z hd h hk.1 hk.2
    · rw [if_pos ⟨rfl, by omega⟩]
      exact of_load_no w b qv mv s jt jf k db doff dcap z hd h hk
  · rw [if_neg (fun g => h32 g.1)]
    by_cases hm : c = 96 ∨ c = 97 ∨ c = 2 ∨ c = 3
    · by_cases hk : k.toNat < 16
      · rw [if_neg (by omega), if_neg (by rintro ⟨rfl, _⟩; simp at hm)]
        rcases hm with rfl | rfl | rfl | rfl
        · exact of_mem_96 w b jt jf k hk
        · exact of_mem_97 w b jt jf k hk
        · exact of_mem_2 w b jt jf k hk
        · exact of_mem_3 w b jt jf k hk
      · rw [if_pos ⟨hm, by omega⟩]
        rcases hm with rfl | rfl | rfl | rfl
        · exact of_mem_no_96 w b jt jf k hk
        · exact of_mem_no_97 w b jt jf k hk
        · exact of_mem_no_2 w b jt jf k hk
        · exact of_mem_no_3 w b jt jf k hk
    · rw [if_neg (fun g => hm g.1)]
      by_cases h52 : c = 52
      · subst h52
        by_cases hk : k = 0#32
        · rw [if_pos ⟨rfl, hk⟩]
          exact of_div_no w b jt jf k hk
        · rw [if_neg (fun g => hk g.2)]
          exact of_div w b jt jf k hk
      · rw [if_neg (fun g => h52 g.1)]
        exact of_rest w b c jt jf k h32 (fun g => hm (.inl g)) (fun g => hm (.inr (.inl g))) (fun g => hm (.inr (.inr (.inl g)))) (fun g => hm (.inr (.inr (.inr g)))) h52
end
end Go.Proofs.YtoajommeiocfpaaGreat
namespace Go.Proofs.YtoajommeiocfpaaGreat
open Go Go.RowKit
set_option linter.unusedSimpArgs false
set_option linter.unusedVariables false
set_option maxRecDepth 100000

theorem eq_nilf (w : World) : (binOp .eql 103 .nilFunc .nilFunc).run Tryz.prog w = .ok (.bool true) w := by kernel_rfl
theorem eq_fnf (f : Nat) (w : World) : (binOp .eql 103 (.func (.func f) #[] #[]) .nilFunc).run Tryz.prog w = .ok (.bool false) w := by kernel_rfl
/-- A machine of the program, its own copies of program and data, its table, ahead of a step. -/
structure PReady (w : World) (b : Nat) (qa : Option Addr) (n qcap : Nat) (q : Nat → Ins) (da : Option Addr) (dlen dcap : Nat) (z : Nat → Int) (mb : Nat) (s : Mach) : Prop where
  mach : PMAt w b (.slice qa n qcap) (.slice da dlen dcap) (.map (some mb)) s
  prog : ProgAt w qa n q
  data : dlen = 64 → ∃ db doff, da = some ⟨db, doff, none⟩ ∧ Bytes64 w db doff z
  qfar : ∀ ad, 0 < n → qa = some ad → ad.block ≠ b
  dfar : ∀ ad, dlen = 64 → da = some ad → ad.block ≠ b
  len : n ≤ 140737488351232
  ok : ∀ i, i < n → (q i).OK
  steps : s.steps < 1000000000000000000
  ops : OpsMap w mb
  mfar : mb ≠ b
theorem PReady.after {w w' : World} {b : Nat} {qa : Option Addr} {n qcap : Nat} {q : Nat → Ins} {da : Option Addr} {dlen dcap : Nat} {z : Nat → Int} {mb : Nat} {s s' : Mach} (h : PReady w b qa n qcap q da dlen dcap z mb s)
    (hm : PMAt w' b (.slice qa n qcap) (.slice da dlen dcap) (.map (some mb)) s') (hg : w.grownBy w' (some b)) (hs : s'.steps < 1000000000000000000) : PReady w' b qa n qcap q da dlen dcap z mb s' :=
  ⟨hm, h.prog.grown hg h.qfar, fun h64 => by
    obtain ⟨db, doff, rfl, hb⟩ := h.data h64
    exact ⟨db, doff, rfl, hb.grown hg (h.dfar _ h64 rfl)⟩, h.qfar, h.dfar, h.len, h.ok, hs, h.ops.grown hg h.mfar, h.mfar⟩
/-- Where nothing stops the machine ahead of its instruction. -/
structure PGoing (w : World) (b qb qo n qcap db doff dcap : Nat) (z : Nat → Int) (mb : Nat) (s : Mach) (c : Int) (jt jf : Nat) (k : BitVec 32) : Prop where
  mach : PMAt w b (.slice (some ⟨qb, qo, none⟩) n qcap) (.slice (some ⟨db, doff, none⟩) 64 dcap) (.map (some mb)) s
  ins : InsCells w qb (qo + s.place * 4) ⟨c, jt, jf, k⟩
  qlt : qb < w.heap.size
  bytes : Bytes64 w db doff z
  going : s.done = false
  place : s.place < n
  len : n ≤ 140737488351232
  steps : s.steps < 1000000000000000000
  ops : OpsMap w mb
  mfar : mb ≠ b
  code : 0 ≤ c ∧ c < 65536
theorem PGoing.below {w w' : World} {b qb qo n qcap db doff dcap : Nat} {z : Nat → Int} {mb : Nat} {s : Mach} {c : Int} {jt jf : Nat} {k : BitVec 32} (h : PGoing w b qb qo n qcap db doff dcap z mb s c jt jf k) (hb : Below w.heap.size w w') : PGoing w' b qb qo n qcap db doff dcap z mb s c jt jf k :=
  ⟨h.mach.below hb (World.rowIs.lt h.mach), h.ins.below hb h.qlt, Nat.lt_of_lt_of_le h.qlt hb.size, h.bytes.below hb h.bytes.1, h.going, h.place, h.len, h.steps, h.ops.below hb h.ops.lt, h.mfar, h.code⟩

section
variable (w : World) (b : Nat) (qa : Option Addr) (n qcap : Nat) (q : Nat → Ins) (da : Option Addr) (dlen dcap : Nat) (z : Nat → Int) (mb : Nat) (s : Mach)
theorem p_fault_len (h : PReady w b qa n qcap q da dlen dcap z mb s) (hl : ¬ dlen = 64) : Calls Tryz.prog 53 #[.pointer (some ⟨b, 0, none⟩)] w (FaultP w 21) := by
  have c1 : w.cell? ⟨b, 1, none⟩ = some (.slice da dlen dcap) := World.rowIs.cell h.mach (i := 1) (by decide)
  have hl' : ¬ (dlen : Int) = 64 := by omega
  clear h hl
  go_enter Tryz.func53, Tryz.ntmps53
  go_wp2
  go_ret
  exact ⟨rfl, Below.refl _ _⟩
theorem p_fault_place (h : PReady w b qa n qcap q da 64 dcap z mb s) (hp : n ≤ s.place) : Calls Tryz.prog 53 #[.pointer (some ⟨b, 0, none⟩)] w (FaultP w 33) := by
  have c1 : w.cell? ⟨b, 1, none⟩ = some (.slice da 64 dcap) := World.rowIs.cell h.mach (i := 1) (by decide)
  have c0 : w.cell? ⟨b, 0, none⟩ = some (.slice qa n qcap) := World.rowIs.cell h.mach (i := 0) (by decide)
  have c21 : w.cell? ⟨b, 21, none⟩ = some (.int .i64 (s.place : Int)) := World.rowIs.cell h.mach (i := 21) (by decide)
  have hp' : (n : Int) ≤ (s.place : Int) := by omega
  clear h hp
  go_enter Tryz.func53, Tryz.ntmps53
  go_wp2
  go_quiet (fail)
  go_wp2
  go_ret
  exact ⟨rfl, below_drawn (Below.refl _ _) _⟩
end
section
variable (w : World) (b qb qo n qcap db doff dcap : Nat) (z : Nat → Int) (mb : Nat) (s : Mach) (c : Int) (jt jf : Nat) (k : BitVec 32)
set_option maxHeartbeats 600000 in
theorem p_fault_code (h : PGoing w b qb qo n qcap db doff dcap z mb s c jt jf k) (hs : sealsC c = false) : Calls Tryz.prog 53 #[.pointer (some ⟨b, 0, none⟩)] w (FaultP w 32) := by
  have c1 : w.cell? ⟨b, 1, none⟩ = some (.slice (some ⟨db, doff, none⟩) 64 dcap) := World.rowIs.cell h.mach (i := 1) (by decide)
  have c0 : w.cell? ⟨b, 0, none⟩ = some (.slice (some ⟨qb, qo, none⟩) n qcap) := World.rowIs.cell h.mach (i := 0) (by decide)
  have c21 : w.cell? ⟨b, 21, none⟩ = some (.int .i64 (s.place : Int)) := World.rowIs.cell h.mach (i := 21) (by decide)
  have hp : ¬ (n : Int) ≤ (s.place : Int) := by have := h.place; omega
  have HX0 := Lib.hid h
  clear h
  go_enter Tryz.func53, Tryz.ntmps53
  go_wp2
  go_quiet (fail)
  go_wp2
  have HX : Hid (PGoing (w.drewN nq) b qb qo n qcap db doff dcap z mb s c jt jf k) := Lib.hid (HX0.out.below (below_drawn (Below.refl _ _) _))
  have HBX : Hid (Below w.heap.size w (w.drewN nq)) := Lib.hid (below_drawn (Below.refl _ _) _)
  clear c0 c1 c21 HX0 hp
  generalize w.drewN nq = X at HX HBX ⊢
  have hp' : (s.place : Int) < (n : Int) := by have := HX.out.place; omega
  have hn := HX.out.len
  refine wp_region_held_drew (S := fun w' => PMAt w' b (.slice (some ⟨qb, qo, none⟩) n qcap) (.slice (some ⟨db, doff, none⟩) 64 dcap) (.map (some mb)) s ∧ InsCells w' qb (qo + s.place * 4) ⟨c, jt, jf, k⟩) (by kernel_rfl) ⟨HX.out.mach.drew, HX.out.ins⟩ (fun hHeld => ?_)
  have HY0 : Hid (PGoing X.drew b qb qo n qcap db doff dcap z mb s c jt jf k) := Lib.hid (HX.out.below (below_drawn (Below.refl _ _) 1))
  have HBY0 : Hid (Below w.heap.size w X.drew) := Lib.hid (below_drawn HBX.out 1)
  clear HX HBX
  generalize X.drew = Y at HY0 HBY0 hHeld ⊢
  (try clear X)
  have hql := HY0.out.qlt
  have hbl := World.rowIs.lt HY0.out.mach
  refine wpAnyH_take (i := 0) (v := ?_) rfl (by kernel_rfl) (by kernel_rfl) (by kernel_rfl) (fun _ _ _ h => h) (Or.inl ⟨by rfl, ?_⟩) (by assumption) ?_
  rotate_left
  · intro wS hSw
    (have q0 : wS.cell? ⟨b, 0, none⟩ = some (.slice (some ⟨qb, qo, none⟩) n qcap) := World.rowIs.cell hSw.1 (i := 0) (by decide); have q21 : wS.cell? ⟨b, 21, none⟩ = some (.int .i64 (s.place : Int)) := World.rowIs.cell hSw.1 (i := 21) (by decide); obtain ⟨i0, i1, i2, i3⟩ := hSw.2; clear hSw)
    go_simp
    all_goals with_reducible rfl
  (try simp only [List.getElem_toArray, List.getElem_cons_zero, List.getElem_cons_succ, Act.put, List.setIfInBounds_toArray, List.set_cons_zero, List.set_cons_succ])
  refine wpAnyH_take (i := 1) (v := ?_) rfl (by kernel_rfl) (by kernel_rfl) (by kernel_rfl) (fun _ _ _ h => h) (Or.inl ⟨by rfl, ?_⟩) (by assumption) ?_
  rotate_left
  · intro wS hSw
    (have q0 : wS.cell? ⟨b, 0, none⟩ = some (.slice (some ⟨qb, qo, none⟩) n qcap) := World.rowIs.cell hSw.1 (i := 0) (by decide); have q21 : wS.cell? ⟨b, 21, none⟩ = some (.int .i64 (s.place : Int)) := World.rowIs.cell hSw.1 (i := 21) (by decide); obtain ⟨i0, i1, i2, i3⟩ := hSw.2; clear hSw)
    go_simp
    all_goals with_reducible rfl
  (try simp only [List.getElem_toArray, List.getElem_cons_zero, List.getElem_cons_succ, Act.put, List.setIfInBounds_toArray, List.set_cons_zero, List.set_cons_succ])
  refine wpAnyH_take (i := 2) (v := ?_) rfl (by kernel_rfl) (by kernel_rfl) (by kernel_rfl) (fun _ _ _ h => h) (Or.inl ⟨by rfl, ?_⟩) (by assumption) ?_
  rotate_left
  · intro wS hSw
    (have q0 : wS.cell? ⟨b, 0, none⟩ = some (.slice (some ⟨qb, qo, none⟩) n qcap) := World.rowIs.cell hSw.1 (i := 0) (by decide); have q21 : wS.cell? ⟨b, 21, none⟩ = some (.int .i64 (s.place : Int)) := World.rowIs.cell hSw.1 (i := 21) (by decide); obtain ⟨i0, i1, i2, i3⟩ := hSw.2; clear hSw)
    go_simp
    all_goals with_reducible rfl
  (try simp only [List.getElem_toArray, List.getElem_cons_zero, List.getElem_cons_succ, Act.put, List.setIfInBounds_toArray, List.set_cons_zero, List.set_cons_succ])
  refine wpAnyH_take (i := 3) (v := ?_) rfl (by kernel_rfl) (by kernel_rfl) (by kernel_rfl) (fun _ _ _ h => h) (Or.inl ⟨by rfl, ?_⟩) (by assumption) ?_
  rotate_left
  · intro wS hSw
    (have q0 : wS.cell? ⟨b, 0, none⟩ = some (.slice (some ⟨qb, qo, none⟩) n qcap) := World.rowIs.cell hSw.1 (i := 0) (by decide); have q21 : wS.cell? ⟨b, 21, none⟩ = some (.int .i64 (s.place : Int)) := World.rowIs.cell hSw.1 (i := 21) (by decide); obtain ⟨i0, i1, i2, i3⟩ := hSw.2; clear hSw)
    go_simp
    all_goals with_reducible rfl
  (try simp only [List.getElem_toArray, List.getElem_cons_zero, List.getElem_cons_succ, Act.put, List.setIfInBounds_toArray, List.set_cons_zero, List.set_cons_succ])
  refine wpAnyH_take (i := 4) (v := ?_) rfl (by kernel_rfl) (by kernel_rfl) (by kernel_rfl) (fun _ _ _ h => h) (Or.inl ⟨by rfl, ?_⟩) (by assumption) ?_
  rotate_left
  · intro wS hSw
    (have q0 : wS.cell? ⟨b, 0, none⟩ = some (.slice (some ⟨qb, qo, none⟩) n qcap) := World.rowIs.cell hSw.1 (i := 0) (by decide); have q21 : wS.cell? ⟨b, 21, none⟩ = some (.int .i64 (s.place : Int)) := World.rowIs.cell hSw.1 (i := 21) (by decide); obtain ⟨i0, i1, i2, i3⟩ := hSw.2; clear hSw)
    go_simp
    all_goals with_reducible rfl
  (try simp only [List.getElem_toArray, List.getElem_cons_zero, List.getElem_cons_succ, Act.put, List.setIfInBounds_toArray, List.set_cons_zero, List.set_cons_succ])
  refine wpAnyH_take (i := 5) (v := ?_) rfl (by kernel_rfl) (by kernel_rfl) (by kernel_rfl) (fun _ _ _ h => h) (Or.inl ⟨by rfl, ?_⟩) (by assumption) ?_
  rotate_left
  · intro wS hSw
    (have q0 : wS.cell? ⟨b, 0, none⟩ = some (.slice (some ⟨qb, qo, none⟩) n qcap) := World.rowIs.cell hSw.1 (i := 0) (by decide); have q21 : wS.cell? ⟨b, 21, none⟩ = some (.int .i64 (s.place : Int)) := World.rowIs.cell hSw.1 (i := 21) (by decide); obtain ⟨i0, i1, i2, i3⟩ := hSw.2; clear hSw)
    go_simp
    all_goals with_reducible rfl
  (try simp only [List.getElem_toArray, List.getElem_cons_zero, List.getElem_cons_succ, Act.put, List.setIfInBounds_toArray, List.set_cons_zero, List.set_cons_succ])
  refine wpAnyH_take (i := 6) (v := ?_) rfl (by kernel_rfl) (by kernel_rfl) (by kernel_rfl) (fun _ _ _ h => h) (Or.inl ⟨by rfl, ?_⟩) (by assumption) ?_
  rotate_left
  · intro wS hSw
    (have q0 : wS.cell? ⟨b, 0, none⟩ = some (.slice (some ⟨qb, qo, none⟩) n qcap) := World.rowIs.cell hSw.1 (i := 0) (by decide); have q21 : wS.cell? ⟨b, 21, none⟩ = some (.int .i64 (s.place : Int)) := World.rowIs.cell hSw.1 (i := 21) (by decide); obtain ⟨i0, i1, i2, i3⟩ := hSw.2; clear hSw)
    go_simp
    all_goals with_reducible rfl
  (try simp only [List.getElem_toArray, List.getElem_cons_zero, List.getElem_cons_succ, Act.put, List.setIfInBounds_toArray, List.set_cons_zero, List.set_cons_succ])
  refine wpAnyH_take (i := 7) (v := ?_) rfl (by kernel_rfl) (by kernel_rfl) (by kernel_rfl) (fun _ _ _ h => h) (Or.inl ⟨by rfl, ?_⟩) (by assumption) ?_
  rotate_left
  · intro wS hSw
    (have q0 : wS.cell? ⟨b, 0, none⟩ = some (.slice (some ⟨qb, qo, none⟩) n qcap) := World.rowIs.cell hSw.1 (i := 0) (by decide); have q21 : wS.cell? ⟨b, 21, none⟩ = some (.int .i64 (s.place : Int)) := World.rowIs.cell hSw.1 (i := 21) (by decide); obtain ⟨i0, i1, i2, i3⟩ := hSw.2; clear hSw)
    go_simp
    all_goals with_reducible rfl
  (try simp only [List.getElem_toArray, List.getElem_cons_zero, List.getElem_cons_succ, Act.put, List.setIfInBounds_toArray, List.set_cons_zero, List.set_cons_succ])
  refine wpAnyH_take (i := 8) (v := ?_) rfl (by kernel_rfl) (by kernel_rfl) (by kernel_rfl) (fun _ _ _ h => h) (Or.inl ⟨by rfl, ?_⟩) (by assumption) ?_
  rotate_left
  · intro wS hSw
    (have q0 : wS.cell? ⟨b, 0, none⟩ = some (.slice (some ⟨qb, qo, none⟩) n qcap) := World.rowIs.cell hSw.1 (i := 0) (by decide); have q21 : wS.cell? ⟨b, 21, none⟩ = some (.int .i64 (s.place : Int)) := World.rowIs.cell hSw.1 (i := 21) (by decide); obtain ⟨i0, i1, i2, i3⟩ := hSw.2; clear hSw)
    go_simp
    all_goals with_reducible rfl
  (try simp only [List.getElem_toArray, List.getElem_cons_zero, List.getElem_cons_succ, Act.put, List.setIfInBounds_toArray, List.set_cons_zero, List.set_cons_succ])
  refine wpAnyH_take (i := 9) (v := ?_) rfl (by kernel_rfl) (by kernel_rfl) (by kernel_rfl) (fun _ _ _ h => h) (Or.inl ⟨by rfl, ?_⟩) (by assumption) ?_
  rotate_left
  · intro wS hSw
    (have q0 : wS.cell? ⟨b, 0, none⟩ = some (.slice (some ⟨qb, qo, none⟩) n qcap) := World.rowIs.cell hSw.1 (i := 0) (by decide); have q21 : wS.cell? ⟨b, 21, none⟩ = some (.int .i64 (s.place : Int)) := World.rowIs.cell hSw.1 (i := 21) (by decide); obtain ⟨i0, i1, i2, i3⟩ := hSw.2; clear hSw)
    go_simp
    all_goals with_reducible rfl
  (try simp only [List.getElem_toArray, List.getElem_cons_zero, List.getElem_cons_succ, Act.put, List.setIfInBounds_toArray, List.set_cons_zero, List.set_cons_succ])
  refine held_one (i := 10) (by kernel_rfl) rfl (fun K hK => ?_)
  go_simp
  refine hK.out _ _ ⟨hHeld.1.alloc _, hHeld.2.below (box_below _ _) hql⟩ (fun hH2 => ?_)
  clear hK K hHeld
  (try simp only [Act.put, List.setIfInBounds_toArray, List.set_cons_zero, List.set_cons_succ])
  have R1 : (Y.alloc (.cells #[.int .u16 0, .int .u8 0, .int .u8 0, .int .u32 0] 60)).rowIs Y.heap.size 60 4 (insF ⟨0, 0, 0, 0#32⟩) := ins_new Y
  have B1 := box_below Y (.cells #[.int .u16 0, .int .u8 0, .int .u8 0, .int .u32 0] 60)
  generalize Y.alloc (.cells #[.int .u16 0, .int .u8 0, .int .u8 0, .int .u32 0] 60) = W1 at R1 B1 hH2 ⊢
  have e0 : W1.cell? ⟨Y.heap.size, 0, none⟩ = some (.int .u16 0) := World.rowIs.cell R1 (i := 0) (by decide)
  have e1 : W1.cell? ⟨Y.heap.size, 1, none⟩ = some (.int .u8 0) := World.rowIs.cell R1 (i := 1) (by decide)
  have e2 : W1.cell? ⟨Y.heap.size, 2, none⟩ = some (.int .u8 0) := World.rowIs.cell R1 (i := 2) (by decide)
  have e3 : W1.cell? ⟨Y.heap.size, 3, none⟩ = some (.int .u32 0) := World.rowIs.cell R1 (i := 3) (by decide)
  have y0 := World.rowIs.frozen R1 0
  have y1 := World.rowIs.frozen R1 1
  have y2 := World.rowIs.frozen R1 2
  have y3 := World.rowIs.frozen R1 3
  have R2 := Lib.hid (ins_set R1 c jt jf k)
  have G2 := Lib.hid (ins_grown (World.grownBy.refl W1 (some Y.heap.size)) (.int .u16 c) (.int .u8 (jt : Int)) (.int .u8 (jf : Int)) (.int .u32 (k.toNat : Int)))
  have HB1 := Lib.hid B1
  have HH := Lib.hid hH2
  clear R1 B1 hH2
  refine held_one (i := 11) (by kernel_rfl) rfl (fun K hK => ?_)
  go_simp
  have hM2 := HH.out.1.grown G2.out (by omega)
  have hI2 := HH.out.2.grown G2.out (by omega)
  have hB2 := below_grown HB1.out G2.out (Nat.le_refl _) (Nat.le_refl _)
  refine hK.out _ _ ⟨hM2, hI2⟩ (fun hX2 => ?_)
  clear hX2 hK K e0 e1 e2 e3 y0 y1 y2 y3 HH G2 HB1 hI2 hM2
  have hR2 := R2.out
  clear R2
  refine wpAnyH_done (by kernel_rfl) ?_ _
  generalize (((W1.setCell ⟨Y.heap.size, 0, none⟩ (.int .u16 c)).setCell ⟨Y.heap.size, 1, none⟩ (.int .u8 (jt : Int))).setCell ⟨Y.heap.size, 2, none⟩ (.int .u8 (jf : Int))).setCell ⟨Y.heap.size, 3, none⟩ (.int .u32 (k.toNat : Int)) = W2 at hB2 hR2 ⊢
  (try clear W1)
  have HY := Lib.hid (HY0.out.below hB2)
  have HR := Lib.hid hR2
  have HBY := Lib.hid (HBY0.out.trans (hB2.mono HBY0.out.size))
  have hgb : ¬ Y.heap.size = b := by omega
  clear HY0 HBY0 hB2 hR2 hp' hn hql hbl
  generalize Y.heap.size = g at HR hgb ⊢
  (try clear Y)
  obtain ⟨i0, i1, i2, i3⟩ := ins_cells HR.out
  have y2 : W2.cell? ⟨b, 2, none⟩ = some (.map (some mb)) := World.rowIs.cell HY.out.mach (i := 2) (by decide)
  have HLK := Lib.hid (fun w (h : OpsMap w mb) => ops_nil h c HY.out.code hs)
  have hq := eq_nilf
  go_wp2
  refine wp_region_held_drew (S := fun w' => w'.rowIs g 60 4 (insF ⟨c, jt, jf, k⟩) ∧ w'.cell? ⟨b, 2, none⟩ = some (.map (some mb)) ∧ OpsMap w' mb) (by kernel_rfl) ⟨HR.out, y2, HY.out.ops⟩ (fun hHeld => ?_)
  refine wpAnyH_take (i := 0) (v := ?_) rfl (by kernel_rfl) (by kernel_rfl) (by kernel_rfl) (fun _ _ _ h => h) (Or.inl ⟨by rfl, ?_⟩) (by assumption) ?_
  rotate_left
  · intro wS hSw
    (obtain ⟨q0, q1, q2, q3⟩ := ins_cells hSw.1; have q4 := hSw.2.1; have q5 := HLK.out _ hSw.2.2; clear hSw)
    go_simp
    all_goals with_reducible rfl
  (try simp only [List.getElem_toArray, List.getElem_cons_zero, List.getElem_cons_succ, Act.put, List.setIfInBounds_toArray, List.set_cons_zero, List.set_cons_succ])
  refine wpAnyH_take (i := 1) (v := ?_) rfl (by kernel_rfl) (by kernel_rfl) (by kernel_rfl) (fun _ _ _ h => h) (Or.inl ⟨by rfl, ?_⟩) (by assumption) ?_
  rotate_left
  · intro wS hSw
    (obtain ⟨q0, q1, q2, q3⟩ := ins_cells hSw.1; have q4 := hSw.2.1; have q5 := HLK.out _ hSw.2.2; clear hSw)
    go_simp
    all_goals with_reducible rfl
  (try simp only [List.getElem_toArray, List.getElem_cons_zero, List.getElem_cons_succ, Act.put, List.setIfInBounds_toArray, List.set_cons_zero, List.set_cons_succ])
  refine wpAnyH_take (i := 2) (v := ?_) rfl (by kernel_rfl) (by kernel_rfl) (by kernel_rfl) (fun _ _ _ h => h) (Or.inl ⟨by rfl, ?_⟩) (by assumption) ?_
  rotate_left
  · intro wS hSw
    (obtain ⟨q0, q1, q2, q3⟩ := ins_cells hSw.1; have q4 := hSw.2.1; have q5 := HLK.out _ hSw.2.2; clear hSw)
    go_simp
    all_goals with_reducible rfl
  (try simp only [List.getElem_toArray, List.getElem_cons_zero, List.getElem_cons_succ, Act.put, List.setIfInBounds_toArray, List.set_cons_zero, List.set_cons_succ])
  refine wpAnyH_take (i := 3) (v := ?_) rfl (by kernel_rfl) (by kernel_rfl) (by kernel_rfl) (fun _ _ _ h => h) (Or.inl ⟨by rfl, ?_⟩) (by assumption) ?_
  rotate_left
  · intro wS hSw
    (obtain ⟨q0, q1, q2, q3⟩ := ins_cells hSw.1; have q4 := hSw.2.1; have q5 := HLK.out _ hSw.2.2; clear hSw)
    go_simp
    all_goals with_reducible rfl
  (try simp only [List.getElem_toArray, List.getElem_cons_zero, List.getElem_cons_succ, Act.put, List.setIfInBounds_toArray, List.set_cons_zero, List.set_cons_succ])
  refine wpAnyH_take (i := 4) (v := ?_) rfl (by kernel_rfl) (by kernel_rfl) (by kernel_rfl) (fun _ _ _ h => h) (Or.inl ⟨by rfl, ?_⟩) (by assumption) ?_
  rotate_left
  · intro wS hSw
    (obtain ⟨q0, q1, q2, q3⟩ := ins_cells hSw.1; have q4 := hSw.2.1; have q5 := HLK.out _ hSw.2.2; clear hSw)
    go_simp
    all_goals with_reducible rfl
  (try simp only [List.getElem_toArray, List.getElem_cons_zero, List.getElem_cons_succ, Act.put, List.setIfInBounds_toArray, List.set_cons_zero, List.set_cons_succ])
  refine wpAnyH_take (i := 5) (v := ?_) rfl (by kernel_rfl) (by kernel_rfl) (by kernel_rfl) (fun _ _ _ h => h) (Or.inl ⟨by rfl, ?_⟩) (by assumption) ?_
  rotate_left
  · intro wS hSw
    (obtain ⟨q0, q1, q2, q3⟩ := ins_cells hSw.1; have q4 := hSw.2.1; have q5 := HLK.out _ hSw.2.2; clear hSw)
    go_simp
    all_goals with_reducible rfl
  (try simp only [List.getElem_toArray, List.getElem_cons_zero, List.getElem_cons_succ, Act.put, List.setIfInBounds_toArray, List.set_cons_zero, List.set_cons_succ])
  refine wpAnyH_take (i := 6) (v := ?_) rfl (by kernel_rfl) (by kernel_rfl) (by kernel_rfl) (fun _ _ _ h => h) (Or.inl ⟨by rfl, ?_⟩) (by assumption) ?_
  rotate_left
  · intro wS hSw
    (obtain ⟨q0, q1, q2, q3⟩ := ins_cells hSw.1; have q4 := hSw.2.1; have q5 := HLK.out _ hSw.2.2; clear hSw)
    go_simp
    all_goals with_reducible rfl
  (try simp only [List.getElem_toArray, List.getElem_cons_zero, List.getElem_cons_succ, Act.put, List.setIfInBounds_toArray, List.set_cons_zero, List.set_cons_succ])
  refine wpAnyH_take (i := 7) (v := ?_) rfl (by kernel_rfl) (by kernel_rfl) (by kernel_rfl) (fun _ _ _ h => h) (Or.inl ⟨by rfl, ?_⟩) (by assumption) ?_
  rotate_left
  · intro wS hSw
    (skip)
    go_simp
    all_goals with_reducible rfl
  (try simp only [List.getElem_toArray, List.getElem_cons_zero, List.getElem_cons_succ, Act.put, List.setIfInBounds_toArray, List.set_cons_zero, List.set_cons_succ])
  refine wpAnyH_done (by kernel_rfl) ?_ _
  go_wp2
  go_ret
  exact ⟨rfl, below_drawn HBY.out 1⟩
set_option maxHeartbeats 600000 in
theorem p_fault_go (h : PGoing w b qb qo n qcap db doff dcap z mb s c jt jf k) (hs : sealsC c = true) (f : Nat) (hf : opF opL c (-1) = (f : Int)) : Calls Tryz.prog 53 #[.pointer (some ⟨b, 0, none⟩)] w (FaultP w (wrongE c k)) := by
  have c1 : w.cell? ⟨b, 1, none⟩ = some (.slice (some ⟨db, doff, none⟩) 64 dcap) := World.rowIs.cell h.mach (i := 1) (by decide)
  have c0 : w.cell? ⟨b, 0, none⟩ = some (.slice (some ⟨qb, qo, none⟩) n qcap) := World.rowIs.cell h.mach (i := 0) (by decide)
  have c21 : w.cell? ⟨b, 21, none⟩ = some (.int .i64 (s.place : Int)) := World.rowIs.cell h.mach (i := 21) (by decide)
  have hp : ¬ (n : Int) ≤ (s.place : Int) := by have := h.place; omega
  have HX0 := Lib.hid h
  clear h
  go_enter Tryz.func53, Tryz.ntmps53
  go_wp2
  go_quiet (fail)
  go_wp2
  have HX : Hid (PGoing (w.drewN nq) b qb qo n qcap db doff dcap z mb s c jt jf k) := Lib.hid (HX0.out.below (below_drawn (Below.refl _ _) _))
  have HBX : Hid (Below w.heap.size w (w.drewN nq)) := Lib.hid (below_drawn (Below.refl _ _) _)
  clear c0 c1 c21 HX0 hp
  generalize w.drewN nq = X at HX HBX ⊢
  have hp' : (s.place : Int) < (n : Int) := by have := HX.out.place; omega
  have hn := HX.out.len
  refine wp_region_held_drew (S := fun w' => PMAt w' b (.slice (some ⟨qb, qo, none⟩) n qcap) (.slice (some ⟨db, doff, none⟩) 64 dcap) (.map (some mb)) s ∧ InsCells w' qb (qo + s.place * 4) ⟨c, jt, jf, k⟩) (by kernel_rfl) ⟨HX.out.mach.drew, HX.out.ins⟩ (fun hHeld => ?_)
  have HY0 : Hid (PGoing X.drew b qb qo n qcap db doff dcap z mb s c jt jf k) := Lib.hid (HX.out.below (below_drawn (Below.refl _ _) 1))
  have HBY0 : Hid (Below w.heap.size w X.drew) := Lib.hid (below_drawn HBX.out 1)
  clear HX HBX
  generalize X.drew = Y at HY0 HBY0 hHeld ⊢
  (try clear X)
  have hql := HY0.out.qlt
  have hbl := World.rowIs.lt HY0.out.mach
  refine wpAnyH_take (i := 0) (v := ?_) rfl (by kernel_rfl) (by kernel_rfl) (by kernel_rfl) (fun _ _ _ h => h) (Or.inl ⟨by rfl, ?_⟩) (by assumption) ?_
  rotate_left
  · intro wS hSw
    (have q0 : wS.cell? ⟨b, 0, none⟩ = some (.slice (some ⟨qb, qo, none⟩) n qcap) := World.rowIs.cell hSw.1 (i := 0) (by decide); have q21 : wS.cell? ⟨b, 21, none⟩ = some (.int .i64 (s.place : Int)) := World.rowIs.cell hSw.1 (i := 21) (by decide); obtain ⟨i0, i1, i2, i3⟩ := hSw.2; clear hSw)
    go_simp
    all_goals with_reducible rfl
  (try simp only [List.getElem_toArray, List.getElem_cons_zero, List.getElem_cons_succ, Act.put, List.setIfInBounds_toArray, List.set_cons_zero, List.set_cons_succ])
  refine wpAnyH_take (i := 1) (v := ?_) rfl (by kernel_rfl) (by kernel_rfl) (by kernel_rfl) (fun _ _ _ h => h) (Or.inl ⟨by rfl, ?_⟩) (by assumption) ?_
  rotate_left
  · intro wS hSw
    (have q0 : wS.cell? ⟨b, 0, none⟩ = some (.slice (some ⟨qb, qo, none⟩) n qcap) := World.rowIs.cell hSw.1 (i := 0) (by decide); have q21 : wS.cell? ⟨b, 21, none⟩ = some (.int .i64 (s.place : Int)) := World.rowIs.cell hSw.1 (i := 21) (by decide); obtain ⟨i0, i1, i2, i3⟩ := hSw.2; clear hSw)
    go_simp
    all_goals with_reducible rfl
  (try simp only [List.getElem_toArray, List.getElem_cons_zero, List.getElem_cons_succ, Act.put, List.setIfInBounds_toArray, List.set_cons_zero, List.set_cons_succ])
  refine wpAnyH_take (i := 2) (v := ?_) rfl (by kernel_rfl) (by kernel_rfl) (by kernel_rfl) (fun _ _ _ h => h) (Or.inl ⟨by rfl, ?_⟩) (by assumption) ?_
  rotate_left
  · intro wS hSw
    (have q0 : wS.cell? ⟨b, 0, none⟩ = some (.slice (some ⟨qb, qo, none⟩) n qcap) := World.rowIs.cell hSw.1 (i := 0) (by decide); have q21 : wS.cell? ⟨b, 21, none⟩ = some (.int .i64 (s.place : Int)) := World.rowIs.cell hSw.1 (i := 21) (by decide); obtain ⟨i0, i1, i2, i3⟩ := hSw.2; clear hSw)
    go_simp
    all_goals with_reducible rfl
  (try simp only [List.getElem_toArray, List.getElem_cons_zero, List.getElem_cons_succ, Act.put, List.setIfInBounds_toArray, List.set_cons_zero, List.set_cons_succ])
  refine wpAnyH_take (i := 3) (v := ?_) rfl (by kernel_rfl) (by kernel_rfl) (by kernel_rfl) (fun _ _ _ h => h) (Or.inl ⟨by rfl, ?_⟩) (by assumption) ?_
  rotate_left
  · intro wS hSw
    (have q0 : wS.cell? ⟨b, 0, none⟩ = some (.slice (some ⟨qb, qo, none⟩) n qcap) := World.rowIs.cell hSw.1 (i := 0) (by decide); have q21 : wS.cell? ⟨b, 21, none⟩ = some (.int .i64 (s.place : Int)) := World.rowIs.cell hSw.1 (i := 21) (by decide); obtain ⟨i0, i1, i2, i3⟩ := hSw.2; clear hSw)
    go_simp
    all_goals with_reducible rfl
  (try simp only [List.getElem_toArray, List.getElem_cons_zero, List.getElem_cons_succ, Act.put, List.setIfInBounds_toArray, List.set_cons_zero, List.set_cons_succ])
  refine wpAnyH_take (i := 4) (v := ?_) rfl (by kernel_rfl) (by kernel_rfl) (by kernel_rfl) (fun _ _ _ h => h) (Or.inl ⟨by rfl, ?_⟩) (by assumption) ?_
  rotate_left
  · intro wS hSw
    (have q0 : wS.cell? ⟨b, 0, none⟩ = some (.slice (some ⟨qb, qo, none⟩) n qcap) := World.rowIs.cell hSw.1 (i := 0) (by decide); have q21 : wS.cell? ⟨b, 21, none⟩ = some (.int .i64 (s.place : Int)) := World.rowIs.cell hSw.1 (i := 21) (by decide); obtain ⟨i0, i1, i2, i3⟩ := hSw.2; clear hSw)
    go_simp
    all_goals with_reducible rfl
  (try simp only [List.getElem_toArray, List.getElem_cons_zero, List.getElem_cons_succ, Act.put, List.setIfInBounds_toArray, List.set_cons_zero, List.set_cons_succ])
  refine wpAnyH_take (i := 5) (v := ?_) rfl (by kernel_rfl) (by kernel_rfl) (by kernel_rfl) (fun _ _ _ h => h) (Or.inl ⟨by rfl, ?_⟩) (by assumption) ?_
  rotate_left
  · intro wS hSw
    (have q0 : wS.cell? ⟨b, 0, none⟩ = some (.slice (some ⟨qb, qo, none⟩) n qcap) := World.rowIs.cell hSw.1 (i := 0) (by decide); have q21 : wS.cell? ⟨b, 21, none⟩ = some (.int .i64 (s.place : Int)) := World.rowIs.cell hSw.1 (i := 21) (by decide); obtain ⟨i0, i1, i2, i3⟩ := hSw.2; clear hSw)
    go_simp
    all_goals with_reducible rfl
  (try simp only [List.getElem_toArray, List.getElem_cons_zero, List.getElem_cons_succ, Act.put, List.setIfInBounds_toArray, List.set_cons_zero, List.set_cons_succ])
  refine wpAnyH_take (i := 6) (v := ?_) rfl (by kernel_rfl) (by kernel_rfl) (by kernel_rfl) (fun _ _ _ h => h) (Or.inl ⟨by rfl, ?_⟩) (by assumption) ?_
  rotate_left
  · intro wS hSw
    (have q0 : wS.cell? ⟨b, 0, none⟩ = some (.slice (some ⟨qb, qo, none⟩) n qcap) := World.rowIs.cell hSw.1 (i := 0) (by decide); have q21 : wS.cell? ⟨b, 21, none⟩ = some (.int .i64 (s.place : Int)) := World.rowIs.cell hSw.1 (i := 21) (by decide); obtain ⟨i0, i1, i2, i3⟩ := hSw.2; clear hSw)
    go_simp
    all_goals with_reducible rfl
  (try simp only [List.getElem_toArray, List.getElem_cons_zero, List.getElem_cons_succ, Act.put, List.setIfInBounds_toArray, List.set_cons_zero, List.set_cons_succ])
  refine wpAnyH_take (i := 7) (v := ?_) rfl (by kernel_rfl) (by kernel_rfl) (by kernel_rfl) (fun _ _ _ h => h) (Or.inl ⟨by rfl, ?_⟩) (by assumption) ?_
  rotate_left
  · intro wS hSw
    (have q0 : wS.cell? ⟨b, 0, none⟩ = some (.slice (some ⟨qb, qo, none⟩) n qcap) := World.rowIs.cell hSw.1 (i := 0) (by decide); have q21 : wS.cell? ⟨b, 21, none⟩ = some (.int .i64 (s.place : Int)) := World.rowIs.cell hSw.1 (i := 21) (by decide); obtain ⟨i0, i1, i2, i3⟩ := hSw.2; clear hSw)
    go_simp
    all_goals with_reducible rfl
  (try simp only [List.getElem_toArray, List.getElem_cons_zero, List.getElem_cons_succ, Act.put, List.setIfInBounds_toArray, List.set_cons_zero, List.set_cons_succ])
  refine wpAnyH_take (i := 8) (v := ?_) rfl (by kernel_rfl) (by kernel_rfl) (by kernel_rfl) (fun _ _ _ h => h) (Or.inl ⟨by rfl, ?_⟩) (by assumption) ?_
  rotate_left
  · intro wS hSw
    (have q0 : wS.cell? ⟨b, 0, none⟩ = some (.slice (some ⟨qb, qo, none⟩) n qcap) := World.rowIs.cell hSw.1 (i := 0) (by decide); have q21 : wS.cell? ⟨b, 21, none⟩ = some (.int .i64 (s.place : Int)) := World.rowIs.cell hSw.1 (i := 21) (by decide); obtain ⟨i0, i1, i2, i3⟩ := hSw.2; clear hSw)
    go_simp
    all_goals with_reducible rfl
  (try simp only [List.getElem_toArray, List.getElem_cons_zero, List.getElem_cons_succ, Act.put, List.setIfInBounds_toArray, List.set_cons_zero, List.set_cons_succ])
  refine wpAnyH_take (i := 9) (v := ?_) rfl (by kernel_rfl) (by kernel_rfl) (by kernel_rfl) (fun _ _ _ h => h) (Or.inl ⟨by rfl, ?_⟩) (by assumption) ?_
  rotate_left
  · intro wS hSw
    (have q0 : wS.cell? ⟨b, 0, none⟩ = some (.slice (some ⟨qb, qo, none⟩) n qcap) := World.rowIs.cell hSw.1 (i := 0) (by decide); have q21 : wS.cell? ⟨b, 21, none⟩ = some (.int .i64 (s.place : Int)) := World.rowIs.cell hSw.1 (i := 21) (by decide); obtain ⟨i0, i1, i2, i3⟩ := hSw.2; clear hSw)
    go_simp
    all_goals with_reducible rfl
  (try simp only [List.getElem_toArray, List.getElem_cons_zero, List.getElem_cons_succ, Act.put, List.setIfInBounds_toArray, List.set_cons_zero, List.set_cons_succ])
  refine held_one (i := 10) (by kernel_rfl) rfl (fun K hK => ?_)
  go_simp
  refine hK.out _ _ ⟨hHeld.1.alloc _, hHeld.2.below (box_below _ _) hql⟩ (fun hH2 => ?_)
  clear hK K hHeld
  (try simp only [Act.put, List.setIfInBounds_toArray, List.set_cons_zero, List.set_cons_succ])
  have R1 : (Y.alloc (.cells #[.int .u16 0, .int .u8 0, .int .u8 0, .int .u32 0] 60)).rowIs Y.heap.size 60 4 (insF ⟨0, 0, 0, 0#32⟩) := ins_new Y
  have B1 := box_below Y (.cells #[.int .u16 0, .int .u8 0, .int .u8 0, .int .u32 0] 60)
  generalize Y.alloc (.cells #[.int .u16 0, .int .u8 0, .int .u8 0, .int .u32 0] 60) = W1 at R1 B1 hH2 ⊢
  have e0 : W1.cell? ⟨Y.heap.size, 0, none⟩ = some (.int .u16 0) := World.rowIs.cell R1 (i := 0) (by decide)
  have e1 : W1.cell? ⟨Y.heap.size, 1, none⟩ = some (.int .u8 0) := World.rowIs.cell R1 (i := 1) (by decide)
  have e2 : W1.cell? ⟨Y.heap.size, 2, none⟩ = some (.int .u8 0) := World.rowIs.cell R1 (i := 2) (by decide)
  have e3 : W1.cell? ⟨Y.heap.size, 3, none⟩ = some (.int .u32 0) := World.rowIs.cell R1 (i := 3) (by decide)
  have y0 := World.rowIs.frozen R1 0
  have y1 := World.rowIs.frozen R1 1
  have y2 := World.rowIs.frozen R1 2
  have y3 := World.rowIs.frozen R1 3
  have R2 := Lib.hid (ins_set R1 c jt jf k)
  have G2 := Lib.hid (ins_grown (World.grownBy.refl W1 (some Y.heap.size)) (.int .u16 c) (.int .u8 (jt : Int)) (.int .u8 (jf : Int)) (.int .u32 (k.toNat : Int)))
  have HB1 := Lib.hid B1
  have HH := Lib.hid hH2
  clear R1 B1 hH2
  refine held_one (i := 11) (by kernel_rfl) rfl (fun K hK => ?_)
  go_simp
  have hM2 := HH.out.1.grown G2.out (by omega)
  have hI2 := HH.out.2.grown G2.out (by omega)
  have hB2 := below_grown HB1.out G2.out (Nat.le_refl _) (Nat.le_refl _)
  refine hK.out _ _ ⟨hM2, hI2⟩ (fun hX2 => ?_)
  clear hX2 hK K e0 e1 e2 e3 y0 y1 y2 y3 HH G2 HB1 hI2 hM2
  have hR2 := R2.out
  clear R2
  refine wpAnyH_done (by kernel_rfl) ?_ _
  generalize (((W1.setCell ⟨Y.heap.size, 0, none⟩ (.int .u16 c)).setCell ⟨Y.heap.size, 1, none⟩ (.int .u8 (jt : Int))).setCell ⟨Y.heap.size, 2, none⟩ (.int .u8 (jf : Int))).setCell ⟨Y.heap.size, 3, none⟩ (.int .u32 (k.toNat : Int)) = W2 at hB2 hR2 ⊢
  (try clear W1)
  have HY := Lib.hid (HY0.out.below hB2)
  have HR := Lib.hid hR2
  have HBY := Lib.hid (HBY0.out.trans (hB2.mono HBY0.out.size))
  have hgb : ¬ Y.heap.size = b := by omega
  clear HY0 HBY0 hB2 hR2 hp' hn hql hbl
  generalize Y.heap.size = g at HR hgb ⊢
  (try clear Y)
  obtain ⟨i0, i1, i2, i3⟩ := ins_cells HR.out
  have y2 : W2.cell? ⟨b, 2, none⟩ = some (.map (some mb)) := World.rowIs.cell HY.out.mach (i := 2) (by decide)
  have HLK := Lib.hid (fun w (h : OpsMap w mb) => ops_fn h c f HY.out.code hf)
  have hq := eq_fnf f
  have HO := Lib.hid (fun w hd h => p_operandFault w b (.slice (some ⟨qb, qo, none⟩) n qcap) (.map (some mb)) s c jt jf k db doff dcap z hd h hs)
  clear hf
  go_wp2
  refine wp_region_held_drew (S := fun w' => w'.rowIs g 60 4 (insF ⟨c, jt, jf, k⟩) ∧ w'.cell? ⟨b, 2, none⟩ = some (.map (some mb)) ∧ OpsMap w' mb) (by kernel_rfl) ⟨HR.out, y2, HY.out.ops⟩ (fun hHeld => ?_)
  refine wpAnyH_take (i := 0) (v := ?_) rfl (by kernel_rfl) (by kernel_rfl) (by kernel_rfl) (fun _ _ _ h => h) (Or.inl ⟨by rfl, ?_⟩) (by assumption) ?_
  rotate_left
  · intro wS hSw
    (obtain ⟨q0, q1, q2, q3⟩ := ins_cells hSw.1; have q4 := hSw.2.1; have q5 := HLK.out _ hSw.2.2; clear hSw)
    go_simp
    all_goals with_reducible rfl
  (try simp only [List.getElem_toArray, List.getElem_cons_zero, List.getElem_cons_succ, Act.put, List.setIfInBounds_toArray, List.set_cons_zero, List.set_cons_succ])
  refine wpAnyH_take (i := 1) (v := ?_) rfl (by kernel_rfl) (by kernel_rfl) (by kernel_rfl) (fun _ _ _ h => h) (Or.inl ⟨by rfl, ?_⟩) (by assumption) ?_
  rotate_left
  · intro wS hSw
    (obtain ⟨q0, q1, q2, q3⟩ := ins_cells hSw.1; have q4 := hSw.2.1; have q5 := HLK.out _ hSw.2.2; clear hSw)
    go_simp
    all_goals with_reducible rfl
  (try simp only [List.getElem_toArray, List.getElem_cons_zero, List.getElem_cons_succ, Act.put, List.setIfInBounds_toArray, List.set_cons_zero, List.set_cons_succ])
  refine wpAnyH_take (i := 2) (v := ?_) rfl (by kernel_rfl) (by kernel_rfl) (by kernel_rfl) (fun _ _ _ h => h) (Or.inl ⟨by rfl, ?_⟩) (by assumption) ?_
  rotate_left
  · intro wS hSw
    (obtain ⟨q0, q1, q2, q3⟩ := ins_cells hSw.1; have q4 := hSw.2.1; have q5 := HLK.out _ hSw.2.2; clear hSw)
    go_simp
    all_goals with_reducible rfl
  (try simp only [List.getElem_toArray, List.getElem_cons_zero, List.getElem_cons_succ, Act.put, List.setIfInBounds_toArray, List.set_cons_zero, List.set_cons_succ])
  refine wpAnyH_take (i := 3) (v := ?_) rfl (by kernel_rfl) (by kernel_rfl) (by kernel_rfl) (fun _ _ _ h => h) (Or.inl ⟨by rfl, ?_⟩) (by assumption) ?_
  rotate_left
  · intro wS hSw
    (obtain ⟨q0, q1, q2, q3⟩ := ins_cells hSw.1; have q4 := hSw.2.1; have q5 := HLK.out _ hSw.2.2; clear hSw)
    go_simp
    all_goals with_reducible rfl
  (try simp only [List.getElem_toArray, List.getElem_cons_zero, List.getElem_cons_succ, Act.put, List.setIfInBounds_toArray, List.set_cons_zero, List.set_cons_succ])
  refine wpAnyH_take (i := 4) (v := ?_) rfl (by kernel_rfl) (by kernel_rfl) (by kernel_rfl) (fun _ _ _ h => h) (Or.inl ⟨by rfl, ?_⟩) (by assumption) ?_
  rotate_left
  · intro wS hSw
    (obtain ⟨q0, q1, q2, q3⟩ := ins_cells hSw.1; have q4 := hSw.2.1; have q5 := HLK.out _ hSw.2.2; clear hSw)
    go_simp
    all_goals with_reducible rfl
  (try simp only [List.getElem_toArray, List.getElem_cons_zero, List.getElem_cons_succ, Act.put, List.setIfInBounds_toArray, List.set_cons_zero, List.set_cons_succ])
  refine wpAnyH_take (i := 5) (v := ?_) rfl (by kernel_rfl) (by kernel_rfl) (by kernel_rfl) (fun _ _ _ h => h) (Or.inl ⟨by rfl, ?_⟩) (by assumption) ?_
  rotate_left
  · intro wS hSw
    (obtain ⟨q0, q1, q2, q3⟩ := ins_cells hSw.1; have q4 := hSw.2.1; have q5 := HLK.out _ hSw.2.2; clear hSw)
    go_simp
    all_goals with_reducible rfl
  (try simp only [List.getElem_toArray, List.getElem_cons_zero, List.getElem_cons_succ, Act.put, List.setIfInBounds_toArray, List.set_cons_zero, List.set_cons_succ])
  refine wpAnyH_take (i := 6) (v := ?_) rfl (by kernel_rfl) (by kernel_rfl) (by kernel_rfl) (fun _ _ _ h => h) (Or.inl ⟨by rfl, ?_⟩) (by assumption) ?_
  rotate_left
  · intro wS hSw
    (obtain ⟨q0, q1, q2, q3⟩ := ins_cells hSw.1; have q4 := hSw.2.1; have q5 := HLK.out _ hSw.2.2; clear hSw)
    go_simp
    all_goals with_reducible rfl
  (try simp only [List.getElem_toArray, List.getElem_cons_zero, List.getElem_cons_succ, Act.put, List.setIfInBounds_toArray, List.set_cons_zero, List.set_cons_succ])
  refine wpAnyH_take (i := 7) (v := ?_) rfl (by kernel_rfl) (by kernel_rfl) (by kernel_rfl) (fun _ _ _ h => h) (Or.inl ⟨by rfl, ?_⟩) (by assumption) ?_
  rotate_left
  · intro wS hSw
    (skip)
    go_simp
    all_goals with_reducible rfl
  (try simp only [List.getElem_toArray, List.getElem_cons_zero, List.getElem_cons_succ, Act.put, List.setIfInBounds_toArray, List.set_cons_zero, List.set_cons_succ])
  refine wpAnyH_done (by kernel_rfl) ?_ _
  have HY2 : Hid (PGoing W2.drew b qb qo n qcap db doff dcap z mb s c jt jf k) := Lib.hid (HY.out.below (below_drawn (Below.refl _ _) 1))
  have HBY2 : Hid (Below w.heap.size w W2.drew) := Lib.hid (below_drawn HBY.out 1)
  have HR2 : Hid (W2.drew.rowIs g 60 4 (insF ⟨c, jt, jf, k⟩)) := HR
  clear hHeld HY HBY HR HLK i0 i1 i2 i3 y2
  generalize W2.drew = W3 at HY2 HBY2 HR2 ⊢
  obtain ⟨i0, i1, i2, i3⟩ := ins_cells HR2.out
  go_wp2_with (go_at_call 105; (with_reducible refine (HO.out _ HY2.out.bytes HY2.out.mach).mono ?_); rintro e W4 ⟨rfl, hb4⟩; have HB4 := Lib.hid (HBY2.out.trans (hb4.mono HBY2.out.size)); clear hb4)
  go_ret
  exact ⟨rfl, HB4.out⟩
end
end Go.Proofs.YtoajommeiocfpaaGreat
namespace Go.Proofs.YtoajommeiocfpaaGreat
open Go Go.RowKit
set_option linter.unusedSimpArgs false
set_option linter.unusedVariables false
set_option maxRecDepth 100000

/-- What a method that changes its machine leaves. -/
def PMethP (w : World) (b : Nat) (qv dv mv : Value) (r : Bool) (s : Mach) (e : Ending) (w' : World) : Prop := e = .returned (.bool r) ∧ PMAt w' b qv dv mv s ∧ w.grownBy w' (some b)
section
variable (w : World) (b : Nat) (qa : Option Addr) (n qcap : Nat) (q : Nat → Ins) (da : Option Addr) (dlen dcap : Nat) (z : Nat → Int) (mb : Nat) (s : Mach)
theorem p_step_done (h : PReady w b qa n qcap q da dlen dcap z mb s) (hd : s.done = true) : Calls Tryz.prog 23 #[.pointer (some ⟨b, 0, none⟩)] w (PMethP w b (.slice qa n qcap) (.slice da dlen dcap) (.map (some mb)) true s) := by
  have c23 : w.cell? ⟨b, 23, none⟩ = some (.bool true) := by have := World.rowIs.cell h.mach (i := 23) (by decide); rw [this]; exact congrArg (fun x => some (Value.bool x)) hd
  have H := Lib.hid h.mach
  clear h hd
  go_enter Tryz.func23, Tryz.ntmps23
  go_wp2
  go_ret
  exact ⟨rfl, H.out, World.grownBy.refl w _⟩
theorem p_step_fault (qv dv mv : Value) (h : PMAt w b qv dv mv s) (hd : s.done = false) (E : Int) (hE : ¬ E = 0) (hf : Calls Tryz.prog 53 #[.pointer (some ⟨b, 0, none⟩)] w (FaultP w E)) :
    Calls Tryz.prog 23 #[.pointer (some ⟨b, 0, none⟩)] w (PMethP w b qv dv mv true (s.fails E)) := by
  have c23 : w.cell? ⟨b, 23, none⟩ = some (.bool false) := by have := World.rowIs.cell h (i := 23) (by decide); rw [this]; exact congrArg (fun x => some (Value.bool x)) hd
  have HM := Lib.hid h
  have HF := Lib.hid hf
  clear h hf hd
  go_enter Tryz.func23, Tryz.ntmps23
  go_wp2_with (go_at_call 53; (with_reducible refine HF.out.mono ?_); rintro e w1 ⟨rfl, hb⟩; have HM1 := Lib.hid (HM.out.below hb (World.rowIs.lt HM.out)); have HB := Lib.hid hb; have d23 : w1.cell? ⟨b, 23, none⟩ = some (.bool s.done) := World.rowIs.cell HM1.out (i := 23) (by decide); have d25 : w1.cell? ⟨b, 25, none⟩ = some (.int .i64 s.err) := World.rowIs.cell HM1.out (i := 25) (by decide); have z23 := World.rowIs.frozen HM1.out 23; have z25 := World.rowIs.frozen HM1.out 25; clear hb c23 HF HM)
  go_ret
  exact ⟨rfl, (HM1.out.set_done true).set_err E, grown_cell (grown_cell (grown_of_below HB.out _) 23 _) 25 _⟩
end
section
variable (w : World) (b qb qo n qcap db doff dcap : Nat) (z : Nat → Int) (mb : Nat) (s : Mach) (c : Int) (jt jf : Nat) (k : BitVec 32)
set_option maxHeartbeats 4000000 in
theorem p_step_end (h : PGoing w b qb qo n qcap db doff dcap z mb s c jt jf k) (hs : sealsC c = true) (hw : wrongE c k = 0) (f : Nat) (hf : opF opL c (-1) = (f : Int)) (hen : Go.Proofs.Enters Tryz.prog f) (s' : Mach) (hst : s'.steps = s.steps) (hdn : s'.done = true)
    (HC : ∀ W, PGoing W b qb qo n qcap db doff dcap z mb s c jt jf k → Calls Tryz.prog f #[.pointer (some ⟨b, 0, none⟩), .agg #[.int .u16 c, .int .u8 (jt : Int), .int .u8 (jf : Int), .int .u32 (k.toNat : Int)]] W (OpP W b (.slice (some ⟨qb, qo, none⟩) n qcap) (.slice (some ⟨db, doff, none⟩) 64 dcap) (.map (some mb)) s')) :
    Calls Tryz.prog 23 #[.pointer (some ⟨b, 0, none⟩)] w (PMethP w b (.slice (some ⟨qb, qo, none⟩) n qcap) (.slice (some ⟨db, doff, none⟩) 64 dcap) (.map (some mb)) true { s' with steps := s'.steps + 1 }) := by
  have c23 : w.cell? ⟨b, 23, none⟩ = some (.bool false) := by have := World.rowIs.cell h.mach (i := 23) (by decide); rw [this]; exact congrArg (fun x => some (Value.bool x)) h.going
  have HX0 := Lib.hid h
  have HF : Hid (Calls Tryz.prog 53 #[.pointer (some ⟨b, 0, none⟩)] w (FaultP w 0)) := Lib.hid (hw ▸ p_fault_go w b qb qo n qcap db doff dcap z mb s c jt jf k h hs f hf)
  have HLK := Lib.hid (fun w (h : OpsMap w mb) => ops_fn h c f HX0.out.code hf)
  have HCC := Lib.hid HC
  have hss : s'.steps < 1000000000000000000 := hst ▸ h.steps
  have hws : IntKind.i64.wrap ((s'.steps : Int) + 1) = (s'.steps : Int) + 1 := IntWalk.i64_in _ (by omega)
  have HD := Lib.hid hdn
  have hen' : ∀ args w, (callFunc f args).run Tryz.prog w = .ok (.enter f args) w := hen
  clear h hs hw hf hst hss hdn HC hen
  go_enter Tryz.func23, Tryz.ntmps23
  go_wp2_with (go_at_call 53; (with_reducible refine HF.out.mono ?_); rintro e X ⟨rfl, hb⟩; have HX := Lib.hid (HX0.out.below hb); have HBX := Lib.hid hb; clear hb c23 HF HX0)
  have hp' : (s.place : Int) < (n : Int) := by have := HX.out.place; omega
  have hn := HX.out.len
  refine wp_region_held_drew (S := fun w' => PMAt w' b (.slice (some ⟨qb, qo, none⟩) n qcap) (.slice (some ⟨db, doff, none⟩) 64 dcap) (.map (some mb)) s ∧ InsCells w' qb (qo + s.place * 4) ⟨c, jt, jf, k⟩) (by kernel_rfl) ⟨HX.out.mach.drew, HX.out.ins⟩ (fun hHeld => ?_)
  have HY0 : Hid (PGoing X.drew b qb qo n qcap db doff dcap z mb s c jt jf k) := Lib.hid (HX.out.below (below_drawn (Below.refl _ _) 1))
  have HBY0 : Hid (Below w.heap.size w X.drew) := Lib.hid (below_drawn HBX.out 1)
  clear HX HBX
  generalize X.drew = Y at HY0 HBY0 hHeld ⊢
  (try clear X)
  have hql := HY0.out.qlt
  have hbl := World.rowIs.lt HY0.out.mach
  refine wpAnyH_take (i := 0) (v := ?_) rfl (by kernel_rfl) (by kernel_rfl) (by kernel_rfl) (fun _ _ _ h => h) (Or.inl ⟨by rfl, ?_⟩) (by assumption) ?_
  rotate_left
  · intro wS hSw
    (have q0 : wS.cell? ⟨b, 0, none⟩ = some (.slice (some ⟨qb, qo, none⟩) n qcap) := World.rowIs.cell hSw.1 (i := 0) (by decide); have q21 : wS.cell? ⟨b, 21, none⟩ = some (.int .i64 (s.place : Int)) := World.rowIs.cell hSw.1 (i := 21) (by decide); obtain ⟨i0, i1, i2, i3⟩ := hSw.2; clear hSw)
    go_simp
    all_goals with_reducible rfl
  (try simp only [List.getElem_toArray, List.getElem_cons_zero, List.getElem_cons_succ, Act.put, List.setIfInBounds_toArray, List.set_cons_zero, List.set_cons_succ])
  refine wpAnyH_take (i := 1) (v := ?_) rfl (by kernel_rfl) (by kernel_rfl) (by kernel_rfl) (fun _ _ _ h => h) (Or.inl ⟨by rfl, ?_⟩) (by assumption) ?_
  rotate_left
  · intro wS hSw
    (have q0 : wS.cell? ⟨b, 0, none⟩ = some (.slice (some ⟨qb, qo, none⟩) n qcap) := World.rowIs.cell hSw.1 (i := 0) (by decide); have q21 : wS.cell? ⟨b, 21, none⟩ = some (.int .i64 (s.place : Int)) := World.rowIs.cell hSw.1 (i := 21) (by decide); obtain ⟨i0, i1, i2, i3⟩ := hSw.2; clear hSw)
    go_simp
    all_goals with_reducible rfl
  (try simp only [List.getElem_toArray, List.getElem_cons_zero, List.getElem_cons_succ, Act.put, List.setIfInBounds_toArray, List.set_cons_zero, List.set_cons_succ])
  refine wpAnyH_take (i := 2) (v := ?_) rfl (by kernel_rfl) (by kernel_rfl) (by kernel_rfl) (fun _ _ _ h => h) (Or.inl ⟨by rfl, ?_⟩) (by assumption) ?_
  rotate_left
  · intro wS hSw
    (have q0 : wS.cell? ⟨b, 0, none⟩ = some (.slice (some ⟨qb, qo, none⟩) n qcap) := World.rowIs.cell hSw.1 (i := 0) (by decide); have q21 : wS.cell? ⟨b, 21, none⟩ = some (.int .i64 (s.place : Int)) := World.rowIs.cell hSw.1 (i := 21) (by decide); obtain ⟨i0, i1, i2, i3⟩ := hSw.2; clear hSw)
    go_simp
    all_goals with_reducible rfl
  (try simp only [List.getElem_toArray, List.getElem_cons_zero, List.getElem_cons_succ, Act.put, List.setIfInBounds_toArray, List.set_cons_zero, List.set_cons_succ])
  refine wpAnyH_take (i := 3) (v := ?_) rfl (by kernel_rfl) (by kernel_rfl) (by kernel_rfl) (fun _ _ _ h => h) (Or.inl ⟨by rfl, ?_⟩) (by assumption) ?_
  rotate_left
  · intro wS hSw
    (have q0 : wS.cell? ⟨b, 0, none⟩ = some (.slice (some ⟨qb, qo, none⟩) n qcap) := World.rowIs.cell hSw.1 (i := 0) (by decide); have q21 : wS.cell? ⟨b, 21, none⟩ = some (.int .i64 (s.place : Int)) := World.rowIs.cell hSw.1 (i := 21) (by decide); obtain ⟨i0, i1, i2, i3⟩ := hSw.2; clear hSw)
    go_simp
    all_goals with_reducible rfl
  (try simp only [List.getElem_toArray, List.getElem_cons_zero, List.getElem_cons_succ, Act.put, List.setIfInBounds_toArray, List.set_cons_zero, List.set_cons_succ])
  refine wpAnyH_take (i := 4) (v := ?_) rfl (by kernel_rfl) (by kernel_rfl) (by kernel_rfl) (fun _ _ _ h => h) (Or.inl ⟨by rfl, ?_⟩) (by assumption) ?_
  rotate_left
  · intro wS hSw
    (have q0 : wS.cell? ⟨b, 0, none⟩ = some (.slice (some ⟨qb, qo, none⟩) n qcap) := World.rowIs.cell hSw.1 (i := 0) (by decide); have q21 : wS.cell? ⟨b, 21, none⟩ = some (.int .i64 (s.place : Int)) := World.rowIs.cell hSw.1 (i := 21) (by decide); obtain ⟨i0, i1, i2, i3⟩ := hSw.2; clear hSw)
    go_simp
    all_goals with_reducible rfl
  (try simp only [List.getElem_toArray, List.getElem_cons_zero, List.getElem_cons_succ, Act.put, List.setIfInBounds_toArray, List.set_cons_zero, List.set_cons_succ])
  refine wpAnyH_take (i := 5) (v := ?_) rfl (by kernel_rfl) (by kernel_rfl) (by kernel_rfl) (fun _ _ _ h => h) (Or.inl ⟨by rfl, ?_⟩) (by assumption) ?_
  rotate_left
  · intro wS hSw
    (have q0 : wS.cell? ⟨b, 0, none⟩ = some (.slice (some ⟨qb, qo, none⟩) n qcap) := World.rowIs.cell hSw.1 (i := 0) (by decide); have q21 : wS.cell? ⟨b, 21, none⟩ = some (.int .i64 (s.place : Int)) := World.rowIs.cell hSw.1 (i := 21) (by decide); obtain ⟨i0, i1, i2, i3⟩ := hSw.2; clear hSw)
    go_simp
    all_goals with_reducible rfl
  (try simp only [List.getElem_toArray, List.getElem_cons_zero, List.getElem_cons_succ, Act.put, List.setIfInBounds_toArray, List.set_cons_zero, List.set_cons_succ])
  refine wpAnyH_take (i := 6) (v := ?_) rfl (by kernel_rfl) (by kernel_rfl) (by kernel_rfl) (fun _ _ _ h => h) (Or.inl ⟨by rfl, ?_⟩) (by assumption) ?_
  rotate_left
  · intro wS hSw
    (have q0 : wS.cell? ⟨b, 0, none⟩ = some (.slice (some ⟨qb, qo, none⟩) n qcap) := World.rowIs.cell hSw.1 (i := 0) (by decide); have q21 : wS.cell? ⟨b, 21, none⟩ = some (.int .i64 (s.place : Int)) := World.rowIs.cell hSw.1 (i := 21) (by decide); obtain ⟨i0, i1, i2, i3⟩ := hSw.2; clear hSw)
    go_simp
    all_goals with_reducible rfl
  (try simp only [List.getElem_toArray, List.getElem_cons_zero, List.getElem_cons_succ, Act.put, List.setIfInBounds_toArray, List.set_cons_zero, List.set_cons_succ])
  refine wpAnyH_take (i := 7) (v := ?_) rfl (by kernel_rfl) (by kernel_rfl) (by kernel_rfl) (fun _ _ _ h => h) (Or.inl ⟨by rfl, ?_⟩) (by assumption) ?_
  rotate_left
  · intro wS hSw
    (have q0 : wS.cell? ⟨b, 0, none⟩ = some (.slice (some ⟨qb, qo, none⟩) n qcap) := World.rowIs.cell hSw.1 (i := 0) (by decide); have q21 : wS.cell? ⟨b, 21, none⟩ = some (.int .i64 (s.place : Int)) := World.rowIs.cell hSw.1 (i := 21) (by decide); obtain ⟨i0, i1, i2, i3⟩ := hSw.2; clear hSw)
    go_simp
    all_goals with_reducible rfl
  (try simp only [List.getElem_toArray, List.getElem_cons_zero, List.getElem_cons_succ, Act.put, List.setIfInBounds_toArray, List.set_cons_zero, List.set_cons_succ])
  refine wpAnyH_take (i := 8) (v := ?_) rfl (by kernel_rfl) (by kernel_rfl) (by kernel_rfl) (fun _ _ _ h => h) (Or.inl ⟨by rfl, ?_⟩) (by assumption) ?_
  rotate_left
  · intro wS hSw
    (have q0 : wS.cell? ⟨b, 0, none⟩ = some (.slice (some ⟨qb, qo, none⟩) n qcap) := World.rowIs.cell hSw.1 (i := 0) (by decide); have q21 : wS.cell? ⟨b, 21, none⟩ = some (.int .i64 (s.place : Int)) := World.rowIs.cell hSw.1 (i := 21) (by decide); obtain ⟨i0, i1, i2, i3⟩ := hSw.2; clear hSw)
    go_simp
    all_goals with_reducible rfl
  (try simp only [List.getElem_toArray, List.getElem_cons_zero, List.getElem_cons_succ, Act.put, List.setIfInBounds_toArray, List.set_cons_zero, List.set_cons_succ])
  refine wpAnyH_take (i := 9) (v := ?_) rfl (by kernel_rfl) (by kernel_rfl) (by kernel_rfl) (fun _ _ _ h => h) (Or.inl ⟨by rfl, ?_⟩) (by assumption) ?_
  rotate_left
  · intro wS hSw
    (have q0 : wS.cell? ⟨b, 0, none⟩ = some (.slice (some ⟨qb, qo, none⟩) n qcap) := World.rowIs.cell hSw.1 (i := 0) (by decide); have q21 : wS.cell? ⟨b, 21, none⟩ = some (.int .i64 (s.place : Int)) := World.rowIs.cell hSw.1 (i := 21) (by decide); obtain ⟨i0, i1, i2, i3⟩ := hSw.2; clear hSw)
    go_simp
    all_goals with_reducible rfl
  (try simp only [List.getElem_toArray, List.getElem_cons_zero, List.getElem_cons_succ, Act.put, List.setIfInBounds_toArray, List.set_cons_zero, List.set_cons_succ])
  refine held_one (i := 10) (by kernel_rfl) rfl (fun K hK => ?_)
  go_simp
  refine hK.out _ _ ⟨hHeld.1.alloc _, hHeld.2.below (box_below _ _) hql⟩ (fun hH2 => ?_)
  clear hK K hHeld
  (try simp only [Act.put, List.setIfInBounds_toArray, List.set_cons_zero, List.set_cons_succ])
  have R1 : (Y.alloc (.cells #[.int .u16 0, .int .u8 0, .int .u8 0, .int .u32 0] 60)).rowIs Y.heap.size 60 4 (insF ⟨0, 0, 0, 0#32⟩) := ins_new Y
  have B1 := box_below Y (.cells #[.int .u16 0, .int .u8 0, .int .u8 0, .int .u32 0] 60)
  generalize Y.alloc (.cells #[.int .u16 0, .int .u8 0, .int .u8 0, .int .u32 0] 60) = W1 at R1 B1 hH2 ⊢
  have e0 : W1.cell? ⟨Y.heap.size, 0, none⟩ = some (.int .u16 0) := World.rowIs.cell R1 (i := 0) (by decide)
  have e1 : W1.cell? ⟨Y.heap.size, 1, none⟩ = some (.int .u8 0) := World.rowIs.cell R1 (i := 1) (by decide)
  have e2 : W1.cell? ⟨Y.heap.size, 2, none⟩ = some (.int .u8 0) := World.rowIs.cell R1 (i := 2) (by decide)
  have e3 : W1.cell? ⟨Y.heap.size, 3, none⟩ = some (.int .u32 0) := World.rowIs.cell R1 (i := 3) (by decide)
  have y0 := World.rowIs.frozen R1 0
  have y1 := World.rowIs.frozen R1 1
  have y2 := World.rowIs.frozen R1 2
  have y3 := World.rowIs.frozen R1 3
  have R2 := Lib.hid (ins_set R1 c jt jf k)
  have G2 := Lib.hid (ins_grown (World.grownBy.refl W1 (some Y.heap.size)) (.int .u16 c) (.int .u8 (jt : Int)) (.int .u8 (jf : Int)) (.int .u32 (k.toNat : Int)))
  have HB1 := Lib.hid B1
  have HH := Lib.hid hH2
  clear R1 B1 hH2
  refine held_one (i := 11) (by kernel_rfl) rfl (fun K hK => ?_)
  go_simp
  have hM2 := HH.out.1.grown G2.out (by omega)
  have hI2 := HH.out.2.grown G2.out (by omega)
  have hB2 := below_grown HB1.out G2.out (Nat.le_refl _) (Nat.le_refl _)
  refine hK.out _ _ ⟨hM2, hI2⟩ (fun hX2 => ?_)
  clear hX2 hK K e0 e1 e2 e3 y0 y1 y2 y3 HH G2 HB1 hI2 hM2
  have hR2 := R2.out
  clear R2
  refine wpAnyH_done (by kernel_rfl) ?_ _
  generalize (((W1.setCell ⟨Y.heap.size, 0, none⟩ (.int .u16 c)).setCell ⟨Y.heap.size, 1, none⟩ (.int .u8 (jt : Int))).setCell ⟨Y.heap.size, 2, none⟩ (.int .u8 (jf : Int))).setCell ⟨Y.heap.size, 3, none⟩ (.int .u32 (k.toNat : Int)) = W2 at hB2 hR2 ⊢
  (try clear W1)
  have HY := Lib.hid (HY0.out.below hB2)
  have HR := Lib.hid hR2
  have HBY := Lib.hid (HBY0.out.trans (hB2.mono HBY0.out.size))
  have hgb : ¬ Y.heap.size = b := by omega
  clear HY0 HBY0 hB2 hR2 hp' hn hql hbl
  generalize Y.heap.size = g at HR hgb ⊢
  (try clear Y)
  obtain ⟨i0, i1, i2, i3⟩ := ins_cells HR.out
  have y2 : W2.cell? ⟨b, 2, none⟩ = some (.map (some mb)) := World.rowIs.cell HY.out.mach (i := 2) (by decide)
  go_wp2
  refine wp_region_held_drew (S := fun w' => w'.rowIs g 60 4 (insF ⟨c, jt, jf, k⟩) ∧ w'.cell? ⟨b, 2, none⟩ = some (.map (some mb)) ∧ OpsMap w' mb) (by kernel_rfl) ⟨HR.out, y2, HY.out.ops⟩ (fun hHeld => ?_)
  have HY2 : Hid (PGoing W2.drew b qb qo n qcap db doff dcap z mb s c jt jf k) := Lib.hid (HY.out.below (below_drawn (Below.refl _ _) 1))
  have HBY2 : Hid (Below w.heap.size w W2.drew) := Lib.hid (below_drawn HBY.out 1)
  clear HY HBY HR i0 i1 i2 i3 y2
  generalize W2.drew = W3 at HY2 HBY2 hHeld ⊢
  refine wpAnyH_take (i := 0) (v := ?_) rfl (by kernel_rfl) (by kernel_rfl) (by kernel_rfl) (fun _ _ _ h => h) (Or.inl ⟨by rfl, ?_⟩) (by assumption) ?_
  rotate_left
  · intro wS hSw
    (obtain ⟨q0, q1, q2, q3⟩ := ins_cells hSw.1; have q4 := hSw.2.1; have q5 := HLK.out _ hSw.2.2; clear hSw)
    go_simp
    all_goals with_reducible rfl
  (try simp only [List.getElem_toArray, List.getElem_cons_zero, List.getElem_cons_succ, Act.put, List.setIfInBounds_toArray, List.set_cons_zero, List.set_cons_succ])
  refine wpAnyH_take (i := 1) (v := ?_) rfl (by kernel_rfl) (by kernel_rfl) (by kernel_rfl) (fun _ _ _ h => h) (Or.inl ⟨by rfl, ?_⟩) (by assumption) ?_
  rotate_left
  · intro wS hSw
    (obtain ⟨q0, q1, q2, q3⟩ := ins_cells hSw.1; have q4 := hSw.2.1; have q5 := HLK.out _ hSw.2.2; clear hSw)
    go_simp
    all_goals with_reducible rfl
  (try simp only [List.getElem_toArray, List.getElem_cons_zero, List.getElem_cons_succ, Act.put, List.setIfInBounds_toArray, List.set_cons_zero, List.set_cons_succ])
  refine wpAnyH_take (i := 2) (v := ?_) rfl (by kernel_rfl) (by kernel_rfl) (by kernel_rfl) (fun _ _ _ h => h) (Or.inl ⟨by rfl, ?_⟩) (by assumption) ?_
  rotate_left
  · intro wS hSw
    (obtain ⟨q0, q1, q2, q3⟩ := ins_cells hSw.1; have q4 := hSw.2.1; have q5 := HLK.out _ hSw.2.2; clear hSw)
    go_simp
    all_goals with_reducible rfl
  (try simp only [List.getElem_toArray, List.getElem_cons_zero, List.getElem_cons_succ, Act.put, List.setIfInBounds_toArray, List.set_cons_zero, List.set_cons_succ])
  refine wpAnyH_take (i := 3) (v := ?_) rfl (by kernel_rfl) (by kernel_rfl) (by kernel_rfl) (fun _ _ _ h => h) (Or.inl ⟨by rfl, ?_⟩) (by assumption) ?_
  rotate_left
  · intro wS hSw
    (obtain ⟨q0, q1, q2, q3⟩ := ins_cells hSw.1; have q4 := hSw.2.1; have q5 := HLK.out _ hSw.2.2; clear hSw)
    go_simp
    all_goals with_reducible rfl
  (try simp only [List.getElem_toArray, List.getElem_cons_zero, List.getElem_cons_succ, Act.put, List.setIfInBounds_toArray, List.set_cons_zero, List.set_cons_succ])
  refine wpAnyH_take (i := 4) (v := ?_) rfl (by kernel_rfl) (by kernel_rfl) (by kernel_rfl) (fun _ _ _ h => h) (Or.inl ⟨by rfl, ?_⟩) (by assumption) ?_
  rotate_left
  · intro wS hSw
    (obtain ⟨q0, q1, q2, q3⟩ := ins_cells hSw.1; have q4 := hSw.2.1; have q5 := HLK.out _ hSw.2.2; clear hSw)
    go_simp
    all_goals with_reducible rfl
  (try simp only [List.getElem_toArray, List.getElem_cons_zero, List.getElem_cons_succ, Act.put, List.setIfInBounds_toArray, List.set_cons_zero, List.set_cons_succ])
  refine wpAnyH_take (i := 5) (v := ?_) rfl (by kernel_rfl) (by kernel_rfl) (by kernel_rfl) (fun _ _ _ h => h) (Or.inl ⟨by rfl, ?_⟩) (by assumption) ?_
  rotate_left
  · intro wS hSw
    (obtain ⟨q0, q1, q2, q3⟩ := ins_cells hSw.1; have q4 := hSw.2.1; have q5 := HLK.out _ hSw.2.2; clear hSw)
    go_simp
    all_goals with_reducible rfl
  (try simp only [List.getElem_toArray, List.getElem_cons_zero, List.getElem_cons_succ, Act.put, List.setIfInBounds_toArray, List.set_cons_zero, List.set_cons_succ])
  refine wpAnyH_take (i := 6) (v := ?_) rfl (by kernel_rfl) (by kernel_rfl) (by kernel_rfl) (fun _ _ _ h => h) (Or.inl ⟨by rfl, ?_⟩) (by assumption) ?_
  rotate_left
  · intro wS hSw
    (obtain ⟨q0, q1, q2, q3⟩ := ins_cells hSw.1; have q4 := hSw.2.1; have q5 := HLK.out _ hSw.2.2; clear hSw)
    go_simp
    all_goals with_reducible rfl
  (try simp only [List.getElem_toArray, List.getElem_cons_zero, List.getElem_cons_succ, Act.put, List.setIfInBounds_toArray, List.set_cons_zero, List.set_cons_succ])
  refine wpAnyH_take (i := 7) (v := ?_) rfl (by kernel_rfl) (by kernel_rfl) (by kernel_rfl) (fun _ _ _ h => h) (Or.inl ⟨by rfl, ?_⟩) (by assumption) ?_
  rotate_left
  · intro wS hSw
    (obtain ⟨q0, q1, q2, q3⟩ := ins_cells hSw.1; have q4 := hSw.2.1; have q5 := HLK.out _ hSw.2.2; clear hSw)
    go_simp
    all_goals with_reducible rfl
  (try simp only [List.getElem_toArray, List.getElem_cons_zero, List.getElem_cons_succ, Act.put, List.setIfInBounds_toArray, List.set_cons_zero, List.set_cons_succ])
  refine wpAnyH_take (i := 8) (v := ?_) rfl (by kernel_rfl) (by kernel_rfl) (by kernel_rfl) (fun _ _ _ h => h) (Or.inl ⟨by rfl, ?_⟩) (by assumption) ?_
  rotate_left
  · intro wS hSw
    (obtain ⟨q0, q1, q2, q3⟩ := ins_cells hSw.1; have q4 := hSw.2.1; have q5 := HLK.out _ hSw.2.2; clear hSw)
    go_simp
    all_goals with_reducible rfl
  (try simp only [List.getElem_toArray, List.getElem_cons_zero, List.getElem_cons_succ, Act.put, List.setIfInBounds_toArray, List.set_cons_zero, List.set_cons_succ])
  refine held_one (i := 9) (by kernel_rfl) rfl (fun K hK => ?_)
  go_simp
  refine (HCC.out _ HY2.out).mono ?_
  rintro e W4 ⟨rfl, hm, hg⟩
  refine hK.out _ _ ⟨rowIs_grown hHeld.1 hg (fun e => hgb (by injection e)), World.rowIs.cell hm (i := 2) (by decide), hHeld.2.2.grown hg HY2.out.mfar⟩ (fun _ => ?_)
  refine wpAnyH_done (by kernel_rfl) ?_ _
  have HM4 := Lib.hid hm
  have HG4 := Lib.hid (grown_trans (grown_of_below HBY2.out (some b)) hg)
  have d22 : W4.cell? ⟨b, 22, none⟩ = some (.int .i64 (s'.steps : Int)) := World.rowIs.cell hm (i := 22) (by decide)
  have d21 : W4.cell? ⟨b, 21, none⟩ = some (.int .i64 (s'.place : Int)) := World.rowIs.cell hm (i := 21) (by decide)
  have d23 : W4.cell? ⟨b, 23, none⟩ = some (.bool true) := by have := World.rowIs.cell hm (i := 23) (by decide); rw [this]; exact congrArg (fun x => some (Value.bool x)) HD.out
  have z22 := World.rowIs.frozen hm 22
  have z21 := World.rowIs.frozen hm 21
  clear hm hg hK K hHeld HY2 HBY2 HLK HCC
  go_wp2
  go_ret
  exact ⟨rfl, HM4.out.set_steps (s'.steps + 1), grown_cell HG4.out 22 _⟩
set_option maxHeartbeats 4000000 in
theorem p_step_on (h : PGoing w b qb qo n qcap db doff dcap z mb s c jt jf k) (hs : sealsC c = true) (hw : wrongE c k = 0) (f : Nat) (hf : opF opL c (-1) = (f : Int)) (hen : Go.Proofs.Enters Tryz.prog f) (s' : Mach) (hst : s'.steps = s.steps) (hdn : s'.done = false) (hpl : s'.place ≤ 1000000000000000000)
    (HC : ∀ W, PGoing W b qb qo n qcap db doff dcap z mb s c jt jf k → Calls Tryz.prog f #[.pointer (some ⟨b, 0, none⟩), .agg #[.int .u16 c, .int .u8 (jt : Int), .int .u8 (jf : Int), .int .u32 (k.toNat : Int)]] W (OpP W b (.slice (some ⟨qb, qo, none⟩) n qcap) (.slice (some ⟨db, doff, none⟩) 64 dcap) (.map (some mb)) s')) :
    Calls Tryz.prog 23 #[.pointer (some ⟨b, 0, none⟩)] w (PMethP w b (.slice (some ⟨qb, qo, none⟩) n qcap) (.slice (some ⟨db, doff, none⟩) 64 dcap) (.map (some mb)) false { s' with steps := s'.steps + 1, place := s'.place + 1 }) := by
  have c23 : w.cell? ⟨b, 23, none⟩ = some (.bool false) := by have := World.rowIs.cell h.mach (i := 23) (by decide); rw [this]; exact congrArg (fun x => some (Value.bool x)) h.going
  have HX0 := Lib.hid h
  have HF : Hid (Calls Tryz.prog 53 #[.pointer (some ⟨b, 0, none⟩)] w (FaultP w 0)) := Lib.hid (hw ▸ p_fault_go w b qb qo n qcap db doff dcap z mb s c jt jf k h hs f hf)
  have HLK := Lib.hid (fun w (h : OpsMap w mb) => ops_fn h c f HX0.out.code hf)
  have HCC := Lib.hid HC
  have hss : s'.steps < 1000000000000000000 := hst ▸ h.steps
  have hws : IntKind.i64.wrap ((s'.steps : Int) + 1) = (s'.steps : Int) + 1 := IntWalk.i64_in _ (by omega)
  have hwp : IntKind.i64.wrap ((s'.place : Int) + 1) = (s'.place : Int) + 1 := IntWalk.i64_in _ (by omega)
  have HD := Lib.hid hdn
  have hen' : ∀ args w, (callFunc f args).run Tryz.prog w = .ok (.enter f args) w := hen
  clear h hs hw hf hst hss hdn HC hen
  go_enter Tryz.func23, Tryz.ntmps23
  go_wp2_with (go_at_call 53; (with_reducible refine HF.out.mono ?_); rintro e X ⟨rfl, hb⟩; have HX := Lib.hid (HX0.out.below hb); have HBX := Lib.hid hb; clear hb c23 HF HX0)
  have hp' : (s.place : Int) < (n : Int) := by have := HX.out.place; omega
  have hn := HX.out.len
  refine wp_region_held_drew (S := fun w' => PMAt w' b (.slice (some ⟨qb, qo, none⟩) n qcap) (.slice (some ⟨db, doff, none⟩) 64 dcap) (.map (some mb)) s ∧ InsCells w' qb (qo + s.place * 4) ⟨c, jt, jf, k⟩) (by kernel_rfl) ⟨HX.out.mach.drew, HX.out.ins⟩ (fun hHeld => ?_)
  have HY0 : Hid (PGoing X.drew b qb qo n qcap db doff dcap z mb s c jt jf k) := Lib.hid (HX.out.below (below_drawn (Below.refl _ _) 1))
  have HBY0 : Hid (Below w.heap.size w X.drew) := Lib.hid (below_drawn HBX.out 1)
  clear HX HBX
  generalize X.drew = Y at HY0 HBY0 hHeld ⊢
  (try clear X)
  have hql := HY0.out.qlt
  have hbl := World.rowIs.lt HY0.out.mach
  refine wpAnyH_take (i := 0) (v := ?_) rfl (by kernel_rfl) (by kernel_rfl) (by kernel_rfl) (fun _ _ _ h => h) (Or.inl ⟨by rfl, ?_⟩) (by assumption) ?_
  rotate_left
  · intro wS hSw
    (have q0 : wS.cell? ⟨b, 0, none⟩ = some (.slice (some ⟨qb, qo, none⟩) n qcap) := World.rowIs.cell hSw.1 (i := 0) (by decide); have q21 : wS.cell? ⟨b, 21, none⟩ = some (.int .i64 (s.place : Int)) := World.rowIs.cell hSw.1 (i := 21) (by decide); obtain ⟨i0, i1, i2, i3⟩ := hSw.2; clear hSw)
    go_simp
    all_goals with_reducible rfl
  (try simp only [List.getElem_toArray, List.getElem_cons_zero, List.getElem_cons_succ, Act.put, List.setIfInBounds_toArray, List.set_cons_zero, List.set_cons_succ])
  refine wpAnyH_take (i := 1) (v := ?_) rfl (by kernel_rfl) (by kernel_rfl) (by kernel_rfl) (fun _ _ _ h => h) (Or.inl ⟨by rfl, ?_⟩) (by assumption) ?_
  rotate_left
  · intro wS hSw
    (have q0 : wS.cell? ⟨b, 0, none⟩ = some (.slice (some ⟨qb, qo, none⟩) n qcap) := World.rowIs.cell hSw.1 (i := 0) (by decide); have q21 : wS.cell? ⟨b, 21, none⟩ = some (.int .i64 (s.place : Int)) := World.rowIs.cell hSw.1 (i := 21) (by decide); obtain ⟨i0, i1, i2, i3⟩ := hSw.2; clear hSw)
    go_simp
    all_goals with_reducible rfl
  (try simp only [List.getElem_toArray, List.getElem_cons_zero, List.getElem_cons_succ, Act.put, List.setIfInBounds_toArray, List.set_cons_zero, List.set_cons_succ])
  refine wpAnyH_take (i := 2) (v := ?_) rfl (by kernel_rfl) (by kernel_rfl) (by kernel_rfl) (fun _ _ _ h => h) (Or.inl ⟨by rfl, ?_⟩) (by assumption) ?_
  rotate_left
  · intro wS hSw
    (have q0 : wS.cell? ⟨b, 0, none⟩ = some (.slice (some ⟨qb, qo, none⟩) n qcap) := World.rowIs.cell hSw.1 (i := 0) (by decide); have q21 : wS.cell? ⟨b, 21, none⟩ = some (.int .i64 (s.place : Int)) := World.rowIs.cell hSw.1 (i := 21) (by decide); obtain ⟨i0, i1, i2, i3⟩ := hSw.2; clear hSw)
    go_simp
    all_goals with_reducible rfl
  (try simp only [List.getElem_toArray, List.getElem_cons_zero, List.getElem_cons_succ, Act.put, List.setIfInBounds_toArray, List.set_cons_zero, List.set_cons_succ])
  refine wpAnyH_take (i := 3) (v := ?_) rfl (by kernel_rfl) (by kernel_rfl) (by kernel_rfl) (fun _ _ _ h => h) (Or.inl ⟨by rfl, ?_⟩) (by assumption) ?_
  rotate_left
  · intro wS hSw
    (have q0 : wS.cell? ⟨b, 0, none⟩ = some (.slice (some ⟨qb, qo, none⟩) n qcap) := World.rowIs.cell hSw.1 (i := 0) (by decide); have q21 : wS.cell? ⟨b, 21, none⟩ = some (.int .i64 (s.place : Int)) := World.rowIs.cell hSw.1 (i := 21) (by decide); obtain ⟨i0, i1, i2, i3⟩ := hSw.2; clear hSw)
    go_simp
    all_goals with_reducible rfl
  (try simp only [List.getElem_toArray, List.getElem_cons_zero, List.getElem_cons_succ, Act.put, List.setIfInBounds_toArray, List.set_cons_zero, List.set_cons_succ])
  refine wpAnyH_take (i := 4) (v := ?_) rfl (by kernel_rfl) (by kernel_rfl) (by kernel_rfl) (fun _ _ _ h => h) (Or.inl ⟨by rfl, ?_⟩) (by assumption) ?_
  rotate_left
  · intro wS hSw
    (have q0 : wS.cell? ⟨b, 0, none⟩ = some (.slice (some ⟨qb, qo, none⟩) n qcap) := World.rowIs.cell hSw.1 (i := 0) (by decide); have q21 : wS.cell? ⟨b, 21, none⟩ = some (.int .i64 (s.place : Int)) := World.rowIs.cell hSw.1 (i := 21) (by decide); obtain ⟨i0, i1, i2, i3⟩ := hSw.2; clear hSw)
    go_simp
    all_goals with_reducible rfl
  (try simp only [List.getElem_toArray, List.getElem_cons_zero, List.getElem_cons_succ, Act.put, List.setIfInBounds_toArray, List.set_cons_zero, List.set_cons_succ])
  refine wpAnyH_take (i := 5) (v := ?_) rfl (by kernel_rfl) (by kernel_rfl) (by kernel_rfl) (fun _ _ _ h => h) (Or.inl ⟨by rfl, ?_⟩) (by assumption) ?_
  rotate_left
  · intro wS hSw
    (have q0 : wS.cell? ⟨b, 0, none⟩ = some (.slice (some ⟨qb, qo, none⟩) n qcap) := World.rowIs.cell hSw.1 (i := 0) (by decide); have q21 : wS.cell? ⟨b, 21, none⟩ = some (.int .i64 (s.place : Int)) := World.rowIs.cell hSw.1 (i := 21) (by decide); obtain ⟨i0, i1, i2, i3⟩ := hSw.2; clear hSw)
    go_simp
    all_goals with_reducible rfl
  (try simp only [List.getElem_toArray, List.getElem_cons_zero, List.getElem_cons_succ, Act.put, List.setIfInBounds_toArray, List.set_cons_zero, List.set_cons_succ])
  refine wpAnyH_take (i := 6) (v := ?_) rfl (by kernel_rfl) (by kernel_rfl) (by kernel_rfl) (fun _ _ _ h => h) (Or.inl ⟨by rfl, ?_⟩) (by assumption) ?_
  rotate_left
  · intro wS hSw
    (have q0 : wS.cell? ⟨b, 0, none⟩ = some (.slice (some ⟨qb, qo, none⟩) n qcap) := World.rowIs.cell hSw.1 (i := 0) (by decide); have q21 : wS.cell? ⟨b, 21, none⟩ = some (.int .i64 (s.place : Int)) := World.rowIs.cell hSw.1 (i := 21) (by decide); obtain ⟨i0, i1, i2, i3⟩ := hSw.2; clear hSw)
    go_simp
    all_goals with_reducible rfl
  (try simp only [List.getElem_toArray, List.getElem_cons_zero, List.getElem_cons_succ, Act.put, List.setIfInBounds_toArray, List.set_cons_zero, List.set_cons_succ])
  refine wpAnyH_take (i := 7) (v := ?_) rfl (by kernel_rfl) (by kernel_rfl) (by kernel_rfl) (fun _ _ _ h => h) (Or.inl ⟨by rfl, ?_⟩) (by assumption) ?_
  rotate_left
  · intro wS hSw
    (have q0 : wS.cell? ⟨b, 0, none⟩ = some (.slice (some ⟨qb, qo, none⟩) n qcap) := World.rowIs.cell hSw.1 (i := 0) (by decide); have q21 : wS.cell? ⟨b, 21, none⟩ = some (.int .i64 (s.place : Int)) := World.rowIs.cell hSw.1 (i := 21) (by decide); obtain ⟨i0, i1, i2, i3⟩ := hSw.2; clear hSw)
    go_simp
    all_goals with_reducible rfl
  (try simp only [List.getElem_toArray, List.getElem_cons_zero, List.getElem_cons_succ, Act.put, List.setIfInBounds_toArray, List.set_cons_zero, List.set_cons_succ])
  refine wpAnyH_take (i := 8) (v := ?_) rfl (by kernel_rfl) (by kernel_rfl) (by kernel_rfl) (fun _ _ _ h => h) (Or.inl ⟨by rfl, ?_⟩) (by assumption) ?_
  rotate_left
  · intro wS hSw
    (have q0 : wS.cell? ⟨b, 0, none⟩ = some (.slice (some ⟨qb, qo, none⟩) n qcap) := World.rowIs.cell hSw.1 (i := 0) (by decide); have q21 : wS.cell? ⟨b, 21, none⟩ = some (.int .i64 (s.place : Int)) := World.rowIs.cell hSw.1 (i := 21) (by decide); obtain ⟨i0, i1, i2, i3⟩ := hSw.2; clear hSw)
    go_simp
    all_goals with_reducible rfl
  (try simp only [List.getElem_toArray, List.getElem_cons_zero, List.getElem_cons_succ, Act.put, List.setIfInBounds_toArray, List.set_cons_zero, List.set_cons_succ])
  refine wpAnyH_take (i := 9) (v := ?_) rfl (by kernel_rfl) (by kernel_rfl) (by kernel_rfl) (fun _ _ _ h => h) (Or.inl ⟨by rfl, ?_⟩) (by assumption) ?_
  rotate_left
  · intro wS hSw
    (have q0 : wS.cell? ⟨b, 0, none⟩ = some (.slice (some ⟨qb, qo, none⟩) n qcap) := World.rowIs.cell hSw.1 (i := 0) (by decide); have q21 : wS.cell? ⟨b, 21, none⟩ = some (.int .i64 (s.place : Int)) := World.rowIs.cell hSw.1 (i := 21) (by decide); obtain ⟨i0, i1, i2, i3⟩ := hSw.2; clear hSw)
    go_simp
    all_goals with_reducible rfl
  (try simp only [List.getElem_toArray, List.getElem_cons_zero, List.getElem_cons_succ, Act.put, List.setIfInBounds_toArray, List.set_cons_zero, List.set_cons_succ])
  refine held_one (i := 10) (by kernel_rfl) rfl (fun K hK => ?_)
  go_simp
  refine hK.out _ _ ⟨hHeld.1.alloc _, hHeld.2.below (box_below _ _) hql⟩ (fun hH2 => ?_)
  clear hK K hHeld
  (try simp only [Act.put, List.setIfInBounds_toArray, List.set_cons_zero, List.set_cons_succ])
  have R1 : (Y.alloc (.cells #[.int .u16 0, .int .u8 0, .int .u8 0, .int .u32 0] 60)).rowIs Y.heap.size 60 4 (insF ⟨0, 0, 0, 0#32⟩) := ins_new Y
  have B1 := box_below Y (.cells #[.int .u16 0, .int .u8 0, .int .u8 0, .int .u32 0] 60)
  generalize Y.alloc (.cells #[.int .u16 0, .int .u8 0, .int .u8 0, .int .u32 0] 60) = W1 at R1 B1 hH2 ⊢
  have e0 : W1.cell? ⟨Y.heap.size, 0, none⟩ = some (.int .u16 0) := World.rowIs.cell R1 (i := 0) (by decide)
  have e1 : W1.cell? ⟨Y.heap.size, 1, none⟩ = some (.int .u8 0) := World.rowIs.cell R1 (i := 1) (by decide)
  have e2 : W1.cell? ⟨Y.heap.size, 2, none⟩ = some (.int .u8 0) := World.rowIs.cell R1 (i := 2) (by decide)
  have e3 : W1.cell? ⟨Y.heap.size, 3, none⟩ = some (.int .u32 0) := World.rowIs.cell R1 (i := 3) (by decide)
  have y0 := World.rowIs.frozen R1 0
  have y1 := World.rowIs.frozen R1 1
  have y2 := World.rowIs.frozen R1 2
  have y3 := World.rowIs.frozen R1 3
  have R2 := Lib.hid (ins_set R1 c jt jf k)
  have G2 := Lib.hid (ins_grown (World.grownBy.refl W1 (some Y.heap.size)) (.int .u16 c) (.int .u8 (jt : Int)) (.int .u8 (jf : Int)) (.int .u32 (k.toNat : Int)))
  have HB1 := Lib.hid B1
  have HH := Lib.hid hH2
  clear R1 B1 hH2
  refine held_one (i := 11) (by kernel_rfl) rfl (fun K hK => ?_)
  go_simp
  have hM2 := HH.out.1.grown G2.out (by omega)
  have hI2 := HH.out.2.grown G2.out (by omega)
  have hB2 := below_grown HB1.out G2.out (Nat.le_refl _) (Nat.le_refl _)
  refine hK.out _ _ ⟨hM2, hI2⟩ (fun hX2 => ?_)
  clear hX2 hK K e0 e1 e2 e3 y0 y1 y2 y3 HH G2 HB1 hI2 hM2
  have hR2 := R2.out
  clear R2
  refine wpAnyH_done (by kernel_rfl) ?_ _
  generalize (((W1.setCell ⟨Y.heap.size, 0, none⟩ (.int .u16 c)).setCell ⟨Y.heap.size, 1, none⟩ (.int .u8 (jt : Int))).setCell ⟨Y.heap.size, 2, none⟩ (.int .u8 (jf : Int))).setCell ⟨Y.heap.size, 3, none⟩ (.int .u32 (k.toNat : Int)) = W2 at hB2 hR2 ⊢
  (try clear W1)
  have HY := Lib.hid (HY0.out.below hB2)
  have HR := Lib.hid hR2
  have HBY := Lib.hid (HBY0.out.trans (hB2.mono HBY0.out.size))
  have hgb : ¬ Y.heap.size = b := by omega
  clear HY0 HBY0 hB2 hR2 hp' hn hql hbl
  generalize Y.heap.size = g at HR hgb ⊢
  (try clear Y)
  obtain ⟨i0, i1, i2, i3⟩ := ins_cells HR.out
  have y2 : W2.cell? ⟨b, 2, none⟩ = some (.map (some mb)) := World.rowIs.cell HY.out.mach (i := 2) (by decide)
  go_wp2
  refine wp_region_held_drew (S := fun w' => w'.rowIs g 60 4 (insF ⟨c, jt, jf, k⟩) ∧ w'.cell? ⟨b, 2, none⟩ = some (.map (some mb)) ∧ OpsMap w' mb) (by kernel_rfl) ⟨HR.out, y2, HY.out.ops⟩ (fun hHeld => ?_)
  have HY2 : Hid (PGoing W2.drew b qb qo n qcap db doff dcap z mb s c jt jf k) := Lib.hid (HY.out.below (below_drawn (Below.refl _ _) 1))
  have HBY2 : Hid (Below w.heap.size w W2.drew) := Lib.hid (below_drawn HBY.out 1)
  clear HY HBY HR i0 i1 i2 i3 y2
  generalize W2.drew = W3 at HY2 HBY2 hHeld ⊢
  refine wpAnyH_take (i := 0) (v := ?_) rfl (by kernel_rfl) (by kernel_rfl) (by kernel_rfl) (fun _ _ _ h => h) (Or.inl ⟨by rfl, ?_⟩) (by assumption) ?_
  rotate_left
  · intro wS hSw
    (obtain ⟨q0, q1, q2, q3⟩ := ins_cells hSw.1; have q4 := hSw.2.1; have q5 := HLK.out _ hSw.2.2; clear hSw)
    go_simp
    all_goals with_reducible rfl
  (try simp only [List.getElem_toArray, List.getElem_cons_zero, List.getElem_cons_succ, Act.put, List.setIfInBounds_toArray, List.set_cons_zero, List.set_cons_succ])
  refine wpAnyH_take (i := 1) (v := ?_) rfl (by kernel_rfl) (by kernel_rfl) (by kernel_rfl) (fun _ _ _ h => h) (Or.inl ⟨by rfl, ?_⟩) (by assumption) ?_
  rotate_left
  · intro wS hSw
    (obtain ⟨q0, q1, q2, q3⟩ := ins_cells hSw.1; have q4 := hSw.2.1; have q5 := HLK.out _ hSw.2.2; clear hSw)
    go_simp
    all_goals with_reducible rfl
  (try simp only [List.getElem_toArray, List.getElem_cons_zero, List.getElem_cons_succ, Act.put, List.setIfInBounds_toArray, List.set_cons_zero, List.set_cons_succ])
  refine wpAnyH_take (i := 2) (v := ?_) rfl (by kernel_rfl) (by kernel_rfl) (by kernel_rfl) (fun _ _ _ h => h) (Or.inl ⟨by rfl, ?_⟩) (by assumption) ?_
  rotate_left
  · intro wS hSw
    (obtain ⟨q0, q1, q2, q3⟩ := ins_cells hSw.1; have q4 := hSw.2.1; have q5 := HLK.out _ hSw.2.2; clear hSw)
    go_simp
    all_goals with_reducible rfl
  (try simp only [List.getElem_toArray, List.getElem_cons_zero, List.getElem_cons_succ, Act.put, List.setIfInBounds_toArray, List.set_cons_zero, List.set_cons_succ])
  refine wpAnyH_take (i := 3) (v := ?_) rfl (by kernel_rfl) (by kernel_rfl) (by kernel_rfl) (fun _ _ _ h => h) (Or.inl ⟨by rfl, ?_⟩) (by assumption) ?_
  rotate_left
  · intro wS hSw
    (obtain ⟨q0, q1, q2, q3⟩ := ins_cells hSw.1; have q4 := hSw.2.1; have q5 := HLK.out _ hSw.2.2; clear hSw)
    go_simp
    all_goals with_reducible rfl
  (try simp only [List.getElem_toArray, List.getElem_cons_zero, List.getElem_cons_succ, Act.put, List.setIfInBounds_toArray, List.set_cons_zero, List.set_cons_succ])
  refine wpAnyH_take (i := 4) (v := ?_) rfl (by kernel_rfl) (by kernel_rfl) (by kernel_rfl) (fun _ _ _ h => h) (Or.inl ⟨by rfl, ?_⟩) (by assumption) ?_
  rotate_left
  · intro wS hSw
    (obtain ⟨q0, q1, q2, q3⟩ := ins_cells hSw.1; have q4 := hSw.2.1; have q5 := HLK.out _ hSw.2.2; clear hSw)
    go_simp
    all_goals with_reducible rfl
  (try simp only [List.getElem_toArray, List.getElem_cons_zero, List.getElem_cons_succ, Act.put, List.setIfInBounds_toArray, List.set_cons_zero, List.set_cons_succ])
  refine wpAnyH_take (i := 5) (v := ?_) rfl (by kernel_rfl) (by kernel_rfl) (by kernel_rfl) (fun _ _ _ h => h) (Or.inl ⟨by rfl, ?_⟩) (by assumption) ?_
  rotate_left
  · intro wS hSw
    (obtain ⟨q0, q1, q2, q3⟩ := ins_cells hSw.1; have q4 := hSw.2.1; have q5 := HLK.out _ hSw.2.2; clear hSw)
    go_simp
    all_goals with_reducible rfl
  (try simp only [List.getElem_toArray, List.getElem_cons_zero, List.getElem_cons_succ, Act.put, List.setIfInBounds_toArray, List.set_cons_zero, List.set_cons_succ])
  refine wpAnyH_take (i := 6) (v := ?_) rfl (by kernel_rfl) (by kernel_rfl) (by kernel_rfl) (fun _ _ _ h => h) (Or.inl ⟨by rfl, ?_⟩) (by assumption) ?_
  rotate_left
  · intro wS hSw
    (obtain ⟨q0, q1, q2, q3⟩ := ins_cells hSw.1; have q4 := hSw.2.1; have q5 := HLK.out _ hSw.2.2; clear hSw)
    go_simp
    all_goals with_reducible rfl
  (try simp only [List.getElem_toArray, List.getElem_cons_zero, List.getElem_cons_succ, Act.put, List.setIfInBounds_toArray, List.set_cons_zero, List.set_cons_succ])
  refine wpAnyH_take (i := 7) (v := ?_) rfl (by kernel_rfl) (by kernel_rfl) (by kernel_rfl) (fun _ _ _ h => h) (Or.inl ⟨by rfl, ?_⟩) (by assumption) ?_
  rotate_left
  · intro wS hSw
    (obtain ⟨q0, q1, q2, q3⟩ := ins_cells hSw.1; have q4 := hSw.2.1; have q5 := HLK.out _ hSw.2.2; clear hSw)
    go_simp
    all_goals with_reducible rfl
  (try simp only [List.getElem_toArray, List.getElem_cons_zero, List.getElem_cons_succ, Act.put, List.setIfInBounds_toArray, List.set_cons_zero, List.set_cons_succ])
  refine wpAnyH_take (i := 8) (v := ?_) rfl (by kernel_rfl) (by kernel_rfl) (by kernel_rfl) (fun _ _ _ h => h) (Or.inl ⟨by rfl, ?_⟩) (by assumption) ?_
  rotate_left
  · intro wS hSw
    (obtain ⟨q0, q1, q2, q3⟩ := ins_cells hSw.1; have q4 := hSw.2.1; have q5 := HLK.out _ hSw.2.2; clear hSw)
    go_simp
    all_goals with_reducible rfl
  (try simp only [List.getElem_toArray, List.getElem_cons_zero, List.getElem_cons_succ, Act.put, List.setIfInBounds_toArray, List.set_cons_zero, List.set_cons_succ])
  refine held_one (i := 9) (by kernel_rfl) rfl (fun K hK => ?_)
  go_simp
  refine (HCC.out _ HY2.out).mono ?_
  rintro e W4 ⟨rfl, hm, hg⟩
  refine hK.out _ _ ⟨rowIs_grown hHeld.1 hg (fun e => hgb (by injection e)), World.rowIs.cell hm (i := 2) (by decide), hHeld.2.2.grown hg HY2.out.mfar⟩ (fun _ => ?_)
  refine wpAnyH_done (by kernel_rfl) ?_ _
  have HM4 := Lib.hid hm
  have HG4 := Lib.hid (grown_trans (grown_of_below HBY2.out (some b)) hg)
  have d22 : W4.cell? ⟨b, 22, none⟩ = some (.int .i64 (s'.steps : Int)) := World.rowIs.cell hm (i := 22) (by decide)
  have d21 : W4.cell? ⟨b, 21, none⟩ = some (.int .i64 (s'.place : Int)) := World.rowIs.cell hm (i := 21) (by decide)
  have d23 : W4.cell? ⟨b, 23, none⟩ = some (.bool false) := by have := World.rowIs.cell hm (i := 23) (by decide); rw [this]; exact congrArg (fun x => some (Value.bool x)) HD.out
  have z22 := World.rowIs.frozen hm 22
  have z21 := World.rowIs.frozen hm 21
  clear hm hg hK K hHeld HY2 HBY2 HLK HCC
  go_wp2
  go_ret
  exact ⟨rfl, (HM4.out.set_steps (s'.steps + 1)).set_place (s'.place + 1), grown_cell (grown_cell HG4.out 22 _) 21 _⟩
end
end Go.Proofs.YtoajommeiocfpaaGreat
namespace Go.Proofs.YtoajommeiocfpaaGreat
open Go Go.RowKit
set_option linter.unusedSimpArgs false
set_option linter.unusedVariables false
set_option maxRecDepth 100000

theorem enters_load : Go.Proofs.Enters Tryz.prog 77 := Go.Proofs.enters_of Tryz.func77 (by kernel_rfl) rfl
theorem enters_loadLen : Go.Proofs.Enters Tryz.prog 78 := Go.Proofs.enters_of Tryz.func78 (by kernel_rfl) rfl
theorem enters_loadLenX : Go.Proofs.Enters Tryz.prog 79 := Go.Proofs.enters_of Tryz.func79 (by kernel_rfl) rfl
theorem enters_loadConst : Go.Proofs.Enters Tryz.prog 80 := Go.Proofs.enters_of Tryz.func80 (by kernel_rfl) rfl
theorem enters_loadConstX : Go.Proofs.Enters Tryz.prog 81 := Go.Proofs.enters_of Tryz.func81 (by kernel_rfl) rfl
theorem enters_loadScratch : Go.Proofs.Enters Tryz.prog 82 := Go.Proofs.enters_of Tryz.func82 (by kernel_rfl) rfl
theorem enters_loadScratchX : Go.Proofs.Enters Tryz.prog 83 := Go.Proofs.enters_of Tryz.func83 (by kernel_rfl) rfl
theorem enters_store : Go.Proofs.Enters Tryz.prog 84 := Go.Proofs.enters_of Tryz.func84 (by kernel_rfl) rfl
theorem enters_storeX : Go.Proofs.Enters Tryz.prog 85 := Go.Proofs.enters_of Tryz.func85 (by kernel_rfl) rfl
theorem enters_add : Go.Proofs.Enters Tryz.prog 86 := Go.Proofs.enters_of Tryz.func86 (by kernel_rfl) rfl
theorem enters_sub : Go.Proofs.Enters Tryz.prog 87 := Go.Proofs.enters_of Tryz.func87 (by kernel_rfl) rfl
theorem enters_mul : Go.Proofs.Enters Tryz.prog 88 := Go.Proofs.enters_of Tryz.func88 (by kernel_rfl) rfl
theorem enters_div : Go.Proofs.Enters Tryz.prog 89 := Go.Proofs.enters_of Tryz.func89 (by kernel_rfl) rfl
theorem enters_or : Go.Proofs.Enters Tryz.prog 90 := Go.Proofs.enters_of Tryz.func90 (by kernel_rfl) rfl
theorem enters_and : Go.Proofs.Enters Tryz.prog 91 := Go.Proofs.enters_of Tryz.func91 (by kernel_rfl) rfl
theorem enters_left : Go.Proofs.Enters Tryz.prog 92 := Go.Proofs.enters_of Tryz.func92 (by kernel_rfl) rfl
theorem enters_right : Go.Proofs.Enters Tryz.prog 93 := Go.Proofs.enters_of Tryz.func93 (by kernel_rfl) rfl
theorem enters_xor : Go.Proofs.Enters Tryz.prog 94 := Go.Proofs.enters_of Tryz.func94 (by kernel_rfl) rfl
theorem enters_negate : Go.Proofs.Enters Tryz.prog 95 := Go.Proofs.enters_of Tryz.func95 (by kernel_rfl) rfl
theorem enters_jump : Go.Proofs.Enters Tryz.prog 96 := Go.Proofs.enters_of Tryz.func96 (by kernel_rfl) rfl
theorem enters_ifEqual : Go.Proofs.Enters Tryz.prog 97 := Go.Proofs.enters_of Tryz.func97 (by kernel_rfl) rfl
theorem enters_ifAbove : Go.Proofs.Enters Tryz.prog 98 := Go.Proofs.enters_of Tryz.func98 (by kernel_rfl) rfl
theorem enters_ifNotBelow : Go.Proofs.Enters Tryz.prog 99 := Go.Proofs.enters_of Tryz.func99 (by kernel_rfl) rfl
theorem enters_ifCommon : Go.Proofs.Enters Tryz.prog 100 := Go.Proofs.enters_of Tryz.func100 (by kernel_rfl) rfl
theorem enters_returnConst : Go.Proofs.Enters Tryz.prog 101 := Go.Proofs.enters_of Tryz.func101 (by kernel_rfl) rfl
theorem enters_returnA : Go.Proofs.Enters Tryz.prog 102 := Go.Proofs.enters_of Tryz.func102 (by kernel_rfl) rfl
theorem enters_copyToX : Go.Proofs.Enters Tryz.prog 103 := Go.Proofs.enters_of Tryz.func103 (by kernel_rfl) rfl
theorem enters_copyToA : Go.Proofs.Enters Tryz.prog 104 := Go.Proofs.enters_of Tryz.func104 (by kernel_rfl) rfl
theorem ops_some {c : Int} (hs : sealsC c = true) : ∃ f : Nat, opF opL c (-1) = (f : Int) := by
  have hs' : aluC c = true ∨ jumpC c = true ∨ restC c = true := by
    rcases ha : aluC c with _ | _
    · rcases hj : jumpC c with _ | _
      · rcases hr : restC c with _ | _
        · rw [sealsC, ha, hj, hr] at hs; cases hs
        · exact .inr (.inr rfl)
      · exact .inr (.inl rfl)
    · exact .inl rfl
  rcases hs' with h | h | h
  · rcases alu_cases h with rfl | rfl | rfl | rfl | rfl | rfl | rfl | rfl | rfl | rfl | rfl | rfl | rfl | rfl | rfl | rfl | rfl | rfl <;> exact ⟨_, rfl⟩
  · rcases jump_cases h with rfl | rfl | rfl | rfl | rfl | rfl | rfl | rfl <;> exact ⟨_, rfl⟩
  · rcases rest_cases h with rfl | rfl | rfl | rfl | rfl | rfl | rfl | rfl | rfl | rfl | rfl | rfl | rfl | rfl | rfl <;> exact ⟨_, rfl⟩
theorem on_place (s : Mach) (m : Nat) : s.on (1 + m) = { { s with place := s.place + m } with steps := s.steps + 1, place := s.place + m + 1 } := by
  unfold Mach.on
  rw [show s.place + (1 + m) = s.place + m + 1 by omega]
section
variable (w : World) (b qb qo n qcap db doff dcap : Nat) (z : Nat → Int) (mb : Nat) (s : Mach) (c : Int) (jt jf : Nat) (k : BitVec 32)
abbrev OpC (f : Nat) (s' : Mach) : Prop := ∀ W, PGoing W b qb qo n qcap db doff dcap z mb s c jt jf k → Calls Tryz.prog f #[.pointer (some ⟨b, 0, none⟩), .agg #[.int .u16 c, .int .u8 (jt : Int), .int .u8 (jf : Int), .int .u32 (k.toNat : Int)]] W (OpP W b (.slice (some ⟨qb, qo, none⟩) n qcap) (.slice (some ⟨db, doff, none⟩) 64 dcap) (.map (some mb)) s')
abbrev StepC (t : Mach) : Prop := Calls Tryz.prog 23 #[.pointer (some ⟨b, 0, none⟩)] w (PMethP w b (.slice (some ⟨qb, qo, none⟩) n qcap) (.slice (some ⟨db, doff, none⟩) 64 dcap) (.map (some mb)) t.done t)
theorem p_on (h : PGoing w b qb qo n qcap db doff dcap z mb s c jt jf k) (hs : sealsC c = true) (hw : wrongE c k = 0) (f : Nat) (hf : opF opL c (-1) = (f : Int)) (hen : Go.Proofs.Enters Tryz.prog f) (s' : Mach) (hst : s'.steps = s.steps) (hdn : s'.done = false)
    (hpl : s'.place ≤ 1000000000000000000) (HC : OpC b qb qo n qcap db doff dcap z mb s c jt jf k f s') (t : Mach) (ht : t = { s' with steps := s'.steps + 1, place := s'.place + 1 }) : StepC w b qb qo n qcap db doff dcap mb t := by
  subst ht
  have := p_step_on w b qb qo n qcap db doff dcap z mb s c jt jf k h hs hw f hf hen s' hst hdn hpl HC
  exact this.mono fun e w' hh => ⟨hh.1.trans (congrArg (fun x => Ending.returned (Value.bool x)) hdn.symm), hh.2.1, hh.2.2⟩
theorem p_ends (h : PGoing w b qb qo n qcap db doff dcap z mb s c jt jf k) (hs : sealsC c = true) (hw : wrongE c k = 0) (f : Nat) (hf : opF opL c (-1) = (f : Int)) (hen : Go.Proofs.Enters Tryz.prog f) (s' : Mach) (hst : s'.steps = s.steps) (hdn : s'.done = true)
    (HC : OpC b qb qo n qcap db doff dcap z mb s c jt jf k f s') (t : Mach) (ht : t = { s' with steps := s'.steps + 1 }) : StepC w b qb qo n qcap db doff dcap mb t := by
  subst ht
  have := p_step_end w b qb qo n qcap db doff dcap z mb s c jt jf k h hs hw f hf hen s' hst hdn HC
  exact this.mono fun e w' hh => ⟨hh.1.trans (congrArg (fun x => Ending.returned (Value.bool x)) hdn.symm), hh.2.1, hh.2.2⟩
end
section
variable (w : World) (b qb qo n qcap db doff dcap : Nat) (z : Nat → Int) (mb : Nat) (s : Mach) (jt jf : Nat) (k : BitVec 32)
theorem does_128 (h : PGoing w b qb qo n qcap db doff dcap z mb s 128 jt jf k) (hw : wrongE 128 k = 0) : StepC w b qb qo n qcap db doff dcap mb (s.does (wordZ z) ⟨128, jt, jf, k⟩) :=
  p_on w b qb qo n qcap db doff dcap z mb s 128 jt jf k h rfl hw 78 (by decide) enters_loadLen { s with a := 64#32 } rfl h.going (by have := h.place; have := h.len; show s.place ≤ _; omega) (fun W h => p_loadLen W b _ _ _ s 128 jt jf k h.mach) _ rfl
theorem does_129 (h : PGoing w b qb qo n qcap db doff dcap z mb s 129 jt jf k) (hw : wrongE 129 k = 0) : StepC w b qb qo n qcap db doff dcap mb (s.does (wordZ z) ⟨129, jt, jf, k⟩) :=
  p_on w b qb qo n qcap db doff dcap z mb s 129 jt jf k h rfl hw 79 (by decide) enters_loadLenX { s with x := 64#32 } rfl h.going (by have := h.place; have := h.len; show s.place ≤ _; omega) (fun W h => p_loadLenX W b _ _ _ s 129 jt jf k h.mach) _ rfl
theorem does_0 (h : PGoing w b qb qo n qcap db doff dcap z mb s 0 jt jf k) (hw : wrongE 0 k = 0) : StepC w b qb qo n qcap db doff dcap mb (s.does (wordZ z) ⟨0, jt, jf, k⟩) :=
  p_on w b qb qo n qcap db doff dcap z mb s 0 jt jf k h rfl hw 80 (by decide) enters_loadConst { s with a := k } rfl h.going (by have := h.place; have := h.len; show s.place ≤ _; omega) (fun W h => p_loadConst W b _ _ _ s 0 jt jf k h.mach) _ rfl
theorem does_1 (h : PGoing w b qb qo n qcap db doff dcap z mb s 1 jt jf k) (hw : wrongE 1 k = 0) : StepC w b qb qo n qcap db doff dcap mb (s.does (wordZ z) ⟨1, jt, jf, k⟩) :=
  p_on w b qb qo n qcap db doff dcap z mb s 1 jt jf k h rfl hw 81 (by decide) enters_loadConstX { s with x := k } rfl h.going (by have := h.place; have := h.len; show s.place ≤ _; omega) (fun W h => p_loadConstX W b _ _ _ s 1 jt jf k h.mach) _ rfl
theorem does_132 (h : PGoing w b qb qo n qcap db doff dcap z mb s 132 jt jf k) (hw : wrongE 132 k = 0) : StepC w b qb qo n qcap db doff dcap mb (s.does (wordZ z) ⟨132, jt, jf, k⟩) :=
  p_on w b qb qo n qcap db doff dcap z mb s 132 jt jf k h rfl hw 95 (by decide) enters_negate { s with a := -s.a } rfl h.going (by have := h.place; have := h.len; show s.place ≤ _; omega) (fun W h => p_negate W b _ _ _ s 132 jt jf k h.mach) _ rfl
theorem does_7 (h : PGoing w b qb qo n qcap db doff dcap z mb s 7 jt jf k) (hw : wrongE 7 k = 0) : StepC w b qb qo n qcap db doff dcap mb (s.does (wordZ z) ⟨7, jt, jf, k⟩) :=
  p_on w b qb qo n qcap db doff dcap z mb s 7 jt jf k h rfl hw 103 (by decide) enters_copyToX { s with x := s.a } rfl h.going (by have := h.place; have := h.len; show s.place ≤ _; omega) (fun W h => p_copyToX W b _ _ _ s 7 jt jf k h.mach) _ rfl
theorem does_135 (h : PGoing w b qb qo n qcap db doff dcap z mb s 135 jt jf k) (hw : wrongE 135 k = 0) : StepC w b qb qo n qcap db doff dcap mb (s.does (wordZ z) ⟨135, jt, jf, k⟩) :=
  p_on w b qb qo n qcap db doff dcap z mb s 135 jt jf k h rfl hw 104 (by decide) enters_copyToA { s with a := s.x } rfl h.going (by have := h.place; have := h.len; show s.place ≤ _; omega) (fun W h => p_copyToA W b _ _ _ s 135 jt jf k h.mach) _ rfl
theorem does_96 (h : PGoing w b qb qo n qcap db doff dcap z mb s 96 jt jf k) (hw : wrongE 96 k = 0) : StepC w b qb qo n qcap db doff dcap mb (s.does (wordZ z) ⟨96, jt, jf, k⟩) := by
  have hk : k.toNat < 16 := by
    rcases Nat.lt_or_ge 15 k.toNat with g | g
    · rw [wrongE, if_neg (by decide), if_neg (by simp), if_pos ⟨by simp, g⟩] at hw; cases hw
    · omega
  exact p_on w b qb qo n qcap db doff dcap z mb s 96 jt jf k h rfl hw 82 (by decide) enters_loadScratch { s with a := s.m k.toNat } rfl h.going (by have := h.place; have := h.len; show s.place ≤ _; omega) (fun W h => p_loadScratch W b _ _ _ s 96 jt jf k h.mach hk) _ rfl
theorem does_97 (h : PGoing w b qb qo n qcap db doff dcap z mb s 97 jt jf k) (hw : wrongE 97 k = 0) : StepC w b qb qo n qcap db doff dcap mb (s.does (wordZ z) ⟨97, jt, jf, k⟩) := by
  have hk : k.toNat < 16 := by
    rcases Nat.lt_or_ge 15 k.toNat with g | g
    · rw [wrongE, if_neg (by decide), if_neg (by simp), if_pos ⟨by simp, g⟩] at hw; cases hw
    · omega
  exact p_on w b qb qo n qcap db doff dcap z mb s 97 jt jf k h rfl hw 83 (by decide) enters_loadScratchX { s with x := s.m k.toNat } rfl h.going (by have := h.place; have := h.len; show s.place ≤ _; omega) (fun W h => p_loadScratchX W b _ _ _ s 97 jt jf k h.mach hk) _ rfl
theorem does_2 (h : PGoing w b qb qo n qcap db doff dcap z mb s 2 jt jf k) (hw : wrongE 2 k = 0) : StepC w b qb qo n qcap db doff dcap mb (s.does (wordZ z) ⟨2, jt, jf, k⟩) := by
  have hk : k.toNat < 16 := by
    rcases Nat.lt_or_ge 15 k.toNat with g | g
    · rw [wrongE, if_neg (by decide), if_neg (by simp), if_pos ⟨by simp, g⟩] at hw; cases hw
    · omega
  exact p_on w b qb qo n qcap db doff dcap z mb s 2 jt jf k h rfl hw 84 (by decide) enters_store { s with m := fun j => if j = k.toNat then s.a else s.m j } rfl h.going (by have := h.place; have := h.len; show s.place ≤ _; omega) (fun W h => p_store W b _ _ _ s 2 jt jf k h.mach hk) _ rfl
theorem does_3 (h : PGoing w b qb qo n qcap db doff dcap z mb s 3 jt jf k) (hw : wrongE 3 k = 0) : StepC w b qb qo n qcap db doff dcap mb (s.does (wordZ z) ⟨3, jt, jf, k⟩) := by
  have hk : k.toNat < 16 := by
    rcases Nat.lt_or_ge 15 k.toNat with g | g
    · rw [wrongE, if_neg (by decide), if_neg (by simp), if_pos ⟨by simp, g⟩] at hw; cases hw
    · omega
  exact p_on w b qb qo n qcap db doff dcap z mb s 3 jt jf k h rfl hw 85 (by decide) enters_storeX { s with m := fun j => if j = k.toNat then s.x else s.m j } rfl h.going (by have := h.place; have := h.len; show s.place ≤ _; omega) (fun W h => p_storeX W b _ _ _ s 3 jt jf k h.mach hk) _ rfl
theorem does_32 (h : PGoing w b qb qo n qcap db doff dcap z mb s 32 jt jf k) (hw : wrongE 32 k = 0) : StepC w b qb qo n qcap db doff dcap mb (s.does (wordZ z) ⟨32, jt, jf, k⟩) := by
  have hk : k.toNat ≤ 60 ∧ k.toNat % 4 = 0 := by
    by_cases g : 60 < k.toNat ∨ k.toNat % 4 ≠ 0
    · rw [wrongE, if_neg (by decide), if_pos ⟨rfl, g⟩] at hw; cases hw
    · omega
  exact p_on w b qb qo n qcap db doff dcap z mb s 32 jt jf k h rfl hw 77 (by decide) enters_load { s with a := wordZ z k.toNat } rfl h.going (by have := h.place; have := h.len; show s.place ≤ _; omega) (fun W h => p_load W b _ _ s 32 jt jf k db doff dcap z h.bytes h.mach hk.1 hk.2) _ rfl
theorem does_4 (h : PGoing w b qb qo n qcap db doff dcap z mb s 4 jt jf k) (hw : wrongE 4 k = 0) : StepC w b qb qo n qcap db doff dcap mb (s.does (wordZ z) ⟨4, jt, jf, k⟩) :=
  p_on w b qb qo n qcap db doff dcap z mb s 4 jt jf k h rfl hw 86 (by decide) enters_add { s with a := s.a + k } rfl h.going (by have := h.place; have := h.len; show s.place ≤ _; omega) (fun W h => p_add W b _ _ _ s 4 jt jf k k h.mach (.inl ⟨by decide, rfl⟩)) _ rfl
theorem does_12 (h : PGoing w b qb qo n qcap db doff dcap z mb s 12 jt jf k) (hw : wrongE 12 k = 0) : StepC w b qb qo n qcap db doff dcap mb (s.does (wordZ z) ⟨12, jt, jf, k⟩) :=
  p_on w b qb qo n qcap db doff dcap z mb s 12 jt jf k h rfl hw 86 (by decide) enters_add { s with a := s.a + s.x } rfl h.going (by have := h.place; have := h.len; show s.place ≤ _; omega) (fun W h => p_add W b _ _ _ s 12 jt jf k s.x h.mach (.inr ⟨by decide, rfl⟩)) _ rfl
theorem does_20 (h : PGoing w b qb qo n qcap db doff dcap z mb s 20 jt jf k) (hw : wrongE 20 k = 0) : StepC w b qb qo n qcap db doff dcap mb (s.does (wordZ z) ⟨20, jt, jf, k⟩) :=
  p_on w b qb qo n qcap db doff dcap z mb s 20 jt jf k h rfl hw 87 (by decide) enters_sub { s with a := s.a - k } rfl h.going (by have := h.place; have := h.len; show s.place ≤ _; omega) (fun W h => p_sub W b _ _ _ s 20 jt jf k k h.mach (.inl ⟨by decide, rfl⟩)) _ rfl
theorem does_28 (h : PGoing w b qb qo n qcap db doff dcap z mb s 28 jt jf k) (hw : wrongE 28 k = 0) : StepC w b qb qo n qcap db doff dcap mb (s.does (wordZ z) ⟨28, jt, jf, k⟩) :=
  p_on w b qb qo n qcap db doff dcap z mb s 28 jt jf k h rfl hw 87 (by decide) enters_sub { s with a := s.a - s.x } rfl h.going (by have := h.place; have := h.len; show s.place ≤ _; omega) (fun W h => p_sub W b _ _ _ s 28 jt jf k s.x h.mach (.inr ⟨by decide, rfl⟩)) _ rfl
theorem does_36 (h : PGoing w b qb qo n qcap db doff dcap z mb s 36 jt jf k) (hw : wrongE 36 k = 0) : StepC w b qb qo n qcap db doff dcap mb (s.does (wordZ z) ⟨36, jt, jf, k⟩) :=
  p_on w b qb qo n qcap db doff dcap z mb s 36 jt jf k h rfl hw 88 (by decide) enters_mul { s with a := s.a * k } rfl h.going (by have := h.place; have := h.len; show s.place ≤ _; omega) (fun W h => p_mul W b _ _ _ s 36 jt jf k k h.mach (.inl ⟨by decide, rfl⟩)) _ rfl
theorem does_44 (h : PGoing w b qb qo n qcap db doff dcap z mb s 44 jt jf k) (hw : wrongE 44 k = 0) : StepC w b qb qo n qcap db doff dcap mb (s.does (wordZ z) ⟨44, jt, jf, k⟩) :=
  p_on w b qb qo n qcap db doff dcap z mb s 44 jt jf k h rfl hw 88 (by decide) enters_mul { s with a := s.a * s.x } rfl h.going (by have := h.place; have := h.len; show s.place ≤ _; omega) (fun W h => p_mul W b _ _ _ s 44 jt jf k s.x h.mach (.inr ⟨by decide, rfl⟩)) _ rfl
theorem does_68 (h : PGoing w b qb qo n qcap db doff dcap z mb s 68 jt jf k) (hw : wrongE 68 k = 0) : StepC w b qb qo n qcap db doff dcap mb (s.does (wordZ z) ⟨68, jt, jf, k⟩) :=
  p_on w b qb qo n qcap db doff dcap z mb s 68 jt jf k h rfl hw 90 (by decide) enters_or { s with a := s.a ||| k } rfl h.going (by have := h.place; have := h.len; show s.place ≤ _; omega) (fun W h => p_or W b _ _ _ s 68 jt jf k k h.mach (.inl ⟨by decide, rfl⟩)) _ rfl
theorem does_76 (h : PGoing w b qb qo n qcap db doff dcap z mb s 76 jt jf k) (hw : wrongE 76 k = 0) : StepC w b qb qo n qcap db doff dcap mb (s.does (wordZ z) ⟨76, jt, jf, k⟩) :=
  p_on w b qb qo n qcap db doff dcap z mb s 76 jt jf k h rfl hw 90 (by decide) enters_or { s with a := s.a ||| s.x } rfl h.going (by have := h.place; have := h.len; show s.place ≤ _; omega) (fun W h => p_or W b _ _ _ s 76 jt jf k s.x h.mach (.inr ⟨by decide, rfl⟩)) _ rfl
theorem does_84 (h : PGoing w b qb qo n qcap db doff dcap z mb s 84 jt jf k) (hw : wrongE 84 k = 0) : StepC w b qb qo n qcap db doff dcap mb (s.does (wordZ z) ⟨84, jt, jf, k⟩) :=
  p_on w b qb qo n qcap db doff dcap z mb s 84 jt jf k h rfl hw 91 (by decide) enters_and { s with a := s.a &&& k } rfl h.going (by have := h.place; have := h.len; show s.place ≤ _; omega) (fun W h => p_and W b _ _ _ s 84 jt jf k k h.mach (.inl ⟨by decide, rfl⟩)) _ rfl
theorem does_92 (h : PGoing w b qb qo n qcap db doff dcap z mb s 92 jt jf k) (hw : wrongE 92 k = 0) : StepC w b qb qo n qcap db doff dcap mb (s.does (wordZ z) ⟨92, jt, jf, k⟩) :=
  p_on w b qb qo n qcap db doff dcap z mb s 92 jt jf k h rfl hw 91 (by decide) enters_and { s with a := s.a &&& s.x } rfl h.going (by have := h.place; have := h.len; show s.place ≤ _; omega) (fun W h => p_and W b _ _ _ s 92 jt jf k s.x h.mach (.inr ⟨by decide, rfl⟩)) _ rfl
theorem does_100 (h : PGoing w b qb qo n qcap db doff dcap z mb s 100 jt jf k) (hw : wrongE 100 k = 0) : StepC w b qb qo n qcap db doff dcap mb (s.does (wordZ z) ⟨100, jt, jf, k⟩) :=
  p_on w b qb qo n qcap db doff dcap z mb s 100 jt jf k h rfl hw 92 (by decide) enters_left { s with a := s.a <<< (k.toNat % 32) } rfl h.going (by have := h.place; have := h.len; show s.place ≤ _; omega) (fun W h => p_left W b _ _ _ s 100 jt jf k k h.mach (.inl ⟨by decide, rfl⟩)) _ rfl
theorem does_108 (h : PGoing w b qb qo n qcap db doff dcap z mb s 108 jt jf k) (hw : wrongE 108 k = 0) : StepC w b qb qo n qcap db doff dcap mb (s.does (wordZ z) ⟨108, jt, jf, k⟩) :=
  p_on w b qb qo n qcap db doff dcap z mb s 108 jt jf k h rfl hw 92 (by decide) enters_left { s with a := s.a <<< (s.x.toNat % 32) } rfl h.going (by have := h.place; have := h.len; show s.place ≤ _; omega) (fun W h => p_left W b _ _ _ s 108 jt jf k s.x h.mach (.inr ⟨by decide, rfl⟩)) _ rfl
theorem does_116 (h : PGoing w b qb qo n qcap db doff dcap z mb s 116 jt jf k) (hw : wrongE 116 k = 0) : StepC w b qb qo n qcap db doff dcap mb (s.does (wordZ z) ⟨116, jt, jf, k⟩) :=
  p_on w b qb qo n qcap db doff dcap z mb s 116 jt jf k h rfl hw 93 (by decide) enters_right { s with a := s.a >>> (k.toNat % 32) } rfl h.going (by have := h.place; have := h.len; show s.place ≤ _; omega) (fun W h => p_right W b _ _ _ s 116 jt jf k k h.mach (.inl ⟨by decide, rfl⟩)) _ rfl
theorem does_124 (h : PGoing w b qb qo n qcap db doff dcap z mb s 124 jt jf k) (hw : wrongE 124 k = 0) : StepC w b qb qo n qcap db doff dcap mb (s.does (wordZ z) ⟨124, jt, jf, k⟩) :=
  p_on w b qb qo n qcap db doff dcap z mb s 124 jt jf k h rfl hw 93 (by decide) enters_right { s with a := s.a >>> (s.x.toNat % 32) } rfl h.going (by have := h.place; have := h.len; show s.place ≤ _; omega) (fun W h => p_right W b _ _ _ s 124 jt jf k s.x h.mach (.inr ⟨by decide, rfl⟩)) _ rfl
theorem does_164 (h : PGoing w b qb qo n qcap db doff dcap z mb s 164 jt jf k) (hw : wrongE 164 k = 0) : StepC w b qb qo n qcap db doff dcap mb (s.does (wordZ z) ⟨164, jt, jf, k⟩) :=
  p_on w b qb qo n qcap db doff dcap z mb s 164 jt jf k h rfl hw 94 (by decide) enters_xor { s with a := s.a ^^^ k } rfl h.going (by have := h.place; have := h.len; show s.place ≤ _; omega) (fun W h => p_xor W b _ _ _ s 164 jt jf k k h.mach (.inl ⟨by decide, rfl⟩)) _ rfl
theorem does_172 (h : PGoing w b qb qo n qcap db doff dcap z mb s 172 jt jf k) (hw : wrongE 172 k = 0) : StepC w b qb qo n qcap db doff dcap mb (s.does (wordZ z) ⟨172, jt, jf, k⟩) :=
  p_on w b qb qo n qcap db doff dcap z mb s 172 jt jf k h rfl hw 94 (by decide) enters_xor { s with a := s.a ^^^ s.x } rfl h.going (by have := h.place; have := h.len; show s.place ≤ _; omega) (fun W h => p_xor W b _ _ _ s 172 jt jf k s.x h.mach (.inr ⟨by decide, rfl⟩)) _ rfl
theorem does_52 (h : PGoing w b qb qo n qcap db doff dcap z mb s 52 jt jf k) (hw : wrongE 52 k = 0) : StepC w b qb qo n qcap db doff dcap mb (s.does (wordZ z) ⟨52, jt, jf, k⟩) :=
  p_on w b qb qo n qcap db doff dcap z mb s 52 jt jf k h rfl hw 89 (by decide) enters_div { s with a := s.a / k } rfl h.going (by have := h.place; have := h.len; show s.place ≤ _; omega) (fun W h => p_div_n W b _ _ _ s 52 jt jf k k h.mach (.inl ⟨by decide, rfl⟩) (wrong_52 hw)) _ rfl
theorem does_60 (h : PGoing w b qb qo n qcap db doff dcap z mb s 60 jt jf k) (hw : wrongE 60 k = 0) : StepC w b qb qo n qcap db doff dcap mb (s.does (wordZ z) ⟨60, jt, jf, k⟩) := by
  by_cases hx : s.x = 0#32
  · exact p_ends w b qb qo n qcap db doff dcap z mb s 60 jt jf k h rfl hw 89 (by decide) enters_div { s with done := true, ans := 0#32 } rfl rfl (fun W h => p_div_0 W b _ _ _ s 60 jt jf k s.x h.mach (.inr ⟨by decide, rfl⟩) hx) _ (by simp [Mach.does, Mach.ends, show aluC 60 = true from rfl, usesX_60, hx])
  · exact p_on w b qb qo n qcap db doff dcap z mb s 60 jt jf k h rfl hw 89 (by decide) enters_div { s with a := s.a / s.x } rfl h.going (by have := h.place; have := h.len; show s.place ≤ _; omega) (fun W h => p_div_n W b _ _ _ s 60 jt jf k s.x h.mach (.inr ⟨by decide, rfl⟩) hx) _ (by simp [Mach.does, show aluC 60 = true from rfl, usesX_60, hx]; rfl)
theorem does_5 (h : PGoing w b qb qo n qcap db doff dcap z mb s 5 jt jf k) (hw : wrongE 5 k = 0) : StepC w b qb qo n qcap db doff dcap mb (s.does (wordZ z) ⟨5, jt, jf, k⟩) :=
  p_on w b qb qo n qcap db doff dcap z mb s 5 jt jf k h rfl hw 96 (by decide) enters_jump { s with place := s.place + k.toNat } rfl h.going (by have := h.place; have := h.len; have := k.isLt; show s.place + k.toNat ≤ _; omega) (fun W h => p_jump W b _ _ _ s 5 jt jf k h.mach (Nat.le_of_lt (Nat.lt_of_lt_of_le h.place h.len))) _ (on_place s k.toNat)
theorem does_6 (h : PGoing w b qb qo n qcap db doff dcap z mb s 6 jt jf k) (hw : wrongE 6 k = 0) : StepC w b qb qo n qcap db doff dcap mb (s.does (wordZ z) ⟨6, jt, jf, k⟩) :=
  p_ends w b qb qo n qcap db doff dcap z mb s 6 jt jf k h rfl hw 101 (by decide) enters_returnConst { s with done := true, ans := k } rfl rfl (fun W h => p_returnConst W b _ _ _ s 6 jt jf k h.mach) _ rfl
theorem does_22 (h : PGoing w b qb qo n qcap db doff dcap z mb s 22 jt jf k) (hw : wrongE 22 k = 0) : StepC w b qb qo n qcap db doff dcap mb (s.does (wordZ z) ⟨22, jt, jf, k⟩) :=
  p_ends w b qb qo n qcap db doff dcap z mb s 22 jt jf k h rfl hw 102 (by decide) enters_returnA { s with done := true, ans := s.a } rfl rfl (fun W h => p_returnA W b _ _ _ s 22 jt jf k h.mach) _ rfl
theorem does_21 (h : PGoing w b qb qo n qcap db doff dcap z mb s 21 jt jf k) (hw : wrongE 21 k = 0) (hjt : jt < 256) (hjf : jf < 256) : StepC w b qb qo n qcap db doff dcap mb (s.does (wordZ z) ⟨21, jt, jf, k⟩) := by
  have e0 : s.does (wordZ z) ⟨21, jt, jf, k⟩ = s.on (1 + (if (s.a == k) = true then jt else jf)) := rfl
  by_cases hq : s.a = k
  · rw [e0, show (s.a == k) = true from beq_iff_eq.2 hq, if_pos rfl]
    exact p_on w b qb qo n qcap db doff dcap z mb s 21 jt jf k h rfl hw 97 (by decide) enters_ifEqual { s with place := s.place + jt } rfl h.going (by have := h.place; have := h.len; show s.place + jt ≤ _; omega) (fun W h => p_ifEqual_t W b _ _ _ s 21 jt jf k h.mach (by rw [hq]; exact (.inl ⟨by decide, rfl⟩)) (Nat.le_of_lt (Nat.lt_of_lt_of_le h.place h.len)) hjt) _ (on_place s jt)
  · rw [e0, show (s.a == k) = false from beq_false_of_ne hq, if_neg (by decide)]
    exact p_on w b qb qo n qcap db doff dcap z mb s 21 jt jf k h rfl hw 97 (by decide) enters_ifEqual { s with place := s.place + jf } rfl h.going (by have := h.place; have := h.len; show s.place + jf ≤ _; omega) (fun W h => p_ifEqual_f W b _ _ _ s 21 jt jf k k h.mach (.inl ⟨by decide, rfl⟩) hq (Nat.le_of_lt (Nat.lt_of_lt_of_le h.place h.len)) hjf) _ (on_place s jf)
theorem does_29 (h : PGoing w b qb qo n qcap db doff dcap z mb s 29 jt jf k) (hw : wrongE 29 k = 0) (hjt : jt < 256) (hjf : jf < 256) : StepC w b qb qo n qcap db doff dcap mb (s.does (wordZ z) ⟨29, jt, jf, k⟩) := by
  have e0 : s.does (wordZ z) ⟨29, jt, jf, k⟩ = s.on (1 + (if (s.a == s.x) = true then jt else jf)) := rfl
  by_cases hq : s.a = s.x
  · rw [e0, show (s.a == s.x) = true from beq_iff_eq.2 hq, if_pos rfl]
    exact p_on w b qb qo n qcap db doff dcap z mb s 29 jt jf k h rfl hw 97 (by decide) enters_ifEqual { s with place := s.place + jt } rfl h.going (by have := h.place; have := h.len; show s.place + jt ≤ _; omega) (fun W h => p_ifEqual_t W b _ _ _ s 29 jt jf k h.mach (by rw [hq]; exact (.inr ⟨by decide, rfl⟩)) (Nat.le_of_lt (Nat.lt_of_lt_of_le h.place h.len)) hjt) _ (on_place s jt)
  · rw [e0, show (s.a == s.x) = false from beq_false_of_ne hq, if_neg (by decide)]
    exact p_on w b qb qo n qcap db doff dcap z mb s 29 jt jf k h rfl hw 97 (by decide) enters_ifEqual { s with place := s.place + jf } rfl h.going (by have := h.place; have := h.len; show s.place + jf ≤ _; omega) (fun W h => p_ifEqual_f W b _ _ _ s 29 jt jf k s.x h.mach (.inr ⟨by decide, rfl⟩) hq (Nat.le_of_lt (Nat.lt_of_lt_of_le h.place h.len)) hjf) _ (on_place s jf)
theorem does_37 (h : PGoing w b qb qo n qcap db doff dcap z mb s 37 jt jf k) (hw : wrongE 37 k = 0) (hjt : jt < 256) (hjf : jf < 256) : StepC w b qb qo n qcap db doff dcap mb (s.does (wordZ z) ⟨37, jt, jf, k⟩) := by
  have e0 : s.does (wordZ z) ⟨37, jt, jf, k⟩ = s.on (1 + (if (decide (k.toNat < s.a.toNat)) = true then jt else jf)) := rfl
  by_cases hq : k.toNat < s.a.toNat
  · rw [e0, show (decide (k.toNat < s.a.toNat)) = true from decide_eq_true hq, if_pos rfl]
    exact p_on w b qb qo n qcap db doff dcap z mb s 37 jt jf k h rfl hw 98 (by decide) enters_ifAbove { s with place := s.place + jt } rfl h.going (by have := h.place; have := h.len; show s.place + jt ≤ _; omega) (fun W h => p_ifAbove_t W b _ _ _ s 37 jt jf k k h.mach (.inl ⟨by decide, rfl⟩) hq (Nat.le_of_lt (Nat.lt_of_lt_of_le h.place h.len)) hjt) _ (on_place s jt)
  · rw [e0, show (decide (k.toNat < s.a.toNat)) = false from decide_eq_false hq, if_neg (by decide)]
    exact p_on w b qb qo n qcap db doff dcap z mb s 37 jt jf k h rfl hw 98 (by decide) enters_ifAbove { s with place := s.place + jf } rfl h.going (by have := h.place; have := h.len; show s.place + jf ≤ _; omega) (fun W h => p_ifAbove_f W b _ _ _ s 37 jt jf k k h.mach (.inl ⟨by decide, rfl⟩) hq (Nat.le_of_lt (Nat.lt_of_lt_of_le h.place h.len)) hjf) _ (on_place s jf)
theorem does_45 (h : PGoing w b qb qo n qcap db doff dcap z mb s 45 jt jf k) (hw : wrongE 45 k = 0) (hjt : jt < 256) (hjf : jf < 256) : StepC w b qb qo n qcap db doff dcap mb (s.does (wordZ z) ⟨45, jt, jf, k⟩) := by
  have e0 : s.does (wordZ z) ⟨45, jt, jf, k⟩ = s.on (1 + (if (decide (s.x.toNat < s.a.toNat)) = true then jt else jf)) := rfl
  by_cases hq : s.x.toNat < s.a.toNat
  · rw [e0, show (decide (s.x.toNat < s.a.toNat)) = true from decide_eq_true hq, if_pos rfl]
    exact p_on w b qb qo n qcap db doff dcap z mb s 45 jt jf k h rfl hw 98 (by decide) enters_ifAbove { s with place := s.place + jt } rfl h.going (by have := h.place; have := h.len; show s.place + jt ≤ _; omega) (fun W h => p_ifAbove_t W b _ _ _ s 45 jt jf k s.x h.mach (.inr ⟨by decide, rfl⟩) hq (Nat.le_of_lt (Nat.lt_of_lt_of_le h.place h.len)) hjt) _ (on_place s jt)
  · rw [e0, show (decide (s.x.toNat < s.a.toNat)) = false from decide_eq_false hq, if_neg (by decide)]
    exact p_on w b qb qo n qcap db doff dcap z mb s 45 jt jf k h rfl hw 98 (by decide) enters_ifAbove { s with place := s.place + jf } rfl h.going (by have := h.place; have := h.len; show s.place + jf ≤ _; omega) (fun W h => p_ifAbove_f W b _ _ _ s 45 jt jf k s.x h.mach (.inr ⟨by decide, rfl⟩) hq (Nat.le_of_lt (Nat.lt_of_lt_of_le h.place h.len)) hjf) _ (on_place s jf)
theorem does_53 (h : PGoing w b qb qo n qcap db doff dcap z mb s 53 jt jf k) (hw : wrongE 53 k = 0) (hjt : jt < 256) (hjf : jf < 256) : StepC w b qb qo n qcap db doff dcap mb (s.does (wordZ z) ⟨53, jt, jf, k⟩) := by
  have e0 : s.does (wordZ z) ⟨53, jt, jf, k⟩ = s.on (1 + (if (decide (k.toNat ≤ s.a.toNat)) = true then jt else jf)) := rfl
  by_cases hq : k.toNat ≤ s.a.toNat
  · rw [e0, show (decide (k.toNat ≤ s.a.toNat)) = true from decide_eq_true hq, if_pos rfl]
    exact p_on w b qb qo n qcap db doff dcap z mb s 53 jt jf k h rfl hw 99 (by decide) enters_ifNotBelow { s with place := s.place + jt } rfl h.going (by have := h.place; have := h.len; show s.place + jt ≤ _; omega) (fun W h => p_ifNotBelow_t W b _ _ _ s 53 jt jf k k h.mach (.inl ⟨by decide, rfl⟩) hq (Nat.le_of_lt (Nat.lt_of_lt_of_le h.place h.len)) hjt) _ (on_place s jt)
  · rw [e0, show (decide (k.toNat ≤ s.a.toNat)) = false from decide_eq_false hq, if_neg (by decide)]
    exact p_on w b qb qo n qcap db doff dcap z mb s 53 jt jf k h rfl hw 99 (by decide) enters_ifNotBelow { s with place := s.place + jf } rfl h.going (by have := h.place; have := h.len; show s.place + jf ≤ _; omega) (fun W h => p_ifNotBelow_f W b _ _ _ s 53 jt jf k k h.mach (.inl ⟨by decide, rfl⟩) hq (Nat.le_of_lt (Nat.lt_of_lt_of_le h.place h.len)) hjf) _ (on_place s jf)
theorem does_61 (h : PGoing w b qb qo n qcap db doff dcap z mb s 61 jt jf k) (hw : wrongE 61 k = 0) (hjt : jt < 256) (hjf : jf < 256) : StepC w b qb qo n qcap db doff dcap mb (s.does (wordZ z) ⟨61, jt, jf, k⟩) := by
  have e0 : s.does (wordZ z) ⟨61, jt, jf, k⟩ = s.on (1 + (if (decide (s.x.toNat ≤ s.a.toNat)) = true then jt else jf)) := rfl
  by_cases hq : s.x.toNat ≤ s.a.toNat
  · rw [e0, show (decide (s.x.toNat ≤ s.a.toNat)) = true from decide_eq_true hq, if_pos rfl]
    exact p_on w b qb qo n qcap db doff dcap z mb s 61 jt jf k h rfl hw 99 (by decide) enters_ifNotBelow { s with place := s.place + jt } rfl h.going (by have := h.place; have := h.len; show s.place + jt ≤ _; omega) (fun W h => p_ifNotBelow_t W b _ _ _ s 61 jt jf k s.x h.mach (.inr ⟨by decide, rfl⟩) hq (Nat.le_of_lt (Nat.lt_of_lt_of_le h.place h.len)) hjt) _ (on_place s jt)
  · rw [e0, show (decide (s.x.toNat ≤ s.a.toNat)) = false from decide_eq_false hq, if_neg (by decide)]
    exact p_on w b qb qo n qcap db doff dcap z mb s 61 jt jf k h rfl hw 99 (by decide) enters_ifNotBelow { s with place := s.place + jf } rfl h.going (by have := h.place; have := h.len; show s.place + jf ≤ _; omega) (fun W h => p_ifNotBelow_f W b _ _ _ s 61 jt jf k s.x h.mach (.inr ⟨by decide, rfl⟩) hq (Nat.le_of_lt (Nat.lt_of_lt_of_le h.place h.len)) hjf) _ (on_place s jf)
theorem does_69 (h : PGoing w b qb qo n qcap db doff dcap z mb s 69 jt jf k) (hw : wrongE 69 k = 0) (hjt : jt < 256) (hjf : jf < 256) : StepC w b qb qo n qcap db doff dcap mb (s.does (wordZ z) ⟨69, jt, jf, k⟩) := by
  have e0 : s.does (wordZ z) ⟨69, jt, jf, k⟩ = s.on (1 + (if (s.a &&& k != 0#32) = true then jt else jf)) := rfl
  by_cases hq : ¬ s.a &&& k = 0#32
  · rw [e0, show (s.a &&& k != 0#32) = true from bne_iff_ne.2 hq, if_pos rfl]
    exact p_on w b qb qo n qcap db doff dcap z mb s 69 jt jf k h rfl hw 100 (by decide) enters_ifCommon { s with place := s.place + jt } rfl h.going (by have := h.place; have := h.len; show s.place + jt ≤ _; omega) (fun W h => p_ifCommon_t W b _ _ _ s 69 jt jf k k h.mach (.inl ⟨by decide, rfl⟩) hq (Nat.le_of_lt (Nat.lt_of_lt_of_le h.place h.len)) hjt) _ (on_place s jt)
  · rw [e0, show (s.a &&& k != 0#32) = false from by simpa using hq, if_neg (by decide)]
    exact p_on w b qb qo n qcap db doff dcap z mb s 69 jt jf k h rfl hw 100 (by decide) enters_ifCommon { s with place := s.place + jf } rfl h.going (by have := h.place; have := h.len; show s.place + jf ≤ _; omega) (fun W h => p_ifCommon_f W b _ _ _ s 69 jt jf k k h.mach (.inl ⟨by decide, rfl⟩) (Classical.not_not.1 hq) (Nat.le_of_lt (Nat.lt_of_lt_of_le h.place h.len)) hjf) _ (on_place s jf)
theorem does_77 (h : PGoing w b qb qo n qcap db doff dcap z mb s 77 jt jf k) (hw : wrongE 77 k = 0) (hjt : jt < 256) (hjf : jf < 256) : StepC w b qb qo n qcap db doff dcap mb (s.does (wordZ z) ⟨77, jt, jf, k⟩) := by
  have e0 : s.does (wordZ z) ⟨77, jt, jf, k⟩ = s.on (1 + (if (s.a &&& s.x != 0#32) = true then jt else jf)) := rfl
  by_cases hq : ¬ s.a &&& s.x = 0#32
  · rw [e0, show (s.a &&& s.x != 0#32) = true from bne_iff_ne.2 hq, if_pos rfl]
    exact p_on w b qb qo n qcap db doff dcap z mb s 77 jt jf k h rfl hw 100 (by decide) enters_ifCommon { s with place := s.place + jt } rfl h.going (by have := h.place; have := h.len; show s.place + jt ≤ _; omega) (fun W h => p_ifCommon_t W b _ _ _ s 77 jt jf k s.x h.mach (.inr ⟨by decide, rfl⟩) hq (Nat.le_of_lt (Nat.lt_of_lt_of_le h.place h.len)) hjt) _ (on_place s jt)
  · rw [e0, show (s.a &&& s.x != 0#32) = false from by simpa using hq, if_neg (by decide)]
    exact p_on w b qb qo n qcap db doff dcap z mb s 77 jt jf k h rfl hw 100 (by decide) enters_ifCommon { s with place := s.place + jf } rfl h.going (by have := h.place; have := h.len; show s.place + jf ≤ _; omega) (fun W h => p_ifCommon_f W b _ _ _ s 77 jt jf k s.x h.mach (.inr ⟨by decide, rfl⟩) (Classical.not_not.1 hq) (Nat.le_of_lt (Nat.lt_of_lt_of_le h.place h.len)) hjf) _ (on_place s jf)
theorem p_does (c : Int) (h : PGoing w b qb qo n qcap db doff dcap z mb s c jt jf k) (hw : wrongE c k = 0) (hjt : jt < 256) (hjf : jf < 256) : StepC w b qb qo n qcap db doff dcap mb (s.does (wordZ z) ⟨c, jt, jf, k⟩) := by
  rcases seals_three hw with ha | ⟨_, hj⟩ | ⟨_, _, hr⟩
  · rcases alu_cases ha with rfl | rfl | rfl | rfl | rfl | rfl | rfl | rfl | rfl | rfl | rfl | rfl | rfl | rfl | rfl | rfl | rfl | rfl
    · exact does_4 w b qb qo n qcap db doff dcap z mb s jt jf k h hw
    · exact does_20 w b qb qo n qcap db doff dcap z mb s jt jf k h hw
    · exact does_36 w b qb qo n qcap db doff dcap z mb s jt jf k h hw
    · exact does_52 w b qb qo n qcap db doff dcap z mb s jt jf k h hw
    · exact does_68 w b qb qo n qcap db doff dcap z mb s jt jf k h hw
    · exact does_84 w b qb qo n qcap db doff dcap z mb s jt jf k h hw
    · exact does_100 w b qb qo n qcap db doff dcap z mb s jt jf k h hw
    · exact does_116 w b qb qo n qcap db doff dcap z mb s jt jf k h hw
    · exact does_164 w b qb qo n qcap db doff dcap z mb s jt jf k h hw
    · exact does_12 w b qb qo n qcap db doff dcap z mb s jt jf k h hw
    · exact does_28 w b qb qo n qcap db doff dcap z mb s jt jf k h hw
    · exact does_44 w b qb qo n qcap db doff dcap z mb s jt jf k h hw
    · exact does_60 w b qb qo n qcap db doff dcap z mb s jt jf k h hw
    · exact does_76 w b qb qo n qcap db doff dcap z mb s jt jf k h hw
    · exact does_92 w b qb qo n qcap db doff dcap z mb s jt jf k h hw
    · exact does_108 w b qb qo n qcap db doff dcap z mb s jt jf k h hw
    · exact does_124 w b qb qo n qcap db doff dcap z mb s jt jf k h hw
    · exact does_172 w b qb qo n qcap db doff dcap z mb s jt jf k h hw
  · rcases jump_cases hj with rfl | rfl | rfl | rfl | rfl | rfl | rfl | rfl
    · exact does_21 w b qb qo n qcap db doff dcap z mb s jt jf k h hw hjt hjf
    · exact does_37 w b qb qo n qcap db doff dcap z mb s jt jf k h hw hjt hjf
    · exact does_53 w b qb qo n qcap db doff dcap z mb s jt jf k h hw hjt hjf
    · exact does_69 w b qb qo n qcap db doff dcap z mb s jt jf k h hw hjt hjf
    · exact does_29 w b qb qo n qcap db doff dcap z mb s jt jf k h hw hjt hjf
    · exact does_45 w b qb qo n qcap db doff dcap z mb s jt jf k h hw hjt hjf
    · exact does_61 w b qb qo n qcap db doff dcap z mb s jt jf k h hw hjt hjf
    · exact does_77 w b qb qo n qcap db doff dcap z mb s jt jf k h hw hjt hjf
  · rcases rest_cases hr with rfl | rfl | rfl | rfl | rfl | rfl | rfl | rfl | rfl | rfl | rfl | rfl | rfl | rfl | rfl
    · exact does_32 w b qb qo n qcap db doff dcap z mb s jt jf k h hw
    · exact does_128 w b qb qo n qcap db doff dcap z mb s jt jf k h hw
    · exact does_129 w b qb qo n qcap db doff dcap z mb s jt jf k h hw
    · exact does_0 w b qb qo n qcap db doff dcap z mb s jt jf k h hw
    · exact does_1 w b qb qo n qcap db doff dcap z mb s jt jf k h hw
    · exact does_96 w b qb qo n qcap db doff dcap z mb s jt jf k h hw
    · exact does_97 w b qb qo n qcap db doff dcap z mb s jt jf k h hw
    · exact does_2 w b qb qo n qcap db doff dcap z mb s jt jf k h hw
    · exact does_3 w b qb qo n qcap db doff dcap z mb s jt jf k h hw
    · exact does_132 w b qb qo n qcap db doff dcap z mb s jt jf k h hw
    · exact does_5 w b qb qo n qcap db doff dcap z mb s jt jf k h hw
    · exact does_6 w b qb qo n qcap db doff dcap z mb s jt jf k h hw
    · exact does_22 w b qb qo n qcap db doff dcap z mb s jt jf k h hw
    · exact does_7 w b qb qo n qcap db doff dcap z mb s jt jf k h hw
    · exact does_135 w b qb qo n qcap db doff dcap z mb s jt jf k h hw
end
theorem p_Step (w : World) (b : Nat) (qa : Option Addr) (n qcap : Nat) (q : Nat → Ins) (da : Option Addr) (dlen dcap : Nat) (z : Nat → Int) (mb : Nat) (s : Mach) (h : PReady w b qa n qcap q da dlen dcap z mb s) :
    Calls Tryz.prog 23 #[.pointer (some ⟨b, 0, none⟩)] w (PMethP w b (.slice qa n qcap) (.slice da dlen dcap) (.map (some mb)) (s.step q n dlen (wordZ z)).done (s.step q n dlen (wordZ z))) := by
  rcases hd : s.done with _ | _
  · by_cases hl : dlen = 64
    · subst hl
      by_cases hp : n ≤ s.place
      · have e : s.step q n 64 (wordZ z) = s.fails 33 := by simp [Mach.step, hd, hp]
        rw [e]
        exact p_step_fault w b s _ _ _ h.mach hd 33 (by decide) (p_fault_place w b qa n qcap q da dcap z mb s h hp)
      · obtain ⟨db, doff, rfl, hz⟩ := h.data rfl
        obtain ⟨qb, qo, rfl, hql, hc⟩ := h.prog (by omega)
        have hlt : s.place < n := by omega
        have G : PGoing w b qb qo n qcap db doff dcap z mb s (q s.place).code (q s.place).jt (q s.place).jf (q s.place).k := ⟨h.mach, hc _ hlt, hql, hz, hd, hlt, h.len, h.steps, h.ops, h.mfar, (h.ok _ hlt).1, (h.ok _ hlt).2.1⟩
        by_cases hw : wrongE (q s.place).code (q s.place).k = 0
        · have e : s.step q n 64 (wordZ z) = s.does (wordZ z) (q s.place) := by simp [Mach.step, hd, hp, hw]
          rw [e]
          exact p_does w b qb qo n qcap db doff dcap z mb s _ _ _ _ G hw (h.ok _ hlt).2.2.1 (h.ok _ hlt).2.2.2
        · have e : s.step q n 64 (wordZ z) = s.fails (wrongE (q s.place).code (q s.place).k) := by simp [Mach.step, hd, hp, hw]
          rw [e]
          refine p_step_fault w b s _ _ _ h.mach hd _ hw ?_
          rcases hs : sealsC (q s.place).code with _ | _
          · have e2 : wrongE (q s.place).code (q s.place).k = 32 := by rw [wrongE, if_pos hs]
            rw [e2]
            exact p_fault_code w b qb qo n qcap db doff dcap z mb s _ _ _ _ G hs
          · obtain ⟨f, hf⟩ := ops_some hs
            exact p_fault_go w b qb qo n qcap db doff dcap z mb s _ _ _ _ G hs f hf
    · have e : s.step q n dlen (wordZ z) = s.fails 21 := by simp [Mach.step, hd, hl]
      rw [e]
      exact p_step_fault w b s _ _ _ h.mach hd 21 (by decide) (p_fault_len w b qa n qcap q da dlen dcap z mb s h hl)
  · have e : s.step q n dlen (wordZ z) = s := by simp [Mach.step, hd]
    rw [e, hd]
    exact p_step_done w b qa n qcap q da dlen dcap z mb s h hd
end Go.Proofs.YtoajommeiocfpaaGreat
namespace Go.Proofs.YtoajommeiocfpaaGreat
open Go Go.RowKit
set_option linter.unusedSimpArgs false
set_option linter.unusedVariables false
set_option maxRecDepth 100000

theorem nil_eq_ins (c : Nat) (w : World) : (binOp .eql 22 (.slice none 0 c) (.slice none 0 0)).run Tryz.prog w = .ok (.bool true) w := by kernel_rfl
theorem some_eq_ins (a : Addr) (n c : Nat) (w : World) : (binOp .eql 22 (.slice (some a) n c) (.slice none 0 0)).run Tryz.prog w = .ok (.bool false) w := by kernel_rfl
theorem nil_eq_u8 (c : Nat) (w : World) : (binOp .eql 32 (.slice none 0 c) (.slice none 0 0)).run Tryz.prog w = .ok (.bool true) w := by kernel_rfl
theorem some_eq_u8 (a : Addr) (n c : Nat) (w : World) : (binOp .eql 32 (.slice (some a) n c) (.slice none 0 0)).run Tryz.prog w = .ok (.bool false) w := by kernel_rfl
/-- What a clone leaves: a slice in new memory, or nil. -/
def CloneP (w : World) (n : Nat) (R : World → Option Addr → Prop) (e : Ending) (w' : World) : Prop := ∃ A cap, e = .returned (.slice A n cap) ∧ R w' A ∧ Below w.heap.size w w'

theorem clone_ins (w : World) (A : Option Addr) (n cap : Nat) (q : Nat → Ins) (hn : n * 8 ≤ 140737488351232) (h : ProgAt w A n q) :
    Calls Tryz.prog 50 #[.slice A n cap] w (CloneP w n fun w' A' => ProgAt w' A' n q) := by
  rcases A with _ | ad
  · have hn0 : n = 0 := by
      rcases Nat.eq_zero_or_pos n with g | g
      · exact g
      · obtain ⟨_, _, e, _⟩ := h g; cases e
    subst hn0
    clear h
    have hq := nil_eq_ins cap
    go_enter Tryz.func50, Tryz.ntmps50
    go_wp2
    go_ret
    exact ⟨none, 0, rfl, fun h => absurd h (by omega), Below.refl _ _⟩
  · have HS := Lib.hid ((holds_of_prog h).below (box_below w (.cells #[] 60)))
    have hq := some_eq_ins ad n cap
    clear h
    go_enter Tryz.func50, Tryz.ntmps50
    go_wp2_with (at_builtin; refine wpList_append_rows _ rfl (.tmp 5) (.tmp 6) 22 rfl 60 (.agg #[.int .u16 0, .int .u8 0, .int .u8 0, .int .u32 0]) 4 8 Tryz.underlying22 info_ins rfl (by decide) w.heap.size 0 0 (fun _ => undef) rfl (World.rowIs_alloc w #[] 60 (fun _ => undef) (fun i hi => absurd hi (by simp))) (Nat.le_refl _) (by decide) (some ad) n cap (progF q) rfl HS.out (progF_one q) (by unfold maxLen; omega) (by omega) ?_; intro g1 cap1 F1 w1 hr1 hc1 hm1 _ hF1 hg1 hgg1; simp only [Nat.zero_add, Nat.zero_mul] at hc1 hF1; obtain ⟨hb1, hge1⟩ := append_new_below hg1 hgg1; clear hg1 hgg1; have HF1 := Lib.hid hF1; clear hF1)
    go_ret
    exact ⟨some ⟨g1, 0, none⟩, cap1, by simp, prog_of_row hr1 HF1.out (by omega), hb1⟩

theorem clone_bytes (w : World) (A : Option Addr) (n cap : Nat) (z : Nat → Int) (hn : n ≤ 140737488351232) (h : Holds w A n fun i => .int .u8 (z i)) :
    Calls Tryz.prog 51 #[.slice A n cap] w (CloneP w n fun w' A' => Holds w' A' n fun i => .int .u8 (z i)) := by
  rcases A with _ | ad
  · have hn0 : n = 0 := by
      rcases Nat.eq_zero_or_pos n with g | g
      · exact g
      · obtain ⟨_, _, e, _⟩ := h g; cases e
    subst hn0
    clear h
    have hq := nil_eq_u8 cap
    go_enter Tryz.func51, Tryz.ntmps51
    go_wp2
    go_ret
    exact ⟨none, 0, rfl, fun h => absurd h (by omega), Below.refl _ _⟩
  · have HS := Lib.hid (h.below (box_below w (.cells #[] 5)))
    have hq := some_eq_u8 ad n cap
    clear h
    go_enter Tryz.func51, Tryz.ntmps51
    go_wp2_with (at_builtin; refine wpList_append_row _ rfl (.tmp 5) (.tmp 6) 32 rfl 5 (.int .u8 0) 1 Tryz.underlying32 rfl rfl w.heap.size 0 0 (fun _ => undef) rfl (World.rowIs_alloc w #[] 5 (fun _ => undef) (fun i hi => absurd hi (by simp))) (Nat.le_refl _) (by decide) (some ad) n cap (fun i => .int .u8 (z i)) rfl HS.out (fun _ => rfl) (by unfold maxLen; omega) (by omega) ?_; intro g1 cap1 F1 w1 hr1 hc1 hm1 _ hF1 hg1 hgg1; simp only [Nat.zero_add] at hc1 hF1; obtain ⟨hb1, hge1⟩ := append_new_below hg1 hgg1; clear hg1 hgg1; have HF1 := Lib.hid hF1; clear hF1)
    go_ret
    exact ⟨some ⟨g1, 0, none⟩, cap1, by simp, (holds_of_row hr1 (by omega)).congr HF1.out, hb1⟩

/-- A program and its data, ahead of a run of the program's own. -/
structure PLies (w : World) (qa : Option Addr) (n : Nat) (q : Nat → Ins) (da : Option Addr) (dlen : Nat) (z : Nat → Int) : Prop where
  prog : ProgAt w qa n q
  data : Holds w da dlen fun i => .int .u8 (z i)
  bytes : ∀ i, 0 ≤ z i ∧ z i < 256
  len : n * 8 ≤ 140737488351232
  dlen : dlen ≤ 140737488351232
  ok : ∀ i, i < n → (q i).OK
theorem PLies.below {w w' : World} {qa : Option Addr} {n : Nat} {q : Nat → Ins} {da : Option Addr} {dlen : Nat} {z : Nat → Int} (h : PLies w qa n q da dlen z) (hb : Below w.heap.size w w') : PLies w' qa n q da dlen z :=
  ⟨h.prog.below hb, h.data.below hb, h.bytes, h.len, h.dlen, h.ok⟩
/-- A machine that has been made. -/
def NewP (w : World) (n : Nat) (q : Nat → Ins) (dlen : Nat) (z : Nat → Int) (e : Ending) (w' : World) : Prop :=
  ∃ b qa qcap da dcap mb, e = .returned (.pointer (some ⟨b, 0, none⟩)) ∧ PReady w' b qa n qcap q da dlen dcap z mb Mach.start ∧ Below w.heap.size w w' ∧ w.heap.size ≤ b
theorem cbpf_New (w : World) (qa : Option Addr) (n qcap : Nat) (q : Nat → Ins) (da : Option Addr) (dlen dcap : Nat) (z : Nat → Int) (h : PLies w qa n q da dlen z) :
    Calls Tryz.prog 22 #[.slice qa n qcap, .slice da dlen dcap] w (NewP w n q dlen z) := by
  have HL := Lib.hid h
  clear h
  go_enter Tryz.func22, Tryz.ntmps22
  go_wp2_with (first
    | (go_at_call 50; (with_reducible refine (clone_ins _ _ _ _ q HL.out.len HL.out.prog).mono ?_); rintro e w1 ⟨qa1, qcap1, rfl, hp, hb⟩; have HP1 := Lib.hid hp; have HB1 := Lib.hid hb; have HL1 := Lib.hid (HL.out.below hb); clear hp hb)
    | (go_at_call 51; (with_reducible refine (clone_bytes _ _ _ _ z HL1.out.dlen HL1.out.data).mono ?_); rintro e w2 ⟨da1, dcap1, rfl, hd, hb⟩; have HD2 := Lib.hid hd; have HP2 := Lib.hid (HP1.out.below hb); have HB2 := Lib.hid (HB1.out.trans (hb.mono HB1.out.size)); clear hd hb HP1 HB1 HL1)
    | (go_at_call 52; (with_reducible refine (cbpf_operations _).mono ?_); rintro e w3 ⟨rfl, hm, hb⟩; have HM3 := Lib.hid hm; have HD3 := Lib.hid (HD2.out.below hb); have HP3 := Lib.hid (HP2.out.below hb); have HB3 := Lib.hid (HB2.out.trans (hb.mono HB2.out.size)); clear hm hb HP2 HD2 HB2))
  go_ret
  have hbx := box_below w3 (.cells #[.slice qa1 n qcap1, .slice da1 dlen dcap1, .map (some w2.heap.size), .int .u32 0, .int .u32 0, .int .u32 0, .int .u32 0, .int .u32 0, .int .u32 0, .int .u32 0, .int .u32 0, .int .u32 0, .int .u32 0, .int .u32 0, .int .u32 0, .int .u32 0, .int .u32 0, .int .u32 0, .int .u32 0, .int .u32 0, .int .u32 0, .int .i64 0, .int .i64 0, .bool false, .int .u32 0, .int .i64 0] 100)
  have hml := HM3.out.lt
  refine ⟨w3.heap.size, qa1, qcap1, da1, dcap1, w2.heap.size, rfl, ⟨pmach_new w3 qa1 da1 n qcap1 dlen dcap1 w2.heap.size, HP3.out.below hbx, fun h64 => ?_, fun ad hn e => ?_, fun ad h64 e => ?_, by have := HL.out.len; omega, HL.out.ok, by decide, HM3.out.below hbx hml, Nat.ne_of_lt hml⟩, HB3.out.trans (hbx.mono HB3.out.size), HB3.out.size⟩
  · obtain ⟨db, doff, e, hl, hc⟩ := (HD3.out.below hbx) (by omega)
    exact ⟨db, doff, e, hl, HL.out.bytes, fun i hi => hc i (by omega)⟩
  · obtain ⟨qb, qo, e', hl, _⟩ := HP3.out hn
    rw [e] at e'; injection e' with e'; subst e'; exact Nat.ne_of_lt hl
  · obtain ⟨db, doff, e', hl, _⟩ := HD3.out (by omega)
    rw [e] at e'; injection e' with e'; subst e'; exact Nat.ne_of_lt hl

theorem cbpf_Answer (w : World) (b : Nat) (qv dv mv : Value) (s : Mach) (h : PMAt w b qv dv mv s) :
    Calls Tryz.prog 24 #[.pointer (some ⟨b, 0, none⟩)] w fun e w' => e = .returned (ansV s) ∧ ∃ m, w' = w.drewN m := by
  have c21 : w.cell? ⟨b, 21, none⟩ = some (.int .i64 (s.place : Int)) := World.rowIs.cell h (i := 21) (by decide)
  have c22 : w.cell? ⟨b, 22, none⟩ = some (.int .i64 (s.steps : Int)) := World.rowIs.cell h (i := 22) (by decide)
  have c24 : w.cell? ⟨b, 24, none⟩ = some (.int .u32 (s.ans.toNat : Int)) := World.rowIs.cell h (i := 24) (by decide)
  have c25 : w.cell? ⟨b, 25, none⟩ = some (.int .i64 s.err) := World.rowIs.cell h (i := 25) (by decide)
  clear h
  by_cases he : s.err = 0
  · have ha : ansA s = (s.ans.toNat : Int) := if_pos he
    have hp : ansP s = 0 := if_pos he
    rw [ansV, ha, hp, he]; clear ha hp
    go_enter Tryz.func24, Tryz.ntmps24
    go_wp2
    go_quiet (fail)
    go_wp2
    (try simp only [Exit.inBlock, Exit.then])
    refine bodyPost_ret (results_tmp4 rfl _ _ _) rfl ?_
    exact ⟨rfl, _, rfl⟩
  · have ha : ansA s = 0 := if_neg he
    have hp : ansP s = (s.place : Int) := if_neg he
    rw [ansV, ha, hp]; clear ha hp
    go_enter Tryz.func24, Tryz.ntmps24
    go_wp2
    go_quiet (fail)
    go_wp2
    (try simp only [Exit.inBlock, Exit.then])
    refine bodyPost_ret (results_tmp4 rfl _ _ _) rfl ?_
    exact ⟨rfl, _, rfl⟩

/-- How far a machine of the program is from its end. -/
def leftP (n b : Nat) (w : World) : Nat :=
  match w.cell? ⟨b, 23, none⟩ with
  | some (.bool true) => 0
  | _ => match w.cell? ⟨b, 21, none⟩ with
    | some (.int _ p) => n + 1 - p.toNat + 1
    | _ => 0
theorem leftP_on {n b : Nat} {w : World} {qv dv mv : Value} {s : Mach} (h : PMAt w b qv dv mv s) (hd : s.done = false) : leftP n b w = n + 1 - s.place + 1 := by
  have h1 : w.cell? ⟨b, 21, none⟩ = some (.int .i64 (s.place : Int)) := World.rowIs.cell h (i := 21) (by decide)
  have h2 : w.cell? ⟨b, 23, none⟩ = some (.bool false) := by have := World.rowIs.cell h (i := 23) (by decide); rw [this]; exact congrArg (fun x => some (Value.bool x)) hd
  simp [leftP, h1, h2]
def RunP (w : World) (s : Mach) (e : Ending) (w' : World) : Prop := e = .returned (ansV s) ∧ Below w.heap.size w w'
theorem cbpf_Run (w : World) (qa : Option Addr) (n qcap : Nat) (q : Nat → Ins) (da : Option Addr) (dlen dcap : Nat) (z : Nat → Int) (h : PLies w qa n q da dlen z) :
    Calls Tryz.prog 10 #[.slice qa n qcap, .slice da dlen dcap] w (RunP w (runM q n dlen (wordZ z))) := by
  have HL := Lib.hid h
  clear h
  go_enter Tryz.func10, Tryz.ntmps10
  go_wp2_with (go_at_call 22; (with_reducible refine (cbpf_New _ _ _ _ _ _ _ _ _ HL.out).mono ?_); rintro e w1 ⟨b, qa1, qcap1, da1, dcap1, mb, rfl, hr, hb, hge⟩; have HR := Lib.hid hr; have HB := Lib.hid hb; clear hr hb)
  go_loopw [14] (fun t wr => ∃ k : Nat, (iterS q n dlen (wordZ z) k).done = false ∧ PReady wr b qa1 n qcap1 q da1 dlen dcap1 z mb (iterS q n dlen (wordZ z) k) ∧ Below w.heap.size w wr) (fun t wr => leftP n b wr)
  case atStart => exact ⟨0, rfl, HR.out, HB.out⟩
  case round =>
    obtain ⟨k, hdk, hR, hB⟩ := hrel
    clear HR HB
    have hst := iter_steps q n dlen (wordZ z) (k + 1)
    have hgo := iter_going q n dlen (wordZ z) k hdk
    have hrun := iter_is_run q n dlen (wordZ z) (k := k + 1)
    have hnext := step_going q n dlen (wordZ z) (iterS q n dlen (wordZ z) k)
    have hlen := HL.out.len
    have hm0 : leftP n b wr = n + 1 - (iterS q n dlen (wordZ z) k).place + 1 := leftP_on hR.mach hdk
    have HS := Lib.hid (And.intro hst (And.intro hgo (And.intro hrun (And.intro hnext hm0))))
    have HR := Lib.hid hR
    have HB := Lib.hid hB
    clear hst hgo hrun hnext hR hB hm0 hdk
    rcases hd2 : ((iterS q n dlen (wordZ z) k).step q n dlen (wordZ z)).done with _ | _
    · have HD := Lib.hid hd2
      have HV := Lib.hid (hd2 ▸ p_Step wr b qa1 n qcap1 q da1 dlen dcap1 z mb _ HR.out)
      clear hd2
      go_wp2_with (go_at_call 23; (with_reducible refine HV.out.mono ?_); rintro e w2 ⟨rfl, hm2, hg2⟩; have HM := Lib.hid (And.intro hm2 hg2); clear hm2 hg2)
      go_roundw
      case rel => exact ⟨k + 1, HD.out, HR.out.after HM.out.1 HM.out.2 (by have := HS.out.1; have := HS.out.2.1.2.1; show (iterS q n dlen (wordZ z) (k + 1)).steps < _; omega), below_grown HB.out HM.out.2 hge (Nat.le_refl _)⟩
      case measure =>
        rw [HS.out.2.2.2.2, leftP_on HM.out.1 HD.out]
        have h3 := HS.out.2.2.2.1 HD.out
        have := h3.2.1
        have := h3.2.2.1
        omega
    · have HD := Lib.hid hd2
      have HV := Lib.hid (hd2 ▸ p_Step wr b qa1 n qcap1 q da1 dlen dcap1 z mb _ HR.out)
      clear hd2
      go_wp2_with (first
        | (go_at_call 23; (with_reducible refine HV.out.mono ?_); rintro e w2 ⟨rfl, hm2, hg2⟩; have HM := Lib.hid (And.intro hm2 hg2); clear hm2 hg2)
        | (go_at_call 24; (with_reducible refine (cbpf_Answer _ _ _ _ _ _ HM.out.1).mono ?_); rintro e w3 ⟨rfl, m, rfl⟩))
      (try simp only [Exit.inBlock, Exit.then])
      refine bodyPost_ret (results_tmp4 rfl _ _ _) rfl ?_
      have he := HS.out.2.2.1 HD.out (by have := HS.out.2.1.2.1; omega)
      rw [← he]
      exact ⟨rfl, below_drawn (below_grown HB.out HM.out.2 hge (Nat.le_refl _)) _⟩
end Go.Proofs.YtoajommeiocfpaaGreat
namespace Go.Proofs.YtoajommeiocfpaaGreat
open Go Go.RowKit
set_option linter.unusedSimpArgs false
set_option linter.unusedVariables false

end Go.Proofs.YtoajommeiocfpaaGreat

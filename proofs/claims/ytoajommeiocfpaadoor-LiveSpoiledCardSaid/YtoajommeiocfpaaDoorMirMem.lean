/-
  Programs of registers in memory, and what the document's Names, Two and Says answer: contracts. Conditions: those that each names.
-/
import Derived.Test.YtoajommeiocfpaaDoorMirPure
import Derived.Test.YtoajommeiocfpaaDoorCbpfMoves
import Derived.Test.YtoajommeiocfpaaDoorFrame
import Derived.Test.YtoajommeiocfpaaDoorChecked
import Derived.WalkSpells
import Derived.WalkLawsBesides
import Derived.OwnWalk
import Derived.Lib.Hide
namespace Go.Proofs.YtoajommeiocfpaaDoor
open Go Go.RowKit
set_option linter.unusedSimpArgs false
set_option linter.unusedVariables false

theorem lboxM (w : World) (o : Obj) : Below w.heap.size w (w.alloc o) := (Below.refl _ _).alloc (Nat.le_refl _) o
theorem onM {w0 w w1 : World} (h : Below w0.heap.size w0 w) (hb : Below w.heap.size w w1) : Below w0.heap.size w0 w1 := h.trans (hb.mono h.size)
theorem keepM {w w1 : World} {b : Nat} {o : Obj} (h : w.heap[b]? = some o) (hb : Below w.heap.size w w1) : w1.heap[b]? = some o := (hb.block _ (Array.getElem?_eq_some_iff.1 h).1).trans h
theorem kept_allocM {W : World} {B : Nat} {o : Obj} (h : W.heap[B]? = some o) (o' : Obj) : (W.alloc o').heap[B]? = some o := keepM h (lboxM W o')
theorem cellM {W : World} {B : Nat} {c : Array Value} {t : TypeId} (h : W.heap[B]? = some (.cells c t (0, 0))) (i : Nat) {v : Value} (hv : c[i]? = some v) : W.cell? ⟨B, i, none⟩ = some v := by
  unfold World.cell?; rw [h]; exact hv
theorem results_tmp5 {fn : Func} {t u v x y : Tmp} (h : fn.results = #[.tmp t, .tmp u, .tmp v, .tmp x, .tmp y]) (tmps : Array Value) (P : Program) (w : World) :
    (results fn tmps).run P w = .ok (.tuple #[tmps.getD t undef, tmps.getD u undef, tmps.getD v undef, tmps.getD x undef, tmps.getD y undef]) w := by
  simp [results, h]
theorem results_tmp4M {fn : Func} {t u v x : Tmp} (h : fn.results = #[.tmp t, .tmp u, .tmp v, .tmp x]) (tmps : Array Value) (P : Program) (w : World) :
    (results fn tmps).run P w = .ok (.tuple #[tmps.getD t undef, tmps.getD u undef, tmps.getD v undef, tmps.getD x undef]) w := by
  simp [results, h]
abbrev irL (x : Irx) : List Value := [.int .i64 x.op, .int .i64 x.d, .int .i64 x.a, .int .i64 x.b, .int .u32 (x.k.toNat : Int), .int .i64 x.t, .int .i64 x.f]
abbrev irV (x : Irx) : Value := .agg #[.int .i64 x.op, .int .i64 x.d, .int .i64 x.a, .int .i64 x.b, .int .u32 (x.k.toNat : Int), .int .i64 x.t, .int .i64 x.f]
abbrev irO (x : Irx) : Obj := .cells #[.int .i64 x.op, .int .i64 x.d, .int .i64 x.a, .int .i64 x.b, .int .u32 (x.k.toNat : Int), .int .i64 x.t, .int .i64 x.f] 59
abbrev mirV (regs : Int) (A : Option Addr) (n cap : Nat) : Value := .agg #[.int .i64 regs, .slice A n cap]
abbrev mirO (regs : Int) (A : Option Addr) (n cap : Nat) : Obj := .cells #[.int .i64 regs, .slice A n cap] 24
/-- Instructions in a slice. -/
def IrAt (W : World) (A : Option Addr) (n : Nat) (q : Nat → Irx) : Prop := n ≤ maxLen ∧ (0 < n → ∃ b o, A = some ⟨b, o, none⟩ ∧ b < W.heap.size ∧ ∀ i, i < n → ∀ j u, (irL (q i))[j]? = some u → W.cell? ⟨b, o + i * 7 + j, none⟩ = some u)
theorem IrAt.below {W W' : World} {A : Option Addr} {n : Nat} {q : Nat → Irx} (h : IrAt W A n q) (hb : Below W.heap.size W W') : IrAt W' A n q :=
  ⟨h.1, fun hn => by
    obtain ⟨b, o, rfl, hl, hc⟩ := h.2 hn
    exact ⟨b, o, rfl, Nat.lt_of_lt_of_le hl hb.size, fun i hi j u hj => (hb.cell (p := ⟨b, o + i * 7 + j, none⟩) hl).trans (hc i hi j u hj)⟩⟩
/-- .. also where one's own block is turned. -/
theorem IrAt.grown {W W' : World} {A : Option Addr} {n : Nat} {q : Nat → Irx} {row : Option Nat} (h : IrAt W A n q) (hg : W.grownBy W' row) (hne : 0 < n → ∀ ad, A = some ad → some ad.block ≠ row) : IrAt W' A n q :=
  ⟨h.1, fun hn => by
    obtain ⟨b, o, rfl, hl, hc⟩ := h.2 hn
    exact ⟨b, o, rfl, Nat.lt_of_lt_of_le hl hg.size, fun i hi j u hj => (World.cell?_of_block (a := ⟨b, o + i * 7 + j, none⟩) (hg.block b hl (hne hn _ rfl))).trans (hc i hi j u hj)⟩⟩
/-- An instruction's cells. -/
theorem ir_at {W : World} {A : Option Addr} {n : Nat} {q : Nat → Irx} (h : IrAt W A n q) {i : Nat} (hi : i < n) : ∃ b o, A = some ⟨b, o, none⟩ ∧ b < W.heap.size ∧
    W.cell? ⟨b, o + i * 7, none⟩ = some (.int .i64 (q i).op) ∧ W.cell? ⟨b, o + i * 7 + 1, none⟩ = some (.int .i64 (q i).d) ∧ W.cell? ⟨b, o + i * 7 + 2, none⟩ = some (.int .i64 (q i).a) ∧ W.cell? ⟨b, o + i * 7 + 3, none⟩ = some (.int .i64 (q i).b) ∧
    W.cell? ⟨b, o + i * 7 + 4, none⟩ = some (.int .u32 ((q i).k.toNat : Int)) ∧ W.cell? ⟨b, o + i * 7 + 5, none⟩ = some (.int .i64 (q i).t) ∧ W.cell? ⟨b, o + i * 7 + 6, none⟩ = some (.int .i64 (q i).f) := by
  obtain ⟨b, o, rfl, hl, hc⟩ := h.2 (by omega)
  exact ⟨b, o, rfl, hl, hc i hi 0 _ rfl, hc i hi 1 _ rfl, hc i hi 2 _ rfl, hc i hi 3 _ rfl, hc i hi 4 _ rfl, hc i hi 5 _ rfl, hc i hi 6 _ rfl⟩
theorem op_cases {op : Int} (h : 1 ≤ op ∧ op ≤ 19) : op = 1 ∨ op = 2 ∨ op = 3 ∨ op = 4 ∨ op = 5 ∨ op = 6 ∨ op = 7 ∨ op = 8 ∨ op = 9 ∨ op = 10 ∨ op = 11 ∨ op = 12 ∨ op = 13 ∨ op = 14 ∨ op = 15 ∨ op = 16 ∨ op = 17 ∨ op = 18 ∨ op = 19 := by omega
/-- An operation's kind: what it names. -/
theorem op_kinds {op : Int} (h : 1 ≤ op ∧ op ≤ 19) : (op = 1 ∨ op = 3) ∨ (op = 2 ∨ op = 13) ∨ (4 ≤ op ∧ op ≤ 12) ∨ op = 14 ∨ (15 ≤ op ∧ op ≤ 18) ∨ op = 19 := by omega

theorem r_Names (op : Int) (w : World) : Calls Tryd.prog 30 #[.int .i64 op] w fun e w' => e = .returned (.tuple #[.bool (dM op), .bool (aM op), .bool (bM op), .bool (tM op), .bool (fM op)]) ∧ w = w' := by
  by_cases h : 1 ≤ op ∧ op ≤ 19
  · rcases op_cases h with rfl | rfl | rfl | rfl | rfl | rfl | rfl | rfl | rfl | rfl | rfl | rfl | rfl | rfl | rfl | rfl | rfl | rfl | rfl
    all_goals
      clear h
      go_enter Tryd.func30, Tryd.ntmps30
      go_wp2
      (try simp only [Exit.inBlock, Exit.then])
      refine bodyPost_ret (results_tmp5 rfl _ _ _) rfl ?_
      exact ⟨rfl, rfl⟩
  · have g1 : dM op = false := by simp [dM]; omega
    have g2 : aM op = false := by simp [aM]; omega
    have g3 : bM op = false := by simp [bM]; omega
    have g4 : tM op = false := by simp [tM]; omega
    have g5 : fM op = false := by simp [fM]; omega
    have f1 : ¬ op = 1 := by omega
    have f2 : ¬ op = 2 := by omega
    have f3 : ¬ op = 3 := by omega
    have f13 : ¬ op = 13 := by omega
    have f14 : ¬ op = 14 := by omega
    have f19 : ¬ op = 19 := by omega
    have b1 : (op == 1) = false := beq_false_of_ne f1
    have b2 : (op == 2) = false := beq_false_of_ne f2
    have b3 : (op == 3) = false := beq_false_of_ne f3
    have b13 : (op == 13) = false := beq_false_of_ne f13
    have b14 : (op == 14) = false := beq_false_of_ne f14
    have b19 : (op == 19) = false := beq_false_of_ne f19
    rw [g1, g2, g3, g4, g5]
    by_cases h1 : op < 1
    · have k4 : ¬ 4 ≤ op := by omega
      have k15 : ¬ 15 ≤ op := by omega
      clear h g1 g2 g3 g4 g5 f1 f2 f3 f13 f14 f19
      go_enter Tryd.func30, Tryd.ntmps30
      go_wp2
      (try simp only [Exit.inBlock, Exit.then])
      refine bodyPost_ret (results_tmp5 rfl _ _ _) rfl ?_
      exact ⟨rfl, rfl⟩
    · have k4 : 4 ≤ op := by omega
      have k12 : ¬ op ≤ 12 := by omega
      have k15 : 15 ≤ op := by omega
      have k18 : ¬ op ≤ 18 := by omega
      clear h g1 g2 g3 g4 g5 f1 f2 f3 f13 f14 f19
      go_enter Tryd.func30, Tryd.ntmps30
      go_wp2
      (try simp only [Exit.inBlock, Exit.then])
      refine bodyPost_ret (results_tmp5 rfl _ _ _) rfl ?_
      exact ⟨rfl, rfl⟩
theorem ret_iM {k : IntKind} {a b : Int} (h : a = b) : Ending.returned (.int k a) = .returned (.int k b) := by rw [h]
theorem ret_bM {a b : Bool} (h : a = b) : Ending.returned (.bool a) = .returned (.bool b) := by rw [h]
theorem r_TwoM (x : Irx) (word : Nat → BitVec 32) (a b : BitVec 32) (h : 4 ≤ x.op ∧ x.op ≤ 12) (hb : x.op = 7 → b ≠ 0#32) (w : World) : Calls Tryd.prog 32 #[.int .i64 x.op, .int .u32 (a.toNat : Int), .int .u32 (b.toNat : Int)] w fun e w' => e = .returned (.int .u32 ((valM word x a b).toNat : Int)) ∧ w = w' := by
  obtain ⟨op, d, xa, xb, k, t, f⟩ := x
  simp only at h hb ⊢
  rcases (show op = 4 ∨ op = 5 ∨ op = 6 ∨ op = 7 ∨ op = 8 ∨ op = 9 ∨ op = 10 ∨ op = 11 ∨ op = 12 by omega) with rfl | rfl | rfl | rfl | rfl | rfl | rfl | rfl | rfl
  · have e1 := add32 a b
    clear hb h
    go_enter Tryd.func32, Tryd.ntmps32
    go_wp2
    go_ret
    exact ⟨rfl, rfl⟩
  · have e1 := sub32 a b
    clear hb h
    go_enter Tryd.func32, Tryd.ntmps32
    go_wp2
    go_ret
    exact ⟨rfl, rfl⟩
  · have e1 := mul32 a b
    clear hb h
    go_enter Tryd.func32, Tryd.ntmps32
    go_wp2
    go_ret
    exact ⟨rfl, rfl⟩
  · have hz : ¬ (b.toNat : Int) = 0 := fun h => hb rfl (BitVec.eq_of_toNat_eq (by simpa using h))
    clear hb h
    go_enter Tryd.func32, Tryd.ntmps32
    go_wp2
    go_ret
    exact ⟨ret_iM (by rw [div32, Int.emod_eq_of_lt (by omega) (by have := (a / b).isLt; omega)]; rfl), rfl⟩
  · have e1 := and32 a b
    clear hb h
    go_enter Tryd.func32, Tryd.ntmps32
    go_wp2
    go_ret
    exact ⟨rfl, rfl⟩
  · have e1 := or32 a b
    clear hb h
    go_enter Tryd.func32, Tryd.ntmps32
    go_wp2
    go_ret
    exact ⟨rfl, rfl⟩
  · have e1 := xor32 a b
    clear hb h
    go_enter Tryd.func32, Tryd.ntmps32
    go_wp2
    go_ret
    exact ⟨rfl, rfl⟩
  · have e1 := low5 b
    clear hb h
    go_enter Tryd.func32, Tryd.ntmps32
    go_wp2
    go_ret
    exact ⟨ret_iM (by have h := shl32 a (b.toNat % 32); rwa [IntKind.wrap_u32] at h), rfl⟩
  · have e1 := low5 b
    clear hb h
    go_enter Tryd.func32, Tryd.ntmps32
    go_wp2
    go_ret
    exact ⟨ret_iM (shr32 a (b.toNat % 32)), rfl⟩
theorem r_SaysM (op : Int) (a b : BitVec 32) (h : 15 ≤ op ∧ op ≤ 18) (w : World) : Calls Tryd.prog 33 #[.int .i64 op, .int .u32 (a.toNat : Int), .int .u32 (b.toNat : Int)] w fun e w' => e = .returned (.bool (saysM op a b)) ∧ w = w' := by
  rcases (show op = 15 ∨ op = 16 ∨ op = 17 ∨ op = 18 by omega) with rfl | rfl | rfl | rfl
  · clear h
    go_enter Tryd.func33, Tryd.ntmps33
    go_wp2
    go_ret
    exact ⟨ret_bM (eq32 a b), rfl⟩
  · clear h
    go_enter Tryd.func33, Tryd.ntmps33
    go_wp2
    go_ret
    exact ⟨ret_bM (by show _ = decide (b.toNat < a.toNat); simp), rfl⟩
  · clear h
    go_enter Tryd.func33, Tryd.ntmps33
    go_wp2
    go_ret
    exact ⟨ret_bM (by show _ = decide (b.toNat ≤ a.toNat); simp), rfl⟩
  · have e := and32 a b
    clear h
    go_enter Tryd.func33, Tryd.ntmps33
    go_wp2
    go_ret
    exact ⟨ret_bM (by show _ = (a &&& b != 0#32); rw [bne, bne, ← eq32 (a &&& b) 0#32]; rfl), rfl⟩
end Go.Proofs.YtoajommeiocfpaaDoor

/-
  The program's machine of classic BPF in memory: its 26 cells, and what a store into each leaves. Conditions: those that each names.
-/
import Derived.Test.YtoajommeiocfpaaGreatCbpfStep
namespace Go.Proofs.YtoajommeiocfpaaGreat
open Go Go.RowKit
set_option linter.unusedSimpArgs false
set_option linter.unusedVariables false

/-- The 26 values of a machine. -/
def progV (qv dv mv : Value) (s : Mach) : Nat → Value
  | 0 => qv
  | 1 => dv
  | 2 => mv
  | 3 => .int .u32 (s.a.toNat : Int)
  | 4 => .int .u32 (s.x.toNat : Int)
  | 5 => .int .u32 ((s.m 0).toNat : Int)
  | 6 => .int .u32 ((s.m 1).toNat : Int)
  | 7 => .int .u32 ((s.m 2).toNat : Int)
  | 8 => .int .u32 ((s.m 3).toNat : Int)
  | 9 => .int .u32 ((s.m 4).toNat : Int)
  | 10 => .int .u32 ((s.m 5).toNat : Int)
  | 11 => .int .u32 ((s.m 6).toNat : Int)
  | 12 => .int .u32 ((s.m 7).toNat : Int)
  | 13 => .int .u32 ((s.m 8).toNat : Int)
  | 14 => .int .u32 ((s.m 9).toNat : Int)
  | 15 => .int .u32 ((s.m 10).toNat : Int)
  | 16 => .int .u32 ((s.m 11).toNat : Int)
  | 17 => .int .u32 ((s.m 12).toNat : Int)
  | 18 => .int .u32 ((s.m 13).toNat : Int)
  | 19 => .int .u32 ((s.m 14).toNat : Int)
  | 20 => .int .u32 ((s.m 15).toNat : Int)
  | 21 => .int .i64 (s.place : Int)
  | 22 => .int .i64 (s.steps : Int)
  | 23 => .bool s.done
  | 24 => .int .u32 (s.ans.toNat : Int)
  | _ => .int .i64 s.err
/-- It lies in block b. -/
def PMAt (w : World) (b : Nat) (qv dv mv : Value) (s : Mach) : Prop := w.rowIs b 100 26 (progV qv dv mv s)
theorem PMAt.below {w w' : World} {B b : Nat} {qv dv mv : Value} {s : Mach} (h : PMAt w b qv dv mv s) (hb : Below B w w') (hlt : b < B) : PMAt w' b qv dv mv s := rowIs_below h hb hlt
theorem PMAt.drawn {w : World} {b : Nat} {qv dv mv : Value} {s : Mach} (h : PMAt w b qv dv mv s) (n : Nat) : PMAt (w.drewN n) b qv dv mv s := h
theorem PMAt.drew {w : World} {b : Nat} {qv dv mv : Value} {s : Mach} (h : PMAt w b qv dv mv s) : PMAt w.drew b qv dv mv s := h
theorem PMAt.alloc {w : World} {b : Nat} {qv dv mv : Value} {s : Mach} (h : PMAt w b qv dv mv s) (o : Obj) : PMAt (w.alloc o) b qv dv mv s := World.rowIs.alloc h o
theorem PMAt.grown {w w' : World} {b g : Nat} {qv dv mv : Value} {s : Mach} (h : PMAt w b qv dv mv s) (hg : w.grownBy w' (some g)) (hne : b ≠ g) : PMAt w' b qv dv mv s := rowIs_grown h hg (fun e => hne (by injection e))
theorem progV_m (qv dv mv : Value) (s : Mach) : ∀ j, j < 16 → progV qv dv mv s (5 + j) = .int .u32 ((s.m j).toNat : Int) := by
  iterate 16 (refine lt_more ?_ rfl)
  exact lt_zero
theorem PMAt.set_a {w : World} {b : Nat} {qv dv mv : Value} {s : Mach} (h : PMAt w b qv dv mv s) (v : BitVec 32) : PMAt (w.setCell ⟨b, 3, none⟩ (.int .u32 (v.toNat : Int))) b qv dv mv { s with a := v } :=
  (World.rowIs.set h 3 _).congr (by
    iterate 26 (refine lt_more ?_ rfl)
    exact lt_zero)
theorem PMAt.set_x {w : World} {b : Nat} {qv dv mv : Value} {s : Mach} (h : PMAt w b qv dv mv s) (v : BitVec 32) : PMAt (w.setCell ⟨b, 4, none⟩ (.int .u32 (v.toNat : Int))) b qv dv mv { s with x := v } :=
  (World.rowIs.set h 4 _).congr (by
    iterate 26 (refine lt_more ?_ rfl)
    exact lt_zero)
theorem PMAt.set_place {w : World} {b : Nat} {qv dv mv : Value} {s : Mach} (h : PMAt w b qv dv mv s) (v : Nat) : PMAt (w.setCell ⟨b, 21, none⟩ (.int .i64 (v : Int))) b qv dv mv { s with place := v } :=
  (World.rowIs.set h 21 _).congr (by
    iterate 26 (refine lt_more ?_ rfl)
    exact lt_zero)
theorem PMAt.set_steps {w : World} {b : Nat} {qv dv mv : Value} {s : Mach} (h : PMAt w b qv dv mv s) (v : Nat) : PMAt (w.setCell ⟨b, 22, none⟩ (.int .i64 (v : Int))) b qv dv mv { s with steps := v } :=
  (World.rowIs.set h 22 _).congr (by
    iterate 26 (refine lt_more ?_ rfl)
    exact lt_zero)
theorem PMAt.set_done {w : World} {b : Nat} {qv dv mv : Value} {s : Mach} (h : PMAt w b qv dv mv s) (v : Bool) : PMAt (w.setCell ⟨b, 23, none⟩ (.bool v)) b qv dv mv { s with done := v } :=
  (World.rowIs.set h 23 _).congr (by
    iterate 26 (refine lt_more ?_ rfl)
    exact lt_zero)
theorem PMAt.set_ans {w : World} {b : Nat} {qv dv mv : Value} {s : Mach} (h : PMAt w b qv dv mv s) (v : BitVec 32) : PMAt (w.setCell ⟨b, 24, none⟩ (.int .u32 (v.toNat : Int))) b qv dv mv { s with ans := v } :=
  (World.rowIs.set h 24 _).congr (by
    iterate 26 (refine lt_more ?_ rfl)
    exact lt_zero)
theorem PMAt.set_err {w : World} {b : Nat} {qv dv mv : Value} {s : Mach} (h : PMAt w b qv dv mv s) (v : Int) : PMAt (w.setCell ⟨b, 25, none⟩ (.int .i64 v)) b qv dv mv { s with err := v } :=
  (World.rowIs.set h 25 _).congr (by
    iterate 26 (refine lt_more ?_ rfl)
    exact lt_zero)
theorem PMAt.set_m {w : World} {b : Nat} {qv dv mv : Value} {s : Mach} (h : PMAt w b qv dv mv s) (j : Nat) (hj : j < 16) (v : BitVec 32) : PMAt (w.setCell ⟨b, 5 + j, none⟩ (.int .u32 (v.toNat : Int))) b qv dv mv { s with m := fun i => if i = j then v else s.m i } :=
  (World.rowIs.set h (5 + j) _).congr fun i hi => by
    show (if i = 5 + j then _ else _) = _
    by_cases e : i = 5 + j
    · subst e; rw [if_pos rfl, progV_m _ _ _ _ _ hj]; show _ = Value.int .u32 (((if j = j then v else s.m j) : BitVec 32).toNat : Int); rw [if_pos rfl]
    · rw [if_neg e]
      by_cases g : 5 ≤ i ∧ i < 21
      · obtain ⟨k, rfl⟩ : ∃ k, i = 5 + k := ⟨i - 5, by omega⟩
        rw [progV_m _ _ _ _ _ (by omega), progV_m _ _ _ _ _ (by omega)]
        show _ = Value.int .u32 (((if k = j then v else s.m k) : BitVec 32).toNat : Int)
        rw [if_neg (by omega)]
      · obtain h' : i = 0 ∨ i = 1 ∨ i = 2 ∨ i = 3 ∨ i = 4 ∨ i = 21 ∨ i = 22 ∨ i = 23 ∨ i = 24 ∨ i = 25 := by omega
        rcases h' with rfl | rfl | rfl | rfl | rfl | rfl | rfl | rfl | rfl | rfl <;> rfl
theorem pmach_new (w : World) (qa da : Option Addr) (n qcap dlen dcap mb : Nat) : PMAt (w.alloc (.cells #[.slice qa n qcap, .slice da dlen dcap, .map (some mb), .int .u32 0, .int .u32 0, .int .u32 0, .int .u32 0, .int .u32 0, .int .u32 0, .int .u32 0, .int .u32 0, .int .u32 0, .int .u32 0, .int .u32 0, .int .u32 0, .int .u32 0, .int .u32 0, .int .u32 0, .int .u32 0, .int .u32 0, .int .u32 0, .int .i64 0, .int .i64 0, .bool false, .int .u32 0, .int .i64 0] 100)) w.heap.size (.slice qa n qcap) (.slice da dlen dcap) (.map (some mb)) Mach.start :=
  World.rowIs_alloc w #[.slice qa n qcap, .slice da dlen dcap, .map (some mb), .int .u32 0, .int .u32 0, .int .u32 0, .int .u32 0, .int .u32 0, .int .u32 0, .int .u32 0, .int .u32 0, .int .u32 0, .int .u32 0, .int .u32 0, .int .u32 0, .int .u32 0, .int .u32 0, .int .u32 0, .int .u32 0, .int .u32 0, .int .u32 0, .int .i64 0, .int .i64 0, .bool false, .int .u32 0, .int .i64 0] 100 _ (by
    iterate 26 (refine lt_more ?_ rfl)
    exact lt_zero)
/-- The block that a parameter of an instruction is laid in. -/
abbrev insO (c : Int) (jt jf : Nat) (k : BitVec 32) : Obj := .cells #[.int .u16 c, .int .u8 (jt : Int), .int .u8 (jf : Int), .int .u32 (k.toNat : Int)] 60
/-- What an operation that changes its machine leaves. -/
def OpP (w : World) (b : Nat) (qv dv mv : Value) (s : Mach) (e : Ending) (w' : World) : Prop := e = .returned (.tuple #[]) ∧ PMAt w' b qv dv mv s ∧ w.grownBy w' (some b)

section
variable (w : World) (b : Nat) (qv dv mv : Value) (s : Mach) (c : Int) (jt jf : Nat) (k : BitVec 32)
theorem p_operand_k (hx : bits .and .u16 c 8 = 0) : Calls Tryz.prog 120 #[.pointer (some ⟨b, 0, none⟩), .agg #[.int .u16 c, .int .u8 (jt : Int), .int .u8 (jf : Int), .int .u32 (k.toNat : Int)]] w fun e w' => e = .returned (.int .u32 (k.toNat : Int)) ∧ w' = w.alloc (insO c jt jf k) := by
  go_enter Tryz.func120, Tryz.ntmps120
  go_wp2
  go_ret
  exact ⟨rfl, rfl⟩
theorem p_operand_x (h : PMAt w b qv dv mv s) (hx : bits .and .u16 c 8 = 8) : Calls Tryz.prog 120 #[.pointer (some ⟨b, 0, none⟩), .agg #[.int .u16 c, .int .u8 (jt : Int), .int .u8 (jf : Int), .int .u32 (k.toNat : Int)]] w fun e w' => e = .returned (.int .u32 (s.x.toNat : Int)) ∧ w' = w.alloc (insO c jt jf k) := by
  have c4 : w.cell? ⟨b, 4, none⟩ = some (.int .u32 (s.x.toNat : Int)) := World.rowIs.cell h (i := 4) (by decide)
  have hlt := World.rowIs.lt h
  clear h
  go_enter Tryz.func120, Tryz.ntmps120
  go_wp2
  go_ret
  exact ⟨rfl, rfl⟩
theorem p_end (h : PMAt w b qv dv mv s) : Calls Tryz.prog 121 #[.pointer (some ⟨b, 0, none⟩), .int .u32 (k.toNat : Int)] w (OpP w b qv dv mv { s with done := true, ans := k }) := by
  have z23 := World.rowIs.frozen h 23
  have z24 := World.rowIs.frozen h 24
  have c23 : w.cell? ⟨b, 23, none⟩ = some (.bool s.done) := World.rowIs.cell h (i := 23) (by decide)
  have c24 : w.cell? ⟨b, 24, none⟩ = some (.int .u32 (s.ans.toNat : Int)) := World.rowIs.cell h (i := 24) (by decide)
  have H := Lib.hid h
  clear h
  go_enter Tryz.func121, Tryz.ntmps121
  go_wp2
  go_end0
  exact ⟨rfl, (H.out.set_done true).set_ans k, grown_cell (grown_cell (World.grownBy.refl w _) 23 _) 24 _⟩
end
end Go.Proofs.YtoajommeiocfpaaGreat

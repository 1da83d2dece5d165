/-
  The document's machine of classic BPF in memory: its 25 cells, what a store into each leaves, and what its small methods do: contracts. Conditions: those that each names.
-/
import Derived.Test.YtoajommeiocfpaaGreatCbpfWrong
import Derived.Test.YtoajommeiocfpaaGreatMemory
import Derived.Test.YtoajommeiocfpaaGreatRegion
namespace Go.Proofs.YtoajommeiocfpaaGreat
open Go Go.RowKit
set_option linter.unusedSimpArgs false
set_option linter.unusedVariables false

theorem lt_zero {p : Nat → Prop} : ∀ i, i < 0 → p i := fun i hi => absurd hi (Nat.not_lt_zero i)
theorem lt_more {n : Nat} {p : Nat → Prop} (h : ∀ i, i < n → p i) (hn : p n) : ∀ i, i < n + 1 → p i := fun i hi => by
  rcases Nat.lt_or_ge i n with g | g
  · exact h i g
  · obtain rfl : i = n := by omega
    exact hn
/-- The 25 values of a machine. -/
def machV (qv dv : Value) (s : Mach) : Nat → Value
  | 0 => qv
  | 1 => dv
  | 2 => .int .u32 (s.a.toNat : Int)
  | 3 => .int .u32 (s.x.toNat : Int)
  | 4 => .int .u32 ((s.m 0).toNat : Int)
  | 5 => .int .u32 ((s.m 1).toNat : Int)
  | 6 => .int .u32 ((s.m 2).toNat : Int)
  | 7 => .int .u32 ((s.m 3).toNat : Int)
  | 8 => .int .u32 ((s.m 4).toNat : Int)
  | 9 => .int .u32 ((s.m 5).toNat : Int)
  | 10 => .int .u32 ((s.m 6).toNat : Int)
  | 11 => .int .u32 ((s.m 7).toNat : Int)
  | 12 => .int .u32 ((s.m 8).toNat : Int)
  | 13 => .int .u32 ((s.m 9).toNat : Int)
  | 14 => .int .u32 ((s.m 10).toNat : Int)
  | 15 => .int .u32 ((s.m 11).toNat : Int)
  | 16 => .int .u32 ((s.m 12).toNat : Int)
  | 17 => .int .u32 ((s.m 13).toNat : Int)
  | 18 => .int .u32 ((s.m 14).toNat : Int)
  | 19 => .int .u32 ((s.m 15).toNat : Int)
  | 20 => .int .i64 (s.place : Int)
  | 21 => .int .i64 (s.steps : Int)
  | 22 => .bool s.done
  | 23 => .int .u32 (s.ans.toNat : Int)
  | _ => .int .i64 s.err
/-- It lies in block b. -/
def MachAt (w : World) (b : Nat) (qv dv : Value) (s : Mach) : Prop := w.rowIs b 77 25 (machV qv dv s)
theorem MachAt.below {w w' : World} {B b : Nat} {qv dv : Value} {s : Mach} (h : MachAt w b qv dv s) (hb : Below B w w') (hlt : b < B) : MachAt w' b qv dv s := rowIs_below h hb hlt
theorem MachAt.drawn {w : World} {b : Nat} {qv dv : Value} {s : Mach} (h : MachAt w b qv dv s) (n : Nat) : MachAt (w.drewN n) b qv dv s := h
theorem MachAt.drew {w : World} {b : Nat} {qv dv : Value} {s : Mach} (h : MachAt w b qv dv s) : MachAt w.drew b qv dv s := h
theorem MachAt.alloc {w : World} {b : Nat} {qv dv : Value} {s : Mach} (h : MachAt w b qv dv s) (o : Obj) : MachAt (w.alloc o) b qv dv s := World.rowIs.alloc h o
theorem machV_m (qv dv : Value) (s : Mach) : ∀ j, j < 16 → machV qv dv s (4 + j) = .int .u32 ((s.m j).toNat : Int) := by
  iterate 16 (refine lt_more ?_ rfl)
  exact lt_zero
theorem MachAt.set_a {w : World} {b : Nat} {qv dv : Value} {s : Mach} (h : MachAt w b qv dv s) (v : BitVec 32) : MachAt (w.setCell ⟨b, 2, none⟩ (.int .u32 (v.toNat : Int))) b qv dv { s with a := v } :=
  (World.rowIs.set h 2 _).congr (by
    iterate 25 (refine lt_more ?_ rfl)
    exact lt_zero)
theorem MachAt.set_x {w : World} {b : Nat} {qv dv : Value} {s : Mach} (h : MachAt w b qv dv s) (v : BitVec 32) : MachAt (w.setCell ⟨b, 3, none⟩ (.int .u32 (v.toNat : Int))) b qv dv { s with x := v } :=
  (World.rowIs.set h 3 _).congr (by
    iterate 25 (refine lt_more ?_ rfl)
    exact lt_zero)
theorem MachAt.set_place {w : World} {b : Nat} {qv dv : Value} {s : Mach} (h : MachAt w b qv dv s) (v : Nat) : MachAt (w.setCell ⟨b, 20, none⟩ (.int .i64 (v : Int))) b qv dv { s with place := v } :=
  (World.rowIs.set h 20 _).congr (by
    iterate 25 (refine lt_more ?_ rfl)
    exact lt_zero)
theorem MachAt.set_steps {w : World} {b : Nat} {qv dv : Value} {s : Mach} (h : MachAt w b qv dv s) (v : Nat) : MachAt (w.setCell ⟨b, 21, none⟩ (.int .i64 (v : Int))) b qv dv { s with steps := v } :=
  (World.rowIs.set h 21 _).congr (by
    iterate 25 (refine lt_more ?_ rfl)
    exact lt_zero)
theorem MachAt.set_done {w : World} {b : Nat} {qv dv : Value} {s : Mach} (h : MachAt w b qv dv s) (v : Bool) : MachAt (w.setCell ⟨b, 22, none⟩ (.bool v)) b qv dv { s with done := v } :=
  (World.rowIs.set h 22 _).congr (by
    iterate 25 (refine lt_more ?_ rfl)
    exact lt_zero)
theorem MachAt.set_ans {w : World} {b : Nat} {qv dv : Value} {s : Mach} (h : MachAt w b qv dv s) (v : BitVec 32) : MachAt (w.setCell ⟨b, 23, none⟩ (.int .u32 (v.toNat : Int))) b qv dv { s with ans := v } :=
  (World.rowIs.set h 23 _).congr (by
    iterate 25 (refine lt_more ?_ rfl)
    exact lt_zero)
theorem MachAt.set_err {w : World} {b : Nat} {qv dv : Value} {s : Mach} (h : MachAt w b qv dv s) (v : Int) : MachAt (w.setCell ⟨b, 24, none⟩ (.int .i64 v)) b qv dv { s with err := v } :=
  (World.rowIs.set h 24 _).congr (by
    iterate 25 (refine lt_more ?_ rfl)
    exact lt_zero)
theorem MachAt.set_m {w : World} {b : Nat} {qv dv : Value} {s : Mach} (h : MachAt w b qv dv s) (j : Nat) (hj : j < 16) (v : BitVec 32) : MachAt (w.setCell ⟨b, 4 + j, none⟩ (.int .u32 (v.toNat : Int))) b qv dv { s with m := fun i => if i = j then v else s.m i } :=
  (World.rowIs.set h (4 + j) _).congr fun i hi => by
    show (if i = 4 + j then _ else _) = _
    by_cases e : i = 4 + j
    · subst e; rw [if_pos rfl, machV_m _ _ _ _ hj]; show _ = Value.int .u32 (((if j = j then v else s.m j) : BitVec 32).toNat : Int); rw [if_pos rfl]
    · rw [if_neg e]
      by_cases g : 4 ≤ i ∧ i < 20
      · obtain ⟨k, rfl⟩ : ∃ k, i = 4 + k := ⟨i - 4, by omega⟩
        rw [machV_m _ _ _ _ (by omega), machV_m _ _ _ _ (by omega)]
        show _ = Value.int .u32 (((if k = j then v else s.m k) : BitVec 32).toNat : Int)
        rw [if_neg (by omega)]
      · obtain h' : i = 0 ∨ i = 1 ∨ i = 2 ∨ i = 3 ∨ i = 20 ∨ i = 21 ∨ i = 22 ∨ i = 23 ∨ i = 24 := by omega
        rcases h' with rfl | rfl | rfl | rfl | rfl | rfl | rfl | rfl | rfl <;> rfl
theorem grown_cell {w w' : World} {b : Nat} (h : w.grownBy w' (some b)) (i : Nat) (u : Value) : w.grownBy (w'.setCell ⟨b, i, none⟩ u) (some b) := grown_set h i u

/-- What a method that changes its machine leaves. -/
def MethP (w : World) (b : Nat) (qv dv : Value) (r : Bool) (s : Mach) (e : Ending) (w' : World) : Prop := e = .returned (.bool r) ∧ MachAt w' b qv dv s ∧ w.grownBy w' (some b)

theorem ref_fails (w : World) (b : Nat) (qv dv : Value) (s : Mach) (er : Int) (h : MachAt w b qv dv s) :
    Calls Tryz.prog 33 #[.pointer (some ⟨b, 0, none⟩), .int .i64 er] w (MethP w b qv dv true (s.fails er)) := by
  have c22 := World.rowIs.cell h (i := 22) (by decide)
  have z22 := World.rowIs.frozen h 22
  have c24 := World.rowIs.cell h (i := 24) (by decide)
  have z24 := World.rowIs.frozen h 24
  have H := Lib.hid h
  clear h
  go_enter Tryz.func33, Tryz.ntmps33
  go_wp2
  go_ret
  exact ⟨rfl, (H.out.set_done true).set_err er, grown_cell (grown_cell (World.grownBy.refl w _) 22 _) 24 _⟩

theorem ref_ends (w : World) (b : Nat) (qv dv : Value) (s : Mach) (v : BitVec 32) (h : MachAt w b qv dv s) (hs : s.steps < 1000000000000000000) :
    Calls Tryz.prog 37 #[.pointer (some ⟨b, 0, none⟩), .int .u32 (v.toNat : Int)] w (MethP w b qv dv true (s.ends v)) := by
  have c22 := World.rowIs.cell h (i := 22) (by decide)
  have z22 := World.rowIs.frozen h 22
  have c23 := World.rowIs.cell h (i := 23) (by decide)
  have z23 := World.rowIs.frozen h 23
  have c21 : w.cell? ⟨b, 21, none⟩ = some (.int .i64 (s.steps : Int)) := World.rowIs.cell h (i := 21) (by decide)
  have z21 := World.rowIs.frozen h 21
  have H := Lib.hid h
  clear h
  go_enter Tryz.func37, Tryz.ntmps37
  go_wp2
  go_ret
  exact ⟨rfl, ((H.out.set_done true).set_ans v).set_steps (s.steps + 1), grown_cell (grown_cell (grown_cell (World.grownBy.refl w _) 22 _) 23 _) 21 _⟩
end Go.Proofs.YtoajommeiocfpaaGreat

/-
  What the document's 'moves' of classic BPF does to its machine: a contract for each of its twelve operations. Conditions: those that each names.
-/
import Derived.Test.YtoajommeiocfpaaGreatCbpfMach
import Derived.Test.YtoajommeiocfpaaGreatSecRefRead
import Derived.StillTailTactics
namespace Go.Proofs.YtoajommeiocfpaaGreat
open Go Go.RowKit
set_option linter.unusedSimpArgs false
set_option linter.unusedVariables false
set_option maxRecDepth 100000

/-- The words of 64 bytes. -/
def wordZ (z : Nat → Int) (p : Nat) : BitVec 32 := BitVec.ofNat 32 (w4 z p).toNat
theorem wordZ_nat {z : Nat → Int} (hz : ∀ i, 0 ≤ z i ∧ z i < 256) (p : Nat) : ((wordZ z p).toNat : Int) = w4 z p := by
  have := w4_bd hz p
  rw [wordZ, BitVec.toNat_ofNat]; omega

abbrev insV (i : Ins) : Value := .agg #[.int .u16 i.code, .int .u8 (i.jt : Int), .int .u8 (i.jf : Int), .int .u32 (i.k.toNat : Int)]
def MovesP (w : World) (b : Nat) (qv dv : Value) (s : Mach) (e : Ending) (w' : World) : Prop := e = .returned (.tuple #[]) ∧ MachAt w' b qv dv s ∧ w.grownBy w' (some b)

section
variable (w : World) (b : Nat) (qv dv : Value) (s : Mach) (jt jf : Nat) (k : BitVec 32)

theorem moves_128 (h : MachAt w b qv dv s) : Calls Tryz.prog 40 #[.pointer (some ⟨b, 0, none⟩), .agg #[.int .u16 128, .int .u8 (jt : Int), .int .u8 (jf : Int), .int .u32 (k.toNat : Int)]] w (MovesP w b qv dv { s with a := 64#32 }) := by
  have c2 : w.cell? ⟨b, 2, none⟩ = some (.int .u32 (s.a.toNat : Int)) := World.rowIs.cell h (i := 2) (by decide)
  have c3 : w.cell? ⟨b, 3, none⟩ = some (.int .u32 (s.x.toNat : Int)) := World.rowIs.cell h (i := 3) (by decide)
  have z2 := World.rowIs.frozen h 2
  have z3 := World.rowIs.frozen h 3
  have hlt := World.rowIs.lt h
  have H := Lib.hid h
  clear h
  go_enter Tryz.func40, Tryz.ntmps40
  go_wp2
  go_end0
  exact ⟨rfl, (H.out.set_a (64#32)).alloc _, grown_alloc (grown_cell (World.grownBy.refl w _) 2 _) _⟩
theorem moves_129 (h : MachAt w b qv dv s) : Calls Tryz.prog 40 #[.pointer (some ⟨b, 0, none⟩), .agg #[.int .u16 129, .int .u8 (jt : Int), .int .u8 (jf : Int), .int .u32 (k.toNat : Int)]] w (MovesP w b qv dv { s with x := 64#32 }) := by
  have c2 : w.cell? ⟨b, 2, none⟩ = some (.int .u32 (s.a.toNat : Int)) := World.rowIs.cell h (i := 2) (by decide)
  have c3 : w.cell? ⟨b, 3, none⟩ = some (.int .u32 (s.x.toNat : Int)) := World.rowIs.cell h (i := 3) (by decide)
  have z2 := World.rowIs.frozen h 2
  have z3 := World.rowIs.frozen h 3
  have hlt := World.rowIs.lt h
  have H := Lib.hid h
  clear h
  go_enter Tryz.func40, Tryz.ntmps40
  go_wp2
  go_end0
  exact ⟨rfl, (H.out.set_x (64#32)).alloc _, grown_alloc (grown_cell (World.grownBy.refl w _) 3 _) _⟩
theorem moves_0 (h : MachAt w b qv dv s) : Calls Tryz.prog 40 #[.pointer (some ⟨b, 0, none⟩), .agg #[.int .u16 0, .int .u8 (jt : Int), .int .u8 (jf : Int), .int .u32 (k.toNat : Int)]] w (MovesP w b qv dv { s with a := k }) := by
  have c2 : w.cell? ⟨b, 2, none⟩ = some (.int .u32 (s.a.toNat : Int)) := World.rowIs.cell h (i := 2) (by decide)
  have c3 : w.cell? ⟨b, 3, none⟩ = some (.int .u32 (s.x.toNat : Int)) := World.rowIs.cell h (i := 3) (by decide)
  have z2 := World.rowIs.frozen h 2
  have z3 := World.rowIs.frozen h 3
  have hlt := World.rowIs.lt h
  have H := Lib.hid h
  clear h
  go_enter Tryz.func40, Tryz.ntmps40
  go_wp2
  go_end0
  exact ⟨rfl, (H.out.set_a (k)).alloc _, grown_alloc (grown_cell (World.grownBy.refl w _) 2 _) _⟩
theorem moves_1 (h : MachAt w b qv dv s) : Calls Tryz.prog 40 #[.pointer (some ⟨b, 0, none⟩), .agg #[.int .u16 1, .int .u8 (jt : Int), .int .u8 (jf : Int), .int .u32 (k.toNat : Int)]] w (MovesP w b qv dv { s with x := k }) := by
  have c2 : w.cell? ⟨b, 2, none⟩ = some (.int .u32 (s.a.toNat : Int)) := World.rowIs.cell h (i := 2) (by decide)
  have c3 : w.cell? ⟨b, 3, none⟩ = some (.int .u32 (s.x.toNat : Int)) := World.rowIs.cell h (i := 3) (by decide)
  have z2 := World.rowIs.frozen h 2
  have z3 := World.rowIs.frozen h 3
  have hlt := World.rowIs.lt h
  have H := Lib.hid h
  clear h
  go_enter Tryz.func40, Tryz.ntmps40
  go_wp2
  go_end0
  exact ⟨rfl, (H.out.set_x (k)).alloc _, grown_alloc (grown_cell (World.grownBy.refl w _) 3 _) _⟩
theorem moves_132 (h : MachAt w b qv dv s) : Calls Tryz.prog 40 #[.pointer (some ⟨b, 0, none⟩), .agg #[.int .u16 132, .int .u8 (jt : Int), .int .u8 (jf : Int), .int .u32 (k.toNat : Int)]] w (MovesP w b qv dv { s with a := -s.a }) := by
  have c2 : w.cell? ⟨b, 2, none⟩ = some (.int .u32 (s.a.toNat : Int)) := World.rowIs.cell h (i := 2) (by decide)
  have c3 : w.cell? ⟨b, 3, none⟩ = some (.int .u32 (s.x.toNat : Int)) := World.rowIs.cell h (i := 3) (by decide)
  have z2 := World.rowIs.frozen h 2
  have z3 := World.rowIs.frozen h 3
  have hlt := World.rowIs.lt h
  have H := Lib.hid h
  clear h
  go_enter Tryz.func40, Tryz.ntmps40
  go_wp2
  go_end0
  have q := (H.out.set_a (-s.a)).alloc (.cells #[.int .u16 132, .int .u8 (jt : Int), .int .u8 (jf : Int), .int .u32 (k.toNat : Int)] 60)
  rw [← neg32, IntKind.wrap_u32] at q
  exact ⟨rfl, q, grown_alloc (grown_cell (World.grownBy.refl w _) 2 _) _⟩
theorem moves_7 (h : MachAt w b qv dv s) : Calls Tryz.prog 40 #[.pointer (some ⟨b, 0, none⟩), .agg #[.int .u16 7, .int .u8 (jt : Int), .int .u8 (jf : Int), .int .u32 (k.toNat : Int)]] w (MovesP w b qv dv { s with x := s.a }) := by
  have c2 : w.cell? ⟨b, 2, none⟩ = some (.int .u32 (s.a.toNat : Int)) := World.rowIs.cell h (i := 2) (by decide)
  have c3 : w.cell? ⟨b, 3, none⟩ = some (.int .u32 (s.x.toNat : Int)) := World.rowIs.cell h (i := 3) (by decide)
  have z2 := World.rowIs.frozen h 2
  have z3 := World.rowIs.frozen h 3
  have hlt := World.rowIs.lt h
  have H := Lib.hid h
  clear h
  go_enter Tryz.func40, Tryz.ntmps40
  go_wp2
  go_end0
  exact ⟨rfl, (H.out.set_x (s.a)).alloc _, grown_alloc (grown_cell (World.grownBy.refl w _) 3 _) _⟩
theorem moves_135 (h : MachAt w b qv dv s) : Calls Tryz.prog 40 #[.pointer (some ⟨b, 0, none⟩), .agg #[.int .u16 135, .int .u8 (jt : Int), .int .u8 (jf : Int), .int .u32 (k.toNat : Int)]] w (MovesP w b qv dv { s with a := s.x }) := by
  have c2 : w.cell? ⟨b, 2, none⟩ = some (.int .u32 (s.a.toNat : Int)) := World.rowIs.cell h (i := 2) (by decide)
  have c3 : w.cell? ⟨b, 3, none⟩ = some (.int .u32 (s.x.toNat : Int)) := World.rowIs.cell h (i := 3) (by decide)
  have z2 := World.rowIs.frozen h 2
  have z3 := World.rowIs.frozen h 3
  have hlt := World.rowIs.lt h
  have H := Lib.hid h
  clear h
  go_enter Tryz.func40, Tryz.ntmps40
  go_wp2
  go_end0
  exact ⟨rfl, (H.out.set_a (s.x)).alloc _, grown_alloc (grown_cell (World.grownBy.refl w _) 2 _) _⟩
theorem moves_96 (h : MachAt w b qv dv s) (hk : k.toNat < 16) : Calls Tryz.prog 40 #[.pointer (some ⟨b, 0, none⟩), .agg #[.int .u16 96, .int .u8 (jt : Int), .int .u8 (jf : Int), .int .u32 (k.toNat : Int)]] w (MovesP w b qv dv { s with a := s.m k.toNat }) := by
  have hlt := World.rowIs.lt h
  have HM1 := Lib.hid (h.alloc (.cells #[.int .u16 96, .int .u8 (jt : Int), .int .u8 (jf : Int), .int .u32 (k.toNat : Int)] 60))
  have d3 : (w.alloc (.cells #[.int .u16 96, .int .u8 (jt : Int), .int .u8 (jf : Int), .int .u32 (k.toNat : Int)] 60)).cell? ⟨w.heap.size, 3, none⟩ = some (.int .u32 (k.toNat : Int)) := by simp
  have G1 := Lib.hid (grown_alloc (World.grownBy.refl w (some b)) (.cells #[.int .u16 96, .int .u8 (jt : Int), .int .u8 (jf : Int), .int .u32 (k.toNat : Int)] 60))
  have hk' : (k.toNat : Int) < 16 := by omega
  clear h
  go_enter Tryz.func40, Tryz.ntmps40
  go_wp2
  generalize w.alloc (.cells #[.int .u16 96, .int .u8 (jt : Int), .int .u8 (jf : Int), .int .u32 (k.toNat : Int)] 60) = W1 at HM1 d3 G1 ⊢
  have u2 : W1.cell? ⟨b, 2, none⟩ = some (.int .u32 (s.a.toNat : Int)) := World.rowIs.cell HM1.out (i := 2) (by decide)
  have u4 : W1.cell? ⟨b, 4 + k.toNat, none⟩ = some (.int .u32 ((s.m k.toNat).toNat : Int)) := (World.rowIs.cell HM1.out (i := 4 + k.toNat) (by omega)).trans (congrArg some (machV_m qv dv s _ hk))
  have t1 : ({ W1 with drawn := W1.drawn + 1 } : World).cell? ⟨w.heap.size, 3, none⟩ = some (.int .u32 (k.toNat : Int)) := d3
  have t2 : ({ W1 with drawn := W1.drawn + 1 } : World).cell? ⟨b, 2, none⟩ = some (.int .u32 (s.a.toNat : Int)) := u2
  have t4 : ({ W1 with drawn := W1.drawn + 1 } : World).cell? ⟨b, 4 + k.toNat, none⟩ = some (.int .u32 ((s.m k.toNat).toNat : Int)) := u4
  go_still_tail 10, (by kernel_rfl)
  change wpList _ _ _ _ _ W1.drew
  clear t1 t2 t4 d3 u2 u4
  have HM2 := Lib.hid HM1.out.drew
  have G2 : Hid (w.grownBy W1.drew (some b)) := Lib.hid (grown_drawn G1.out 1)
  clear HM1 G1
  generalize W1.drew = W2 at HM2 G2 ⊢
  have c2 : W2.cell? ⟨b, 2, none⟩ = some (.int .u32 (s.a.toNat : Int)) := World.rowIs.cell HM2.out (i := 2) (by decide)
  have c4 : W2.cell? ⟨b, 4 + k.toNat, none⟩ = some (.int .u32 ((s.m k.toNat).toNat : Int)) := (World.rowIs.cell HM2.out (i := 4 + k.toNat) (by omega)).trans (congrArg some (machV_m qv dv s _ hk))
  have z2 := World.rowIs.frozen HM2.out 2
  have z4 := World.rowIs.frozen HM2.out (4 + k.toNat)
  go_wp2
  go_end0
  exact ⟨rfl, HM2.out.set_a _, grown_cell G2.out 2 _⟩
theorem moves_97 (h : MachAt w b qv dv s) (hk : k.toNat < 16) : Calls Tryz.prog 40 #[.pointer (some ⟨b, 0, none⟩), .agg #[.int .u16 97, .int .u8 (jt : Int), .int .u8 (jf : Int), .int .u32 (k.toNat : Int)]] w (MovesP w b qv dv { s with x := s.m k.toNat }) := by
  have hlt := World.rowIs.lt h
  have HM1 := Lib.hid (h.alloc (.cells #[.int .u16 97, .int .u8 (jt : Int), .int .u8 (jf : Int), .int .u32 (k.toNat : Int)] 60))
  have d3 : (w.alloc (.cells #[.int .u16 97, .int .u8 (jt : Int), .int .u8 (jf : Int), .int .u32 (k.toNat : Int)] 60)).cell? ⟨w.heap.size, 3, none⟩ = some (.int .u32 (k.toNat : Int)) := by simp
  have G1 := Lib.hid (grown_alloc (World.grownBy.refl w (some b)) (.cells #[.int .u16 97, .int .u8 (jt : Int), .int .u8 (jf : Int), .int .u32 (k.toNat : Int)] 60))
  have hk' : (k.toNat : Int) < 16 := by omega
  clear h
  go_enter Tryz.func40, Tryz.ntmps40
  go_wp2
  generalize w.alloc (.cells #[.int .u16 97, .int .u8 (jt : Int), .int .u8 (jf : Int), .int .u32 (k.toNat : Int)] 60) = W1 at HM1 d3 G1 ⊢
  have u2 : W1.cell? ⟨b, 3, none⟩ = some (.int .u32 (s.x.toNat : Int)) := World.rowIs.cell HM1.out (i := 3) (by decide)
  have u4 : W1.cell? ⟨b, 4 + k.toNat, none⟩ = some (.int .u32 ((s.m k.toNat).toNat : Int)) := (World.rowIs.cell HM1.out (i := 4 + k.toNat) (by omega)).trans (congrArg some (machV_m qv dv s _ hk))
  have t1 : ({ W1 with drawn := W1.drawn + 1 } : World).cell? ⟨w.heap.size, 3, none⟩ = some (.int .u32 (k.toNat : Int)) := d3
  have t2 : ({ W1 with drawn := W1.drawn + 1 } : World).cell? ⟨b, 3, none⟩ = some (.int .u32 (s.x.toNat : Int)) := u2
  have t4 : ({ W1 with drawn := W1.drawn + 1 } : World).cell? ⟨b, 4 + k.toNat, none⟩ = some (.int .u32 ((s.m k.toNat).toNat : Int)) := u4
  go_still_tail 10, (by kernel_rfl)
  change wpList _ _ _ _ _ W1.drew
  clear t1 t2 t4 d3 u2 u4
  have HM2 := Lib.hid HM1.out.drew
  have G2 : Hid (w.grownBy W1.drew (some b)) := Lib.hid (grown_drawn G1.out 1)
  clear HM1 G1
  generalize W1.drew = W2 at HM2 G2 ⊢
  have c2 : W2.cell? ⟨b, 3, none⟩ = some (.int .u32 (s.x.toNat : Int)) := World.rowIs.cell HM2.out (i := 3) (by decide)
  have c4 : W2.cell? ⟨b, 4 + k.toNat, none⟩ = some (.int .u32 ((s.m k.toNat).toNat : Int)) := (World.rowIs.cell HM2.out (i := 4 + k.toNat) (by omega)).trans (congrArg some (machV_m qv dv s _ hk))
  have z2 := World.rowIs.frozen HM2.out 3
  have z4 := World.rowIs.frozen HM2.out (4 + k.toNat)
  go_wp2
  go_end0
  exact ⟨rfl, HM2.out.set_x _, grown_cell G2.out 3 _⟩
theorem moves_2 (h : MachAt w b qv dv s) (hk : k.toNat < 16) : Calls Tryz.prog 40 #[.pointer (some ⟨b, 0, none⟩), .agg #[.int .u16 2, .int .u8 (jt : Int), .int .u8 (jf : Int), .int .u32 (k.toNat : Int)]] w (MovesP w b qv dv { s with m := fun j => if j = k.toNat then s.a else s.m j }) := by
  have hlt := World.rowIs.lt h
  have HM1 := Lib.hid (h.alloc (.cells #[.int .u16 2, .int .u8 (jt : Int), .int .u8 (jf : Int), .int .u32 (k.toNat : Int)] 60))
  have d3 : (w.alloc (.cells #[.int .u16 2, .int .u8 (jt : Int), .int .u8 (jf : Int), .int .u32 (k.toNat : Int)] 60)).cell? ⟨w.heap.size, 3, none⟩ = some (.int .u32 (k.toNat : Int)) := by simp
  have G1 := Lib.hid (grown_alloc (World.grownBy.refl w (some b)) (.cells #[.int .u16 2, .int .u8 (jt : Int), .int .u8 (jf : Int), .int .u32 (k.toNat : Int)] 60))
  have hk' : (k.toNat : Int) < 16 := by omega
  clear h
  go_enter Tryz.func40, Tryz.ntmps40
  go_wp2
  generalize w.alloc (.cells #[.int .u16 2, .int .u8 (jt : Int), .int .u8 (jf : Int), .int .u32 (k.toNat : Int)] 60) = W1 at HM1 d3 G1 ⊢
  have u2 : W1.cell? ⟨b, 2, none⟩ = some (.int .u32 (s.a.toNat : Int)) := World.rowIs.cell HM1.out (i := 2) (by decide)
  have u4 : W1.cell? ⟨b, 4 + k.toNat, none⟩ = some (.int .u32 ((s.m k.toNat).toNat : Int)) := (World.rowIs.cell HM1.out (i := 4 + k.toNat) (by omega)).trans (congrArg some (machV_m qv dv s _ hk))
  have t1 : ({ W1 with drawn := W1.drawn + 1 } : World).cell? ⟨w.heap.size, 3, none⟩ = some (.int .u32 (k.toNat : Int)) := d3
  have t2 : ({ W1 with drawn := W1.drawn + 1 } : World).cell? ⟨b, 2, none⟩ = some (.int .u32 (s.a.toNat : Int)) := u2
  have t4 : ({ W1 with drawn := W1.drawn + 1 } : World).cell? ⟨b, 4 + k.toNat, none⟩ = some (.int .u32 ((s.m k.toNat).toNat : Int)) := u4
  go_still_tail 10, (by kernel_rfl)
  change wpList _ _ _ _ _ W1.drew
  clear t1 t2 t4 d3 u2 u4
  have HM2 := Lib.hid HM1.out.drew
  have G2 : Hid (w.grownBy W1.drew (some b)) := Lib.hid (grown_drawn G1.out 1)
  clear HM1 G1
  generalize W1.drew = W2 at HM2 G2 ⊢
  have c2 : W2.cell? ⟨b, 2, none⟩ = some (.int .u32 (s.a.toNat : Int)) := World.rowIs.cell HM2.out (i := 2) (by decide)
  have c4 : W2.cell? ⟨b, 4 + k.toNat, none⟩ = some (.int .u32 ((s.m k.toNat).toNat : Int)) := (World.rowIs.cell HM2.out (i := 4 + k.toNat) (by omega)).trans (congrArg some (machV_m qv dv s _ hk))
  have z2 := World.rowIs.frozen HM2.out 2
  have z4 := World.rowIs.frozen HM2.out (4 + k.toNat)
  go_wp2
  go_end0
  exact ⟨rfl, HM2.out.set_m k.toNat hk s.a, grown_cell G2.out (4 + k.toNat) _⟩
theorem moves_3 (h : MachAt w b qv dv s) (hk : k.toNat < 16) : Calls Tryz.prog 40 #[.pointer (some ⟨b, 0, none⟩), .agg #[.int .u16 3, .int .u8 (jt : Int), .int .u8 (jf : Int), .int .u32 (k.toNat : Int)]] w (MovesP w b qv dv { s with m := fun j => if j = k.toNat then s.x else s.m j }) := by
  have hlt := World.rowIs.lt h
  have HM1 := Lib.hid (h.alloc (.cells #[.int .u16 3, .int .u8 (jt : Int), .int .u8 (jf : Int), .int .u32 (k.toNat : Int)] 60))
  have d3 : (w.alloc (.cells #[.int .u16 3, .int .u8 (jt : Int), .int .u8 (jf : Int), .int .u32 (k.toNat : Int)] 60)).cell? ⟨w.heap.size, 3, none⟩ = some (.int .u32 (k.toNat : Int)) := by simp
  have G1 := Lib.hid (grown_alloc (World.grownBy.refl w (some b)) (.cells #[.int .u16 3, .int .u8 (jt : Int), .int .u8 (jf : Int), .int .u32 (k.toNat : Int)] 60))
  have hk' : (k.toNat : Int) < 16 := by omega
  clear h
  go_enter Tryz.func40, Tryz.ntmps40
  go_wp2
  generalize w.alloc (.cells #[.int .u16 3, .int .u8 (jt : Int), .int .u8 (jf : Int), .int .u32 (k.toNat : Int)] 60) = W1 at HM1 d3 G1 ⊢
  have u2 : W1.cell? ⟨b, 3, none⟩ = some (.int .u32 (s.x.toNat : Int)) := World.rowIs.cell HM1.out (i := 3) (by decide)
  have u4 : W1.cell? ⟨b, 4 + k.toNat, none⟩ = some (.int .u32 ((s.m k.toNat).toNat : Int)) := (World.rowIs.cell HM1.out (i := 4 + k.toNat) (by omega)).trans (congrArg some (machV_m qv dv s _ hk))
  have t1 : ({ W1 with drawn := W1.drawn + 1 } : World).cell? ⟨w.heap.size, 3, none⟩ = some (.int .u32 (k.toNat : Int)) := d3
  have t2 : ({ W1 with drawn := W1.drawn + 1 } : World).cell? ⟨b, 3, none⟩ = some (.int .u32 (s.x.toNat : Int)) := u2
  have t4 : ({ W1 with drawn := W1.drawn + 1 } : World).cell? ⟨b, 4 + k.toNat, none⟩ = some (.int .u32 ((s.m k.toNat).toNat : Int)) := u4
  go_still_tail 10, (by kernel_rfl)
  change wpList _ _ _ _ _ W1.drew
  clear t1 t2 t4 d3 u2 u4
  have HM2 := Lib.hid HM1.out.drew
  have G2 : Hid (w.grownBy W1.drew (some b)) := Lib.hid (grown_drawn G1.out 1)
  clear HM1 G1
  generalize W1.drew = W2 at HM2 G2 ⊢
  have c2 : W2.cell? ⟨b, 3, none⟩ = some (.int .u32 (s.x.toNat : Int)) := World.rowIs.cell HM2.out (i := 3) (by decide)
  have c4 : W2.cell? ⟨b, 4 + k.toNat, none⟩ = some (.int .u32 ((s.m k.toNat).toNat : Int)) := (World.rowIs.cell HM2.out (i := 4 + k.toNat) (by omega)).trans (congrArg some (machV_m qv dv s _ hk))
  have z2 := World.rowIs.frozen HM2.out 3
  have z4 := World.rowIs.frozen HM2.out (4 + k.toNat)
  go_wp2
  go_end0
  exact ⟨rfl, HM2.out.set_m k.toNat hk s.x, grown_cell G2.out (4 + k.toNat) _⟩
theorem moves_32 (db doff dcap : Nat) (z : Nat → Int) (hd : Bytes64 w db doff z) (h : MachAt w b qv (.slice (some ⟨db, doff, none⟩) 64 dcap) s) (hk : k.toNat ≤ 60) (hk4 : k.toNat % 4 = 0) :
    Calls Tryz.prog 40 #[.pointer (some ⟨b, 0, none⟩), .agg #[.int .u16 32, .int .u8 (jt : Int), .int .u8 (jf : Int), .int .u32 (k.toNat : Int)]] w (MovesP w b qv (.slice (some ⟨db, doff, none⟩) 64 dcap) { s with a := wordZ z k.toNat }) := by
  have hlt := World.rowIs.lt h
  have HM1 := Lib.hid (h.alloc (.cells #[.int .u16 32, .int .u8 (jt : Int), .int .u8 (jf : Int), .int .u32 (k.toNat : Int)] 60))
  have HD1 := Lib.hid (hd.below (box_below w (.cells #[.int .u16 32, .int .u8 (jt : Int), .int .u8 (jf : Int), .int .u32 (k.toNat : Int)] 60)) hd.1)
  have d3 : (w.alloc (.cells #[.int .u16 32, .int .u8 (jt : Int), .int .u8 (jf : Int), .int .u32 (k.toNat : Int)] 60)).cell? ⟨w.heap.size, 3, none⟩ = some (.int .u32 (k.toNat : Int)) := by simp
  have G1 := Lib.hid (grown_alloc (World.grownBy.refl w (some b)) (.cells #[.int .u16 32, .int .u8 (jt : Int), .int .u8 (jf : Int), .int .u32 (k.toNat : Int)] 60))
  have HK := Lib.hid hk4
  have HV := Lib.hid (wordZ_nat hd.2.1 k.toNat)
  clear h hd hk4
  go_enter Tryz.func40, Tryz.ntmps40
  go_wp2
  generalize w.alloc (.cells #[.int .u16 32, .int .u8 (jt : Int), .int .u8 (jf : Int), .int .u32 (k.toNat : Int)] 60) = W1 at HM1 HD1 d3 G1 ⊢
  have u1 : W1.cell? ⟨b, 1, none⟩ = some (.slice (some ⟨db, doff, none⟩) 64 dcap) := World.rowIs.cell HM1.out (i := 1) (by decide)
  have c2 : W1.cell? ⟨b, 2, none⟩ = some (.int .u32 (s.a.toNat : Int)) := World.rowIs.cell HM1.out (i := 2) (by decide)
  have z2 := World.rowIs.frozen HM1.out 2
  go_quiet ((go_at_call 43; exact quietL (ref2_Word db doff dcap z k.toNat hk HK.out _ HD1.out)))
  go_wp2
  go_end0
  have q := (HM1.out.set_a (wordZ z k.toNat)).drawn nq
  rw [HV.out] at q
  exact ⟨rfl, q, grown_drawn (grown_cell G1.out 2 _) _⟩
end

theorem ref_moves (w : World) (b : Nat) (qv : Value) (s : Mach) (i : Ins) (db doff dcap : Nat) (z : Nat → Int) (hd : Bytes64 w db doff z) (h : MachAt w b qv (.slice (some ⟨db, doff, none⟩) 64 dcap) s) (hw : wrongE i.code i.k = 0) (hr : restC i.code = true)
    (h5 : i.code ≠ 5) (h6 : i.code ≠ 6) (h22 : i.code ≠ 22) :
    Calls Tryz.prog 40 #[.pointer (some ⟨b, 0, none⟩), .agg #[.int .u16 i.code, .int .u8 (i.jt : Int), .int .u8 (i.jf : Int), .int .u32 (i.k.toNat : Int)]] w (MovesP w b qv (.slice (some ⟨db, doff, none⟩) 64 dcap) (s.moves (wordZ z) i)) := by
  obtain ⟨c, jt, jf, k⟩ := i
  simp only at hw hr h5 h6 h22 ⊢
  have hs : ¬ sealsC c = false := by rw [sealsC, hr]; simp
  have hmem : (c = 96 ∨ c = 97 ∨ c = 2 ∨ c = 3) → k.toNat < 16 := fun hc => by
    rcases Nat.lt_or_ge 15 k.toNat with g | g
    · rw [wrongE, if_neg hs, if_neg (by rintro ⟨rfl, _⟩; simp at hc), if_pos ⟨hc, g⟩] at hw; cases hw
    · omega
  rcases rest_cases hr with rfl | rfl | rfl | rfl | rfl | rfl | rfl | rfl | rfl | rfl | rfl | rfl | rfl | rfl | rfl
  · have hk : k.toNat ≤ 60 ∧ k.toNat % 4 = 0 := by
      by_cases g : 60 < k.toNat ∨ k.toNat % 4 ≠ 0
      · rw [wrongE, if_neg hs, if_pos ⟨rfl, g⟩] at hw; cases hw
      · omega
    exact moves_32 w b qv s jt jf k db doff dcap z hd h hk.1 hk.2
  · exact moves_128 w b qv _ s jt jf k h
  · exact moves_129 w b qv _ s jt jf k h
  · exact moves_0 w b qv _ s jt jf k h
  · exact moves_1 w b qv _ s jt jf k h
  · exact moves_96 w b qv _ s jt jf k h (hmem (by decide))
  · exact moves_97 w b qv _ s jt jf k h (hmem (by decide))
  · exact moves_2 w b qv _ s jt jf k h (hmem (by decide))
  · exact moves_3 w b qv _ s jt jf k h (hmem (by decide))
  · exact moves_132 w b qv _ s jt jf k h
  · exact absurd rfl h5
  · exact absurd rfl h6
  · exact absurd rfl h22
  · exact moves_7 w b qv _ s jt jf k h
  · exact moves_135 w b qv _ s jt jf k h
end Go.Proofs.YtoajommeiocfpaaGreat

/-
  A slice of structs that make lays, and a struct that is written into a place of it: laws for walks. No condition but those that each names.
-/
import Derived.Test.YtnhfipedhbeajaaCbpfLent
import Derived.Laws.MakeOwn
namespace Go.Proofs.Ytnhfipedhbeajaa
open Go Go.RowKit
set_option linter.unusedSimpArgs false
set_option linter.unusedVariables false

/-- make of a slice of whatever elements: a new row. -/
theorem wpList_make_rows {P : Program} (w : World) {ops : Array Oper} {rest : List Oper} {o : Oper} {a : Act} {Q : Exit → Act → World → Prop} (hg : o.guard = none) (l c : Operand) (t : TypeId) (hop : o.op = Op.makeSlice t l c)
    (e : TypeId) (z : Value) (sz bytes : Nat) (ht : P.underlying t = some (.slice e)) (hinfo : (P.info? e).map (fun i => (i.zero, i.size, i.bytes)) = some (some z, sz, bytes))
    (kl kc : IntKind) (n : Nat) (hl : a.eval l = .int kl (n : Int)) (hc : a.eval c = .int kc (n : Int)) (hn : bytes * n ≤ 281474976710656) (h63 : n ≤ 9223372036854775807)
    (h : ∀ (g : Nat) (F : Nat → Value) (w' : World), w'.rowIs g e (n * sz) F → Below w.heap.size w w' → w.heap.size ≤ g → wpList P ops Q rest (a.put o.dst (.slice (some ⟨g, 0, none⟩) n n)) w') : wpList P ops Q (o :: rest) a w := by
  obtain ⟨i, hi, hz, hsize, hby⟩ := info_partsN hinfo
  refine wpList_plain hg fun K hK' => ?_
  have hb : (i.bytes : Int) * (n : Int) ≤ 281474976710656 := by
    rw [hby]; have : ((bytes * n : Nat) : Int) ≤ 281474976710656 := by omega
    rwa [Int.natCast_mul] at this
  have hrun := run_make (P := P) w t e i z ht hi hz kl kc n n (by omega) (Int.le_refl _) hb (by omega)
  simp only [Int.toNat_natCast] at hrun
  have hs : (madeCells z.cells (n * i.size)).size = n * sz := by rw [size_madeCells, hsize]
  have hr : (w.alloc (.cells (madeCells z.cells (n * i.size)) e)).rowIs w.heap.size e (n * sz) (fun k => (madeCells z.cells (n * i.size)).getD k undef) := by
    have := World.rowIs_alloc w (madeCells z.cells (n * i.size)) e (fun k => (madeCells z.cells (n * i.size)).getD k undef) (fun j hj => by
      rw [Array.getElem?_eq_getElem hj, Array.getD_eq_getD_getElem?, Array.getElem?_eq_getElem hj]; rfl)
    rwa [hs] at this
  unfold Oper.wp
  simp [execOp, hop, hl, hc, hrun, Result.andThen]
  exact hK' _ _ (h _ _ _ hr ((Below.refl _ _).alloc (Nat.le_refl _) _) (Nat.le_refl _))
/-- Instruction x in place i of a row. -/
theorem row_put {w : World} {g m i : Nat} {F : Nat → Value} (h : w.rowIs g 38 m F) (c : Int) (jt jf : Nat) (k : BitVec 32) :
    ((((w.setCell ⟨g, i * 4, none⟩ (.int .u16 c)).setCell ⟨g, i * 4 + 1, none⟩ (.int .u8 (jt : Int))).setCell ⟨g, i * 4 + 2, none⟩ (.int .u8 (jf : Int))).setCell ⟨g, i * 4 + 3, none⟩ (.int .u32 (k.toNat : Int))).rowIs g 38 m (fun j => if j / 4 = i then insF ⟨c, jt, jf, k⟩ (j % 4) else F j) := by
  refine ((((World.rowIs.set h (i * 4) _).set (i * 4 + 1) _).set (i * 4 + 2) _).set (i * 4 + 3) _).congr fun j hj => ?_
  by_cases hd : j / 4 = i
  · have hf : j % 4 = 0 ∨ j % 4 = 1 ∨ j % 4 = 2 ∨ j % 4 = 3 := by omega
    simp only [if_pos hd]
    rcases hf with f | f | f | f
    · rw [show j = i * 4 by omega, show i * 4 % 4 = 0 by omega]
      rw [if_neg (by omega), if_neg (by omega), if_neg (by omega), if_pos rfl]; rfl
    · rw [show j = i * 4 + 1 by omega, show (i * 4 + 1) % 4 = 1 by omega]
      rw [if_neg (by omega), if_neg (by omega), if_pos rfl]; rfl
    · rw [show j = i * 4 + 2 by omega, show (i * 4 + 2) % 4 = 2 by omega]
      rw [if_neg (by omega), if_pos rfl]; rfl
    · rw [show j = i * 4 + 3 by omega, show (i * 4 + 3) % 4 = 3 by omega]
      rw [if_pos rfl]; rfl
  · simp only [if_neg hd]
    rw [if_neg (by omega), if_neg (by omega), if_neg (by omega), if_neg (by omega)]
theorem row_grown {a w : World} {g : Nat} (h : a.grownBy w (some g)) (i : Nat) (u0 u1 u2 u3 : Value) : a.grownBy ((((w.setCell ⟨g, i * 4, none⟩ u0).setCell ⟨g, i * 4 + 1, none⟩ u1).setCell ⟨g, i * 4 + 2, none⟩ u2).setCell ⟨g, i * 4 + 3, none⟩ u3) (some g) :=
  grown_set (grown_set (grown_set (grown_set h _ _) _ _) _ _) _ _
end Go.Proofs.Ytnhfipedhbeajaa

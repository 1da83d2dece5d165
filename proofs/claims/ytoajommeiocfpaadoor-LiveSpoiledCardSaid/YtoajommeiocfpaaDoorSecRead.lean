/-
  What Read, Word and Arg of package secdata answer: contracts over whatever memory holds the bytes. Conditions: those that each contract names.
-/
import Derived.Test.YtoajommeiocfpaaDoorSecData
namespace Go.Proofs.YtoajommeiocfpaaDoor
open Go Go.RowKit
set_option linter.unusedSimpArgs false
set_option linter.unusedVariables false

/-- What stands in bytes: a word, a number of eight bytes. -/
def w4 (z : Nat → Int) (p : Nat) : Int := leB (fun j => z (p + j)) 4
def w8 (z : Nat → Int) (p : Nat) : Int := leB (fun j => z (p + j)) 8
theorem w4_bd {z : Nat → Int} (hz : ∀ i, 0 ≤ z i ∧ z i < 256) (p : Nat) : 0 ≤ w4 z p ∧ w4 z p < 4294967296 := by
  have := leB_bd (fun j => z (p + j)) (fun i => hz _) 4
  simpa [w4] using this
theorem w8_bd {z : Nat → Int} (hz : ∀ i, 0 ≤ z i ∧ z i < 256) (p : Nat) : 0 ≤ w8 z p ∧ w8 z p < 18446744073709551616 := by
  have := leB_bd (fun j => z (p + j)) (fun i => hz _) 8
  simpa [w8] using this
/-- 64 bytes of memory. -/
def Bytes64 (w : World) (b off : Nat) (z : Nat → Int) : Prop := b < w.heap.size ∧ (∀ i, 0 ≤ z i ∧ z i < 256) ∧ ∀ i, i < 64 → w.cell? ⟨b, off + i, none⟩ = some (.int .u8 (z i))
theorem Bytes64.below {w w' : World} {B b off : Nat} {z : Nat → Int} (h : Bytes64 w b off z) (hb : Below B w w') (hlt : b < B) : Bytes64 w' b off z :=
  ⟨Nat.lt_of_lt_of_le h.1 hb.size, h.2.1, fun i hi => (hb.cell (p := ⟨b, off + i, none⟩) hlt).trans (h.2.2 i hi)⟩
theorem Bytes64.drawn {w : World} {b off : Nat} {z : Nat → Int} (h : Bytes64 w b off z) (n : Nat) : Bytes64 (w.drewN n) b off z := h
theorem Bytes64.grown {w w' : World} {b off g : Nat} {z : Nat → Int} (h : Bytes64 w b off z) (hb : w.grownBy w' (some g)) (hne : b ≠ g) : Bytes64 w' b off z :=
  have hn : some b ≠ some g := fun e => hne (by injection e)
  ⟨Nat.lt_of_lt_of_le h.1 hb.size, h.2.1, fun i hi => hb.cell (h.2.2 i hi) hn⟩

/-! ### Word, Arg -/
def wordOK (len : Nat) (at_ : Int) : Prop := len = 64 ∧ 0 ≤ at_ ∧ at_ ≤ 60 ∧ at_ % 4 = 0
theorem tmod_four {x : Int} (h : 0 ≤ x) : x.tmod 4 = x % 4 := Int.tmod_eq_emod_of_nonneg h
def argA (i : Int) (high : Bool) : Int := if 0 ≤ i ∧ i ≤ 5 then 16 + i * 8 + (if high then 4 else 0) else 0
def argE (i : Int) : Int := if 0 ≤ i ∧ i ≤ 5 then 0 else 22
/-! ### Read -/
/-- The nine values of data. -/
def dval (nr arch ip : Int) (a : Nat → Int) : Nat → Value
  | 0 => .int .u32 nr | 1 => .int .u32 arch | 2 => .int .u64 ip | i + 3 => .int .u64 (a i)
/-- .. as far as they have been read. -/
def someVal (z : Nat → Int) (k : Nat) : Nat → Value
  | 0 => .int .u32 (w4 z 0) | 1 => .int .u32 (w4 z 4) | 2 => .int .u64 (w8 z 8) | i + 3 => if i < k then .int .u64 (w8 z (16 + i * 8)) else .int .u64 0
theorem someVal_step (z : Nat → Int) (k j : Nat) (h : j < 9) (hk : k < 6) : (if j = 3 + k then (.int .u64 (w8 z (16 + k * 8)) : Value) else someVal z k j) = someVal z (k + 1) j := by
  match j with
  | 0 => rw [if_neg (by omega)]; rfl
  | 1 => rw [if_neg (by omega)]; rfl
  | 2 => rw [if_neg (by omega)]; rfl
  | i + 3 =>
    by_cases e : i = k
    · subst e; rw [if_pos (by omega)]; simp only [someVal]; rw [if_pos (by omega)]
    · rw [if_neg (by omega)]; simp only [someVal]
      by_cases g : i < k
      · rw [if_pos g, if_pos (by omega)]
      · rw [if_neg g, if_neg (by omega)]
/-- What Read answers of 64 bytes. -/
def readV (z : Nat → Int) : Value := .agg #[.int .u32 (w4 z 0), .int .u32 (w4 z 4), .int .u64 (w8 z 8), .int .u64 (w8 z 16), .int .u64 (w8 z 24), .int .u64 (w8 z 32), .int .u64 (w8 z 40), .int .u64 (w8 z 48), .int .u64 (w8 z 56)]
def ReadP (w : World) (z : Nat → Int) (e : Ending) (w' : World) : Prop := e = .returned (.tuple #[readV z, .int .i64 0]) ∧ Below w.heap.size w w'
def zeroV : Value := .agg #[.int .u32 0, .int .u32 0, .int .u64 0, .int .u64 0, .int .u64 0, .int .u64 0, .int .u64 0, .int .u64 0, .int .u64 0]
def NoReadP (w : World) (e : Ending) (w' : World) : Prop := e = .returned (.tuple #[zeroV, .int .i64 21]) ∧ Below w.heap.size w w'
theorem below_set9 {w wr : World} (h : Below w.heap.size w wr) (v0 v1 v2 v3 v4 v5 v6 v7 v8 : Value) : Below w.heap.size w (((((((((wr.setCell ⟨w.heap.size, 0, none⟩ v0).setCell ⟨w.heap.size, 1, none⟩ v1).setCell ⟨w.heap.size, 2, none⟩ v2).setCell ⟨w.heap.size, 3, none⟩ v3).setCell ⟨w.heap.size, 4, none⟩ v4).setCell ⟨w.heap.size, 5, none⟩ v5).setCell ⟨w.heap.size, 6, none⟩ v6).setCell ⟨w.heap.size, 7, none⟩ v7).setCell ⟨w.heap.size, 8, none⟩ v8) := by
  have h1 := h.setCell (p := ⟨w.heap.size, 0, none⟩) (Nat.le_refl _) v0
  have h2 := h1.setCell (p := ⟨w.heap.size, 1, none⟩) (Nat.le_refl _) v1
  have h3 := h2.setCell (p := ⟨w.heap.size, 2, none⟩) (Nat.le_refl _) v2
  have h4 := h3.setCell (p := ⟨w.heap.size, 3, none⟩) (Nat.le_refl _) v3
  have h5 := h4.setCell (p := ⟨w.heap.size, 4, none⟩) (Nat.le_refl _) v4
  have h6 := h5.setCell (p := ⟨w.heap.size, 5, none⟩) (Nat.le_refl _) v5
  have h7 := h6.setCell (p := ⟨w.heap.size, 6, none⟩) (Nat.le_refl _) v6
  have h8 := h7.setCell (p := ⟨w.heap.size, 7, none⟩) (Nat.le_refl _) v7
  have h9 := h8.setCell (p := ⟨w.heap.size, 8, none⟩) (Nat.le_refl _) v8
  exact h9

theorem cells9 (w : World) (t : TypeId) (v0 v1 v2 v3 v4 v5 v6 v7 v8 : Value) (f : Nat → Value) (h0 : f 0 = v0) (h1 : f 1 = v1) (h2 : f 2 = v2) (h3 : f 3 = v3) (h4 : f 4 = v4) (h5 : f 5 = v5) (h6 : f 6 = v6) (h7 : f 7 = v7) (h8 : f 8 = v8) :
    (w.alloc (.cells #[v0, v1, v2, v3, v4, v5, v6, v7, v8] t)).rowIs w.heap.size t 9 f :=
  World.rowIs_alloc w #[v0, v1, v2, v3, v4, v5, v6, v7, v8] t f (fun i hi => by
    match i, hi with
    | 0, _ => simp [h0]
    | 1, _ => simp [h1]
    | 2, _ => simp [h2]
    | 3, _ => simp [h3]
    | 4, _ => simp [h4]
    | 5, _ => simp [h5]
    | 6, _ => simp [h6]
    | 7, _ => simp [h7]
    | 8, _ => simp [h8])

end Go.Proofs.YtoajommeiocfpaaDoor

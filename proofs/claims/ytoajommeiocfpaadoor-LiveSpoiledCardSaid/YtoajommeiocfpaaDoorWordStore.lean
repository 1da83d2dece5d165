/-
  What Store of package word leaves in a row of bytes, and what the document's Store makes: contracts. Conditions: those that each contract names.
-/
import Derived.Test.YtoajommeiocfpaaDoorWordLoad
import Derived.Test.YtoajommeiocfpaaDoorMemory
namespace Go.Proofs.YtoajommeiocfpaaDoor
open Go Go.RowKit
set_option linter.unusedSimpArgs false
set_option linter.unusedVariables false

/-- Byte i of a number. -/
def byteI (x : Int) (i : Nat) : Int := x / 2 ^ (8 * i) % 256
/-- A row of cells in which k bytes of x have been written from p on. -/
def wrote (F : Nat → Value) (p k : Nat) (x : Int) (j : Nat) : Value := if p ≤ j ∧ j < p + k then .int .u8 (byteI x (j - p)) else F j
theorem wrote_zero (F : Nat → Value) (p : Nat) (x : Int) : wrote F p 0 x = F := by funext j; unfold wrote; rw [if_neg (by omega)]
theorem wrote_step (F : Nat → Value) (p k : Nat) (x : Int) (j : Nat) : (if j = p + k then (.int .u8 (byteI x k) : Value) else wrote F p k x j) = wrote F p (k + 1) x j := by
  unfold wrote
  by_cases h : j = p + k
  · subst h; rw [if_pos rfl, if_pos (by omega), Nat.add_sub_cancel_left]
  · rw [if_neg h]
    by_cases g : p ≤ j ∧ j < p + k
    · rw [if_pos g, if_pos (by omega)]
    · rw [if_neg g, if_neg (by omega)]

theorem info_u8 : (Tryd.prog.info? 5).map (fun i => (i.zero, i.size, i.bytes)) = some (some (.int .u8 0), 1, 1) := by kernel_rfl

/-- What a call hands back in new memory: a slice of len bytes that read as F says, and nothing that was there is written. -/
def Made (w w' : World) (v : Value) (len : Nat) (F : Nat → Value) : Prop :=
  ∃ g' cap' F', v = .slice (some ⟨g', 0, none⟩) len cap' ∧ w'.rowIs g' 5 cap' F' ∧ len ≤ cap' ∧ cap' ≤ maxLen ∧ (∀ k, k < len → F' k = F k) ∧ Below w.heap.size w w' ∧ w.heap.size ≤ g'

def MadeP (w : World) (len : Nat) (F : Nat → Value) (er : Int) (e : Ending) (w' : World) : Prop := ∃ v, e = .returned (.tuple #[v, .int .i64 er]) ∧ Made w w' v len F

theorem byteI_bd (x : Int) (i : Nat) : 0 ≤ byteI x i ∧ byteI x i < 256 := by unfold byteI; omega
/-- The bytes of a number make its lowest bits. -/
theorem leB_bytes (x : BitVec 64) : ∀ n, leB (byteI (x.toNat : Int)) n = ((zext x ((8 * n : Nat) : Int)).toNat : Int)
  | 0 => by
    have : zext x ((8 * 0 : Nat) : Int) = 0#64 := zext_low x _ (by omega)
    rw [this]; rfl
  | n + 1 => by
    have hz : ∀ m : Nat, ((zext x ((8 * m : Nat) : Int)).toNat : Int) = (x.toNat : Int) % 2 ^ (8 * m) := fun m => by
      unfold zext
      rw [BitVec.toNat_ofNat, Int.toNat_natCast]
      have h1 : x.toNat % 2 ^ (8 * m) < 2 ^ 64 := Nat.lt_of_le_of_lt (Nat.mod_le _ _) x.isLt
      rw [Nat.mod_eq_of_lt h1]; simp
    rw [leB, leB_bytes x n, hz, hz]
    unfold byteI
    have e : (2 : Int) ^ (8 * (n + 1)) = 2 ^ (8 * n) * 256 := by rw [Nat.mul_add, Int.pow_add]; rfl
    have e2 : (2 : Int) ^ (8 * n) = ((2 ^ (8 * n) : Nat) : Int) := by simp
    rw [e, e2]
    generalize 2 ^ (8 * n) = d
    have h := Nat.mod_mul (x := x.toNat) (a := d) (b := 256)
    have h2 : ((x.toNat % (d * 256) : Nat) : Int) = ((x.toNat % d + d * (x.toNat / d % 256) : Nat) : Int) := by rw [h]
    simp only [Int.natCast_emod, Int.natCast_mul, Int.natCast_add, Int.natCast_ediv] at h2
    rw [Int.mul_comm ((x.toNat : Int) / (d : Int) % 256)]
    exact h2.symm

theorem wrote_cell {w : World} {g cap : Nat} {F : Nat → Value} {p n i : Nat} {x : Int} (h : w.rowIs g 5 cap (wrote F p n x)) (hc : p + i < cap) (hi : i < n) : w.cell? ⟨g, 0 + (p + i), none⟩ = some (.int .u8 (byteI x i)) := by
  rw [Nat.zero_add, h.cell hc, wrote, if_pos (by omega), Nat.add_sub_cancel_left]
end Go.Proofs.YtoajommeiocfpaaDoor

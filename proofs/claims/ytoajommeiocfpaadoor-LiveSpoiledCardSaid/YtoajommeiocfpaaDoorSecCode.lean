/-
  What the functions of package secdata on actions answer, and the document's: contracts over any memory in which the table of the kinds stands as the program's text lays it. Conditions: those that each contract names.
-/
import Derived.Test.YtoajommeiocfpaaDoorFrame
import Derived.Test.YtoajommeiocfpaaDoorWordLoad
import Derived.Lib.Hide
namespace Go.Proofs.YtoajommeiocfpaaDoor
open Go Go.RowKit
set_option linter.unusedSimpArgs false
set_option linter.unusedVariables false

/-- The word of row k of the table, and whether actions of its kind have a number. -/
def rowW : Nat → Int
  | 0 => 2147483648 | 1 => 0 | 2 => 196608 | 3 => 327680 | 4 => 2143289344 | 5 => 2146435072 | 6 => 2147221504 | _ => 2147418112
def rowH : Nat → Bool
  | 2 => true | 3 => true | 5 => true | _ => false
theorem rowW_lt (k : Nat) : 0 ≤ rowW k ∧ rowW k < 4294967296 ∧ rowW k % 65536 = 0 := by
  unfold rowW; split <;> decide

theorem or_low (a b : Int) (ha : 0 ≤ a) (ha' : a < 4294967296) (h0 : a % 65536 = 0) (hb : 0 ≤ b) (hb' : b < 65536) : bits .or .u32 a b = a + b :=
  bits_join .u32 32 (by decide) (fun n h0 h1 => by rw [IntKind.wrap_u32]; omega) 16 _ _ ha (by simpa using h0) (by omega) hb (by simpa using hb') (by omega)

/-- The word and the error of an action. -/
def codeOK (kind d : Int) : Prop := 1 ≤ kind ∧ kind ≤ 8 ∧ (rowH (kind - 1).toNat = true ∨ d = 0)
instance (kind d : Int) : Decidable (codeOK kind d) := by unfold codeOK; infer_instance
def codeW (kind d : Int) : Int := if codeOK kind d then rowW (kind - 1).toNat + d else 0
def codeE (kind d : Int) : Int := if codeOK kind d then 0 else 23

def CodeP (w : World) (kind d : Int) (e : Ending) (w' : World) : Prop := e = .returned (.tuple #[.int .u32 (codeW kind d), .int .i64 (codeE kind d)]) ∧ Below w.heap.size w w'

theorem codeP_yes {w w' : World} {kind d v : Int} {k : Nat} (h : codeOK kind d) (hk : (kind - 1).toNat = k) (hv : v = rowW k + d) (hb : Below w.heap.size w w') :
    CodeP w kind d (.returned (.tuple #[.int .u32 v, .int .i64 0])) w' := by
  refine ⟨?_, hb⟩
  rw [codeW, codeE, if_pos h, if_pos h, hk, hv]
theorem codeP_no {w w' : World} {kind d : Int} (h : ¬ codeOK kind d) (hb : Below w.heap.size w w') :
    CodeP w kind d (.returned (.tuple #[.int .u32 0, .int .i64 23])) w' := by
  refine ⟨?_, hb⟩
  rw [codeW, codeE, if_neg h, if_neg h]

def baseW (kind : Int) : Int := if 1 ≤ kind ∧ kind ≤ 8 then rowW (kind - 1).toNat else 0
def baseH (kind : Int) : Bool := if 1 ≤ kind ∧ kind ≤ 8 then rowH (kind - 1).toNat else false
theorem below_box (w : World) (o : Obj) : Below w.heap.size w (w.alloc o) := (Below.refl _ _).alloc (Nat.le_refl _) o

/-! ### Words read as actions -/
/-- Row k has this word. -/
def rowIsW (k : Nat) (x : Int) : Prop := rowW k = x - x % 65536 ∧ (rowH k = true ∨ x % 65536 = 0)
instance (k : Nat) (x : Int) : Decidable (rowIsW k x) := by unfold rowIsW; infer_instance
/-- The row whose word it is, from a row on (8 if there is none). -/
def actRow (x : Int) : Nat := if rowIsW 0 x then 0 else if rowIsW 1 x then 1 else if rowIsW 2 x then 2 else if rowIsW 3 x then 3 else if rowIsW 4 x then 4 else if rowIsW 5 x then 5 else if rowIsW 6 x then 6 else if rowIsW 7 x then 7 else 8
theorem actRow_at {x : Int} {k : Nat} (h8 : k < 8) (h : rowIsW k x) (hno : ∀ j, j < k → ¬ rowIsW j x) : actRow x = k := by
  unfold actRow
  have hn : ∀ j, j < k → rowIsW j x = False := fun j hj => eq_false (hno j hj)
  match k, h8 with
  | 0, _ => simp [h]
  | 1, _ => simp [h, hn 0 (by omega)]
  | 2, _ => simp [h, hn 0 (by omega), hn 1 (by omega)]
  | 3, _ => simp [h, hn 0 (by omega), hn 1 (by omega), hn 2 (by omega)]
  | 4, _ => simp [h, hn 0 (by omega), hn 1 (by omega), hn 2 (by omega), hn 3 (by omega)]
  | 5, _ => simp [h, hn 0 (by omega), hn 1 (by omega), hn 2 (by omega), hn 3 (by omega), hn 4 (by omega)]
  | 6, _ => simp [h, hn 0 (by omega), hn 1 (by omega), hn 2 (by omega), hn 3 (by omega), hn 4 (by omega), hn 5 (by omega)]
  | 7, _ => simp [h, hn 0 (by omega), hn 1 (by omega), hn 2 (by omega), hn 3 (by omega), hn 4 (by omega), hn 5 (by omega), hn 6 (by omega)]
theorem actRow_none {x : Int} (hno : ∀ j, j < 8 → ¬ rowIsW j x) : actRow x = 8 := by
  unfold actRow
  simp [eq_false (hno 0 (by omega)), eq_false (hno 1 (by omega)), eq_false (hno 2 (by omega)), eq_false (hno 3 (by omega)), eq_false (hno 4 (by omega)), eq_false (hno 5 (by omega)), eq_false (hno 6 (by omega)), eq_false (hno 7 (by omega))]
def actK (x : Int) : Int := if actRow x < 8 then (actRow x : Int) + 1 else 0
def actD (x : Int) : Int := if actRow x < 8 then x % 65536 else 0
def actE (x : Int) : Int := if actRow x < 8 then 0 else 23
def ActP (w : World) (x : Int) (e : Ending) (w' : World) : Prop := e = .returned (.tuple #[.agg #[.int .i64 (actK x), .int .u16 (actD x)], .int .i64 (actE x)]) ∧ Below w.heap.size w w'
theorem actP_yes {w w' : World} {x : Int} {k : Nat} (h8 : k < 8) (h : rowIsW k x) (hno : ∀ j, j < k → ¬ rowIsW j x) (hb : Below w.heap.size w w') :
    ActP w x (.returned (.tuple #[.agg #[.int .i64 ((k : Int) + 1), .int .u16 (x % 65536)], .int .i64 0])) w' := by
  refine ⟨?_, hb⟩
  rw [actK, actD, actE, actRow_at h8 h hno, if_pos h8, if_pos h8, if_pos h8]
theorem actP_no {w w' : World} {x : Int} (hno : ∀ j, j < 8 → ¬ rowIsW j x) (hb : Below w.heap.size w w') :
    ActP w x (.returned (.tuple #[.agg #[.int .i64 0, .int .u16 0], .int .i64 23])) w' := by
  refine ⟨?_, hb⟩
  rw [actK, actD, actE, actRow_none hno]; rfl

theorem and_low (x : Int) (h0 : 0 ≤ x) (h1 : x < 4294967296) : bits .and .u32 x 65535 = x % 65536 := by
  show IntKind.u32.wrap ((BitVec.ofInt 32 x &&& BitVec.ofInt 32 65535).toNat : Int) = _
  have e : (BitVec.ofInt 32 x &&& BitVec.ofInt 32 65535).toNat = x.toNat % 2 ^ 16 := by
    rw [BitVec.toNat_and, show (BitVec.ofInt 32 65535).toNat = 2 ^ 16 - 1 by decide, Nat.and_two_pow_sub_one_eq_mod, BitVec.toNat_ofInt]
    congr 1; omega
  rw [e, IntKind.wrap_u32]; omega
end Go.Proofs.YtoajommeiocfpaaDoor

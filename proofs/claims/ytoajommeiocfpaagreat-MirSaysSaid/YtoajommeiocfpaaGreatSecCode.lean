/-
  What the functions of package secdata on actions answer, and the document's: contracts over any memory in which the table of the kinds stands as the program's text lays it. Conditions: those that each contract names.
-/
import Derived.Test.YtoajommeiocfpaaGreatFrame
import Derived.Test.YtoajommeiocfpaaGreatWordLoad
import Derived.Lib.Hide
namespace Go.Proofs.YtoajommeiocfpaaGreat
open Go Go.RowKit
set_option linter.unusedSimpArgs false
set_option linter.unusedVariables false

/-- The word of row k of the table, and whether actions of its kind have a number. -/
def rowW : Nat → Int
  | 0 => 2147483648 | 1 => 0 | 2 => 196608 | 3 => 327680 | 4 => 2143289344 | 5 => 2146435072 | 6 => 2147221504 | _ => 2147418112
def rowH : Nat → Bool
  | 2 => true | 3 => true | 5 => true | _ => false
/-- The word and the error of an action. -/
def codeOK (kind d : Int) : Prop := 1 ≤ kind ∧ kind ≤ 8 ∧ (rowH (kind - 1).toNat = true ∨ d = 0)
instance (kind d : Int) : Decidable (codeOK kind d) := by unfold codeOK; infer_instance
/-! ### Words read as actions -/
/-- Row k has this word. -/
def rowIsW (k : Nat) (x : Int) : Prop := rowW k = x - x % 65536 ∧ (rowH k = true ∨ x % 65536 = 0)
instance (k : Nat) (x : Int) : Decidable (rowIsW k x) := by unfold rowIsW; infer_instance
end Go.Proofs.YtoajommeiocfpaaGreat

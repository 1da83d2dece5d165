/-
  The document's holds, and Holds of both sides: contracts. Conditions: those that each names.
-/
import Derived.Test.YtgeapkjegemkeaaDoorSemHolds
namespace Go.Proofs.YtgeapkjegemkeaaDoor
open Go Go.RowKit
set_option linter.unusedSimpArgs false
set_option linter.unusedVariables false

theorem any_at (d : Dat) (l : List Ex) (k : Nat) (hk : k < l.length) : anyF d (l.drop k) = (holdsF d (l.getD k .zero) || anyF d (l.drop (k + 1))) := by
  rw [List.drop_eq_getElem_cons hk]
  have : l.getD k .zero = l[k] := by rw [List.getD_eq_getElem?_getD, List.getElem?_eq_getElem hk]; rfl
  rw [this, anyF]
theorem all_at7 (d : Dat) (l : List Ex) (k : Nat) (hk : k < l.length) : allF d (l.drop k) = (holdsF d (l.getD k .zero) && allF d (l.drop (k + 1))) := by
  rw [List.drop_eq_getElem_cons hk]
  have : l.getD k .zero = l[k] := by rw [List.getD_eq_getElem?_getD, List.getElem?_eq_getElem hk]; rfl
  rw [this, allF]
theorem any_end (d : Dat) (l : List Ex) (k : Nat) (hk : l.length ≤ k) : anyF d (l.drop k) = false := by
  rw [List.drop_of_length_le hk, anyF]
theorem all_end (d : Dat) (l : List Ex) (k : Nat) (hk : l.length ≤ k) : allF d (l.drop k) = true := by
  rw [List.drop_of_length_le hk, allF]
end Go.Proofs.YtgeapkjegemkeaaDoor

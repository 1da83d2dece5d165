/-
  Which constants a program may hand on, as the statement tells it; whether a program is accepted, as the document tells it: contracts. Conditions: those that each names.
-/
import Derived.Test.YtoajommeiocfpaaGreatMirBuild
import Derived.Test.YtoajommeiocfpaaGreatCheckRef
namespace Go.Proofs.YtoajommeiocfpaaGreat
open Go Go.RowKit
set_option linter.unusedSimpArgs false
set_option linter.unusedVariables false
set_option maxRecDepth 100000

theorem r_IsM (w : World) (A : Option Addr) (n cap : Nat) (q : Nat → Ins) (h : ProgAt w A n q) (hok : ∀ i, i < n → (q i).OK) : Calls Tryz.prog 5 #[.slice A n cap] w fun e w' => e = .returned (.bool (checkE q n == 0)) ∧ Below w.heap.size w w' := by
  have HC := Lib.hid (ref_Check w A n cap q h hok)
  unfold CheckP at HC
  clear h hok
  generalize checkE q n = E at HC ⊢
  generalize checkP q n = P at HC
  go_enter Tryz.func5, Tryz.ntmps5
  go_wp2_with (go_at_call 11; (with_reducible refine HC.out.mono ?_); rintro e w1 ⟨rfl, hb⟩; have H1 := Lib.hid hb; clear hb)
  go_ret
  exact ⟨rfl, H1.out⟩
end Go.Proofs.YtoajommeiocfpaaGreat

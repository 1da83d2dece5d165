/-
  The document's Same of two programs of classic BPF that are the same: a contract. Conditions: those that it names.
-/
import Derived.Test.YtoajommeiocfpaaGreatCbpfRun
import Derived.Test.YtoajommeiocfpaaGreatDataEq
namespace Go.Proofs.YtoajommeiocfpaaGreat
open Go Go.RowKit
set_option linter.unusedSimpArgs false
set_option linter.unusedVariables false

theorem ProgAt.drawn {w : World} {A : Option Addr} {n : Nat} {q : Nat → Ins} (h : ProgAt w A n q) (m : Nat) : ProgAt (w.drewN m) A n q := h
end Go.Proofs.YtoajommeiocfpaaGreat

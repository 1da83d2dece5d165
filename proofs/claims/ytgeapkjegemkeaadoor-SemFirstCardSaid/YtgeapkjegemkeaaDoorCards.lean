/-
  DERIVED. GIVEN WITH THE SEED: THE CARDS: each row of YtgeapkjegemkeaaDoorRows.lean that lists a variable, with what it lists TIED to the program's text (the seventh form; the later family's looks); each row that meets fmt, with fmt's text TOLD by the authors' own Lean function (tested against real Go, not proved from fmt's source: count such statements apart). THE CARD IS WHAT COUNTS. Prove the row's statement (the work); the ties are given (YtgeapkjegemkeaaDoorTie.lean); close each card by the builder's one call (the guide's Derived/Test/ToyasCard.lean, 'card_holds'). Laid BY PROGRAM, IN A SANDBOX (cutbox-door.mjs). By AI agents, Wed Nov 11 2026. No macro, syntax, notation, axiom, sorry.
-/
import Derived.Test.YtgeapkjegemkeaaDoorRows
import GoSem.ClaimSeven
namespace Go.Proofs.YtgeapkjegemkeaaDoor
namespace Rows

/-- THE TIED CARD OF 'ravelinlaw07.SemFirst'. -/
def semFirstCard : Claim7 := { stood := { row := semFirstRow, standIns := [], harness := (true, "4f222e725674b3803bd900b4382182acf1628a61dddc483956d101cec5898730"), looks := false }, kinds := [], alts := [], laidByText := true, laidKinds := [.data], laidTests := true, laidLooks := .later }
def SemFirstCardSaid : Prop := Claim7.holds Tryd.pinned (.plain (OpenSpec.ofChange semFirstSpec)) semFirstCard

/-- THE SECOND FORM's CARD OF 'ravelinlaw07.SemFirst'. -/
def semFirstUptoCard : Claim7 := { stood := { row := semFirstUptoRow, standIns := [], harness := (true, "4f222e725674b3803bd900b4382182acf1628a61dddc483956d101cec5898730"), looks := false }, kinds := [], alts := [], laidByText := true, laidKinds := [.data], laidTests := true, laidLooks := .later }
def SemFirstUptoCardSaid : Prop := Claim7.holds Tryd.pinned (.plain (OpenSpec.upto semFirstSpec)) semFirstUptoCard
end Rows
end Go.Proofs.YtgeapkjegemkeaaDoor

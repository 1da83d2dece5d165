/-
  DERIVED. GIVEN WITH THE SEED: THE CARDS: each row of YthdmlbgejbpalaaDoorRows.lean that lists a variable, with what it lists TIED to the program's text (the seventh form; the later family's looks); each row that meets fmt, with fmt's text TOLD by the authors' own Lean function (tested against real Go, not proved from fmt's source: count such statements apart). THE CARD IS WHAT COUNTS. Prove the row's statement (the work); the ties are given (YthdmlbgejbpalaaDoorTie.lean); close each card by the builder's one call (the guide's Derived/Test/ToyasCard.lean, 'card_holds'). Laid BY PROGRAM, IN A SANDBOX (cutbox-door.mjs). By AI agents, Wed Nov 11 2026. No macro, syntax, notation, axiom, sorry.
-/
import Derived.Test.YthdmlbgejbpalaaDoorRows
import GoSem.ClaimSeven
namespace Go.Proofs.YthdmlbgejbpalaaDoor
namespace Rows

/-- THE TIED CARD OF 'ravelinlaw07.SemNames'. -/
def semNamesCard : Claim7 := { stood := { row := semNamesRow, standIns := [], harness := (true, "59955dc1a3a5c5ccdbb0def74da5bdecd72c39b2f6ee7c659f90ddf7eb00bee4"), looks := false }, kinds := [], alts := [], laidByText := true, laidKinds := [.data], laidTests := true, laidLooks := .later }
def SemNamesCardSaid : Prop := Claim7.holds Tryd.pinned (.plain (OpenSpec.ofChange semNamesSpec)) semNamesCard

/-- THE TIED CARD OF 'ravelinlaw07.SemTables'. -/
def semTablesCard : Claim7 := { stood := { row := semTablesRow, standIns := [], harness := (true, "59955dc1a3a5c5ccdbb0def74da5bdecd72c39b2f6ee7c659f90ddf7eb00bee4"), looks := false }, kinds := [], alts := [], laidByText := true, laidKinds := [.data], laidTests := true, laidLooks := .later }
def SemTablesCardSaid : Prop := Claim7.holds Tryd.pinned (.plain (OpenSpec.ofChange semTablesSpec)) semTablesCard

/-- THE TIED CARD OF 'ravelinlaw07.SemChecks'. -/
def semChecksCard : Claim7 := { stood := { row := semChecksRow, standIns := [], harness := (true, "59955dc1a3a5c5ccdbb0def74da5bdecd72c39b2f6ee7c659f90ddf7eb00bee4"), looks := false }, kinds := [], alts := [], laidByText := true, laidKinds := [.data], laidTests := true, laidLooks := .later }
def SemChecksCardSaid : Prop := Claim7.holds Tryd.pinned (.plain (OpenSpec.ofChange semChecksSpec)) semChecksCard

/-- THE TIED CARD OF 'ravelinlaw07.SemEvals'. -/
def semEvalsCard : Claim7 := { stood := { row := semEvalsRow, standIns := [], harness := (true, "59955dc1a3a5c5ccdbb0def74da5bdecd72c39b2f6ee7c659f90ddf7eb00bee4"), looks := false }, kinds := [], alts := [], laidByText := true, laidKinds := [.data], laidTests := true, laidLooks := .later }
def SemEvalsCardSaid : Prop := Claim7.holds Tryd.pinned (.plain (OpenSpec.ofChange semEvalsSpec)) semEvalsCard

/-- THE TIED CARD OF 'ravelinlaw07.SemFirst'. -/
def semFirstCard : Claim7 := { stood := { row := semFirstRow, standIns := [], harness := (true, "59955dc1a3a5c5ccdbb0def74da5bdecd72c39b2f6ee7c659f90ddf7eb00bee4"), looks := false }, kinds := [], alts := [], laidByText := true, laidKinds := [.data], laidTests := true, laidLooks := .later }
def SemFirstCardSaid : Prop := Claim7.holds Tryd.pinned (.plain (OpenSpec.ofChange semFirstSpec)) semFirstCard

/-- THE TIED CARD OF 'ravelinlaw07.SemTurned'. -/
def semTurnedCard : Claim7 := { stood := { row := semTurnedRow, standIns := [], harness := (true, "59955dc1a3a5c5ccdbb0def74da5bdecd72c39b2f6ee7c659f90ddf7eb00bee4"), looks := false }, kinds := [], alts := [], laidByText := true, laidKinds := [.data], laidTests := true, laidLooks := .later }
def SemTurnedCardSaid : Prop := Claim7.holds Tryd.pinned (.plain (OpenSpec.ofChange semTurnedSpec)) semTurnedCard

/-- THE TIED CARD OF 'ravelinlaw07.SemNamed'. -/
def semNamedCard : Claim7 := { stood := { row := semNamedRow, standIns := [], harness := (true, "59955dc1a3a5c5ccdbb0def74da5bdecd72c39b2f6ee7c659f90ddf7eb00bee4"), looks := false }, kinds := [], alts := [], laidByText := true, laidKinds := [.data], laidTests := true, laidLooks := .later }
def SemNamedCardSaid : Prop := Claim7.holds Tryd.pinned (.plain (OpenSpec.ofChange semNamedSpec)) semNamedCard

/-- THE SECOND FORM's CARD OF 'ravelinlaw07.SemNames'. -/
def semNamesUptoCard : Claim7 := { stood := { row := semNamesUptoRow, standIns := [], harness := (true, "59955dc1a3a5c5ccdbb0def74da5bdecd72c39b2f6ee7c659f90ddf7eb00bee4"), looks := false }, kinds := [], alts := [], laidByText := true, laidKinds := [.data], laidTests := true, laidLooks := .later }
def SemNamesUptoCardSaid : Prop := Claim7.holds Tryd.pinned (.plain (OpenSpec.upto semNamesSpec)) semNamesUptoCard

/-- THE SECOND FORM's CARD OF 'ravelinlaw07.SemTables'. -/
def semTablesUptoCard : Claim7 := { stood := { row := semTablesUptoRow, standIns := [], harness := (true, "59955dc1a3a5c5ccdbb0def74da5bdecd72c39b2f6ee7c659f90ddf7eb00bee4"), looks := false }, kinds := [], alts := [], laidByText := true, laidKinds := [.data], laidTests := true, laidLooks := .later }
def SemTablesUptoCardSaid : Prop := Claim7.holds Tryd.pinned (.plain (OpenSpec.upto semTablesSpec)) semTablesUptoCard

/-- THE SECOND FORM's CARD OF 'ravelinlaw07.SemChecks'. -/
def semChecksUptoCard : Claim7 := { stood := { row := semChecksUptoRow, standIns := [], harness := (true, "59955dc1a3a5c5ccdbb0def74da5bdecd72c39b2f6ee7c659f90ddf7eb00bee4"), looks := false }, kinds := [], alts := [], laidByText := true, laidKinds := [.data], laidTests := true, laidLooks := .later }
def SemChecksUptoCardSaid : Prop := Claim7.holds Tryd.pinned (.plain (OpenSpec.upto semChecksSpec)) semChecksUptoCard

/-- THE SECOND FORM's CARD OF 'ravelinlaw07.SemEvals'. -/
def semEvalsUptoCard : Claim7 := { stood := { row := semEvalsUptoRow, standIns := [], harness := (true, "59955dc1a3a5c5ccdbb0def74da5bdecd72c39b2f6ee7c659f90ddf7eb00bee4"), looks := false }, kinds := [], alts := [], laidByText := true, laidKinds := [.data], laidTests := true, laidLooks := .later }
def SemEvalsUptoCardSaid : Prop := Claim7.holds Tryd.pinned (.plain (OpenSpec.upto semEvalsSpec)) semEvalsUptoCard

/-- THE SECOND FORM's CARD OF 'ravelinlaw07.SemFirst'. -/
def semFirstUptoCard : Claim7 := { stood := { row := semFirstUptoRow, standIns := [], harness := (true, "59955dc1a3a5c5ccdbb0def74da5bdecd72c39b2f6ee7c659f90ddf7eb00bee4"), looks := false }, kinds := [], alts := [], laidByText := true, laidKinds := [.data], laidTests := true, laidLooks := .later }
def SemFirstUptoCardSaid : Prop := Claim7.holds Tryd.pinned (.plain (OpenSpec.upto semFirstSpec)) semFirstUptoCard

/-- THE SECOND FORM's CARD OF 'ravelinlaw07.SemTurned'. -/
def semTurnedUptoCard : Claim7 := { stood := { row := semTurnedUptoRow, standIns := [], harness := (true, "59955dc1a3a5c5ccdbb0def74da5bdecd72c39b2f6ee7c659f90ddf7eb00bee4"), looks := false }, kinds := [], alts := [], laidByText := true, laidKinds := [.data], laidTests := true, laidLooks := .later }
def SemTurnedUptoCardSaid : Prop := Claim7.holds Tryd.pinned (.plain (OpenSpec.upto semTurnedSpec)) semTurnedUptoCard

/-- THE SECOND FORM's CARD OF 'ravelinlaw07.SemNamed'. -/
def semNamedUptoCard : Claim7 := { stood := { row := semNamedUptoRow, standIns := [], harness := (true, "59955dc1a3a5c5ccdbb0def74da5bdecd72c39b2f6ee7c659f90ddf7eb00bee4"), looks := false }, kinds := [], alts := [], laidByText := true, laidKinds := [.data], laidTests := true, laidLooks := .later }
def SemNamedUptoCardSaid : Prop := Claim7.holds Tryd.pinned (.plain (OpenSpec.upto semNamedSpec)) semNamedUptoCard
end Rows
end Go.Proofs.YthdmlbgejbpalaaDoor

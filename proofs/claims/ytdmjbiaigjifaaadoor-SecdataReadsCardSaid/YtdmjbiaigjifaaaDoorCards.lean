/-
  DERIVED. GIVEN WITH THE SEED: THE CARDS: each row of YtdmjbiaigjifaaaDoorRows.lean that lists a variable, with what it lists TIED to the program's text (the seventh form; the later family's looks); each row that meets fmt, with fmt's text TOLD by the authors' own Lean function (tested against real Go, not proved from fmt's source: count such statements apart). THE CARD IS WHAT COUNTS. Prove the row's statement (the work); the ties are given (YtdmjbiaigjifaaaDoorTie.lean); close each card by the builder's one call (the guide's Derived/Test/ToyasCard.lean, 'card_holds'). Laid BY PROGRAM, IN A SANDBOX (cutbox-door.mjs). By AI agents, Wed Nov 11 2026. No macro, syntax, notation, axiom, sorry.
-/
import Derived.Test.YtdmjbiaigjifaaaDoorRows
import GoSem.ClaimSeven
namespace Go.Proofs.YtdmjbiaigjifaaaDoor
namespace Rows

/-- THE TIED CARD OF 'ravelinlaw02.SecdataBytes'. -/
def secdataBytesCard : Claim7 := { stood := { row := secdataBytesRow, standIns := [], harness := (true, "fb354292af7eb3cee4a6cc4c64b09a56b2d48d5e1852eb42dfb602e7efd98e6e"), looks := false }, kinds := [], alts := [], laidByText := true, laidKinds := [.data], laidTests := true, laidLooks := .later }
def SecdataBytesCardSaid : Prop := Claim7.holds Tryd.pinned (.plain (OpenSpec.ofChange secdataBytesSpec)) secdataBytesCard

/-- THE TIED CARD OF 'ravelinlaw02.SecdataReads'. -/
def secdataReadsCard : Claim7 := { stood := { row := secdataReadsRow, standIns := [], harness := (true, "fb354292af7eb3cee4a6cc4c64b09a56b2d48d5e1852eb42dfb602e7efd98e6e"), looks := false }, kinds := [], alts := [], laidByText := true, laidKinds := [.data], laidTests := true, laidLooks := .later }
def SecdataReadsCardSaid : Prop := Claim7.holds Tryd.pinned (.plain (OpenSpec.ofChange secdataReadsSpec)) secdataReadsCard

/-- THE TIED CARD OF 'ravelinlaw02.SecdataWords'. -/
def secdataWordsCard : Claim7 := { stood := { row := secdataWordsRow, standIns := [], harness := (true, "fb354292af7eb3cee4a6cc4c64b09a56b2d48d5e1852eb42dfb602e7efd98e6e"), looks := false }, kinds := [], alts := [], laidByText := true, laidKinds := [.data], laidTests := true, laidLooks := .later }
def SecdataWordsCardSaid : Prop := Claim7.holds Tryd.pinned (.plain (OpenSpec.ofChange secdataWordsSpec)) secdataWordsCard

/-- THE TIED CARD OF 'ravelinlaw02.SecdataCodes'. -/
def secdataCodesCard : Claim7 := { stood := { row := secdataCodesRow, standIns := [], harness := (true, "fb354292af7eb3cee4a6cc4c64b09a56b2d48d5e1852eb42dfb602e7efd98e6e"), looks := false }, kinds := [], alts := [], laidByText := true, laidKinds := [.data], laidTests := true, laidLooks := .later }
def SecdataCodesCardSaid : Prop := Claim7.holds Tryd.pinned (.plain (OpenSpec.ofChange secdataCodesSpec)) secdataCodesCard

/-- THE TIED CARD OF 'ravelinlaw02.SecdataActions'. -/
def secdataActionsCard : Claim7 := { stood := { row := secdataActionsRow, standIns := [], harness := (true, "fb354292af7eb3cee4a6cc4c64b09a56b2d48d5e1852eb42dfb602e7efd98e6e"), looks := false }, kinds := [], alts := [], laidByText := true, laidKinds := [.data], laidTests := true, laidLooks := .later }
def SecdataActionsCardSaid : Prop := Claim7.holds Tryd.pinned (.plain (OpenSpec.ofChange secdataActionsSpec)) secdataActionsCard

/-- THE TIED CARD OF 'ravelinlaw02.SecdataApart'. -/
def secdataApartCard : Claim7 := { stood := { row := secdataApartRow, standIns := [], harness := (true, "fb354292af7eb3cee4a6cc4c64b09a56b2d48d5e1852eb42dfb602e7efd98e6e"), looks := false }, kinds := [], alts := [], laidByText := true, laidKinds := [.data], laidTests := true, laidLooks := .later }
def SecdataApartCardSaid : Prop := Claim7.holds Tryd.pinned (.plain (OpenSpec.ofChange secdataApartSpec)) secdataApartCard

/-- THE TIED CARD OF 'ravelinlaw02.SecdataOne'. -/
def secdataOneCard : Claim7 := { stood := { row := secdataOneRow, standIns := [], harness := (true, "fb354292af7eb3cee4a6cc4c64b09a56b2d48d5e1852eb42dfb602e7efd98e6e"), looks := false }, kinds := [], alts := [], laidByText := true, laidKinds := [.data], laidTests := true, laidLooks := .later }
def SecdataOneCardSaid : Prop := Claim7.holds Tryd.pinned (.plain (OpenSpec.ofChange secdataOneSpec)) secdataOneCard

/-- THE SECOND FORM's CARD OF 'ravelinlaw02.SecdataBytes'. -/
def secdataBytesUptoCard : Claim7 := { stood := { row := secdataBytesUptoRow, standIns := [], harness := (true, "fb354292af7eb3cee4a6cc4c64b09a56b2d48d5e1852eb42dfb602e7efd98e6e"), looks := false }, kinds := [], alts := [], laidByText := true, laidKinds := [.data], laidTests := true, laidLooks := .later }
def SecdataBytesUptoCardSaid : Prop := Claim7.holds Tryd.pinned (.plain (OpenSpec.upto secdataBytesSpec)) secdataBytesUptoCard

/-- THE SECOND FORM's CARD OF 'ravelinlaw02.SecdataReads'. -/
def secdataReadsUptoCard : Claim7 := { stood := { row := secdataReadsUptoRow, standIns := [], harness := (true, "fb354292af7eb3cee4a6cc4c64b09a56b2d48d5e1852eb42dfb602e7efd98e6e"), looks := false }, kinds := [], alts := [], laidByText := true, laidKinds := [.data], laidTests := true, laidLooks := .later }
def SecdataReadsUptoCardSaid : Prop := Claim7.holds Tryd.pinned (.plain (OpenSpec.upto secdataReadsSpec)) secdataReadsUptoCard

/-- THE SECOND FORM's CARD OF 'ravelinlaw02.SecdataWords'. -/
def secdataWordsUptoCard : Claim7 := { stood := { row := secdataWordsUptoRow, standIns := [], harness := (true, "fb354292af7eb3cee4a6cc4c64b09a56b2d48d5e1852eb42dfb602e7efd98e6e"), looks := false }, kinds := [], alts := [], laidByText := true, laidKinds := [.data], laidTests := true, laidLooks := .later }
def SecdataWordsUptoCardSaid : Prop := Claim7.holds Tryd.pinned (.plain (OpenSpec.upto secdataWordsSpec)) secdataWordsUptoCard

/-- THE SECOND FORM's CARD OF 'ravelinlaw02.SecdataCodes'. -/
def secdataCodesUptoCard : Claim7 := { stood := { row := secdataCodesUptoRow, standIns := [], harness := (true, "fb354292af7eb3cee4a6cc4c64b09a56b2d48d5e1852eb42dfb602e7efd98e6e"), looks := false }, kinds := [], alts := [], laidByText := true, laidKinds := [.data], laidTests := true, laidLooks := .later }
def SecdataCodesUptoCardSaid : Prop := Claim7.holds Tryd.pinned (.plain (OpenSpec.upto secdataCodesSpec)) secdataCodesUptoCard

/-- THE SECOND FORM's CARD OF 'ravelinlaw02.SecdataActions'. -/
def secdataActionsUptoCard : Claim7 := { stood := { row := secdataActionsUptoRow, standIns := [], harness := (true, "fb354292af7eb3cee4a6cc4c64b09a56b2d48d5e1852eb42dfb602e7efd98e6e"), looks := false }, kinds := [], alts := [], laidByText := true, laidKinds := [.data], laidTests := true, laidLooks := .later }
def SecdataActionsUptoCardSaid : Prop := Claim7.holds Tryd.pinned (.plain (OpenSpec.upto secdataActionsSpec)) secdataActionsUptoCard

/-- THE SECOND FORM's CARD OF 'ravelinlaw02.SecdataApart'. -/
def secdataApartUptoCard : Claim7 := { stood := { row := secdataApartUptoRow, standIns := [], harness := (true, "fb354292af7eb3cee4a6cc4c64b09a56b2d48d5e1852eb42dfb602e7efd98e6e"), looks := false }, kinds := [], alts := [], laidByText := true, laidKinds := [.data], laidTests := true, laidLooks := .later }
def SecdataApartUptoCardSaid : Prop := Claim7.holds Tryd.pinned (.plain (OpenSpec.upto secdataApartSpec)) secdataApartUptoCard

/-- THE SECOND FORM's CARD OF 'ravelinlaw02.SecdataOne'. -/
def secdataOneUptoCard : Claim7 := { stood := { row := secdataOneUptoRow, standIns := [], harness := (true, "fb354292af7eb3cee4a6cc4c64b09a56b2d48d5e1852eb42dfb602e7efd98e6e"), looks := false }, kinds := [], alts := [], laidByText := true, laidKinds := [.data], laidTests := true, laidLooks := .later }
def SecdataOneUptoCardSaid : Prop := Claim7.holds Tryd.pinned (.plain (OpenSpec.upto secdataOneSpec)) secdataOneUptoCard
end Rows
end Go.Proofs.YtdmjbiaigjifaaaDoor

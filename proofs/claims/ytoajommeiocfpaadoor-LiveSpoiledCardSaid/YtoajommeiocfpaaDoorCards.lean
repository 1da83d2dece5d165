/-
  DERIVED. GIVEN WITH THE SEED: THE CARDS: each row of YtoajommeiocfpaaDoorRows.lean that lists a variable, with what it lists TIED to the program's text (the seventh form; the later family's looks); each row that meets fmt, with fmt's text TOLD by the authors' own Lean function (tested against real Go, not proved from fmt's source: count such statements apart). THE CARD IS WHAT COUNTS. Prove the row's statement (the work); the ties are given (YtoajommeiocfpaaDoorTie.lean); close each card by the builder's one call (the guide's Derived/Test/ToyasCard.lean, 'card_holds'). Laid BY PROGRAM, IN A SANDBOX (cutbox-door.mjs). By AI agents, Wed Nov 11 2026. No macro, syntax, notation, axiom, sorry.
-/
import Derived.Test.YtoajommeiocfpaaDoorRows
import GoSem.ClaimSeven
namespace Go.Proofs.YtoajommeiocfpaaDoor
namespace Rows

/-- THE TIED CARD OF 'ravelinlaw13.LiveTells'. -/
def liveTellsCard : Claim7 := { stood := { row := liveTellsRow, standIns := [], harness := (true, "78a625c21b0b5cb519c69c26e36230b88daff41c1a85302213fcf45287a71939"), looks := false }, kinds := [], alts := [], laidByText := true, laidKinds := [.data], laidTests := true, laidLooks := .later }
def LiveTellsCardSaid : Prop := Claim7.holds Tryd.pinned (.plain (OpenSpec.ofChange liveTellsSpec)) liveTellsCard

/-- THE TIED CARD OF 'ravelinlaw13.LiveSpoiled'. -/
def liveSpoiledCard : Claim7 := { stood := { row := liveSpoiledRow, standIns := [], harness := (true, "78a625c21b0b5cb519c69c26e36230b88daff41c1a85302213fcf45287a71939"), looks := false }, kinds := [], alts := [], laidByText := true, laidKinds := [.data], laidTests := true, laidLooks := .later }
def LiveSpoiledCardSaid : Prop := Claim7.holds Tryd.pinned (.plain (OpenSpec.ofChange liveSpoiledSpec)) liveSpoiledCard

/-- THE TIED CARD OF 'ravelinlaw13.LiveWithin'. -/
def liveWithinCard : Claim7 := { stood := { row := liveWithinRow, standIns := [], harness := (true, "78a625c21b0b5cb519c69c26e36230b88daff41c1a85302213fcf45287a71939"), looks := false }, kinds := [], alts := [], laidByText := true, laidKinds := [.data], laidTests := true, laidLooks := .later }
def LiveWithinCardSaid : Prop := Claim7.holds Tryd.pinned (.plain (OpenSpec.ofChange liveWithinSpec)) liveWithinCard

/-- THE TIED CARD OF 'ravelinlaw13.LiveMany'. -/
def liveManyCard : Claim7 := { stood := { row := liveManyRow, standIns := [], harness := (true, "78a625c21b0b5cb519c69c26e36230b88daff41c1a85302213fcf45287a71939"), looks := false }, kinds := [], alts := [], laidByText := true, laidKinds := [.data], laidTests := true, laidLooks := .later }
def LiveManyCardSaid : Prop := Claim7.holds Tryd.pinned (.plain (OpenSpec.ofChange liveManySpec)) liveManyCard

/-- THE SECOND FORM's CARD OF 'ravelinlaw13.LiveTells'. -/
def liveTellsUptoCard : Claim7 := { stood := { row := liveTellsUptoRow, standIns := [], harness := (true, "78a625c21b0b5cb519c69c26e36230b88daff41c1a85302213fcf45287a71939"), looks := false }, kinds := [], alts := [], laidByText := true, laidKinds := [.data], laidTests := true, laidLooks := .later }
def LiveTellsUptoCardSaid : Prop := Claim7.holds Tryd.pinned (.plain (OpenSpec.upto liveTellsSpec)) liveTellsUptoCard

/-- THE SECOND FORM's CARD OF 'ravelinlaw13.LiveSpoiled'. -/
def liveSpoiledUptoCard : Claim7 := { stood := { row := liveSpoiledUptoRow, standIns := [], harness := (true, "78a625c21b0b5cb519c69c26e36230b88daff41c1a85302213fcf45287a71939"), looks := false }, kinds := [], alts := [], laidByText := true, laidKinds := [.data], laidTests := true, laidLooks := .later }
def LiveSpoiledUptoCardSaid : Prop := Claim7.holds Tryd.pinned (.plain (OpenSpec.upto liveSpoiledSpec)) liveSpoiledUptoCard

/-- THE SECOND FORM's CARD OF 'ravelinlaw13.LiveWithin'. -/
def liveWithinUptoCard : Claim7 := { stood := { row := liveWithinUptoRow, standIns := [], harness := (true, "78a625c21b0b5cb519c69c26e36230b88daff41c1a85302213fcf45287a71939"), looks := false }, kinds := [], alts := [], laidByText := true, laidKinds := [.data], laidTests := true, laidLooks := .later }
def LiveWithinUptoCardSaid : Prop := Claim7.holds Tryd.pinned (.plain (OpenSpec.upto liveWithinSpec)) liveWithinUptoCard

/-- THE SECOND FORM's CARD OF 'ravelinlaw13.LiveMany'. -/
def liveManyUptoCard : Claim7 := { stood := { row := liveManyUptoRow, standIns := [], harness := (true, "78a625c21b0b5cb519c69c26e36230b88daff41c1a85302213fcf45287a71939"), looks := false }, kinds := [], alts := [], laidByText := true, laidKinds := [.data], laidTests := true, laidLooks := .later }
def LiveManyUptoCardSaid : Prop := Claim7.holds Tryd.pinned (.plain (OpenSpec.upto liveManySpec)) liveManyUptoCard
end Rows
end Go.Proofs.YtoajommeiocfpaaDoor

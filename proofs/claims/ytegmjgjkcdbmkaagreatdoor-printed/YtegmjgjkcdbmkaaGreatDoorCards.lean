/-
  DERIVED. GIVEN WITH THE SEED: THE CARDS: each row of YtegmjgjkcdbmkaaGreatDoorRows.lean that lists a variable, with what it lists TIED to the program's text (the seventh form; the later family's looks); each row that meets fmt, with fmt's text TOLD by the authors' own Lean function (tested against real Go, not proved from fmt's source: count such statements apart). THE CARD IS WHAT COUNTS. Prove the row's statement (the work); the ties are given (YtegmjgjkcdbmkaaGreatDoorTie.lean); close each card by the builder's one call (the guide's Derived/Test/ToyasCard.lean, 'card_holds'). Laid BY PROGRAM, IN A SANDBOX (cutbox-door.mjs). By AI agents, Wed Nov 11 2026. No macro, syntax, notation, axiom, sorry.
-/
import Derived.Test.YtegmjgjkcdbmkaaGreatDoorRows
import GoSem.ClaimSeven
namespace Go.Proofs.YtegmjgjkcdbmkaaGreatDoor
namespace Rows

/-- THE TIED CARD OF 'pointsmankeep.Closed'. -/
def closedCard : Claim7 := { stood := { row := closedRow, standIns := [], harness := (true, "2c212fd192e9fce293da5ea73a1ca7de20e75beddde5cada366b5530d60c7fb7"), looks := true }, kinds := [], alts := [], laidByText := true, laidKinds := [.data, .data, .data, .sentinel, .sentinel], laidTests := true, laidLooks := .later }
def ClosedCardSaid : Prop := Claim7.holds Tryz.pinned (.plain (OpenSpec.ofChange closedSpec)) closedCard

/-- THE TIED CARD OF 'pointsmankeep.Needed'. -/
def neededCard : Claim7 := { stood := { row := neededRow, standIns := [], harness := (true, "2c212fd192e9fce293da5ea73a1ca7de20e75beddde5cada366b5530d60c7fb7"), looks := true }, kinds := [], alts := [], laidByText := true, laidKinds := [.data, .data, .data, .sentinel, .sentinel], laidTests := true, laidLooks := .later }
def NeededCardSaid : Prop := Claim7.holds Tryz.pinned (.plain (OpenSpec.ofChange neededSpec)) neededCard

/-- THE TIED CARD OF 'pointsmankeep.Grown'. -/
def grownCard : Claim7 := { stood := { row := grownRow, standIns := [], harness := (true, "2c212fd192e9fce293da5ea73a1ca7de20e75beddde5cada366b5530d60c7fb7"), looks := true }, kinds := [], alts := [], laidByText := true, laidKinds := [.data, .data, .data, .sentinel, .sentinel], laidTests := true, laidLooks := .later }
def GrownCardSaid : Prop := Claim7.holds Tryz.pinned (.plain (OpenSpec.ofChange grownSpec)) grownCard

/-- THE TIED CARD OF 'pointsmankeep.Ordered'. -/
def orderedCard : Claim7 := { stood := { row := orderedRow, standIns := [], harness := (true, "2c212fd192e9fce293da5ea73a1ca7de20e75beddde5cada366b5530d60c7fb7"), looks := true }, kinds := [], alts := [], laidByText := true, laidKinds := [.data, .data, .data, .sentinel, .sentinel], laidTests := true, laidLooks := .later }
def OrderedCardSaid : Prop := Claim7.holds Tryz.pinned (.plain (OpenSpec.ofChange orderedSpec)) orderedCard

/-- THE TIED CARD OF 'pointsmankeep.Printed'. -/
def printedCard : Claim7 := { stood := { row := printedRow, standIns := [], harness := (true, "2c212fd192e9fce293da5ea73a1ca7de20e75beddde5cada366b5530d60c7fb7"), looks := true }, kinds := [], alts := [], laidByText := true, laidKinds := [.data, .data, .data, .sentinel, .sentinel], laidTests := true, laidLooks := .later }
def PrintedCardSaid : Prop := Claim7.holds Tryz.pinned (.plain (OpenSpec.ofChange printedSpec)) printedCard

/-- THE TIED CARD OF 'pointsmankeep.Cut'. -/
def cutCard : Claim7 := { stood := { row := cutRow, standIns := [], harness := (true, "2c212fd192e9fce293da5ea73a1ca7de20e75beddde5cada366b5530d60c7fb7"), looks := true }, kinds := [], alts := [], laidByText := true, laidKinds := [.data, .data, .data, .sentinel, .sentinel], laidTests := true, laidLooks := .later }
def CutCardSaid : Prop := Claim7.holds Tryz.pinned (.plain (OpenSpec.ofChange cutSpec)) cutCard

/-- THE TIED CARD OF 'pointsmankeep.Sound'. -/
def soundCard : Claim7 := { stood := { row := soundRow, standIns := [], harness := (true, "2c212fd192e9fce293da5ea73a1ca7de20e75beddde5cada366b5530d60c7fb7"), looks := true }, kinds := [], alts := [], laidByText := true, laidKinds := [.data, .data, .data, .sentinel, .sentinel], laidTests := true, laidLooks := .later }
def SoundCardSaid : Prop := Claim7.holds Tryz.pinned (.plain (OpenSpec.ofChange soundSpec)) soundCard

/-- THE SECOND FORM's CARD OF 'pointsmankeep.Closed'. -/
def closedUptoCard : Claim7 := { stood := { row := closedUptoRow, standIns := [], harness := (true, "2c212fd192e9fce293da5ea73a1ca7de20e75beddde5cada366b5530d60c7fb7"), looks := true }, kinds := [], alts := [], laidByText := true, laidKinds := [.data, .data, .data, .sentinel, .sentinel], laidTests := true, laidLooks := .later }
def ClosedUptoCardSaid : Prop := Claim7.holds Tryz.pinned (.plain (OpenSpec.upto closedSpec)) closedUptoCard

/-- THE SECOND FORM's CARD OF 'pointsmankeep.Needed'. -/
def neededUptoCard : Claim7 := { stood := { row := neededUptoRow, standIns := [], harness := (true, "2c212fd192e9fce293da5ea73a1ca7de20e75beddde5cada366b5530d60c7fb7"), looks := true }, kinds := [], alts := [], laidByText := true, laidKinds := [.data, .data, .data, .sentinel, .sentinel], laidTests := true, laidLooks := .later }
def NeededUptoCardSaid : Prop := Claim7.holds Tryz.pinned (.plain (OpenSpec.upto neededSpec)) neededUptoCard

/-- THE SECOND FORM's CARD OF 'pointsmankeep.Grown'. -/
def grownUptoCard : Claim7 := { stood := { row := grownUptoRow, standIns := [], harness := (true, "2c212fd192e9fce293da5ea73a1ca7de20e75beddde5cada366b5530d60c7fb7"), looks := true }, kinds := [], alts := [], laidByText := true, laidKinds := [.data, .data, .data, .sentinel, .sentinel], laidTests := true, laidLooks := .later }
def GrownUptoCardSaid : Prop := Claim7.holds Tryz.pinned (.plain (OpenSpec.upto grownSpec)) grownUptoCard

/-- THE SECOND FORM's CARD OF 'pointsmankeep.Ordered'. -/
def orderedUptoCard : Claim7 := { stood := { row := orderedUptoRow, standIns := [], harness := (true, "2c212fd192e9fce293da5ea73a1ca7de20e75beddde5cada366b5530d60c7fb7"), looks := true }, kinds := [], alts := [], laidByText := true, laidKinds := [.data, .data, .data, .sentinel, .sentinel], laidTests := true, laidLooks := .later }
def OrderedUptoCardSaid : Prop := Claim7.holds Tryz.pinned (.plain (OpenSpec.upto orderedSpec)) orderedUptoCard

/-- THE SECOND FORM's CARD OF 'pointsmankeep.Printed'. -/
def printedUptoCard : Claim7 := { stood := { row := printedUptoRow, standIns := [], harness := (true, "2c212fd192e9fce293da5ea73a1ca7de20e75beddde5cada366b5530d60c7fb7"), looks := true }, kinds := [], alts := [], laidByText := true, laidKinds := [.data, .data, .data, .sentinel, .sentinel], laidTests := true, laidLooks := .later }
def PrintedUptoCardSaid : Prop := Claim7.holds Tryz.pinned (.plain (OpenSpec.upto printedSpec)) printedUptoCard

/-- THE SECOND FORM's CARD OF 'pointsmankeep.Cut'. -/
def cutUptoCard : Claim7 := { stood := { row := cutUptoRow, standIns := [], harness := (true, "2c212fd192e9fce293da5ea73a1ca7de20e75beddde5cada366b5530d60c7fb7"), looks := true }, kinds := [], alts := [], laidByText := true, laidKinds := [.data, .data, .data, .sentinel, .sentinel], laidTests := true, laidLooks := .later }
def CutUptoCardSaid : Prop := Claim7.holds Tryz.pinned (.plain (OpenSpec.upto cutSpec)) cutUptoCard

/-- THE SECOND FORM's CARD OF 'pointsmankeep.Sound'. -/
def soundUptoCard : Claim7 := { stood := { row := soundUptoRow, standIns := [], harness := (true, "2c212fd192e9fce293da5ea73a1ca7de20e75beddde5cada366b5530d60c7fb7"), looks := true }, kinds := [], alts := [], laidByText := true, laidKinds := [.data, .data, .data, .sentinel, .sentinel], laidTests := true, laidLooks := .later }
def SoundUptoCardSaid : Prop := Claim7.holds Tryz.pinned (.plain (OpenSpec.upto soundSpec)) soundUptoCard
end Rows
end Go.Proofs.YtegmjgjkcdbmkaaGreatDoor

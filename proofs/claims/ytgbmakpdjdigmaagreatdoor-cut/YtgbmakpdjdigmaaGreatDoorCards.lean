/-
  DERIVED. GIVEN WITH THE SEED: THE CARDS: each row of YtgbmakpdjdigmaaGreatDoorRows.lean that lists a variable, with what it lists TIED to the program's text (the seventh form; the later family's looks); each row that meets fmt, with fmt's text TOLD by the authors' own Lean function (tested against real Go, not proved from fmt's source: count such statements apart). THE CARD IS WHAT COUNTS. Prove the row's statement (the work); the ties are given (YtgbmakpdjdigmaaGreatDoorTie.lean); close each card by the builder's one call (the guide's Derived/Test/ToyasCard.lean, 'card_holds'). Laid BY PROGRAM, IN A SANDBOX (cutbox-door.mjs). By AI agents, Wed Nov 11 2026. No macro, syntax, notation, axiom, sorry.
-/
import Derived.Test.YtgbmakpdjdigmaaGreatDoorRows
import GoSem.ClaimSeven
namespace Go.Proofs.YtgbmakpdjdigmaaGreatDoor
namespace Rows

/-- THE TIED CARD OF 'pointsmanlaw.Texts'. -/
def textsCard : Claim7 := { stood := { row := textsRow, standIns := [], harness := (true, "57354d9d5ce1ad27309de6739af2d1e4aa665c83447365734ee91d6a789b0fa9"), looks := true }, kinds := [], alts := [], laidByText := true, laidKinds := [.data, .data, .data, .sentinel, .sentinel], laidTests := true, laidLooks := .later }
def TextsCardSaid : Prop := Claim7.holds Tryz.pinned (.plain (OpenSpec.ofChange textsSpec)) textsCard

/-- THE TIED CARD OF 'pointsmanlaw.Runs'. -/
def runsCard : Claim7 := { stood := { row := runsRow, standIns := [], harness := (true, "57354d9d5ce1ad27309de6739af2d1e4aa665c83447365734ee91d6a789b0fa9"), looks := true }, kinds := [], alts := [], laidByText := true, laidKinds := [.data, .data, .data, .sentinel, .sentinel], laidTests := true, laidLooks := .later }
def RunsCardSaid : Prop := Claim7.holds Tryz.pinned (.plain (OpenSpec.ofChange runsSpec)) runsCard

/-- THE TIED CARD OF 'pointsmanlaw.Results'. -/
def resultsCard : Claim7 := { stood := { row := resultsRow, standIns := [], harness := (true, "57354d9d5ce1ad27309de6739af2d1e4aa665c83447365734ee91d6a789b0fa9"), looks := true }, kinds := [], alts := [], laidByText := true, laidKinds := [.data, .data, .data, .sentinel, .sentinel], laidTests := true, laidLooks := .later }
def ResultsCardSaid : Prop := Claim7.holds Tryz.pinned (.plain (OpenSpec.ofChange resultsSpec)) resultsCard

/-- THE TIED CARD OF 'pointsmankeep.Closed'. -/
def closedCard : Claim7 := { stood := { row := closedRow, standIns := [], harness := (true, "57354d9d5ce1ad27309de6739af2d1e4aa665c83447365734ee91d6a789b0fa9"), looks := true }, kinds := [], alts := [], laidByText := true, laidKinds := [.data, .data, .data, .sentinel, .sentinel], laidTests := true, laidLooks := .later }
def ClosedCardSaid : Prop := Claim7.holds Tryz.pinned (.plain (OpenSpec.ofChange closedSpec)) closedCard

/-- THE TIED CARD OF 'pointsmankeep.Needed'. -/
def neededCard : Claim7 := { stood := { row := neededRow, standIns := [], harness := (true, "57354d9d5ce1ad27309de6739af2d1e4aa665c83447365734ee91d6a789b0fa9"), looks := true }, kinds := [], alts := [], laidByText := true, laidKinds := [.data, .data, .data, .sentinel, .sentinel], laidTests := true, laidLooks := .later }
def NeededCardSaid : Prop := Claim7.holds Tryz.pinned (.plain (OpenSpec.ofChange neededSpec)) neededCard

/-- THE TIED CARD OF 'pointsmankeep.Grown'. -/
def grownCard : Claim7 := { stood := { row := grownRow, standIns := [], harness := (true, "57354d9d5ce1ad27309de6739af2d1e4aa665c83447365734ee91d6a789b0fa9"), looks := true }, kinds := [], alts := [], laidByText := true, laidKinds := [.data, .data, .data, .sentinel, .sentinel], laidTests := true, laidLooks := .later }
def GrownCardSaid : Prop := Claim7.holds Tryz.pinned (.plain (OpenSpec.ofChange grownSpec)) grownCard

/-- THE TIED CARD OF 'pointsmankeep.Ordered'. -/
def orderedCard : Claim7 := { stood := { row := orderedRow, standIns := [], harness := (true, "57354d9d5ce1ad27309de6739af2d1e4aa665c83447365734ee91d6a789b0fa9"), looks := true }, kinds := [], alts := [], laidByText := true, laidKinds := [.data, .data, .data, .sentinel, .sentinel], laidTests := true, laidLooks := .later }
def OrderedCardSaid : Prop := Claim7.holds Tryz.pinned (.plain (OpenSpec.ofChange orderedSpec)) orderedCard

/-- THE TIED CARD OF 'pointsmankeep.Printed'. -/
def printedCard : Claim7 := { stood := { row := printedRow, standIns := [], harness := (true, "57354d9d5ce1ad27309de6739af2d1e4aa665c83447365734ee91d6a789b0fa9"), looks := true }, kinds := [], alts := [], laidByText := true, laidKinds := [.data, .data, .data, .sentinel, .sentinel], laidTests := true, laidLooks := .later }
def PrintedCardSaid : Prop := Claim7.holds Tryz.pinned (.plain (OpenSpec.ofChange printedSpec)) printedCard

/-- THE TIED CARD OF 'pointsmankeep.Cut'. -/
def cutCard : Claim7 := { stood := { row := cutRow, standIns := [], harness := (true, "57354d9d5ce1ad27309de6739af2d1e4aa665c83447365734ee91d6a789b0fa9"), looks := true }, kinds := [], alts := [], laidByText := true, laidKinds := [.data, .data, .data, .sentinel, .sentinel], laidTests := true, laidLooks := .later }
def CutCardSaid : Prop := Claim7.holds Tryz.pinned (.plain (OpenSpec.ofChange cutSpec)) cutCard

/-- THE TIED CARD OF 'pointsmankeep.Sound'. -/
def soundCard : Claim7 := { stood := { row := soundRow, standIns := [], harness := (true, "57354d9d5ce1ad27309de6739af2d1e4aa665c83447365734ee91d6a789b0fa9"), looks := true }, kinds := [], alts := [], laidByText := true, laidKinds := [.data, .data, .data, .sentinel, .sentinel], laidTests := true, laidLooks := .later }
def SoundCardSaid : Prop := Claim7.holds Tryz.pinned (.plain (OpenSpec.ofChange soundSpec)) soundCard

/-- THE TIED CARD OF 'pointsmanlaw.All'. -/
def allCard : Claim7 := { stood := { row := allRow, standIns := [], harness := (true, "57354d9d5ce1ad27309de6739af2d1e4aa665c83447365734ee91d6a789b0fa9"), looks := true }, kinds := [], alts := [], laidByText := true, laidKinds := [.data, .data, .data, .sentinel, .sentinel], laidTests := true, laidLooks := .later }
def AllCardSaid : Prop := Claim7.holds Tryz.pinned (.plain (OpenSpec.ofChange allSpec)) allCard

/-- THE SECOND FORM's CARD OF 'pointsmanlaw.Texts'. -/
def textsUptoCard : Claim7 := { stood := { row := textsUptoRow, standIns := [], harness := (true, "57354d9d5ce1ad27309de6739af2d1e4aa665c83447365734ee91d6a789b0fa9"), looks := true }, kinds := [], alts := [], laidByText := true, laidKinds := [.data, .data, .data, .sentinel, .sentinel], laidTests := true, laidLooks := .later }
def TextsUptoCardSaid : Prop := Claim7.holds Tryz.pinned (.plain (OpenSpec.upto textsSpec)) textsUptoCard

/-- THE SECOND FORM's CARD OF 'pointsmanlaw.Runs'. -/
def runsUptoCard : Claim7 := { stood := { row := runsUptoRow, standIns := [], harness := (true, "57354d9d5ce1ad27309de6739af2d1e4aa665c83447365734ee91d6a789b0fa9"), looks := true }, kinds := [], alts := [], laidByText := true, laidKinds := [.data, .data, .data, .sentinel, .sentinel], laidTests := true, laidLooks := .later }
def RunsUptoCardSaid : Prop := Claim7.holds Tryz.pinned (.plain (OpenSpec.upto runsSpec)) runsUptoCard

/-- THE SECOND FORM's CARD OF 'pointsmanlaw.Results'. -/
def resultsUptoCard : Claim7 := { stood := { row := resultsUptoRow, standIns := [], harness := (true, "57354d9d5ce1ad27309de6739af2d1e4aa665c83447365734ee91d6a789b0fa9"), looks := true }, kinds := [], alts := [], laidByText := true, laidKinds := [.data, .data, .data, .sentinel, .sentinel], laidTests := true, laidLooks := .later }
def ResultsUptoCardSaid : Prop := Claim7.holds Tryz.pinned (.plain (OpenSpec.upto resultsSpec)) resultsUptoCard

/-- THE SECOND FORM's CARD OF 'pointsmankeep.Closed'. -/
def closedUptoCard : Claim7 := { stood := { row := closedUptoRow, standIns := [], harness := (true, "57354d9d5ce1ad27309de6739af2d1e4aa665c83447365734ee91d6a789b0fa9"), looks := true }, kinds := [], alts := [], laidByText := true, laidKinds := [.data, .data, .data, .sentinel, .sentinel], laidTests := true, laidLooks := .later }
def ClosedUptoCardSaid : Prop := Claim7.holds Tryz.pinned (.plain (OpenSpec.upto closedSpec)) closedUptoCard

/-- THE SECOND FORM's CARD OF 'pointsmankeep.Needed'. -/
def neededUptoCard : Claim7 := { stood := { row := neededUptoRow, standIns := [], harness := (true, "57354d9d5ce1ad27309de6739af2d1e4aa665c83447365734ee91d6a789b0fa9"), looks := true }, kinds := [], alts := [], laidByText := true, laidKinds := [.data, .data, .data, .sentinel, .sentinel], laidTests := true, laidLooks := .later }
def NeededUptoCardSaid : Prop := Claim7.holds Tryz.pinned (.plain (OpenSpec.upto neededSpec)) neededUptoCard

/-- THE SECOND FORM's CARD OF 'pointsmankeep.Grown'. -/
def grownUptoCard : Claim7 := { stood := { row := grownUptoRow, standIns := [], harness := (true, "57354d9d5ce1ad27309de6739af2d1e4aa665c83447365734ee91d6a789b0fa9"), looks := true }, kinds := [], alts := [], laidByText := true, laidKinds := [.data, .data, .data, .sentinel, .sentinel], laidTests := true, laidLooks := .later }
def GrownUptoCardSaid : Prop := Claim7.holds Tryz.pinned (.plain (OpenSpec.upto grownSpec)) grownUptoCard

/-- THE SECOND FORM's CARD OF 'pointsmankeep.Ordered'. -/
def orderedUptoCard : Claim7 := { stood := { row := orderedUptoRow, standIns := [], harness := (true, "57354d9d5ce1ad27309de6739af2d1e4aa665c83447365734ee91d6a789b0fa9"), looks := true }, kinds := [], alts := [], laidByText := true, laidKinds := [.data, .data, .data, .sentinel, .sentinel], laidTests := true, laidLooks := .later }
def OrderedUptoCardSaid : Prop := Claim7.holds Tryz.pinned (.plain (OpenSpec.upto orderedSpec)) orderedUptoCard

/-- THE SECOND FORM's CARD OF 'pointsmankeep.Printed'. -/
def printedUptoCard : Claim7 := { stood := { row := printedUptoRow, standIns := [], harness := (true, "57354d9d5ce1ad27309de6739af2d1e4aa665c83447365734ee91d6a789b0fa9"), looks := true }, kinds := [], alts := [], laidByText := true, laidKinds := [.data, .data, .data, .sentinel, .sentinel], laidTests := true, laidLooks := .later }
def PrintedUptoCardSaid : Prop := Claim7.holds Tryz.pinned (.plain (OpenSpec.upto printedSpec)) printedUptoCard

/-- THE SECOND FORM's CARD OF 'pointsmankeep.Cut'. -/
def cutUptoCard : Claim7 := { stood := { row := cutUptoRow, standIns := [], harness := (true, "57354d9d5ce1ad27309de6739af2d1e4aa665c83447365734ee91d6a789b0fa9"), looks := true }, kinds := [], alts := [], laidByText := true, laidKinds := [.data, .data, .data, .sentinel, .sentinel], laidTests := true, laidLooks := .later }
def CutUptoCardSaid : Prop := Claim7.holds Tryz.pinned (.plain (OpenSpec.upto cutSpec)) cutUptoCard

/-- THE SECOND FORM's CARD OF 'pointsmankeep.Sound'. -/
def soundUptoCard : Claim7 := { stood := { row := soundUptoRow, standIns := [], harness := (true, "57354d9d5ce1ad27309de6739af2d1e4aa665c83447365734ee91d6a789b0fa9"), looks := true }, kinds := [], alts := [], laidByText := true, laidKinds := [.data, .data, .data, .sentinel, .sentinel], laidTests := true, laidLooks := .later }
def SoundUptoCardSaid : Prop := Claim7.holds Tryz.pinned (.plain (OpenSpec.upto soundSpec)) soundUptoCard

/-- THE SECOND FORM's CARD OF 'pointsmanlaw.All'. -/
def allUptoCard : Claim7 := { stood := { row := allUptoRow, standIns := [], harness := (true, "57354d9d5ce1ad27309de6739af2d1e4aa665c83447365734ee91d6a789b0fa9"), looks := true }, kinds := [], alts := [], laidByText := true, laidKinds := [.data, .data, .data, .sentinel, .sentinel], laidTests := true, laidLooks := .later }
def AllUptoCardSaid : Prop := Claim7.holds Tryz.pinned (.plain (OpenSpec.upto allSpec)) allUptoCard
end Rows
end Go.Proofs.YtgbmakpdjdigmaaGreatDoor

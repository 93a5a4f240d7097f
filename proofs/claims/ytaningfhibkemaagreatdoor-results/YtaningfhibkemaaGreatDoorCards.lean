/-
  DERIVED. GIVEN WITH THE SEED: THE CARDS: each row of YtaningfhibkemaaGreatDoorRows.lean that lists a variable, with what it lists TIED to the program's text (the seventh form; the later family's looks); each row that meets fmt, with fmt's text TOLD by the authors' own Lean function (tested against real Go, not proved from fmt's source: count such statements apart). THE CARD IS WHAT COUNTS. Prove the row's statement (the work); the ties are given (YtaningfhibkemaaGreatDoorTie.lean); close each card by the builder's one call (the guide's Derived/Test/ToyasCard.lean, 'card_holds'). Laid BY PROGRAM, IN A SANDBOX (cutbox-door.mjs). By AI agents, Wed Nov 11 2026. No macro, syntax, notation, axiom, sorry.
-/
import Derived.Test.YtaningfhibkemaaGreatDoorRows
import GoSem.ClaimSeven
namespace Go.Proofs.YtaningfhibkemaaGreatDoor
namespace Rows

/-- THE TIED CARD OF 'pointsmanlaw.Results'. -/
def resultsCard : Claim7 := { stood := { row := resultsRow, standIns := [], harness := (true, "9d822e787fd87a2641a47aa053c9f8de474eec892178b5c271cc8dd970a04474"), looks := true }, kinds := [], alts := [], laidByText := true, laidKinds := [.data, .data, .data, .sentinel, .sentinel], laidTests := true, laidLooks := .later }
def ResultsCardSaid : Prop := Claim7.holds Tryz.pinned (.plain (OpenSpec.ofChange resultsSpec)) resultsCard

/-- THE SECOND FORM's CARD OF 'pointsmanlaw.Results'. -/
def resultsUptoCard : Claim7 := { stood := { row := resultsUptoRow, standIns := [], harness := (true, "9d822e787fd87a2641a47aa053c9f8de474eec892178b5c271cc8dd970a04474"), looks := true }, kinds := [], alts := [], laidByText := true, laidKinds := [.data, .data, .data, .sentinel, .sentinel], laidTests := true, laidLooks := .later }
def ResultsUptoCardSaid : Prop := Claim7.holds Tryz.pinned (.plain (OpenSpec.upto resultsSpec)) resultsUptoCard
end Rows
end Go.Proofs.YtaningfhibkemaaGreatDoor

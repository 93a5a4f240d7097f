/- For every text Results returns true, and the text reads behind the call as before it (P3, P6, P7: Analyse of every text tells what is wrong first, and where, as the document's own reader tells it, or gives a result whose sets, asked for all variables, fields and calls that there are and some that there are not, are just the least ones). Condition: the listed package-level variables of Go's library are laid as the program's text lays them (the card ties them). -/
import Derived.Test.YtaningfhibkemaaGreatDoorG39
import Derived.Test.YtaningfhibkemaaGreatDoorTie
import Derived.Test.YtaningfhibkemaaGreatDoorCards
import Derived.SevenTiedAt
namespace Go.Proofs.YtaningfhibkemaaGreatDoor
open Go Go.Proofs.Tryz
open Option renaming none->Z,some->T
open Go.Value renaming int->G,slice->Y
open Go.IntKind renaming i64->A
theorem results_card_holds:Rows.ResultsCardSaid:=
 Claim7.holds_tied_plain_at .later [] [.data,.data,.data,.sentinel,.sentinel] true Rows.resultsCard.stood.harness true
  M7 (fun _ h=>by cases h) (by kernel_rfl) (fun _ h=>by cases h) results_row_tie rfl ⟨rfl,rfl⟩ (by kernel_rfl) rfl
  (fun f b d e=>by
    obtain rfl:f=3:=kA ((show Tryz.prog.funcNamed "pointsman/pointsmanlaw.Results" =T 3 by kernel_rfl).symm.trans d)|>.symm
    obtain rfl:b=Tryz.f3:=(kA (Tryz.func3.symm.trans e)).symm;exact⟨by kernel_rfl,fun j t a=>by
     rw[Tryz.params3]at a;have g:t∈[9]:=by simpa using Array.mem_of_getElem? a
     have c:([9].all fun u=>!Tryz.prog.wantsStandIn u)=true:=by kernel_rfl
     exact(show Tryz.prog.wantsStandIn t=false by simpa using List.all_eq_true.1 c t g)⟩)
  (by kernel_rfl)
#print axioms results_card_holds

/- For every list of lines, every text of choices and every number of steps Printed returns true, and its arguments read behind the call as before it (P4: what is printed is the same program: printed again it is the same text, its sets are the same, and so are its runs). Condition: the listed package-level variables of Go's library are laid as the program's text lays them (the card ties them). -/
import Derived.Test.YtegmjgjkcdbmkaaGreatDoorP11
import Derived.Test.YtegmjgjkcdbmkaaGreatDoorTie
import Derived.Test.YtegmjgjkcdbmkaaGreatDoorCards
import Derived.SevenTiedAt
namespace Go.Proofs.YtegmjgjkcdbmkaaGreatDoor
open Go
theorem printed_card_holds:Rows.PrintedCardSaid:=
 Claim7.holds_tied_plain_at .later [] [.data,.data,.data,.sentinel,.sentinel] true Rows.printedCard.stood.harness true
  sG (fun _ h=>by cases h) (by kernel_rfl) (fun _ h=>by cases h) printed_row_tie rfl ⟨rfl,rfl⟩ (by kernel_rfl) rfl
  (fun f b d e=>by
    obtain rfl:f=7:=Option.some.inj ((show Tryz.prog.funcNamed "pointsman/pointsmankeep.Printed" =some 7 by kernel_rfl).symm.trans d) |>.symm
    obtain rfl:b=Tryz.f7:=(Option.some.inj (Tryz.func7.symm.trans e)).symm;exact ⟨by kernel_rfl,fun j t a=>by
     rw [Tryz.params7] at a;have g:t∈[22,9,3]:=by simpa using Array.mem_of_getElem? a
     have c:([22,9,3].all fun u=>!Tryz.prog.wantsStandIn u)=true:=by kernel_rfl
     exact (show Tryz.prog.wantsStandIn t=false by simpa using List.all_eq_true.1 c t g)⟩)
  (by kernel_rfl)
#print axioms printed_card_holds
end Go.Proofs.YtegmjgjkcdbmkaaGreatDoor

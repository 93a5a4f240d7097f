/- For every list of lines Closed returns true, and its argument reads behind the call as before it (P6, P7: the sets that a result tells of a program made of these lines meet the rule of each of its statements). Condition: the listed package-level variables of Go's library are laid as the program's text lays them (the card ties them). -/
import Derived.Test.YtegmjgjkcdbmkaaGreatDoorG50
import Derived.Test.YtegmjgjkcdbmkaaGreatDoorTie
import Derived.Test.YtegmjgjkcdbmkaaGreatDoorCards
import Derived.SevenTiedAt
namespace Go.Proofs.YtegmjgjkcdbmkaaGreatDoor
open Go
theorem closed_card_holds:Rows.ClosedCardSaid:=
 Claim7.holds_tied_plain_at .later [] [.data,.data,.data,.sentinel,.sentinel] true Rows.closedCard.stood.harness true
  MD (fun _ h=>by cases h) (by kernel_rfl) (fun _ h=>by cases h) closed_row_tie rfl ⟨rfl,rfl⟩ (by kernel_rfl) rfl
  (fun f b d e=>by
    obtain rfl:f=3:=Option.some.inj ((show Tryz.prog.funcNamed "pointsman/pointsmankeep.Closed" =some 3 by kernel_rfl).symm.trans d) |>.symm
    obtain rfl:b=Tryz.f3:=(Option.some.inj (Tryz.func3.symm.trans e)).symm;exact ⟨by kernel_rfl,fun j t a=>by
     rw [Tryz.params3] at a;have g:t∈[22]:=by simpa using Array.mem_of_getElem? a
     have c:([22].all fun u=>!Tryz.prog.wantsStandIn u)=true:=by kernel_rfl
     exact (show Tryz.prog.wantsStandIn t=false by simpa using List.all_eq_true.1 c t g)⟩)
  (by kernel_rfl)
#print axioms closed_card_holds
end Go.Proofs.YtegmjgjkcdbmkaaGreatDoor

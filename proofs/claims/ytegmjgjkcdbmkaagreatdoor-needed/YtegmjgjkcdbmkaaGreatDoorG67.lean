/- For every list of lines and every number Needed returns true, and its arguments read behind the call as before it (P6: what is told needs a statement that brings it about). Condition: the listed package-level variables of Go's library are laid as the program's text lays them (the card ties them). -/
import Derived.Test.YtegmjgjkcdbmkaaGreatDoorG66
import Derived.Test.YtegmjgjkcdbmkaaGreatDoorTie
import Derived.Test.YtegmjgjkcdbmkaaGreatDoorCards
import Derived.SevenTiedAt
namespace Go.Proofs.YtegmjgjkcdbmkaaGreatDoor
open Go
theorem needed_card_holds:Rows.NeededCardSaid:=
 Claim7.holds_tied_plain_at .later [] [.data,.data,.data,.sentinel,.sentinel] true Rows.neededCard.stood.harness true
  gR (fun _ h=>by cases h) (by kernel_rfl) (fun _ h=>by cases h) needed_row_tie rfl ⟨rfl,rfl⟩ (by kernel_rfl) rfl
  (fun f b d e=>by
    obtain rfl:f=4:=Option.some.inj ((show Tryz.prog.funcNamed "pointsman/pointsmankeep.Needed" =some 4 by kernel_rfl).symm.trans d) |>.symm
    obtain rfl:b=Tryz.f4:=(Option.some.inj (Tryz.func4.symm.trans e)).symm;exact ⟨by kernel_rfl,fun j t a=>by
     rw [Tryz.params4] at a;have g:t∈[22,3]:=by simpa using Array.mem_of_getElem? a
     have c:([22,3].all fun u=>!Tryz.prog.wantsStandIn u)=true:=by kernel_rfl
     exact (show Tryz.prog.wantsStandIn t=false by simpa using List.all_eq_true.1 c t g)⟩)
  (by kernel_rfl)
#print axioms needed_card_holds
end Go.Proofs.YtegmjgjkcdbmkaaGreatDoor

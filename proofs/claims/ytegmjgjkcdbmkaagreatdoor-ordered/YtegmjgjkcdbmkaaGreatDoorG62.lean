/- For every list of lines and every list of numbers Ordered returns true, and its arguments read behind the call as before it (P6: a program's sets are those of the one whose lines stand in another order, within other blocks). Condition: the listed package-level variables of Go's library are laid as the program's text lays them (the card ties them). -/
import Derived.Test.YtegmjgjkcdbmkaaGreatDoorG61
import Derived.Test.YtegmjgjkcdbmkaaGreatDoorTie
import Derived.Test.YtegmjgjkcdbmkaaGreatDoorCards
import Derived.SevenTiedAt
namespace Go.Proofs.YtegmjgjkcdbmkaaGreatDoor
open Go
theorem ordered_card_holds:Rows.OrderedCardSaid:=
 Claim7.holds_tied_plain_at .later [] [.data,.data,.data,.sentinel,.sentinel] true Rows.orderedCard.stood.harness true
  fS (fun _ h=>by cases h) (by kernel_rfl) (fun _ h=>by cases h) ordered_row_tie rfl ⟨rfl,rfl⟩ (by kernel_rfl) rfl
  (fun f b d e=>by
    obtain rfl:f=6:=Option.some.inj ((show Tryz.prog.funcNamed "pointsman/pointsmankeep.Ordered" =some 6 by kernel_rfl).symm.trans d) |>.symm
    obtain rfl:b=Tryz.f6:=(Option.some.inj (Tryz.func6.symm.trans e)).symm;exact ⟨by kernel_rfl,fun j t a=>by
     rw [Tryz.params6] at a;have g:t∈[22,37]:=by simpa using Array.mem_of_getElem? a
     have c:([22,37].all fun u=>!Tryz.prog.wantsStandIn u)=true:=by kernel_rfl
     exact (show Tryz.prog.wantsStandIn t=false by simpa using List.all_eq_true.1 c t g)⟩)
  (by kernel_rfl)
#print axioms ordered_card_holds
end Go.Proofs.YtegmjgjkcdbmkaaGreatDoor

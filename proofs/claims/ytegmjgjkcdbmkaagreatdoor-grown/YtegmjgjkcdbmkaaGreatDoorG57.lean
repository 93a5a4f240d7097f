/- For every two lists of lines Grown returns true, and its arguments read behind the call as before it (P6: of a program, and of the same one with lines more behind the last function's, every set of the one is within that of the other). Condition: the listed package-level variables of Go's library are laid as the program's text lays them (the card ties them). -/
import Derived.Test.YtegmjgjkcdbmkaaGreatDoorG56
import Derived.Test.YtegmjgjkcdbmkaaGreatDoorTie
import Derived.Test.YtegmjgjkcdbmkaaGreatDoorCards
import Derived.SevenTiedAt
namespace Go.Proofs.YtegmjgjkcdbmkaaGreatDoor
open Go
theorem grown_card_holds:Rows.GrownCardSaid:=
 Claim7.holds_tied_plain_at .later [] [.data,.data,.data,.sentinel,.sentinel] true Rows.grownCard.stood.harness true
  eU (fun _ h=>by cases h) (by kernel_rfl) (fun _ h=>by cases h) grown_row_tie rfl ⟨rfl,rfl⟩ (by kernel_rfl) rfl
  (fun f b d e=>by
    obtain rfl:f=5:=Option.some.inj ((show Tryz.prog.funcNamed "pointsman/pointsmankeep.Grown" =some 5 by kernel_rfl).symm.trans d) |>.symm
    obtain rfl:b=Tryz.f5:=(Option.some.inj (Tryz.func5.symm.trans e)).symm;exact ⟨by kernel_rfl,fun j t a=>by
     rw [Tryz.params5] at a;have g:t∈[22,22]:=by simpa using Array.mem_of_getElem? a
     have c:([22,22].all fun u=>!Tryz.prog.wantsStandIn u)=true:=by kernel_rfl
     exact (show Tryz.prog.wantsStandIn t=false by simpa using List.all_eq_true.1 c t g)⟩)
  (by kernel_rfl)
#print axioms grown_card_holds
end Go.Proofs.YtegmjgjkcdbmkaaGreatDoor

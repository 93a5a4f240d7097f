/- For every list of lines and every two numbers Cut returns true, and its arguments read behind the call as before it (P3: a text that ends within its first head is refused at its end by Print, Run and Analyse; one with a byte that is no token's is refused at that byte). Condition: the listed package-level variables of Go's library are laid as the program's text lays them (the card ties them). -/
import Derived.Test.YtegmjgjkcdbmkaaGreatDoorG11
import Derived.Test.YtegmjgjkcdbmkaaGreatDoorTie
import Derived.Test.YtegmjgjkcdbmkaaGreatDoorCards
import Derived.SevenTiedAt
namespace Go.Proofs.YtegmjgjkcdbmkaaGreatDoor
open Go
theorem cut_card_holds:Rows.CutCardSaid:=
 Claim7.holds_tied_plain_at .later [] [.data,.data,.data,.sentinel,.sentinel] true Rows.cutCard.stood.harness true
  G1 (fun _ h=>by cases h) (by kernel_rfl) (fun _ h=>by cases h) cut_row_tie rfl ⟨rfl,rfl⟩ (by kernel_rfl) rfl
  (fun f b d e=>by
    obtain rfl:f=8:=Option.some.inj ((show Tryz.prog.funcNamed "pointsman/pointsmankeep.Cut" =some 8 by kernel_rfl).symm.trans d) |>.symm
    obtain rfl:b=Tryz.f8:=(Option.some.inj (Tryz.func8.symm.trans e)).symm;exact ⟨by kernel_rfl,fun j t a=>by
     rw [Tryz.params8] at a;have g:t∈[22,3,3]:=by simpa using Array.mem_of_getElem? a
     have c:([22,3,3].all fun u=>!Tryz.prog.wantsStandIn u)=true:=by kernel_rfl
     exact (show Tryz.prog.wantsStandIn t=false by simpa using List.all_eq_true.1 c t g)⟩)
  (by kernel_rfl)
#print axioms cut_card_holds
end Go.Proofs.YtegmjgjkcdbmkaaGreatDoor

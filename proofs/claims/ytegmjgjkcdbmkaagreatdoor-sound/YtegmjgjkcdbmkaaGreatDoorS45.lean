/- Sound: for every list of lines, every choices and every number of steps the law returns true: no run of the program that they make shows what its analysis does not tell. Condition: the listed package-level variables of Go's library are laid as the program's text lays them (the card ties them). -/
import Derived.Test.YtegmjgjkcdbmkaaGreatDoorS44
import Derived.Test.YtegmjgjkcdbmkaaGreatDoorTie
import Derived.Test.YtegmjgjkcdbmkaaGreatDoorCards
import Derived.SevenTiedAt
namespace Go.Proofs.YtegmjgjkcdbmkaaGreatDoor
open Go
theorem sound_card_holds:Rows.SoundCardSaid:=
 Claim7.holds_tied_plain_at .later [] [.data,.data,.data,.sentinel,.sentinel] true Rows.soundCard.stood.harness true
  kW (fun _ h=>by cases h) (by kernel_rfl) (fun _ h=>by cases h) sound_row_tie rfl ⟨rfl,rfl⟩ (by kernel_rfl) rfl
  (fun f b d e=>by
    obtain rfl:f=9:=Option.some.inj ((show Tryz.prog.funcNamed "pointsman/pointsmankeep.Sound" =some 9 by kernel_rfl).symm.trans d) |>.symm
    obtain rfl:b=Tryz.f9:=(Option.some.inj (Tryz.func9.symm.trans e)).symm;exact ⟨by kernel_rfl,fun j t a=>by
     rw [Tryz.params9] at a;have g:t∈[22,9,3]:=by simpa using Array.mem_of_getElem? a
     have c:([22,9,3].all fun u=>!Tryz.prog.wantsStandIn u)=true:=by kernel_rfl
     exact (show Tryz.prog.wantsStandIn t=false by simpa using List.all_eq_true.1 c t g)⟩)
  (by kernel_rfl)
#print axioms sound_card_holds
end Go.Proofs.YtegmjgjkcdbmkaaGreatDoor

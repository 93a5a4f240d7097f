/- One of the texts of the proof of texts_card_holds: short words. -/
import Derived.Test.YtmaankfbhhbeoaaGreatDoorProg
import Derived.Below
import Derived.WalkKit
import Derived.WalkSpells
import Derived.WalkLawsBesides
import Derived.RegionTactic
import Derived.ChangeAlike
namespace Go.Proofs.YtmaankfbhhbeoaaGreatDoor
open Go.RowKit
abbrev Ng:=@List.getElem?_cons_zero
abbrev Nh:=@List.getElem?_cons_succ
abbrev Ni:=@List.getElem?_toArray
def Nj(p:Prop):Prop:=p
theorem Nj.o{p:Prop}(h:Nj p):p:=h
end Go.Proofs.YtmaankfbhhbeoaaGreatDoor

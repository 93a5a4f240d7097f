/- One of the texts of the proof of cut_card_holds: short words. -/
import Derived.Test.YtegmjgjkcdbmkaaGreatDoorProg
import Derived.Below
import Derived.WalkKit
import Derived.WalkSpells
import Derived.WalkLawsBesides
import Derived.RegionTactic
import Derived.ChangeAlike
namespace Go.Proofs.YtegmjgjkcdbmkaaGreatDoor
open Go.RowKit
abbrev aS:=@List.getElem?_cons_zero
abbrev aT:=@List.getElem?_cons_succ
abbrev aU:=@List.getElem?_toArray
def dJ(p:Prop):Prop:=p
theorem dJ.o{p:Prop}(h:dJ p):p:=h
end Go.Proofs.YtegmjgjkcdbmkaaGreatDoor

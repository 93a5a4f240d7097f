/- One of the texts of the proof: short words. -/
import Derived.Test.YtegmjgjkcdbmkaaGreatDoorProg
import Derived.Below
import Derived.WalkKit
import Derived.WalkSpells
import Derived.WalkLawsBesides
import Derived.RegionTactic
import Derived.ChangeAlike
namespace Go.Proofs.YtegmjgjkcdbmkaaGreatDoor
open Go.RowKit
abbrev dJ:=@List.getElem?_cons_zero
abbrev dK:=@List.getElem?_cons_succ
abbrev dM:=@List.getElem?_toArray
def dN(p:Prop):Prop:=p
theorem dN.o{p:Prop}(h:dN p):p:=h
end Go.Proofs.YtegmjgjkcdbmkaaGreatDoor

/- One of the texts of the proof: short words. -/
import Derived.Test.YtegmjgjkcdbmkaaGreatDoorProg
import Derived.Below
import Derived.WalkKit
import Derived.WalkSpells
import Derived.WalkLawsBesides
import Derived.RegionTactic
import Derived.ChangeAlike
namespace Go.Proofs.YtegmjgjkcdbmkaaGreatDoor
open Go.RowKit
abbrev dJ:=@List.getElem?_cons_zero
abbrev dK:=@List.getElem?_cons_succ
abbrev dM:=@List.getElem?_toArray
abbrev rM:=@World.cell?_of_block
abbrev rN:=@Nat.le_refl
abbrev rO:=@Nat.le_trans
abbrev rP:=@Nat.lt_of_lt_of_le
abbrev rQ:=@List.getElem_mem
abbrev rR:=@Nat.zero_le
abbrev rS:=@World.frozen?_of_block
abbrev rT:=@List.mem_cons_of_mem
abbrev rU:=@List.getElem?_eq_getElem
abbrev rV:=@List.length_append
abbrev rW:=@List.length_cons
abbrev rX:=@List.length_map
def dN(p:Prop):Prop:=p
theorem dN.o{p:Prop}(h:dN p):p:=h
end Go.Proofs.YtegmjgjkcdbmkaaGreatDoor

/- One of the texts of the proof: short words. -/
import Derived.Test.YtaningfhibkemaaGreatDoorProg
import Derived.Below
import Derived.WalkKit
import Derived.WalkSpells
import Derived.WalkLawsBesides
import Derived.RegionTactic
import Derived.ChangeAlike
namespace Go.Proofs.YtaningfhibkemaaGreatDoor
open Go.RowKit
abbrev gF:=@List.getElem?_cons_zero
abbrev gG:=@List.getElem?_cons_succ
abbrev gH:=@List.getElem?_toArray
abbrev gI:=@Nat.le_refl
abbrev gJ:=@World.cell?_of_block
abbrev gK:=@List.length_cons
abbrev gL:=@List.getElem?_eq_getElem
abbrev gM:=@List.length_append
abbrev gN:=@Option.some.injEq
abbrev gO:=@World.frozen?_of_block
abbrev gP:=@bodyPost_ret
abbrev gQ:=@List.getElem_mem
abbrev gR:=@World.ownsRow_nil
abbrev gS:=@Below.heap_alloc
abbrev gT:=@List.drop_eq_getElem_cons
abbrev gU:=@Obj.cells.injEq
abbrev gV:=@Nat.zero_le
abbrev gW:=@Nat.le_trans
abbrev gX:=@Nat.add_zero
abbrev gY:=@Nat.lt_of_lt_of_le
abbrev gZ:=@List.length_nil
abbrev iA:=@List.mem_cons_of_mem
abbrev iB:=@List.mem_singleton
abbrev iC:=@List.length_singleton
abbrev iD:=@List.getElem_cons_zero
abbrev iE:=@List.getElem_append_right
abbrev iF:=@List.mem_iff_getElem
abbrev iG:=@List.getElem_append_left
abbrev iH:=@List.not_mem_nil
abbrev iI:=@List.getElem?_eq_none
abbrev iJ:=@List.length_map
abbrev iK:=@List.map_cons
abbrev iL:=@List.getElem?_map
abbrev iM:=@List.mem_append
abbrev iN:=@List.take_succ_eq_append_getElem
abbrev iO:=@Nat.zero_add
abbrev iP:=@List.append_nil
abbrev iQ:=@wpList_append_own
abbrev iR:=@List.foldl_cons
abbrev iS:=@List.sum_cons
abbrev iT:=@List.mem_map
abbrev iU:=@List.getElem_map
abbrev iV:=@Prod.mk.injEq
abbrev iW:=@Nat.lt_or_ge
abbrev iX:=@List.getElem_cons_succ
abbrev iY:=@List.take_succ_cons
abbrev iZ:=@List.mem_cons
abbrev jA:=@beq_eq_false_iff_ne
abbrev jB:=@List.ext_getElem
abbrev jC:=@List.foldl_nil
abbrev jD:=@decide_eq_true_eq
abbrev jE:=@List.nil_append
abbrev jF:=@List.mem_cons_self
abbrev jG:=@if_neg
abbrev jH:=@if_pos
abbrev jI:=@List.getElem?_append_right
abbrev jJ:=@List.getElem?_append_left
abbrev jK:=@List.append_assoc
abbrev jL:=@List.length_set
abbrev jM:=@List.drop_length
abbrev jN:=@List.drop_succ_cons
abbrev jO:=@absurd
abbrev jP:=@List.map_append
abbrev jQ:=@Option.some.inj
abbrev jR:=@ByteArray.data_extract
abbrev jS:=@ByteArray.toList_eq
abbrev jT:=@List.mem_append_right
abbrev Ab:=@List.setIfInBounds_toArray
abbrev An:=@List.set_cons_zero
abbrev jU:=@List.set_cons_succ
def D(p:Prop):Prop:=p
theorem D.o{p:Prop}(h:D p):p:=h
abbrev kD(_:Nat):Prop:=False
theorem jV{p:Prop}(h:p:=by repeat(first|exact O.refl _ _|refine O.drew ?_|refine O.drewN ?_ _|refine O.alloc ?_ _)):p:=h
theorem Z{p:Prop}(h:p:=by omega):p:=h
theorem T{p:Prop}(h:p:=by decide):p:=h
theorem jW{p:Prop}(h:p:=by kernel_rfl):p:=h
theorem jX{p:Prop}(h:p:=by simp;omega):p:=h
theorem jY{p:Prop}(h:p:=by simp):p:=h
theorem jZ{p:Prop}(h:p:=by unfold maxLen;omega):p:=h
theorem kA{p:Prop}(h:p:=by as_aux_lemma=>kernel_rfl):p:=h
theorem kB{p:Prop}(h:p:=by rfl):p:=h
theorem kC{p:Prop}(h:p:=by simp only;omega):p:=h
end Go.Proofs.YtaningfhibkemaaGreatDoor

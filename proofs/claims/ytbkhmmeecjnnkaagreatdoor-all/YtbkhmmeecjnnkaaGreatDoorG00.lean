/- One of the texts of the proof: short words. -/
import Derived.Test.YtbkhmmeecjnnkaaGreatDoorProg
import Derived.Below
import Derived.WalkKit
import Derived.WalkSpells
import Derived.WalkLawsBesides
import Derived.RegionTactic
import Derived.ChangeAlike
import Derived.Deep.RegionHeld
namespace Go.Proofs.YtbkhmmeecjnnkaaGreatDoor
open Go.RowKit
abbrev Aa:=@List.getElem?_cons_zero
abbrev Ab:=@List.getElem?_cons_succ
abbrev Ac:=@List.getElem?_toArray
abbrev Ad:=@Nat.le_refl
abbrev Ae:=@World.cell?_of_block
abbrev Af:=@List.length_cons
abbrev Ag:=@List.getElem?_eq_getElem
abbrev Ah:=@List.length_append
abbrev Ai:=@Option.some.injEq
abbrev Aj:=@World.frozen?_of_block
abbrev Ak:=@bodyPost_ret
abbrev Am:=@List.getElem_mem
abbrev An:=@World.ownsRow_nil
abbrev Ao:=@Below.heap_alloc
abbrev Ap:=@List.drop_eq_getElem_cons
abbrev Aq:=@Obj.cells.injEq
abbrev Ar:=@Nat.zero_le
abbrev As:=@Nat.le_trans
abbrev Au:=@Nat.add_zero
abbrev Av:=@Nat.lt_of_lt_of_le
abbrev Aw:=@List.length_nil
abbrev Ax:=@List.mem_cons_of_mem
abbrev Ay:=@List.mem_singleton
abbrev Az:=@List.length_singleton
abbrev AA:=@List.getElem_cons_zero
abbrev AB:=@List.getElem_append_right
abbrev AC:=@List.mem_iff_getElem
abbrev AD:=@List.getElem_append_left
abbrev AE:=@List.not_mem_nil
abbrev AF:=@List.getElem?_eq_none
abbrev AG:=@List.length_map
abbrev AH:=@List.map_cons
abbrev AI:=@List.getElem?_map
abbrev AJ:=@List.mem_append
abbrev AK:=@List.take_succ_eq_append_getElem
abbrev AM:=@Nat.zero_add
abbrev AN:=@List.append_nil
abbrev AO:=@wpList_append_own
abbrev AP:=@List.foldl_cons
abbrev AQ:=@List.sum_cons
abbrev AS:=@List.mem_map
abbrev AT:=@List.getElem_map
abbrev AU:=@Prod.mk.injEq
abbrev AV:=@Nat.lt_or_ge
abbrev AW:=@List.getElem_cons_succ
abbrev AX:=@List.take_succ_cons
abbrev AY:=@List.mem_cons
abbrev AZ:=@beq_eq_false_iff_ne
abbrev A5:=@List.ext_getElem
abbrev A6:=@List.foldl_nil
abbrev A7:=@decide_eq_true_eq
abbrev A8:=@List.nil_append
abbrev A9:=@List.mem_cons_self
abbrev Ba:=@if_neg
abbrev Bb:=@if_pos
abbrev Bc:=@List.getElem?_append_right
abbrev Be:=@List.getElem?_append_left
abbrev Bh:=@List.append_assoc
abbrev Bi:=@List.length_set
abbrev Bj:=@List.drop_length
abbrev Bl:=@List.drop_succ_cons
abbrev Bm:=@absurd
abbrev Bn:=@List.map_append
abbrev Bo:=@Option.some.inj
abbrev Bq:=@ByteArray.data_extract
abbrev Br:=@ByteArray.toList_eq
abbrev Bs:=@List.mem_append_right
abbrev Bu:=@List.setIfInBounds_toArray
abbrev Bv:=@List.set_cons_zero
abbrev Bw:=@List.set_cons_succ
abbrev Bx:=@info_parts
abbrev Bz:=@List.getElem?_eq_some_iff
abbrev BA:=@Option.map_some
abbrev BB:=@heap_alloc_new
abbrev BC:=@Classical.byContradiction
abbrev BD:=@if_true
abbrev BE:=@if_false
abbrev BG:=@congrArg
abbrev BH:=@List.mem_of_getElem?
abbrev BI:=@IntKind.wrap_i64
abbrev BJ:=@List.take_of_length_le
abbrev BK:=@Option.getD_some
abbrev BM:=@Nat.lt_of_le_of_lt
abbrev BN:=@List.mem_append_left
abbrev BQ:=@beq_iff_eq
abbrev BS:=@Array.length_toList
abbrev BU:=@Value.slice.injEq
abbrev BW:=@List.size_toArray
abbrev BY:=@AllReadyH.cons
abbrev BZ:=@AllReadyH.nil
abbrev Ca:=@wpAnyH_ready
def D(p:Prop):Prop:=p
theorem D.o{p:Prop}(h:D p):p:=h
abbrev Cc:=List ByteArray
abbrev Cd:=ByteArray
abbrev Ce:=Nat->Prop
abbrev Cf:=List Nat
abbrev Cg:=Array Value
abbrev Ch:=Option Addr
abbrev Ci:=List Value
abbrev Cj:=List UInt8
abbrev Cm:=DataW Unit
abbrev Cb(_:Nat):Prop:=False
instance:CoeOut World Nat:=⟨λw=>w.heap.size⟩
instance:Coe Nat Addr:=⟨λb=>⟨b,0,none⟩⟩
instance {b i:Nat}:CoeDep (Nat × Nat) (b,i) Addr:=⟨⟨b,i,none⟩⟩
instance {b i:Nat}:CoeDep (Nat × Nat) (b,i) (Option Addr):=⟨some ⟨b,i,none⟩⟩
instance {w:World} {i:Nat}:CoeDep (World × Nat) (w,i) Addr:=⟨⟨w.heap.size,i,none⟩⟩
instance {w:World} {i:Nat}:CoeDep (World × Nat) (w,i) (Option Addr):=⟨some ⟨w.heap.size,i,none⟩⟩
instance:CoeFun World (λ_=>Addr → Option Value):=⟨World.cell?⟩
instance {α}:CoeOut (List α) Nat:=⟨List.length⟩
instance {α}:CoeOut (Array α) Nat:=⟨Array.size⟩
instance:CoeOut ByteArray Nat:=⟨ByteArray.size⟩
instance:Coe Int Value:=⟨.int .i64⟩
instance:Coe Nat Value:=⟨λn=>.int .i64 n⟩
instance:Coe ByteArray Value:=⟨.string⟩
instance:Coe Bool Value:=⟨.bool⟩
instance:Coe Value Ending:=⟨.returned⟩
end Go.Proofs.YtbkhmmeecjnnkaaGreatDoor

/- One of the texts of the proof: KlE. -/
import Derived.Test.YtegmjgjkcdbmkaaGreatDoorS26
import Derived.Deep.MidRow
set_option maxRecDepth 100000
set_option maxHeartbeats 4000000
namespace Go.Proofs.YtegmjgjkcdbmkaaGreatDoor
open Go.RowKit
theorem Tryz.infoSets:(Tryz.prog.info? 33).map (·.size)=some 18:=by kernel_rfl
theorem Tryz.rowSets:∃d,Tryz.prog.underlying 33=some d∧d.isRow=true:=⟨_,Tryz.underlying33,rfl⟩
theorem J7{f:Array Oper}{g:List Oper}{e:Oper}{a:Act}{w:World}{Q:Exit→Act→World→Prop}(l:e.guard=none)(x:Operand)(m:e.op=.load 33 x)(b:Nat)(p:a.eval x=.pointer (some ⟨b,0,none⟩))(c:Array Value)(q:c.size=18)(i:Ak b c 33 w)
 (h:wpList Tryz.prog f Q g (a.put e.dst (.agg c)) w):wpList Tryz.prog f Q (e::g) a w:=by
 obtain ⟨d,n,k⟩:=Tryz.rowSets;refine wpList_load_mid l _ x m b 0 p c.toList d (fun j v o=>?_) n k ?_ ?_
 ·rw [Nat.zero_add,i.cell j];simpa using o
 ·rw [Tryz.infoSets];simp [q]
 ·simpa using h
theorem Ek.size{w c b a T}(h:Ek w c b a T):(Fv c b a).size=18:=by have:=h.v16;simp [Fv,this]
theorem Ek.at_{w g d b T}(h:Ek w g d b T){f v:Nat}(k:f<4)(l:v<4){u:Value}(e:(Fv g d b)[f*4+v]? =some u):Au 0 w u (FD T f v):=by obtain ⟨a,c,i,j⟩:=h.var k l;rw [i] at e;rw [←Option.some.inj e];exact j
def Yu(f:Nat):ByteArray:=⟨#[64]⟩++Kz f
end Go.Proofs.YtegmjgjkcdbmkaaGreatDoor

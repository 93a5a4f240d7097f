/- One of the texts of the proof: CuD. -/
import Derived.Test.YtegmjgjkcdbmkaaGreatDoorS27
import Derived.Test.YtegmjgjkcdbmkaaGreatDoorRows
import Derived.ProofKit
import Derived.SizedLaws
import Derived.Deep.Slices
import Derived.Carry
import Derived.LaidMore
import Derived.OpenShut
import Derived.Stop.Joined
namespace Go.Proofs.YtegmjgjkcdbmkaaGreatDoor
open Go.ChangeShapes Go.WideShapes Go.ChangeAt Go.RowKit
theorem Tryz.own:ownKnob Tryz.prog.godebug=none:=by kernel_rfl
theorem Tryz.laidOut:laidOutB Tryz.prog=true:=by kernel_rfl
theorem Tryz.cellsLn:Tryz.prog.cellsOf 44=6:=by kernel_rfl
theorem Tryz.cellsI:Tryz.prog.cellsOf 3=1:=by kernel_rfl
def KI:Option TypeDesc→List (TypeId×Nat)
 | some (.struct a)=>a.toList.map (fun f=>(f.type,f.offset))
 | _=>[]
theorem Tryz.structLn:KI (Tryz.prog.underlying 44)=[(3,0),(3,1),(3,2),(3,3),(3,4),(3,5)]:=by kernel_rfl
theorem ZJ{n:Int}(h:(Lit.int .i64 n).wf=true):GO n:=by have a:IntKind.i64.min= -9223372036854775808:=rfl;have b:IntKind.i64.max=9223372036854775807:=rfl;simp only [Lit.wf,Bool.and_eq_true,decide_eq_true_eq] at h;exact ⟨by omega,by omega⟩
theorem Sl{w:World}{a:Addr}{v:Value}(h:w.cell? a=some v):a.spot=none∧a.block<w.heap.size:=by
 unfold World.cell? at h;split at h
 ·rename_i c e f b;split at h
  ·cases h
  ·rename_i d;exact ⟨by simpa using d,(Array.getElem?_eq_some_iff.1 b).1⟩
 ·cases h
theorem Sk{w:World}{b o j:Nat}{v:Value}(h:w.cell? ((⟨b,o,none⟩:Addr).add j)=some v):w.cell? ⟨b,o+j,none⟩=some v:=by
 unfold Addr.add at h;split at h
 ·rename_i a;subst a;exact h
 ·exact h
section
variable {H : Type} {k : TypeId × Value → H} {W : World}
theorem SG{n:Nat}{a:List Value}{d:List (DataW H×List MemPlace)}{i:Nat}{f:Field}(c:DataW.trod k Tryz.prog W 0 (fun _=>true) true n f.type ((a.drop f.offset).take (Tryz.prog.cellsOf f.type))=d[i]?)(j:f.type=3)(h:f.offset=i)(l:i<d.length)(g:i<a.length):∃m:Int,a[i]=.int .i64 m∧GO m:=by rw [j,h,Tryz.cellsI,rU l] at c;obtain ⟨m,b,_,e⟩:=DataW.trod_int Tryz.underlying3 c;rw [List.drop_eq_getElem_cons g,List.take_succ_cons,List.take_zero] at b;exact ⟨m,(List.cons.inj b).1,ZJ e⟩
theorem Td{z:Nat}{d:List Value}{x:DataW H×List MemPlace}(h:DataW.trod k Tryz.prog W 0 (fun _=>true) true z 44 d=some x):∃l:Ln,l.Ok∧d=(Zt l).toList:=by
 have b:=Tryz.structLn;cases o:Tryz.prog.underlying 44 with
 | none=>rw [o] at b;simp [KI] at b
 | some O=>
   rw [o] at b;cases O<;>simp only [KI] at b<;>try (simp at b;done)
   rename_i a;obtain ⟨T,n,_,_,r,R,A⟩:=DataW.trod_struct o h;rw [Tryz.cellsLn] at r;have S:a.size=6:=by have:=congrArg List.length b;simpa using this
   have q:∀i (c:i<a.size),a[i].type=3∧a[i].offset=i:=by
    intro i c;have e:(a.toList.map (fun f=>(f.type,f.offset)))[i]? =some (a[i].type,a[i].offset):=by simp [c]
    rw [b] at e;have j:i=0∨i=1∨i=2∨i=3∨i=4∨i=5:=by omega
    rcases j with rfl | rfl | rfl | rfl | rfl | rfl<;>simp at e<;>exact ⟨e.1.symm,e.2.symm⟩
   have g:∀i (c:i<6),∃m:Int,d[i]'(by omega)=.int .i64 m∧GO m:=by
    intro i c;have p:i<a.size:=by omega
    exact SG (A i a[i] (Array.getElem?_eq_getElem p)) (q i p).1 (q i p).2 (by omega) (by omega)
   obtain ⟨I,s,B⟩:=g 0 (by omega);obtain ⟨J,t,C⟩:=g 1 (by omega);obtain ⟨K,u,D⟩:=g 2 (by omega);obtain ⟨L,v,E⟩:=g 3 (by omega);obtain ⟨M,w,F⟩:=g 4 (by omega);obtain ⟨N,y,G⟩:=g 5 (by omega);refine ⟨⟨I,J,K,L,M,N⟩,⟨B,C,D,E,F,G⟩,?_⟩;refine List.ext_getElem (by simp [r]) ?_;intro i P Q;have j:i=0∨i=1∨i=2∨i=3∨i=4∨i=5:=by omega
   rcases j with rfl | rfl | rfl | rfl | rfl | rfl
   ·exact s
   ·exact t
   ·exact u
   ·exact v
   ·exact w
   ·exact y
theorem P9{w:Value}{d:DataW H}{p:List MemPlace}{B:Option Addr}{c x:Nat}(N:w=.slice B c x)(h:DataW.Trod k Tryz.prog W 0 (fun _=>true) true 22 w d p):∃A:List Ln,Wy w A W∧∀l∈A,l.Ok:=by
 subst N;obtain ⟨T,L⟩:=h;rcases Go.Deep.open_slice Tryz.underlying22 L with ⟨s,_⟩ | ⟨a,X,R,m,n,D,Q,s,_,z,_,O,_,K⟩
 ·simp [Value.cells] at s;obtain ⟨rfl,rfl,rfl⟩:=s;exact ⟨[],⟨none,0,rfl,rN _,.inl rfl⟩,by simp⟩
 ·simp [Value.cells] at s;obtain ⟨rfl,rfl,rfl⟩:=s;have V:c≤m:=by rw [O];simpa using z
  have C:∀i:Nat,∃l:Ln,i<c→(l.Ok∧∀j (t:j<6),W.cell? ((a.add (i*6)).add j)=(Zt l).toList[j]?):=by
   intro i;by_cases f:i<c
   ·obtain ⟨S,y,F⟩:=K i (by omega);rw [Tryz.cellsLn] at y;obtain ⟨_,U,J⟩:=World.cells?_some y;obtain ⟨l,ok,e⟩:=Td F;exact ⟨l,fun _=>⟨ok,fun j t=>by rw [J j t,e]⟩⟩
   ·exact ⟨⟨0,0,0,0,0,0⟩,fun h=>absurd h f⟩
  obtain ⟨q,u⟩:=Classical.skolem.1 C;refine ⟨(List.range c).map q,⟨some a,x,by simp,by simpa using z,?_⟩,?_⟩
  ·by_cases E:c=0
   ·subst E;exact .inl rfl
   ·right;have P:a.spot=none∧a.block<W.heap.size:=by have:=(u 0 (by omega)).2 0 (by omega);exact Sl (a:=(a.add (0*6)).add 0) (v:=.int .i64 (q 0).a0) (by simpa using this)
    obtain ⟨b,o,Y⟩:=a;obtain ⟨rfl,I⟩:=P;have g:∀i,i<c→∀j,j<6→W.cell? ⟨b,o+i*6+j,none⟩=(Zt (q i)).toList[j]? :=by
     intro i f j t;have e:=(u i f).2 j t;rw [Go.Deep.add_add] at e;have G:j<(Zt (q i)).toList.length:=by simpa using t
     rw [rU G] at e⊢;have:=Sk e;rwa [←Nat.add_assoc] at this
    refine ⟨b,o,rfl,fun _=>I,?_,?_,?_,?_,?_,?_⟩;all_goals
     intro i f;have r:i<c:=by simpa using f
     simp only [List.getElem_map,List.getElem_range]
    ·simpa using g i r 0 (by omega)
    ·simpa using g i r 1 (by omega)
    ·simpa using g i r 2 (by omega)
    ·simpa using g i r 3 (by omega)
    ·simpa using g i r 4 (by omega)
    ·simpa using g i r 5 (by omega)
  ·intro l M;obtain ⟨i,f,rfl⟩:=List.mem_map.1 M;exact (u i (List.mem_range.1 f)).1
end
end Go.Proofs.YtegmjgjkcdbmkaaGreatDoor

/- One of the texts of the proof of runs_card_holds: EqE EqF CkE. -/
import Derived.Test.YthppbgndiplgnaaGreatDoorG13
set_option maxRecDepth 100000
set_option maxHeartbeats 1000000
namespace Go.Proofs.YthppbgndiplgnaaGreatDoor
open Go.RowKit Go.Maps
def Gg(k:Nat):Nat:=if k=4 then 6 else if k=5 then 5 else k+1
structure VC(v:VS)(u s:FS):Prop where
 kind:u.kind=Gg v.kind
 q:u.q=An v.sr
 args:u.args=v.args.map An
 field:v.kind=3→u.field=v.field
 p:u.p=s.p
 Yd:u.Yd=s.Yd
 other:u.other=s.other
 br:u.br=s.br
 YT:u.YT=s.YT
 Yh:u.Yh=s.Yh
theorem Rt{t}(h:WD t)(f:t.kind=2)(a):Nq t.i6.toList a 4=IX t:=by
 have e:∀c:UInt8,(⟨#[c]⟩:ByteArray).toList=[c]:=fun c=>by rw [dG]
 rcases h f with q | q | q | q<;>(unfold IX;rw [q,e];simp [Nq])
section
variable {N : Nat} {b : List PT} (H : TksOk N b) (d : DigOk b)
include H d
omit H d in
theorem FG{k x}(h:(Af b b.length k x).Ye=false):(Aj b x.i8).kind=k∧x.Ye=false∧AH b k x=Aj b x.i8:=by
 unfold Af at h;split at h
 ·rename_i a;refine ⟨a,?_,by unfold AH;rw [cU a]⟩;split at h<;>exact h
 ·simp [Gf] at h
theorem WJ{x:PS}{y:St}(s:FS)(j:s.args=[])(X:s.q=Ll)(h:J5 b.length x y):
 Al b.length (Ch b b.length x).2 (Dh (b.map An) y s).2∧((Ch b b.length x).2.Ye=false→VC (Ch b b.length x).1 (Dh (b.map An) y s).1 s):=by
 have A:Al b.length x y:=.inl h;have W:=fun (k:Nat) (z:3≤k) (w:k≤20)=>GQ H z w h
 have K:=W 5 (by decide) (by decide);have F:=W 16 (by decide) (by decide);have I:=W 17 (by decide) (by decide);have J:=W 18 (by decide) (by decide);have D:=W 10 (by decide) (by decide);have E:=fun (k:Nat) (z:3≤k) (w:k≤20) {x:PS} {y:St} (h:Al b.length x y)=>Hm H z w h
 have G:=fun {x:PS} {y:St} (h:Al b.length x y)=>MA H (k:=1) (so:=1) (by decide) h
 simp only [CY,Nat.reduceEqDiff,if_true,if_false] at K F I J D;unfold Dh Ch;by_cases t:(Aj b x.i8).kind=5
 ·rw [cU (K.2 t),cU t];have c:=E 5 (by decide) (by decide) A;refine ⟨?_,fun _=>⟨rfl,X,j,fun e=>dC e (by simp),rfl,rfl,rfl,rfl,rfl,rfl⟩⟩;rcases c with a | a
  ·exact .inl a
  ·exact .inr a
 rw [cT (fun e=>t (K.1 e)),cT t];by_cases n:(Aj b x.i8).kind=16
 ·rw [cU (F.2 n),cU n];have c:=E 16 (by decide) (by decide) A;obtain ⟨f,i⟩:=G c;have C:=GL H (k:=19) (by decide) (by decide) f;simp only [CY,Nat.reduceEqDiff,if_true,if_false] at c f i C;unfold EJ;by_cases r:(Aj b (Af b b.length 1 (Af b b.length 16 x)).i8).kind=19
  ·simp only [cU (C.2 r),cU r];have g:=E 19 (by decide) (by decide) f;obtain ⟨L,O⟩:=MA H (k:=2) (so:=3) (by decide) g;simp only [CY,Nat.reduceEqDiff,if_true,if_false] at g L O;refine ⟨L,fun U=>⟨rfl,i,j,fun _=>?_,rfl,rfl,rfl,rfl,rfl,rfl⟩⟩;obtain ⟨T,g2,P⟩:=FG U;rw [O];simp only [An];have V:(Af b b.length 19 (Af b b.length 1 (Af b b.length 16 x))).i8<b.length:=by
    rcases g with a | ⟨p,a,_⟩
    ·exact a.2.2.2
    ·have:=a.2.2;have:=H.pos;omega
   exact Rt (by rw [P];exact d _ (GA V)) (by rw [P];exact T) _
  ·simp only [cT (fun e=>r (C.1 e)),cT r];exact ⟨f,fun _=>⟨rfl,i,j,fun e=>dC e (by simp),rfl,rfl,rfl,rfl,rfl,rfl⟩⟩
 rw [cT (fun e=>n (F.1 e)),cT n];by_cases o:(Aj b x.i8).kind=17
 ·rw [cU (I.2 o),cU o];have c:=E 17 (by decide) (by decide) A;obtain ⟨f,i⟩:=G c;exact ⟨f,fun _=>⟨rfl,i,j,fun e=>dC e (by simp),rfl,rfl,rfl,rfl,rfl,rfl⟩⟩
 rw [cT (fun e=>o (I.1 e)),cT o];by_cases q:(Aj b x.i8).kind=18
 ·rw [cU (J.2 q),cU q];have c:=E 18 (by decide) (by decide) A;obtain ⟨f,i⟩:=G c;exact ⟨f,fun _=>⟨rfl,i,j,fun e=>dC e (by simp),rfl,rfl,rfl,rfl,rfl,rfl⟩⟩
 rw [cT (fun e=>q (J.1 e)),cT q];by_cases m:(Aj b x.i8).kind=10
 ·rw [cU (D.2 m),cU m];have f:=E 17 (by decide) (by decide) (E 10 (by decide) (by decide) A);obtain ⟨g,v⟩:=G f;have M:=E 10 (by decide) (by decide) (E 11 (by decide) (by decide) g);unfold Ih Bm;generalize Y:Au (b.map An) (CY 10) (Au (b.map An) (CY 11) (Bq (b.map An) 1 (Au (b.map An) (CY 17) (Au (b.map An) (CY 10) y))).2)=l at M;have Z:Au (b.map An) [40] (Au (b.map An) [41] (Bq (b.map An) 1 (Au (b.map An) [42] (Au (b.map An) [40] y))).2)=l:=Y;simp only;rw [Z];have Q:Al b.length (Af b b.length 10 (Af b b.length 11 (Af b b.length 1 (Af b b.length 17 (Af b b.length 10 x))))) ⟨l.s9,l.Ya,l.pl,l.ca+1⟩:=M;obtain ⟨R,S⟩:=MB H Q;exact ⟨R,fun _=>⟨rfl,v,S,fun e=>dC e (by simp),rfl,rfl,rfl,rfl,rfl,rfl⟩⟩
 rw [cT (fun e=>m (D.1 e)),cT m];obtain ⟨c,N⟩:=G A;have B:=GL H (k:=10) (by decide) (by decide) c;simp only [CY,Nat.reduceEqDiff,if_true,if_false] at B;by_cases u:(Aj b (Af b b.length 1 x).i8).kind=10
 ·simp only [cU (B.2 u),cU u];have f:=E 10 (by decide) (by decide) c;obtain ⟨g,v⟩:=MB H f;unfold Bm;exact ⟨g,fun _=>⟨rfl,N,v,fun e=>dC e (by simp),rfl,rfl,rfl,rfl,rfl,rfl⟩⟩
 ·simp only [cT (fun e=>u (B.1 e)),cT u];exact ⟨c,fun _=>⟨rfl,N,j,fun e=>dC e (by simp),rfl,rfl,rfl,rfl,rfl,rfl⟩⟩
structure SC(v:VS)(u:FS)(inn:Nat):Prop where
 kind:u.kind=Gg v.kind
 Yx:v.kind≤10
 p:u.p=An v.tg
 q:u.q=An v.sr
 args:u.args=v.args.map An
 field:v.kind=3→u.field=v.field
 Yh:u.Yh=inn
omit H d in
theorem OP(b n x):1≤(Ch b n x).1.kind∧(Ch b n x).1.kind≤8:=by
 unfold Ch;split
 ·simp
 ·split
  ·unfold EJ;simp only;split<;>simp
  ·split
   ·simp
   ·split
    ·simp
    ·split
     ·simp [Ih]
     ·split<;>simp
theorem Tr{x:PS}{y:St}(g:Nat)(h:J5 b.length x y):
 Al b.length (AX b b.length x).2 (Bo (b.map An) g y).2∧((AX b b.length x).2.Ye=false→SC (AX b b.length x).1 (Bo (b.map An) g y).1 g):=by
 have A:Al b.length x y:=.inl h;have W:=fun (k:Nat) (n:3≤k) (m:k≤20)=>GQ H n m h
 have q:=W 4 (by decide) (by decide);have r:=W 6 (by decide) (by decide);have o:=W 17 (by decide) (by decide);have E:=fun (k:Nat) (n:3≤k) (m:k≤20) {x:PS} {y:St} (h:Al b.length x y)=>Hm H n m h
 have G:=fun {x:PS} {y:St} (h:Al b.length x y)=>MA H (k:=1) (so:=1) (by decide) h
 simp only [CY,Nat.reduceEqDiff,if_true,if_false] at q r o;unfold Bo AX;by_cases j:(Aj b x.i8).kind=4
 ·rw [cU (q.2 j),cU j];obtain ⟨a,c⟩:=G (E 4 (by decide) (by decide) A);exact ⟨a,fun _=>⟨rfl,by simp only;omega,c,rfl,rfl,fun e=>dC e (by simp),rfl⟩⟩
 rw [cT (fun e=>j (q.1 e)),cT j];by_cases l:(Aj b x.i8).kind=6
 ·rw [cU (r.2 l),cU l];obtain ⟨a,c⟩:=G (E 6 (by decide) (by decide) A);exact ⟨a,fun _=>⟨rfl,by simp only;omega,rfl,c,rfl,fun e=>dC e (by simp),rfl⟩⟩
 rw [cT (fun e=>l (r.1 e)),cT l];by_cases i:(Aj b x.i8).kind=17
 ·rw [cU (o.2 i),cU i];obtain ⟨a,c⟩:=G (E 17 (by decide) (by decide) A);obtain ⟨w,F⟩:=G (E 15 (by decide) (by decide) a);exact ⟨w,fun _=>⟨rfl,by simp only;omega,c,F,rfl,fun e=>dC e (by simp),rfl⟩⟩
 rw [cT (fun e=>i (o.1 e)),cT i];obtain ⟨t,C⟩:=G A;have a:=E 15 (by decide) (by decide) t;have I:=OP b b.length (Af b b.length 15 (Af b b.length 1 x));simp only;rcases a with a | ⟨p,z,B⟩
 ·obtain ⟨u,D⟩:=WJ H d {CG g (-1) with p:=(Bq (b.map An) 1 y).1} rfl rfl a;refine ⟨u,fun f=>?_⟩;have v:=D f;exact ⟨v.kind,by simp only;omega,v.p.trans C,v.q,v.args,v.field,v.Yh⟩
 ·have s:=Um H z;refine ⟨.inr ⟨p,s,Om _ _ B⟩,fun f=>?_⟩;rw [s.1] at f;cases f
end
inductive Cz {A B:Type} (R:A→B→Prop):List A→List B→Prop
 | nil:Cz R [] []
 | cons {a:A} {b:B} {l:List A} {m:List B} (h:R a b) (t:Cz R l m):Cz R (a::l) (b::m)
theorem Cz.mono{A B}{R S:A→B→Prop}{l m}(h:Cz R l m)(k:∀a b,R a b→S a b):Cz S l m:=by
 induction h with
 | nil=>exact .nil
 | cons h _ c=>exact .cons (k _ _ h) c
theorem Cz.append{A B:Type}{R:A→B→Prop}{l a:List A}{m b:List B}(h:Cz R l m)(r:Cz R a b):Cz R (l++a) (m++b):=by
 induction h with
 | nil=>exact r
 | cons h _ c=>exact .cons h c
theorem Cz.length{A B}{R:A→B→Prop}{l m}(h:Cz R l m):l.length=m.length:=by
 induction h with
 | nil=>rfl
 | cons _ _ a=>simp [a]
theorem Cz.get{A B}{R:A→B→Prop}{l m}(h:Cz R l m):∀(i:Nat) (a:i<l.length) (b:i<m.length),R l[i] m[i]:=by
 induction h with
 | nil=>intro i a;simp at a
 | cons h _ c=>
   intro i a b;cases i with
   | zero=>exact h
   | succ i=>exact c i (by simpa using a) (by simpa using b)
def CL(a:Nat):Nat→List FS→Nat→TS→Prop
 | 0,_,_,_=>False
 | d+1,c,i,.mk s e=>∃u,c[i]? =some u∧
    ((e=[]∧SC s u a)∨
     (∃p b,e=[(p,b)]∧s=Eo 12∧u.kind=13∧u.Yh=a∧u.br=((p:Nat):Int)∧u.YT= -1∧u.other=[]∧Cz (fun j t=>i<j∧CL a d c j t) u.Yd b)∨
     (∃p b,e=[(p,b)]∧s=Eo 11∧u.kind=12∧u.Yh=a∧u.br=((p:Nat):Int)∧u.YT= -1∧u.other=[]∧Cz (fun j t=>i<j∧CL a d c j t) u.Yd b)∨
     (∃p b f g,e=[(p,b),(f,g)]∧s=Eo 11∧u.kind=12∧u.Yh=a∧u.br=((p:Nat):Int)∧u.YT=((f:Nat):Int)∧Cz (fun j t=>i<j∧CL a d c j t) u.Yd b∧Cz (fun j t=>i<j∧CL a d c j t) u.other g))
theorem CL.up{z:Nat}:∀{d:Nat} {c:List FS} {i:Nat} {t:TS},CL z d c i t→CL z (d+1) c i t
 | 0,_,_,_,h=>h.elim
 | d+1,c,i,.mk s D,h=>by
   obtain ⟨u,A,h⟩:=h;refine ⟨u,A,?_⟩;have M:∀(l:List Nat) (m:List TS),Cz (fun j t=>i<j∧CL z d c j t) l m→Cz (fun j t=>i<j∧CL z (d+1) c j t) l m:=fun l m q=>q.mono (fun a b r=>⟨r.1,r.2.up⟩)
   rcases h with h | ⟨p,y,e,f,g,k,n,v,w,x⟩ | ⟨p,y,e,f,g,k,n,v,w,x⟩ | ⟨p,y,B,C,e,f,g,k,n,v,w,x⟩
   ·exact .inl h
   ·exact .inr (.inl ⟨p,y,e,f,g,k,n,v,w,M _ _ x⟩)
   ·exact .inr (.inr (.inl ⟨p,y,e,f,g,k,n,v,w,M _ _ x⟩))
   ·exact .inr (.inr (.inr ⟨p,y,B,C,e,f,g,k,n,v,M _ _ w,M _ _ x⟩))
def JM(a b:List FS):Prop:=a.length≤b.length∧∀i,i<a.length→b[i]? =a[i]?
theorem JM.refl(a):JM a a:=⟨aV _,fun _ _=>rfl⟩
theorem JM.trans{a b c:List FS}(h:JM a b)(k:JM b c):JM a c:=⟨bJ h.1 k.1,fun i d=>(k.2 i (bL d h.1)).trans (h.2 i d)⟩
theorem CL.YH{B k:Nat}:∀{d:Nat} {c A:List FS} {i:Nat} {t:TS},CL B d c i t→k≤i→(∀j,k≤j→j<c.length→A[j]? =c[j]?)→CL B d A i t
 | 0,_,_,_,_,h,_,_=>h.elim
 | d+1,c,A,i,.mk s I,h,F,D=>by
   obtain ⟨u,C,h⟩:=h;have E:i<c.length:=by
    rcases cJ i c.length with q | q
    ·exact q
    ·rw [bV q] at C;cases C
   refine ⟨u,by rw [D i F E];exact C,?_⟩;have M:∀(l:List Nat) (m:List TS),Cz (fun j t=>i<j∧CL B d c j t) l m→Cz (fun j t=>i<j∧CL B d A j t) l m:=fun l m q=>q.mono (fun a b r=>⟨r.1,r.2.YH (by have:=r.1;omega) D⟩)
   rcases h with h | ⟨p,z,e,f,g,n,v,w,x,y⟩ | ⟨p,z,e,f,g,n,v,w,x,y⟩ | ⟨p,z,G,H,e,f,g,n,v,w,x,y⟩
   ·exact .inl h
   ·exact .inr (.inl ⟨p,z,e,f,g,n,v,w,x,M _ _ y⟩)
   ·exact .inr (.inr (.inl ⟨p,z,e,f,g,n,v,w,x,M _ _ y⟩))
   ·exact .inr (.inr (.inr ⟨p,z,G,H,e,f,g,n,v,w,M _ _ x,M _ _ y⟩))
theorem CL.pre{c d:Nat}{a b:List FS}{i:Nat}{t:TS}(h:CL c d a i t)(f:JM a b):CL c d b i t:=h.YH (k:=0) (bI _) (fun j _ e=>f.2 j e)
theorem F8(a b z u)(h:JM (a++[z]) b):JM a (b.set a.length u)∧(b.set a.length u)[a.length]? =some u∧a.length<(b.set a.length u).length∧(∀j,a.length+1≤j→j<b.length→(b.set a.length u)[j]? =b[j]?):=by
 have c:=h.1;simp only [aZ,bP] at c;refine ⟨⟨by simp only [cY];omega,fun i d=>?_⟩,?_,by simp only [cY];omega,fun j e f=>?_⟩
 ·rw [List.getElem?_set_ne (by omega),h.2 i (by simp;omega),cW d]
 ·rw [List.getElem?_set_self (by omega)]
 ·rw [List.getElem?_set_ne (by omega)]
def XQ(toks:List PT)(x:PS)(y:St):Prop:=Al toks.length x y∨(x.Ye=false∧x.i8<toks.length∧(Aj toks x.i8).kind≠13∧y.Ya=some (Aj toks x.i8).i9)
section
variable {N : Nat} {toks : List PT} (H : TksOk N toks) (o : DigOk toks)
include H o
omit o in
theorem Tp{x:PS}{y:St}(h:XQ toks x y):Al toks.length (Af toks toks.length 13 x) (Au (toks.map An) [125] y):=by
 rcases h with h | ⟨a,d,b,c⟩
 ·exact Hm H (k:=13) (by decide) (by decide) h
 ·refine .inr ⟨_,?_,Dq _ _ c⟩;unfold Af;rw [cT b];exact ⟨rfl,by simp [Gf,a],rfl⟩
omit H o in
theorem C7{k}(d:k≠0){x}(h:(Af toks toks.length k x).Ye=false):x.Ye=false∧(Af toks toks.length k x).i8=x.i8+1∧(AH toks k x)=Aj toks x.i8∧(Aj toks x.i8).kind=k:=by obtain ⟨a,b,c⟩:=FG h;exact ⟨b,BW a d,c,a⟩
omit H o in
theorem IR{n x y}(h:Al n x y)(a:y.Ya=none):J5 n x y:=by
 rcases h with h | ⟨p,_,h⟩
 ·exact h
 ·rw [a] at h;cases h
omit H o in
theorem Tq{n x y}(h:Al n x y)(a:x.Ye=false):J5 n x y:=by
 rcases h with h | ⟨p,h,_⟩
 ·exact h
 ·rw [h.1] at a;cases a
omit H o in
theorem CA(T f c){y p}(a b)(h:y.Ya=some p):Az T f c y a b=(b,y,a):=by
 cases f with
 | zero=>rw [Az]
 | succ f=>rw [Az,cU (.inl (by simp [h]))]
def QD(toks:List PT)(e:Nat):Prop:=∀(b:Nat) (x:PS) (y:St) (c:Nat) (a:List FS) (f:List TS) (d:List Nat),Al toks.length x y→(x.Ye=false→2*(toks.length-x.i8)+1≤e∧2*(toks.length-x.i8)+1≤b)→
 XQ toks (AO toks toks.length e x f).2 (Az (toks.map An) b c y a d).2.1∧
 ((Az (toks.map An) b c y a d).2.1.Ya=none→∃h g,(AO toks toks.length e x f).1=f++h∧(Az (toks.map An) b c y a d).1=d++g∧Cz (fun j t=>a.length≤j∧CL c e (Az (toks.map An) b c y a d).2.2 j t) g h∧JM a (Az (toks.map An) b c y a d).2.2)
omit o in
theorem Ib{c f2:Nat}(B:QD toks c){x:PS}{y:St}(b:Nat)(a:List FS)(A:Al toks.length x y)(z:x.Ye=false→2*(toks.length-x.i8)≤c+1∧2*(toks.length-x.i8)≤f2+1):
 Al toks.length (Af toks toks.length 13 (AO toks toks.length c (Af toks toks.length 12 x) []).2) (Au (toks.map An) [125] (Az (toks.map An) f2 b (Au (toks.map An) [123] y) a []).2.1)∧
 ((Au (toks.map An) [125] (Az (toks.map An) f2 b (Au (toks.map An) [123] y) a []).2.1).Ya=none→
   Cz (fun j t=>a.length≤j∧CL b c (Az (toks.map An) f2 b (Au (toks.map An) [123] y) a []).2.2 j t) (Az (toks.map An) f2 b (Au (toks.map An) [123] y) a []).1 (AO toks toks.length c (Af toks toks.length 12 x) []).1∧JM a (Az (toks.map An) f2 b (Au (toks.map An) [123] y) a []).2.2∧(Ai (toks.map An) y.s9).pos=(AH toks 12 x).i9∧y.Ya=none):=by
 have d:=Hm H (k:=12) (by decide) (by decide) A;simp only [CY,Nat.reduceEqDiff,if_true,if_false] at d;obtain ⟨r,s⟩:=B f2 (Af toks toks.length 12 x) (Au (toks.map An) [123] y) b a [] [] d (fun e=>by have q:=C7 (k:=12) (by decide) e;have:=z q.1;have:=(Tq d e).2.2.2;omega)
 refine ⟨Tp H r,fun e=>?_⟩;have f:=((Bb (toks.map An) [125] _).2.2.2 e).1;have m:(Au (toks.map An) [123] y).Ya=none:=by
  cases l:(Au (toks.map An) [123] y).Ya with
  | none=>rfl
  | some p=>rw [CA _ _ _ _ _ l] at f;simp only [l] at f;cases f
 have n:=((Bb (toks.map An) [123] y).2.2.2 m).1;obtain ⟨D,C,h,i,u,v⟩:=s f;simp only [cR] at h i;rw [h,i];refine ⟨u,v,?_,n⟩;have w:=IR d m;have g:=IR A n;rw [(C7 (k:=12) (by decide) w.1).2.2.1,g.2.2.1,Bx];rfl
theorem VH:∀i:Nat,QD toks i∧
 (∀(j:Nat) (x:PS) (y:St) (d:Nat) (c:List FS),J5 toks.length x y→CQ (Aj toks x.i8).kind→2*(toks.length-x.i8)≤i→2*(toks.length-x.i8)≤j→
   Al toks.length (Bt toks toks.length i x).2 (AQ (toks.map An) j d y c).2.1∧
   ((AQ (toks.map An) j d y c).2.1.Ya=none→(AQ (toks.map An) j d y c).1=c.length∧CL d i (AQ (toks.map An) j d y c).2.2 c.length (Bt toks toks.length i x).1∧JM c (AQ (toks.map An) j d y c).2.2∧c.length<(AQ (toks.map An) j d y c).2.2.length)):=by
 have E:=fun (k:Nat) (V:3≤k) (U:k≤20) {x:PS} {y:St} (h:Al toks.length x y)=>Hm H V U h
 have TN:=fun (k:Nat) (hk:k≠0) {x:PS} (h:(Af toks toks.length k x).Ye=false)=>C7 hk h
 intro i;induction i with
 | zero=>
   refine ⟨fun j x y d c a8 a9 h X=>?_,fun j x y d c h I X _=>?_⟩
   ·rcases h with h | ⟨p,I,w⟩
    ·have:=(X h.1).1;have:=h.2.2.2;omega
    ·rw [CA _ _ _ _ _ w];refine ⟨.inl (.inr ⟨p,by rw [AO];exact I,w⟩),fun e=>?_⟩;rw [w] at e;cases e
   ·have:=h.2.2.2;omega
 | succ i ih=>
   refine ⟨fun j x y d c a8 a9 h X=>?_,fun j x y d c h I X b6=>?_⟩
   ·rcases h with h | ⟨p,I,w⟩
    ·obtain ⟨c5,b6⟩:=X h.1;have Z:=h.2.2.2;obtain ⟨f,a5⟩:∃f,j=f+1:=⟨j-1,by omega⟩;subst a5;have a0:=GL H (k:=13) (by decide) (by decide) (.inl h:Al toks.length x y);simp only [CY,Nat.reduceEqDiff,if_true,if_false] at a0;by_cases J:CQ (Aj toks x.i8).kind
     ·have T:¬(Aj toks x.i8).kind=13:=by unfold CQ at J;omega
      have a7:¬(y.Ya≠none∨Bn y.Ya (Ai (toks.map An) y.s9) [125]=true):=by
       rintro (q | q)
       ·exact q h.2.1
       ·exact T (a0.1 q)
      rw [AO,cU J,Az,cT a7];obtain ⟨a1,s⟩:=ih.2 f x y d c h J (by omega) (by omega);have b7:(Bt toks toks.length i x).2.Ye=false→x.i8+1≤(Bt toks toks.length i x).2.i8:=by intro _;obtain ⟨Q,b4⟩:∃Q,i=Q+1:=⟨i-1,by omega⟩;subst b4;exact Hz H.end_ Q Z J
      obtain ⟨t,F⟩:=ih.1 f (Bt toks toks.length i x).2 (AQ (toks.map An) f d y c).2.1 d (AQ (toks.map An) f d y c).2.2 (a8++[(Bt toks toks.length i x).1]) (a9++[(AQ (toks.map An) f d y c).1]) a1 (fun e=>by have:=b7 e;omega);refine ⟨t,fun e=>?_⟩;obtain ⟨ts,ls,u,l,v,P⟩:=F e;have c0:(AQ (toks.map An) f d y c).2.1.Ya=none:=by
       cases hq:(AQ (toks.map An) f d y c).2.1.Ya with
       | none=>rfl
       | some p=>rw [CA _ _ _ _ _ hq] at e;simp only [hq] at e;cases e
      obtain ⟨d1,d2,d3,d4⟩:=s c0;refine ⟨(Bt toks toks.length i x).1::ts,c.length::ls,by rw [u];simp,by rw [l,d1];simp,.cons ⟨aV _,(d2.pre P).up⟩ (v.mono (fun a b r=>⟨by have:=r.1;omega,r.2.up⟩)),d3.trans P⟩
     ·rw [AO,cT J];by_cases T:(Aj toks x.i8).kind=13
      ·rw [Az,cU (.inr (a0.2 T))];exact ⟨.inl (.inl h),fun _=>⟨[],[],by simp,by simp,.nil,JM.refl _⟩⟩
      ·have a7:¬(y.Ya≠none∨Bn y.Ya (Ai (toks.map An) y.s9) [125]=true):=by
        rintro (q | q)
        ·exact q h.2.1
        ·exact T (a0.1 q)
       rw [Az,cT a7]
       obtain ⟨G,b5⟩:∃G,f=G+1:=⟨f-1,by omega⟩
       subst b5
       have W:=fun (k:Nat) (V:3≤k) (U:k≤20)=>GQ H V U h
       have w4:=W 4 (by decide) (by decide)
       have w6:=W 6 (by decide) (by decide)
       have D:=W 7 (by decide) (by decide)
       have N:=W 9 (by decide) (by decide)
       have b0:=W 17 (by decide) (by decide)
       simp only [CY,Nat.reduceEqDiff,if_true,if_false] at w4 w6 D N b0
       unfold CQ at J
       have a3:(AQ (toks.map An) (G+1) d y c).2.1.Ya=some (Aj toks x.i8).i9:=by
        rw [AQ,cT (by rw [D,N];omega)];simp only;refine Dq _ _ ?_;unfold Bo;rw [cT (by rw [w4];omega),cT (by rw [w6];omega),cT (by rw [b0];omega)];simp only;refine Om _ _ (Dq _ _ ?_);unfold Bq Dg;have hs:¬(y.Ya.isNone=true∧(Ai (toks.map An) y.s9).sort=1):=by rintro ⟨_,e⟩;rw [h.2.2.1,Bx] at e;have:=(GW _).1 e;omega
        simp only [cT hs];rw [h.2.2.1,Bx,h.2.1];rfl
       rw [CA _ _ _ _ _ a3]
       refine ⟨.inr ⟨h.1,Z,T,a3⟩,fun e=>?_⟩
       simp only at e
       rw [a3] at e;cases e
    ·rw [CA _ _ _ _ _ w,AO,cT (by rw [I.2.2,H.end_];decide)];refine ⟨.inl (.inr ⟨p,I,w⟩),fun e=>?_⟩;rw [w] at e;cases e
   ·have Z:=h.2.2.2;obtain ⟨f,a5⟩:∃f,j=f+1:=⟨j-1,by omega⟩;subst a5;have A:Al toks.length x y:=.inl h;have W:=fun (k:Nat) (V:3≤k) (U:k≤20)=>GQ H V U h
    have D:=W 7 (by decide) (by decide);have N:=W 9 (by decide) (by decide);simp only [CY,Nat.reduceEqDiff,if_true,if_false] at D N;have m:=fun (k:Nat) {x:PS} (hc:x.i8<toks.length)=>Ag (n:=toks.length) H.end_ k hc
    by_cases K:(Aj toks x.i8).kind=7
    ·have Y:=D.2 K;have a6:AJ (Ai (toks.map An) y.s9)=Vs∨AJ (Ai (toks.map An) y.s9)=GI:=.inl Y;rw [Bt,cU K,AQ,cU a6];simp only [Y,if_true];have s:=E 20 (by decide) (by decide) (E 7 (by decide) (by decide) A);simp only [CY,Nat.reduceEqDiff,if_true,if_false] at s;have R:=m 7 Z;have S:=R.trans (m 20 R.2);generalize Af toks toks.length 20 (Af toks toks.length 7 x)=x2 at*;generalize Au (toks.map An) [63] (Au (toks.map An) [105,102] y)=O at*;obtain ⟨t,F⟩:=Ib H ih.1 (f2:=f) d (c++[CG 0 0]) s (fun _=>by have:=S.1;omega);have g3:=S.trans (m 12 S.2);have g4:=g3.trans (BE H.end_ i _ [] g3.2);have g5:=g4.trans (m 13 g4.2);generalize AO toks toks.length i (Af toks toks.length 12 x2) []=r at*;generalize Az (toks.map An) f d (Au (toks.map An) [123] O) (c++[CG 0 0]) []=q at*;have n8:=GL H (k:=8) (by decide) (by decide) t;simp only [CY,Nat.reduceEqDiff,if_true,if_false] at n8;by_cases k8:(Aj toks (Af toks toks.length 13 r.2).i8).kind=8
     ·rw [cU k8,cU (n8.2 k8)];have a4:=E 8 (by decide) (by decide) t;simp only [CY,Nat.reduceEqDiff,if_true,if_false] at a4;have g6:=g5.trans (m 8 g5.2);have b3:(Au (toks.map An) [101,108,115,101] (Au (toks.map An) [125] q.2.1)).Ya=none→(Au (toks.map An) [125] q.2.1).Ya=none:=fun e=>((Bb (toks.map An) [101,108,115,101] _).2.2.2 e).1
      generalize Af toks toks.length 8 (Af toks toks.length 13 r.2)=x4 at*;generalize Au (toks.map An) [101,108,115,101] (Au (toks.map An) [125] q.2.1)=y4 at*;obtain ⟨d1,d2⟩:=Ib H ih.1 (f2:=f) d q.2.2 a4 (fun _=>by have:=g6.1;omega);generalize AO toks toks.length i (Af toks toks.length 12 x4) []=r2 at*;generalize Az (toks.map An) f d (Au (toks.map An) [123] y4) q.2.2 []=q2 at*;refine ⟨d1,fun e=>?_⟩;obtain ⟨Q,G,e3,e4⟩:=d2 e;obtain ⟨u,l,v,P⟩:=F (b3 e4);obtain ⟨z,B,C,M⟩:=F8 c q2.2.2 (CG 0 0) {CG d (-1) with kind:=12,br:=(Ai (toks.map An) O.s9).pos,Yd:=q.1,YT:=(Ai (toks.map An) y4.s9).pos,other:=q2.1} (l.trans G);have b8:=l.1;simp only [aZ,bP] at b8;refine ⟨by trivial,⟨_,B,.inr (.inr (.inr ⟨_,_,_,_,rfl,rfl,rfl,rfl,by simp only;rw [v],by simp only;rw [e3],?_,?_⟩))⟩,z,C⟩
      ·refine u.mono (fun a b r=>?_);have L:=r.1;simp only [aZ,bP] at L;exact ⟨by omega,(r.2.pre G).YH (k:=c.length+1) (by omega) M⟩
      ·refine Q.mono (fun a b r=>?_);have L:=r.1;exact ⟨by omega,r.2.YH (k:=c.length+1) (by omega) M⟩
     ·rw [cT k8,cT (fun e=>k8 (n8.1 e))];refine ⟨t,fun e=>?_⟩;obtain ⟨u,l,v,P⟩:=F e;obtain ⟨z,B,C,M⟩:=F8 c q.2.2 (CG 0 0) {CG d (-1) with kind:=12,br:=(Ai (toks.map An) O.s9).pos,Yd:=q.1} l;refine ⟨by trivial,⟨_,B,.inr (.inr (.inl ⟨_,_,rfl,rfl,rfl,rfl,by simp only;rw [v],rfl,rfl,?_⟩))⟩,z,C⟩;refine u.mono (fun a b r=>?_);have L:=r.1;simp only [aZ,bP] at L;exact ⟨by omega,r.2.YH (k:=c.length+1) (by omega) M⟩
    by_cases k9:(Aj toks x.i8).kind=9
    ·have Y:=N.2 k9;have b9:¬AJ (Ai (toks.map An) y.s9)=[105,102]:=fun e=>K (D.1 e)
     have a6:AJ (Ai (toks.map An) y.s9)=Vs∨AJ (Ai (toks.map An) y.s9)=GI:=.inr Y;rw [Bt,cT K,cU k9,AQ,cU a6,cT b9];simp only [Y];have s:=E 20 (by decide) (by decide) (E 9 (by decide) (by decide) A);simp only [CY,Nat.reduceEqDiff,if_true,if_false] at s;have R:=m 9 Z;have S:=R.trans (m 20 R.2);generalize Af toks toks.length 20 (Af toks toks.length 9 x)=x2 at*;generalize Au (toks.map An) [63] (Au (toks.map An) [119,104,105,108,101] y)=O at*;obtain ⟨t,F⟩:=Ib H ih.1 (f2:=f) d (c++[CG 0 0]) s (fun _=>by have:=S.1;omega);generalize AO toks toks.length i (Af toks toks.length 12 x2) []=r at*;generalize Az (toks.map An) f d (Au (toks.map An) [123] O) (c++[CG 0 0]) []=q at*;refine ⟨t,fun e=>?_⟩;obtain ⟨u,l,v,P⟩:=F e;obtain ⟨z,B,C,M⟩:=F8 c q.2.2 (CG 0 0) {CG d (-1) with kind:=13,br:=(Ai (toks.map An) O.s9).pos,Yd:=q.1} l;refine ⟨by trivial,⟨_,B,.inr (.inl ⟨_,_,rfl,rfl,rfl,rfl,by simp only;rw [v],rfl,rfl,?_⟩)⟩,z,C⟩;refine u.mono (fun a b r=>?_);have L:=r.1;simp only [aZ,bP] at L;exact ⟨by omega,r.2.YH (k:=c.length+1) (by omega) M⟩
    ·rw [Bt,cT K,cT k9,AQ,cT (fun e=>e.elim (fun e=>K (D.1 e)) (fun e=>k9 (N.1 e)))];simp only;obtain ⟨p1,p2⟩:=Tr H o d h;have p3:=E 14 (by decide) (by decide) p1;simp only [CY,Nat.reduceEqDiff,if_true,if_false] at p3;refine ⟨p3,fun e=>?_⟩;have g:=IR p3 e;have hg:=(TN 14 (by decide) g.1).1;obtain ⟨z,B,C,_⟩:=F8 c (c++[CG 0 0]) (CG 0 0) (Bo (toks.map An) d y).1 (JM.refl _);exact ⟨by trivial,⟨_,B,.inl ⟨rfl,p2 hg⟩⟩,z,C⟩
end
theorem NH(n:Nat):((n:Int)==0)=(n==0):=by rw [Bool.eq_iff_iff];simp
def A9:List TF→Nat→DataW Unit→DataW Unit
 | [],_,D=>D
 | t::l,k,D=>A9 l (k+1) (if Maps.has D (Bj t.name.i6) then D else D.put (Bj t.name.i6) (.lit (.int .i64 k)))
theorem Nu(a:List TF)(k:Nat)(h:k<a.length)(D:DataW Unit):A9 (a.drop k) k D=A9 (a.drop (k+1)) (k+1) (if Maps.has D (Bj a[k].name.i6) then D else D.put (Bj a[k].name.i6) (.lit (.int .i64 k))):=by rw [bG h];rfl
theorem Hq(d)(U:Nat→Prop)(G a R w)(x:DF d U w G a)(hl:∀t,t∈a→t.name.i6.size≤4000)(hk:a.length≤4000):
 Calls Tryz.prog 46 #[.agg #[G,.int .i64 R]] w fun e S=>∃M,e=.returned (.map (some M))∧w.heap.size≤M∧Bh M a.length (A9 a 0 (.map [])) S∧Ab (fun _=>False) w S:=by
 have a8:=@run_makeMap Tryz.prog;have v:=x;obtain ⟨a4,b,_⟩:=v;obtain ⟨va,vl,vc,rfl⟩:=Ad b;have a3:=Ah b;subst a3;generalize I:A9 a 0 (.map [])=V;have F:dJ (A9 (a.drop 0) 0 (.map [])=V):=I;have T:=Aa x;clear I x b;go_enter Tryz.func46,Tryz.ntmps46;go_wp2;go_loopw [12] (fun i wr=>∃(k:Nat) (D:DataW Unit),k≤a.length∧i=.int .i64 k∧dJ (Bh (w.heap.size+1) k D wr)∧dJ (Ab (fun _=>False) w wr)∧dJ (A9 (a.drop k) k D=V)) (fun i _=>a.length-(intOf i).toNat)
 case atStart=> refine ⟨0,.map [],by omega,rfl,Aa ?_,Aa (((Ab.refl _ w).alloc _).alloc _),F⟩;have:=World.ownsMap_made (H:=Unit) (w.alloc (.cells #[.slice va a.length vc,.int .i64 R] 44)) Tryz.prog 9 (plainElem Tryz.prog 3);simpa [Bh] using this
 case round=>
  obtain ⟨k,D,a7,rfl,m,n,A⟩:=hrel;clear F;by_cases N:k<a.length
  ·have y:=T.o.f8 n.o (fun _ _ q=>q);have v:=y;obtain ⟨a5,b,_⟩:=v;obtain ⟨g,rfl⟩:=As b (by omega);have lg:=(b.lt g rfl).2;obtain ⟨av,sv,f,J,_,a1⟩:=y.get N;obtain ⟨r,u,s,rfl⟩:=Ad J;obtain ⟨a6,Q,_⟩:=a1;obtain ⟨B,E,C,rfl⟩:=Ad Q;have W:=f 0 (by omega);have X:=f 1 (by omega);have Y:=f 2 (by omega);have Z:=f 3 (by omega);have f4:=f 4 (by omega);simp only [Lx,aU,aS,aT,bK] at W X Y Z f4;have P:=Aa (Nu a k N D);have L:=hl a[k] (bD _);clear b Q J f y;generalize a[k]=t at*;have l1:=n.o.size;have lm:=World.ownsMap.lt m.o;obtain ⟨z,O,_,_⟩:=ER (w:=wr.alloc (.cells #[.string t.name.i6,.int .i64 t.name.i9,.slice r u s,.int .i64 t.i9,.slice B E C] 98)) (m.o.f8 ((Ab.refl (fun _=>False) wr).alloc _) (fun q=>q)) L;cases h:Maps.has D (Bj t.name.i6) with
   | true=>
     rw [h] at O;have o:=Aa h;clear h;go_wp2;go_round
     case rel=>
      refine ⟨k+1,D,by omega,by go_num,Aa ?_,Aa (n.o.alloc _),Aa ?_⟩
      ·exact World.ownsMap.mono (m.o.f8 ((Ab.refl (fun _=>False) wr).alloc _) (fun q=>q)) (by omega)
      ·have:=P.o;rw [cU o.o] at this;exact this.symm.trans A.o
     case measure=>simp [intOf];omega
   | false=>
     rw [h] at O;have o:=Aa h;clear h;obtain ⟨w2,a9,a0,l⟩:=EF (p:=k) (w:=wr.alloc (.cells #[.string t.name.i6,.int .i64 t.name.i9,.slice r u s,.int .i64 t.i9,.slice B E C] 98)) (m.o.f8 ((Ab.refl (fun _=>False) wr).alloc _) (fun q=>q)) L (by omega) (by omega);go_wp2;go_round
     case rel=>
      refine ⟨k+1,_,by omega,by go_num,Aa a0,Aa ?_,Aa ?_⟩
      ·have c:=n.o.alloc (.cells #[.string t.name.i6,.int .i64 t.name.i9,.slice r u s,.int .i64 t.i9,.slice B E C] 98);exact ⟨l.os.trans c.os,l.tape.trans c.tape,l.output.trans c.output,bJ c.size l.size,fun j K _=>(l.block j (bL K c.size) (by omega)).trans (c.block j K (fun q=>q))⟩
      ·have:=P.o;rw [cT (by rw [o.o];decide)] at this;exact this.symm.trans A.o
     case measure=>simp [intOf];omega
  ·have e:k=a.length:=by omega
   subst e;have a2:D=V:=by have:=A.o;simpa [A9] using this
   subst a2;go_wp2;go_ret;exact ⟨_,rfl,by omega,m.o,n.o⟩
theorem Jr(b d)(U:Nat→Prop)(q a K I m n F c w)(k:CN b q K (.map (some m)) I c w)(v:Bh m n F w)(i:DF d U w q a)(C:J2 F a.length)(R:a.length≤4001):
 Calls Tryz.prog 48 #[.pointer (some ⟨b,0,none⟩)] w fun e L=>e=.returned (.bool (Maps.has F (Bj ⟨#[109,97,105,110]⟩) && IB a (Ce F ⟨#[109,97,105,110]⟩)==0))∧Ab (fun _=>False) w L:=by
 have A:=Ao k 0;have J:=Ao k 2;simp only [aU,aS,aT] at A J;have T:=Ae k;obtain ⟨z,y,l,_⟩:=ER (w:=w) (s:=⟨#[109,97,105,110]⟩) v (by decide);clear k v;cases f:Maps.has F (Bj ⟨#[109,97,105,110]⟩) with
 | false=> rw [f] at y;clear f i A;go_enter Tryz.func48,Tryz.ntmps48;go_wp2;go_ret;exact ⟨by simp,Ab.refl _ _⟩
 | true=>
   rw [f] at y;obtain ⟨j,u,o⟩:=C _ f;have H:z=(j:Int):=by rw [o] at l;simpa using l.symm
   have t:Ce F ⟨#[109,97,105,110]⟩=j:=by simp [Ce,o]
   have x:IB a j=a[j].p8.length:=by simp [IB,u]
   subst H;have E:=i;obtain ⟨Q,h,_⟩:=E;obtain ⟨W,Y,X,rfl⟩:=Ad h;obtain ⟨g,rfl⟩:=As h (by omega);have G:=Ah h;subst G;have S:=(h.lt g rfl).2;obtain ⟨P,V,r,p,_,_⟩:=i.get u;obtain ⟨M,O,N,rfl⟩:=Ad p;have D:=Ah p;subst D;have B:=r 2 (by omega);simp only [Lx,aU,aS,aT] at B;rw [t,x];clear h p r i l o t x f;go_enter Tryz.func48,Tryz.ntmps48;go_wp2;go_ret;exact ⟨by simp [NH],Ab.refl _ _⟩
end Go.Proofs.YthppbgndiplgnaaGreatDoor

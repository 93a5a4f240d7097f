/- Part of the proof: EqF EqG. -/
import Derived.Test.YtaningfhibkemaaGreatDoorG03
import Derived.Test.YtaningfhibkemaaGreatDoorG09
namespace Go.Proofs.YtaningfhibkemaaGreatDoor
open Go.Proofs.Tryz
inductive CJ {A B:Type} (R:A->B->Prop):List A->List B->Prop
 |nil:CJ R [] []
 |cons {a:A} {b:B} {l:List A} {m:List B} (h:R a b) (t:CJ R l m):CJ R (a::l) (b::m)
theorem CJ.mono{A B}{R S:A->B->Prop}{l m}(h:CJ R l m)(k:∀a b,R a b->S a b):CJ S l m:=by
 induction h with
 |nil=>exact .nil
 |cons h _ c=>exact .cons (k _ _ h) c
theorem CJ.append{A B:Type}{R:A->B->Prop}{l a:List A}{m b:List B}(h:CJ R l m)(r:CJ R a b):CJ R (l++a) (m++b):=by
 induction h with
 |nil=>exact r
 |cons h _ c=>exact .cons h c
theorem CJ.length{A B}{R:A->B->Prop}{l m}(h:CJ R l m):l.length=m.length:=by
 induction h with
 |nil=>rfl
 |cons _ _ a=>simp[a]
theorem CJ.get{A B}{R:A->B->Prop}{l m}(h:CJ R l m):∀(i:Nat) (a:i<l.length) (b:i<m.length),R l[i] m[i]:=by
 induction h with
 |nil=>intro i a;simp at a
 |cons h _ c=>
  intro i a b;cases i with
  |zero=>exact h
  |succ i=>exact c i (by simpa using a) (by simpa using b)
def Dp(a:Nat):Nat->List FS->Nat->TS->Prop
 |0,_,_,_=>False
 |d+1,c,i,.mk s e=>∃u,c[i]? =some u/\
   ((e=[]/\SC s u a)\/
    (∃p b,e=[(p,b)]/\s=EA 12/\u.kind=13/\u.cS=a/\u.br=((p:Nat):Int)/\u.dG= -1/\u.other=[]/\CJ (fun j t=>i<j/\Dp a d c j t) u.cJ b)\/
    (∃p b,e=[(p,b)]/\s=EA 11/\u.kind=12/\u.cS=a/\u.br=((p:Nat):Int)/\u.dG= -1/\u.other=[]/\CJ (fun j t=>i<j/\Dp a d c j t) u.cJ b)\/
    (∃p b f g,e=[(p,b),(f,g)]/\s=EA 11/\u.kind=12/\u.cS=a/\u.br=((p:Nat):Int)/\u.dG=((f:Nat):Int)/\CJ (fun j t=>i<j/\Dp a d c j t) u.cJ b/\CJ (fun j t=>i<j/\Dp a d c j t) u.other g))
theorem Dp.up{z:Nat}:∀{d:Nat} {c:List FS} {i:Nat} {t:TS},Dp z d c i t->Dp z (d+1) c i t
 |0,_,_,_,h=>h.elim
 |d+1,c,i,.mk s E,h=>by
  obtain⟨u,A,h⟩:=h;refine⟨u,A,?_⟩;have M:∀(l:List Nat) (m:List TS),CJ (fun j t=>i<j/\Dp z d c j t) l m->CJ (fun j t=>i<j/\Dp z (d+1) c j t) l m:=fun l m q=>q.mono (fun a b r=>⟨r.1,r.2.up⟩)
  rcases h with h|⟨p,y,e,f,g,k,n,v,w,x⟩|⟨p,y,e,f,g,k,n,v,w,x⟩|⟨p,y,B,C,e,f,g,k,n,v,w,x⟩
  .exact .inl h
  .exact .inr (.inl ⟨p,y,e,f,g,k,n,v,w,M _ _ x⟩)
  .exact .inr (.inr (.inl ⟨p,y,e,f,g,k,n,v,w,M _ _ x⟩))
  .exact .inr (.inr (.inr ⟨p,y,B,C,e,f,g,k,n,v,M _ _ w,M _ _ x⟩))
def Km(a b:List FS):Prop:=a.length<=b.length/\∀i,i<a.length->b[i]? =a[i]?
theorem Km.refl(a):Km a a:=⟨gI _,fun _ _=>rfl⟩
theorem Km.trans{a b c:List FS}(h:Km a b)(k:Km b c):Km a c:=⟨gW h.1 k.1,fun i d=>(k.2 i (gY d h.1)).trans (h.2 i d)⟩
theorem Dp.dJ{B k:Nat}:∀{d:Nat} {c A:List FS} {i:Nat} {t:TS},Dp B d c i t->k<=i->(∀j,k<=j->j<c.length->A[j]? =c[j]?)->Dp B d A i t
 |0,_,_,_,_,h,_,_=>h.elim
 |d+1,c,A,i,.mk s K,h,G,E=>by
  obtain⟨u,C,h⟩:=h;have F:i<c.length:=by
   rcases iW i c.length with q|q
   .exact q
   .rw[iI q]at C;cases C
  refine⟨u,by rw[E i G F];exact C,?_⟩;have M:∀(l:List Nat) (m:List TS),CJ (fun j t=>i<j/\Dp B d c j t) l m->CJ (fun j t=>i<j/\Dp B d A j t) l m:=fun l m q=>q.mono (fun a b r=>⟨r.1,r.2.dJ (by have:=r.1;omega) E⟩)
  rcases h with h|⟨p,z,e,f,g,n,v,w,x,y⟩|⟨p,z,e,f,g,n,v,w,x,y⟩|⟨p,z,H,I,e,f,g,n,v,w,x,y⟩
  .exact .inl h
  .exact .inr (.inl ⟨p,z,e,f,g,n,v,w,x,M _ _ y⟩)
  .exact .inr (.inr (.inl ⟨p,z,e,f,g,n,v,w,x,M _ _ y⟩))
  .exact .inr (.inr (.inr ⟨p,z,H,I,e,f,g,n,v,w,M _ _ x,M _ _ y⟩))
theorem Dp.pre{c d:Nat}{a b:List FS}{i:Nat}{t:TS}(h:Dp c d a i t)(f:Km a b):Dp c d b i t:=h.dJ (k:=0) (gV _) (fun j _ e=>f.2 j e)
theorem Gs(a b z u)(h:Km (a++[z]) b):Km a (b.set a.length u)/\(b.set a.length u)[a.length]? =some u/\a.length<(b.set a.length u).length/\(∀j,a.length+1<=j->j<b.length->(b.set a.length u)[j]? =b[j]?):=by
 have c:=h.1;simp only[gM,iC]at c;refine⟨⟨by simp only[jL];omega,fun i d=>?_⟩,?_,by simp only[jL];omega,fun j e f=>?_⟩
 .rw[List.getElem?_set_ne Z,h.2 i jX,jJ d]
 .rw[List.getElem?_set_self Z]
 .rw[List.getElem?_set_ne Z]
def bI(toks:List PT)(x:PS)(y:St):Prop:=Al toks.length x y\/(x.cH=false/\x.next<toks.length/\(Aj toks x.next).kind≠13/\y.cB=some (Aj toks x.next).l7)
section
variable{N:Nat}{toks:List PT}(H:TksOk N toks)(o:DigOk toks)
include H o
omit o in
theorem Vs{x:PS}{y:St}(h:bI toks x y):Al toks.length (Af toks toks.length 13 x) (Aw (toks.map Ao) [125] y):=by
 rcases h with h|⟨a,d,b,c⟩
 .exact Iw H (k:=13) T T h
 .refine .inr ⟨_,?_,Dy _ _ c⟩;unfold Af;rw[jG b];exact⟨rfl,by simp[Ii,a],rfl⟩
omit H o in
theorem C8{k}(d:k≠0){x}(h:(Af toks toks.length k x).cH=false):x.cH=false/\(Af toks toks.length k x).next=x.next+1/\(AG toks k x)=Aj toks x.next/\(Aj toks x.next).kind=k:=by obtain⟨a,b,c⟩:=Gg h;exact⟨b,BY a d,c,a⟩
omit H o in
theorem JR{n x y}(h:Al n x y)(a:y.cB=none):Lg n x y:=by
 rcases h with h|⟨p,_,h⟩
 .exact h
 .rw[a]at h;cases h
omit H o in
theorem Vt{n x y}(h:Al n x y)(a:x.cH=false):Lg n x y:=by
 rcases h with h|⟨p,h,_⟩
 .exact h
 .rw[h.1]at a;cases a
omit H o in
theorem CB(c f d){y p}(a b)(h:y.cB=some p):Az c f d y a b=(b,y,a):=by
 cases f with
 |zero=>rw[Az]
 |succ f=>rw[Az,jH (.inl (by simp[h]))]
def Ss(toks:List PT)(e:Nat):Prop:=∀(b:Nat) (x:PS) (y:St) (c:Nat) (a:List FS) (f:List TS) (d:List Nat),Al toks.length x y->(x.cH=false->2*(toks.length-x.next)+1<=e/\2*(toks.length-x.next)+1<=b)->
 bI toks (AN toks toks.length e x f).2 (Az (toks.map Ao) b c y a d).2.1/\
 ((Az (toks.map Ao) b c y a d).2.1.cB=none->∃h g,(AN toks toks.length e x f).1=f++h/\(Az (toks.map Ao) b c y a d).1=d++g/\CJ (fun j t=>a.length<=j/\Dp c e (Az (toks.map Ao) b c y a d).2.2 j t) g h/\Km a (Az (toks.map Ao) b c y a d).2.2)
omit o in
theorem IV{c f2:Nat}(B:Ss toks c){x:PS}{y:St}(b:Nat)(a:List FS)(A:Al toks.length x y)(z:x.cH=false->2*(toks.length-x.next)<=c+1/\2*(toks.length-x.next)<=f2+1):
 Al toks.length (Af toks toks.length 13 (AN toks toks.length c (Af toks toks.length 12 x) []).2) (Aw (toks.map Ao) [125] (Az (toks.map Ao) f2 b (Aw (toks.map Ao) [123] y) a []).2.1)/\
 ((Aw (toks.map Ao) [125] (Az (toks.map Ao) f2 b (Aw (toks.map Ao) [123] y) a []).2.1).cB=none->
   CJ (fun j t=>a.length<=j/\Dp b c (Az (toks.map Ao) f2 b (Aw (toks.map Ao) [123] y) a []).2.2 j t) (Az (toks.map Ao) f2 b (Aw (toks.map Ao) [123] y) a []).1 (AN toks toks.length c (Af toks toks.length 12 x) []).1/\Km a (Az (toks.map Ao) f2 b (Aw (toks.map Ao) [123] y) a []).2.2/\(tokAt (toks.map Ao) y.bZ).pos=(AG toks 12 x).l7/\y.cB=none):=by
 have d:=Iw H (k:=12) T T A;simp only[CW,Nat.reduceEqDiff,if_true,if_false]at d;obtain⟨r,s⟩:=B f2 (Af toks toks.length 12 x) (Aw (toks.map Ao) [123] y) b a [] [] d (fun e=>by have q:=C8 (k:=12) T e;have:=z q.1;have:=(Vt d e).2.2.2;omega)
 refine⟨Vs H r,fun e=>?_⟩;have f:=((A8 (toks.map Ao) [125] _).2.2.2 e).1;have m:(Aw (toks.map Ao) [123] y).cB=none:=by
  cases l:(Aw (toks.map Ao) [123] y).cB with
  |none=>rfl
  |some p=>rw[CB _ _ _ _ _ l]at f;simp only[l]at f;cases f
 have n:=((A8 (toks.map Ao) [123] y).2.2.2 m).1;obtain⟨E,C,h,i,u,v⟩:=s f;simp only[jE]at h i;rw[h,i];refine⟨u,v,?_,n⟩;have w:=JR d m;have g:=JR A n;rw[(C8 (k:=12) T w.1).2.2.1,g.2.2.1,Bq];rfl
theorem XU:∀i:Nat,Ss toks i/\
 (∀(j:Nat) (x:PS) (y:St) (d:Nat) (c:List FS),Lg toks.length x y->CQ (Aj toks x.next).kind->2*(toks.length-x.next)<=i->2*(toks.length-x.next)<=j->
   Al toks.length (Bu toks toks.length i x).2 (AJ (toks.map Ao) j d y c).2.1/\
   ((AJ (toks.map Ao) j d y c).2.1.cB=none->(AJ (toks.map Ao) j d y c).1=c.length/\Dp d i (AJ (toks.map Ao) j d y c).2.2 c.length (Bu toks toks.length i x).1/\Km c (AJ (toks.map Ao) j d y c).2.2/\c.length<(AJ (toks.map Ao) j d y c).2.2.length)):=by
 have E:=fun(k:Nat) (h3:3<=k) (a3:k<=20) {x:PS} {y:St} (h:Al toks.length x y)=>Iw H h3 a3 h
 have TN:=fun(k:Nat) (hk:k≠0) {x:PS} (h:(Af toks toks.length k x).cH=false)=>C8 hk h
 intro i;induction i with
 |zero=>
  refine⟨fun j x y d c b3 b4 h hf=>?_,fun j x y d c h L hf _=>?_⟩
  .rcases h with h|⟨p,L,z⟩
   .have:=(hf h.1).1;have:=h.2.2.2;omega
   .rw[CB _ _ _ _ _ z];refine⟨.inl (.inr ⟨p,by rw[AN];exact L,z⟩),fun e=>?_⟩;rw[z]at e;cases e
  .have:=h.2.2.2;omega
 |succ i ih=>
  refine⟨fun j x y d c b3 b4 h hf=>?_,fun j x y d c h L hf b9=>?_⟩
  .rcases h with h|⟨p,L,z⟩
   .obtain⟨c8,b9⟩:=hf h.1;have a5:=h.2.2.2;obtain⟨f,a8⟩:∃f,j=f+1:=⟨j-1,Z⟩;subst a8;have a6:=Hf H (k:=13) T T (.inl h:Al toks.length x y);simp only[CW,Nat.reduceEqDiff,if_true,if_false]at a6;by_cases M:CQ (Aj toks x.next).kind
    .have a0:¬(Aj toks x.next).kind=13:=by unfold CQ at M;omega
     have b0:¬(y.cB≠none\/Bs y.cB (tokAt (toks.map Ao) y.bZ) [125]=true):=by
      rintro(q|q)
      .exact q h.2.1
      .exact a0 (a6.1 q)
     rw[AN,jH M,Az,jG b0];obtain⟨a1,t⟩:=ih.2 f x y d c h M Z Z;have c0:(Bu toks toks.length i x).2.cH=false->x.next+1<=(Bu toks toks.length i x).2.next:=by intro _;obtain⟨V,b7⟩:∃V,i=V+1:=⟨i-1,Z⟩;subst b7;exact IL H.end_ V a5 M
     obtain⟨u,I⟩:=ih.1 f (Bu toks toks.length i x).2 (AJ (toks.map Ao) f d y c).2.1 d (AJ (toks.map Ao) f d y c).2.2 (b3++[(Bu toks toks.length i x).1]) (b4++[(AJ (toks.map Ao) f d y c).1]) a1 (fun e=>by have:=c0 e;omega);refine⟨u,fun e=>?_⟩;obtain⟨ts,ls,v,m,w,U⟩:=I e;have c7:(AJ (toks.map Ao) f d y c).2.1.cB=none:=by
      cases hq:(AJ (toks.map Ao) f d y c).2.1.cB with
      |none=>rfl
      |some p=>rw[CB _ _ _ _ _ hq]at e;simp only[hq]at e;cases e
     obtain⟨d1,d2,d3,d4⟩:=t c7;refine⟨(Bu toks toks.length i x).1::ts,c.length::ls,by rw[v];simp,by rw[m,d1];simp,.cons ⟨gI _,(d2.pre U).up⟩ (w.mono (fun a b r=>⟨by have:=r.1;omega,r.2.up⟩)),d3.trans U⟩
    .rw[AN,jG M];by_cases a0:(Aj toks x.next).kind=13
     .rw[Az,jH (.inr (a6.2 a0))];exact⟨.inl (.inl h),fun _=>⟨[],[],jY,jY,.nil,Km.refl _⟩⟩
     .have b0:¬(y.cB≠none\/Bs y.cB (tokAt (toks.map Ao) y.bZ) [125]=true):=by
       rintro(q|q)
       .exact q h.2.1
       .exact a0 (a6.1 q)
      rw[Az,jG b0]
      obtain⟨K,b8⟩:∃K,f=K+1:=⟨f-1,Z⟩
      subst b8
      have l:=fun(k:Nat) (h3:3<=k) (a3:k<=20)=>Hj H h3 a3 h
      have w4:=l 4 T T
      have w6:=l 6 T T
      have G:=l 7 T T
      have R:=l 9 T T
      have b5:=l 17 T T
      simp only[CW,Nat.reduceEqDiff,if_true,if_false]at w4 w6 G R b5
      unfold CQ at M
      have a7:(AJ (toks.map Ao) (K+1) d y c).2.1.cB=some (Aj toks x.next).l7:=by
       rw[AJ,jG (by rw[G,R];omega)];simp only;refine Dy _ _ ?_;unfold Ba;rw[jG (by rw[w4];omega),jG (by rw[w6];omega),jG (by rw[b5];omega)];simp only;refine Qq _ _ (Dy _ _ ?_);unfold Bm De;have hs:¬(y.cB.isNone=true/\(tokAt (toks.map Ao) y.bZ).sort=1):=by rintro⟨_,e⟩;rw[h.2.2.1,Bq]at e;have:=(Hu _).1 e;omega
       simp only[jG hs];rw[h.2.2.1,Bq,h.2.1];rfl
      rw[CB _ _ _ _ _ a7]
      refine⟨.inr ⟨h.1,a5,a0,a7⟩,fun e=>?_⟩
      simp only at e
      rw[a7]at e;cases e
   .rw[CB _ _ _ _ _ z,AN,jG (by rw[L.2.2,H.end_];decide)];refine⟨.inl (.inr ⟨p,L,z⟩),fun e=>?_⟩;rw[z]at e;cases e
  .have a5:=h.2.2.2;obtain⟨f,a8⟩:∃f,j=f+1:=⟨j-1,Z⟩;subst a8;have A:Al toks.length x y:=.inl h;have l:=fun(k:Nat) (h3:3<=k) (a3:k<=20)=>Hj H h3 a3 h
   have G:=l 7 T T;have R:=l 9 T T;simp only[CW,Nat.reduceEqDiff,if_true,if_false]at G R;have s:=fun(k:Nat) {x:PS} (hc:x.next<toks.length)=>Ah (n:=toks.length) H.end_ k hc
   by_cases N:(Aj toks x.next).kind=7
   .have hw:=G.2 N;have a9:AF (tokAt (toks.map Ao) y.bZ)=XE\/AF (tokAt (toks.map Ao) y.bZ)=Hd:=.inl hw;rw[Bu,jH N,AJ,jH a9];simp only[hw,if_true];have t:=E 20 T T (E 7 T T A);simp only[CW,Nat.reduceEqDiff,if_true,if_false]at t;have X:=s 7 a5;have Y:=X.trans (s 20 X.2);generalize Af toks toks.length 20 (Af toks toks.length 7 x)=x2 at*;generalize Aw (toks.map Ao) [63] (Aw (toks.map Ao) [105,102] y)=S at*;obtain⟨u,I⟩:=IV H ih.1 (f2:=f) d (c++[Cv 0 0]) t (fun _=>by have:=Y.1;omega);have g3:=Y.trans (s 12 Y.2);have g4:=g3.trans (BD H.end_ i _ [] g3.2);have g5:=g4.trans (s 13 g4.2);generalize AN toks toks.length i (Af toks toks.length 12 x2) []=r at*;generalize Az (toks.map Ao) f d (Aw (toks.map Ao) [123] S) (c++[Cv 0 0]) []=q at*;have n8:=Hf H (k:=8) T T u;simp only[CW,Nat.reduceEqDiff,if_true,if_false]at n8;by_cases k8:(Aj toks (Af toks toks.length 13 r.2).next).kind=8
    .rw[jH k8,jH (n8.2 k8)];have a4:=E 8 T T u;simp only[CW,Nat.reduceEqDiff,if_true,if_false]at a4;have g6:=g5.trans (s 8 g5.2);have b6:(Aw (toks.map Ao) [101,108,115,101] (Aw (toks.map Ao) [125] q.2.1)).cB=none->(Aw (toks.map Ao) [125] q.2.1).cB=none:=fun e=>((A8 (toks.map Ao) [101,108,115,101] _).2.2.2 e).1
     generalize Af toks toks.length 8 (Af toks toks.length 13 r.2)=x4 at*;generalize Aw (toks.map Ao) [101,108,115,101] (Aw (toks.map Ao) [125] q.2.1)=y4 at*;obtain⟨d1,d2⟩:=IV H ih.1 (f2:=f) d q.2.2 a4 (fun _=>by have:=g6.1;omega);generalize AN toks toks.length i (Af toks toks.length 12 x4) []=r2 at*;generalize Az (toks.map Ao) f d (Aw (toks.map Ao) [123] y4) q.2.2 []=q2 at*;refine⟨d1,fun e=>?_⟩;obtain⟨V,K,e3,e4⟩:=d2 e;obtain⟨v,m,w,U⟩:=I (b6 e4);obtain⟨B,C,F,Q⟩:=Gs c q2.2.2 (Cv 0 0) {Cv d (-1)with kind:=12,br:=(tokAt (toks.map Ao) S.bZ).pos,cJ:=q.1,dG:=(tokAt (toks.map Ao) y4.bZ).pos,other:=q2.1} (m.trans K);have c5:=m.1;simp only[gM,iC]at c5;refine⟨by trivial,⟨_,C,.inr (.inr (.inr ⟨_,_,_,_,rfl,rfl,rfl,rfl,by simp only;rw[w],by simp only;rw[e3],?_,?_⟩))⟩,B,F⟩
     .refine v.mono (fun a b r=>?_);have P:=r.1;simp only[gM,iC]at P;exact⟨Z,(r.2.pre K).dJ (k:=c.length+1) Z Q⟩
     .refine V.mono (fun a b r=>?_);have P:=r.1;exact⟨Z,r.2.dJ (k:=c.length+1) Z Q⟩
    .rw[jG k8,jG (fun e=>k8 (n8.1 e))];refine⟨u,fun e=>?_⟩;obtain⟨v,m,w,U⟩:=I e;obtain⟨B,C,F,Q⟩:=Gs c q.2.2 (Cv 0 0) {Cv d (-1)with kind:=12,br:=(tokAt (toks.map Ao) S.bZ).pos,cJ:=q.1} m;refine⟨by trivial,⟨_,C,.inr (.inr (.inl ⟨_,_,rfl,rfl,rfl,rfl,by simp only;rw[w],rfl,rfl,?_⟩))⟩,B,F⟩;refine v.mono (fun a b r=>?_);have P:=r.1;simp only[gM,iC]at P;exact⟨Z,r.2.dJ (k:=c.length+1) Z Q⟩
   by_cases k9:(Aj toks x.next).kind=9
   .have hw:=R.2 k9;have c6:¬AF (tokAt (toks.map Ao) y.bZ)=[105,102]:=fun e=>N (G.1 e)
    have a9:AF (tokAt (toks.map Ao) y.bZ)=XE\/AF (tokAt (toks.map Ao) y.bZ)=Hd:=.inr hw;rw[Bu,jG N,jH k9,AJ,jH a9,jG c6];simp only[hw];have t:=E 20 T T (E 9 T T A);simp only[CW,Nat.reduceEqDiff,if_true,if_false]at t;have X:=s 9 a5;have Y:=X.trans (s 20 X.2);generalize Af toks toks.length 20 (Af toks toks.length 9 x)=x2 at*;generalize Aw (toks.map Ao) [63] (Aw (toks.map Ao) [119,104,105,108,101] y)=S at*;obtain⟨u,I⟩:=IV H ih.1 (f2:=f) d (c++[Cv 0 0]) t (fun _=>by have:=Y.1;omega);generalize AN toks toks.length i (Af toks toks.length 12 x2) []=r at*;generalize Az (toks.map Ao) f d (Aw (toks.map Ao) [123] S) (c++[Cv 0 0]) []=q at*;refine⟨u,fun e=>?_⟩;obtain⟨v,m,w,U⟩:=I e;obtain⟨B,C,F,Q⟩:=Gs c q.2.2 (Cv 0 0) {Cv d (-1)with kind:=13,br:=(tokAt (toks.map Ao) S.bZ).pos,cJ:=q.1} m;refine⟨by trivial,⟨_,C,.inr (.inl ⟨_,_,rfl,rfl,rfl,rfl,by simp only;rw[w],rfl,rfl,?_⟩)⟩,B,F⟩;refine v.mono (fun a b r=>?_);have P:=r.1;simp only[gM,iC]at P;exact⟨Z,r.2.dJ (k:=c.length+1) Z Q⟩
   .rw[Bu,jG N,jG k9,AJ,jG (fun e=>e.elim (fun e=>N (G.1 e)) (fun e=>k9 (R.1 e)))];simp only;obtain⟨p1,p2⟩:=Vu H o d h;have p3:=E 14 T T p1;simp only[CW,Nat.reduceEqDiff,if_true,if_false]at p3;refine⟨p3,fun e=>?_⟩;have g:=JR p3 e;have hg:=(TN 14 T g.1).1;obtain⟨B,C,F,_⟩:=Gs c (c++[Cv 0 0]) (Cv 0 0) (Ba (toks.map Ao) d y).1 (Km.refl _);exact⟨by trivial,⟨_,C,.inl ⟨rfl,p2 hg⟩⟩,B,F⟩
end
def MH:Nat->Nat->List Nat->Prop
 |i,j,[]=>i<=j
 |i,j,p::a=>i<=p/\MH (p+1) j a
theorem MH.left:∀{c:List Nat} {i b j:Nat},MH i j c->b<=i->MH b j c
 |[],_,_,_,h,a=>gW a h
 |_::_,_,_,_,h,a=>⟨gW a h.1,h.2⟩
theorem MH.right:∀{c:List Nat} {i j b:Nat},MH i j c->j<=b->MH i b c
 |[],_,_,_,h,a=>gW h a
 |_::_,_,_,_,h,a=>⟨h.1,h.2.right a⟩
theorem MH.le:∀{a:List Nat} {i j:Nat},MH i j a->i+a.length<=j
 |[],_,_,h=>h
 |p::a,i,j,h=>by have:=h.2.le;have:=h.1;simp only[gK];omega
theorem MH.snoc:∀{a:List Nat} {i j:Nat},MH i j a->MH i (j+1) (a++[j])
 |[],_,_,h=>⟨h,gI _⟩
 |_::_,_,_,h=>⟨h.1,h.2.snoc⟩
inductive Dn {A:Type} (R:Nat->Nat->A->Prop):Nat->Nat->List A->Prop
 |nil {i j:Nat} (h:i<=j):Dn R i j []
 |cons {i m j:Nat} {a:A} {l:List A} (h:R i m a) (t:Dn R m j l):Dn R i j (a::l)
theorem Dn.snoc{A:Type}{R:Nat->Nat->A->Prop}{i m j:Nat}{l:List A}{a:A}(h:Dn R i m l)(d:∀b i j a,R i j a->b<=i->R b j a)(r:R m j a)(c:m<=j):Dn R i j (l++[a]):=by
 induction h with
 |nil h=>exact .cons (d _ _ _ _ r h) (.nil (gI _))
 |cons h _ e=>exact .cons h (e r c)
theorem Dn.mono{A}{R S:Nat->Nat->A->Prop}{i j l}(h:Dn R i j l)(k:∀i j a,R i j a->S i j a):Dn S i j l:=by
 induction h with
 |nil h=>exact .nil h
 |cons h _ b=>exact .cons (k _ _ _ h) b
theorem Dn.le{A}{R:Nat->Nat->A->Prop}{i j l}(h:Dn R i j l)(k:∀i j a,R i j a->i<j):i+l.length<=j:=by
 induction h with
 |nil h=>exact h
 |cons h _ b=>have:=k _ _ _ h;simp only[gK];omega
theorem Dn.low{A}{R S:Nat->Nat->A->Prop}{i j i0 j0 l}(h:Dn R i j l)(c:∀i j a,R i j a->i<j)(k:∀a b x,i0<=a->b<=j0->R a b x->S a b x)(d:i0<=i)(e:j<=j0):Dn S i j l:=by
 induction h with
 |nil h=>exact .nil h
 |cons h t f=> have q:=c _ _ _ h;have g:=t.le c;exact .cons (k _ _ _ d Z h) (f Z e)
def YO(v:VS):List PT:=if v.kind=1 then[]else if v.kind=7\/v.kind=8 then v.sr::v.args else[v.sr]
def Y6(s:VS):List PT:=if s.kind=0\/s.kind=1 then[s.tg]else if s.kind=10 then[s.sr]else if s.kind=7\/s.kind=8 then s.tg::s.sr::s.args else[s.tg,s.sr]
def Cd(toks:List PT):Nat->Nat->Nat->TS->Prop
 |0,_,_,_=>False
 |d+1,i,j,.mk s b=>i<j/\j<toks.length/\
  ((b=[]/\s.kind<=10/\ZT s/\(s.kind≠7->s.kind≠8->s.args=[])/\∃f,Y6 s=f.map (Aj toks)/\MH i j f)\/
   (∃k a m,b=[((Aj toks k).l7,a)]/\(s=EA 11\/s=EA 12)/\i<k/\Dn (Cd toks d) (k+1) m a/\m<j)\/
   (∃k a m c g e,b=[((Aj toks k).l7,a),((Aj toks c).l7,g)]/\s=EA 11/\i<k/\Dn (Cd toks d) (k+1) m a/\m<c/\Dn (Cd toks d) (c+1) e g/\e<j))
theorem Cd.lt{toks d i j t}(h:Cd toks d i j t):i<j:=by
 match d,t,h with
 |d+1,.mk s a,h=>exact h.1
theorem Cd.left{toks d i n j t}(h:Cd toks d i j t)(r:n<=i):Cd toks d n j t:=by
 match d,t,h with
 |d+1,.mk s z,h=>
  obtain⟨A,p,q⟩:=h;refine⟨Z,p,?_⟩;rcases q with⟨a,b,c,g,x,e,f⟩|⟨k,l,m,a,b,c,e⟩|⟨k,l,m,v,y,w,a,b,c,e⟩
  .exact .inl ⟨a,b,c,g,x,e,f.left r⟩
  .exact .inr (.inl ⟨k,l,m,a,b,Z,e⟩)
  .exact .inr (.inr ⟨k,l,m,v,y,w,a,b,Z,e⟩)
theorem Cd.up{toks:List PT}:∀{d i j:Nat} {t:TS},Cd toks d i j t->Cd toks (d+1) i j t
 |0,_,_,_,h=>h.elim
 |d+1,i,j,.mk s y,h=>by
  obtain⟨n,p,q⟩:=h;refine⟨n,p,?_⟩;rcases q with h|⟨k,l,m,a,b,c,e,f⟩|⟨k,l,m,v,x,w,a,b,c,e,f,g,h⟩
  .exact .inl h
  .exact .inr (.inl ⟨k,l,m,a,b,c,e.mono (fun _ _ _ r=>r.up),f⟩)
  .exact .inr (.inr ⟨k,l,m,v,x,w,a,b,c,e.mono (fun _ _ _ r=>r.up),f,g.mono (fun _ _ _ r=>r.up),h⟩)
theorem Cd.lower{toks:List PT}:∀{d i j:Nat} {t:TS} (e:Nat),Cd toks d i j t->j-i<=e->Cd toks e i j t
 |0,_,_,_,_,h,_=>h.elim
 |d+1,i,j,.mk s n,0,h,A=>by have:=h.1;omega
 |d+1,i,j,.mk s n,e+1,h,A=>by
  obtain⟨p,v,w⟩:=h;refine⟨p,v,?_⟩;have L:∀(a b:Nat) (l:List TS),i+1<=a->b<=j->Dn (Cd toks d) a b l->Dn (Cd toks e) a b l:=fun a b l y z r=> r.low (i0:=i+1) (j0:=j) (fun _ _ _ q=>q.lt) (fun F G x H I q=>Cd.lower e q Z) y z
  rcases w with h|⟨k,l,m,a,b,c,q,f⟩|⟨k,l,m,B,E,C,a,b,c,q,f,g,h⟩
  .exact .inl h
  .exact .inr (.inl ⟨k,l,m,a,b,c,L _ _ _ Z Z q,f⟩)
  .have:=g.le (fun _ _ _ q=>q.lt);have:=q.le (fun _ _ _ q=>q.lt);exact .inr (.inr ⟨k,l,m,B,E,C,a,b,c,L _ _ _ Z Z q,f,L _ _ _ Z Z g,h⟩)
theorem U0(toks n x):(Cm toks n x).1.kind≠7->(Cm toks n x).1.kind≠8->(Cm toks n x).1.args=[]:=by
 unfold Cm;split
 .intro _ _;rfl
 .split
  .unfold EX;simp only;split<;>(intro _ _;rfl)
  .split
   .intro _ _;rfl
   .split
    .intro _ _;rfl
    .split
     .intro _ h;exact jO rfl h
     .split
      .intro h;exact jO rfl h
      .intro _ _;rfl
theorem Qg(toks n x):(AS toks n x).1.kind≠7->(AS toks n x).1.kind≠8->(AS toks n x).1.args=[]:=by
 unfold AS;split
 .intro _ _;rfl
 .split
  .intro _ _;rfl
  .split
   .intro _ _;rfl
   .exact U0 _ _ _
section
variable{N:Nat}{toks:List PT}(H:TksOk N toks)(o:N<=4000)(u:toks.length<=4001)
include H
theorem Kd(p:Nat):(Aj toks p).d9.size<=N/\(Aj toks p).l7<=N:=by
 rcases iW p toks.length with q|q
 .exact H.len _ (GT q)
 .unfold Aj;rw[iI q];exact⟨gV _,gV _⟩
theorem Eb(k:Nat)(x:PS):(AG toks k x).d9.size<=N/\(AG toks k x).l7<=N:=by
 unfold AG;split
 .exact Kd H _
 .exact⟨gV _,gV _⟩
omit H in
theorem Oj:∀(f:Nat) (x:PS) (a:List PT),∃b,(DH toks f x a).1=a++b.map (Aj toks)/\MH x.next (DH toks f x a).2.next b/\(DH toks f x a).2.cH=x.cH
 |0,x,a=>⟨[],by simp[DH],gI _,rfl⟩
 |f+1,x,a=>by
  rw[DH];split
  .obtain⟨b,c,d,e⟩:=Oj f ⟨x.next+1,x.cH,x.cW⟩ (a++[Aj toks x.next]);exact⟨x.next::b,by rw[c];simp,⟨gI _,d⟩,e⟩
  .exact⟨[],jY,gI _,rfl⟩
omit H in
theorem IF{x}(h:(Br toks toks.length x).2.cH=false):x.cH=false/\∃a,(Br toks toks.length x).1=a.map (Aj toks)/\MH (x.next+1) (Br toks toks.length x).2.next a/\x.next+2<=(Br toks toks.length x).2.next:=by unfold Br at h⊢;simp only at h⊢;obtain⟨a,e,c,f⟩:=Oj (toks:=toks) toks.length (Af toks toks.length 10 x) [];have b:=C8 (k:=11) T h;rw[f]at b;have d:=C8 (k:=10) T b.1;have:=c.le;rw[d.2.1]at c this;exact⟨d.1,a,by simpa using e,c.right (by rw[b.2.1];omega),by rw[b.2.1];omega⟩
theorem PY{x:PS}:∀t,t∈(Br toks toks.length x).1->t.d9.size<=N/\t.l7<=N:=by
 intro t a;obtain⟨c,b,_,_⟩:=Oj (toks:=toks) toks.length (Af toks toks.length 10 x) [];have e:(Br toks toks.length x).1=c.map (Aj toks):=by unfold Br;simpa using b
 rw[e]at a;obtain⟨p,_,rfl⟩:=iT.1 a;exact Kd H p
theorem Xw{x:PS}(h:(Cm toks toks.length x).2.cH=false):x.cH=false/\x.next<(Cm toks toks.length x).2.next/\(∃e,YO (Cm toks toks.length x).1=e.map (Aj toks)/\MH x.next (Cm toks toks.length x).2.next e)/\(Cm toks toks.length x).1.sr.d9.size<=N/\(∀t,t∈(Cm toks toks.length x).1.args->t.d9.size<=N)/\x.next+(Cm toks toks.length x).1.args.length<=(Cm toks toks.length x).2.next:=by
 have a:=fun(k:Nat) (c:k≠0) {x:PS} (h:(Af toks toks.length k x).cH=false)=>C8 c h
 have p:(BG:PT).d9.size<=N:=gV _;unfold Cm at h⊢;split at h
 .rename_i c;rw[jH c];have t:=a 5 T h;simp only at t⊢;exact⟨t.1,Z,⟨[],rfl,show x.next<=_ by omega⟩,p,jY,jX⟩
 rename_i y;rw[jG y];split at h
 .rename_i c;rw[jH c];unfold EX at h⊢;simp only at h⊢;split at h
  .rename_i l;rw[jH l];have n:=a 2 T h;have i:=a 19 T n.1;have d:=a 1 T i.1;have b:=a 16 T d.1;simp only;refine⟨b.1,Z,⟨[(Af toks toks.length 16 x).next],by simp[YO,d.2.2.1],⟨Z,show _<=_ by omega⟩⟩,(Eb H _ _).1,jY,jX⟩
  .rename_i l;rw[jG l];have d:=a 1 T h;have b:=a 16 T d.1;simp only;refine⟨b.1,Z,⟨[(Af toks toks.length 16 x).next],by simp[YO,d.2.2.1],⟨Z,show _<=_ by omega⟩⟩,(Eb H _ _).1,jY,jX⟩
 rename_i s;rw[jG s];split at h
 .rename_i c;rw[jH c];have d:=a 1 T h;have b:=a 17 T d.1;simp only at d⊢;refine⟨b.1,Z,⟨[(Af toks toks.length 17 x).next],by simp[YO,d.2.2.1],⟨Z,show _<=_ by omega⟩⟩,(Eb H _ _).1,jY,jX⟩
 rename_i v;rw[jG v];split at h
 .rename_i c;rw[jH c];have d:=a 1 T h;have b:=a 18 T d.1;simp only at d⊢;refine⟨b.1,Z,⟨[(Af toks toks.length 18 x).next],by simp[YO,d.2.2.1],⟨Z,show _<=_ by omega⟩⟩,(Eb H _ _).1,jY,jX⟩
 rename_i w;rw[jG w];split at h
 .rename_i c;rw[jH c];unfold IY at h⊢;simp only at h⊢;obtain⟨m,e,f,g,z⟩:=IF h;have n:=a 11 T m;have i:=a 1 T n.1;have d:=a 17 T i.1;have b:=a 10 T d.1;have q:=g.le;have A:(Br toks toks.length (Af toks toks.length 11 (Af toks toks.length 1 (Af toks toks.length 17 (Af toks toks.length 10 x))))).1.length=e.length:=by rw[f];simp
  refine⟨b.1,Z,⟨(Af toks toks.length 17 (Af toks toks.length 10 x)).next::e,by simp[YO,i.2.2.1,f],⟨Z,g.left Z⟩⟩,(Eb H _ _).1,fun t j=>(PY H t j).1,Z⟩
 rename_i r;rw[jG r];split at h
 .rename_i c;rw[jH c];simp only at h⊢;obtain⟨m,e,f,g,z⟩:=IF h;have b:=a 1 T m;have q:=g.le;have A:(Br toks toks.length (Af toks toks.length 1 x)).1.length=e.length:=by rw[f];simp
  refine⟨b.1,Z,⟨x.next::e,by simp[YO,b.2.2.1,f],⟨Z,g.left Z⟩⟩,(Eb H _ _).1,fun t j=>(PY H t j).1,Z⟩
 .rename_i c;rw[jG c];have b:=a 1 T h;simp only at b⊢;refine⟨b.1,Z,⟨[x.next],by simp[YO,b.2.2.1],⟨Z,show _<=_ by omega⟩⟩,(Eb H _ _).1,jY,jX⟩
include o u
theorem RH{x:PS}(h:(AS toks toks.length x).2.cH=false)(f:(AS toks toks.length x).2.next<toks.length):x.cH=false/\x.next<(AS toks toks.length x).2.next/\(AS toks toks.length x).1.kind<=10/\ZT (AS toks toks.length x).1/\∃i,Y6 (AS toks toks.length x).1=i.map (Aj toks)/\MH x.next (AS toks toks.length x).2.next i:=by
 have b:=fun(k:Nat) (d:k≠0) {x:PS} (h:(Af toks toks.length k x).cH=false)=>C8 d h
 have m:(BG:PT).d9.size<=4000:=gV _;have p:(BG:PT).l7<=4000:=gV _;have e:=fun(k:Nat) (x:PS)=>gW (Eb H k x).1 o
 have j:=fun(k:Nat) (x:PS)=>gW (Eb H k x).2 o
 unfold AS at h f⊢;split at h
 .rename_i d;rw[jH d];have a:=b 1 T h;have c:=b 4 T a.1;simp only at a⊢;exact⟨c.1,Z,Z,⟨e _ _,j _ _,m,jY,jY⟩,[(Af toks toks.length 4 x).next],by simp[Y6,a.2.2.1],⟨Z,show _<=_ by omega⟩⟩
 rename_i s;rw[jG s]at f⊢;split at h
 .rename_i d;rw[jH d];have a:=b 1 T h;have c:=b 6 T a.1;simp only at a⊢;exact⟨c.1,Z,Z,⟨m,p,e _ _,jY,jY⟩,[(Af toks toks.length 6 x).next],by simp[Y6,a.2.2.1],⟨Z,show _<=_ by omega⟩⟩
 rename_i w;rw[jG w]at f⊢;split at h
 .rename_i d;rw[jH d];have l:=b 1 T h;have y:=b 15 T l.1;have a:=b 1 T y.1;have c:=b 17 T a.1;simp only at l⊢;exact⟨c.1,Z,Z,⟨e _ _,j _ _,e _ _,jY,jY⟩,[(Af toks toks.length 17 x).next,(Af toks toks.length 15 (Af toks toks.length 1 (Af toks toks.length 17 x))).next],by simp[Y6,a.2.2.1,l.2.2.1],⟨Z,Z,show _<=_ by omega⟩⟩
 .rename_i r;rw[jG r]at f⊢;simp only at h f⊢;have F:=QL toks toks.length (Af toks toks.length 15 (Af toks toks.length 1 x));obtain⟨z,G,⟨i,A,B⟩,C,E,I⟩:=Xw H h;have a:=b 15 T z;have c:=b 1 T a.1;generalize (Cm toks toks.length (Af toks toks.length 15 (Af toks toks.length 1 x))).1=v at*;refine⟨c.1,Z,Z,⟨e _ _,j _ _,gW C o,fun t q=>gW (E t q) o,kC⟩,x.next::i,?_,⟨Z,B.left Z⟩⟩;rw[iK,<-A,c.2.2.1];unfold Y6 YO;simp only;by_cases n:v.kind=1
  .simp[n]
  .rw[jG Z,jG Z,jG n];by_cases g:v.kind=7\/v.kind=8
   .rw[jH g,jH g]
   .rw[jG g,jG g]
omit H o u in
theorem aB{p}(h:CQ (Aj toks p).kind):p<toks.length:=by
 rcases iW p toks.length with q|q
 .exact q
 .unfold Aj at h;rw[iI q]at h;simp[CQ,BG]at h
theorem TO:∀f:Nat,
 (∀(x:PS) (m:List TS),x.next<toks.length->2*(toks.length-x.next)+1<=f->(AN toks toks.length f x m).2.cH=false->x.cH=false/\∃l,(AN toks toks.length f x m).1=m++l/\Dn (Cd toks f) x.next (AN toks toks.length f x m).2.next l)/\
 (∀(x:PS),x.next<toks.length->2*(toks.length-x.next)<=f->(Bu toks toks.length f x).2.cH=false->x.cH=false/\Cd toks f x.next (Bu toks toks.length f x).2.next (Bu toks toks.length f x).1):=by
 have b:=fun(k:Nat) (hk:k≠0) {x:PS} (h:(Af toks toks.length k x).cH=false)=>C8 hk h
 have d:=fun(k:Nat) {x:PS} (hc:x.next<toks.length)=>Ah (n:=toks.length) H.end_ k hc
 intro f;induction f with
 |zero=>exact⟨fun x m e K=>Z,fun x e K=>Z⟩
 |succ f t=>
  refine⟨fun x m e K h=>?_,fun x e K h=>?_⟩
  .rw[AN]at h⊢;split at h
   .rename_i y;rw[jH y];obtain⟨E,a0⟩:∃E,f=E+1:=⟨f-1,Z⟩;have hm:x.next+1<=(Bu toks toks.length f x).2.next:=by subst a0;exact IL H.end_ E e y
    have hg:=Gt H.end_ f x e;obtain⟨B,l,S,C⟩:=t.1 _ _ hg.2 Z h;obtain⟨b1,b2⟩:=t.2 x e Z B;exact⟨b1,(Bu toks toks.length f x).1::l,by rw[S];simp,.cons b2.up (C.mono (fun _ _ _ q=>q.up))⟩
   .rename_i y;rw[jG y];exact⟨h,[],jY,.nil (gI _)⟩
  .have a:=(Gt H.end_ (f+1) x e).2;rw[Bu]at h a⊢;split at h
   .rename_i z;rw[jH z]at a⊢;simp only at h a⊢;have m1:=BY (n:=toks.length) z T;have I:=d 7 e;have p:=d 20 I.2;have i:=d 12 p.2;have U:=BD H.end_ f _ [] i.2;have V:=d 13 U.2;have i1:=t.1 (Af toks toks.length 12 (Af toks toks.length 20 (Af toks toks.length 7 x))) [] i.2 (by have:=p.1;have:=i.1;omega);have R:(Af toks toks.length 13 (AN toks toks.length f (Af toks toks.length 12 (Af toks toks.length 20 (Af toks toks.length 7 x))) []).2).cH=false->x.cH=false/\x.next+2=(Af toks toks.length 20 (Af toks toks.length 7 x)).next/\(AG toks 12 (Af toks toks.length 20 (Af toks toks.length 7 x)))=Aj toks (Af toks toks.length 20 (Af toks toks.length 7 x)).next/\Dn (Cd toks f) ((Af toks toks.length 20 (Af toks toks.length 7 x)).next+1) (AN toks toks.length f (Af toks toks.length 12 (Af toks toks.length 20 (Af toks toks.length 7 x))) []).2.next (AN toks toks.length f (Af toks toks.length 12 (Af toks toks.length 20 (Af toks toks.length 7 x))) []).1/\(AN toks toks.length f (Af toks toks.length 12 (Af toks toks.length 20 (Af toks toks.length 7 x))) []).2.next+1=(Af toks toks.length 13 (AN toks toks.length f (Af toks toks.length 12 (Af toks toks.length 20 (Af toks toks.length 7 x))) []).2).next:=by intro h;have N:=b 13 T h;obtain⟨v,l,g,c⟩:=i1 N.1;have j:=b 12 T v;have M:=b 20 T j.1;have w:=b 7 T M.1;simp only[jE]at g;rw[g];rw[j.2.1]at c;exact⟨w.1,Z,j.2.2.1,c,Z⟩
    have a8:x.next+1<=(Af toks toks.length 13 (AN toks toks.length f (Af toks toks.length 12 (Af toks toks.length 20 (Af toks toks.length 7 x))) []).2).next:=by have:=p.1;have:=i.1;have:=U.1;have:=V.1;omega
    generalize Af toks toks.length 20 (Af toks toks.length 7 x)=Q at*;generalize AN toks toks.length f (Af toks toks.length 12 Q) []=r at*;split at h
    .rename_i L;rw[jH L]at a⊢;simp only at h a⊢;have X:=d 8 V.2;have Y:=d 12 X.2;have i2:=t.1 (Af toks toks.length 12 (Af toks toks.length 8 (Af toks toks.length 13 r.2))) [] Y.2 (by have:=X.1;have:=Y.1;omega);have w5:=b 13 T h;obtain⟨v,a7,g,c⟩:=i2 w5.1;have P:=b 12 T v;have w2:=b 8 T P.1;obtain⟨F,f2,G,s,f5⟩:=R w2.1;simp only[jE]at g;rw[P.2.1]at c;have l1:=s.le (fun _ _ _ q=>q.lt);have l2:=c.le (fun _ _ _ q=>q.lt);refine⟨F,Z,a,.inr (.inr ⟨Q.next,r.1,r.2.next,(Af toks toks.length 8 (Af toks toks.length 13 r.2)).next,a7,_,?_,rfl,Z,s,Z,c,Z⟩)⟩;rw[G,P.2.2.1,g]
    .rename_i L;rw[jG L]at a⊢;simp only at h a⊢;obtain⟨F,f2,G,s,f5⟩:=R h;have l1:=s.le (fun _ _ _ q=>q.lt);refine⟨F,Z,a,.inr (.inl ⟨Q.next,r.1,r.2.next,?_,.inl rfl,Z,s,Z⟩)⟩;rw[G]
   .rename_i z;rw[jG z]at a⊢;split at h
    .rename_i A;rw[jH A]at a⊢;simp only at h a⊢;have m1:=BY (n:=toks.length) A T;have I:=d 9 e;have p:=d 20 I.2;have i:=d 12 p.2;have N:=b 13 T h;obtain⟨v,l,g,c⟩:=t.1 _ [] i.2 (by have:=p.1;have:=i.1;omega) N.1;have j:=b 12 T v;have M:=b 20 T j.1;have w:=b 9 T M.1;have l2:=c.le (fun _ _ _ q=>q.lt);simp only[jE]at g;rw[j.2.1]at c;refine⟨w.1,Z,a,.inr (.inl ⟨(Af toks toks.length 20 (Af toks toks.length 9 x)).next,l,_,?_,.inr rfl,Z,c,Z⟩)⟩;rw[j.2.2.1,g]
    .rename_i A;rw[jG A]at a⊢;simp only at h a⊢;have w:=b 14 T h;obtain⟨B,S,C,a4,ps,a5,a6⟩:=RH H o u w.1 Z;exact⟨B,Z,a,.inl ⟨rfl,C,a4,Qg _ _ _,ps,a5,a6.right Z⟩⟩
end

/- Part of the proof. -/
import Derived.Test.YtbkhmmeecjnnkaaGreatDoorG02
set_option maxRecDepth 100000
set_option maxHeartbeats 40000000
namespace Go.Proofs.YtbkhmmeecjnnkaaGreatDoor
open Go.Proofs.Tryz Go.RowKit Go.Maps
open Option renaming none->Z,some->T
open Value renaming int->G,slice->Y,pointer->Z',string->Y',tuple->P',bool->O',agg->N',ownBlock->L'
open IntKind renaming i64->A
open Ending renaming returned->T'
open Obj renaming cells->R'
open List renaming length->L
open World renaming cell?->K',ownsRow->J'
open Go renaming World->I',Value->H',Calls->F',maxLen->E',results->zz
open Go.Proofs.Tryz renaming prog->zy
open _root_ renaming Nat->M,Int->zw,False->zv,rfl->Q,decide->zu
open Bool renaming true->zt,false->zr
open Or renaming inl->zo,inr->zn
open Go.RowKit renaming intOf->zm
variable {q1:Cg}{u0:Cd}{x4 y9:CS}{z8:Cm}{q8:Int}{x1:C8}{o0:Dd}{y2:Df}{o8:DH}{y1:Ci}{B C R X o1 p0 s2 v0:Nat}{z1:Nat->Prop}{z9:Type}{q0:TypeId}{V n5 n6 n9 o3 o4 o5 o6 o7 o9 p5 p6 p7 q5 q6 q7 r4 r5 r6 r7 r8 r9 s0 s7 s9 t3 t6 t7 u1 u5 u6 u7 u9 v2 v3 v5 v6 v7 v8 x2 x3 x5 x6 x7 x8 y3 y4 y5 y6 y8 z0 z3 z4 z6 z7:Value}{P v1 y0:World}
inductive Fv {A B:Type} (R:A->B->Prop):List A->List B->Prop
 |nil:Fv R [] []
 |cons {a:A} {b:B} {l:List A} {m:List B} (h:R a b) (t:Fv R l m):Fv R (a::l) (b::m)
theorem Fv.mono{c B}{R S:c->B->Prop}{l m}(h:Fv R l m)(k:∀a b,R a b->S a b):Fv S l m:=by
 induction h with
 |nil=>exact .nil
 |cons h _ d=>exact .cons (k _ _ h) d
theorem Fv.append{a B:Type}{R:a->B->Prop}{l b:List a}{m c:List B}(h:Fv R l m)(r:Fv R b c):Fv R (l++b)<|m++c:=by
 induction h with
 |nil=>exact r
 |cons h _ d=>exact .cons h d
theorem Fv.length{a B}{R:a->B->Prop}{l m}(h:Fv R l m):L l=m:=by
 induction h with
 |nil=>rfl
 |cons _ _ b=>simp[b]
theorem Fv.get{c B}{R:c->B->Prop}{l m}(h:Fv R l m):∀(i:M) (a:i<l) (b:i<m),R l[i] m[i]:=by
 induction h with
 |nil=>intro i a;simp at a
 |cons h _ d=>
  intro i a b;cases i with
  |zero=>exact h
  |succ i=>exact d i (by simpa using a)<|by simpa using b
def Gs(a:M):M->C8->M->TS->Prop
 |0,_,_,_=>zv
 |d+1,c,i,.mk s e=>∃u,c[i]? =T u/\
   ((e=[]/\SC s u a)\/
    (∃p b,e=[(p,b)]/\s=IM 12/\u.e=13/\u.l=a/\u.br=((p:M):zw)/\u.xY= -1/\u.other=[]/\Fv (λj t=>i<j/\Gs a d c j t) u.body b)\/
    (∃p b,e=[(p,b)]/\s=IM 11/\u.e=12/\u.l=a/\u.br=((p:M):zw)/\u.xY= -1/\u.other=[]/\Fv (λj t=>i<j/\Gs a d c j t) u.body b)\/
    (∃p b f g,e=[(p,b),(f,g)]/\s=IM 11/\u.e=12/\u.l=a/\u.br=((p:M):zw)/\u.xY=((f:M):zw)/\Fv (λj t=>i<j/\Gs a d c j t) u.body b/\Fv (λj t=>i<j/\Gs a d c j t) u.other g))
theorem Gs.up{B:M}:∀{d:M} {c:C8} {i:M} {t:TS},Gs B d c i t->Gs B (d+1) c i t
 |0,_,_,_,h=>h.elim
 |d+1,c,i,.mk s H,h=>by
  obtain⟨u,C,h⟩:=h;refine⟨u,C,?_⟩;have z:∀(l:Cf) (m:Dj),Fv (λj t=>i<j/\Gs B d c j t) l m->Fv (λj t=>i<j/\Gs B (d+1) c j t) l m:=λl m q=>q.mono λa b r=>⟨r.1,r.2.up⟩
  rcases h with h|⟨p,y,e,f,g,k,n,v,w,x⟩|⟨p,y,e,f,g,k,n,v,w,x⟩|⟨p,y,E,F,e,f,g,k,n,v,w,x⟩
  .exact zo h
  .exact zn<|zo ⟨p,y,e,f,g,k,n,v,w,z _ _ x⟩
  .exact zn<|zn<|zo ⟨p,y,e,f,g,k,n,v,w,z _ _ x⟩
  .exact zn<|zn<|zn ⟨p,y,E,F,e,f,g,k,n,v,z _ _ w,z _ _ x⟩
def OT(a b:C8):Prop:=L a<=b/\∀i,i<L a->b[i]? =a[i]?
theorem OT.refl(a):OT a a:=⟨Ad _,λ_ _=>Q⟩
theorem OT.trans{a b c:C8}(h:OT a b)(k:OT b c):OT a c:=⟨As h.1 k.1,λi d=>(k.2 i<|Av d h.1).trans<|h.2 i d⟩
theorem Gs.yD{E k:M}:∀{d:M} {c C:C8} {i:M} {t:TS},Gs E d c i t->k<=i->(∀j,k<=j->j<L c->C[j]? =c[j]?)->Gs E d C i t
 |0,_,_,_,_,h,_,_=>h.elim
 |d+1,c,C,i,.mk s R,h,K,H=>by
  obtain⟨u,F,h⟩:=h;have I:i<c:=by
   rcases AV i c with q|q
   .exact q
   .rw[AF q]at F;cases F
  refine⟨u,by rw[H i K I];exact F,?_⟩;have B:∀(l:Cf) (m:Dj),Fv (λj t=>i<j/\Gs E d c j t) l m->Fv (λj t=>i<j/\Gs E d C j t) l m:=λl m q=>q.mono λa b r=>⟨r.1,r.2.yD (by have:=r.1;omega) H⟩
  rcases h with h|⟨p,z,e,f,g,n,v,w,x,y⟩|⟨p,z,e,f,g,n,v,w,x,y⟩|⟨p,z,N,P,e,f,g,n,v,w,x,y⟩
  .exact zo h
  .exact zn<|zo ⟨p,z,e,f,g,n,v,w,x,B _ _ y⟩
  .exact zn<|zn<|zo ⟨p,z,e,f,g,n,v,w,x,B _ _ y⟩
  .exact zn<|zn<|zn ⟨p,z,N,P,e,f,g,n,v,w,B _ _ x,B _ _ y⟩
theorem Gs.pre{c d:M}{a b:C8}{i:M}{t:TS}(h:Gs c d a i t)(f:OT a b):Gs c d b i t:=h.yD (k:=0) (Ar _) λj _ e=>f.2 j e
theorem KI(a b z u)(h:OT (a++[z]) b):OT a (b.set (L a) u)/\(b.set (L a) u)[L a]? =T u/\L a<L (b.set (L a) u)/\(∀j,L a+1<=j->j<L b->(b.set (L a) u)[j]? =b[j]?):=by have c:=h.1;simp only[Ah,Az]at c;refine⟨⟨by grind,λi d=>?_⟩,?_,by grind,λj e f=>?_⟩;rw[List.getElem?_set_ne<|by omega,h.2 i<|by simp;omega,Be d];grind;grind
def vX(tZ:Dw)(x:PS)(y:St):Prop:=Al tZ x y\/(x.H=zr/\x.q<tZ/\(CJ tZ x.q).e≠13/\y.wY=(CJ tZ x.q).t9)
section
variable{N:M}{tZ:Dw}(H:Ig N tZ)(o:He tZ)
include H o
omit o in
theorem fY{x:PS}{y:St}(h:vX tZ x y):Al tZ (CC tZ tZ 13 x)<|CW (tZ.map CR) [125] y:=by
 rcases h with h|⟨c,d,a,b⟩
 exact MA H (k:=13) (by decide) (by decide) h;refine zn ⟨_,?_,Jw _ _ b⟩;unfold CC;rw[Ba a];exact⟨Q,by grind[Mq],Q⟩
omit H o in
theorem Gf{k}(a:k≠0){x}(h:(CC tZ tZ k x).H=zr):x.H=zr/\(CC tZ tZ k x).q=x.q+1/\(Di tZ k x)=CJ tZ x.q/\(CJ tZ x.q).e=k:=by grind[Ko,EH]
omit H o in
theorem Oa{n x y}(h:Al n x y)(a:y.wY=Z):Qj n x y:=by
 rcases h with h|⟨p,_,h⟩
 exact h;rw[a]at h;cases h
omit H o in
theorem fZ{n x y}(h:Al n x y)(a:x.H=zr):Qj n x y:=by
 rcases h with h|⟨p,h,_⟩
 exact h;rw[h.1]at a;cases a
omit H o in
theorem Fo(c f d){y p}(a b)(h:y.wY=T p):C6 c f d y a b=(b,y,a):=by
 cases f with
 |zero=>rw[C6]
 |succ f=>rw[C6,Bb<|zo<|by simp[h]]
def Zu(tZ:Dw)(e:M):Prop:=∀(b:M) (x:PS) (y:St) (c:M) (a:C8) (f:Dj) (d:Cf),Al tZ x y->(x.H=zr->2*(tZ-x.q)+1<=e/\2*(tZ-x.q)+1<=b)->
 vX tZ (Dr tZ tZ e x f).2 (C6 (tZ.map CR) b c y a d).2.1/\
 ((C6 (tZ.map CR) b c y a d).2.1.wY=Z->∃h g,(Dr tZ tZ e x f).1=f++h/\(C6 (tZ.map CR) b c y a d).1=d++g/\Fv (λj t=>L a<=j/\Gs c e (C6 (tZ.map CR) b c y a d).2.2 j t) g h/\OT a (C6 (tZ.map CR) b c y a d).2.2)
omit o in
theorem MZ{c f2:M}(C:Zu tZ c){x:PS}{y:St}(b a)(h:Al tZ x y)(B:x.H=zr->2*(tZ-x.q)<=c+1/\2*(tZ-x.q)<=f2+1):
 Al tZ (CC tZ tZ 13 (Dr tZ tZ c (CC tZ tZ 12 x) []).2) (CW (tZ.map CR) [125] (C6 (tZ.map CR) f2 b (CW (tZ.map CR) [123] y) a []).2.1)/\
 ((CW (tZ.map CR) [125] (C6 (tZ.map CR) f2 b (CW (tZ.map CR) [123] y) a []).2.1).wY=Z->
   Fv (λj t=>L a<=j/\Gs b c (C6 (tZ.map CR) f2 b (CW (tZ.map CR) [123] y) a []).2.2 j t) (C6 (tZ.map CR) f2 b (CW (tZ.map CR) [123] y) a []).1 (Dr tZ tZ c (CC tZ tZ 12 x) []).1/\OT a (C6 (tZ.map CR) f2 b (CW (tZ.map CR) [123] y) a []).2.2/\(CI (tZ.map CR) y.b).pos=(Di tZ 12 x).t9/\y.wY=Z):=by
 have d:=MA H (k:=12) (by decide) (by decide) h;simp only[Ga,Nat.reduceEqDiff,BD,BE]at d;have⟨s,u⟩:=C f2 (CC tZ tZ 12 x) (CW (tZ.map CR) [123] y) b a [] [] d (λe=>by have q:=Gf (k:=12) nofun e;have:=B q.1;have:=(fZ d e).2.2.2;omega)
 refine⟨fY H s,λe=>?_⟩;have f:=((DP (tZ.map CR) [125] _).2.2.2 e).1;have n:(CW (tZ.map CR) [123] y).wY=Z:=by
  cases m:(CW (tZ.map CR) [123] y).wY with
  |none=>rfl
  |some p=>rw[Fo _ _ _ _ _ m]at f;simp only[m]at f;cases f
 have r:=((DP (tZ.map CR) [123] y).2.2.2 n).1;have⟨F,E,i,l,v,w⟩:=u f;simp only[A8]at i l;rw[i,l];refine⟨v,w,?_,r⟩;have z:=Oa d n;have g:=Oa h r;rw[(Gf (k:=12) nofun z.1).2.2.1,g.2.2.1,D7];rfl
theorem nP:∀i:M,Zu tZ i/\
 (∀(j:M) (x:PS) (y:St) (d:M) (c:C8),Qj tZ x y->FY (CJ tZ x.q).e->2*(tZ-x.q)<=i->2*(tZ-x.q)<=j->
   Al tZ (Ee tZ tZ i x).2 (Dn (tZ.map CR) j d y c).2.1/\
   ((Dn (tZ.map CR) j d y c).2.1.wY=Z->(Dn (tZ.map CR) j d y c).1=c/\Gs d i (Dn (tZ.map CR) j d y c).2.2 c (Ee tZ tZ i x).1/\OT c (Dn (tZ.map CR) j d y c).2.2/\L c<(Dn (tZ.map CR) j d y c).2.2)):=by
 have E:=λ(k:M) (h3:3<=k) (a0:k<=20) {x:PS} {y:St} (h:Al tZ x y)=>MA H h3 a0 h
 have TN:=λ(k:M) (hk:k≠0) {x:PS} (h:(CC tZ tZ k x).H=zr)=>Gf hk h
 intro i;induction i with
 |zero=>
  refine⟨λj x y d c b3 b6 h hf=>?_,λj x y d c h hb hf _=>?_⟩;rcases h with h|⟨p,hb,hy⟩
  have:=(hf h.1).1;omega;rw[Fo _ _ _ _ _ hy];refine⟨zo<|zn ⟨p,by grind[Dr],hy⟩,λe=>?_⟩;grind;have:=h.2.2.2;omega
 |succ i ih=>
  refine⟨λj x y d c b3 b6 h hf=>?_,λj x y d c h hb hf c0=>?_⟩;rcases h with h|⟨p,hb,hy⟩
  have⟨c9,c0⟩:=hf h.1;have a5:=h.2.2.2;obtain⟨f,a7⟩:∃f,j=f+1:=⟨j-1,by omega⟩;subst a7;have b5:=LJ H (k:=13) (by decide) (by decide) (zo h:Al tZ x y);simp only[Ga,Nat.reduceEqDiff,BD,BE]at b5;by_cases a3:FY (CJ tZ x.q).e;have a6:¬(CJ tZ x.q).e=13:=by grind[FY]
  have a9:¬(y.wY≠Z\/Ei y.wY (CI (tZ.map CR) y.b) [125]=zt):=by rintro(q|q);exact q h.2.1;grind
  rw[Dr,Bb a3,C6,Ba a9];have⟨a1,s⟩:=ih.2 f x y d c h a3 (by omega) (by omega);have d0:(Ee tZ tZ i x).2.H=zr->x.q+1<=(Ee tZ tZ i x).2.q:=by intro _;obtain⟨U,b8⟩:∃U,i=U+1:=⟨i-1,by omega⟩;subst b8;exact MP H.end_ U a5 a3
  have⟨t,C⟩:=ih.1 f (Ee tZ tZ i x).2 (Dn (tZ.map CR) f d y c).2.1 d (Dn (tZ.map CR) f d y c).2.2 (b3++[(Ee tZ tZ i x).1]) (b6++[(Dn (tZ.map CR) f d y c).1]) a1 (λe=>by grind);refine⟨t,λe=>?_⟩;have⟨ts,ls,u,v,c3,S⟩:=C e;have c7:(Dn (tZ.map CR) f d y c).2.1.wY=Z:=by
   cases hq:(Dn (tZ.map CR) f d y c).2.1.wY with
   |none=>rfl
   |some p=>grind[Fo]
  have⟨d1,d2,d3,d4⟩:=s c7;refine⟨(Ee tZ tZ i x).1::ts,L c::ls,by rw[u];simp,by grind,.cons ⟨Ad _,(d2.pre S).up⟩<|c3.mono λa b r=>⟨by omega,r.2.up⟩,d3.trans S⟩;rw[Dr,Ba a3];by_cases a6:(CJ tZ x.q).e=13;rw[C6,Bb<|zn<|b5.2 a6];exact⟨zo<|zo h,λ_=>⟨[],[],by simp,by simp,.nil,OT.refl _⟩⟩;have a9:¬(y.wY≠Z\/Ei y.wY (CI (tZ.map CR) y.b) [125]=zt):=by rintro(q|q);exact q h.2.1;grind
  rw[C6,Ba a9];obtain⟨F,b9⟩:∃F,f=F+1:=⟨f-1,by omega⟩;subst b9;have l:=λ(k:M) (h3:3<=k) (a0:k<=20)=>LP H h3 a0 h
  have w4:=l 4 (by decide) (by decide);have w6:=l 6 (by decide) (by decide);have P:=l 7 (by decide) (by decide);have w9:=l 9 (by decide) (by decide);have c8:=l 17 (by decide) (by decide);simp only[Ga,Nat.reduceEqDiff,BD,BE]at w4 w6 P w9 c8;unfold FY at a3;have b4:(Dn (tZ.map CR) (F+1) d y c).2.1.wY=(CJ tZ x.q).t9:=by
   rw[Dn,Ba<|by grind];simp only;apply Jw _ _;unfold DW;rw[Ba<|by grind,Ba<|by grind,Ba<|by grind];simp only;refine WE _ _<|Jw _ _ ?_;unfold Ev Gj;have hs:¬(y.wY.isNone=zt/\(CI (tZ.map CR) y.b).h=1):=by rintro⟨_,e⟩;rw[h.2.2.1,D7]at e;have:=(L8 _).1 e;omega
   simp only[Ba hs];rw[h.2.2.1,D7,h.2.1];rfl
  rw[Fo _ _ _ _ _ b4];refine⟨zn ⟨h.1,a5,a6,b4⟩,λe=>?_⟩;grind;rw[Fo _ _ _ _ _ hy,Dr,Ba<|by rw[hb.2.2,H.end_];decide];refine⟨zo<|zn ⟨p,hb,hy⟩,λe=>?_⟩;grind;have a5:=h.2.2.2;obtain⟨f,a7⟩:∃f,j=f+1:=⟨j-1,by omega⟩;subst a7;have b0:Al tZ x y:=zo h;have l:=λ(k:M) (h3:3<=k) (a0:k<=20)=>LP H h3 a0 h
  have P:=l 7 (by decide) (by decide);have w9:=l 9 (by decide) (by decide);simp only[Ga,Nat.reduceEqDiff,BD,BE]at P w9;have m:=λ(k:M) {x:PS} (hc:x.q<tZ)=>CG (n:=tZ) H.end_ k hc
  by_cases I:(CJ tZ x.q).e=7;have hw:=P.2 I;have a8:Dk (CI (tZ.map CR) y.b)=mS\/Dk (CI (tZ.map CR) y.b)=LG:=zo hw;rw[Ee,Bb I,Dn,Bb a8];simp only[hw,BD];have s:=E 20 (by decide) (by decide)<|E 7 (by decide) (by decide) b0;simp only[Ga,Nat.reduceEqDiff,BD,BE]at s;have V:=m 7 a5;have X:=V.trans<|m 20 V.2;generalize CC tZ (L tZ) 20 (CC tZ (L tZ) 7 x)=x2 at*;generalize CW (tZ.map CR) [63] (CW (tZ.map CR) [105,102] y)=R at*;have⟨t,C⟩:=MZ H ih.1 (f2:=f) d (c++[Gd 0 0]) s (λ_=>by have:=X.1;omega);have g3:=X.trans<|m 12 X.2;have g4:=g3.trans<|Er H.end_ i _ [] g3.2;have g5:=g4.trans<|m 13 g4.2;generalize Dr tZ (L tZ) i (CC tZ (L tZ) 12 x2) []=r at*;generalize C6 (tZ.map CR) f d (CW (tZ.map CR) [123] R) (c++[Gd 0 0]) []=q at*;have n8:=LJ H (k:=8) (by decide) (by decide) t;simp only[Ga,Nat.reduceEqDiff,BD,BE]at n8;by_cases k8:(CJ tZ (CC tZ tZ 13 r.2).q).e=8;rw[Bb k8,Bb<|n8.2 k8];have a4:=E 8 (by decide) (by decide) t;simp only[Ga,Nat.reduceEqDiff,BD,BE]at a4;have g6:=g5.trans<|m 8 g5.2;have b7:(CW (tZ.map CR) [101,108,115,101]<|CW (tZ.map CR) [125] q.2.1).wY=Z->(CW (tZ.map CR) [125] q.2.1).wY=Z:=λe=>((DP (tZ.map CR) [101,108,115,101] _).2.2.2 e).1
  generalize CC tZ (L tZ) 8 (CC tZ (L tZ) 13 r.2)=x4 at*;generalize CW (tZ.map CR) [101,108,115,101] (CW (tZ.map CR) [125] q.2.1)=y4 at*;have⟨d1,d2⟩:=MZ H ih.1 (f2:=f) d q.2.2 a4 (λ_=>by have:=g6.1;omega);generalize Dr tZ (L tZ) i (CC tZ (L tZ) 12 x4) []=r2 at*;generalize C6 (tZ.map CR) f d (CW (tZ.map CR) [123] y4) q.2.2 []=q2 at*;refine⟨d1,λe=>?_⟩;have⟨U,F,e3,e4⟩:=d2 e;have⟨u,v,c3,S⟩:=C<|b7 e4;have⟨w,z,B,N⟩:=KI c q2.2.2 (Gd 0 0) {Gd d (-1)with e:=12,br:=(CI (tZ.map CR) R.b).pos,body:=q.1,xY:=(CI (tZ.map CR) y4.b).pos,other:=q2.1}<|v.trans F;have c5:=v.1;simp only[Ah,Az]at c5;refine⟨by trivial,⟨_,z,zn<|zn<|zn ⟨_,_,_,_,Q,Q,Q,Q,by grind,by grind,?_,?_⟩⟩,w,B⟩;refine u.mono λa b r=>?_;have K:=r.1;simp only[Ah,Az]at K;exact⟨by omega,(r.2.pre F).yD (k:=c+1) (by omega) N⟩;refine U.mono λa b r=>?_;have K:=r.1;exact⟨by omega,r.2.yD (k:=c+1) (by omega) N⟩;rw[Ba k8,Ba λe=>k8<|n8.1 e];refine⟨t,λe=>?_⟩;have⟨u,v,c3,S⟩:=C e;have⟨w,z,B,N⟩:=KI c q.2.2 (Gd 0 0) {Gd d (-1)with e:=12,br:=(CI (tZ.map CR) R.b).pos,body:=q.1} v;refine⟨by trivial,⟨_,z,zn<|zn<|zo ⟨_,_,Q,Q,Q,Q,by grind,Q,Q,?_⟩⟩,w,B⟩;refine u.mono λa b r=>?_;have K:=r.1;simp only[Ah,Az]at K;exact⟨by omega,r.2.yD (k:=c+1) (by omega) N⟩;by_cases k9:(CJ tZ x.q).e=9;have hw:=w9.2 k9;have c6:¬Dk (CI (tZ.map CR) y.b)=[105,102]:=λe=>I<|P.1 e
  have a8:Dk (CI (tZ.map CR) y.b)=mS\/Dk (CI (tZ.map CR) y.b)=LG:=zn hw;rw[Ee,Ba I,Bb k9,Dn,Bb a8,Ba c6];simp only[hw];have s:=E 20 (by decide) (by decide)<|E 9 (by decide) (by decide) b0;simp only[Ga,Nat.reduceEqDiff,BD,BE]at s;have V:=m 9 a5;have X:=V.trans<|m 20 V.2;generalize CC tZ (L tZ) 20 (CC tZ (L tZ) 9 x)=x2 at*;generalize CW (tZ.map CR) [63] (CW (tZ.map CR) [119,104,105,108,101] y)=R at*;have⟨t,C⟩:=MZ H ih.1 (f2:=f) d (c++[Gd 0 0]) s (λ_=>by have:=X.1;omega);generalize Dr tZ (L tZ) i (CC tZ (L tZ) 12 x2) []=r at*;generalize C6 (tZ.map CR) f d (CW (tZ.map CR) [123] R) (c++[Gd 0 0]) []=q at*;refine⟨t,λe=>?_⟩;have⟨u,v,c3,S⟩:=C e;have⟨w,z,B,N⟩:=KI c q.2.2 (Gd 0 0) {Gd d (-1)with e:=13,br:=(CI (tZ.map CR) R.b).pos,body:=q.1} v;refine⟨by trivial,⟨_,z,zn<|zo ⟨_,_,Q,Q,Q,Q,by grind,Q,Q,?_⟩⟩,w,B⟩;refine u.mono λa b r=>?_;have K:=r.1;simp only[Ah,Az]at K;exact⟨by omega,r.2.yD (k:=c+1) (by omega) N⟩;rw[Ee,Ba I,Ba k9,Dn,Ba λe=>e.elim (λe=>I<|P.1 e) λe=>k9<|w9.1 e];simp only;have⟨p1,p2⟩:=gA H o d h;have p3:=E 14 (by decide) (by decide) p1;simp only[Ga,Nat.reduceEqDiff,BD,BE]at p3;refine⟨p3,λe=>?_⟩;have g:=Oa p3 e;have hg:=(TN 14 nofun g.1).1;have⟨w,z,B,_⟩:=KI c (c++[Gd 0 0]) (Gd 0 0) (DW (tZ.map CR) d y).1<|OT.refl _;exact⟨by trivial,⟨_,z,zo ⟨Q,p2 hg⟩⟩,w,B⟩
end
theorem VP(n:M):((n:zw)==0)=(n==0):=by rw[Bool.eq_iff_iff];simp
def El:Df->M->Cm->Cm
 |[],_,a=>a
 |t::l,k,a=>El l (k+1) (if Maps.has a (Eg t.I.a)then a else a.put (Eg t.I.a) (.lit<|.int .i64 k))
theorem Vw(a:Df)(k:M)(h:k<a)(b:Cm):El (a.drop k) k b=El (a.drop<|k+1) (k+1) (if Maps.has b (Eg a[k].I.a)then b else b.put (Eg a[k].I.a) (.lit<|.int .i64 k)):=by rw[Ap h];rfl
theorem ME(d U K a a2 w)(hp:Gt d U w K a)(hl:∀t,t∈a->t.I.a.size<=4000)(hk:L a<=4000):
 F' zy 89 #[N' #[K,G A a2]] w λe w'=>∃r,e=T' (.map<|T r)/\w.heap.size<=r/\D5 r (L a) (El a 0<|.map []) w'/\O Cb w w':=by
 have b0:=@run_makeMap zy;have x:=hp;have⟨a6,l,_⟩:=x;obtain⟨va,vc,rfl⟩:=CB l;generalize N:El a 0 (.map [])=V;have I:D<|El (a.drop 0) 0 (.map [])=V:=N;clear N l;go_in;go_wp2;go_loopw[12] (λi wr=>∃(k:M) (b:Cm),k<=a/\i=G A k/\D5 ((w:M)+1) k b wr/\O Cb w wr/\D (El (a.drop k) k b=V)) (λi _=>a-(zm i).toNat);refine⟨0,.map [],by omega,Q,J ?_,J<|((CT _ w).alloc _).alloc _,I⟩;have:=World.ownsMap_made (H:=Unit) (w.alloc<|R' #[Y va a vc,a2] 81) zy 9<|plainElem zy 3;simpa[D5]using this;obtain⟨k,b,a9,rfl,n,o,B⟩:=hrel;clear I;by_cases X:k<a
 .have y:=hp.j o Ed;have x:=y;have⟨a7,l,_⟩:=x;obtain⟨g,rfl⟩:=CH l (by omega);have lg:=(l.lt g Q).2;have⟨av,sv,f,P,_,a4⟩:=y.get X;obtain⟨s,v,u,rfl⟩:=CA P;have⟨a8,p2,_⟩:=a4;obtain⟨C,F,E,rfl⟩:=CA p2;have f0:=f 0 (by omega);have f1:=f 1 (by omega);have f2:=f 2 (by omega);have f3:=f 3 (by omega);have f4:=f 4 (by omega);simp only[Sk,Ac,Aa,Ab,Au]at f0 f1 f2 f3 f4;have a1:=J<|Vw a k X b;have S:=hl a[k]<|Am _;clear l p2 P f y;generalize a[k]=t at*;have l1:=o;have lm:=World.ownsMap.lt n;have⟨z,a0,_,_⟩:=Js (w:=wr.alloc<|R' #[t.I.a,t.I.t9,Y s v u,t.t9,Y C F E] 151) (n.j ((CT Cb wr).alloc _) id) S;cases h:Maps.has b (Eg t.I.a)with
  |true=>
   rw[h]at a0;have q:=J h;clear h;go_wp2;go_round
   .refine⟨k+1,b,by omega,by go_num,J ?_,J<|o.alloc _,J ?_⟩;exact World.ownsMap.mono (n.j ((CT Cb wr).alloc _) id) (by omega);have:=a1.o;rw[Bb q.o]at this;exact this.symm.trans B.o
   simp[intOf];omega
  |false=>
   rw[h]at a0;have q:=J h;clear h;have⟨w2,b1,a3,m⟩:=Jb (p:=k) (w:=wr.alloc<|R' #[t.I.a,t.I.t9,Y s v u,t.t9,Y C F E] 151) (n.j ((CT Cb wr).alloc _) id) S (by omega) (by omega);go_wp2;go_round
   .refine⟨k+1,_,by omega,by go_num,J a3,J ?_,J ?_⟩;have c:=o.alloc<|R' #[t.I.a,t.I.t9,Y s v u,t.t9,Y C F E] 151;exact⟨m.os.trans c.os,m.tape.trans c.tape,m.output.trans c.output,As c.size m.size,λj R _=>(m.block j (Av R c.size)<|by omega).trans<|c.block j R id⟩;have:=a1.o;rw[Ba<|by rw[q.o];decide]at this;exact this.symm.trans B.o
   simp[intOf];omega
 .have e:k=a:=by omega
  subst e;have a5:b=V:=by have:=B.o;simpa[El]using this
  subst a5;go_wp2;go_ret;exact⟨_,Q,by omega,n,o⟩
theorem Pd(b d U p a N I m n F c w)(k:FJ b p N (.map<|T m) I c w)(v:D5 m n F w)(i:Gt d U w p a)(C:Qh F a)(hk:L a<=4001):
 F' zy 91 #[Z' b] w λe P=>e=(Maps.has F (Eg ⟨#[109,97,105,110]⟩) && OC a (Fc F ⟨#[109,97,105,110]⟩)==0)/\O Cb w P:=by
 have K:=W.j0 k;have r2:=W.j2 k;have lr:=Cz k;have⟨z,y,l,_⟩:=Js (w:=w) (s:=⟨#[109,97,105,110]⟩) v (by decide);clear k v;cases f:Maps.has F (Eg ⟨#[109,97,105,110]⟩)with
 |false=> rw[f]at y;clear f i K;go_in;go_wp2;go_ret;exact⟨by simp,CT _ _⟩
 |true=>
  rw[f]at y;have⟨j,u,o⟩:=C _ f;have H:z=(j:zw):=by rw[o]at l;simpa using l.symm
  have t:Fc F ⟨#[109,97,105,110]⟩=j:=by simp[Fc,o]
  have x:OC a j=a[j].m:=by simp[OC,u]
  subst H;have E:=i;have⟨X,h,_⟩:=E;obtain⟨va,vl,vc,rfl⟩:=CA h;obtain⟨g,rfl⟩:=CH h (by omega);cases CU h;have lg:=(h.lt g Q).2;have⟨V,sv,r,q,_,_⟩:=i.get u;obtain⟨R,S,rfl⟩:=CB q;have B:=r 2 (by omega);simp only[Sk,Ac,Aa,Ab]at B;rw[t,x];clear h q r i l o t x f;go_in;go_wp2;go_ret;exact⟨by simp[VP],CT _ _⟩
structure Ck(b d:M)(U:Ce)(fs:H')(fns:Df)(stop:zw)(mf nf m n:M)(F D:Cm)(c:CS)(w:I'):Prop where
 xR:FJ b fs stop (.map<|T mf) (.map<|T m) c w
 y:D5 m n D w
 yE:D5 mf nf F w
 rows:Gt d U w fs fns
 fin:Qh F fns
 xE:fns.length<=4001
 ne:m≠mf
 ub:¬U b
 um:¬U m
theorem Ck.j{d}{U:Ce}{e w w'}{X:Ce}(h:Ck B d U V y2 q8 C R v0 p0 z8 e x4 w)(a:O X w w')(f:¬X B)(g:¬X v0)(i:¬X C)(j:∀k,U k->¬X k):Ck B d U V y2 q8 C R v0 p0 z8 e x4 w':=
 ⟨W.j h.xR a f,h.y.j a g,h.yE.j a i,h.rows.j a j,h.fin,h.xE,h.ne,h.ub,h.um⟩
theorem Ck.xD{a}(h:Ck B C z1 V y2 q8 R X v0 p0 z8 a x4 P)(e:O Cb P y0):Ck B C z1 V y2 q8 R X v0 p0 z8 a x4 y0:=
 h.j e id id id Ed
theorem Ck.step{e}(h:Ck B C z1 V y2 q8 R X v0 p0 z8 e x4 P)(f:FJ B V q8 (.map<|T R) (.map<|T v0) y9 y0)(a:O (λk=>k=B) P y0):Ck B C z1 V y2 q8 R X v0 p0 z8 e y9 y0:=
 ⟨f,h.y.j a<|h.y.ne h.xR,h.yE.j a<|h.yE.ne h.xR,h.rows.j a λ_ g q=>h.ub<|q▸g,h.fin,h.xE,h.ne,h.ub,h.um⟩
theorem Ck.zV{i a}(h:Ck B C z1 V y2 q8 R X v0 p0 z8 i x4 P)(j:FJ B V q8 (.map<|T R) (.map<|T v0) y9 y0)(l:D5 v0 o1 a y0)(g:O (λk=>k=B\/k=v0) P y0):Ck B C z1 V y2 q8 R X v0 o1 z8 a y9 y0:=
 ⟨j,l,h.yE.j g λq=>q.elim (h.yE.ne h.xR) λe=>h.ne e.symm,h.rows.j g λ_ f q=>q.elim (λe=>h.ub<|e▸f) λe=>h.um<|e▸f,h.fin,h.xE,h.ne,h.ub,h.um⟩
structure tK(s:VS):Prop where
 tg:s.tg.a.size<=4000
 tp:s.tg.t9<=4000
 sr:s.sr.a.size<=4000
 ar:∀t,t∈s.k->t.a.size<=4000
 al:s.k.length<=4000
def Jv(F:Cm)(a:Df)(s:VS)(x:Cm×CS):Cm×CS:=
 match s.e with
 |0=>(Mo x.1 s.tg,Jj x.1 s.tg x.2)
 |1=>(x.1,Fj x.1 s.tg x.2)
 |4=>(x.1,Fj F s.sr<|Fj x.1 s.tg x.2)
 |7=>(x.1,J2 x.1 s.k<|Iu F a s.sr s.k<|Fj x.1 s.tg x.2)
 |8=>(x.1,J2 x.1 s.k<|Fj x.1 s.sr<|Fj x.1 s.tg x.2)
 |10=>(x.1,Fj x.1 s.sr x.2)
 |_=>(x.1,Fj x.1 s.sr<|Fj x.1 s.tg x.2)
structure KS(b d:M)(U:Ce)(fs:H')(fns:Df)(stop:zw)(mf nf m n:M)(F D:Cm)(sb:M)(sc:Cg)(av:H')(ar:Dw)(w0:I')(c:CS)(w:I'):Prop where
 k:Ck b d U fs fns stop mf nf m n F D c w
 s:W sb sc 270 w
 o:O (λk=>k=b\/k=m) w0 w
 a:w.ownsRow 0 145 2 av ar<|Ej ar
 u:∀k,av.ownBlock=T k->k≠b
 e:sb≠b
theorem KS.step{e f}(h:KS B C z1 V y2 q8 R X v0 p0 z8 e o1 q1 z0 f P x4 y0)(g:FJ B V q8 (.map<|T R) (.map<|T v0) y9 v1)(a:O (λk=>k=B) y0 v1):KS B C z1 V y2 q8 R X v0 p0 z8 e o1 q1 z0 f P y9 v1:=
 ⟨h.k.step g a,W.j h.s a h.e,h.o.trans<|a.mono λ_ _ q=>zo q,Cx h.a a h.u,h.u,h.e⟩
theorem W.c8{w:I'}(h:W B y1.toArray q0 w):w B=y1[0]? /\w (B,1)=y1[1]? /\w (B,2)=y1[2]? /\w (B,3)=y1[3]? /\w (B,4)=y1[4]? /\w (B,5)=y1[5]? /\w (B,6)=y1[6]? /\w (B,7)=y1[7]? :=by refine⟨?_,?_,?_,?_,?_,?_,?_,?_⟩<;>rw[h.z]<;>simp
theorem Zc(b d a6:M)(U:Ce)(v:H')(N:Df)(y:zw)(x X m n:M)(F z:Cm)(c:CS)(s:VS)(av bv:H')(w:I')(K:Ck b d U v N y x X m n F z c w)(P:tK s)(hn:n<=4000)(ha:J' w 0 145 2 av s.k<|Ej s.k)(hu:∀k,L' av=T k->U k)(a7:∃a2 l2 c2,bv=Y a2 l2 c2)(hk:s.e<=10):
 F' zy 168 #[Z' b,N'<|Jc s av bv,a6] w λe w'=>e=P' #[]/\(∃n',n'<=n+1/\Ck b d U v N y x X m n' F (Jv F N s (z,c)).1 (Jv F N s (z,c)).2 w')/\O (λk=>k=b\/k=m) w w':=by
 have⟨i,R,E,a4,H⟩:=s;simp only at hk ha;obtain⟨a1,c1,rfl⟩:=CB ha;obtain⟨a2,l2,c2,rfl⟩:=a7;have lb:=Cz K.xR;have ht:=P.tg;have a5:=P.tp;have V:=P.sr;have a3:=P.ar;have a0:=P.al;simp only at ht a5 V a3 a0;have B:KS b d U v N y x X m n F z w #[i,R.a,R.t9,E.a,E.t9,a4,Y a1 H c1,Y a2 l2 c2] (Y a1 H c1) H w c<|w.alloc<|R' #[i,R.a,R.t9,E.a,E.t9,a4,Y a1 H c1,Y a2 l2 c2] 270:=
  ⟨K.xD<|(CT Cb w).alloc _,W.new _ _ _,(CT _ w).alloc _,Cx ha ((CT Cb w).alloc _) Ed,λk hk e=>K.ub<|e▸hu k hk,by omega⟩
 clear K ha P;have a8:i=0\/i=1\/i=2\/i=3\/i=4\/i=5\/i=6\/i=7\/i=8\/i=9\/i=10:=by omega
 rcases a8 with rfl|rfl|rfl|rfl|rfl|rfl|rfl|rfl|rfl|rfl|rfl
 all_goals
  unfold Jc Jv;simp only;go_in
 .go_wp2_with(go_at_call 137;apply(OZ b v y (.map x) m n z _ R _ B.k.xR B.k.y ht a5 hn).mono);rintro e I ⟨rfl,g,hv,a⟩;have f:=B.k.zV g hv a;have O1:=B.o.trans a;clear g hv a;go_wp2;go_end0;exact⟨Q,⟨n+1,by omega,f⟩,O1⟩
 rotate_right
 .go_wp2_with(go_at_call 187;apply(IT b v y (.map x) m n z _ E _ B.k.xR B.k.y V).mono);rintro e I ⟨rfl,g,a⟩;have f:=B.step g a;have⟨j,l,o,p,q,r,t,u⟩:=f.s.c8;simp only[Aa,Ab]at j l o p q r t u;have S:=f.o;clear g a;go_wp2;go_end0;exact⟨Q,⟨n,by omega,f.k⟩,f.o⟩
 all_goals
  go_wp2_with(go_at_call 187;apply(IT b v y (.map x) m n z _ R _ B.k.xR B.k.y ht).mono);rintro e I ⟨rfl,g,a⟩;have f:=B.step g a;have⟨j,l,o,p,q,r,t,u⟩:=f.s.c8;simp only[Aa,Ab]at j l o p q r t u;have S:=f.o;clear g a
 .go_wp2;go_end0;exact⟨Q,⟨n,by omega,f.k⟩,f.o⟩
 rotate_left 2
 .go_wp2_with(go_at_call 188;apply(Oq b v y (.map m) x X F _ E _ f.k.xR f.k.yE V).mono);rintro e I ⟨rfl,g,a⟩;have h:=f.step g a;have⟨j,l,o,p,q,r,t,u⟩:=h.s.c8;simp only[Aa,Ab]at j l o p q r t u;have S:=h.o;clear g a;go_wp2;go_end0;exact⟨Q,⟨n,by omega,h.k⟩,h.o⟩
 rotate_left 2
 .go_wp2_with(go_at_call 189;apply(XR b d U v N y (.map m) x X F _ E H _ f.k.xR f.k.yE f.k.rows f.k.fin V f.k.xE).mono);rintro e I ⟨rfl,g,a⟩;have h:=f.step g a;have⟨j,l,o,p,q,r,t,u⟩:=h.s.c8;simp only[Aa,Ab]at j l o p q r t u;have S:=h.o;clear g a;go_wp2_with(go_at_call 190;apply(Ke b v y (.map x) m n z _ H _ _ h.k.xR h.k.y h.a a3 a0).mono);rintro e I ⟨rfl,g,a⟩;have C:=h.step g a;have⟨j,l,o,p,q,r,t,u⟩:=C.s.c8;simp only[Aa,Ab]at j l o p q r t u;have S:=C.o;clear g a;go_wp2;go_end0;exact⟨Q,⟨n,by omega,C.k⟩,C.o⟩
 all_goals
  go_wp2_with(go_at_call 187;apply(IT b v y (.map x) m n z _ E _ f.k.xR f.k.y V).mono);rintro e I ⟨rfl,g,a⟩;have h:=f.step g a;have⟨j,l,o,p,q,r,t,u⟩:=h.s.c8;simp only[Aa,Ab]at j l o p q r t u;have S:=h.o;clear g a
 .go_wp2_with(go_at_call 190;apply(Ke b v y (.map x) m n z _ H _ _ h.k.xR h.k.y h.a a3 a0).mono);rintro e I ⟨rfl,g,a⟩;have C:=h.step g a;have⟨j,l,o,p,q,r,t,u⟩:=C.s.c8;simp only[Aa,Ab]at j l o p q r t u;have S:=C.o;clear g a;go_wp2;go_end0;exact⟨Q,⟨n,by omega,C.k⟩,C.o⟩
 all_goals
  go_wp2;go_end0;exact⟨Q,⟨n,by omega,h.k⟩,h.o⟩
def Qv(F:Cm)(b:Df):M->M->TS->Cm×CS->Cm×CS
 |0,_,_,x=>x
 |d+1,a,.mk s c,x=>
  if s.e=11\/s.e=12 then c.foldl (λx q=>q.2.foldl (λx t=>Qv F b d (a+1) t x) (x.1,if 6<a+1 then EU 4 q.1 x.2 else x.2)) x
  else Jv F b s x
def Xv(F:Cm)(b:Df)(d a:M)(q:M×Dj)(x:Cm×CS):Cm×CS:=
 q.2.foldl (λx t=>Qv F b d a t x) (x.1,if 6<a then EU 4 q.1 x.2 else x.2)
def Fn:M->TS->M
 |0,_=>0
 |d+1,.mk _ a=>1+(a.map λq=>(q.2.map<|Fn d).sum).sum
def Sx:M->TS->Prop
 |0,_=>zv
 |d+1,.mk s a=>tK s/\s.e<=12/\L a<=4000/\∀q,q∈a->L q.2<=4000/\∀t,t∈q.2->Sx d t
def fP(d:M):Prop:=∀(b i a:M) (U:Ce) (j:H') (f:Df) (q:zw) (l p m n:M) (F g:Cm) (c:CS) (t:TS) (h:Cg) (w:I'),
 Ck b i U j f q l p m n F g c w->EG d U w t h.toList->Sx d t->n+Fn d t<=4000->a+d<=4001->
 F' zy 168 #[Z' b,N' h,a] w λe r=>e=P' #[]/\(∃o,o<=n+Fn d t/\Ck b i U j f q l p m o F (Qv F f d a t (g,c)).1 (Qv F f d a t (g,c)).2 r)/\O (λk=>k=b\/k=m) w r
theorem Gq.get{d}{U:Ce}{w q}(h:Gq d U w (Y (T ⟨B,0,Z⟩) C R) q)(F:X<L q):
 ∃(s:VS) (a:Ch) (m f:M) (b:Ch) (n k:M),(∀i,i<8->K' w ⟨B,X*8+i,Z⟩=(Jc s (Y a m f)<|Y b n k)[i]?)/\EG d U w q[X] (Jc s (Y a m f)<|Y b n k).toList:=by
 have⟨o,v,h2,h3,E⟩:=h;cases CU v;have H:X<o:=by omega
 have u:∀i (p:i<L q) (y:i<L o),∃(s:VS) (a:Ch) (m f:M) (b:Ch) (n k:M),o[i]=(Jc s (Y a m f)<|Y b n k).toList:=by
  intro i p y;have r:=E i p y;generalize o[i]=V at r;generalize q[i]=t at r;cases d with
  |zero=>exact r.elim
  |succ d=> obtain⟨s,P⟩:=t;have⟨K,S,N,e,r1,_,r2,_⟩:=r;grind[CA]
 have hs:∀x,x∈o->L x=8:=by intro x I;obtain⟨i,p,rfl⟩:=AC.1 I;have⟨_,_,_,_,_,_,_,z⟩:=u i (by omega) p;rw[z];rfl
 have⟨s,a,m,f,b,n,k,e⟩:=u X F H;refine⟨s,a,m,f,b,n,k,λi p=>?_,by grind⟩;have hc:=v.cellAt (X*8+i) (by omega);simp_all [EO]
theorem Ky{B:Type}(f:B->z9->B)(l:List z9)(k:M)(h:k<l)(x:B):(l.drop k).foldl f x=(l.drop<|k+1).foldl f (f x l[k]):=by grind[List.drop_eq_getElem_cons]
theorem Xf(f:TS->M)(l:Dj)(k:M)(h:k<l):((l.drop k).map f).sum=f l[k]+((l.drop<|k+1).map f).sum:=by grind[List.drop_eq_getElem_cons]
theorem Qr(d:M)(hS:fP d)(b R h p:M)(U:Ce)(E:H')(j:Df)(P:zw)(N X m n:M)(F C:Cm)(c:CS)(a:Dj)(sv:H')(w:I')
 (K:Ck b R U E j P N X m n F C c w)(hR:Gq d U w sv a)(hO:∀t,t∈a->Sx d t)(hn:n+(a.map<|Fn d).sum<=4000)(hd:h+d<=4001)(hl:L a<=4000):
 F' zy 138 #[Z' b,N' #[p,sv],h] w λe w'=>e=P' #[]/\(∃n',n'<=n+(a.map<|Fn d).sum/\Ck b R U E j P N X m n' F (Xv F j d h (p,a) (C,c)).1 (Xv F j d h (p,a) (C,c)).2 w')/\O (λk=>k=b\/k=m) w w':=by
 have a0:=hR;have⟨b6,u,_⟩:=a0;obtain⟨va,vc,rfl⟩:=CB u;have lb:=Cz K.xR;obtain⟨K0,S0,O0,R0,HS⟩:=Ix (K.xD<|(CT Cb w).alloc<|R' #[p,Y va a vc] 149) (W.new w #[p,Y va a vc] 149) ((CT (λk=>k=b\/k=m) w).alloc<|R' #[p,Y va a vc] 149) hR hS;clear K hR u hS;by_cases h6:6<h
 .have b1:(6:zw)<(h:zw):=by omega
  have⟨v,S⟩:=Dv<|EU 4 p c;generalize hV:Xv F j d h (p,a) (C,c)=V;have HV:D<|(a.drop 0).foldl (λx t=>Qv F j d h t x) (C,v)=V:=by rw[<-hV,Xv,Bb h6,S];rfl
  have C1:=J S;clear hV S h6;go_in;go_wp2_with(go_at_call 92;apply(EW b 4 p E P (.map N) (.map m) c _ K0.o.xR).mono);rw[C1.o];rintro e b5 ⟨rfl,kw,ow⟩;have K1:=J<|K0.o.step kw ow;have O1:=J<|O0.o.trans<|ow.mono λ_ _ q=>zo q;have s0:=W.j1 (W.j S0.o ow<|by omega);have z1:=O1.o;clear kw ow K0 O0 S0;go_wp2;go_loopw[17] (λi wr=>∃(k r:M) (l:Cm) (o:CS),k<=L a/\i=G A k/\r+((a.drop k).map<|Fn d).sum<=n+(a.map<|Fn d).sum/\D (Ck b R U E j P N X m r F l o wr)/\D (O (λk=>k=b\/k=m) w wr)/\D ((a.drop k).foldl (λx t=>Qv F j d h t x) (l,o)=V)) (λi _=>a-(zm i).toNat);grind;obtain⟨k,r,l,o,b2,rfl,a6,y,z,a4⟩:=hrel;clear HV K1 O1;by_cases I:k<a
  .have H:Gq d U wr (Y va a vc) a:=Gq.j R0.o z.o λ_ hk q=>q.elim (λe=>y.o.ub<|e▸hk) λe=>y.o.um<|e▸hk;have a0:=H;have⟨b0,u,_⟩:=a0;obtain⟨g,rfl⟩:=CH u (by omega);have lg:=(u.lt g Q).2;have⟨s,a1,l1,v,a2,l2,c2,f,a3⟩:=H.get I;have f0:=f 0 (by omega);have f1:=f 1 (by omega);have f2:=f 2 (by omega);have f3:=f 3 (by omega);have f4:=f 4 (by omega);have f5:=f 5 (by omega);have f6:=f 6 (by omega);have f7:=f 7 (by omega);simp only[Jc,Ac,Aa,Ab,Au]at f0 f1 f2 f3 f4 f5 f6 f7;have a8:=J<|Ky (λx t=>Qv F j d h t x) a k I (l,o);have b4:=Xf (Fn d) a k I;have a7:=J<|hO a[k]<|Am _;have a5:=J a3;clear u f H a3;generalize a[k]=t at*;have l0:=z.o;have B:=J<|(CT Cb wr).alloc<|R' #[s.e,s.tg.a,s.tg.t9,s.sr.a,s.sr.t9,s.wU,Y a1 l1 v,Y a2 l2 c2] 270;go_wp2_with(go_at_call 168;apply(HS.o b R h U E j P N X m r F l o t #[s.e,s.tg.a,s.tg.t9,s.sr.a,s.sr.t9,s.wU,Y a1 l1 v,Y a2 l2 c2] _ (y.o.xD B.o) (EG.j a5.o B.o Ed) a7.o (by omega) hd).mono;rintro e w2 ⟨rfl,⟨n2,b3,k2⟩,o2⟩);go_round;exact⟨k+1,n2,_,_,by omega,by go_num,by omega,J k2,J<|z.o.trans<|(B.o.mono λ_ _ q=>q.elim).trans o2,J<|a8.o.symm.trans a4.o⟩;simp[intOf];omega
  .have e:k=a:=by omega
   subst e;have a9:(l,o)=V:=by have:=a4.o;grind
   subst a9;go_wp2;go_end0;simp at a6;exact⟨Q,⟨r,by omega,y.o⟩,z.o⟩
 .have b1:¬(6:zw)<(h:zw):=by omega
  have⟨v,S⟩:=Dv<|c;generalize hV:Xv F j d h (p,a) (C,c)=V;have HV:D<|(a.drop 0).foldl (λx t=>Qv F j d h t x) (C,v)=V:=by rw[<-hV,Xv,Ba h6,S];rfl
  subst S;clear hV h6;go_in;go_wp2;have K1:=K0;have O1:=O0;clear K0 O0 S0;go_loopw[17] (λi wr=>∃(k r:M) (l:Cm) (o:CS),k<=L a/\i=G A k/\r+((a.drop k).map<|Fn d).sum<=n+(a.map<|Fn d).sum/\D (Ck b R U E j P N X m r F l o wr)/\D (O (λk=>k=b\/k=m) w wr)/\D ((a.drop k).foldl (λx t=>Qv F j d h t x) (l,o)=V)) (λi _=>a-(zm i).toNat);grind;obtain⟨k,r,l,o,b2,rfl,a6,y,z,a4⟩:=hrel;clear HV K1 O1;by_cases I:k<a
  .have H:Gq d U wr (Y va a vc) a:=Gq.j R0.o z.o λ_ hk q=>q.elim (λe=>y.o.ub<|e▸hk) λe=>y.o.um<|e▸hk;have a0:=H;have⟨b0,u,_⟩:=a0;obtain⟨g,rfl⟩:=CH u (by omega);have lg:=(u.lt g Q).2;have⟨s,a1,l1,v,a2,l2,c2,f,a3⟩:=H.get I;have f0:=f 0 (by omega);have f1:=f 1 (by omega);have f2:=f 2 (by omega);have f3:=f 3 (by omega);have f4:=f 4 (by omega);have f5:=f 5 (by omega);have f6:=f 6 (by omega);have f7:=f 7 (by omega);simp only[Jc,Ac,Aa,Ab,Au]at f0 f1 f2 f3 f4 f5 f6 f7;have a8:=J<|Ky (λx t=>Qv F j d h t x) a k I (l,o);have b4:=Xf (Fn d) a k I;have a7:=J<|hO a[k]<|Am _;have a5:=J a3;clear u f H a3;generalize a[k]=t at*;have l0:=z.o;have B:=J<|(CT Cb wr).alloc<|R' #[s.e,s.tg.a,s.tg.t9,s.sr.a,s.sr.t9,s.wU,Y a1 l1 v,Y a2 l2 c2] 270;go_wp2_with(go_at_call 168;apply(HS.o b R h U E j P N X m r F l o t #[s.e,s.tg.a,s.tg.t9,s.sr.a,s.sr.t9,s.wU,Y a1 l1 v,Y a2 l2 c2] _ (y.o.xD B.o) (EG.j a5.o B.o Ed) a7.o (by omega) hd).mono;rintro e w2 ⟨rfl,⟨n2,b3,k2⟩,o2⟩);go_round;exact⟨k+1,n2,_,_,by omega,by go_num,by omega,J k2,J<|z.o.trans<|(B.o.mono λ_ _ q=>q.elim).trans o2,J<|a8.o.symm.trans a4.o⟩;simp[intOf];omega
  .have e:k=a:=by omega
   subst e;have a9:(l,o)=V:=by have:=a4.o;grind
   subst a9;go_wp2;go_end0;simp at a6;exact⟨Q,⟨r,by omega,y.o⟩,z.o⟩
def Sa:M->M->Cf->Prop
 |i,j,[]=>i<=j
 |i,j,p::a=>i<=p/\Sa (p+1) j a
theorem Sa.left:∀{c:Cf} {i b j:M},Sa i j c->b<=i->Sa b j c
 |[],_,_,_,h,a=>As a h
 |_::_,_,_,_,h,a=>⟨As a h.1,h.2⟩
theorem Sa.right:∀{c:Cf} {i j b:M},Sa i j c->j<=b->Sa i b c
 |[],_,_,_,h,a=>As h a
 |_::_,_,_,_,h,a=>⟨h.1,h.2.right a⟩
theorem Sa.le:∀{a:Cf} {i j:M},Sa i j a->i+a<=j
 |[],_,_,h=>h
 |p::a,i,j,h=>by have:=h.2.le;have:=h.1;grind
theorem Sa.snoc:∀{a:Cf} {i j:M},Sa i j a->Sa i (j+1) (a++[j])
 |[],_,_,h=>⟨h,Ad _⟩
 |_::_,_,_,h=>⟨h.1,h.2.snoc⟩
inductive Gp {A:Type} (R:M->M->A->Prop):M->M->List A->Prop
 |nil {i j:M} (h:i<=j):Gp R i j []
 |cons {i m j:M} {a:A} {l:List A} (h:R i m a) (t:Gp R m j l):Gp R i j (a::l)
theorem Gp.snoc{b:Type}{R:M->M->b->Prop}{i m j:M}{l:List b}{a:b}(h:Gp R i m l)(e:∀c i j a,R i j a->c<=i->R c j a)(r:R m j a)(d:m<=j):Gp R i j<|l++[a]:=by
 induction h with
 |nil h=>exact .cons (e _ _ _ _ r h)<|.nil<|Ad _
 |cons h _ f=>exact .cons h<|f r d
theorem Gp.mono{b}{R S:M->M->b->Prop}{i j l}(h:Gp R i j l)(k:∀i j a,R i j a->S i j a):Gp S i j l:=by
 induction h with
 |nil h=>exact .nil h
 |cons h _ c=>exact .cons (k _ _ _ h) c
theorem Gp.le{b}{R:M->M->b->Prop}{i j l}(h:Gp R i j l)(k:∀i j a,R i j a->i<j):i+L l<=j:=by
 induction h with
 |nil h=>exact h
 |cons h _ c=>have:=k _ _ _ h;simp only[Af];omega
theorem Gp.low{d}{R S:M->M->d->Prop}{i j i0 j0 l}(h:Gp R i j l)(c:∀i j a,R i j a->i<j)(k:∀a b x,i0<=a->b<=j0->R a b x->S a b x)(e:i0<=i)(f:j<=j0):Gp S i j l:=by
 induction h with
 |nil h=>exact .nil h
 |cons h t g=> have q:=c _ _ _ h;have m:=t.le c;exact .cons (k _ _ _ e (by omega) h)<|g (by omega) f
def rI(v:VS):Dw:=if v.e=1 then[]else if v.e=7\/v.e=8 then v.sr::v.k else[v.sr]
def rC(s:VS):Dw:=if s.e=0\/s.e=1 then[s.tg]else if s.e=10 then[s.sr]else if s.e=7\/s.e=8 then s.tg::s.sr::s.k else[s.tg,s.sr]
def EN(tZ:Dw):M->M->M->TS->Prop
 |0,_,_,_=>zv
 |d+1,i,j,.mk s b=>i<j/\j<tZ/\
  ((b=[]/\s.e<=10/\tK s/\(s.e≠7->s.e≠8->s.k=[])/\∃f,rC s=f.map (CJ tZ)/\Sa i j f)\/
   (∃k a m,b=[((CJ tZ k).t9,a)]/\(s=IM 11\/s=IM 12)/\i<k/\Gp (EN tZ d) (k+1) m a/\m<j)\/
   (∃k a m c g e,b=[((CJ tZ k).t9,a),((CJ tZ c).t9,g)]/\s=IM 11/\i<k/\Gp (EN tZ d) (k+1) m a/\m<c/\Gp (EN tZ d) (c+1) e g/\e<j))
theorem EN.lt{tZ d i j t}(h:EN tZ d i j t):i<j:=by
 match d,t,h with
 |d+1,.mk s a,h=>exact h.1
theorem EN.left{tZ d i l j t}(h:EN tZ d i j t)(r:l<=i):EN tZ d l j t:=by
 match d,t,h with
 |d+1,.mk s z,h=>
  have⟨B,p,q⟩:=h;refine⟨by omega,p,?_⟩;rcases q with⟨a,b,c,g,x,e,f⟩|⟨k,n,m,a,b,c,e⟩|⟨k,n,m,v,y,w,a,b,c,e⟩
  exact zo ⟨a,b,c,g,x,e,f.left r⟩;grind;exact zn<|zn ⟨k,n,m,v,y,w,a,b,by omega,e⟩
theorem EN.up{tZ:Dw}:∀{d i j:M} {t:TS},EN tZ d i j t->EN tZ (d+1) i j t
 |0,_,_,_,h=>h.elim
 |d+1,i,j,.mk s y,h=>by
  obtain⟨n,p,q⟩:=h;refine⟨n,p,?_⟩;rcases q with h|⟨k,l,m,a,b,c,e,f⟩|⟨k,l,m,v,x,w,a,b,c,e,f,g,h⟩
  .exact zo h
  .exact zn<|zo ⟨k,l,m,a,b,c,e.mono λ_ _ _ r=>r.up,f⟩
  .exact zn<|zn ⟨k,l,m,v,x,w,a,b,c,e.mono λ_ _ _ r=>r.up,f,g.mono λ_ _ _ r=>r.up,h⟩
theorem EN.lower{tZ:Dw}:∀{d i j:M} {t:TS} (e:M),EN tZ d i j t->j-i<=e->EN tZ e i j t
 |0,_,_,_,_,h,_=>h.elim
 |d+1,i,j,.mk s p,0,h,C=>by have:=h.1;omega
 |d+1,i,j,.mk s p,e+1,h,C=>by
  obtain⟨v,w,y⟩:=h;refine⟨v,w,?_⟩;have n:∀(a b:M) (l:Dj),i+1<=a->b<=j->Gp (EN tZ d) a b l->Gp (EN tZ e) a b l:=λa b l z B r=> r.low (i0:=i+1) (j0:=j) (λ_ _ _ q=>q.lt) (λI K x N P q=>EN.lower e q<|by omega) z B
  rcases y with h|⟨k,l,m,a,b,c,q,f⟩|⟨k,l,m,E,H,F,a,b,c,q,f,g,h⟩
  .exact zo h
  .grind
  .have:=g.le λ_ _ _ q=>q.lt;have:=q.le λ_ _ _ q=>q.lt;exact zn<|zn ⟨k,l,m,E,H,F,a,b,c,n _ _ _ (by omega) (by omega) q,f,n _ _ _ (by omega) (by omega) g,h⟩
theorem eV(tZ n x):(FI tZ n x).1.e≠7->(FI tZ n x).1.e≠8->(FI tZ n x).1.k=[]:=by unfold FI;split;grind;split;grind[Ld];split;grind;split;grind;split;intro _ h;exact Bm Q h;grind
theorem Wu(tZ n x):(DT tZ n x).1.e≠7->(DT tZ n x).1.e≠8->(DT tZ n x).1.k=[]:=by grind[DT,eV]
section
variable{N:M}{tZ:Dw}(H:Ig N tZ)(o:N<=4000)(u:L tZ<=4001)
include H
theorem OF(p):(CJ tZ p).a<=N/\(CJ tZ p).t9<=N:=by
 rcases AV p tZ with q|q
 exact H.len _<|Lw q;unfold CJ;rw[AF q];exact⟨Ar _,Ar _⟩
theorem IE(k x):(Di tZ k x).a<=N/\(Di tZ k x).t9<=N:=by unfold Di;split;exact OF H _;exact⟨Ar _,Ar _⟩
omit H in
theorem Ut:∀(f:M) (x:PS) (a:Dw),∃b,(GM tZ f x a).1=a++b.map (CJ tZ)/\Sa x.q (GM tZ f x a).2.q b/\(GM tZ f x a).2.H=x.H
 |0,x,a=>⟨[],by simp[GM],Ad _,Q⟩
 |f+1,x,a=>by
  rw[GM];split
  .obtain⟨b,c,d,e⟩:=Ut f ⟨x.q+1,x.H,x.xN⟩<|a++[CJ tZ x.q];exact⟨x.q::b,by rw[c];simp,⟨Ad _,d⟩,e⟩
  .exact⟨[],by simp,Ad _,Q⟩
omit H in
theorem MK{x}(h:(D3 tZ tZ x).2.H=zr):x.H=zr/\∃a,(D3 tZ tZ x).1=a.map (CJ tZ)/\Sa (x.q+1) (D3 tZ tZ x).2.q a/\x.q+2<=(D3 tZ tZ x).2.q:=by unfold D3 at h|-;simp only at h|-;have⟨a,f,b,e⟩:=Ut (tZ:=tZ) tZ (CC tZ tZ 10 x) [];have d:=Gf (k:=11) nofun h;rw[e]at d;have c:=Gf (k:=10) nofun d.1;have:=b.le;rw[c.2.1]at b this;exact⟨c.1,a,by grind,b.right<|by omega,by omega⟩
theorem Wk{x:PS}:∀t,t∈(D3 tZ tZ x).1->t.a<=N/\t.t9<=N:=by
 intro t a;have⟨b,c,_,_⟩:=Ut (tZ:=tZ) tZ (CC tZ tZ 10 x) [];have e:(D3 tZ tZ x).1=b.map (CJ tZ):=by grind[D3]
 rw[e]at a;obtain⟨p,_,rfl⟩:=AS.1 a;exact OF H p
theorem mJ{x:PS}(h:(FI tZ tZ x).2.H=zr):x.H=zr/\x.q<(FI tZ tZ x).2.q/\(∃e,rI (FI tZ tZ x).1=e.map (CJ tZ)/\Sa x.q (FI tZ tZ x).2.q e)/\(FI tZ tZ x).1.sr.a<=N/\(∀t,t∈(FI tZ tZ x).1.k->t.a<=N)/\x.q+L (FI tZ tZ x).1.k<=(FI tZ tZ x).2.q:=by
 have a:=λ(k:M) (b:k≠0) {x:PS} (h:(CC tZ tZ k x).H=zr)=>Gf b h
 have p:(Fg:PT).a<=N:=Ar _;unfold FI at h|-;split at h;rename_i b;rw[Bb b];have t:=a 5 nofun h;simp only at t|-;exact⟨t.1,by omega,⟨[],Q,show x.q<=_ by omega⟩,p,by simp,by simp;omega⟩;rename_i y;rw[Ba y];split at h
 .rename_i b;rw[Bb b];unfold Ld at h|-;simp only at h|-;split at h;rename_i i;rw[Bb i];have n:=a 2 nofun h;have m:=a 19 nofun n.1;have d:=a 1 nofun m.1;rotate_left;rename_i i;rw[Ba i];have d:=a 1 nofun h;all_goals
   have c:=a 16 nofun d.1;simp only;refine⟨c.1,by omega,⟨[(CC tZ tZ 16 x).q],by simp[rI,d.2.2.1],⟨by omega,show _<=_ by omega⟩⟩,(IE H _ _).1,by simp,by simp;omega⟩
 rename_i s;rw[Ba s];split at h;rename_i b;rw[Bb b];have d:=a 1 nofun h;have c:=a 17 nofun d.1;simp only at d|-;refine⟨c.1,by omega,⟨[(CC tZ tZ 17 x).q],by grind[rI],⟨by omega,show _<=_ by omega⟩⟩,(IE H _ _).1,by simp,by simp;omega⟩;rename_i v;rw[Ba v];split at h;rename_i b;rw[Bb b];have d:=a 1 nofun h;have c:=a 18 nofun d.1;simp only at d|-;refine⟨c.1,by omega,⟨[(CC tZ tZ 18 x).q],by grind[rI],⟨by omega,show _<=_ by omega⟩⟩,(IE H _ _).1,by simp,by simp;omega⟩;rename_i w;rw[Ba w];split at h;rename_i b;rw[Bb b];unfold OY at h|-;simp only at h|-;have⟨j,e,l,f,z⟩:=MK h;have n:=a 11 nofun j;have m:=a 1 nofun n.1;have d:=a 17 nofun m.1;have c:=a 10 nofun d.1;have q:=f.le;have B:L (D3 tZ tZ<|CC tZ tZ 11<|CC tZ tZ 1<|CC tZ tZ 17<|CC tZ tZ 10 x).1=e:=by rw[l];simp
 refine⟨c.1,by omega,⟨(CC tZ tZ 17<|CC tZ tZ 10 x).q::e,by grind[rI],⟨by omega,f.left<|by omega⟩⟩,(IE H _ _).1,λt g=>(Wk H t g).1,by omega⟩;rename_i r;rw[Ba r];split at h;rename_i b;rw[Bb b];simp only at h|-;have⟨j,e,l,f,z⟩:=MK h;have c:=a 1 nofun j;have q:=f.le;have B:L (D3 tZ tZ<|CC tZ tZ 1 x).1=e:=by rw[l];simp
 refine⟨c.1,by omega,⟨x.q::e,by grind[rI],⟨by omega,f.left<|by omega⟩⟩,(IE H _ _).1,λt g=>(Wk H t g).1,by omega⟩;rename_i b;rw[Ba b];have c:=a 1 nofun h;simp only at c|-;refine⟨c.1,by omega,⟨[x.q],by grind[rI],⟨by omega,show _<=_ by omega⟩⟩,(IE H _ _).1,by simp,by simp;omega⟩
include o u
theorem Yy{x:PS}(h:(DT tZ tZ x).2.H=zr)(f:(DT tZ tZ x).2.q<tZ):x.H=zr/\x.q<(DT tZ tZ x).2.q/\(DT tZ tZ x).1.e<=10/\tK (DT tZ tZ x).1/\∃g,rC (DT tZ tZ x).1=g.map (CJ tZ)/\Sa x.q (DT tZ tZ x).2.q g:=by
 have a:=λ(k:M) (c:k≠0) {x:PS} (h:(CC tZ tZ k x).H=zr)=>Gf c h
 have j:(Fg:PT).a.size<=4000:=Ar _;have m:(Fg:PT).t9<=4000:=Ar _;have e:=λ(k:M) (x:PS)=>As (IE H k x).1 o
 have i:=λ(k:M) (x:PS)=>As (IE H k x).2 o
 unfold DT at h f|-;split at h;rename_i c;rw[Bb c];have b:=a 1 nofun h;have d:=a 4 nofun b.1;simp only at b|-;exact⟨d.1,by omega,by omega,⟨e _ _,i _ _,j,by simp,by simp⟩,[(CC tZ tZ 4 x).q],by grind[rC],⟨by omega,show _<=_ by omega⟩⟩;rename_i q;rw[Ba q]at f|-;split at h;rename_i c;rw[Bb c];have b:=a 1 nofun h;have d:=a 6 nofun b.1;simp only at b|-;exact⟨d.1,by omega,by omega,⟨j,m,e _ _,by simp,by simp⟩,[(CC tZ tZ 6 x).q],by grind[rC],⟨by omega,show _<=_ by omega⟩⟩;rename_i r;rw[Ba r]at f|-;split at h;rename_i c;rw[Bb c];have l:=a 1 nofun h;have s:=a 15 nofun l.1;have b:=a 1 nofun s.1;have d:=a 17 nofun b.1;simp only at l|-;exact⟨d.1,by omega,by omega,⟨e _ _,i _ _,e _ _,by simp,by simp⟩,[(CC tZ tZ 17 x).q,(CC tZ tZ 15<|CC tZ tZ 1<|CC tZ tZ 17 x).q],by grind[rC],⟨by omega,by omega,show _<=_ by omega⟩⟩;rename_i p;rw[Ba p]at f|-;simp only at h f|-;have C:=Xk tZ tZ<|CC tZ tZ 15<|CC tZ tZ 1 x;have⟨w,E,⟨g,F,y⟩,z,B,I⟩:=mJ H h;have b:=a 15 nofun w;have d:=a 1 nofun b.1;generalize (FI tZ (L tZ)<|CC tZ (L tZ) 15<|CC tZ (L tZ) 1 x).1=v at*;refine⟨d.1,by omega,by omega,⟨e _ _,i _ _,As z o,λt n=>As (B t n) o,by grind⟩,x.q::g,?_,⟨by omega,y.left<|by omega⟩⟩;grind[rC,rI]
omit H o u in
theorem uG{p}(h:FY (CJ tZ p).e):p<tZ:=by grind[CJ,FY,Fg]
theorem bK:∀f:M,
 (∀(x:PS) (l:Dj),x.q<tZ->2*(tZ-x.q)+1<=f->(Dr tZ tZ f x l).2.H=zr->x.H=zr/\∃j,(Dr tZ tZ f x l).1=l++j/\Gp (EN tZ f) x.q (Dr tZ tZ f x l).2.q j)/\
 (∀(x:PS),x.q<tZ->2*(tZ-x.q)<=f->(Ee tZ tZ f x).2.H=zr->x.H=zr/\EN tZ f x.q (Ee tZ tZ f x).2.q (Ee tZ tZ f x).1):=by
 have c:=λ(k:M) (hk:k≠0) {x:PS} (h:(CC tZ tZ k x).H=zr)=>Gf hk h
 have b:=λ(k:M) {x:PS} (hc:x.q<tZ)=>CG (n:=tZ) H.end_ k hc
 intro f;induction f with
 |zero=>grind
 |succ f p=>
  refine⟨λx l e hf h=>?_,λx e hf h=>?_⟩;rw[Dr]at h|-;split at h;rename_i s;rw[Bb s];obtain⟨z,a0⟩:∃z,f=z+1:=⟨f-1,by omega⟩;have hm:x.q+1<=(Ee tZ tZ f x).2.q:=by subst a0;exact MP H.end_ z e s
  have hg:=KJ H.end_ f x e;have⟨w,j,R,y⟩:=p.1 _ _ hg.2 (by omega) h;have⟨b1,b2⟩:=p.2 x e (by omega) w;exact⟨b1,(Ee tZ tZ f x).1::j,by rw[R];simp,.cons b2.up<|y.mono λ_ _ _ q=>q.up⟩;rename_i s;rw[Ba s];exact⟨h,[],by simp,.nil<|Ad _⟩;have a:=(KJ H.end_ (f+1) x e).2;rw[Ee]at h a|-;split at h;rename_i t;rw[Bb t]at a|-;simp only at h a|-;have m1:=EH (n:=tZ) t nofun;have C:=b 7 e;have i:=b 20 C.2;have d:=b 12 i.2;have U:=Er H.end_ f _ [] d.2;have V:=b 13 U.2;have i1:=p.1 (CC tZ tZ 12<|CC tZ tZ 20<|CC tZ tZ 7 x) [] d.2 (by have:=i.1;have:=d.1;omega);have P:(CC tZ tZ 13 (Dr tZ tZ f (CC tZ tZ 12<|CC tZ tZ 20<|CC tZ tZ 7 x) []).2).H=zr->x.H=zr/\x.q+2=(CC tZ tZ 20<|CC tZ tZ 7 x).q/\Di tZ 12 (CC tZ tZ 20<|CC tZ tZ 7 x)=CJ tZ (CC tZ tZ 20<|CC tZ tZ 7 x).q/\Gp (EN tZ f) ((CC tZ tZ 20<|CC tZ tZ 7 x).q+1) (Dr tZ tZ f (CC tZ tZ 12<|CC tZ tZ 20<|CC tZ tZ 7 x) []).2.q (Dr tZ tZ f (CC tZ tZ 12<|CC tZ tZ 20<|CC tZ tZ 7 x) []).1/\(Dr tZ tZ f (CC tZ tZ 12<|CC tZ tZ 20<|CC tZ tZ 7 x) []).2.q+1=(CC tZ tZ 13 (Dr tZ tZ f (CC tZ tZ 12<|CC tZ tZ 20<|CC tZ tZ 7 x) []).2).q:=by grind
  have a8:x.q+1<=(CC tZ tZ 13 (Dr tZ tZ f (CC tZ tZ 12<|CC tZ tZ 20<|CC tZ tZ 7 x) []).2).q:=by have:=i.1;have:=d.1;have:=U.1;have:=V.1;omega
  generalize CC tZ (L tZ) 20 (CC tZ (L tZ) 7 x)=N at*;generalize Dr tZ (L tZ) f (CC tZ (L tZ) 12 N) []=r at*;split at h;rename_i E;rw[Bb E]at a|-;simp only at h a|-;have u1:=b 8 V.2;have u2:=b 12 u1.2;have i2:=p.1 (CC tZ tZ 12<|CC tZ tZ 8<|CC tZ tZ 13 r.2) [] u2.2 (by have:=u1.1;have:=u2.1;omega);have w5:=c 13 nofun h;have⟨F,a7,I,g⟩:=i2 w5.1;have w3:=c 12 nofun F;have w2:=c 8 nofun w3.1;have⟨B,f2,S,m,f5⟩:=P w2.1;simp only[A8]at I;rw[w3.2.1]at g;have l1:=m.le λ_ _ _ q=>q.lt;have l2:=g.le λ_ _ _ q=>q.lt;refine⟨B,by omega,a,zn<|zn ⟨N.q,r.1,r.2.q,(CC tZ tZ 8<|CC tZ tZ 13 r.2).q,a7,_,?_,Q,by omega,m,by omega,g,by omega⟩⟩;grind;rename_i E;rw[Ba E]at a|-;simp only at h a|-;have⟨B,f2,S,m,f5⟩:=P h;have l1:=m.le λ_ _ _ q=>q.lt;refine⟨B,by omega,a,zn<|zo ⟨N.q,r.1,r.2.q,?_,zo Q,by omega,m,by omega⟩⟩;rw[S];rename_i t;rw[Ba t]at a|-;split at h;rename_i v;rw[Bb v]at a|-;simp only at h a|-;have m1:=EH (n:=tZ) v nofun;have C:=b 9 e;have i:=b 20 C.2;have d:=b 12 i.2;have t5:=c 13 nofun h;have⟨F,j,I,g⟩:=p.1 _ [] d.2 (by have:=i.1;have:=d.1;omega) t5.1;have X:=c 12 nofun F;have t2:=c 20 nofun X.1;have K:=c 9 nofun t2.1;have l2:=g.le λ_ _ _ q=>q.lt;simp only[A8]at I;rw[X.2.1]at g;refine⟨K.1,by omega,a,zn<|zo ⟨(CC tZ tZ 20<|CC tZ tZ 9 x).q,j,_,?_,zn Q,by omega,g,by omega⟩⟩;grind;rename_i v;rw[Ba v]at a|-;simp only at h a|-;have K:=c 14 nofun h;have⟨w,R,y,a4,ps,a5,a6⟩:=Yy H o u K.1 (by omega);exact⟨w,by omega,a,zo ⟨Q,y,a4,Wu _ _ _,ps,a5,a6.right<|by omega⟩⟩
end
structure RK(m wb B x u:M)(U:Ce)(fv s:H')(l:Dd)(C:C8)(c:CS)(w:I'):Prop where
 r:EB m fv s x u w
 fn:Fq B w fv l
 st:Eh B U w s C
 wr:MY wb c w
def KX(wb B:M)(fv:H')(w:I')(k:M):Prop:=k=wb\/L' fv=k\/(B<=k/\∃a b,w.heap[k]? =T (R' a 9 b))
def GX(wb B:M)(fv:H')(w o:I'):Prop:=O (KX wb B fv w) w o
theorem GX.refl(wb B fv w):GX wb B fv w w:=CT _ _
theorem GX.trans{wb B:M}{fv:H'}{a b c:I'}(h:GX wb B fv a b)(k:GX wb B fv b c):GX wb B fv a c:=by refine⟨k.os.trans h.os,k.tape.trans h.tape,k.output.trans h.output,As h.size k.size,λi f d=>?_⟩;have e:=h.block i f d;rw[k.block i (Av f h.size) ?_,e];rintro(q|q|⟨n,g,j,q⟩);exact d<|zo q;exact d<|zn<|zo q;rw[e]at q;exact d<|zn<|zn ⟨n,g,j,q⟩
theorem GX.xM{wb B fv a b}(h:O (λk=>k=wb) a b):GX wb B fv a b:=h.mono λ_ _ q=>zo q
theorem GX.wW{wb B fv a b}(h:O Cb a b):GX wb B fv a b:=h.mono λ_ _ q=>q.elim
theorem GX.p{wb B b fv a t w o}(h:GX wb B fv w o)(c:W b a t w)(d:b≠wb)(e:L' fv≠b)(i:t≠9):W b a t o:=by apply c.j h;rintro(q|q|⟨_,f,g,q⟩);exact d q;exact e q;have j:w.heap[b]? =_:=c;grind
theorem GX.row{wb B fv e f v n g w o}(h:GX wb B fv w o)(r:J' w B e f v n g){c}(z:MY wb c w){l}(p:Fq B w fv l)(i:e≠102)(j:e≠107)(U:e≠9):J' o B e f v n g:=by
 apply CD r h;rintro k H P (q|q|⟨_,N,R,q⟩) d;subst q;have b:w.heap[k]? =_:=z;rw[d]at b;simp only[Ai,Aq]at b;exact i b.2.1;have⟨I,t,_⟩:=p;rcases t.2 with⟨E,_⟩|⟨S,F,K,y,_,a,_⟩
 rw[E]at q;simp[L']at q;rw[y]at q;simp[L']at q;subst q;rw[d]at a;simp only[Ai,Aq]at a;exact j a.2.1;grind
section
variable{m wb B x u:M}{U:Ce}{fv s:H'}{l:Dd}{C:C8}{c:CS}{w o:I'}
theorem RK.yC(K:RK m wb B x u U fv s l C c w):∀k,L' fv=T k->k≠wb/\k≠m:=by intro k a;have⟨d,b,_⟩:=K.fn;exact⟨CL b K.wr (by decide) k a,CL b K.r (by decide) k a⟩
theorem RK.dg(K:RK m wb B x u U fv s l C c w):∀k,L' s=T k->k≠wb/\k≠m:=by intro k a;have⟨d,b,_⟩:=K.st;exact⟨CL b K.wr (by decide) k a,CL b K.r (by decide) k a⟩
theorem RK.pw(K:RK m wb B x u U fv s l C c w):m≠wb:=K.r.p.ne K.wr<|by decide
theorem RK.t8(K:RK m wb B x u U fv s l C c w)(a:O Cb w o):RK m wb B x u U fv s l C c o:=
 ⟨K.r.p.j a id,K.fn.t8 a,K.st.t8 a,W.j K.wr a id⟩
theorem RK.add{f:CS}(K:RK m wb B x u U fv s l C c w)(h:MY wb f o)(e:O (λk=>k=wb) w o):RK m wb B x u U fv s l C f o:=by
 have j:∀(k:M) (b:Cg) (t:TypeId) (d:M×M),k=wb->w.heap[k]? =T (R' b t d)->t=102:=by intro k b t d a g;subst a;have i:w.heap[k]? =_:=K.wr;grind
 exact⟨K.r.p.j e K.pw,K.fn.j e (λk a=>(K.yC k a).1) λk b t d a g=>by grind,K.st.j e (λk a=>(K.dg k a).1) λk b t d a g=>by grind,h⟩
end
def GS(a:Cc)(t:Tk)(c:CS):CS:=if 0<=D9 a t.a 0 then c else Em 6 t.pos c
def Il(l:Dd)(t:Tk)(a:zw)(c:CS):CS:=
 if 0<=D9 (l.map λf=>f.I.a) t.a 0 then
  (if 0<=a/\((((l.map λf=>f.wZ)[(D9 (l.map λf=>f.I.a) t.a 0).toNat]?).getD 0:M):zw)≠a then Em 7 t.pos c else c)
 else Em 6 t.pos c
def Gw(b:Cc)(t:Tk)(c:CS):CS:=
 let a:=if 12<=L b then Em 4 t.pos c else c
 if 0<=D9 b t.a 0 then Em 5 t.pos a else a
theorem Ge(m wb B x u b:M)(U:Ce)(fv s:H')(l:Dd)(C:C8)(c:CS)(t:Tk)(w:I')(K:RK m wb B x u U fv s l C c w)(E:b<l)(X:L l<=4001)(q:L l[b].y<=4001):
 F' zy 67 #[Z' m,Z' wb,b,MR t] w λe o=>e=P' #[]/\RK m wb B x u U fv s l C (GS l[b].y t c) o/\GX wb B fv w o:=by
 have p0:=K.r.p.z;have lp:=Cz K.r;have lw:=Cz K.wr;have z:=K.fn;have⟨S,h,_⟩:=z;obtain⟨va,vc,rfl⟩:=CB h;obtain⟨g,rfl⟩:=CH h (by omega);have lg:=(h.lt g Q).2;have⟨tv,R,vv,i,_,_,r⟩:=K.fn.get E;have v:=i 6 (by omega);simp only[J5,Ac,Aa,Ab]at v;obtain⟨I,P,N,rfl⟩:=CA r;have V:(b:zw)<(L l:zw):=by omega
 clear i h;generalize H:l[b].y=a at*;clear H;unfold MR;have k:∀n:M,CK B (((w.alloc<|R' #[t.a,t.pos,t.h] 104)).drewN n) (Y I P N) a:=λn=>Cx r (((CT Cb w).alloc _).drewN n) Ed
 by_cases f:0<=D9 a t.a 0
 .have d:GS a t c=c:=by simp[GS,f]
  rw[d];have y:zu (D9 a t.a 0<0)=zr:=by simp;exact f
  clear d f;go_in;go_wp2;go_quiet((go_at_call 43;refine Calls.quiet_of_same<|Jm B _ a t.a _ (k _) q));go_wp2;go_end0;exact⟨Q,K.t8<|((CT _ w).alloc _).drewN _,GX.wW<|((CT _ w).alloc _).drewN _⟩
 .have d:GS a t c=Em 6 t.pos c:=by simp[GS,f]
  rw[d];have y:=LH (p:=D9 a t.a 0<0) (by omega);clear d f;go_in;go_wp2;go_quiet((go_at_call 43;refine Calls.quiet_of_same<|Jm B _ a t.a _ (k _) q));go_wp2_with(go_at_call 34;apply(Fl wb 6 t.pos c _ (K.t8<|((CT _ w).alloc _).drewN _).wr).mono);rintro e w2 ⟨rfl,F,j⟩;go_wp2;go_end0;exact⟨Q,(K.t8<|((CT _ w).alloc _).drewN _).add F j,(GX.wW<|((CT _ w).alloc _).drewN _).trans<|GX.xM j⟩
theorem Mt(m wb B x u U fv s l C c t)(r:zw)(w:I')(K:RK m wb B x u U fv s l C c w)(E:L l<=4001)(F:r= -1\/∃a:M,r=a/\a<=4001):
 F' zy 109 #[Z' m,Z' wb,MR t,r] w λe o=>e=P' #[]/\RK m wb B x u U fv s l C (Il l t r c) o/\GX wb B fv w o:=by
 have p0:=K.r.p.z;have lp:=Cz K.r;have lw:=Cz K.wr;have a0:=K.fn;have⟨cs,y,_⟩:=a0;obtain⟨va,vc,rfl⟩:=CB y;have d:=K;have z:=Et (l.map λf=>f.I.a) t.a 0;have b:=(CT Cb w).alloc<|R' #[t.a,t.pos,t.h] 104;unfold MR;by_cases p:0<=D9 (l.map λf=>f.I.a) t.a 0
 .obtain⟨i,j⟩:∃i:M,D9 (l.map λf=>f.I.a) t.a 0=i:=⟨(D9 (l.map λf=>f.I.a) t.a 0).toNat,by omega⟩;have S:i<l:=by have:=z.2.2;simp only[AG]at this;omega
  obtain⟨g,rfl⟩:=CH y (by omega);have lg:=(y.lt g Q).2;have⟨tv,bv,vv,P,I,_,_⟩:=K.fn.get S;have V:=P 3 (by omega);simp only[J5,Ac,Aa,Ab]at V;obtain⟨xa,n,xc,rfl⟩:=CA I;have a3:=CU I;have a5:(i:zw)<(L l:zw):=by omega
  have a4:zu ((i:zw)<0)=zr:=by simp
  have R:(((l.map λf=>f.wZ)[i]?).getD 0:M)=n:=by rw[AI,Ag S,a3];rfl
  clear P y K I z;rcases F with F|⟨a,rfl,ha⟩
  .subst F;have h:Il l t (-1) c=c:=by simp[Il,p]
   rw[h];clear h p;go_in;go_wp2_with(go_at_call 35;apply(Fy B m x u _ s l t.a _ (d.t8 b).r (d.t8 b).fn E).mono;rw[j];rintro e o ⟨rfl,k⟩;cases k.symm);go_end0;exact⟨Q,d.t8 b,GX.wW b⟩
  .by_cases N:n=a
   .have h:Il l t a c=c:=by simp only[Il,j,Int.toNat_natCast,R,N];simp
    rw[h];have a1:((n:zw) !=(a:zw))=zr:=by simp[N]
    have a2:((n:zw)==(a:zw))=zt:=by simp[N]
    have X:zu ((0:zw)<=(a:zw))=zt:=by simp
    clear h p;go_in;go_wp2_with(go_at_call 35;apply(Fy B m x u _ s l t.a _ (d.t8 b).r (d.t8 b).fn E).mono;rw[j];rintro e o ⟨rfl,k⟩;cases k.symm);go_end0;exact⟨Q,d.t8 b,GX.wW b⟩
   .have h:Il l t a c=Em 7 t.pos c:=by simp only[Il,j,Int.toNat_natCast,R];rw[Bb<|by omega,Bb ⟨by omega,by omega⟩]
    rw[h];have a1:=qO n a (by omega);have a2:=Ka n a (by omega);have X:zu ((0:zw)<=(a:zw))=zt:=by simp
    clear h p;go_in;go_wp2_with(first|(go_at_call 35;apply(Fy B m x u _ s l t.a _ (d.t8 b).r (d.t8 b).fn E).mono;rw[j];rintro e o ⟨rfl,k⟩;cases k.symm)|(go_at_call 34;apply(Fl wb 7 t.pos c _ (d.t8 b).wr).mono;rintro e w2 ⟨rfl,H,q⟩));go_end0;exact⟨Q,(d.t8 b).add H q,(GX.wW b).trans<|GX.xM q⟩
 .have j:D9 (l.map λf=>f.I.a) t.a 0= -1:=by have:=z.2.1;omega
  have h:Il l t r c=Em 6 t.pos c:=by simp[Il,j]
  rw[h];clear h p y K z;go_in;go_wp2_with(first|(go_at_call 35;apply(Fy B m x u _ s l t.a _ (d.t8 b).r (d.t8 b).fn E).mono;rw[j];rintro e o ⟨rfl,k⟩;cases k.symm)|(go_at_call 34;apply(Fl wb 6 t.pos c _ (d.t8 b).wr).mono;rintro e w2 ⟨rfl,H,q⟩));refine Ak (v:=P' #[]) (by simp[zz,results109,go_sem]) Q ⟨Q,(d.t8 b).add H q,(GX.wW b).trans<|GX.xM q⟩
theorem Tryz.infoStr:(Tryz.prog.info? 9).map (λi=>(i.zero,i.size,i.bytes))=T (T<|Y' ByteArray.empty,1,16):=by kernel_rfl
theorem Hr:∀{a:List<|Ci},(∀c,c∈a->c=B)->∀{i j:M} (d:i<a),j<B->∀u,a.flatten.set (i*B+j) u=(a.set i<|a[i].set j u).flatten
 |[],_,_,_,d,_,_=>by simp at d
 |c::a,f,i,j,d,g,u=>by
  have b:=f c<|A9 ..;cases i with
  |zero=> grind
  |succ i=>
   simp only[List.flatten_cons,Bw,AW];rw[List.set_append_right _ _<|by grind,b];have e:(i+1)*B+j-B=i*B+j:=by grind
   rw[e,Hr (λc b=>f c<|Ax _ b) (by grind) g u]
def Wi(f:RF)(s:Cd):RF:={f with y:=f.y++[s]}
theorem Fq.decl(h:Fq B P (Y (T ⟨C,0,Z⟩) R X) o0)(hi:v0<L o0)(N:K' P ⟨C,v0*7+6,Z⟩=T V)
 (hW:O Cb P y0)(hg:y0.grownBy v1<|L' V)(b8:J' v1 B 9 1 z0 (L o0[v0].y+1)<|o0[v0].y.map Y'++[Y' u0])(b6:∀k,L' z0=T k->L' V=T k\/P.heap.size<=k):
 Fq B (v1.setCell ⟨C,v0*7+6,Z⟩ z0) (Y (T ⟨C,0,Z⟩) R X) (o0.set v0<|Wi o0[v0] u0)/\O (λk=>k=C\/L' V=T k) P (v1.setCell ⟨C,v0*7+6,Z⟩ z0)/\∀k,L' V=T k->B<=k/\∃d b,P.heap[k]? =T (R' d 9 b):=by
 have⟨d,u,hl,z,b2⟩:=h;cases CU u;have F:v0<d:=by omega
 have K:∀x,x∈d->L x=7:=by intro x hx;obtain⟨j,y,rfl⟩:=AC.1 hx;have⟨_,_,_,e,_⟩:=z j y (by omega);rw[e];rfl
 have⟨tv,bv,v,e,h1,h2,E⟩:=z v0 F hi;have a7:v=V:=by have hc:=u.cellAt (v0*7+6) (by omega);rw[hc,EO K F<|by omega,e]at N;simpa[J5]using N
 subst a7;have b9:Xm d[v0]=v:=by rw[e];rfl
 have H:∀k,L' v=T k->B<=k/\∃d b,P.heap[k]? =T (R' d 9 b):=by
  intro k a;refine⟨(E.lt k a).1,?_⟩;rcases E.2 with⟨q,_⟩|⟨g',a8,a9,hv,_,hh,_⟩
  .rw[q]at a;simp[L']at a
  .rw[hv]at a;simp[L']at a;subst a;exact⟨_,_,hh⟩
 have⟨gc,a2⟩:=E0 u;have b7:∀k,L' v=T k->k≠C:=CL E a2 (by decide);have n:O (λk=>L' v=T k) P v1:=O.xA (hW.mono λ_ _ q=>q.elim) hg λk a=>zo a;have p:=(CT (λk=>k=C) v1).wS (v0*7+6) z0;have a6:J' v1 B 107 7 (Y C o0 X) o0 d.flatten:=Cx u n λk a q=>by grind[L']
 have b3:=(u.lt C Q).2;have c0:∀k,L' z0=T k->k≠C:=λk a=>by grind
 have r:∀(k:M) (f:Cg) (t:TypeId) (b:M×M),k=C->v1.heap[k]? =T (R' f t b)->t≠3/\t≠104/\t≠9:=by grind[E0]
 refine⟨⟨d.set v0<|d[v0].set 6 z0,?_,by simp[hl],?_,?_⟩,?_,H⟩
 .have:=(a6.stored (v0*7+6) z0).1;rw[Hr K F<|by omega]at this;grind
 .intro j b0 b1;by_cases y:v0=j
  .subst y;simp only[List.getElem_set_self];refine⟨tv,bv,z0,by rw[e];rfl,?_,?_,?_⟩;refine CD (CD h1 n λk f b a q=>?_) p λk f b a q=>(r k f _ b a q).2.1 Q;rotate_left;refine CD (CD h2 n λk f b a q=>?_) p λk f b a q=>(r k f _ b a q).1 Q;rotate_left
   .grind[Cx,CK,Wi]
   all_goals
    have⟨_,a0,a1,o⟩:=H k a;rw[q]at o;simp only[Ai,Aq]at o;exact Bm o.2.1<|by decide
  .simp only[List.getElem_set_ne y];have a5:j<d:=by grind
   have⟨tj,bj,U,I,j1,j2,j3⟩:=z j a5 (by omega);have c1:Xm d[j]=U:=by rw[I];rfl
   refine⟨tj,bj,U,I,?_,?_,?_⟩;refine CD (CD j1 n λk f b a q=>?_) p λk f b a q=>(r k f _ b a q).2.1 Q;rotate_left;refine CD (CD j2 n λk f b a q=>?_) p λk f b a q=>(r k f _ b a q).1 Q;rotate_left
   .refine CD (Cx j3 n λk a q=>?_) p λk f b a q=>(r k f _ b a q).2.2 Q;grind
   all_goals
    have⟨_,a0,a1,o⟩:=H k a;rw[q]at o;simp only[Ai,Aq]at o;exact Bm o.2.1<|by decide
 .intro i j a3 a4 b5 k a;simp only[Bi]at a3 a4;have b4:∀m (S:m<L d) k,L' (Xm d[m])=T k->k<(P:M):=by intro m S k a;obtain⟨_,_,vm,em,_,_,m3⟩:=z m S (by omega);rw[em]at a;exact(m3.lt k a).2
  have c2:Xm (d[v0].set 6 z0)=z0:=by rw[e];rfl
  grind
 .exact(n.mono λk _ q=>zn q).trans (p.mono λk _ q=>zo q)
theorem RK.decl{m:Dd}(K:RK B C R X v0 z1 (Y p0 o1 s2) V o0 x1 x4 P)(hF:Fq R y0 (Y p0 o1 s2) m)(f:O (λk=>k=p0\/L' z0=T k) P y0)(n:∀k,L' z0=T k->R<=k/\∃j e,P.heap[k]? =T (R' j 9 e)):
 RK B C R X v0 z1 (Y p0 o1 s2) V m x1 x4 y0/\GX C R (Y p0 o1 s2) P y0:=by
 have v:=K.fn;have⟨j,y,_⟩:=v;have⟨gc,i⟩:=E0 y;have p:∀(k:M) (d:Cg) (t:TypeId) (e:M×M),(k=p0\/L' z0=T k)->P.heap[k]? =T (R' d t e)->t=107\/t=9:=by rintro k d t e (a|a) h;subst a;rw[h]at i;simp only[Ai,Aq]at i;exact zo i.2.1;have⟨_,S,a0,q⟩:=n k a;rw[h]at q;simp only[Ai,Aq]at q;exact zn q.2.1
 have hK:=K.yC p0 Q;have o:∀(b:M) (d:Cg) (t:TypeId),W b d t P->t≠107->t≠9->¬(b=p0\/L' z0=T b):=λb d t u r s q=>(p b d t (0,0) q u).elim r s
 refine⟨⟨K.r.p.j f<|o _ _ _ K.r.p (by decide)<|by decide,hF,K.st.j f (λk a q=>?_) λk d t e a h=>?_,W.j K.wr f<|o _ _ _ K.wr (by decide)<|by decide⟩,f.mono λk _ q=>?_⟩;obtain⟨I,z,_⟩:=K.st;rcases z.2 with⟨F,_⟩|⟨g',H,N,E,_,x,_⟩
 rw[F]at a;simp[L']at a;rw[E]at a;simp[L']at a;subst a;exact(p _ _ _ _ q x).elim (by decide) (by decide);grind;rcases q with q|q
 exact zn (zo<|by rw[q];rfl);exact zn<|zn<|n k q
theorem O.z{X:Ce}(c:O X P y0)(i)(a:B<P.heap.size)(d:¬X B):y0 (B,i)=P ⟨B,i,Z⟩:=Ae<|c.block B a d
theorem Nz(pb f B pl ca d:M)(U:Ce)(V sv:H')(r:Dd)(fs:C8)(c:CS)(t:Tk)(w:I')(K:RK pb f B pl ca U V sv r fs c w)(hi:d<r)(hn:L r<=4001)(hv:L r[d].y<=4001):
 F' zy 36 #[Z' pb,Z' f,d,MR t] w λe w'=>e=P' #[]/\RK pb f B pl ca U V sv (r.set d<|Wi r[d] t.a) fs (Gw r[d].y t c) w'/\GX f B V w w':=by
 have⟨i0,b9,c1,c2,c3⟩:=Bx Tryz.infoStr;have p0:=K.r.p.z;have lp:=Cz K.r;have lw:=Cz K.wr;have a2:=K.fn;have⟨cs,p1,_⟩:=a2;obtain⟨va,vc,rfl⟩:=CB p1;obtain⟨g,rfl⟩:=CH p1 (by omega);have lg:=(p1.lt g Q).2;have⟨tv,bv,vv,hc,_,_,a0⟩:=K.fn.get hi;have c6:=hc 6 (by omega);simp only[J5,Ac,Aa,Ab]at c6;obtain⟨xa,xl,xc,rfl⟩:=CA a0;have d0:=CU a0;have e1:(d:zw)<(L r:zw):=by omega
 have b:=(CT Cb w).alloc<|R' #[t.a,t.pos,t.h] 104;have HT:=W.new w #[t.a,t.pos,t.h] 104;have b8:=(K.yC g Q).1;clear hc p1;generalize c0:r[d].y=a at*;have a8:=J c0;clear c0;subst d0;unfold MR;by_cases a9:12<=L a
 .have d1:=LH (p:=(12:zw)<=a) (by omega);by_cases E:0<=D9 a t.a 0;focus
   have I:=E;have u:Gw a t c=Em 5 t.pos (Em 4 t.pos c):=by simp only[Gw,Bb a9,Bb E]
   have b1:=LH (p:=(0:zw)<=D9 a t.a 0) (by omega);rw[u];clear u;go_in;go_wp2_with(go_at_call 34;apply(Fl f 4 t.pos c _ (K.t8 b).wr).mono;rintro e l ⟨rfl,a5,j⟩);have C:=(K.t8 b).add a5 j;have s:=W.j HT j (by omega);have N:=(GX.wW (wb:=f) (B:=B) (fv:=Y g r vc) b).trans<|GX.xM j;have c5:=(j.z (d*7+6) (by simp;omega) b8).trans<|(b.z (d*7+6) lg id).trans c6;have d7:=s.z;have hq:∀n:M,CK B (l.drewN n) (Y xa a xc) a:=λn=>Cx (X:=Cb) (CD (Cx a0 b Ed) j λk ds fz hk=>Fp (K.t8 b).wr (by decide) k ds fz hk) ((CT _ l).drewN n) Ed
   have d2:g<l:=by have:=j.size;simp at this;omega
   have d5:f<l:=by have:=j.size;simp at this;omega
   have d3:=Cz s;clear a5 j;go_quiet((go_at_call 43;refine Calls.quiet_of_same<|Jm B _ _ t.a _ (hq _) hv));have i:O Cb l<|l.drewN nq:=(CT _ _).drewN nq;go_wp2_with(go_at_call 34;apply(Fl f 5 t.pos (Em 4 t.pos c) _ (C.t8 i).wr).mono;rintro e o ⟨rfl,a6,H⟩);have m:=(C.t8 i).add a6 H;have z:=W.j (W.j s i id) H (by omega);have R:=(N.trans<|GX.wW i).trans<|GX.xM H;clear a6 H
  rotate_left;focus
   have I:=E;have u:Gw a t c=Em 4 t.pos c:=by simp only[Gw,Bb a9,Ba E]
   have b1:=Hz (p:=(0:zw)<=D9 a t.a 0) (by omega);rw[u];clear u;go_in;go_wp2_with(go_at_call 34;apply(Fl f 4 t.pos c _ (K.t8 b).wr).mono;rintro e l ⟨rfl,a5,j⟩);have C:=(K.t8 b).add a5 j;have s:=W.j HT j (by omega);have N:=(GX.wW (wb:=f) (B:=B) (fv:=Y g r vc) b).trans<|GX.xM j;have c5:=(j.z (d*7+6) (by simp;omega) b8).trans<|(b.z (d*7+6) lg id).trans c6;have d7:=s.z;have hq:∀n:M,CK B (l.drewN n) (Y xa a xc) a:=λn=>Cx (X:=Cb) (CD (Cx a0 b Ed) j λk ds fz hk=>Fp (K.t8 b).wr (by decide) k ds fz hk) ((CT _ l).drewN n) Ed
   have d2:g<l:=by have:=j.size;simp at this;omega
   have d5:f<l:=by have:=j.size;simp at this;omega
   have d3:=Cz s;clear a5 j;go_quiet((go_at_call 43;refine Calls.quiet_of_same<|Jm B _ _ t.a _ (hq _) hv));have i:O Cb l<|l.drewN nq:=(CT _ _).drewN nq;go_wp2;have m:=C.t8 i;have z:=W.j s i id;have R:=N.trans<|GX.wW i;generalize l.drewN nq=o at m z R|-
  all_goals
   have a2:=m.fn;have⟨c7,y,_⟩:=a2;have a7:=(y.lt g Q).2;have⟨d8,c4,d9,a1,_,_,v⟩:=m.fn.get hi;have S:=a1 6 (by omega);simp only[J5,Ac,Aa,Ab]at S;have df:=y.frozenAt<|d*7+6;rw[a8.o]at v;obtain⟨ya,yc,rfl⟩:=CB v;have⟨c8,b2⟩:=E0 y;have NG:=J (CL v b2<|by decide);have b0:=v;have u0:=z.z;have d4:=Cz z;have c9:B<=o:=by have:=(y.lt g Q).1;omega
   clear a1 y v;go_region_law(refine C7 Q _ _ 47 Q B 9 i0 ByteArray.empty 1 16 underlying47 b9 c1 c2 c3 Q (by decide) _ _ _ Q (b0.alloc _) o 1 1 [Y' t.a] Q Q (C3 Q _ _) (λx I=>by simp at I;subst I;rfl) (by decide) (by unfold E';omega) (by omega) (by simp;omega) ?_;intro v' w5 a4 F a3;have q1:w5 (g,d*7+6)=Y ya a yc:=(Ae<|F.block g (by simp;omega) λh=>NG.o g h.symm Q).trans (by rw[<-S];exact Ae<|Ao _ _ _ a7);have q2:w5.frozen? (g,d*7+6)=zr:=(Aj<|F.block g (by simp;omega) λh=>NG.o g h.symm Q).trans (by rw[<-df];exact Aj<|Ao _ _ _ a7);obtain⟨b5,b7,b6,rfl⟩:=CA a4);all_goals
    have b3:(o.alloc<|R' #[t.a] 9).drew.grownBy w5<|L'<|Y ya a yc:=F;have b4:∀k,L' (Y b5 b7 b6)=T k->L' (Y ya a yc)=T k\/(o:M)<=k:=λk hk=>(a3 k hk).imp id λq=>by simp at q;omega
    have P:=Fq.decl m.fn hi S (((CT _ o).alloc _).drew) b3 (by rw[a8.o];exact a4) b4;have KR:=m.decl P.1 P.2.1 P.2.2;clear F a3;go_wp2_with fail;go_end0;exact⟨Q,KR.1,R.trans KR.2⟩
 .have d1:=Hz (p:=(12:zw)<=a) (by omega);by_cases E:0<=D9 a t.a 0;focus
   have I:=E;have u:Gw a t c=Em 5 t.pos (c):=by simp only[Gw,Ba a9,Bb E]
   have b1:=LH (p:=(0:zw)<=D9 a t.a 0) (by omega);rw[u];clear u;go_in;go_wp2;have C:=K.t8 b;have s:=HT;have N:=GX.wW (wb:=f) (B:=B) (fv:=Y g r vc) b;have hq:∀n:M,CK B ((w.alloc<|R' #[t.a,t.pos,t.h] 104).drewN n) (Y xa a xc) a:=λn=>Cx a0 (b.drewN n) Ed
   go_quiet((go_at_call 43;refine Calls.quiet_of_same<|Jm B _ _ t.a _ (hq _) hv));have i:O Cb (w.alloc<|R' #[t.a,t.pos,t.h] 104)<|(w.alloc<|R' #[t.a,t.pos,t.h] 104).drewN nq:=(CT _ _).drewN nq;go_wp2_with(go_at_call 34;apply(Fl f 5 t.pos (c) _ (C.t8 i).wr).mono;rintro e o ⟨rfl,a6,H⟩);have m:=(C.t8 i).add a6 H;have z:=W.j (W.j s i id) H (by omega);have R:=(N.trans<|GX.wW i).trans<|GX.xM H;clear a6 H
  rotate_left;focus
   have I:=E;have u:Gw a t c=c:=by simp only[Gw,Ba a9,Ba E]
   have b1:=Hz (p:=(0:zw)<=D9 a t.a 0) (by omega);rw[u];clear u;go_in;go_wp2;have C:=K.t8 b;have s:=HT;have N:=GX.wW (wb:=f) (B:=B) (fv:=Y g r vc) b;have hq:∀n:M,CK B ((w.alloc<|R' #[t.a,t.pos,t.h] 104).drewN n) (Y xa a xc) a:=λn=>Cx a0 (b.drewN n) Ed
   go_quiet((go_at_call 43;refine Calls.quiet_of_same<|Jm B _ _ t.a _ (hq _) hv));have i:O Cb (w.alloc<|R' #[t.a,t.pos,t.h] 104)<|(w.alloc<|R' #[t.a,t.pos,t.h] 104).drewN nq:=(CT _ _).drewN nq;go_wp2;have m:=C.t8 i;have z:=W.j s i id;have R:=N.trans<|GX.wW i;generalize (w.alloc<|R' #[t.a,t.pos,t.h] 104).drewN nq=o at m z R|-
  all_goals
   have a2:=m.fn;have⟨c7,y,_⟩:=a2;have a7:=(y.lt g Q).2;have⟨d8,c4,d9,a1,_,_,v⟩:=m.fn.get hi;have S:=a1 6 (by omega);simp only[J5,Ac,Aa,Ab]at S;have df:=y.frozenAt<|d*7+6;rw[a8.o]at v;obtain⟨ya,yc,rfl⟩:=CB v;have⟨c8,b2⟩:=E0 y;have NG:=J (CL v b2<|by decide);have b0:=v;have u0:=z.z;have d4:=Cz z;have c9:B<=o:=by have:=(y.lt g Q).1;omega
   clear a1 y v;go_region_law(refine C7 Q _ _ 47 Q B 9 i0 ByteArray.empty 1 16 underlying47 b9 c1 c2 c3 Q (by decide) _ _ _ Q (b0.alloc _) o 1 1 [Y' t.a] Q Q (C3 Q _ _) (λx I=>by simp at I;subst I;rfl) (by decide) (by unfold E';omega) (by omega) (by simp;omega) ?_;intro v' w5 a4 F a3;have q1:w5 (g,d*7+6)=Y ya a yc:=(Ae<|F.block g (by simp;omega) λh=>NG.o g h.symm Q).trans (by rw[<-S];exact Ae<|Ao _ _ _ a7);have q2:w5.frozen? (g,d*7+6)=zr:=(Aj<|F.block g (by simp;omega) λh=>NG.o g h.symm Q).trans (by rw[<-df];exact Aj<|Ao _ _ _ a7);obtain⟨b5,b7,b6,rfl⟩:=CA a4);all_goals
    have b3:(o.alloc<|R' #[t.a] 9).drew.grownBy w5<|L'<|Y ya a yc:=F;have b4:∀k,L' (Y b5 b7 b6)=T k->L' (Y ya a yc)=T k\/(o:M)<=k:=λk hk=>(a3 k hk).imp id λq=>by simp at q;omega
    have P:=Fq.decl m.fn hi S (((CT _ o).alloc _).drew) b3 (by rw[a8.o];exact a4) b4;have KR:=m.decl P.1 P.2.1 P.2.2;clear F a3;go_wp2_with fail;go_end0;exact⟨Q,KR.1,R.trans KR.2⟩
def Rx(a:Dd)(b:Cc)(u:FS)(c:CS):CS:=
 if u.e=2 then c else
 u.k.foldl (λc t=>GS b t c) (if u.e=6 then Il a u.q (-1) c else if u.e=8 then Il a u.q u.k c else GS b u.q c)
structure aZ(pb wb B pl ca:M)(U:Ce)(fv sv:H')(fns:Dd)(fs:C8)(sb:M)(sc:Cg)(av:H')(args:DH)(c:CS)(w w':I'):Prop where
 k:RK pb wb B pl ca U fv sv fns fs c w'
 p:W sb sc 114 w'
 row:Fb B w' av args
 S:GX wb B fv w w'
theorem aZ.call(h:aZ B C R X v0 z1 V z0 o0 x1 p0 q1 s0 o8 x4 P y0)(e:RK B C R X v0 z1 V z0 o0 x1 y9 v1)(a:GX C R V y0 v1)(b:p0≠C)(d:L' V≠p0):aZ B C R X v0 z1 V z0 o0 x1 p0 q1 s0 o8 y9 P v1:=
 ⟨e,a.p h.p b d<|by decide,a.row h.row h.k.wr h.k.fn (by decide) (by decide)<|by decide,h.S.trans a⟩
theorem aZ.t8{w2}(h:aZ B C R X v0 z1 V z0 o0 x1 p0 q1 s0 o8 x4 P y0)(a:O Cb y0 w2):aZ B C R X v0 z1 V z0 o0 x1 p0 q1 s0 o8 x4 P w2:=
 ⟨h.k.t8 a,h.p.j a id,Cx h.row a Ed,h.S.trans<|GX.wW a⟩
theorem GR(h:Fb B P (Y (T ⟨C,0,Z⟩) R X) o8)(b:v0<L o8):K' P ⟨C,v0*3,Z⟩=T (Y' (CI o8 v0).a)/\K' P ⟨C,v0*3+1,Z⟩=T (G A (CI o8 v0).pos)/\K' P ⟨C,v0*3+2,Z⟩=T (G A (CI o8 v0).h):=by cases CU h;have a:=Pv b;unfold Fb at h;exact⟨by rw[h.cellAt _<|by omega];exact a.1,by rw[h.cellAt _<|by omega];exact a.2.1,by rw[h.cellAt _<|by omega];exact a.2.2⟩
theorem MG(f:z9->Tk->z9)(l:DH)(k:M)(h:k<l)(x:z9):(l.drop k).foldl f x=(l.drop<|k+1).foldl f (f x<|CI l k):=by grind[List.drop_eq_getElem_cons,CI]
theorem YX(o m B x p:M)(U:Ce)(fv y:H')(f:Dd)(r:C8)(c:CS)(u:FS)(av bv ov:H')(j:Cc)(w:I')(K:RK o m B x p U fv y f r c w)(a7:Fb B w av u.k)(b0:∃a l c,bv=Y a l c)(b1:∃a l c,ov=Y a l c)(a6:u.l<f)(hn:L f<=4001)(a9:f[u.l].y=j)(hv:L j<=4001)(ha:L u.k<=4001):
 F' zy 68 #[Z' o,Z' m,N'<|Dc u av bv ov] w λe w'=>e=P' #[]/\RK o m B x p U fv y f r (Rx f j u c) w'/\GX m B fv w w':=by
 obtain⟨E,F,rfl⟩:=CB a7;obtain⟨ba,bl,bc,rfl⟩:=b0;obtain⟨oa,ol,oc,rfl⟩:=b1;obtain⟨fa,fl,fc,rfl⟩:∃a l c,fv=Y a l c:=by have⟨_,h,_⟩:=K.fn;exact CA h
 have lw:=Cz K.wr;have a2:w≠m:=by omega
 have a1:L' (Y fa fl fc)≠w:=λq=>by have⟨_,h,_⟩:=K.fn;have:=(h.lt _ q).2;omega
 have b2:=Cz K.r;have z:aZ o m B x p U (Y fa fl fc) y f r w (Dc u (Y E u.k F) (Y ba bl bc)<|Y oa ol oc) (Y E u.k F) u.k c w<|w.alloc<|R' (Dc u (Y E u.k F) (Y ba bl bc)<|Y oa ol oc) 114:=by have ho:=(CT Cb w).alloc<|R' (Dc u (Y E u.k F) (Y ba bl bc)<|Y oa ol oc) 114;exact⟨K.t8 ho,W.new _ _ _,Cx a7 ho λ_ _ q=>q,GX.wW ho⟩
 have I:=J a9;clear K a7 a9;unfold Dc;by_cases h2:u.e=2
 .have e0:Rx f j u c=c:=by simp[Rx,h2]
  rw[e0];have k2:((u.e:zw)==2)=zt:=by simp[h2]
  clear e0 h2;go_in;go_wp2;refine Ak (v:=P' #[]) (by simp[zz,results68,go_sem]) Q ⟨Q,z.k,z.S⟩
 have k2:((u.e:zw)==2)=zr:=by simp;omega
 generalize s:Rx f j u c=V;unfold Rx at s;rw[Ba h2]at s;by_cases h6:u.e=6
 .rw[Bb h6]at s;have H:D<|(u.k.drop 0).foldl (λc t=>GS j t c) (Il f u.q (-1) c)=V:=s;have k6:((u.e:zw)==6)=zt:=by simp[h6]
  clear s h2 h6;go_in;go_wp2_with(go_at_call 109;refine(Mt o m B x p U _ y f r c u.q (-1) _ z.k hn<|zo Q).mono ?_;rintro e w1 ⟨rfl,S,P⟩);have N:=z.call S P a2 a1;clear S P z;go_loopw[6] (λi wr=>∃(k:M) (d:CS),k<=u.k/\i=G A k/\aZ o m B x p U (Y fa fl fc) y f r w (Dc u (Y E u.k F) (Y ba bl bc)<|Y oa ol oc) (Y E u.k F) u.k d w wr/\D ((u.k.drop k).foldl (λc t=>GS j t c) d=V)) (λi _=>u.k-(zm i).toNat);exact⟨0,_,by omega,Q,N,H⟩;clear N H;obtain⟨k,d,hk,rfl,b,n⟩:=hrel;have b8:=b.p.j8;have a8:=b.p.j14;have lb:=Cz b.p;by_cases a0:k<u.k
  .obtain⟨g,rfl⟩:=CH b.row (by omega);have⟨t0,t1,t2⟩:=GR b.row a0;have lg:=(b.row.lt g Q).2;have C:=MG (λc t=>GS j t c) u.k k a0 d;rw[n.o]at C;generalize CI u.k k=t at*;have a3:=J C;have a4:(k:zw)<(L u.k:zw):=by omega
   clear n C;go_wp2_with fail;go_region_with(go_at_call 67;refine(Ge o m B x p u.l U _ y f r d t _ (b.t8 oq).k a6 hn<|by rw[I.o];exact hv).mono ?_;rw[I.o];rintro e w2 ⟨rfl,X,R⟩);all_goals
    have S2:=aZ.call (b.t8 (w2:=wr.drew)<|(CT _ wr).drew) X R a2 a1;clear X R;go_wp2_with fail;exact⟨⟨k+1,_,by omega,by go_num,S2,a3.o.symm⟩,by simp[intOf];omega⟩
  .have e:k=u.k:=by omega
   have a5:V=d:=by have:=n.o;rw[e,Bj]at this;exact this.symm
   subst a5;have a4:zu ((k:zw)<(L u.k:zw))=zr:=by simp;omega
   clear n;go_wp2;go_end0;exact⟨Q,b.k,b.S⟩
 have k6:((u.e:zw)==6)=zr:=by simp;omega
 rw[Ba h6]at s;by_cases h8:u.e=8
 .rw[Bb h8]at s;have H:D<|(u.k.drop 0).foldl (λc t=>GS j t c) (Il f u.q u.k c)=V:=s;have k8:((u.e:zw)==8)=zt:=by simp[h8]
  clear s h2 h6 h8;go_in;go_wp2_with(go_at_call 109;refine(Mt o m B x p U _ y f r c u.q u.k _ z.k hn<|zn ⟨_,Q,ha⟩).mono ?_;rintro e w1 ⟨rfl,S,P⟩);have N:=z.call S P a2 a1;clear S P z;go_loopw[6] (λi wr=>∃(k:M) (d:CS),k<=u.k/\i=G A k/\aZ o m B x p U (Y fa fl fc) y f r w (Dc u (Y E u.k F) (Y ba bl bc)<|Y oa ol oc) (Y E u.k F) u.k d w wr/\D ((u.k.drop k).foldl (λc t=>GS j t c) d=V)) (λi _=>u.k-(zm i).toNat);exact⟨0,_,by omega,Q,N,H⟩;clear N H;obtain⟨k,d,hk,rfl,b,n⟩:=hrel;have b8:=b.p.j8;have a8:=b.p.j14;have lb:=Cz b.p;by_cases a0:k<u.k
  .obtain⟨g,rfl⟩:=CH b.row (by omega);have⟨t0,t1,t2⟩:=GR b.row a0;have lg:=(b.row.lt g Q).2;have C:=MG (λc t=>GS j t c) u.k k a0 d;rw[n.o]at C;generalize CI u.k k=t at*;have a3:=J C;have a4:(k:zw)<(L u.k:zw):=by omega
   clear n C;go_wp2_with fail;go_region_with(go_at_call 67;refine(Ge o m B x p u.l U _ y f r d t _ (b.t8 oq).k a6 hn<|by rw[I.o];exact hv).mono ?_;rw[I.o];rintro e w2 ⟨rfl,X,R⟩);all_goals
    have S2:=aZ.call (b.t8 (w2:=wr.drew)<|(CT _ wr).drew) X R a2 a1;clear X R;go_wp2_with fail;exact⟨⟨k+1,_,by omega,by go_num,S2,a3.o.symm⟩,by simp[intOf];omega⟩
  .have e:k=u.k:=by omega
   have a5:V=d:=by have:=n.o;rw[e,Bj]at this;exact this.symm
   subst a5;have a4:zu ((k:zw)<(L u.k:zw))=zr:=by simp;omega
   clear n;go_wp2;go_end0;exact⟨Q,b.k,b.S⟩
 have k8:((u.e:zw)==8)=zr:=by simp;omega
 rw[Ba h8]at s;have H:D<|(u.k.drop 0).foldl (λc t=>GS j t c) (GS j u.q c)=V:=s;clear s h2 h6 h8;go_in;go_wp2_with(go_at_call 67;refine(Ge o m B x p u.l U _ y f r c u.q _ z.k a6 hn<|by rw[I.o];exact hv).mono ?_;rw[I.o];rintro e w1 ⟨rfl,S,P⟩);have N:=z.call S P a2 a1;clear S P z;go_loopw[6] (λi wr=>∃(k:M) (d:CS),k<=u.k/\i=G A k/\aZ o m B x p U (Y fa fl fc) y f r w (Dc u (Y E u.k F) (Y ba bl bc)<|Y oa ol oc) (Y E u.k F) u.k d w wr/\D ((u.k.drop k).foldl (λc t=>GS j t c) d=V)) (λi _=>u.k-(zm i).toNat);exact⟨0,_,by omega,Q,N,H⟩;clear N H;obtain⟨k,d,hk,rfl,b,n⟩:=hrel;have b8:=b.p.j8;have a8:=b.p.j14;have lb:=Cz b.p;by_cases a0:k<u.k
 .obtain⟨g,rfl⟩:=CH b.row (by omega);have⟨t0,t1,t2⟩:=GR b.row a0;have lg:=(b.row.lt g Q).2;have C:=MG (λc t=>GS j t c) u.k k a0 d;rw[n.o]at C;generalize CI u.k k=t at*;have a3:=J C;have a4:(k:zw)<(L u.k:zw):=by omega
  clear n C;go_wp2_with fail;go_region_with(go_at_call 67;refine(Ge o m B x p u.l U _ y f r d t _ (b.t8 oq).k a6 hn<|by rw[I.o];exact hv).mono ?_;rw[I.o];rintro e w2 ⟨rfl,X,R⟩);all_goals
   have S2:=aZ.call (b.t8 (w2:=wr.drew)<|(CT _ wr).drew) X R a2 a1;clear X R;go_wp2_with fail;exact⟨⟨k+1,_,by omega,by go_num,S2,a3.o.symm⟩,by simp[intOf];omega⟩
 .have e:k=u.k:=by omega
  have a5:V=d:=by have:=n.o;rw[e,Bj]at this;exact this.symm
  subst a5;have a4:zu ((k:zw)<(L u.k:zw))=zr:=by simp;omega
  clear n;go_wp2;go_end0;exact⟨Q,b.k,b.S⟩
def gU(d:M)(q:M×Dj):M:=(q.2.map<|Fn d).sum
theorem eM(f:M×Dj->M)(l:List<|M×Dj)(k:M)(h:k<l):((l.drop k).map f).sum=f l[k]+((l.drop<|k+1).map f).sum:=by rw[Ap h,AH,AQ]
theorem Uh(d)(hS:fP d)(b E f U H h R N P m n)(F l:Cm)(c s)(a:List<|M×Dj)(cs w)
 (K:Ck b E U H h R N P m n F l c w)(hT:EG (d+1) U w (.mk s a) cs.toList)(hO:Sx (d+1)<|.mk s a)(hn:n+Fn (d+1) (.mk s a)<=4000)(hd:f+(d+1)<=4001)(y:s.e=11\/s.e=12):
 F' zy 168 #[Z' b,N' cs,f] w λe w'=>e=P' #[]/\(∃n',n'<=n+Fn (d+1) (.mk s a)/\Ck b E U H h R N P m n' F (a.foldl (λx q=>Xv F h d (f+1) q x) (l,c)).1 (a.foldl (λx q=>Xv F h d (f+1) q x) (l,c)).2 w')/\O (λk=>k=b\/k=m) w w':=by
 have⟨av,bv,b5,a8,ha,b7,a6,c7,b8,b0⟩:=hT;have⟨ho,_,d2,c4⟩:=hO;obtain⟨X,l1,c1,rfl⟩:=CA ha;obtain⟨a2,c2,rfl⟩:=CB a6;have b9:cs=Jc s (Y X l1 c1) (Y a2 a c2):=Array.ext' a8;subst b9;have a7:Fn (d+1) (.mk s a)=1+(a.map<|gU d).sum:=Q;rw[a7]at hn|-;have lb:=Cz K.xR;have c0:∃kd:M,s.e=kd:=⟨_,Q⟩;generalize hV:a.foldl (λx q=>Xv F h d (f+1) q x) (l,c)=V;have HV:D<|(a.drop 0).foldl (λx q=>Xv F h d (f+1) q x) (l,c)=V:=hV;have HI:=J b0;clear hV b0 a8 ha b7 a7 c0;rcases y with y|y
 have C:=(CT Cb w).alloc<|R' #[G A 11,s.tg.a,s.tg.t9,s.sr.a,s.sr.t9,s.wU,Y X l1 c1,Y a2 a c2] 270;unfold Jc;rw[y,show((11:M):zw)=11 from Q];rotate_left;have C:=(CT Cb w).alloc<|R' #[G A 12,s.tg.a,s.tg.t9,s.sr.a,s.sr.t9,s.wU,Y X l1 c1,Y a2 a c2] 270;unfold Jc;rw[y,show((12:M):zw)=12 from Q];all_goals
  go_in;go_wp2;go_loopw[89] (λi wr=>∃(k z:M) (o:Cm) (p:CS),k<=L a/\i=G A k/\z+((a.drop k).map<|gU d).sum<=n+(1+(a.map<|gU d).sum)/\Ck b E U H h R N P m z F o p wr/\D (O (λk=>k=b\/k=m) w wr)/\D ((a.drop k).foldl (λx q=>Xv F h d (f+1) q x) (o,p)=V)) (λi _=>a-(zm i).toNat);exact⟨0,n,l,c,by omega,Q,by simp,J<|K.xD C,J<|C.mono λ_ _ q=>q.elim,HV⟩;obtain⟨k,z,o,p,c9,rfl,c3,k1,B,b2⟩:=hrel;clear HV C;by_cases a0:k<a
  .have a5:∀j,U j->¬(j=b\/j=m):=λ_ I q=>q.elim (λe=>K.ub<|e▸I) λe=>K.um<|e▸I
   have v:=Cx a6 B λj I=>a5 j<|b8 j I;have⟨sv,b6,e,r,b3,u,b4⟩:=HI.o k a0 (by omega);have hR:=Gq.j (d:=d) (U:=U) (w:=w) (sv:=sv) (sts:=a[k].2) ⟨b6,r,b3,u,b4⟩ B a5;obtain⟨sa,sl,sc,rfl⟩:=CA r;obtain⟨g,rfl⟩:=CH v (by omega);have lg:=(v.lt g Q).2;have a3:∀x,x∈b5->L x=2:=by intro x hx;obtain⟨i,hi,rfl⟩:=AC.1 hx;have⟨_,_,e',_⟩:=HI.o i (by omega) hi;rw[e'];rfl
   have f0:=v.cellAt (k*2) (by omega);have f1:=v.cellAt (k*2+1) (by omega);have e0:=EO a3 (j:=k) (i:=0) (by omega) (by omega);have a4:=EO a3 (j:=k) (i:=1) (by omega) (by omega);rw[Au]at e0;rw[e0,e]at f0;rw[a4,e]at f1;simp only[Aa,Ab]at f0 f1;have c5:=J<|Ky (λx q=>Xv F h d (f+1) q x) a k a0 (o,p);have d3:=eM (gU d) a k a0;have b1:=c4 a[k]<|Am _;clear v r b4 u e e0 a4 a3 b3;generalize a[k]=t at*;have l0:=B;have S:=(CT Cb wr).alloc<|R' #[t.1,Y sa sl sc] 149;have a9:((f:zw)+1)=((f+1:M):zw):=by omega
   have c8:gU d t=(t.2.map<|Fn d).sum:=Q;have HD:=J a9;clear a9;go_wp2_with(go_at_call 138;rw[HD.o];apply(Qr d hS b E (f+1) t.1 U H h R N P m z F o p t.2 (Y sa sl sc) _ (k1.xD S) (Gq.j hR S Ed) b1.2 (by omega) (by omega) b1.1).mono;rintro e w2 ⟨rfl,⟨n2,d1,k2⟩,o2⟩);go_round;exact⟨k+1,n2,_,_,by omega,by go_num,by omega,J k2,J<|B.trans<|(S.mono λ_ _ q=>q.elim).trans o2,J<|c5.o.symm.trans b2.o⟩;simp[intOf];omega
  .have e:k=a:=by omega
   subst e;have c6:(o,p)=V:=by have:=b2.o;simpa using this
   subst c6;go_wp2;go_end0;simp at c3;exact⟨Q,⟨z,by omega,k1⟩,B⟩
theorem SQ:∀d,fP d
 |0=>λ_ _ _ _ _ _ _ _ _ _ _ _ _ _ _ _ _ _ h _ _ _=>h.elim
 |d+1=>by
  intro b r g U u f C z B m n F a c t p w K h i S R
  obtain⟨s,e⟩:=t;by_cases v:s.e=11\/s.e=12
  .have j:Qv F f (d+1) g (.mk s e) (a,c)=e.foldl (λx q=>Xv F f d (g+1) q x) (a,c):=by simp only[Qv,Bb v];rfl
   rw[j]
   exact Uh d (SQ d) b r g U u f C z B m n F a c s e p w K h i S R v
  .have j:Qv F f (d+1) g (.mk s e) (a,c)=Jv F f s (a,c):=by grind[Qv]
   rw[j];have a0:Fn (d+1) (.mk s e)=1+(e.map λq=>(q.2.map<|Fn d).sum).sum:=Q;obtain⟨l,X,V,N,E,H,I,_⟩:=h;obtain⟨k,y,o,rfl⟩:=CA I;have P:p=Jc s l (Y k y o):=Array.ext' N;subst P;refine(Zc b r g U u f C z B m n F a c s l _ w K i.1 (by omega) E H ⟨k,y,o,Q⟩<|by have:=i.2.1;omega).mono ?_;grind
def aA(l:Dw)(x:Cm×CS):Cm×CS:=l.foldl (λx t=>(Mo x.1 t,Jj x.1 t x.2)) x
def wv(a:Dd)(b:M)(c:Cc):Dd:=a.modify b λf=>{f with y:=c}
theorem Hc(a b c):L (wv a b c)=a:=by simp[wv]
theorem aM{a b c}(h:b<(wv a b c)):((wv a b c)[b]).y=c:=by simp[wv]
theorem aL{a b c}(h:b<(wv a b c))(s):(wv a b c).set b (Wi (wv a b c)[b] s)=wv a b (c++[s]):=by apply A5;simp[wv];intro i e f;by_cases d:b=i;subst d;simp[wv,Wi];simp[wv,d,List.getElem_set_ne d]
theorem mM(a b c):(wv a b c).map (λf=>f.I.a)=a.map (λf=>f.I.a):=by apply A5;simp[wv];intro i d e;simp only[wv,AT,List.getElem_modify];split<;>rfl
theorem mN(a b c):(wv a b c).map (λf=>L f.wZ)=a.map (λf=>L f.wZ):=by apply A5;simp[wv];intro i d e;simp only[wv,AT,List.getElem_modify];split<;>rfl
theorem tF(a b d t m c):Il (wv a b d) t m c=Il a t m c:=by grind[Il,mM,mN]
theorem tG(a d e b u c):Rx (wv a d e) b u c=Rx a b u c:=by grind[Rx,tF]
def Ry(a:Dd)(b:Cc)(s:VS)(c:CS):CS:=
 if s.e=1 then c else
 (s.k.map CR).foldl (λc t=>GS b t c) (if s.e=4 then Il a (CR s.sr) (-1) c else if s.e=7 then Il a (CR s.sr) s.k c else GS b (CR s.sr) c)
theorem lH{a b s u g}(h:SC s u g)(c):Rx a b u c=Ry a b s c:=by
 have j:=h.e;have i:=h.xE;have d:u.e=2↔s.e=1:=by grind[FK]
 have e:u.e=6↔s.e=4:=by grind[FK]
 have f:u.e=8↔s.e=7:=by grind[FK]
 unfold Rx Ry;simp only[d,e,f,h.q,h.k,AG]
def Gk(a:Dd)(s:VS)(x:Cc×CS):Cc×CS:=
 if s.e=0 then(x.1++[s.tg.a],Gw x.1 (CR s.tg) x.2)
 else if s.e=10 then(x.1,GS x.1 (CR s.sr) x.2)
 else(x.1,Ry a x.1 s<|GS x.1 (CR s.tg) x.2)
def Kr(a:Dd):M->M->TS->Cc×CS->Cc×CS
 |0,_,_,x=>x
 |d+1,b,.mk s c,x=>
  if s.e=11\/s.e=12 then c.foldl (λx q=>q.2.foldl (λx t=>Kr a d (b+1) t x) (x.1,if 6<b+1 then Em 4 q.1 x.2 else x.2)) x
  else Gk a s x
def L4(a:Dd)(d b:M)(c:Dj)(x:Cc×CS):Cc×CS:=c.foldl (λx t=>Kr a d b t x) x
theorem Ru(a):∀(d b:M) (t:TS) (x:Cc×CS),L (Kr a d b t x).1<=x.1+Fn d t
 |0,_,_,x=>by simp[Kr]
 |d+1,b,.mk s h,x=>by
  rw[Kr];split
  .have e:∀(b:M) (c:Dj) (x:Cc×CS),L (c.foldl (λx t=>Kr a d b t x) x).1<=x.1+(c.map<|Fn d).sum:=by
    intro b c;induction c with
    |nil=>intro x;simp
    |cons t c g=> intro x;have f:=Ru a d b t x;grind
   have:∀(l:List<|M×Dj) (x:Cc×CS),L (l.foldl (λx q=>q.2.foldl (λx t=>Kr a d (b+1) t x) (x.1,if 6<b+1 then Em 4 q.1 x.2 else x.2)) x).1<=x.1+(l.map λq=>(q.2.map<|Fn d).sum).sum:=by
    intro l;induction l with
    |nil=>intro x;simp
    |cons q l g=> intro x;have f:=e (b+1) q.2 (x.1,if 6<b+1 then Em 4 q.1 x.2 else x.2);grind
   grind[Fn]
  grind[Gk,Fn]
theorem LA(a d b):∀(c:Dj) (x:Cc×CS),L (L4 a d b c x).1<=x.1+(c.map<|Fn d).sum
 |[],x=>by simp[L4]
 |t::c,x=>by have e:=Ru a d b t x;have f:=LA a d b c<|Kr a d b t x;grind[L4]
theorem kU(a d c)(b:Dj)(k:M)(h:k<b)(x:Cc×CS):L4 a d c (b.drop k) x=L4 a d c (b.drop<|k+1) (Kr a d c b[k] x):=by grind[L4,List.drop_eq_getElem_cons]
theorem W.c15{b t w}{c d k l m p q s u x e f g i j:H'}(h:W b #[c,d,k,l,m,p,q,s,u,x,e,f,g,i,j] t w):w b=c/\w (b,1)=d/\w (b,2)=k/\w (b,3)=l/\w (b,4)=m/\w (b,5)=p/\w (b,6)=q/\w (b,7)=s/\w (b,8)=u/\w (b,9)=x/\w (b,10)=e/\w (b,11)=f/\w (b,12)=g/\w (b,13)=i/\w (b,14)=j/\b<w:=⟨h.z 0,h.z 1,h.z 2,h.z 3,h.z 4,h.z 5,h.z 6,h.z 7,h.z 8,h.z 9,h.z 10,h.z 11,h.z 12,h.z 13,h.z 14,Cz h⟩
theorem Eh.get{B}{U:Ce}{w g l c n}(h:Eh B U w (Y (T ⟨g,0,Z⟩) l c) n){i}(y:i<L n):
 ∃v C E,(∀j,j<15->K' w ⟨g,i*15+j,Z⟩=(Dc n[i] v C E)[j]?)/\Fb B w v n[i].k/\CY B w C n[i].body/\CY B w E n[i].other:=by
 have⟨d,m,I,k⟩:=h;cases CU m;have f:i<d:=by omega
 have q:∀x,x∈d->L x=15:=by intro x z;obtain⟨j,b,rfl⟩:=AC.1 z;exact Iv.length<|k j b<|by omega
 have⟨v,C,E,e,p,s,t,_⟩:=k i f y;refine⟨v,C,E,λj b=>?_,p,s,t⟩;have u:=m.cellAt (i*15+j) (by omega);rw[u,EO q f b,e];simp
structure qP(F o B K H:M)(U:Ce)(r N:H')(a:Dd)(n:C8)(R:M)(sc:Cg)(P:H')(l:Cf)(v:H')(V:DH)(C:H')(X:Cf)(E:H')(x1:Cf)(c:CS)(w w':I'):Prop where
 k:RK F o B K H U r N a n c w'
 p:W R sc 114 w'
 yS:CY B w' P l
 aw:Fb B w' v V
 yQ:CY B w' C X
 zL:CY B w' E x1
 S:GX o B r w w'
section
variable{F o B K H:M}{U:Ce}{r N:H'}{a x2:Dd}{n:C8}{R:M}{sc:Cg}{P:H'}{l:Cf}{v:H'}{V:DH}{C:H'}{X:Cf}{E:H'}{x1:Cf}{c c':CS}{w w1 w2:I'}
theorem qP.call(h:qP F o B K H U r N a n R sc P l v V C X E x1 c w w1)(f:RK F o B K H U r N x2 n c' w2)(b:GX o B r w1 w2)(d:R≠o)(e:L' r≠R):qP F o B K H U r N x2 n R sc P l v V C X E x1 c' w w2:=
 ⟨f,b.p h.p d e nofun,b.row h.yS h.k.wr h.k.fn nofun nofun nofun,b.row h.aw h.k.wr h.k.fn nofun nofun nofun,b.row h.yQ h.k.wr h.k.fn nofun nofun nofun,b.row h.zL h.k.wr h.k.fn nofun nofun nofun,h.S.trans b⟩
theorem qP.t8(h:qP F o B K H U r N a n R sc P l v V C X E x1 c w w1)(b:O Cb w1 w2):qP F o B K H U r N a n R sc P l v V C X E x1 c w w2:=
 ⟨h.k.t8 b,h.p.j b id,Cx h.yS b Ed,Cx h.aw b Ed,Cx h.yQ b Ed,Cx h.zL b Ed,h.S.trans<|GX.wW b⟩
end
def XC(d:M):Prop:=∀(F o B K H f b:M) (U:Ce) (r N P:H') (a:Dd) (n:C8) (l:Cf) (g:Dj) (h:Cc) (c:CS) (w:I'),
 RK F o B K H U r N (wv a f h) n c w->CY B w P l->Fv (Gs f d n) l g->f<a->L a<=4001->L n<=4001->h+(g.map<|Fn d).sum<=4001->L l<=4001->(∀u,u∈n->L u.k<=4001/\L u.body<=4001/\L u.other<=4001)->b+d<=9000->
 F' zy 37 #[Z' F,Z' o,P,b] w λe i=>e=P' #[]/\RK F o B K H U r N (wv a f (L4 a d b g (h,c)).1) n (L4 a d b g (h,c)).2 i/\GX o B r w i
theorem gV(d)(a:Dj)(k:M)(h:k<a):((a.drop k).map<|Fn d).sum=Fn d a[k]+((a.drop<|k+1).map<|Fn d).sum:=by rw[Ap h,AH,AQ]
theorem Te(d)(ih:∀y,d=y+1->XC y):XC d:=by
 intro pb I B pl ca c6 g U fv sv lv f z l ts vs c w K i4 i0 c4 hn d2 f4 hl k5 l9;obtain⟨la,lc,rfl⟩:=CB i4;obtain⟨fa,fl,fc,rfl⟩:∃a l c,fv=Y a l c:=by obtain⟨_,h,_⟩:=K.fn;exact CA h
 obtain⟨sa,sl,sc,rfl⟩:∃a l c,sv=Y a l c:=by obtain⟨_,h,_⟩:=K.st;exact CA h
 have l1:sl=L z:=by obtain⟨_,h,_⟩:=K.st;exact CU h
 subst l1;have i3:=Fv.length i0;generalize hV:L4 f d g ts (vs,c)=V;have HV:D<|L4 f d g (ts.drop 0) (vs,c)=V:=hV;obtain⟨HK,HL,k8,c3⟩:=F8 K i4 i0 k5;have i8:D<|L vs+((ts.drop 0).map<|Fn d).sum<=4001:=f4;have IH:=J ih;have f0:∀c0,c6<L (wv f c6 c0):=λc0=>by rw[Hc];exact c4
 have g5:∀c0,L (wv f c6 c0)<=4001:=λc0=>by rw[Hc];exact hn
 clear hV K i4 i0 f4 k5 ih;go_in;go_wp2;go_loopw[8] (λi wr=>∃(k:M) (c0:Cc) (c':CS),k<=L l/\i=G A k/\D (RK pb I B pl ca U (Y fa fl fc) (Y sa (L z) sc) (wv f c6 c0) z c' wr)/\D (CY B wr (Y la (L l) lc) l)/\D (GX I B (Y fa fl fc) w wr)/\D (L c0+((ts.drop k).map<|Fn d).sum<=4001)/\D (L4 f d g (ts.drop k) (c0,c')=V)) (λi _=>L l-(zm i).toNat);exact⟨0,vs,c,by omega,Q,HK,HL,GX.refl _ _ _ _,i8,HV⟩;clear HK HL i8 HV;obtain⟨k,n,x,hk,rfl,HK,HL,HF,HN,HC⟩:=hrel;by_cases k0:k<L l
 .have i2:k<L ts:=by omega
  have i6:=kU f d g ts k i2 (n,x);rw[HC.o]at i6;have f4:=gV d ts k i2;have h8:=HN.o;rw[f4]at h8;have hF:=k8.o.get k k0 i2;generalize ts[k]=t at*;obtain⟨gl,rfl⟩:=CH HL.o (by omega);have h7:=HL.o.cellAt k (by omega);rw[AI,Ag k0]at h7;simp only[BA]at h7;have l4:=(HL.o.lt gl Q).2;generalize l[k]=j at*;obtain⟨y,j7⟩:∃y,d=y+1:=by
   cases d with
   |zero=>exact hF.elim
   |succ y=>exact⟨y,Q⟩
  have k7:=IH.o y j7;subst j7;obtain⟨s,bl⟩:=t;obtain⟨u,hu,hF⟩:=hF;have hj:j<L z:=by
   rcases AV j (L z)with q|q
   .exact q
   .rw[AF q]at hu;cases hu
  have i1:z[j]=u:=by rw[Ag hj]at hu;simpa using hu
  have f7:=c3.o u (by rw[<-i1];exact Am _);obtain⟨gs,rfl⟩:∃gs,sa=T ⟨gs,0,Z⟩:=by obtain⟨_,h,_⟩:=HK.o.st;exact CH h<|by omega
  have l5:gs<(wr:M):=by obtain⟨_,h,_⟩:=HK.o.st;exact(h.lt gs Q).2
  obtain⟨av,bv,ov,S,g3,g4,g6⟩:=HK.o.st.get hj;rw[i1]at S g3 g4 g6;obtain⟨aa,ac,rfl⟩:=CB g3;obtain⟨ba,bc,rfl⟩:=CB g4;obtain⟨oa,oc,rfl⟩:=CB g6;have e0:=S 0 (by omega);have e1:=S 1 (by omega);have e2:=S 2 (by omega);have e3:=S 3 (by omega);have e4:=S 4 (by omega);have e5:=S 5 (by omega);have e6:=S 6 (by omega);have e7:=S 7 (by omega);have e8:=S 8 (by omega);have e9:=S 9 (by omega);have j0:=S 10 (by omega);have j1:=S 11 (by omega);have j2:=S 12 (by omega);have j3:=S 13 (by omega);have j4:=S 14 (by omega);simp only[Dc,Ac,Aa,Ab,Au]at e0 e1 e2 e3 e4 e5 e6 e7 e8 e9 j0 j1 j2 j3 j4;have p1:=HK.o.r.p.z;have lp:=Cz HK.o.r;have lw:=Cz HK.o.wr;have a5:(wr:M)≠I:=by omega
  have a4:L' (Y fa fl fc)≠T (wr:M):=λq=>by obtain⟨_,h,_⟩:=HK.o.fn;have:=(h.lt _ q).2;omega
  have l0:(k:zw)<(L l:zw):=by omega
  have m0:(j:zw)<(L z:zw):=by omega
  have S0:D<|qP pb I B pl ca U (Y fa fl fc) (Y (T ⟨gs,0,Z⟩) (L z) sc) (wv f c6 n) z (wr:M) (Dc u (Y aa (L u.k) ac) (Y ba (L u.body) bc)<|Y oa (L u.other) oc) (Y (T ⟨gl,0,Z⟩) (L l) lc) l (Y aa (L u.k) ac) u.k (Y ba (L u.body) bc) u.body (Y oa (L u.other) oc) u.other x w<|wr.alloc<|R' (Dc u (Y aa (L u.k) ac) (Y ba (L u.body) bc)<|Y oa (L u.other) oc) 114:=by have ho:=(CT Cb wr).alloc<|R' (Dc u (Y aa (L u.k) ac) (Y ba (L u.body) bc)<|Y oa (L u.other) oc) 114;exact⟨HK.o.t8 ho,W.new _ _ _,Cx HL.o ho Ed,Cx g3 ho Ed,Cx g4 ho Ed,Cx g6 ho Ed,HF.o.trans<|GX.wW ho⟩
  obtain⟨i9,h2,g1,c8⟩:=F8 i6.symm h8 hF k7;clear S g3 g4 g6 i6 f4 h8 hF HK HL HF HN HC hu i1 k7;have l7:=J i3;clear i3;go_wp2_with fail;go_region;have v:D<|qP pb I B pl ca U (Y fa fl fc) (Y (T ⟨gs,0,Z⟩) (L z) sc) (wv f c6 n) z (wr:M) #[G A u.e,Y' u.p.a,G A u.p.pos,G A u.p.h,Y' u.q.a,G A u.q.pos,G A u.q.h,G A u.wU,Y aa (L u.k) ac,G A u.t9,Y ba (L u.body) bc,Y oa (L u.other) oc,G A u.br,G A u.xY,G A u.l] (Y (T ⟨gl,0,Z⟩) (L l) lc) l (Y aa (L u.k) ac) u.k (Y ba (L u.body) bc) u.body (Y oa (L u.other) oc) u.other x w<|(wr.alloc<|R' #[G A u.e,Y' u.p.a,G A u.p.pos,G A u.p.h,Y' u.q.a,G A u.q.pos,G A u.q.h,G A u.wU,Y aa (L u.k) ac,G A u.t9,Y ba (L u.body) bc,Y oa (L u.other) oc,G A u.br,G A u.xY,G A u.l] 114).drew:=S0.o.t8<|(CT _ _).drew;generalize (wr.alloc<|R' #[G A u.e,Y' u.p.a,G A u.p.pos,G A u.p.h,Y' u.q.a,G A u.q.pos,G A u.q.h,G A u.wU,Y aa (L u.k) ac,G A u.t9,Y ba (L u.body) bc,Y oa (L u.other) oc,G A u.br,G A u.xY,G A u.l] 114).drew=W0 at v|-;generalize l8:(wr:M)=sb at*;obtain⟨b0,b1,b2,b3,b4,b5,b6,b7,b8,b9,a0,a1,H,X,a2,a3⟩:=v.o.p.c15;clear e0 e1 e2 e3 e4 e5 e6 e7 e8 e9 j0 j1 j2 j3 j4 S0 h7 p1 l4 l5 lp lw;obtain⟨a,b,P⟩:=JG<|Kr f (y+1) g (.mk s bl) (n,x);have i7:=Ru f (y+1) g (.mk s bl) (n,x);have d4:D<|L a+((ts.drop<|k+1).map<|Fn<|y+1).sum<=4001:=by have h1:=h2.o;rw[P]at i7;simp only at i7;show _<=_;omega
  have d5:D<|L4 f (y+1) g (ts.drop<|k+1) (a,b)=V:=by rw[<-P];exact i9.o
  have h4:D<|L n+Fn (y+1) (.mk s bl)<=4001:=by have:=h2.o;show _<=_;omega
  have c7:=J P;have l3:=v.o.k;have k6:((wv f c6 n)[c6]'(f0 n)).y=n:=aM<|f0 n;have c9:=J k6;have g8:L n<=4001:=by have:=h4.o;omega
  clear P i7 i9 h2 l3 k6;rcases g1.o with⟨d1,f6⟩|⟨p,a6,d1,hs,hk,f5,d8,d9,i5,d7⟩|⟨p,a6,d1,hs,hk,f5,d8,d9,i5,d7⟩|⟨p,a6,p2,g9,d1,hs,hk,f5,d8,d9,d7,j6⟩
  .subst d1;cases f6.l;have d3:=f6.e;have h9:=f6.xE;have g2:=J f6;have l6:=J d3;clear g1 f6;by_cases h0:s.e=0
   .have a9:u.e=1:=by rw[d3,h0];rfl
    have k1:((u.e:zw)==1)=zt:=by simp[a9]
    have P:a=n++[u.p.a]/\b=Gw n u.p x:=by have:=c7.o;rw[Kr,Ba<|by omega,Gk,Bb h0]at this;simp only[AU]at this;rw[g2.o.p];exact⟨this.1.symm,this.2.symm⟩
    obtain⟨rfl,rfl⟩:=P;clear d3 a9 h9 h0;go_wp2_with(go_at_call 36;refine(Nz pb I B pl ca u.l U _ _ (wv f u.l n) z x u.p _ v.o.k (f0 _) (g5 _)<|by rw[c9.o];exact g8).mono ?_;rw[aL,c9.o];rintro e w2 ⟨rfl,m,o⟩);have C:=J<|v.o.call m o a5 a4;clear m o v;go_wp2_with fail;exact⟨⟨k+1,_,_,by omega,by go_num,C.o.k,C.o.yS,C.o.S,d4.o,d5.o⟩,by simp[intOf];omega⟩
   by_cases f3:s.e=10
   .have a9:u.e=11:=by rw[d3,f3];rfl
    have k1:((u.e:zw)==1)=zr:=by simp[a9]
    have k2:((u.e:zw)==12)=zr:=by simp[a9]
    have k3:((u.e:zw)==13)=zr:=by simp[a9]
    have k4:((u.e:zw)==11)=zt:=by simp[a9]
    have P:a=n/\b=GS n u.q x:=by have:=c7.o;rw[Kr,Ba<|by omega,Gk,Ba h0,Bb f3]at this;simp only[AU]at this;rw[g2.o.q];exact⟨this.1.symm,this.2.symm⟩
    obtain⟨rfl,rfl⟩:=P;clear d3 a9 h9 h0 f3;go_wp2_with(go_at_call 67;refine(Ge pb I B pl ca u.l U _ _ (wv f u.l a) z x u.q _ v.o.k (f0 _) (g5 _)<|by rw[c9.o];exact g8).mono ?_;rw[c9.o];rintro e w2 ⟨rfl,m,o⟩);have C:=J<|v.o.call m o a5 a4;clear m o v;go_wp2_with fail;exact⟨⟨k+1,_,_,by omega,by go_num,C.o.k,C.o.yS,C.o.S,d4.o,d5.o⟩,by simp[intOf];omega⟩
   .have a9:2<=u.e/\u.e<=10:=by rw[d3];unfold FK;repeat' split
                                all_goals omega
    have k1:=Ka u.e 1<|by omega
    have k2:=Ka u.e 12<|by omega
    have k3:=Ka u.e 13<|by omega
    have k4:=Ka u.e 11<|by omega
    have P:a=n/\b=Rx (wv f u.l n) n u (GS n u.p x):=by have:=c7.o;rw[Kr,Ba<|by omega,Gk,Ba h0,Ba f3]at this;simp only[AU]at this;rw[tG,lH g2.o,g2.o.p];exact⟨this.1.symm,this.2.symm⟩
    obtain⟨rfl,rfl⟩:=P
    clear d3 a9 h9 h0 f3
    go_wp2_with fail
    refine(Ge pb I B pl ca u.l U _ _ (wv f u.l a) z x u.p _ v.o.k (f0 _) (g5 _)<|by rw[c9.o];exact g8).mono ?_
    rw[c9.o]
    rintro e w2 ⟨rfl,m,o⟩
    have R:=J<|v.o.call m o a5 a4
    clear m o v b0 b1 b2 b3 b4 b5 b6 b7 b8 b9 a0 a1 H X a2 a3
    obtain⟨b0,b1,b2,b3,b4,b5,b6,b7,b8,b9,a0,a1,H,X,a2,a3⟩:=R.o.p.c15
    go_wp2_with fail
    apply(YX pb I B pl ca U (Y fa fl fc) (Y (T ⟨gs,0,Z⟩) (L z) sc) (wv f u.l a) z (GS a u.p x) u (Y aa (L u.k) ac) (Y ba (L u.body) bc) (Y oa (L u.other) oc) a _ R.o.k R.o.aw ⟨_,_,_,Q⟩ ⟨_,_,_,Q⟩ (f0 _) (g5 _) c9.o g8 f7.1).mono
    rintro e w3 ⟨rfl,j9,j8⟩
    have C:=J<|R.o.call j9 j8 a5 a4
    clear j9 j8 R
    go_wp2_with fail
    exact⟨⟨k+1,_,_,by omega,by go_num,C.o.k,C.o.yS,C.o.S,d4.o,d5.o⟩,by simp[intOf];omega⟩
  subst f5;subst d1;subst hs;have k1:((u.e:zw)==1)=zr:=by simp[hk]
  have k2:((u.e:zw)==12)=zr:=by simp[hk]
  have k3:((u.e:zw)==13)=zt:=by simp[hk]
  rotate_left;subst f5;subst d1;subst hs;have k1:((u.e:zw)==1)=zr:=by simp[hk]
  have k2:((u.e:zw)==12)=zt:=by simp[hk]
  rotate_left
  .subst f5;subst d1;subst hs;have k1:((u.e:zw)==1)=zr:=by simp[hk]
   have k2:((u.e:zw)==12)=zt:=by simp[hk]
   have f1:=J<|d7.mono λ_ _ r=>r.2;have f9:=J<|j6.mono λ_ _ r=>r.2;have c2:D<|((g:zw)+1)=((g+1:M):zw):=by show _=_;omega
   have h3:=h4.o;simp only[Fn,AH,List.map_nil,AQ,List.sum_nil]at h3;obtain⟨f2,g0,k9⟩:=Dq d8 d9 hk;clear g1 d7 j6 hk d8 d9;have f8:=f7.2.1;have g7:=f7.2.2;have h6:=AV 6<|g+1;rcases h6 with h6|h6
   .have h5:=LH (p:=(6:zw)<(g:zw)+1) (by omega);obtain⟨x1,y1,E⟩:=JG<|L4 f y (g+1) a6 (n,(Em 4 p x));have a8:=LA f y (g+1) a6 (n,(Em 4 p x));rw[E]at a8;simp only at a8;obtain⟨x2,y2,F⟩:=JG<|L4 f y (g+1) g9 (x1,(Em 4 p2 y1));have P:x2=a/\y2=b:=by have:=c7.o;rw[Kr,Bb<|by simp[IM]]at this;simp only[AP,A6,h6,BD]at this;unfold L4 at E F;rw[E]at this;dsimp only at this;rw[F]at this;simpa using this
    obtain⟨rfl,rfl⟩:=P;have d0:=J E;have d6:=J F;clear E F h6;rw[f2.o]at H;have j5:zu ((0:zw)<=u.xY)=zt:=by rw[g0.o];simp
    go_wp2_with fail;apply(Fl I 4 p x _ v.o.k.wr).mono;rintro e w2 ⟨rfl,c5,a7⟩;have R:=J<|v.o.call (v.o.k.add c5 a7) (GX.xM a7) a5 a4;clear c5 a7 v b0 b1 b2 b3 b4 b5 b6 b7 b8 b9 a0 a1 H X a2 a3;obtain⟨b0,b1,b2,b3,b4,b5,b6,b7,b8,b9,a0,a1,H,X,a2,a3⟩:=R.o.p.c15;go_wp2_with fail;rw[c2.o];apply(c8.o pb I B pl ca u.l (g+1) U _ _ _ f z u.body a6 n (Em 4 p x) _ R.o.k R.o.yQ f1.o c4 hn d2 (by omega) f8 c3.o<|by omega).mono;rintro e w4 ⟨rfl,m,o⟩;rw[d0.o]at m;have N:=J<|R.o.call m o a5 a4;clear m o R b0 b1 b2 b3 b4 b5 b6 b7 b8 b9 a0 a1 H X a2 a3;obtain⟨b0,b1,b2,b3,b4,b5,b6,b7,b8,b9,a0,a1,H,X,a2,a3⟩:=N.o.p.c15;rw[g0.o]at X j5;go_wp2_with fail;apply(Fl I 4 p2 y1 _ N.o.k.wr).mono;rintro e w5 ⟨rfl,c5,a7⟩;have S5:=J<|N.o.call (N.o.k.add c5 a7) (GX.xM a7) a5 a4;clear c5 a7 N b0 b1 b2 b3 b4 b5 b6 b7 b8 b9 a0 a1 H X a2 a3;obtain⟨b0,b1,b2,b3,b4,b5,b6,b7,b8,b9,a0,a1,H,X,a2,a3⟩:=S5.o.p.c15;go_wp2_with fail;rw[c2.o];apply(c8.o pb I B pl ca u.l (g+1) U _ _ _ f z u.other g9 x1 (Em 4 p2 y1) _ S5.o.k S5.o.zL f9.o c4 hn d2 (by omega) g7 c3.o<|by omega).mono;rintro e w6 ⟨rfl,m,o⟩;rw[d6.o]at m;have C:=J<|S5.o.call m o a5 a4;clear m o S5;go_wp2_with fail;exact⟨⟨k+1,_,_,by omega,by go_num,C.o.k,C.o.yS,C.o.S,d4.o,d5.o⟩,by simp[intOf];omega⟩
   .have h5:=Hz (p:=(6:zw)<(g:zw)+1) (by omega);obtain⟨x1,y1,E⟩:=JG<|L4 f y (g+1) a6 (n,x);have a8:=LA f y (g+1) a6 (n,x);rw[E]at a8;simp only at a8;obtain⟨x2,y2,F⟩:=JG<|L4 f y (g+1) g9 (x1,y1);have P:x2=a/\y2=b:=by have:=c7.o;rw[Kr,Bb<|by simp[IM]]at this;simp only[AP,A6,Nat.not_lt.2 h6,BE]at this;unfold L4 at E F;rw[E]at this;dsimp only at this;rw[F]at this;simpa using this
    obtain⟨rfl,rfl⟩:=P;have d0:=J E;have d6:=J F;clear E F h6;rw[f2.o]at H;go_wp2_with fail;rw[c2.o];apply(c8.o pb I B pl ca u.l (g+1) U _ _ _ f z u.body a6 n x _ v.o.k v.o.yQ f1.o c4 hn d2 (by omega) f8 c3.o<|by omega).mono;rintro e w4 ⟨rfl,m,o⟩;rw[d0.o]at m;have N:=J<|v.o.call m o a5 a4;clear m o v b0 b1 b2 b3 b4 b5 b6 b7 b8 b9 a0 a1 H X a2 a3;obtain⟨b0,b1,b2,b3,b4,b5,b6,b7,b8,b9,a0,a1,H,X,a2,a3⟩:=N.o.p.c15;go_wp2_with fail;rw[c2.o];apply(c8.o pb I B pl ca u.l (g+1) U _ _ _ f z u.other g9 x1 y1 _ N.o.k N.o.zL f9.o c4 hn d2 (by omega) g7 c3.o<|by omega).mono;rintro e w6 ⟨rfl,m,o⟩;rw[d6.o]at m;have C:=J<|N.o.call m o a5 a4;clear m o N;go_wp2_with fail;exact⟨⟨k+1,_,_,by omega,by go_num,C.o.k,C.o.yS,C.o.S,d4.o,d5.o⟩,by simp[intOf];omega⟩
  all_goals
   have f1:=J<|d7.mono λ_ _ r=>r.2;have f9:D<|Fv (Gs u.l y z) u.other []:=by rw[i5];exact .nil
   have c2:D<|((g:zw)+1)=((g+1:M):zw):=by show _=_;omega
   have h3:=h4.o;simp only[Fn,AH,List.map_nil,AQ,List.sum_nil]at h3;obtain⟨f2,g0,k9⟩:=Dq d8 d9 hk;clear g1 d7 i5 hk d8 d9;have f8:=f7.2.1;have g7:=f7.2.2;have h6:=AV 6<|g+1;rcases h6 with h6|h6
   focus
    have h5:=LH (p:=(6:zw)<(g:zw)+1) (by omega);obtain⟨x1,y1,E⟩:=JG<|L4 f y (g+1) a6 (n,(Em 4 p x));have a8:=LA f y (g+1) a6 (n,(Em 4 p x));rw[E]at a8;simp only at a8;obtain⟨x2,y2,F⟩:=JG<|L4 f y (g+1) [] (x1,y1);have P:x2=a/\y2=b:=by have:=c7.o;rw[Kr,Bb<|by simp[IM]]at this;simp only[AP,A6,h6,BD]at this;unfold L4 at E F;rw[E]at this;simp only[A6,AU]at this F;exact⟨F.1.symm.trans this.1,F.2.symm.trans this.2⟩
    obtain⟨rfl,rfl⟩:=P;have d0:=J E;have d6:=J F;clear E F h6;rw[f2.o]at H;have j5:zu ((0:zw)<=u.xY)=zr:=by rw[g0.o];simp
    go_wp2_with fail;apply(Fl I 4 p x _ v.o.k.wr).mono;rintro e w2 ⟨rfl,c5,a7⟩;have R:=J<|v.o.call (v.o.k.add c5 a7) (GX.xM a7) a5 a4;clear c5 a7 v b0 b1 b2 b3 b4 b5 b6 b7 b8 b9 a0 a1 H X a2 a3;obtain⟨b0,b1,b2,b3,b4,b5,b6,b7,b8,b9,a0,a1,H,X,a2,a3⟩:=R.o.p.c15;go_wp2_with fail;rw[c2.o];apply(c8.o pb I B pl ca u.l (g+1) U _ _ _ f z u.body a6 n (Em 4 p x) _ R.o.k R.o.yQ f1.o c4 hn d2 (by omega) f8 c3.o<|by omega).mono;rintro e w4 ⟨rfl,m,o⟩;rw[d0.o]at m;have N:=J<|R.o.call m o a5 a4;clear m o R b0 b1 b2 b3 b4 b5 b6 b7 b8 b9 a0 a1 H X a2 a3
   rotate_left;focus
    have h5:=Hz (p:=(6:zw)<(g:zw)+1) (by omega);obtain⟨x1,y1,E⟩:=JG<|L4 f y (g+1) a6 (n,x);have a8:=LA f y (g+1) a6 (n,x);rw[E]at a8;simp only at a8;obtain⟨x2,y2,F⟩:=JG<|L4 f y (g+1) [] (x1,y1);have P:x2=a/\y2=b:=by have:=c7.o;rw[Kr,Bb<|by simp[IM]]at this;simp only[AP,A6,Nat.not_lt.2 h6,BE]at this;unfold L4 at E F;rw[E]at this;simp only[A6,AU]at this F;exact⟨F.1.symm.trans this.1,F.2.symm.trans this.2⟩
    obtain⟨rfl,rfl⟩:=P;have d0:=J E;have d6:=J F;clear E F h6;rw[f2.o]at H;go_wp2_with fail;rw[c2.o];apply(c8.o pb I B pl ca u.l (g+1) U _ _ _ f z u.body a6 n x _ v.o.k v.o.yQ f1.o c4 hn d2 (by omega) f8 c3.o<|by omega).mono;rintro e w4 ⟨rfl,m,o⟩;rw[d0.o]at m;have N:=J<|v.o.call m o a5 a4;clear m o v b0 b1 b2 b3 b4 b5 b6 b7 b8 b9 a0 a1 H X a2 a3
   all_goals
    obtain⟨b0,b1,b2,b3,b4,b5,b6,b7,b8,b9,a0,a1,H,X,a2,a3⟩:=N.o.p.c15;go_wp2_with fail;rw[c2.o];refine(c8.o pb I B pl ca u.l (g+1) U _ _ _ f z u.other [] x1 y1 _ N.o.k N.o.zL f9.o c4 hn d2 (by simp only[List.map_nil,List.sum_nil];omega) g7 c3.o<|by omega).mono ?_;rintro e w6 ⟨rfl,m,o⟩;rw[d6.o]at m;have C:=J<|N.o.call m o a5 a4;clear m o N;go_wp2_with fail;exact⟨⟨k+1,_,_,by omega,by go_num,C.o.k,C.o.yS,C.o.S,d4.o,d5.o⟩,by simp[intOf];omega⟩
 .have e:k=L l:=by omega
  have l2:V=(n,x):=by have:=HC.o;rw[e,i3,Bj]at this;exact this.symm
  subst l2;have l0:=Hz (p:=(k:zw)<L l) (by omega);clear HC;go_wp2;go_end0;exact⟨Q,HK.o,HF.o⟩
theorem jD:∀d,XC d:=by
 intro d;induction d with
 |zero=>exact Te 0 λa h=>by omega
 |succ d b=>exact Te (d+1) (fun a h=>by have:a=d:=by omega
                                        subst this;exact b)
theorem WI(R:Act->I'->Prop)(b a g n o B U z s f c l m w){e1 e2 e3 e4 e5 e6 e7 e8 e9 f0 f2 f3 f4 f5 f6 f7 f8 f9 g0 g1 g2 g3 g4 g5 g6 g7 g8 g9 h0 h1 h2 h3 h4 h5 h6 h7 h8 h9 i1 i2 i3 i4 i5 i6 C E F H I K N P S X a0 a1 a2 a3 a4 a5 a6 a7 a8 a9 b0 b1 b2 b3 b4 b5 b6 b7 b8 b9 c0 c1 c2 c3 c4 c5 c6 c7 c8 c9 d0 d1 d2 d3 d4 d5 d6 d7 d8 d9 e0}
 (e:Dl b a g n o f.b f.wY w)(ht:Dt g n o z w)(d:EB a s (Y l (L c) m) f.pl f.g w)(j1:Eh B U w (Y l (L c) m) c)(hB:B<=w.heap.size)(l2:L c<=8004)
 (hQ:∀wc j5 j6 j7 j8 j9 k0 k1 k2 k3 k4 k5 k6 k7 k8 k9 l0 l1,tT b a g n o B U z s (Y l (L c) m) f c w wc->R {tmps:=#[Z'<|T ⟨b,0,Z⟩,V,z0,s0,u1,x2,v2,z3,y3,x3,v3,t3,o3,z4,y4,r4,o4,y5,j5,j6,j7,j8,j9,k0,k1,k2,k3,k4,k5,k6,k7,k8,k9,l0,l1,v7,u7,t7,s7,r7,q7,p7,n6,z7,x6,v6,q5,p5,o7,v8,r8,u9,s9,r9,o9,n9,e1,e2,e3,e4,e5,e6,e7,e8,e9,f0,f2,f3,f4,f5,f6,f7,f8,f9,g0,g1,g2,g3,g4,g5,g6,g7,g8,g9,h0,h1,h2,h3,h4,h5,h6,h7,h8,h9,i1,i2,i3,i4,i5,i6,C,E,F,H,I,K,N,P,S,X,a0,a1,a2,a3,a4,a5,a6,a7,a8,a9,b0,b1,b2,b3,b4,b5,b6,b7,b8,b9,c0,c1,c2,c3,c4,c5,c6,c7,c8,c9,d0,d1,d2,d3,d4,d5,d6,d7,d8,d9,e0],defers:=[]} wc):
 Code.wp zy (rg Tryz.f108 2) (K6 R) {tmps:=#[Z' b,V,z0,s0,u1,x2,v2,z3,y3,x3,v3,t3,o3,z4,y4,r4,o4,y5,x5,v5,u5,r5,o5,n5,z6,u6,t6,y8,r6,q6,p6,o6,y6,x8,x7,v7,u7,t7,s7,r7,q7,p7,n6,z7,x6,v6,q5,p5,o7,v8,r8,u9,s9,r9,o9,n9,e1,e2,e3,e4,e5,e6,e7,e8,e9,f0,f2,f3,f4,f5,f6,f7,f8,f9,g0,g1,g2,g3,g4,g5,g6,g7,g8,g9,h0,h1,h2,h3,h4,h5,h6,h7,h8,h9,i1,i2,i3,i4,i5,i6,C,E,F,H,I,K,N,P,S,X,a0,a1,a2,a3,a4,a5,a6,a7,a8,a9,b0,b1,b2,b3,b4,b5,b6,b7,b8,b9,c0,c1,c2,c3,c4,c5,c6,c7,c8,c9,d0,d1,d2,d3,d4,d5,d6,d7,d8,d9,e0],defers:=[]} w:=by
 change Code.wp _ (.region _ _ _) _ _ _;have⟨i0,hi,j2,j3,j4⟩:=Bx Tryz.infoSt;have⟨cs,j,t,j0⟩:=j1;have y:=e.p.z 3;have x:=d.p.z 1;have f1:=d.p.wV 1;simp at y x;have lr:=Cz e;have v:=Cz d;have l3:a≠b:=d.p.ne e.p (by decide);obtain⟨i8,r,i7⟩:=Dq (CL j e<|by decide) (CL j d<|by decide) t;clear t;go_region_law(refine C7 Q _ _ 68 Q B 114 i0 (N' zS) 15 184 underlying68 hi j2 j3 j4 Q (by decide) _ _ _ Q (j.alloc _) w 1 1 zS.toList Q Q (C3 Q _ _) tH (by decide) (by unfold E';omega) (by omega) (by simp;omega) ?_;intro v' p u i i9;have q1:p (a,1)=Y l c m:=(Ae<|i.block a (by simp;omega) λh=>r.o a h.symm Q).trans (by rw[<-x];exact Ae<|Ao _ _ _ v);have q2:p.frozen? (a,1)=zr:=(Aj<|i.block a (by simp;omega) λh=>r.o a h.symm Q).trans (by rw[<-f1];exact Aj<|Ao _ _ _ v);have q3:p (b,3)=Z' a:=(Ae<|i.block b (by simp;omega) λh=>i8.o b h.symm Q).trans (by rw[<-y];exact Ae<|Ao _ _ _ lr);obtain⟨va,vl,vc,rfl⟩:=CA u);all_goals
  exact hQ _ _ _ _ _ _ _ _ _ _ _ _ _ _ _ _ _ _<|eL e ht d j i7.o j0 (((CT _ _).alloc _).drew) u i λk hk=>(i9 k hk).imp id λq=>by simp at q;omega
abbrev TW:=TypeId×M×H'×M×Ci
def TW.ok(B:M)(w:I')(q:TW):Prop:=(q.1=3\/q.1=104)/\J' w B q.1 q.2.1 q.2.2.1 q.2.2.2.1 q.2.2.2.2
theorem TW.ok.j{B:M}{w w':I'}{X:Ce}{q:TW}(h:q.ok B w)(f:O X w w')(d:∀(k:M) (a:Cg) (t:TypeId) (b:M×M),X k->w.heap[k]? =T (R' a t b)->t≠3/\t≠104):q.ok B w':=
 ⟨h.1,CD h.2 f λk a b c e=>h.1.elim (d k a _ b c e).1 (d k a _ b c e).2⟩
theorem Qo{w b a t}(h:W b a t w)(g:t≠3/\t≠104)(k c u d)(f:k=b)(e:w.heap[k]? =T (R' c u d)):u≠3/\u≠104:=by grind[W]
structure SG(E K sb g n N B:M)(U:Ce)(C:DH)(R s0 sv:H')(x:St)(H:C8)(sc:Cg)(x1:List TW)(P w:I'):Prop where
 s:SF E K sb g n N B U C R sv x H sc w
 f:JI E K s0 sv P w
 b:P<=sb
 c:x.b<n
 z:(CI C<|n-1).h=0
 r:∀q∈x1,TW.ok B w q
 m:B<=P
section
variable{E K sb g n N B:M}{U:Ce}{C:DH}{R s0 sv:H'}{x:St}{H:C8}{sc:Cg}{x1:List TW}{P w w':I'}
theorem SG.xD(h:SG E K sb g n N B U C R s0 sv x H sc x1 P w)(a:O Cb w w'):SG E K sb g n N B U C R s0 sv x H sc x1 P w':=
 ⟨h.s.xD a,h.f.trans<|JI.xM<|a.mono λ_ _ q=>q.elim,h.b,h.c,h.z,λq b=>(h.r q b).j a λ_ _ _ _ q=>q.elim,h.m⟩
theorem SG.xF(h:SG E K sb g n N B U C R s0 sv x H sc x1 P w)(i u):SG E K sb g n N B U C R s0 sv x H (sc.setIfInBounds i u) x1 P<|w.setCell (sb,i) u:=
 ⟨h.s.xF i u,h.f.xB i u h.b,h.b,h.c,h.z,λq a=>(h.r q a).j ((CT _ _).wS i u)<|Qo h.s.C<|by decide,h.m⟩
theorem SG.cast{a}(h:SG E K sb g n N B U C R s0 sv x H sc x1 P w)(e:sc=a):SG E K sb g n N B U C R s0 sv x H a x1 P w:=e▸h
theorem SG.one{q}(h:SG E K sb g n N B U C R s0 sv x H sc (q::x1) P w):SG E K sb g n N B U C R s0 sv x H sc [q] P w:=
 ⟨h.s,h.f,h.b,h.c,h.z,λp a=>h.r p<|by grind,h.m⟩
theorem SG.q(h:SG E K sb g n N B U C R s0 sv x H sc x1 P w)(v l)(a:v.toList=l):
 F' zy 106 #[Z'<|T ⟨E,0,Z⟩,Y' v] w λe w'=>e=T' (O'<|Ei x.wY (CI C x.b) l)/\D (SG E K sb g n N B U C R s0 sv x H sc x1 P w'):=
 (Ys E K g n N x.b x.wY C v l a w h.s.rd h.s.tk h.c).mono (λ_ _ q=>⟨q.1,h.xD q.2⟩)
theorem SG.xX(h:SG E K sb g n N B U C R s0 sv x H sc x1 P w)(v l)(b:v.toList=l):
 F' zy 63 #[Z'<|T ⟨E,0,Z⟩,Y' v] w λe w'=>∃a,D (CW C l x=a)/\e=T' (P' #[])/\D (SG E K sb g n N B U C R s0 sv a H sc x1 P w'):=
 (Pa E K g n N x.b x.wY C v l b w h.s.rd h.s.tk h.c).mono (λ_ _ q=>⟨_,Q,q.1,h.s.xX Q q.2.2 q.2.1,h.f.tr q.2.2,h.b,EK Q h.z h.c,h.z,λp c=>(h.r p c).j q.2.2<|Qo h.s.rd.p<|by decide,h.m⟩)
theorem SG.get(h:SG E K sb g n N B U C R s0 sv x H sc x1 P w)(k:M)(b:k≠0):
 F' zy 64 #[Z' E,k] w λe w'=>∃q a,D (Ev C k x=(q,a))/\e=MR q/\D (SG E K sb g n N B U C R s0 sv a H sc x1 P w'):=
 (PU E K g n N x.b k x.wY C w h.s.rd h.s.tk h.c).mono (λ_ _ q=>⟨_,_,Q,q.1,h.s.get Q q.2.2 q.2.1,h.f.tr q.2.2,h.b,Iw Q b h.z h.c,h.z,λp c=>(h.r p c).j q.2.2<|Qo h.s.rd.p<|by decide,h.m⟩)
theorem SG.value(h:SG E K sb g n N B U C R s0 sv x H sc x1 P w)(s)(r:s.k=[])(y:x.pl<=4001)(u:x.g<=4001):
 F' zy 151 #[Z' E,N'<|Dc s DS DS DS] w λe w'=>∃b p a l c,D (Gc C x s=(b,p))/\e=N' (Dc b (Y a l c) DS DS)/\
  D (SG E K sb g n N B U C R s0 sv p H sc ((104,3,Y a l c,b.k,DZ b.k)::x1) P w')/\D (∀k,L' (Y a l c)=T k->(P:M)<=k):=by
 apply(eZ E K g n N C R sv x s w h.s.rd h.s.tk h.s.r h.c h.z r y u).mono;rintro e w' ⟨I,rfl,i,z,F,v,f⟩;obtain⟨a,l,c,rfl⟩:=CA i;have S:=h.f.j.size;refine⟨_,_,a,l,c,Q,Q,⟨h.s.value z F v f,h.f.trans<|JI.xM f,h.b,Xl h.z x s h.c,h.z,?_,h.m⟩,λk d=>by have:=(i.lt k d).1;omega⟩;intro q j;rcases AY.1 j with rfl|j
 exact⟨zn Q,CN i<|by have:=h.m;omega⟩;exact(h.r q j).j f (λk m t o d=>d.elim (Qo h.s.rd.p (by decide) k m t o)<|Qo h.s.r.p (by decide) k m t o)
theorem SG.block{f inn:M}(h:SG E K sb g n N B U C R s0 sv x H sc x1 P w)(ih:∀k,k<=f->N7 k)(hi:Mw n x H)(hf:x.wY=Z->2*(n-x.b)<=f):
 F' zy 66 #[Z' E,inn] w λe w'=>∃p o x' t m r s y z F j,D ((CI C x.b).pos=p/\(C6 C f inn (CW C [123] x) H []).1=o/\CW C [125] (C6 C f inn (CW C [123] x) H []).2.1=x'/\(C6 C f inn (CW C [123] x) H []).2.2=t)/\
  e=P' #[p,Y m r s]/\D (SG E K sb g n N B j C R s0 (Y y z F) x' t sc ((3,1,Y m r s,o,o.map λi:M=>G A (i:zw))::x1) P w')/\
  D ((∀k,U k->j k)/\(∀k,j k->U k\/(P:M)<=k)/\∀k,L' (Y m r s)=T k->(P:M)<=k)/\D (Mw n x' t/\L H<=t/\(x'.wY=Z->x.b+1<=x'.b)):=by
 have a1:(CW C [123] x).b<n:=EK Q h.z h.c;have g1:=DP C [123] x;have⟨S,q2,q3⟩:=(GY h.z f).1 inn (CW C [123] x) H []<|hi.xQ g1 a1;have g2:=DP C [125] (C6 C f inn (CW C [123] x) H []).2.1;have a6:=h.f.j.size;have a5:sb<w:=Cz h.s.C;have hm:=h.m;have hn:=h.s.yI;apply(SD f ih E K g n N B inn (λk=>U k/\k<(w:M)) C R sv x H w h.s.rd h.s.tk h.s.r h.s.st.below (λk b=>b.2) (by omega) h.z hi hf).mono;rintro e w' ⟨a3,bv,j,a7,a2,a8,rfl,I,hr,v,hp,a0,u⟩;obtain⟨m,r,s,rfl⟩:=CA I;obtain⟨y,z,F,rfl⟩:∃a l c,a3=Y a l c:=have⟨_,q,_⟩:=a0;CA q;refine⟨_,_,_,_,m,r,s,y,z,F,λk=>j k\/U k,⟨Q,Q,Q,Q⟩,Q,⟨⟨hr,v,hp,h.s.C.j u.j ?_,a0.more λ_=>zo,?_⟩,h.f.trans u,h.b,EK Q h.z S.1,h.z,?_,hm⟩,⟨λk=>zn,λk q=>q.elim (λq=>(a2 k q).imp (λq=>q.1) λq=>by omega) zo,λk b=>by have:=(I.lt k b).1;omega⟩,S.xQ g2<|EK Q h.z S.1,q3,λe=>by have:=g2.2.2.2 e;have:=g1.1;omega⟩;rintro(q|q|q);omega;exact hn.2.2.2.2.1 q;exact h.s.nb _ q Q;intro k b;rcases u.own k b with q|q
 exact h.s.nb k q;omega;intro q d;rcases AY.1 d with rfl|d
 exact⟨zo Q,CN I<|by omega⟩;have⟨_,a4,_⟩:=h.s.st;have d:=h.r q d;refine⟨d.1,CD d.2 u.j λk V X b=>?_⟩;have v:q.1≠162/\q.1≠70/\q.1≠114:=by rcases d.1 with e|e<;>rw[e]<;>decide
 rcases b with b|b|b
 exact Fp h.s.rd.p (Ne.symm v.1) k V X b;exact Fp h.s.r.p (Ne.symm v.2.1) k V X b;grind[Ht]
structure SE(E K sb g n N B:M)(U V:Ce)(C:DH)(R s0 sv:H')(x:St)(H:C8)(sc:Cg)(x1:List TW)(P w:I')(i:M)(S:FS)(av bv ov:H'):Prop where
 g:SG E K sb g n N B V C R s0 sv x H sc x1 P w
 u:(∀k,U k->V k)/\∀k,V k->U k\/(P:M)<=k
 l:i<H
 a:Fb B w av S.k
 d:CY B w bv S.body
 e:CY B w ov S.other
 o:∀k,(av.ownBlock=T k\/bv.ownBlock=T k\/ov.ownBlock=T k)->(P:M)<=k
theorem SE.post{V:Ce}{i d l c S a b e r}(h:SE E K sb g n N B U V C R s0 (Y (T ⟨d,0,Z⟩) l c) x H sc x1 P w i S a b e)(s:r=(i,x,H.set i S)):
 Y8 E K g n N B U C R s0 P r (T'<|G A i) (Rm w d (i*15) (Dc S a b e).toList).drew:=by
 subst s;have F:=(h.g.s.st.more (U':=λk=>V k\/(L' a=T k\/L' b=T k\/L' e=T k)) λ_=>zo).put h.l ⟨a,b,e,Q,h.a,h.d,h.e,λ_=>zn⟩;have j:=Rd w d (i*15) (Dc S a b e).toList;have⟨t,u,y⟩:=h.g.s.yU d Q;have p:g≠d:=by have⟨_,q,_⟩:=h.g.s.st;have⟨v,o⟩:=E0 q;exact h.g.s.tk.ne o nofun
 have f:∀m:I',O Cb m m.drew:=λm=>(CT _ m).drew
 exact⟨_,_,λk q=>zo<|h.u.1 k q,λk q=>q.elim (h.u.2 k) λq=>zn<|h.o k q,Q,(h.g.s.rd.j j λq=>t q.symm).j (f _) id,(h.g.s.tk.j j p).j (f _) id,(h.g.s.r.p.j j λq=>u q.symm).j (f _) id,F.j (f _) Ed λ_ _ _ _ q=>q.elim,(h.g.f.put Q j).drew⟩
end
theorem Tv(w a o s b c d):Rm w a o (Dc s b c d).toList=((((((((((((((w.setCell (a,o) s.e).setCell (a,o+1) s.p.a).setCell (a,o+2) s.p.pos).setCell (a,o+3) s.p.h).setCell (a,o+4) s.q.a).setCell (a,o+5) s.q.pos).setCell (a,o+6) s.q.h).setCell (a,o+7) s.wU).setCell (a,o+8) b).setCell (a,o+9) s.t9).setCell (a,o+10) c).setCell (a,o+11) d).setCell (a,o+12) s.br).setCell (a,o+13) s.xY).setCell (a,o+14) s.l:=Q
theorem W.c7{b a t w}(h:W b a t w):w b=a[0]? /\w (b,1)=a[1]? /\w (b,2)=a[2]? /\w (b,3)=a[3]? /\w (b,4)=a[4]? /\w (b,5)=a[5]? /\w (b,6)=a[6]? /\∀i,w.frozen? ⟨b,i,Z⟩=zr:=
 ⟨h.z 0,h.z 1,h.z 2,h.z 3,h.z 4,h.z 5,h.z 6,h.wV⟩
theorem sZ(sc:Cg)(a:sc.size=15)(b c i j k m n o p q d e f g h:H'):((((((((((((((sc.setIfInBounds 0 b).setIfInBounds 1 c).setIfInBounds 2 i).setIfInBounds 3 j).setIfInBounds 4 k).setIfInBounds 5 m).setIfInBounds 6 n).setIfInBounds 7 o).setIfInBounds 8 p).setIfInBounds 9 q).setIfInBounds 10 d).setIfInBounds 11 e).setIfInBounds 12 f).setIfInBounds 13 g).setIfInBounds 14 h=#[b,c,i,j,k,m,n,o,p,q,d,e,f,g,h]:=by have⟨l⟩:=sc;simp only[BW]at a;rcases l with _|⟨r,_|⟨s,_|⟨z,_|⟨B,_|⟨F,_|⟨I,_|⟨S,_|⟨U,_|⟨V,_|⟨X,_|⟨t,_|⟨u,_|⟨v,_|⟨w,_|⟨x,_|⟨y,l⟩⟩⟩⟩⟩⟩⟩⟩⟩⟩⟩⟩⟩⟩⟩⟩<;>first|(simp at a;done)|(simp at a;omega)|simp
def Zt(f:M)(b:Cj->Prop):Prop:=∀(E K g n N B a:M) (U:Ce) (C:DH) (R sv:H') (x:St) (H:C8) (w:I'),Dl E K g n N x.b x.wY w->Dt g n N C w->EB K R sv x.pl x.g w->Eh B U w sv H->B<=w->(CI C<|n-1).h=0->Mw n x H->x.wY=Z->2*(n-x.b)<=f->b (Dk<|CI C x.b)->
 F' zy 108 #[Z' E,a] w λe w'=>Y8 E K g n N B U C R sv w (Dn C f a x H) e w'
theorem lT(f)(ih:∀k,k<=f->N7 k):Zt (f+1) λl=>l=mS\/l=LG:=by
 intro x u g n H B i U d K sv m c w s P p c8 hB hz i6 f4 j9 h3;have hn:=P.2.2;obtain⟨f6,l2,j7,j8,h5⟩:=i6;obtain⟨h6,IH,i1⟩:=Dq (h5 f4) ih h3;clear ih h5 f4 h3;obtain⟨i0,hi,l3,l4,l5⟩:=Bx Tryz.infoSt;obtain⟨cs,b6,f7,h0⟩:=c8;have hn:=P.2.2;have r3:=s.p.z;have p1:=p.p.z;have f1:=p.p.wV 1;obtain⟨R,sl,V,j1⟩:=CA b6;subst j1;cases CU b6;have lr:=Cz s;have lp:=Cz p;have i8:u≠x:=p.p.ne s.p (by decide);obtain⟨h8,h7,HR,e9,HP,e8,e6,HZ⟩:=Pe (CL b6 s<|by decide) (CL b6 p<|by decide) s P p h0 f7 hz;clear s P p h0 f7 hz;obtain⟨y,hy⟩:=Dv<|Dn d (f+1) i m c;rw[hy];have HY:=J hy;obtain⟨t,HT⟩:∃t,D<|CI d m.b=t:=⟨_,Q⟩;clear hy;go_in;go_wp2;refine Fu<|WI _ x u g n H B U d K m c R V w HR.o e9.o HP.o ⟨cs,b6,e6.o,e8.o⟩ hB (by omega) ?_;intro wc m4 m5 m6 m7 m8 m9 n0 n1 n2 n3 n4 n5 n6 n7 n8 n9 o0 hcut;dsimp only;obtain⟨va,vl,vc,s,P,p,c8,e3⟩:=hcut;have h2:(w:M)<=(wc:M):=e3.j.size;clear h8 h7 HR e9 HP e8 e6 b6 r3 p1 f1 lr lp i8;have r:D<|SF x u (wc:M) g n H B U d K (Y va vl vc) m (c++[Gd 0 0]) (JA i)<|wc.alloc<|R' (JA i) 114:=
  ⟨s.p.alloc _,P.j ((CT Cb wc).alloc _) id,p.p.alloc _,W.new _ _ _,c8.j ((CT Cb wc).alloc _) Ed λ_ _ _ _ q=>q.elim,λk a=>by obtain⟨i4,N,_⟩:=c8;have:=(N.lt k a).2;omega⟩
 have c9:D<|JI x u (Y R (L c) V) (Y va vl vc) w<|wc.alloc<|R' (JA i) 114:=e3.alloc _;clear s P p c8 e3;go_wp2;generalize wc.alloc (R' (JA i) 114)=W0 at r c9|-;obtain⟨t0,t1,t2⟩:=r.o.tk.cells f6;rw[HT.o]at t0 t1 t2;have r0:=r.o.rd.p.z;have l0:=Cz r.o.rd;have l1:g<(W0:M):=(r.o.tk.1.lt g Q).2;have ls:(wc:M)<(W0:M):=Cz r.o.C;go_region;generalize (wc:M)=sb at r c9 h2 ls|-;have z:D<|SG x u sb g n H B U d K (Y R (L c) V) (Y va vl vc) m (c++[Gd 0 0]) (JA i) [(104,3,DS,0,[])] w W0:=⟨r.o,c9.o,h2,f6,HZ.o,λq h=>by rw[Ay.1 h];exact⟨zn Q,An _ _ _ _⟩,hB⟩;have d7:D<|L c<L (c++[Gd 0 0]):=by show _<_;simp
 clear r c9;go_upto_region 6 with fail;go_cut[53] (λv F=>v=O' (zu<|t.h=2\/t.h=4)/\D (W (W0:M) #[Y' t.a,G A t.pos,G A t.h] 104 F)/\D (SG x u sb g n H B U d K (Y R (L c) V) (Y va vl vc) m (c++[Gd 0 0]) (JA i) [(104,3,DS,0,[])] w F))
 .have hs:(t.h=2/\((t.h:zw)==2)=zt)\/(t.h=4/\((t.h:zw)==2)=zr/\((t.h:zw)==4)=zt)\/((¬(t.h=2\/t.h=4))/\((t.h:zw)==2)=zr/\((t.h:zw)==4)=zr):=by
   by_cases h:t.h=2
   .simp[h]
   by_cases k:t.h=4
   .simp[k]
   .simp;omega
  rcases hs with⟨hs,h1⟩|⟨hs,h1,j0⟩|⟨hs,h1,j0⟩
  all_goals
   have HS:=J hs;clear hs;go_wp2_with fail;go_meet;exact⟨by simp[HS.o],W.j (W.new _ _ _) (X:=Cb) oq id,z.o.xD oq⟩
 obtain⟨rfl,e4,b7⟩:=hcut;have b0:=e4.o.z;go_upto_if 53 with fail;go_cut[8] (λv F=>∃b:Cd,v=Y' b/\D (b.toList=Dk (CI d m.b))/\D (SG x u sb g n H B U d K (Y R (L c) V) (Y va vl vc) m (c++[Gd 0 0]) (JA i) [(104,3,DS,0,[])] w F))
 .by_cases hc:t.h=2\/t.h=4;all_goals
   have HS:=J hc;simp only[hc,decide_true,decide_false];clear hc;go_wp2_with fail;go_meet;exact⟨_,Q,by show _=_;rw[HT.o];simp[Dk,HS.o],b7.o.xD oq⟩
 clear e4 b7 b0 HT z;obtain⟨b,rfl,HB,z⟩:=hcut;have hz:((b.toList==[105,102])=zt/\Dk (CI d m.b)=mS)\/((b.toList==[105,102])=zr/\(b.toList==[119,104,105,108,101])=zt/\Dk (CI d m.b)=LG):=by rw[HB.o];rcases i1.o with h|h<;>simp[h]
 have f2:=J hz;clear hz;go_upto_if 65 with fail;go_cut[65] (λv F=>v=O' zt/\D (SG x u sb g n H B U d K (Y R (L c) V) (Y va vl vc) m (c++[Gd 0 0]) (JA i) [(104,3,DS,0,[])] w F))
 .rcases f2.o with⟨e0,_⟩|⟨e0,e1,_⟩
  all_goals
   rw[e0];go_wp2_with fail;go_meet;exact⟨Q,z.o.xD oq⟩
 clear z;obtain⟨rfl,z⟩:=hcut;go_wp2_with fail;apply((z.o.xD oq).xX _ (Dk<|CI d m.b) HB.o).mono;rintro e w1 ⟨x1,C,rfl,b7⟩;go_wp2_with fail;apply(b7.o.xX _ [63]<|by simp).mono;rintro e w2 ⟨x2,c5,rfl,b4⟩;have E:=b4.o.s.C.z 0;have I:=b4.o.s.C.wV;simp at E;go_wp2_with fail;clear E I;have G1:=DP d (Dk<|CI d m.b) m;rw[C.o]at G1;have G2:=G1.trans<|DP d [63] x1;rw[c5.o]at G2;have hi:Mw n x2<|L<|c++[Gd 0 0]:=by have:=h6.o;obtain⟨g1,g2,g3,g4⟩:=G2;refine⟨b4.o.c,by omega,by omega,by simp;omega,λe=>?_⟩;have:=g4 e;simp only[Ah,Af,Aw];omega
 refine((b4.o.xF 0<|G A 13).block (inn:=i) IH.o hi λe=>by have:=G2.2.2.2 e;omega).mono ?_;have e5:=J G2.1;clear G1 G2 hi b7 z;rintro e w3 ⟨p3,o3,x3,f3,b1,b2,b3,d1,d2,d3,U3,d0,rfl,b8,o,b5⟩;obtain⟨E,c6,c7⟩:=b8.o.s.C.e3 0 10 12;have I:=b8.o.s.C.wV;simp at E c6 c7;have b9:=J<|(b8.o.xF 12<|G A p3).xF 10<|Y b1 b2 b3;go_upto_if 83 with fail;go_cut[] (λF=>∃(S:FS) (x9:St) (f9:C8) (U9:Ce) (L9:List TW) (za:Ch) (zl zc:M) (ya:Ch) (yl yc:M) (da:Ch) (dl dc:M),D (SE x u sb g n H B U U9 d K (Y R (L c) V) (Y da dl dc) x9 f9 (Dc S DS (Y za zl zc)<|Y ya yl yc) L9 w F (L c) S DS (Y za zl zc)<|Y ya yl yc)/\D (y=(L c,x9,f9.set (L c) S)))
 .rcases f2.o with⟨e0,hW⟩|⟨e0,e1,hW⟩
  all_goals rw[e0]
  .have HW:=J hW;clear hW;go_wp2_with fail;clear E c6 c7 I;apply((b9.o.xF 0<|G A 12).q _ Hp<|by simp).mono;rcases hd:Ei x3.wY (CI d x3.b) Hp with _|_
   .rintro e w4 ⟨rfl,c0⟩;go_wp2_with fail;go_meet;exact⟨{Gd i (-1)with e:=12,br:=p3,body:=o3},x3,f3,U3,_,b1,b2,b3,Z,0,0,d1,d2,d3,⟨(c0.o.xD oq).cast<|by simp;rfl,⟨o.o.1,o.o.2.1⟩,Av d7.o b5.o.2.1,An _ _ _ _,((c0.o.xD oq).r _<|.head _).2,An _ _ _ _,λk a=>o.o.2.2 k<|by simpa[L']using a⟩,by show _=_;rw[<-HY.o,Dn];rw[HW.o]at C|-;simp[C.o,c5.o,d0.o,hd]⟩
   .rintro e w4 ⟨rfl,c0⟩;go_wp2_with fail;apply(c0.o.xX _ Hp<|by simp).mono;rintro e w5 ⟨x4,f0,rfl,e7⟩;go_wp2_with fail;have G4:=DP d Hp x3;rw[f0.o]at G4;refine(e7.o.block (inn:=i) IH.o (b5.o.1.xQ G4 e7.o.c) λe=>by have q:=G4.2.2.2 e;have:=b5.o.2.2 q.1;have:=e5.o;omega).mono ?_;clear G4 c0 b9 b8 b4;rintro e w6 ⟨p5,o5,x5,f5,c1,c2,c3,k1,k2,k3,U5,h9,rfl,d4,d8,h4⟩;obtain⟨d9,e2⟩:=d4.o.s.C.e2 11 13;have I:=d4.o.s.C.wV;simp at d9 e2;go_wp2_with fail;have d5:=J<|(d4.o.xF 13<|G A p5).xF 11<|Y c1 c2 c3;go_meet;exact⟨{Gd i (-1)with e:=12,br:=p3,body:=o3,xY:=p5,other:=o5},x5,f5,U5,_,b1,b2,b3,c1,c2,c3,k1,k2,k3,⟨d5.o.cast<|by simp;rfl,⟨λk h=>d8.o.1 k<|o.o.1 k h,λk h=>(d8.o.2.1 k h).elim (o.o.2.1 k) zn⟩,Av d7.o<|As b5.o.2.1 h4.o.2.1,An _ _ _ _,(d5.o.r _<|.tail _<|.head _).2,(d5.o.r _<|.head _).2,λk a=>by rcases a with q|q|q;simp[L']at q;exact o.o.2.2 k q;exact d8.o.2.2 k q⟩,by show _=_;rw[<-HY.o,Dn];rw[HW.o]at C|-;simp[C.o,c5.o,d0.o,hd,f0.o,h9.o]⟩
  .have HW:=J hW;clear hW;go_wp2_with fail;go_meet;exact⟨{Gd i (-1)with e:=13,br:=p3,body:=o3},x3,f3,U3,_,b1,b2,b3,Z,0,0,d1,d2,d3,⟨b9.o.cast<|by simp;rfl,⟨o.o.1,o.o.2.1⟩,Av d7.o b5.o.2.1,An _ _ _ _,(b9.o.r _<|.head _).2,An _ _ _ _,λk a=>o.o.2.2 k<|by simpa[L']using a⟩,by show _=_;rw[<-HY.o,Dn];rw[HW.o]at C|-;simp[C.o,c5.o,d0.o]⟩
 obtain⟨S,x9,f9,U9,L9,za,zl,zc,ya,yl,yc,da,dl,dc,HE,i2⟩:=hcut;clear E c6 c7 I b9 b8 b4 d0 C c5 o b5 e5 HY;have d6:=J HE.o.g;have c4:=HE.o.g.s;obtain⟨i4,N,i7,i9⟩:=c4.st;have f8:=HE.o.l;obtain⟨gg,i5⟩:=CH N (by omega);subst i5;have gz:=Rg N;have a:=λj (h:j<15)=>Rf N (L c) f8 j h
 obtain⟨g0,k0⟩:=a 0 (by decide);obtain⟨g1,k1⟩:=a 1 (by decide);obtain⟨g2,k2⟩:=a 2 (by decide);obtain⟨g3,k3⟩:=a 3 (by decide);obtain⟨g4,k4⟩:=a 4 (by decide);obtain⟨g5,k5⟩:=a 5 (by decide);obtain⟨g6,k6⟩:=a 6 (by decide);obtain⟨g7,k7⟩:=a 7 (by decide);obtain⟨g8,k8⟩:=a 8 (by decide);obtain⟨g9,k9⟩:=a 9 (by decide);obtain⟨j2,l6⟩:=a 10 (by decide);obtain⟨j3,l7⟩:=a 11 (by decide);obtain⟨j4,l8⟩:=a 12 (by decide);obtain⟨j5,l9⟩:=a 13 (by decide);obtain⟨j6,m0⟩:=a 14 (by decide);simp only[Au]at k0;rw[<-CU N]at f8;have r3:=c4.rd.p.z;have p1:=c4.r.p.z;obtain⟨E,a1,a2,a3,a4,a5,a6,I⟩:=d6.o.s.C.c7;obtain⟨a7,a8,a9,c6,d9,c7,e2,i3⟩:=d6.o.s.C.e8 7 8 9 10 11 12 13 14;simp[Dc]at E a1 a2 a3 a4 a5 a6 a7 a8 a9 c6 d9 c7 e2 i3;obtain⟨m1,m2,m3⟩:=c4.yU gg Q;clear c4 N i7 i9 d6 I a;go_wp2;go_region;go_wp2;go_ret;have hq:=HE.o.post i2.o;rw[Tv]at hq;exact hq

/- Part of the proof. -/
import Derived.Test.YtbkhmmeecjnnkaaGreatDoorG06
import Derived.Deep.Upon
import Derived.Deep.RegionHeld3
set_option maxRecDepth 100000
set_option maxHeartbeats 40000000
namespace Go.Proofs.YtbkhmmeecjnnkaaGreatDoor
open Go.RowKit Go.Proofs.Tryz Go.Maps
open Option renaming none->Z,some->T
open Value renaming int->G,slice->Y,pointer->Z',string->Y',tuple->P',bool->O',agg->N',ownBlock->L'
open IntKind renaming i64->A
open Ending renaming returned->T'
open Obj renaming cells->R'
open List renaming length->L
open World renaming cell?->K',ownsRow->J'
open Go renaming World->I',Value->H',Calls->F',maxLen->E',Addr->A',results->zz
open Go.Proofs.Tryz renaming prog->zy
open Go.RowKit renaming Below->zx,intOf->zm
open _root_ renaming Nat->M,Int->zw,rfl->Q,decide->zu
open Bool renaming true->zt,false->zr
open Or renaming inl->zo,inr->zn
variable {z5:Array Oper}{q1:Cg}{u0:Cd}{x4 y9:CS}{x1:C8}{q2:Cf}{o0:Dd}{y2:Df}{o8:DH}{B C R X o1 p0 p4 s2 v0:Nat}{z1:Nat->Prop}{p3:Oper}{q4:Program}{v4:Sc}{V n5 n6 n9 o3 o4 o5 o6 o7 o9 p5 p6 p7 q5 q6 q7 r4 r5 r6 r7 r8 r9 s0 s7 s9 t3 t6 t7 u1 u5 u6 u7 u9 v2 v3 v5 v6 v7 v8 x2 x3 x5 x6 x7 x8 y3 y4 y5 y6 y8 z0 z3 z4 z6 z7:Value}{P v1 y0:World}{p8:World->Prop}
def sQ(w:I')(r:Df×M×PS)(e:Ending)(b:I'):Prop:=
 (r.2.2.H=zt/\e=P' #[N' #[Y Z 0 0,G A 0],G A 3,r.2.2.xN]/\zx w w b)\/
 (r.2.2.H=zr/\∃(d:M) (U:Ce) (a:Ch) (l c:M),e=P' #[N' #[Y a l c,r.2.1],G A 0,G A 0]/\Gt d U b (Y a l c) r.1/\(∀k,U k->(w:M)<=k/\k<(b:M))/\zx w w b)
theorem Gt.yD{X:Ce}(h:Gt B z1 P V y2)(b:O X P y0)(c:∀k,z1 k->¬X k):Gt B z1 y0 V y2:=by have⟨e,i,l,a,m⟩:=h;exact⟨e,Cx i b λk n=>c k<|a k n,l,a,λj g f=>(m j g f).j b c⟩
theorem OD(m F)(hF:EZ m F)(g n b j w)(hG:zx m F w)(hB:m<=w)(x:DM g n b j w)(hn:0<n)(hz:(CJ j<|n-1).e=0):
 F' zy 50 #[Y g n b] w λe w'=>sQ w (FQ j n ⟨0,zr,0⟩) e w':=by
 have lg:=x.lt;have⟨l1,p1,y,I⟩:=iA<|FQ j n ⟨0,zr,0⟩;rw[I];obtain⟨X1,HZ,S,R⟩:=F8 I hz hG hF;clear I hz hG hF;cases E:y.H with
 |true=>
  have o:=J E;clear E;go_in;go_wp2_with fail;have t:DA ((w:M)+1) g n b ⟨0,zr,0⟩<|(w.alloc<|R' #[Y Z 0 0,G A 0] 81).alloc<|R' #[Y g n b,G A 0,O' zr,G A 0] 198:=by have s:=W.new (w.alloc<|R' #[Y Z 0 0,G A 0] 81) #[Y g n b,G A 0,O' zr,G A 0] 198;simp only[World.size_alloc]at s;simpa[DA]using s
  refine(Pp m F R.o ((w:M)+1) g n b ⟨0,zr,0⟩ j _ (by omega) ((S.o.alloc hB _).alloc (by simp;omega) _) (by simp;omega) t (x.j (((CT Cb _).alloc _).alloc _) id) hn HZ.o).mono ?_;rw[X1.o];rintro e P ⟨d,U,a,l,c,rfl,z,C,i,h⟩;have f:W w #[Y Z 0 0,G A 0] 81 P:=((W.new w #[Y Z 0 0,G A 0] 81).alloc _).j h (by omega);have H:=J ((((Below.refl w w).alloc (Ad _) _).alloc (by simp) _).trans<|h.xL (B:=w) (by simp;omega) λk u=>by omega);obtain⟨q,r⟩:=f.e2 0 1;have bf:=f.wV;have N:=W.z i 2;have r3:=W.z i 3;simp only[Ac,Aa,Ab,o.o]at q r N r3;have K:=Cz f;have lR:=Cz i;clear i h f x t z C;go_wp2;go_region;go_wp2;refine Ak (v:=P' #[N' #[Y Z 0 0,G A 0],G A 3,y.xN]) (by simp[zz,results50,go_sem,q,r,K]) Q<|zo ⟨o.o,Q,?_⟩;exact((((H.o.setCell (p:=w) (Ad _) _).setCell (p:=(w,1)) (Ad _) _).alloc (by simp;omega) _)).trans ⟨Q,Q,Q,Ad _,λ_ _=>Q⟩
 |false=>
  have o:=J E;clear E;go_in;go_wp2_with fail;have t:DA ((w:M)+1) g n b ⟨0,zr,0⟩<|(w.alloc<|R' #[Y Z 0 0,G A 0] 81).alloc<|R' #[Y g n b,G A 0,O' zr,G A 0] 198:=by have s:=W.new (w.alloc<|R' #[Y Z 0 0,G A 0] 81) #[Y g n b,G A 0,O' zr,G A 0] 198;simp only[World.size_alloc]at s;simpa[DA]using s
  refine(Pp m F R.o ((w:M)+1) g n b ⟨0,zr,0⟩ j _ (by omega) ((S.o.alloc hB _).alloc (by simp;omega) _) (by simp;omega) t (x.j (((CT Cb _).alloc _).alloc _) id) hn HZ.o).mono ?_;rw[X1.o];rintro e P ⟨d,U,a,l,c,rfl,z,C,i,h⟩;have f:W w #[Y Z 0 0,G A 0] 81 P:=((W.new w #[Y Z 0 0,G A 0] 81).alloc _).j h (by omega);have H:=J ((((Below.refl w w).alloc (Ad _) _).alloc (by simp) _).trans<|h.xL (B:=w) (by simp;omega) λk u=>by omega);obtain⟨q,r⟩:=f.e2 0 1;have bf:=f.wV;have N:=W.z i 2;simp only[Ac,Aa,Ab,o.o]at q r N;have K:=Cz f;have lR:=Cz i;have HP:=J z;have V:=J C;have a0:=h.size;simp at a0;clear i h f x t z C;go_wp2;refine Ak (v:=P' #[N' #[Y a l c,p1],G A 0,G A 0]) (by simp[zz,results50,go_sem,q,r,K]) Q<|zn ⟨o.o,d,U,a,l,c,Q,?_,?_,?_⟩;refine HP.o.yD (X:=λk=>k=(w:M)) ?_ (λk u=>by have:=(V.o k u).1;simp at this;omega);refine O.alloc ?_ _;iterate 2 refine O.wS ?_ _ _
  exact oq;intro k u;have:=V.o k u;simp at this|-;omega;exact((H.o.setCell (p:=w) (Ad _) _).setCell (p:=(w,1)) (Ad _) _).alloc (by simp;omega) _
abbrev fE:Value:=N' #[Y Z 0 0,G A 0]
def nH(s:Cd)(a b:M):Prop:=∀w:I',F' zy 29 #[s] w λe c=>e=P' #[Y Z 0 0,fE,a,b]/\zx w w c
theorem Uy(s p)(i:s.size<=4000)(h:Dg s s 0 x0=.inl p):nH s 2 p:=by
 intro w;have H:=J h;clear h;go_in;go_wp2_with fail;apply(KL s i _).mono;rw[H.o];rintro e c ⟨rfl,a⟩;have j:=a;simp at j;have g:zx w w c:=((Below.refl _ _).alloc (Ad _) _).trans (a.mono<|by simp);have b:W w #[Y Z 0 0,G A 0] 81 c:=by show c.heap[(w:M)]? =_;rw[a.block _<|by simp];exact BB w _
 have⟨d,f⟩:=b.k2;have k:=b.wV;clear a b;go_wp2;refine Ak (v:=P' #[Y Z 0 0,fE,G A 2,p]) (by simp[zz,results29,go_sem,d,f]) Q ⟨Q,?_⟩;exact(g.setCell (p:=w) (Ad _) _).setCell (p:=(w,1)) (Ad _) _
theorem Rp(c n)(hF:EZ c n)(s y)(hs:s.size<=4000)(h:Dg s s 0 x0=.inr y)(X a1 x)(t:FQ (C2 s y) (C2 s y) ⟨0,zr,0⟩=(X,a1,x))(hx:x.H=zt)(w)(hG:zx c n w)(hB:c<=w)(j:(CJ (C2 s y)<|L (C2 s y)-1).e=0):
 F' zy 29 #[s] w λe w'=>e=P' #[Y Z 0 0,fE,G A 3,x.xN]/\zx w w w':=by
 obtain⟨H,S,K⟩:=Dq h j t;have B:0<L (C2 s y):=by simp[C2]
 have I:=J<|JR h;clear h j t;generalize u:C2 s y=k at*;have P:=J u;clear u;go_in;go_wp2_with fail;apply(KL s hs _).mono;rw[H.o];rintro e b ⟨v,rfl,a,C,f⟩;rw[P.o]at a C;have j:=f.size;simp at j;have z:zx w w b:=((Below.refl _ _).alloc (Ad _) _).trans (f.mono<|by simp);have r:W w #[Y Z 0 0,G A 0] 81 b:=by show b.heap[(w:M)]? =_;rw[f.block _<|by simp];exact BB w _
 obtain⟨va,vl,E,rfl⟩:=CA a;obtain⟨g,rfl⟩:=CH a B;cases CU a;have a0:=(a.lt g Q).1;simp at a0;have m:DM g k E k b:=⟨CN a<|by omega,Q,C,I.o⟩;obtain⟨N,o,l⟩:=Dq m r z;clear f r z a;go_wp2_with fail;apply(OD c n hF g k E k b (hG.trans<|l.o.mono hB) (by omega) m B S.o).mono;rw[K.o];rintro e F (⟨_,rfl,i⟩|⟨q,_⟩)
 .have a2:=i.size;have d:W w #[Y Z 0 0,G A 0] 81 F:=by show F.heap[(w:M)]? =_;rw[i.block _<|by omega];exact o.o
  have R:=J (l.o.trans<|i.mono<|by omega);have⟨U,V⟩:=d.k2;have bf:=d.wV;have l3:=Cz d;clear i d o l m N;simp only;go_wp2;refine Ak (v:=P' #[Y Z 0 0,fE,G A 3,x.xN]) (by simp[zz,results29,go_sem,U,V,l3]) Q ⟨Q,?_⟩;exact((R.o.setCell (p:=w) (Ad _) _).setCell (p:=(w,1)) (Ad _) _).alloc (by simp;omega) _
 grind
theorem Ux(m S)(hF:EZ m S)(s y)(hs:s.size<=4000)(h:Dg s s 0 x0=.inr y)(f B x)(hP:FQ (C2 s y) (C2 s y) ⟨0,zr,0⟩=(f,B,x))(hx:x.H=zr)(w)(hG:zx m S w)(hB:m<=w)(z:(CJ (C2 s y)<|L (C2 s y)-1).e=0)
 (n)(a9:∀d U w v,Gt d U w v f->Gt n U w v f)(hy:bB n f)(C)(hC:Od f n B=C)(hc:C.E≠0):
 F' zy 29 #[s] w λe w'=>e=P' #[Y Z 0 0,fE,C.E,C.t9]/\zx w w w':=by
 have b2:=qO C.E 0 (by omega);have HC:=J hC;clear hc hC;obtain⟨H,HZ,HG,HF,HP⟩:=Ix h z hG hF hP;have hl:0<L (C2 s y):=by simp[C2]
 have HD:=J<|JR h;clear h z hG hF hP;generalize hT:C2 s y=E at*;have HT:=J hT;clear hT;go_in;go_wp2_with fail;apply(KL s hs _).mono;rw[H.o];rintro e j ⟨v,rfl,b,a2,r⟩;rw[HT.o]at b a2;have z:=r.size;simp at z;have a1:zx w w j:=((Below.refl _ _).alloc (Ad _) _).trans (r.mono<|by simp);have a0:W w #[Y Z 0 0,G A 0] 81 j:=by show j.heap[(w:M)]? =_;rw[r.block _<|by simp];exact BB w _
 obtain⟨va,vl,vc,rfl⟩:=CA b;obtain⟨g,rfl⟩:=CH b hl;cases CU b;have a8:=(b.lt g Q).1;simp at a8;have R:DM g E vc E j:=⟨CN b<|by omega,Q,a2,HD.o⟩;obtain⟨a5,V,I⟩:=Dq R a0 a1;clear r a0 a1 b;go_wp2_with fail;apply(OD m S HF.o g E vc E j (HG.o.trans<|I.o.mono hB) (by omega) R hl HZ.o).mono;rw[HP.o];rintro e F (⟨q,_⟩|⟨_,d,U,a,l,c,rfl,P,hu,t⟩);grind
 .simp only at P|-;have b3:=t.size;have i:W w #[Y Z 0 0,G A 0] 81 F:=by show F.heap[(w:M)]? =_;rw[t.block _<|by omega];exact V.o
  have a6:=J (I.o.trans<|t.mono<|by omega);have⟨K,N⟩:=i.k2;have X:=i.wV;have l3:=Cz i;have a3:=a9 d U F (Y a l c) P;have a4:=J<|a3.j ((CT Cb F).alloc<|R' #[Y a l c,B] 81) Ed;clear t V I R a5 P a3;go_wp2_with fail;refine(SK n U _ f B _ a4.o (λk hk=>by have:=(hu k hk).2;simp;omega) hy).mono ?_;rw[HC.o];rintro e w4 ⟨rfl,u⟩;have o:=(i.alloc _).j u id;have z4:=u.size;simp at z4;have a7:D<|zx w w w4:=(a6.o.alloc (by omega) _).trans<|u.xL (by simp;omega) λ_ q=>q.elim;clear K N X;have⟨K,N⟩:=o.k2;have X:=o.wV;have l4:=Cz o;clear u o i;go_wp2;refine Ak (v:=P' #[Y Z 0 0,fE,C.E,C.t9]) (by simp[zz,results29,go_sem,K,N]) Q ⟨Q,?_⟩;exact(a7.o.setCell (p:=w) (Ad _) _).setCell (p:=(w,1)) (Ad _) _
theorem WG(E a2)(hF:EZ E a2)(s y)(hs:s.size<=4000)(h:Dg s s 0 x0=.inr y)(m i x)(hP:FQ (C2 s y) (C2 s y) ⟨0,zr,0⟩=(m,i,x))(hx:x.H=zr)(w)(hG:zx E a2 w)(hB:E<=w)(N:(CJ (C2 s y)<|L (C2 s y)-1).e=0)
 (r)(b9:∀d U w v,Gt d U w v m->Gt r U w v m)(hy:bB r m)(C)(hC:Od m r i=C)(hc:C.E=0):
 F' zy 29 #[s] w λe P=>∃(g a6:M) (a:Ch) (l c:M) (U:Ce),e=P' #[Y g (C2 s y) a6,N' #[Y a l c,i],G A 0,G A 0]/\DM g (C2 s y) a6 (C2 s y) P/\w<=g/\Gt r U P (Y a l c) m/\(∀k,U k->w.heap.size<=k/\k<(P:M))/\zx w w P:=by
 have c0:((C.E:zw) !=0)=zr:=by simp[hc]
 have HC:=J hC;clear hc hC;obtain⟨H,HZ,HP⟩:=Dq h N hP;have hl:0<L (C2 s y):=by simp[C2]
 have HD:=J<|JR h;clear h N hP;generalize hT:C2 s y=f at*;have HT:=J hT;clear hT;go_in;go_wp2_with fail;apply(KL s hs _).mono;rw[H.o];rintro e z ⟨v,rfl,o,a9,K⟩;rw[HT.o]at o a9;have N:=K.size;simp at N;have a8:zx w w z:=((Below.refl _ _).alloc (Ad _) _).trans (K.mono<|by simp);have a7:W w #[Y Z 0 0,G A 0] 81 z:=by show z.heap[(w:M)]? =_;rw[K.block _<|by simp];exact BB w _
 obtain⟨va,vl,p,rfl⟩:=CA o;obtain⟨g,rfl⟩:=CH o hl;cases CU o;have b8:=(o.lt g Q).1;simp at b8;have a1:DM g f p f z:=⟨CN o<|by omega,Q,a9,HD.o⟩;obtain⟨a5,a3,R⟩:=Dq a1 a7 a8;clear K a7 a8 o;go_wp2_with fail;apply(OD E a2 hF g f p f z (hG.trans<|R.o.mono hB) (by omega) a1 hl HZ.o).mono;rw[HP.o];rintro e j (⟨q,_⟩|⟨_,d,U,a,l,c,rfl,a0,hu,b⟩);grind
 .simp only at a0|-;have c3:=b.size;have t:W w #[Y Z 0 0,G A 0] 81 j:=by show j.heap[(w:M)]? =_;rw[b.block _<|by omega];exact a3.o
  have b6:=J (R.o.trans<|b.mono<|by omega);have⟨V,b1⟩:=t.k2;have bf:=t.wV;have l3:=Cz t;have b2:=b9 d U j (Y a l c) a0;have a4:=J<|b2.j ((CT Cb j).alloc<|R' #[Y a l c,i] 81) Ed;have b4:D<|DM g f p f j:=a5.o.j (X:=Cb) ⟨b.os,b.tape,b.output,b.size,λk u _=>b.block k u⟩ id;have X3:=J<|W.new j #[Y a l c,i] 81;clear b a3 R a1 a5 a0 b2;go_wp2_with fail;refine(SK r U _ m i _ a4.o (λk u=>by have:=(hu k u).2;simp;omega) hy).mono ?_;rw[HC.o];rintro e B ⟨rfl,n⟩;have F:=(t.alloc _).j n id;have S:=X3.o.j n id;have z4:=n.size;simp at z4;have b7:D<|zx w w B:=(b6.o.alloc (by omega) _).trans<|n.xL (by simp;omega) λ_ q=>q.elim;have b3:=J<|a4.o.j n Ed;have b5:D<|DM g f p f B:=(b4.o.j ((CT Cb j).alloc _) id).j n id;clear V b1 bf;have⟨V,b1⟩:=F.k2;have bf:=F.wV;have c4:=S.z;have l4:=Cz F;have l5:=Cz S;have c1:(j:M)≠w:=by omega
  clear n F t S;go_wp2;go_region;go_wp2;apply Ak (v:=P' #[Y g f p,N' #[Y a l c,i],G A 0,G A 0]) (by simp[zz,results29,go_sem,V,b1]) Q;have I:O (λk=>k=(w:M)) B<|((B.setCell w<|Y a l c).setCell (w,1) i).drew:=(((CT _ B).wS 0 _).wS 1 _).drew;have c2:=I.size;refine⟨g,p,a,l,c,U,Q,b5.o.j I<|by omega,by omega,b3.o.j I λk u q=>by grind,λk u=>⟨by grind,by grind⟩,?_⟩;exact b7.o.trans<|I.xL (by omega) λk q=>by omega
def JH(s:Cd)(l:DH):DH:=l++[⟨ByteArray.empty,s,0⟩]
def PJ(s:Cd)(l:DH):Dd×St×C8:=ER (JH s l) (2*(L l+1)) (L l+1) ⟨0,Z,0,0⟩ [] []
def dM(s:Cd)(l:DH)(d:M)(a:Df):Dd×CS:=Ep (PJ s l).1 d a 0 ((PJ s l).1,⟨0,0⟩)
def kF(s:Cd)(l:DH)(d:M)(a:Df):CS:=Sj (PJ s l).1 s (dM s l d a).2
def Ms(w:I')(s:Cd)(l:DH)(h:Dd)(i:C8)(x:St)(C:CS)(e:Ending)(a:I'):Prop:=
 if C.E=0 then
  ∃(b B g c:M) (U:Ce) (d f:H'),e=P' #[Z' b,Y g (L l+1) c,G A 0,G A 0]/\Dt g (L l+1) c (JH s l) a/\w<=g/\EB b d f x.pl x.g a/\w<=b/\Fq B a d h/\w<=B/\Eh B U a f i/\zx w w a
 else e=P' #[Z' Z,Y Z 0 0,C.E,C.t9]/\zx w w a
def Ro(w:I')(s:Cd)(d:M)(c:Df)(e:Ending)(a:I'):Prop:=
 match Ex s s 0 []with
 |.inl p=>e=P' #[Z' Z,Y Z 0 0,G A 2,p]/\zx w w a
 |.inr l=>match (PJ s l).2.1.wY with
  |some b=>e=P' #[Z' Z,Y Z 0 0,G A 3,b]/\zx w w a
  |none=>Ms w s l (dM s l d c).1 (PJ s l).2.2 (PJ s l).2.1 (kF s l d c) e a
structure uA(pb wb B pl ca g n cap:M)(U:Ce)(tZ:DH)(fv sv:H')(fns:Dd)(fs:C8)(fb:M)(fc:Cg)(tv:H')(takes:DH)(bv:H')(body:Cf)(c:CS)(w w':I'):Prop where
 r:nG pb wb B pl ca g n cap U tZ fv sv fns fs c w w'
 p:W fb fc 107 w'
 zW:Fb B w' tv takes
 yQ:CY B w' bv body
theorem uA.call{d b}(h:uA B C R X v0 p0 o1 s2 z1 d V z0 o0 x1 p4 q1 s0 o8 u1 q2 x4 P y0)(i:P<=R)(k:P<=C)(e:p4≠C)(f:L' V≠p4)(j:RK B C R X v0 z1 V z0 b x1 y9 v1)(a:GX C R V y0 v1):uA B C R X v0 p0 o1 s2 z1 d V z0 b x1 p4 q1 s0 o8 u1 q2 y9 P v1:=
 ⟨h.r.call i k j a,a.p h.p e f<|by decide,a.row h.zW h.r.k.wr h.r.k.fn (by decide) (by decide)<|by decide,a.row h.yQ h.r.k.wr h.r.k.fn (by decide) (by decide)<|by decide⟩
theorem UK(l:Dw)(i:M)(h:i<l):CI (l.map CR) i=CR l[i]:=by grind[CI]
theorem Lz(s)(hs:s.size<=4000)(w d a2)(a6:∀l,Ex s s 0 []=.inr l->(PJ s l).2.1.wY=Z->aW d (PJ s l).1 (PJ s l).2.2 a2):
 F' zy 9 #[s] w λe w'=>Ro w s d a2 e w':=by
 have h4:=Hz (p:=(4000:zw)<s) (by omega);unfold Ro;have h7:=a6;clear a6;cases hV:Ex s s 0 []with
 |inl p=> simp only;have HV:=J hV;clear hV;go_in;go_wp2_with fail;apply(J3 s hs _).mono;rw[HV.o];rintro e o ⟨rfl,hb⟩;go_wp2;exact Ak (v:=P' #[Z' Z,Y Z 0 0,G A 2,p]) (by simp[zz,results9,go_sem]) Q ⟨Q,hb⟩
 |inr l=>
  simp only;have a6:=h7 l hV;have k4:=MH s s 0 [] l (by omega) hV;simp only[Aw]at k4;have HV:=J hV;clear hV h7;have⟨P,hP⟩:=Dv<|PJ s l;have f1:ER (JH s l) (2*(L l+1)) (L l+1) ⟨0,Z,0,0⟩ [] []=P:=hP;have⟨r,y,fs⟩:=P;have⟨n,hn⟩:=Dv<|L l+1;have⟨AL,f0⟩:=Dv<|Ep r d a2 0 (r,⟨0,0⟩);have hA:dM s l d a2=AL:=by unfold dM;rw[hP];exact f0
  have hC:kF s l d a2=Sj r s AL.2:=by unfold kF;rw[hA,hP]
  rw[hP]at a6;rw[hP,hA,hC];rw[hn]at f1;simp only at a6|-;have h3:=J f1;have g5:D<|Ep r d (a2.drop 0) 0 (r,⟨0,0⟩)=AL:=f0;clear hP f1 hA hC f0;cases c4:y.wY with
  |some b=>
   have l4:zu ((0:zw)<=(b:zw))=zt:=by simp
   have e7:=J c4;clear a6 c4;simp only;go_in;go_wp2_with fail;apply(J3 s hs _).mono;rw[HV.o];rintro e o ⟨v,rfl,N,hb⟩;rw[hn]at N;obtain⟨va,C,F,rfl⟩:=CA N;have b9:=CU N;subst b9;obtain⟨g,rfl⟩:=CH N (by omega);have d2:=(N.lt g Q).1;have HT:Dt g C F (JH s l) o:=⟨CN N<|Ar _,by simp[JH];omega,by omega⟩;have hz:(CI (JH s l)<|C-1).h=0:=by unfold CI JH;rw[show C-1=L l by omega,Bc<|Ad _];simp
   have b6:=hb;have a0:=hb.size;clear N hb;go_wp2_with fail;apply(NA g C F (JH s l) o HT (by omega) hz).mono;rw[h3.o];rintro e w2 ⟨fv,I,U,rfl,hp,a3,a8,ho⟩;simp only at hp a3 a8|-;have g6:zx w w w2:=b6.trans<|ho.xL a0 λ_ q=>q.elim;simp only[e7.o,Ob];go_wp2;exact Ak (v:=P' #[Z' Z,Y Z 0 0,G A 3,b]) (by simp[zz,results9,go_sem]) Q ⟨Q,g6⟩
  |none=>
   have hy:=a6 c4;have k3:=hy.len;have f5:=hy.xE;have e7:=J c4;clear a6 c4;simp only;have⟨E,H⟩:=Dv<|Sj r s AL.2;rw[H];have d1:=J H;clear H;go_in;go_wp2_with fail;apply(J3 s hs _).mono;rw[HV.o];rintro e o ⟨v,rfl,N,hb⟩;rw[hn]at N;obtain⟨va,C,F,rfl⟩:=CA N;have b9:=CU N;subst b9;obtain⟨g,rfl⟩:=CH N (by omega);have d2:=(N.lt g Q).1;have HT:Dt g C F (JH s l) o:=⟨CN N<|Ar _,by simp[JH];omega,by omega⟩;have hz:(CI (JH s l)<|C-1).h=0:=by unfold CI JH;rw[show C-1=L l by omega,Bc<|Ad _];simp
   have b6:=hb;have a0:=hb.size;clear N hb;go_wp2_with fail;apply(NA g C F (JH s l) o HT (by omega) hz).mono;rw[h3.o];rintro e w2 ⟨fv,I,U,rfl,hp,a3,a8,ho⟩;simp only at hp a3 a8|-;have g6:zx w w w2:=b6.trans<|ho.xL a0 λ_ q=>q.elim;simp only[e7.o,Ob];have R0:nG o w2 o y.pl y.g g C F U (JH s l) fv I r fs ⟨0,0⟩ o<|w2.alloc<|R' #[G A 0,G A 0] 102:=by have h1:=(CT Cb w2).alloc<|R' #[G A 0,G A 0] 102;exact⟨⟨hp.p.j h1 id,a8.t8 h1,a3.t8 h1,W.new _ _ _⟩,(HT.j ho id).j h1 id,ho.xV h1⟩
   have c3:(o:M)<=w2:=ho.size;obtain⟨fa,fl,fc,rfl⟩:∃a l c,fv=Y a l c:=by have⟨_,h,_⟩:=a8;exact CA h
   have k2:fl=r:=by have⟨_,h,_⟩:=a8;exact CU h
   subst k2;have S0:Lc r r 0:=⟨Q,λj _ _=>⟨Q,Q,Q,Q,λ_=>Q⟩⟩;clear hp a3 a8 ho HT;go_wp2;generalize (w2:M)=wb at*;go_loopw[12] (λi wr=>∃(k:M) (u:Dd) (c:CS),k<=r/\i=G A k/\nG o wb o y.pl y.g g C F U (JH s l) (Y fa r fc) I u fs c o wr/\Lc r u k/\D (Ep r d (a2.drop k) k (u,c)=AL)) (λi _=>r-(zm i).toNat);exact⟨0,r,_,by omega,Q,R0,S0,g5⟩;clear R0 S0 g5;obtain⟨k,u,c,hk,rfl,x,S,HC⟩:=hrel;have p0:=x.k.r.p.z;have lp:=Cz x.k.r;have lw:=Cz x.k.wr;by_cases f8:k<r
   .have i8:k<a2:=by omega
    have a9:=hy.S k f8 i8;have c7:k<u:=by rw[S.len];exact f8
    have b8:=S.eq k c7 f8;have g1:=YE r d a2 k i8 (u,c);rw[HC.o]at g1;generalize a2[k]=t at*;obtain⟨V,rfl⟩:∃V,fa=T ⟨V,0,Z⟩:=by obtain⟨_,h,_⟩:=x.k.fn;exact CH h<|by rw[S.len];omega
    have l2:V<(wr:M):=by obtain⟨_,h,_⟩:=x.k.fn;exact(h.lt V Q).2
    have⟨tv,bv,vv,hc,a4,c5,c0⟩:=x.k.fn.get c7;have f2:u[k].I=CR t.I:=b8.1.trans a9.I;have f3:u[k].wZ=t.m.map CR:=b8.2.1.trans a9.wZ;have i0:Fv (Gs k d fs) u[k].body t.i:=by rw[b8.2.2.1];exact a9.body
    have f4:u[k].y=[]:=(b8.2.2.2.2<|Ad _).trans a9.y;have i1:L u[k].body<=4001:=by rw[b8.2.2.1];exact a9.cg
    have j9:=J<|qL c7 f4;have l5:=a9.bn;generalize u[k]=f at hc a4 c5 c0 f2 f3 i0 f4 i1;obtain⟨ta,tl,tc,rfl⟩:=CA a4;have d6:=CU a4;subst d6;obtain⟨ba,bl,bc,rfl⟩:=CA c5;have k1:=CU c5;subst k1;obtain⟨xa,xl,xc,rfl⟩:=CA c0;have e0:=hc 0 (by omega);have e1:=hc 1 (by omega);have e2:=hc 2 (by omega);have e3:=hc 3 (by omega);have e4:=hc 4 (by omega);have e5:=hc 5 (by omega);have e6:=hc 6 (by omega);simp only[J5,Ac,Aa,Ab,Au]at e0 e1 e2 e3 e4 e5 e6;have l8:(k:zw)<(L r:zw):=by omega
    have d5:wr≠wb:=by omega
    have d4:L' (Y V r fc)≠wr:=λq=>by simp[L']at q;omega
    have G0:uA o wb o y.pl y.g g C F U (JH s l) (Y V r fc) I u fs wr #[f.I.a,f.I.pos,f.I.h,Y ta f.wZ tc,Y ba f.body bc,f.br,Y xa xl xc] (Y ta f.wZ tc) f.wZ (Y ba f.body bc) f.body c o<|wr.alloc<|R' #[f.I.a,f.I.pos,f.I.h,Y ta f.wZ tc,Y ba f.body bc,f.br,Y xa xl xc] 107:=by have h1:=(CT Cb wr).alloc<|R' #[f.I.a,f.I.pos,f.I.h,Y ta f.wZ tc,Y ba f.body bc,f.br,Y xa xl xc] 107;exact⟨⟨x.k.t8 h1,x.tk.j h1 id,x.j.xV h1⟩,W.new _ _ _,Cx a4 h1 Ed,Cx c5 h1 Ed⟩
    obtain⟨h5,g8,g9⟩:=Dq g1 f2 f3;have f7:∀d0,k<(wv u k d0):=λd0=>by rw[Hc];exact c7
    have k7:∀d0,L (wv u k d0)<=4001:=λd0=>by rw[Hc,S.len];exact f5
    have b7:L u<=4001:=by rw[S.len];exact f5
    clear hc a4 c5 c0 g1 HC x a9 b8 f2 f3 f4;have h2:D<|((f.I.pos:M):zw)=((t.I.t9:M):zw):=by rw[g8.o];rfl
    have⟨c1,a7⟩:=Dv<|(if 12<=k then Em 4 t.I.t9 c else c);have⟨c9,K⟩:=Dv<|(if D9 (r.map λf=>f.I.a) f.I.a 0=(k:zw)then c1 else Em 5 t.I.t9 c1);have H9:D<|J6 r k t c=c9:=by show _=_;unfold J6;rw[show t.I.a=f.I.a by rw[g8.o];rfl,a7,K]
    have g7:=J K;clear K;by_cases h8:12<=k;focus
     rw[Bb h8]at a7;have l1:=LH (p:=(12:zw)<=k) (by omega);have e8:=J a7;clear a7;go_wp2_with fail;have⟨W0,e9⟩:=Dv<|wr.alloc<|R' #[f.I.a,f.I.pos,f.I.h,Y ta f.wZ tc,Y ba f.body bc,f.br,Y xa xl xc] 107;rw[e9]at G0|-;obtain⟨b0,b1,-,b3,b4⟩:=G0.p.k5;have b5:=Cz G0.p;have g4:=Cz G0.r.k.r;rw[h2.o];apply(Fl wb 4 t.I.t9 c _ G0.r.k.wr).mono;rintro e w3 ⟨rfl,j0,f9⟩;have G1:=G0.call (Ad _) c3 d5 d4 (G0.r.k.add j0 f9)<|GX.xM f9;rw[e8.o]at G1;clear j0 f9 b0 b1 b3 b4 b5;obtain⟨b0,b1,-,b3,b4⟩:=G1.p.k5;have b5:=Cz G1.p;have g4:=Cz G1.r.k.r;go_wp2_with fail
    rotate_left;focus
     rw[Ba h8]at a7;have l1:=Hz (p:=(12:zw)<=k) (by omega);have e8:=J a7;clear a7;go_wp2_with fail;have⟨W0,e9⟩:=Dv<|wr.alloc<|R' #[f.I.a,f.I.pos,f.I.h,Y ta f.wZ tc,Y ba f.body bc,f.br,Y xa xl xc] 107;rw[e9]at G0|-;obtain⟨b0,b1,-,b3,b4⟩:=G0.p.k5;have b5:=Cz G0.p;have g4:=Cz G0.r.k.r;have G1:=G0;rw[e8.o]at G1
    all_goals
     apply(Fy o o y.pl y.g _ I u f.I.a _ G1.r.k.r G1.r.k.fn b7).mono;rw[S.wT];rintro e w4 ⟨rfl,hw⟩;have hw:=hw.symm;subst hw;have K:=g7.o;clear g7;by_cases d8:D9 (r.map λf=>f.I.a) f.I.a 0=(k:zw);focus
      rw[Bb d8]at K;have l0:((D9 (r.map λf=>f.I.a) f.I.a 0:zw) !=(k:zw))=zr:=by simp[d8]
      have G9:=G1;rw[K]at G9;clear K
     rotate_left;focus
      rw[Ba d8]at K;have l0:((D9 (r.map λf=>f.I.a) f.I.a 0:zw) !=(k:zw))=zt:=by simp[d8]
      have d1:=J K;clear K;go_wp2_with fail;rw[h2.o];apply(Fl wb 5 t.I.t9 c1 _ G1.r.k.wr).mono;rintro e w5 ⟨rfl,j1,g0⟩;have G9:=G1.call (Ad _) c3 d5 d4 (G1.r.k.add j1 g0)<|GX.xM g0;rw[d1.o]at G9;clear j1 g0 b0 b1 b3 b4 b5;obtain⟨b0,b1,-,b3,b4⟩:=G9.p.k5;have b5:=Cz G9.p;have g4:=Cz G9.r.k.r
    all_goals
     clear b0 b1 b3 b4 b5;have⟨vp,cp,d7⟩:=JG<|FE t.m ([],c9);have b9:=Rv t.m ([],c9);rw[d7]at b9;simp only[Aw,AM]at b9;have m0:L f.wZ=t.m:=by rw[g9.o];simp
     have h0:D<|FE (t.m.drop 0) ([],c9)=(vp,cp):=d7;have d9:=G9;rw[<-j9.o]at d9;have j5:D<|Ep r d (a2.drop<|k+1) (k+1) (wv u k (L4 r d 1 t.i (vp,cp)).1,(L4 r d 1 t.i (vp,cp)).2)=AL:=by have:=h5.o;unfold IA at this;simp only[H9.o,d7]at this;exact this.symm
     clear d7 h5;go_wp2;go_loopw[14] (λj l3=>∃(m:M) (X:Cc) (c2:CS),m<=f.wZ/\j=G A m/\uA o wb o y.pl y.g g C F U (JH s l) (Y V r fc) I (wv u k X) fs wr #[f.I.a,f.I.pos,f.I.h,Y ta f.wZ tc,Y ba f.body bc,f.br,Y xa xl xc] (Y ta f.wZ tc) f.wZ (Y ba f.body bc) f.body c2 o l3/\X=m/\D (FE (t.m.drop m) (X,c2)=(vp,cp))) (λj _=>f.wZ-(zm j).toNat);exact⟨0,[],c9,by omega,Q,d9,Q,h0⟩;clear G9 d9 h0;obtain⟨m,X,c2,hm,rfl,R,k9,HQ⟩:=hrel;obtain⟨-,-,-,b3,b4⟩:=R.p.k5;have b5:=Cz R.p;have m2:=Cz R.r.k.r;have m3:=Cz R.r.k.wr;by_cases k6:m<f.wZ
     .obtain⟨gt,rfl⟩:=CH R.zW (by omega);have⟨t0,t1,t2⟩:=GR R.zW k6;have m1:=(R.zW.lt gt Q).2;have i9:m<t.m:=by omega
      have a3:=YL t.m m i9 (X,c2);rw[HQ.o]at a3;have g2:CI f.wZ m=CR t.m[m]:=by rw[g9.o];exact UK _ _ i9
      generalize CI f.wZ m=q at t0 t1 t2 g2;have j8:D<|FE (t.m.drop<|m+1) (X++[q.a],Gw X q c2)=(vp,cp):=by rw[g2];exact a3.symm
      have k5:(m:zw)<(L f.wZ:zw):=by omega
      have c0:((wv u k X)[k]'(f7 X)).y=X:=aM<|f7 X;have h6:=J c0;clear a3 g2 HQ c0;go_wp2_with fail;refine(Nz o wb o y.pl y.g k U _ I (wv u k X) fs c2 q _ R.r.k (f7 _) (k7 _)<|by rw[h6.o];omega).mono ?_;rw[aL,h6.o];rintro e w6 ⟨rfl,i6,i2⟩;have j6:=R.call (Ad _) c3 d5 d4 i6 i2;clear i6 i2 R;go_wp2_with fail;exact⟨⟨m+1,_,_,by omega,by go_num,j6,by simp[k9],j8⟩,by simp[intOf];omega⟩
     .have e:m=t.m:=by omega
      have hq:X=vp/\c2=cp:=by have:=HQ.o;rw[e,Bj]at this;simpa[FE]using this
      obtain⟨rfl,rfl⟩:=hq;have k5:=Hz (p:=(m:zw)<f.wZ) (by omega);clear HQ;go_wp2_with fail;refine(jD d o wb o y.pl y.g k 1 U _ I _ u fs f.body t.i X c2 _ R.r.k R.yQ i0 c7 b7 hy.bp (by omega) i1 hy.dm<|by have:=hy.dd;omega).mono ?_;rw[S.cz];rintro e w7 ⟨rfl,i7,i3⟩;have j7:=R.call (Ad _) c3 d5 d4 i7 i3;clear i7 i3 R;go_wp2_with fail;exact⟨⟨k+1,_,_,by omega,by go_num,j7.r,S.q _,j5⟩,by simp[intOf];omega⟩
   .have e:k=r:=by omega
    have k0:AL=(u,c):=by have:=HC.o;rw[e,k3,Bj]at this;exact this.symm
    subst k0;have l9:=Hz (p:=(k:zw)<r) (by omega);have b7:L u<=4001:=by rw[S.len];exact f5
    have H:=d1.o;unfold Sj at H;have d3:=Et (r.map λf=>f.I.a) ⟨#[109,97,105,110]⟩ 0;clear HC d1;simp only at H;by_cases g3:0<=D9 (r.map λf=>f.I.a) ⟨#[109,97,105,110]⟩ 0
    .obtain⟨i,hi⟩:∃i:M,D9 (r.map λf=>f.I.a) ⟨#[109,97,105,110]⟩ 0=i:=⟨(D9 (r.map λf=>f.I.a) ⟨#[109,97,105,110]⟩ 0).toNat,by omega⟩;have f6:i<r:=by have:=d3.2.2;simp only[AG]at this;omega
     have i5:i<u:=by rw[S.len];exact f6
     have j2:=S.eq i i5 f6;obtain⟨V,rfl⟩:∃V,fa=T ⟨V,0,Z⟩:=by obtain⟨_,h,_⟩:=x.k.fn;exact CH h<|by omega
     have l2:V<(wr:M):=by have⟨_,h,_⟩:=x.k.fn;exact(h.lt V Q).2
     have⟨tv,bv,vv,h9,a4,_,_⟩:=x.k.fn.get i5;have e3:=h9 3 (by omega);simp only[J5,Ac,Aa,Ab]at e3;obtain⟨ta,tl,tc,rfl⟩:=CA a4;have d6:=CU a4;have i4:(((r.map λf=>f.wZ)[i]?).getD 0:M)=tl:=by rw[AI,Ag f6,d6,j2.2.1];rfl
     rw[hi]at H;simp only[Int.toNat_natCast,i4]at H;have l7:(i:zw)<(L r:zw):=by omega
     have l6:zu ((i:zw)<0)=zr:=by simp
     clear h9 a4 j2 i4 g3 d3 d6;by_cases j3:tl=0
     .rw[Bb ⟨by omega,j3⟩]at H;have k8:=Hz (p:=(0:zw)<tl) (by omega);go_wp2_with fail;apply(Fy o o y.pl y.g _ I u ⟨#[109,97,105,110]⟩ _ x.k.r x.k.fn b7).mono;rw[S.wT,hi];rintro e w9 ⟨rfl,hw⟩;subst hw;have z:nG o wb o y.pl y.g g C F U (JH s l) (Y V r fc) I u fs E o w9:=by rw[<-H];exact x
      clear H;have r0:=W.z z.k.wr;have j4:=Cz z.k.wr;have a5:∀W',O Cb w9 W'->zx w w W':=λW' hW=>b6.trans<|(z.j.xV hW).xL a0 λ_ q=>q.elim
      by_cases B:E.E=0
      .have c6:((E.E:zw) !=0)=zr:=by simp[B]
       have a1:=J B;clear B;go_wp2_with fail;apply Ak (v:=P' #[Z' o,Y g C F,G A 0,G A 0]) (by simp[zz,results9,go_sem]) Q;unfold Ms;rw[Bb a1.o,hn];exact⟨o,o,g,F,U,_,I,Q,z.tk,d2,z.k.r,a0,z.k.fn,a0,z.k.st,a5 _ oq⟩
      .have c6:((E.E:zw) !=0)=zt:=by simp[B]
       have a1:=J B;clear B;go_wp2_with fail;go_region;go_wp2;apply Ak (v:=P' #[Z' Z,Y Z 0 0,E.E,E.t9]) (by simp[zz,results9,go_sem]) Q;unfold Ms;rw[Ba a1.o];exact⟨Q,a5 _<|by repeat(first|exact oq|refine O.drew ?_|refine O.drewN ?_ _|refine O.alloc ?_ _)⟩
     .rw[Ba λq=>j3 q.2]at H;have K:=H.symm;have k8:=LH (p:=(0:zw)<tl) (by omega);clear H;go_wp2_with fail;apply(Fy o o y.pl y.g _ I u ⟨#[109,97,105,110]⟩ _ x.k.r x.k.fn b7).mono;rw[S.wT,hi];rintro e w8 ⟨rfl,hw⟩;have hw:=hw.symm;subst hw;go_wp2_with fail;apply(Fl wb 6 s c _ x.k.wr).mono;rintro e w9 ⟨rfl,c8,b2⟩;have z:nG o wb o y.pl y.g g C F U (JH s l) (Y V r fc) I u fs E o w9:=by rw[K];exact x.call (Ad _) c3 (x.k.add c8 b2)<|GX.xM b2
      clear c8 b2 p0 lp lw x K;have r0:=W.z z.k.wr;have j4:=Cz z.k.wr;have a5:∀W',O Cb w9 W'->zx w w W':=λW' hW=>b6.trans<|(z.j.xV hW).xL a0 λ_ q=>q.elim
      by_cases B:E.E=0
      .have c6:((E.E:zw) !=0)=zr:=by simp[B]
       have a1:=J B;clear B;go_wp2_with fail;apply Ak (v:=P' #[Z' o,Y g C F,G A 0,G A 0]) (by simp[zz,results9,go_sem]) Q;unfold Ms;rw[Bb a1.o,hn];exact⟨o,o,g,F,U,_,I,Q,z.tk,d2,z.k.r,a0,z.k.fn,a0,z.k.st,a5 _ oq⟩
      .have c6:((E.E:zw) !=0)=zt:=by simp[B]
       have a1:=J B;clear B;go_wp2_with fail;go_region;go_wp2;apply Ak (v:=P' #[Z' Z,Y Z 0 0,E.E,E.t9]) (by simp[zz,results9,go_sem]) Q;unfold Ms;rw[Ba a1.o];exact⟨Q,a5 _<|by repeat(first|exact oq|refine O.drew ?_|refine O.drewN ?_ _|refine O.alloc ?_ _)⟩
    .have hi:D9 (r.map λf=>f.I.a) ⟨#[109,97,105,110]⟩ 0= -1:=by have:=d3.2.1;omega
     rw[Ba λq=>g3 q.1]at H;have K:=H.symm;clear H g3 d3;go_wp2_with fail;apply(Fy o o y.pl y.g _ I u ⟨#[109,97,105,110]⟩ _ x.k.r x.k.fn b7).mono;rw[S.wT,hi];rintro e w8 ⟨rfl,hw⟩;have hw:=hw.symm;subst hw;go_wp2_with fail;apply(Fl wb 6 s c _ x.k.wr).mono;rintro e w9 ⟨rfl,c8,b2⟩;have z:nG o wb o y.pl y.g g C F U (JH s l) (Y fa r fc) I u fs E o w9:=by rw[K];exact x.call (Ad _) c3 (x.k.add c8 b2)<|GX.xM b2
     clear c8 b2 p0 lp lw x K;have r0:=W.z z.k.wr;have j4:=Cz z.k.wr;have a5:∀W',O Cb w9 W'->zx w w W':=λW' hW=>b6.trans<|(z.j.xV hW).xL a0 λ_ q=>q.elim
     by_cases B:E.E=0
     .have c6:((E.E:zw) !=0)=zr:=by simp[B]
      have a1:=J B;clear B;go_wp2_with fail;apply Ak (v:=P' #[Z' o,Y g C F,G A 0,G A 0]) (by simp[zz,results9,go_sem]) Q;unfold Ms;rw[Bb a1.o,hn];exact⟨o,o,g,F,U,_,I,Q,z.tk,d2,z.k.r,a0,z.k.fn,a0,z.k.st,a5 _ oq⟩
     .have c6:((E.E:zw) !=0)=zt:=by simp[B]
      have a1:=J B;clear B;go_wp2_with fail;go_region;go_wp2;apply Ak (v:=P' #[Z' Z,Y Z 0 0,E.E,E.t9]) (by simp[zz,results9,go_sem]) Q;unfold Ms;rw[Ba a1.o];exact⟨Q,a5 _<|by repeat(first|exact oq|refine O.drew ?_|refine O.drewN ?_ _|refine O.alloc ?_ _)⟩
theorem dN(s y):JH s ((Gh s s y).tZ.map CR)=(C2 s y).map CR:=by unfold JH C2;rw[Bn,List.map_singleton,Na];rfl
structure tU(s:Cd)(y:Sc):Prop where
 ok:Ig s<|C2 s y
 dk:He<|C2 s y
 len:(C2 s y).length<=4001
 lex:Ex s s 0 []=.inr ((Gh s s y).tZ.map CR)
 c:((Gh s s y).tZ.map CR).length+1=(C2 s y).length
theorem iW(d:u0.size<=4000)(h:Dg u0 u0 0 x0=.inr v4):tU u0 v4:=by
 have a:Ex u0 u0 0 []=.inr ((Gh u0 u0 v4).tZ.map CR):=by rw[Pg];have b:Dg u0 u0 0 ⟨[],zr,0,0⟩=.inr v4:=h;rw[b];rfl
 have c:L ((Gh u0 u0 v4).tZ.map CR)+1=L (C2 u0 v4):=by simp[C2]
 have:=MH u0 u0 0 [] _ (Ar _) a;simp only[Aw]at this;exact⟨YV h,JR h,by omega,a,c⟩
theorem cH(s)(c:4000<s.size)(b:s.size<=E')(w):F' zy 29 #[Y' s] w λe d=>e=P' #[Y Z 0 0,fE,G A 1,G A 0]/\zx w w d:=by go_in;go_wp2_with fail;apply FC<|Xi s c b _;have a:=W.new w #[Y Z 0 0,G A 0] 81;have f:=a.z;have g:=a.wV;clear a;go_wp2;refine Ak (v:=P' #[Y Z 0 0,fE,G A 1,G A 0]) (by simp[zz,results29,go_sem]) Q ⟨Q,?_⟩;exact(Below.refl w w).alloc (Ad _) _
theorem pK(s)(d:4000<s.size)(a:s.size<=E')(w):
 F' zy 9 #[Y' s] w λe b=>e=T' (P' #[Z' Z,Y Z 0 0,G A 1,G A 0])/\b=w:=by
 unfold E' at a;have c:=LH (p:=(4000:zw)<s) (by omega);go_in;go_wp2;exact Ak (v:=P' #[Z' Z,Y Z 0 0,G A 1,G A 0]) (by simp[zz,results9,go_sem]) Q ⟨Q,Q⟩
def mR(mx:M)(u:FS):Prop:=u.p.a<=mx/\u.q.a<=mx/\∀t,t∈u.k->t.a<=mx
def U0(mx:M)(a:C8):Prop:=∀u,u∈a->mR mx u
section
variable{tZ:DH}{mx:M}(g:∀i,(CI tZ i).a<=mx)
theorem vH(mx a b):mR mx<|Gd a b:=⟨Ar _,Ar _,λ_ q=>(AE q).elim⟩
include g
theorem iO(k x):(Ev tZ k x).1.a<=mx:=by unfold Ev Gj;split;exact g _;exact Ar _
theorem jE:∀(f c:M) (b:Option M) (a:DH),(∀t,t∈a->t.a<=mx)->∀t,t∈(GL tZ f c b a).1->t.a<=mx
 |0,c,b,a,h=>by grind[GL]
 |f+1,c,b,a,h=>by
  unfold GL;split
  .exact jE f (c+1) b _ λt d=>(AJ.1 d).elim (h t) λq=>by grind
  .exact h
theorem oV(x):∀t,t∈(EM tZ x).1->t.a<=mx:=by unfold EM FM;exact jE g _ _ _ _ λ_ q=>(AE q).elim
theorem tD(x s)(h:mR mx s):mR mx (Gc tZ x s).1:=by
 have b:=λk y=>iO g k y
 have d:=λy=>oV g y
 have⟨a,e,c⟩:=h;unfold Gc;split;exact⟨a,e,c⟩;split;simp only;split;exact⟨a,b _ _,c⟩;exact⟨a,b _ _,c⟩;split;exact⟨a,b _ _,c⟩;split;exact⟨a,b _ _,c⟩;split;exact⟨a,b _ _,d _⟩;simp only;split;exact⟨a,b _ _,d _⟩;exact⟨a,b _ _,c⟩
theorem jY(b x):mR mx (DW tZ b x).1:=by
 have a:=λk y=>iO g k y
 have N:∀t:Tk,t∈([]:DH)->t.a<=mx:=λ_ q=>(AE q).elim
 unfold DW;split;exact⟨a _ _,Ar _,N⟩;split;exact⟨Ar _,a _ _,N⟩;split;exact⟨a _ _,a _ _,N⟩;exact tD g _ _ ⟨a _ _,Ar _,N⟩
omit g in
theorem U0.set{a:C8}(h:U0 mx a)(i){u:FS}(c:mR mx u):U0 mx<|a.set i u:=λv b=>(List.mem_or_eq_of_mem_set b).elim (h v) λq=>by grind
omit g in
theorem U0.snoc{a:C8}(h:U0 mx a):U0 mx<|a++[Gd 0 0]:=λv b=>(AJ.1 b).elim (h v) λq=>by grind[vH]
theorem rU:∀f:M,(∀(d:M) (x:St) (e:C8) (n:Cf),U0 mx e->U0 mx (C6 tZ f d x e n).2.2)/\(∀(d:M) (x:St) (e:C8),U0 mx e->U0 mx (Dn tZ f d x e).2.2):=by
 intro f;induction f with
 |zero=>grind[C6,Dn]
 |succ f j=>
  have i:∀(d k:M) (b c:zw) (l m:Cf),mR mx {Gd d (-1)with e:=k,br:=b,body:=l,xY:=c,other:=m}:=λ_ _ _ _ _ _=>⟨Ar _,Ar _,λ_ q=>(AE q).elim⟩
  refine⟨λd x e n h=>?_,λd x e h=>?_⟩;grind[C6];rw[Dn];split;simp only;have a:=j.1 d (CW tZ [123]<|CW tZ [63]<|CW tZ (Dk<|CI tZ x.b) x) (e++[Gd 0 0]) [] h.snoc;split;split;exact(j.1 d _ _ [] a).set _ (i _ _ _ _ _ _);exact a.set _<|i _ _ _ _ _ _;exact a.set _<|i _ _ _ _ _ _;exact h.snoc.set _<|jY g _ _
theorem iJ(F):∀(m:M) (x:St) (a:C8) (b:Dd),U0 mx a->U0 mx (ER tZ F m x a b).2.2
 |0,x,a,b,h=>h
 |m+1,x,a,b,h=>by
  rw[ER];split
  .exact iJ F m _ _ _<|(rU g F).1 _ _ _ _ h
  .exact h
end
theorem XL{P:Program}(q:M)(t p e:TypeId)(i:TypeInfo)(z:H')(C:P.underlying t=T (.slice e))(s:P.info? e=i)(hz:i.zero=z)
 (v:H')(n:M)(l:Ci)(f:J' y0 q e i.size v n l)
 (a:A')(m c:M)(b:Ci)(o:L b=m*i.size)(x:∀j u,b[j]? =T u->y0 (a.add j)=T u)(E:∀u∈b,u.oneCell'=zt)
 (F:n+m<=E')(I:(n+m)*i.bytes<=140737488355328)(B:(Builtin.append_ #[t,t] p #[v,Y (T a) m c]).run P y0=.ok V v1):
 J' v1 q e i.size v n l:=by
 have a2:n+m<=9223372036854775807:=by simp only[E']at F;omega
 have a0:=f;rcases f.2 with⟨rfl,rfl⟩|⟨g,k,h,rfl,H,r,U,K,N,a1⟩
 exact⟨f.1,zo ⟨Q,Q⟩⟩;by_cases y:n+m<=k;have R:n*i.size+b<=h:=by rw[o,N,<-Nat.add_mul];exact Nat.mul_le_mul_right _ y
 have d:=run_append_room (P:=P) y0 t p e i C s g n k h r a m c b o x E y R;rw[B]at d;simp only[Result.ok.injEq]at d;rw[d.2];have S:L (h.toList.take<|n*i.size)=n*i.size:=by grind
 refine⟨f.1,zn ⟨g,k,(h.toList.take (n*i.size)++b++h.toList.drop (n*i.size+b)).toArray,Q,H,?_,U,K,?_,?_⟩⟩;simp only[World.setRow,Array.getElem?_modify,r,BD,BA];simp only[BW,Ah,S,List.length_drop,BS];omega;rw[Bh,List.take_append_of_le_length<|by omega,BJ<|by omega];exact a1;have X:∀j u,l[j]? =T u->y0 ((g:A').add j)=T u:=f.cells (g:=g) Q;have d:=run_append_grow (P:=P) y0 t p e i z C s hz g n k l f.1 X a m c b o x (by omega) (by omega)<|growslice_fits (by omega) I;rw[B]at d;simp only[Result.ok.injEq]at d;rw[d.2];exact Cx a0 (((CT Cb y0).drew).alloc _) Ed
theorem JD{b:Exit->Act->I'->Prop}{C:I'->Prop}(i d){v:H'}{f:Array Bool}{g:List Deferred}(m:z5[i]? =p3)(F:∀P,p8 P->C P)(k:p8 P)
 (h:wpAnyH q4 .any z5 b p8 B (f.setIfInBounds i zt) ⟨q1.setIfInBounds d v,g⟩ P)(n:∀P,C P->(execOp (Act.mk q1 g).eval p3).run q4 P=.ok (.value v) P)(l:p3.dst=d)(o:Region.wanted p3 (yielded z5 q1)=zt)(e:(Region.noSelect z5 && Region.free .any z5 f i && (Region.ready .any z5 f).contains i)=zt)
 (j:∀c a P,b (.panic c) (a.put p3.dst v) P->b (.panic c) a P):wpAnyH q4 .any z5 b p8 (B+1) f ⟨q1,g⟩ P:=by
 simp only[Bool.and_eq_true]at e;exact wpAnyH_take m e.1.1 e.1.2 e.2 j (zo ⟨o,λP z=>n P<|F P z⟩) k<|by rw[l];exact h
theorem kJ(R:Act->I'->Prop)(o i j d x u t C s r q m)(I:H'->I'->Prop)(N:I'->Prop){f5 f6 f7 f8 f9 g0 g1 g3 g4 g6 g7 g8 g9 h0 h1 h2 h3 h4 h5 h6 h7 h8 h9 i0 i1 i2 i3 i4 i5 i6 i7 i8 i9 j0 j1 j2 j3 j4 j5 j6 a1 a2 a3 a4 a5 a6 a7 a8 a9 b0 b1 b2 b3 b4 b5 b6 b7 b8 b9 c0 c1 c2 c3 c4 c5 c6 c7 c8 c9 d0 k0 k1 k2 k3 k4 k5 k6 k7 k8 k9 l0 l1 l2 l3 d1 d2 d3 d4 d5 d6 d7 d8 d9 e0 e1 e3 e4 e6 e7 e8 e9 f0 f1 f2 f3 f4:H'}
 (P:K' m ⟨d,4,Z⟩=T (G A t))(U:K' m ⟨d,5,Z⟩=T (Y s r q))(fb:K' m ⟨i,j+1,Z⟩=T (G A C))(ls:d<m.heap.size)
 (hA:∀p,O Cb m p->F' zy 117 #[Z'<|T ⟨o,0,Z⟩,G A C,Y s r q] p λe k=>∃v,e=T' v/\(∃a l c,v=Y a l c)/\I v k/\O Cb p k)
 (hE:∀v p,I v p->O Cb m p->F' zy 118 #[Z'<|T ⟨o,0,Z⟩,G A u,G A t,v,G A x] p λe k=>e=T' (P' #[])/\N k/\K' k ⟨d,4,Z⟩=T (G A t)/\K' k ⟨d,5,Z⟩=T (Y s r q))
 (hQ:∀(E:Ch) (H F:M) (y:I'),N y->R {tmps:=#[Z'<|T ⟨o,0,Z⟩,V,Z'<|T ⟨i,j,Z⟩,Z'<|T ⟨d,0,Z⟩,G A x,G A u,z0,s0,u1,x2,v2,z3,y3,x3,v3,t3,o3,z4,y4,r4,o4,y5,x5,v5,u5,r5,o5,n5,z6,u6,t6,y8,r6,q6,p6,o6,y6,x8,x7,v7,u7,t7,s7,r7,q7,p7,n6,z7,x6,v6,q5,p5,o7,v8,r8,u9,s9,r9,o9,n9,f5,f6,f7,f8,f9,g0,g1,g3,g4,g6,g7,g8,g9,h0,h1,h2,h3,h4,h5,h6,h7,h8,h9,i0,i1,i2,i3,i4,i5,i6,i7,i8,i9,j0,j1,j2,j3,j4,j5,j6,a1,a2,a3,a4,a5,a6,a7,a8,a9,b0,b1,b2,b3,b4,b5,b6,b7,b8,b9,c0,c1,c2,c3,c4,c5,c6,c7,c8,c9,d0,Z'<|T ⟨o,0,Z⟩,G A u,Z'<|T ⟨d,4,Z⟩,G A t,Z'<|T ⟨o,0,Z⟩,Z'<|T ⟨i,j,Z⟩,Z'<|T ⟨i,j,Z⟩,Z'<|T ⟨i,j+1,Z⟩,G A C,Z'<|T ⟨d,5,Z⟩,Y s r q,Y E H F,G A x,P' #[],d1,d2,d3,d4,d5,d6,d7,d8,d9,e0,e1,e3,e4,e6,e7,e8,e9,f0,f1,f2,f3,f4],defers:=[]} y):
 Code.wp zy (rg Tryz.f76 22) (K6 R) {tmps:=#[Z'<|T ⟨o,0,Z⟩,V,Z'<|T ⟨i,j,Z⟩,Z'<|T ⟨d,0,Z⟩,G A x,G A u,z0,s0,u1,x2,v2,z3,y3,x3,v3,t3,o3,z4,y4,r4,o4,y5,x5,v5,u5,r5,o5,n5,z6,u6,t6,y8,r6,q6,p6,o6,y6,x8,x7,v7,u7,t7,s7,r7,q7,p7,n6,z7,x6,v6,q5,p5,o7,v8,r8,u9,s9,r9,o9,n9,f5,f6,f7,f8,f9,g0,g1,g3,g4,g6,g7,g8,g9,h0,h1,h2,h3,h4,h5,h6,h7,h8,h9,i0,i1,i2,i3,i4,i5,i6,i7,i8,i9,j0,j1,j2,j3,j4,j5,j6,a1,a2,a3,a4,a5,a6,a7,a8,a9,b0,b1,b2,b3,b4,b5,b6,b7,b8,b9,c0,c1,c2,c3,c4,c5,c6,c7,c8,c9,d0,k0,k1,k2,k3,k4,k5,k6,k7,k8,k9,l0,l1,l2,l3,d1,d2,d3,d4,d5,d6,d7,d8,d9,e0,e1,e3,e4,e6,e7,e8,e9,f0,f1,f2,f3,f4],defers:=[]} m:=by
 change Code.wp _ (.region _ _ _) _ _ _;obtain⟨HA,HE,HQ⟩:=Dq hA hE hQ;clear hA hE hQ;refine wp_region_held_drew (S:=λk=>K' k ⟨d,4,Z⟩=T (G A t)/\K' k ⟨d,5,Z⟩=T (Y s r q)) (by kernel_rfl) ⟨P,U⟩ λf=>?_;refine IF 0 (Z'<|T ⟨o,0,Z⟩) Q (by kernel_rfl) Q (λw b=>by obtain⟨g,h⟩:=b;go_simp) f ?_;simp only[Act.put];refine IF 1 (G A u) Q (by kernel_rfl) Q (λw b=>by obtain⟨g,h⟩:=b;go_simp) f ?_;simp only[Act.put];refine IF 2 (Z'<|T ⟨d,4,Z⟩) Q (by kernel_rfl) Q (λw b=>by obtain⟨g,h⟩:=b;go_simp) f ?_;simp only[Act.put];refine IF 3 (G A t) Q (by kernel_rfl) Q (λw b=>by obtain⟨g,h⟩:=b;go_simp) f ?_;simp only[Act.put];refine IF 4 (Z'<|T ⟨o,0,Z⟩) Q (by kernel_rfl) Q (λw b=>by obtain⟨g,h⟩:=b;go_simp) f ?_;simp only[Act.put];refine IF 5 (Z'<|T ⟨i,j,Z⟩) Q (by kernel_rfl) Q (λw b=>by obtain⟨g,h⟩:=b;go_simp) f ?_;simp only[Act.put];refine IF 6 (Z'<|T ⟨i,j,Z⟩) Q (by kernel_rfl) Q (λw b=>by obtain⟨g,h⟩:=b;go_simp) f ?_;simp only[Act.put];refine IF 7 (Z'<|T ⟨i,j+1,Z⟩) Q (by kernel_rfl) Q (λw b=>by obtain⟨g,h⟩:=b;go_simp) f ?_;simp only[Act.put];refine IF 9 (Z'<|T ⟨d,5,Z⟩) Q (by kernel_rfl) Q (λw b=>by obtain⟨g,h⟩:=b;go_simp) f ?_;simp only[Act.put];refine IF 10 (Y s r q) Q (by kernel_rfl) Q (λw b=>by obtain⟨g,h⟩:=b;go_simp) f ?_;simp only[Act.put];refine IF 12 (G A x) Q (by kernel_rfl) Q (λw b=>by obtain⟨g,h⟩:=b;go_simp) f ?_;simp only[Act.put];apply Ca (rs:=[8]) (by kernel_rfl) (by simp);refine BY Q (λK n=>?_) BZ;go_simp;refine n.out _ _ f λf=>?_;clear n K;apply Ca (rs:=[11]) (by kernel_rfl) (by simp);refine BY Q (λK n=>?_) BZ;go_simp;apply(HA.o _ oq).mono;rintro e w2 ⟨l4,rfl,⟨E,H,F,rfl⟩,a0,u2⟩;have U1:=J a0;have B:=J<|O.trans (X:=Cb) (a:=m) oq u2;have g2:K' w2 ⟨d,4,Z⟩=T (G A t):=(Ae<|B.o.block d ls id).trans P;have g5:K' w2 ⟨d,5,Z⟩=T (Y s r q):=(Ae<|B.o.block d ls id).trans U;clear a0 u2;dsimp only;refine n.out _ _ ⟨g2,g5⟩ λf=>?_;clear n K;apply Ca (rs:=[13]) (by kernel_rfl) (by simp);refine BY Q (λK n=>?_) BZ;go_simp;apply(HE.o _ _ U1.o B.o).mono;rintro e y ⟨rfl,z,j8,j9⟩;have j7:=J z;clear z;try dsimp only
 refine n.out _ _ ⟨j8,j9⟩ λ_=>?_;clear n K;refine wpAnyH_done (by kernel_rfl) ?_ _;exact HQ.o E H F y j7.o
abbrev rP(d f c B:M)(j:H')(k l i:M)(V:Mc)(h:I')(F:M)(a:Cg):Prop:=
 ∀b,O Cb h b->F' zy F a b λe g=>e=P' #[]/\FH d f c B j k l i V g/\E8 d f c B b g
theorem cS(g p o B fv u y t P n m f r w)(h:FH g p o B fv u y t m w)(hp:Ds B w fv P)(hP:Jd P)(hi:EA P (n+1) m)(hf:m.v=f::r)(d7:f.q<(CO P f.fn).f):
 F' zy 76 #[Z' g] w λe z=>e=P' #[]/\FH g p o B fv u y t (Kn P m) z/\E8 g p o B w z:=by
 obtain⟨U,cr,r6,h8,k0,lm,f0,f1,f2,f3,f7,i2⟩:=h.frame hf;have d6:=hi.S f (by rw[hf];simp);have c6:=d6.fn;obtain⟨H,N,g9,r0,j9,_,_⟩:=KF h hp c6;subst g9;obtain⟨vv,sv,d5,a4,b5⟩:=hp.get c6;rw[<-JP c6]at d5 a4 b5;obtain⟨sa,sc,rfl,g3⟩:=b5.form;obtain⟨gs,rfl,k1⟩:=g3 (by omega);have d3:=d5 3 (by decide);simp only[Rk,Aa,Ab]at d3;obtain⟨S,a0,d1⟩:=b5.get d7;have I:=hP.ok f.fn c6 _<|Am d7;have g4:PK (CO P f.fn).f f.q=(CO P f.fn).f[f.q]:=by unfold PK;rw[Ag d7];rfl
 have s0:=a0 0 (by decide);have s1:=a0 1 (by decide);have s2:=a0 2 (by decide);have s3:=a0 3 (by decide);have s4:=a0 4 (by decide);have s5:=a0 5 (by decide);have s6:=a0 6 (by decide);have s7:=a0 7 (by decide);simp only[NS,Aa,Ab,Au]at s0 s1 s2 s3 s4 s5 s6 s7;have h2:=f7<|L r*4+2;have h7:=d6.wX;have i6:=hi.R;have i9:=hi.pl;have f9:=hi.u;rw[hf]at f9;simp only[Af]at f9;have j6:=hP.many f.fn;have h9:=hP.xE;have j7:=hP.y f.fn;obtain⟨ax,ac,rfl⟩:=CB d1;have i3:gs≠U:=by obtain⟨_,q,_⟩:=b5;obtain⟨mv,rv,ch,hR⟩:=h;have q6:=hR.p.j6;rw[q6]at r6;have e:=Bo r6;intro q7;exact Jy q hR.U (by decide) gs Q<|by rw[e,q7];rfl
 have i1:H≠U:=by obtain⟨_,q,_⟩:=hp;obtain⟨mv,rv,ch,hR⟩:=h;have q6:=hR.p.j6;rw[q6]at r6;have e:=Bo r6;intro q7;exact Jy q hR.U (by decide) H Q<|by rw[e,q7];rfl
 generalize (CO P f.fn).f[f.q]=s at*;have b1:∃mv ch,Fs g p o B (Y (T ⟨H,0,Z⟩) (L P) N) u y t {m with v:={f with q:=s.q}::r} mv (Y (T ⟨U,0,Z⟩) (L r+1) cr) ch (w.setCell ⟨U,L r*4+2,Z⟩<|G A s.q)/\E8 g p o B w (w.setCell ⟨U,L r*4+2,Z⟩<|G A s.q):=by obtain⟨mv,rv,ch,hR⟩:=h;have q6:=hR.p.j6;rw[q6]at r6;cases Bo r6;exact⟨_,_,hR.zR hf s.q⟩
 obtain⟨k2,h5,b1,b8⟩:=b1;have e9:=b1;have e8:FH g p o B (Y (T ⟨H,0,Z⟩) (L P) N) u y t {m with v:={f with q:=s.q}::r}<|w.setCell ⟨U,L r*4+2,Z⟩<|G A s.q:=⟨_,_,_,b1⟩;have f4:=b8.yW h hp;have d8:=b8.row h d1 (by decide) (by decide) (by decide);have b6:=hi.q hf I.q;have f6:=J g4;have a3:=((((CT Cb<|w.setCell ⟨U,L r*4+2,Z⟩<|G A s.q).alloc<|R' #[G A s.e,G A s.w,G A s.n,G A s.wU,G A s.t,Y ax (L s.k) ac,G A s.q,G A s.xI] 206).drew).drew).drew;have d2:=W.new (w.setCell ⟨U,L r*4+2,Z⟩<|G A s.q) #[G A s.e,G A s.w,G A s.n,G A s.wU,G A s.t,Y ax (L s.k) ac,G A s.q,G A s.xI] 206;have g5:(w.setCell ⟨U,L r*4+2,Z⟩ (G A s.q):M)=(w:M):=by simp[World.setCell]
 rw[g5]at d2;have a6:=W.j d2 (((((CT Cb _).drew).drew).drew)) id;clear d2 g5;have HF:=J hf;have i7:(f.q:zw)<(L (CO P f.fn).f:zw):=by omega
 have i0:(f.fn:zw)<(L P:zw):=by omega
 have j0:=I.t5;have j1:=I.s5;have j2:=I.q;have j3:=I.xI;have j4:=I.t;have j5:=I.wU;have i4:=I.e;generalize L (CO P f.fn).f=SL at*;generalize b9:L (CO P f.fn).y=VN at*;clear h hp d5 a4 b5 a0 d1 b1 g4 d6 hf g3 f7;obtain⟨V,j⟩:=Dv<|Kn P m;rw[j];unfold Kn at j;rw[HF.o]at j;simp only at j;rw[f6.o]at j;have HV:=J j;have c8:=e9.t8 a3;have C:=e8.t8 a3;have a2:=b8.trans<|E8.wW a3;have b7:=f4.t8 a3;have f5:=Cx d8 a3 Ed;clear j a3 e8 b8 f4 d8 f6 HF e9;go_in;go_wp2_with fail;go_region;go_wp2_with fail;go_region;go_wp2_with fail;go_region;clear r0 r6 f0 f1 f2 f3 s0 s1 s2 s3 s4 s5 s6 s7 d3 h2;generalize ((World.setCell w _ _).alloc _).drew.drew.drew=F at*;as_aux_lemma=>
 obtain⟨e0,e1,e2,e3,e4,e5,e6,e7⟩:=a6.k8;have g6:=Cz a6;have a1:=hi.yJ;have b4:=hi.d;have c7:EI 200000 m.c.d:=⟨b4.nm,λi h=>(b4.vl i h).zB<|by omega⟩;have j:=HV;have R:s.e=0\/s.e=1\/s.e=2\/s.e=3\/s.e=4\/s.e=5\/s.e=6\/s.e=7\/s.e=8\/s.e=9\/s.e=10\/s.e=11\/s.e=12:=by omega
 rcases R with K|K|K|K|K|K|K|K|K|K|K|K|K
 all_goals
  rw[K]at e0;try(rw[Ba<|by omega,Ba<|by omega,Ba<|by omega,Ba<|by omega,K]at j)
  try(have h1:=I.tg (by omega) (by omega) (by omega) (by omega);rw[b9]at h1)
  try(have h0:=I.sr (by omega);rw[b9]at h0)
 .have j:({m with v:={f with q:=s.q}::r}:Mc)=V:=by rw[<-j];rfl
  subst j
  go_wp2_with fail
  go_end0
  exact⟨Q,C,a2⟩
 .have j:({m with v:={f with q:=s.q}::r,c:=(m.c.xK s.t).set (f.wX+s.w) ⟨2,L m.c.d⟩}:Mc)=V:=by rw[<-j];rfl
  have d9:=λ(d:I') (k:O Cb F d)=>Wh g p o B _ u y t {m with v:={f with q:=s.q}::r} s.t d (C.t8 k)<|by simp only;omega
  have g2:Ib (m.c.xK s.t).d:=a1.app λx hx=>by simp only[AY,AE,or_false]at hx;rcases hx with rfl|rfl|rfl|rfl<;>exact⟨by simp,by simp only;omega,by simp⟩
  have c1:L (m.c.xK s.t).d=L m.c.d+4:=by simp[Co.xK]
  have f8:∀d,FH g p o B (Y (T ⟨H,0,Z⟩) (L P) N) u y t ⟨m.c.xK s.t,{f with q:=s.q}::r,m.s⟩ d->F' zy 111 #[Z'<|T ⟨g,0,Z⟩,G A<|(f.wX:zw)+(s.w:zw),N' #[G A 2,G A<|L m.c.d]] d λe z=>e=T' (P' #[])/\FH g p o B (Y (T ⟨H,0,Z⟩) (L P) N) u y t V z/\E8 g p o B d z:=by intro d k;rw[<-j];exact Hs g p o B _ u y t ⟨m.c.xK s.t,{f with q:=s.q}::r,m.s⟩ (f.wX+s.w) ⟨2,L m.c.d⟩ d k g2 (by simp only[c1];omega) (zn<|zn ⟨Q,by simp only[c1];omega⟩) (by show L m.c.x<=_;omega)<|by simp only[c1];omega
  clear j a1 b4 g2 c1
  go_wp2_with fail
  apply(d9 _ oq).mono
  rintro e w2 ⟨rfl,u1,u2⟩
  have U1:=u1
  have U2:=(a2.trans<|E8.wW oq).trans u2
  clear u1 u2 d9
  go_wp2_with fail
  apply(f8 _<|U1.t8 oq).mono
  rintro e w3 ⟨rfl,u3,u4⟩
  have U3:=u3
  have U4:=(U2.trans<|E8.wW oq).trans u4
  clear u3 u4 f8
  go_wp2_with fail
  go_end0
  exact⟨Q,U3,U4⟩
 have j:({m with v:={f with q:=s.q}::r,c:=m.c.set (f.wX+s.w) ⟨2,f.wX+s.n⟩}:Mc)=V:=by rw[<-j];rfl
 have hC:rP g p o B (Y (T ⟨H,0,Z⟩) (L P) N) u y t V F 111 #[Z'<|T ⟨g,0,Z⟩,G A<|(f.wX:zw)+(s.w:zw),N' #[G A 2,G A<|(f.wX:zw)+(s.n:zw)]]:=by intro d k;rw[<-j];exact Hs g p o B _ u y t {m with v:={f with q:=s.q}::r} (f.wX+s.w) ⟨2,f.wX+s.n⟩ d (C.t8 k) a1 (by simp only;omega) (zn<|zn ⟨Q,by simp only;omega⟩) (by simp only;omega)<|by simp only;omega
 rotate_left;have hC:rP g p o B (Y (T ⟨H,0,Z⟩) (L P) N) u y t V F 114 #[Z'<|T ⟨g,0,Z⟩,G A<|(f.wX:zw)+(s.w:zw),G A<|(f.wX:zw)+(s.n:zw),G A s.wU]:=by
  intro d k;by_cases R:(CM m.c.d<|f.wX+s.n).v.e=2
  .by_cases hb:(CM m.c.d (CM m.c.d<|f.wX+s.n).v.c).nm.e=1/\(CM m.c.d (CM m.c.d<|f.wX+s.n).v.c).nm.F=0
   .have j:({m with v:={f with q:=s.q}::r,c:=m.c.set (f.wX+s.w) ⟨2,(CM m.c.d<|f.wX+s.n).v.c+s.wU⟩}:Mc)=V:=by rw[<-j];simp[KP,R,hb]
    rw[<-j]
    exact cV g p o B _ u y t {m with v:={f with q:=s.q}::r} (f.wX+s.w) (f.wX+s.n) s.wU d (C.t8 k) a1 c7 (by simp only;omega) (by simp only;omega) (by simp only;omega) (by simp only;omega) R hb<|by omega
   .have j:({m with v:={f with q:=s.q}::r,s:=3}:Mc)=V:=by
     rw[<-j];have d4:¬((CM m.c.d<|f.wX+s.n).v.e=2/\(CM m.c.d (CM m.c.d<|f.wX+s.n).v.c).nm.e=1/\(CM m.c.d (CM m.c.d<|f.wX+s.n).v.c).nm.F=0):=λq=>hb q.2
     simp only[KP];rw[Ba<|by decide,Ba<|by decide,Bb trivial,Ba d4]
    rw[<-j]
    exact cU g p o B _ u y t {m with v:={f with q:=s.q}::r} (f.wX+s.w) (f.wX+s.n) s.wU d (C.t8 k) c7 (by simp only;omega) R hb
  .have j:({m with v:={f with q:=s.q}::r,s:=3}:Mc)=V:=by
    rw[<-j];have d4:¬((CM m.c.d<|f.wX+s.n).v.e=2/\(CM m.c.d (CM m.c.d<|f.wX+s.n).v.c).nm.e=1/\(CM m.c.d (CM m.c.d<|f.wX+s.n).v.c).nm.F=0):=λq=>R q.1
    simp only[KP];rw[Ba<|by decide,Ba<|by decide,Bb trivial,Ba d4]
   rw[<-j]
   exact jM g p o B _ u y t {m with v:={f with q:=s.q}::r} (f.wX+s.w) (f.wX+s.n) s.wU d (C.t8 k) (by simp only;omega) R
 rotate_left;have g0:=I.func (by omega);have j:({m with v:={f with q:=s.q}::r,c:=m.c.set (f.wX+s.w) ⟨1,s.n⟩}:Mc)=V:=by rw[<-j];rfl
 have hC:rP g p o B (Y (T ⟨H,0,Z⟩) (L P) N) u y t V F 111 #[Z'<|T ⟨g,0,Z⟩,G A<|(f.wX:zw)+(s.w:zw),N' #[G A 1,G A s.n]]:=by intro d k;rw[<-j];exact Hs g p o B _ u y t {m with v:={f with q:=s.q}::r} (f.wX+s.w) ⟨1,s.n⟩ d (C.t8 k) a1 (by simp only;omega) (zn<|zo ⟨Q,by simp only;omega⟩) (by simp only;omega)<|by simp only;omega
 rotate_left;have hC:rP g p o B (Y (T ⟨H,0,Z⟩) (L P) N) u y t V F 115 #[Z'<|T ⟨g,0,Z⟩,G A<|(f.wX:zw)+(s.w:zw),G A<|(f.wX:zw)+(s.n:zw)]:=by
  intro d k;by_cases R:(CM m.c.d<|f.wX+s.n).v.e=2
  .have j:({m with v:={f with q:=s.q}::r,c:=m.c.set (f.wX+s.w) (CM m.c.d (CM m.c.d<|f.wX+s.n).v.c).v}:Mc)=V:=by rw[<-j];simp[KP,R]
   rw[<-j]
   exact cP g p o B _ u y t {m with v:={f with q:=s.q}::r} (f.wX+s.w) (f.wX+s.n) d (C.t8 k) a1 c7 (by simp only;omega) (by simp only;omega) (by simp only;omega) (by simp only;omega) R
  .have j:({m with v:={f with q:=s.q}::r,s:=3}:Mc)=V:=by rw[<-j];simp[KP,R]
   rw[<-j]
   exact jK g p o B _ u y t {m with v:={f with q:=s.q}::r} (f.wX+s.w) (f.wX+s.n) d (C.t8 k) (by simp only;omega) R
 rotate_left;have j:({m with v:={f with q:=s.q}::r,c:=m.c.set (f.wX+s.w) (CM m.c.d<|f.wX+s.n).v}:Mc)=V:=by rw[<-j];rfl
 obtain⟨gm,cm,r5,h3,_,b3⟩:=C.holds (a:=f.wX+s.n) (by simp only;omega);obtain⟨c3,c4,_⟩:=b3 (f.wX+s.n) (by simp only;omega);simp only at c3 c4 r5;have c5:K' F ⟨gm,(f.wX+s.n)*5+3+1,Z⟩=T (G A (CM m.c.d<|f.wX+s.n).v.c):=c4;have a4:=(b4.at_ (i:=f.wX+s.n)<|by omega).2;have g8:((f.wX:zw)+(s.n:zw))<(L m.c.d:zw):=by omega
 generalize (CM m.c.d<|f.wX+s.n).v=vs at*;clear b3 c4;have hC:rP g p o B (Y (T ⟨H,0,Z⟩) (L P) N) u y t V F 111 #[Z'<|T ⟨g,0,Z⟩,G A<|(f.wX:zw)+(s.w:zw),N' #[G A vs.e,G A vs.c]]:=by intro d k;rw[<-j];exact Hs g p o B _ u y t {m with v:={f with q:=s.q}::r} (f.wX+s.w) vs d (C.t8 k) a1 (by simp only;omega) (a4.zB<|by omega) (by simp only;omega)<|by simp only;omega
 rotate_left
 .rw[Bb K]at j;have g0:=I.func (by omega);have i5:=I.many (by omega);have i8:=hP.yB s.n;have b2:∀v,v∈EJ m.c.d f.wX s.k->E9 (L P) (L m.c.d) v:=by intro v hv;unfold EJ at hv;obtain⟨a,ha,rfl⟩:=AS.1 hv;have:=I.k a ha;exact(hi.d.at_<|by omega).2
  have a7:=λ(d:I') (k:O Cb F d)=>Ti g p o B _ u y t {m with v:={f with q:=s.q}::r} f.wX s.k _ d (C.t8 k) (Cx f5 k Ed) I.xE (λa ha=>by have:=I.k a ha;rw[b9]at this;simp only;omega) (by simp only;omega)<|by omega
  have d0:L (EJ m.c.d f.wX s.k)=L s.k:=by simp[EJ]
  have b0:∀d S E,O Cb F d->J' d E 231 2 S (L s.k) (UY<|EJ m.c.d f.wX s.k)->F' zy 74 #[Z'<|T ⟨g,0,Z⟩,G A s.n,S,G A<|(f.wX:zw)+(s.w:zw)] d λe z=>∃b,e=T' (O' b)/\FH g p o B (Y (T ⟨H,0,Z⟩) (L P) N) u y t V z/\E8 g p o B d z:=by
   intro d S E k hr;rw[<-d0]at hr;rw[<-j];by_cases hd:L r+1<40
   .exact(MJ g p o B _ u y t P n {m with v:={f with q:=s.q}::r} s.n (f.wX+s.w) E _ S d (C.t8 k) (b7.t8 k) hP b6.ct (by simpa using hd) g0 b2 (by omega) hr).mono (λe z q=>⟨_,q⟩)
   .exact(Pi g p o B _ u y t P {m with v:={f with q:=s.q}::r} s.n (f.wX+s.w) _ S d (C.t8 k) (by simp only[Af];omega) (by simp only[Af];omega)<|CA hr).mono (λe z q=>⟨_,q⟩)
  have a8:=b0;clear j b0 b2;obtain⟨c9,h4⟩:=c8.yR Q;have a9:∀v d,(∃E,J' d E 231 2 v (L s.k)<|UY<|EJ m.c.d f.wX s.k)->O Cb F d->F' zy 74 #[Z'<|T ⟨g,0,Z⟩,G A s.n,v,G A<|(f.wX:zw)+(s.w:zw)] d λe z=>∃b,e=T' (O' b)/\(FH g p o B (Y (T ⟨H,0,Z⟩) (L P) N) u y t V z/\E8 g p o B w z)/\K' z ⟨(w:M),2,Z⟩=T (G A s.n)/\K' z ⟨(w:M),5,Z⟩=T (Y ax (L s.k) ac):=by intro v d hz k;obtain⟨E,hz⟩:=hz;exact(a8 d v _ k hz).mono (λe z q=>by obtain⟨b,q1,q2,q3⟩:=q;have bx:=q3.p (C.t8 k) (W.j a6 k id) (by decide) (by decide) (by decide);obtain⟨-,-,c2,-,-,c5⟩:=bx.k6;exact⟨b,q1,⟨q2,(a2.trans<|E8.wW k).trans q3⟩,c2,c5⟩)
  have a5:∀d,O Cb F d->F' zy 117 #[Z'<|T ⟨g,0,Z⟩,G A f.wX,Y ax (L s.k) ac] d λe z=>∃v,e=T' v/\(∃a l c,v=Y a l c)/\(∃E,J' z E 231 2 v (L s.k)<|UY<|EJ m.c.d f.wX s.k)/\O Cb d z:=by intro d k;exact(a7 d k).mono (λe z q=>by obtain⟨v,q1,q2,q3⟩:=q;exact⟨v,q1,CA q2,⟨_,q2⟩,q3⟩)
  clear a7 a8;go_wp2_with fail;apply Fu;apply kH _ g U (L r*4) (w:M) ((f.wX:zw)+(s.w:zw)) ((f.wX:zw)+(s.n:zw)) s.n f.wX ax (L s.k) ac F (λv d=>∃E,J' d E 231 2 v (L s.k)<|UY<|EJ m.c.d f.wX s.k) (λz=>FH g p o B (Y (T ⟨H,0,Z⟩) (L P) N) u y t V z/\E8 g p o B w z) e2 e5 c9 g6 a5 a9;intro b ya yl yc w3 hz;obtain⟨u3,u4⟩:=hz;have U3:=u3;have U4:=u4;clear u3 u4 a5 a9;dsimp only;go_wp2_with fail;go_end0;exact⟨Q,U3,U4⟩
 .rw[Ba<|by omega,Bb K]at j;have b2:∀v,v∈EJ m.c.d f.wX s.k->E9 (L P) (L m.c.d) v:=by intro v hv;unfold EJ at hv;obtain⟨a,ha,rfl⟩:=AS.1 hv;have:=I.k a ha;exact(hi.d.at_<|by omega).2
  have a7:=λ(d:I') (k:O Cb F d)=>Ti g p o B _ u y t {m with v:={f with q:=s.q}::r} f.wX s.k _ d (C.t8 k) (Cx f5 k Ed) I.xE (λa ha=>by have:=I.k a ha;rw[b9]at this;simp only;omega) (by simp only;omega)<|by omega
  have d0:L (EJ m.c.d f.wX s.k)=L s.k:=by simp[EJ]
  have b0:∀d S E,O Cb F d->J' d E 231 2 S (L s.k) (UY<|EJ m.c.d f.wX s.k)->F' zy 118 #[Z'<|T ⟨g,0,Z⟩,G A<|(f.wX:zw)+(s.n:zw),G A s.t,S,G A<|(f.wX:zw)+(s.w:zw)] d λe z=>e=T' (P' #[])/\FH g p o B (Y (T ⟨H,0,Z⟩) (L P) N) u y t V z/\E8 g p o B d z:=by
   intro d S E k hr;rw[<-d0]at hr j;have g1:∃a c,S=Y a (L<|EJ m.c.d f.wX s.k) c:=by obtain⟨a,l,c,rfl⟩:=CA hr;have:=CU hr;subst this;exact⟨a,c,Q⟩
   rw[<-j];by_cases hk:(CM m.c.d<|f.wX+s.n).v.e=1/\(CO P (CM m.c.d<|f.wX+s.n).v.c).m=L (EJ m.c.d f.wX s.k)
   .rw[Bb hk];by_cases hd:40<=L r+1
    .rw[Bb<|by simp only[Af];omega];exact Yq g p o B _ u y t P n {m with v:={f with q:=s.q}::r} (f.wX+s.n) s.t (f.wX+s.w) _ S d (C.t8 k) (b7.t8 k) b6 (by simp only;omega) hk (by simp only[Af];omega) g1
    .rw[Ba<|by simp only[Af];omega];exact jN g p o B _ u y t P n {m with v:={f with q:=s.q}::r} (f.wX+s.n) s.t (f.wX+s.w) E _ S d (C.t8 k) (b7.t8 k) b6 (by simp only;omega) hk hP (by simp only[Af];omega) b2 (by omega) hr
   .rw[Ba hk];exact Yr g p o B _ u y t P {m with v:={f with q:=s.q}::r} (f.wX+s.n) s.t (f.wX+s.w) _ S d (C.t8 k) (b7.t8 k) hi.d (by simp only;omega) g1 hk
  have a8:=b0;clear j b0 b2;obtain⟨c9,h4⟩:=c8.yR Q;have a9:∀v d,(∃E,J' d E 231 2 v (L s.k)<|UY<|EJ m.c.d f.wX s.k)->O Cb F d->F' zy 118 #[Z'<|T ⟨g,0,Z⟩,G A<|(f.wX:zw)+(s.n:zw),G A s.t,v,G A<|(f.wX:zw)+(s.w:zw)] d λe z=>e=T' (P' #[])/\(FH g p o B (Y (T ⟨H,0,Z⟩) (L P) N) u y t V z/\E8 g p o B w z)/\K' z ⟨(w:M),4,Z⟩=T (G A s.t)/\K' z ⟨(w:M),5,Z⟩=T (Y ax (L s.k) ac):=by intro v d hz k;obtain⟨E,hz⟩:=hz;exact(a8 d v _ k hz).mono (λe z q=>by obtain⟨q1,q2,q3⟩:=q;have bx:=q3.p (C.t8 k) (W.j a6 k id) (by decide) (by decide) (by decide);obtain⟨-,-,-,-,c2,c5⟩:=bx.k6;exact⟨q1,⟨q2,(a2.trans<|E8.wW k).trans q3⟩,c2,c5⟩)
  have a5:∀d,O Cb F d->F' zy 117 #[Z'<|T ⟨g,0,Z⟩,G A f.wX,Y ax (L s.k) ac] d λe z=>∃v,e=T' v/\(∃a l c,v=Y a l c)/\(∃E,J' z E 231 2 v (L s.k)<|UY<|EJ m.c.d f.wX s.k)/\O Cb d z:=by intro d k;exact(a7 d k).mono (λe z q=>by obtain⟨v,q1,q2,q3⟩:=q;exact⟨v,q1,CA q2,⟨_,q2⟩,q3⟩)
  clear a7 a8;go_wp2_with fail;apply Fu;apply kJ _ g U (L r*4) (w:M) ((f.wX:zw)+(s.w:zw)) ((f.wX:zw)+(s.n:zw)) s.t f.wX ax (L s.k) ac F (λv d=>∃E,J' d E 231 2 v (L s.k)<|UY<|EJ m.c.d f.wX s.k) (λz=>FH g p o B (Y (T ⟨H,0,Z⟩) (L P) N) u y t V z/\E8 g p o B w z) e4 e5 c9 g6 a5 a9;intro ya yl yc w3 hz;obtain⟨u3,u4⟩:=hz;have U3:=u3;have U4:=u4;clear u3 u4 a5 a9;dsimp only;go_wp2_with fail;go_end0;exact⟨Q,U3,U4⟩
 have hC:rP g p o B (Y (T ⟨H,0,Z⟩) (L P) N) u y t V F 116 #[Z'<|T ⟨g,0,Z⟩,G A<|(f.wX:zw)+(s.w:zw),G A<|(f.wX:zw)+(s.n:zw)]:=by
  intro d k;by_cases R:(CM m.c.d<|f.wX+s.w).v.e=2
  .have j:({m with v:={f with q:=s.q}::r,c:=m.c.set (CM m.c.d<|f.wX+s.w).v.c (CM m.c.d<|f.wX+s.n).v}:Mc)=V:=by rw[<-j];simp[KP,R]
   rw[<-j]
   exact Yp g p o B _ u y t {m with v:={f with q:=s.q}::r} (f.wX+s.w) (f.wX+s.n) d (C.t8 k) a1 c7 (by simp only;omega) (by simp only;omega) (by simp only;omega) (by simp only;omega) R
  .have j:({m with v:={f with q:=s.q}::r,s:=3}:Mc)=V:=by rw[<-j];simp[KP,R]
   rw[<-j]
   exact cT g p o B _ u y t {m with v:={f with q:=s.q}::r} (f.wX+s.w) (f.wX+s.n) d (C.t8 k) (by simp only;omega) R
 rotate_left;rw[Ba<|by omega,Ba<|by omega,Bb K]at j;obtain⟨gm,cm,r5,h3,_,b3⟩:=C.holds (a:=f.wX+s.n) (by simp only;omega);obtain⟨c3,c4,_⟩:=b3 (f.wX+s.n) (by simp only;omega);simp only at c3 c4 r5;have c5:K' F ⟨gm,(f.wX+s.n)*5+3+1,Z⟩=T (G A (CM m.c.d<|f.wX+s.n).v.c):=c4;have a4:=(b4.at_ (i:=f.wX+s.n)<|by omega).2;have g8:((f.wX:zw)+(s.n:zw))<(L m.c.d:zw):=by omega
 generalize (CM m.c.d<|f.wX+s.n).v=vs at*;clear b3 c4;have hC:rP g p o B (Y (T ⟨H,0,Z⟩) (L P) N) u y t V F 112 #[Z'<|T ⟨g,0,Z⟩,N' #[G A vs.e,G A vs.c]]:=by intro d k;rw[<-j];exact Q6 g p o B _ u y t P (n+1) {m with v:={f with q:=s.q}::r} vs d (C.t8 k) hP.xE b6 (by simp) a4
 rotate_left;iterate 2
  rw[Ba<|by omega,Ba<|by omega,Ba<|by omega,Bb<|by omega]at j
  have HC:=λ(d:I') (k:O Cb F d)=>Yo g p o B _ u y t _ _ _ _ d<|c8.t8 k
  have HV:=J j
  clear j
  go_wp2_with fail
  apply(HC _ oq).mono
  rintro e w2 ⟨rfl,⟨h6,u1⟩,u2⟩
  have U2:=(a2.trans<|E8.wW oq).trans u2
  have c0:=u2.p (C.t8 oq) (W.j a6 (X:=Cb) oq id) (by decide) (by decide)<|by decide
  have g7:=c0.z
  have j8:=Cz c0
  obtain⟨t1,t2,t3⟩:=u1.zP Q
  obtain⟨n1,n2⟩:=u1.zR Q s.xI
  cases hb:(Ii m.c.N).1 with
  |false=> have j:=HV;rw[Ba<|by rw[hb];decide]at j;subst j;have U1:=u1;clear u1 u2 n1 n2 c0 HC;go_wp2_with fail;go_end0;exact⟨Q,⟨_,_,_,U1⟩,U2⟩
  |true=> have j:=HV;rw[Bb hb]at j;subst j;have U1:=n1;have U3:=U2.trans n2;clear u1 u2 n1 n2 c0 HC;go_wp2_with fail;go_end0;exact⟨Q,⟨_,_,_,U1⟩,U3⟩
 all_goals
  have HC:=hC;clear hC j K;go_wp2_with fail;apply(HC _ oq).mono;rintro e w2 ⟨rfl,u1,u2⟩;have U1:=u1;have U2:=(a2.trans<|E8.wW oq).trans u2;clear u1 u2 HC;go_wp2_with fail;go_end0;exact⟨Q,U1,U2⟩

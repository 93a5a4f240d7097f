/- Part of the proof. -/
import Derived.Test.YtbkhmmeecjnnkaaGreatDoorG09
import Derived.Test.YtbkhmmeecjnnkaaGreatDoorG12
import Derived.Laws.OwnMore
import Derived.Laws.BytesArg
set_option maxRecDepth 100000
set_option maxHeartbeats 4000000
namespace Go.Proofs.YtbkhmmeecjnnkaaGreatDoor
open Go.Proofs.Tryz Go.RowKit
open Option renaming none->Z,some->T
open Value renaming int->G,slice->Y,pointer->Z',string->Y',tuple->P',bool->O',agg->N',ownBlock->L'
open IntKind renaming i64->A
open Ending renaming returned->T'
open Obj renaming cells->R'
open List renaming length->L
open World renaming cell?->K',ownsRow->J'
open Go renaming World->I',Value->H',Calls->F',maxLen->E',results->zz
open Go.Proofs.Tryz renaming prog->zy
open Go.RowKit renaming Below->zx,intOf->zm
open _root_ renaming Nat->M,Int->zw,False->zv,rfl->Q,decide->zu
open Bool renaming true->zt,false->zr
open Or renaming inl->zo,inr->zn
variable {q1:Cg}{t0:FS}{n0:Cc}{x1:C8}{U:CQ}{o0:Dd}{y2:Df}{o8:DH}{y1:Ci}{B C R X o1 p0 p4 s2 s3 v0:Nat}{z1:Nat->Prop}{z2:Rl}{z9:Type}{q0:TypeId}{V s0 u1 v2 x2 z0:Value}{P v1 y0:World}
theorem MS{l:Cc}{s:Cd}(h:s∈l)(z):l[vx l s]?.getD z=s:=by
 have d:∀(l:Cc) (k:M),s∈l->l[(D9 l s k).toNat-k]?.getD z=s/\(k:zw)<=D9 l s k:=by
  intro l;induction l with
  |nil=>grind
  |cons a l b=>
   intro k h;rw[D9];split;rename_i e;have:=EQ e;subst this;refine⟨?_,Int.le_refl _⟩;rw[Int.toNat_natCast,Nat.sub_self];rfl;rename_i e;rcases AY.1 h with q|q
   grind;have⟨g,j⟩:=b (k+1) q;refine⟨?_,by omega⟩;have f:(D9 l s<|k+1).toNat-k=((D9 l s<|k+1).toNat-(k+1))+1:=by omega
   grind[List.getElem?_cons_succ]
 have:=(d l 0 h).1;rw[Nat.sub_zero]at this;exact this
mutual
theorem sL{fn:Cc}{par:Cf}{vs:Cc}:∀(t:TS) (pl ca:M),uD fn par vs t->∀x,x∈Us t pl ca->x.1.e<=10/\tJ fn par vs x.1
 |.mk s [],pl,ca,h,x,hx=>by rw[Us,Ay]at hx;subst hx;exact h
 |.mk s [(_,ts)],pl,ca,h,x,hx=>by rw[Us]at hx;exact Q8 ts pl ca h.2 x hx
 |.mk s [(_,ts),(_,ts2)],pl,ca,h,x,hx=>by
  rw[Us]at hx;rcases AJ.1 hx with q|q
  .exact Q8 ts pl ca h.2.1 x q
  .exact Q8 ts2 _ _ h.2.2 x q
 |.mk _ (_::_::_::_),_,_,h,_,_=>h.elim
theorem Q8{fn:Cc}{par:Cf}{vs:Cc}:∀(ts:Dj) (pl ca:M),Vc fn par vs ts->∀x,x∈RU ts pl ca->x.1.e<=10/\tJ fn par vs x.1
 |[],_,_,_,x,hx=>by grind[RU]
 |t::ts,pl,ca,h,x,hx=>by
  rw[RU]at hx;rcases AJ.1 hx with q|q
  .exact sL t pl ca h.1 x q
  .exact Q8 ts _ _ h.2 x q
end
structure NW(P:CQ)(u:FS)(r:Rl):Prop where
 rl:QT P r
 e:u.e=FK r.s.e
 xE:r.s.e<=10
 l:u.l=r.f
 p:r.s.e≠0->r.s.e≠10->K7 P r.f r.s.w=u.p.a
 q:r.s.e=2\/r.s.e=3\/r.s.e=5\/r.s.e=6\/r.s.e=8\/r.s.e=9\/r.s.e=10->K7 P r.f r.s.n=u.q.a
 g:r.s.e=4\/r.s.e=7->DB P r.s.n=u.q.a
 k:r.s.e=7\/r.s.e=8->u.k.map (λt=>t.a)=r.s.k.map (K7 P r.f)
 wU:r.s.e=3->u.wU=r.s.wU
 pl:r.s.e=1\/r.s.e=8->u.t9=r.s.t
section
variable{c:Df}(i:Fi c){n:Dd}{m:C8}(S:Se (DN c) (UX c) (KV c 0 0) n m)
include i
theorem rA{f:M}(l:f<c){x:VS×M×M}(y:x∈RU c[f].i (sK 1 c f) (sK 8 c f)){u:FS}(a:vJ m f x u){s:DX}(v:s∈(CO (Du (DN c) c 0 0) f).f)(d:Hn (DN c) (FU c[f]) x.1 s x.2.1 x.2.2):NW (Du (DN c) c 0 0) u ⟨f,s⟩:=by
 have p:=i.ce.us f;rw[IN c f l]at p;have⟨E,j⟩:=Q8 _ _ _ p x y;have⟨F,H,_,_⟩:=i.one f l;have k:∀b,b∈FU c[f]->K7 (Du (DN c) c 0 0) f (vx (FU c[f]) b)=b:=λb B=>by grind[K7,MS]
 have e:s.e=x.1.e:=d.e;have z:∀t:PT,(CR t).a=t.a:=λ_=>Q
 refine⟨⟨by grind[GH],v⟩,by rw[a.sc.e];grind,by grind,a.sc.l,λg h=>?_,λq=>?_,λq=>?_,λq=>?_,λq=>?_,λq=>?_⟩;change s.e≠0 at g;change s.e≠10 at h;rw[e]at g h;show K7 _ f s.w=_;rw[d.w g h<|by omega,k _<|j.tg g h,a.sc.p];rfl;change s.e=2\/s.e=3\/s.e=5\/s.e=6\/s.e=8\/s.e=9\/s.e=10 at q;rw[e]at q;show K7 _ f s.n=_;rw[d.n q,k _<|j.sr q,a.sc.q];rfl;change s.e=4\/s.e=7 at q;rw[e]at q;show DB _ s.n=_;have o:=j.func q;rw[d.func q,a.sc.q];have C:=(EF o).1;have r:vx (DN c) x.1.sr.a<c:=by grind[DN]
 unfold DB;rw[(i.one _ r).1];have:=MS o ByteArray.empty;grind[DN];change s.e=7\/s.e=8 at q;rw[e]at q;show _=s.k.map (K7 _ f);rw[d.k q,a.sc.k,List.map_map,List.map_map];exact List.map_congr_left λt w=>(k _<|j.k q t w).symm
 change s.e=3 at q;rw[e]at q;show _=s.wU;rw[d.wU,a.sc.wU q];change s.e=1\/s.e=8 at q;rw[e]at q;show _=s.t;rcases q with q|q
 rw[d.t9 q,a.pl q];rw[d.call q,a.g q]
theorem Xd{f:M}(a:f<c):Vb (DN c) (FU c[f]) (RU c[f].i (sK 1 c f)<|sK 8 c f) (CO (Du (DN c) c 0 0) f).f:=by have:=pJ (fn:=DN c) (par:=UX c) c[f] (sK 1 c f) (sK 8 c f)<|i.xZ.ok _<|Am a;rw[<-(i.one f a).2.1,i.pf f a];exact this
include S
theorem oZ(C:U7 m n){k:M}{u:FS}(e:m[k]? =u):(u.e=12\/u.e=13)\/∃r,NW (Du (DN c) c 0 0) u r:=by
 rcases rZ S C e with q|⟨f,x,j,b,h⟩
 exact zo q;have a:f<c:=by have:=S.h.yG;grind[DN]
 rw[IN c f a]at b;have⟨s,g,d⟩:=(Xd i a).back x b;exact zn ⟨_,rA i a b h g d⟩
theorem pA{r:Rl}(b:QT (Du (DN c) c 0 0) r):(r.s.e=11\/r.s.e=12)\/∃(k:M) (u:FS),m[k]? =u/\NW (Du (DN c) c 0 0) u r:=by
 have a:r.f<c:=by have:=b.1;grind[GH]
 rcases(Xd i a).of r.s b.2 with q|⟨x,e,f⟩
 exact zo q;have h:r.f<n:=by have:=S.h.yG;grind[DN]
 have d:=S.body r.f h;rw[IN c r.f a]at d;have⟨k,u,g,j⟩:=QM _ _ _ _ d x e;exact zn ⟨k,u,g,rA i a e j b.2 f⟩
end
def oQ(P:CQ)(o:M):Cf:=((List.range P).flatMap λf=>(List.range (CO P f).y).map<|vN f)++(List.range o).flatMap λn=>(List.range 4).map<|pN<|n+1
def Lu(P:CQ)(o:M):Cc:=(oQ P o).map<|EC P
theorem Um{P:CQ}{o c:M}:c∈oQ P o↔Dh P o c:=by unfold oQ Dh;simp only[AJ,List.mem_flatMap,AS,List.mem_range];constructor;grind;rintro(⟨f,v,a,b,rfl⟩|⟨n,k,a,b,d,rfl⟩);grind;exact zn ⟨n-1,by omega,k,d,by grind⟩
def Uj(l:Cc)(s:Cd):Bool:=l.any λa=>a.toList==s.toList
theorem Kj{l:Cc}{s:Cd}:Uj l s=zt↔s∈l:=by grind[Uj,EQ]
structure Ls where
 cells:List<|Cc
 P:List<|Cc
 more:Bool
variable {s1:Ls}
def bA(l:Cc):Prop:=l.Pairwise λa b=>Kq a b=zt
def fH(P:CQ)(o c:M):zw:=D9 (Lu P o) (EC P c) 0
def KW(P:CQ)(o:M)(s:Ls)(c:M):Cc:=if fH P o c<0 then[]else s.cells[(fH P o c).toNat]?.getD []
def KZ(s:Ls)(n:M):Cc:=s.P[n-1]?.getD []
def RY(P:CQ)(o:M)(s:Ls):Sy:=⟨λc t=>Ir P o t/\EC P t∈KW P o s c,λa b=>∀x,x∈KW P o s a->x∈KW P o s b,λn g=>DB P g∈KZ s n⟩
structure TQ(P:CQ)(o B:M)(s:Ls):Prop where
 cl:s.cells.length=(Lu P o)
 cs:∀l,l∈s.cells->bA l
 ci:∀(i:M) (l:Cc) (c:M),s.cells[i]? =l->(oQ P o)[i]? =c->∀x,x∈l->∃t,(least P).I c t/\x=EC P t
 el:s.P=B
 es:∀l,l∈s.P->bA l
 ei:∀(i:M) (l:Cc),s.P[i]? =l->∀x,x∈l->∃g,(least P).E (i+1) g/\x=DB P g
def mT(P:CQ)(s:Ls):M:=(List.range<|L s.cells*16400).countP λi=>!Uj (s.cells[i / 16400]?.getD []) (EC P<|i % 16400)
theorem tB{t u:M}(h:Xz t=Xz u):t=u:=by have a:(Gr t).1=(Gr u).1:=BG Tg.e h;have b:(Gr t).2.1=(Gr u).2.1:=BG Tg.B h;have c:(Gr t).2.2=(Gr u).2.2:=BG Tg.F h;grind[Gr]
theorem lI{l:List<|Cc}{i j:M}{v w:Cc}(h:(l.set i v)[j]? =w):(j=i/\w=v)\/l[j]? =w:=by grind
theorem Up{l:List<|Cc}{i:M}{v w:Cc}(h:w∈l.set i v):w=v\/w∈l:=by grind
theorem lV{P:CQ}{o:M}{s d:Ls}(j:d.cells=s.cells)(i:∀n x,x∈KZ s n->x∈KZ d n):(RY P o s).le<|RY P o d:=
 have e:∀c,KW P o d c=KW P o s c:=λc=>by grind[KW]
 ⟨λc t h=>⟨h.1,by rw[e];exact h.2⟩,λa b h x f=>by rw[e]at f|-;exact h x f,λn g h=>i n _ h⟩
structure JF(P:CQ)(o B:M)(s s':Ls)(R:Sy->Prop):Prop where
 inv:TQ P o B s'
 eu:∀n x,x∈KZ s n->x∈KZ s' n
 lf:mT P s'<=mT P s
 stop:s'.more=zr->s.more=zr/\s'.cells=s.cells/\R (RY P o s')
 go:s'.more=zt->s.more=zt\/mT P s'<mT P s
section
variable{P:CQ}{o B:M}{s C H:Ls}{R F:Sy->Prop}
theorem JF.rf(h:TQ P o B s):JF P o B s s λ_=>True:=⟨h,λ_ _ q=>q,Ad _,λq=>⟨q,Q,trivial⟩,λq=>zo q⟩
theorem JF.to(h:JF P o B s C R)(f:C.cells=s.cells->R (RY P o C)->F (RY P o C)):JF P o B s C F:=⟨h.inv,h.eu,h.lf,λq=>⟨(h.stop q).1,(h.stop q).2.1,f (h.stop q).2.1 (h.stop q).2.2⟩,h.go⟩
theorem JF.then(h:JF P o B s C R)(k:JF P o B C H F)(l:∀S c:Sy,S.le c->R S->R c):JF P o B s H λS=>R S/\F S:=by
 refine⟨k.inv,λn x q=>k.eu n x<|h.eu n x q,As k.lf h.lf,λq=>?_,λq=>?_⟩;have⟨e,d,f⟩:=k.stop q;have⟨g,i,j⟩:=h.stop e;exact⟨g,d.trans i,l _ _ (lV d k.eu) j,f⟩;rcases k.go q with a|a
 exact(h.go a).imp id λb=>BM k.lf b
 exact zn<|Av a h.lf
end
section
variable{P:CQ}{K o B:M}(N:aT P)(E:K9 P K o B){s:Ls}
include E
theorem rG{t:M}(h:Ir P o t):t<16400:=by
 rcases h with q|⟨g,a,rfl⟩
 exact q.lt E.ok.xE E.ok.ok.y E.ok.lp;have:=E.ok.xE;grind[fN]
include N
theorem IJ{t u:M}(a:Ir P o t)(b:Ir P o u)(e:EC P t=EC P u):t=u:=
 tB (aJ N (Zd E.ok.xE E.ok.ok.y E.pn a) (Zd E.ok.xE E.ok.ok.y E.pn b)<|Ur e)
theorem Qq{c:M}(h:Dh P o c):∃i,fH P o c=((i:M):zw)/\i<L (Lu P o)/\(oQ P o)[i]? =c:=by
 have e:EC P c∈Lu P o:=AS.2 ⟨c,Um.2 h,Q⟩;have⟨b,f⟩:=EF e;refine⟨vx (Lu P o)<|EC P c,f,b,?_⟩;have d:vx (Lu P o) (EC P c)<oQ P o:=by grind[Lu]
 have a:=MS e ByteArray.empty;rw[Ag b]at a;simp only[BK,Lu,AT]at a;rw[Ag d];have g:=Um.1<|Am d;rw[IJ N E (zo g) (zo h) a]
theorem gO{g:M}(h:g<P):fH P o (fN g)= -1:=by refine ZH (λq=>?_) 0;have⟨c,a,e⟩:=AS.1 q;have a:=Um.1 a;have:=IJ N E (zo a) (zn ⟨g,h,Q⟩) e;have b:=a.isC E.ok.xE E.ok.ok.y;have:=E.ok.xE;grind[VT,fN]
theorem Ub(h:TQ P o B s){c:M}(f:Dh P o c){x:Cd}(a:x∈KW P o s c):∃t,(least P).I c t/\x=EC P t:=by
 have⟨i,d,g,e⟩:=Qq N E f;unfold KW at a;rw[d,Ba<|by omega,Int.toNat_natCast]at a;have b:i<s.cells:=by grind
 rw[Ag b]at a;exact h.ci i _ c (Ag b) e x a
theorem rV{g:M}(h:g<P):KW P o s (fN g)=[]:=by grind[KW,gO]
def uX(s:Ls)(i:M)(x:Cd):Ls:=if Uj (s.cells[i]?.getD []) x=zt then s else⟨s.cells.set i<|EP (s.cells[i]?.getD []) x,s.P,zt⟩
theorem sF(h:TQ P o B s){c t i:M}(p:Dh P o c)(I:fH P o c=((i:M):zw))(v:(least P).I c t):JF P o B s (uX s i<|EC P t) λS=>S.I c t:=by
 have⟨a,w,n,g⟩:=Qq N E p;obtain rfl:a=i:=by omega
 have b:a<s.cells:=by rw[h.cl];exact n
 have k:=(Ft E.ok v).2;have z:∀s:Ls,KW P o s c=s.cells[a]?.getD []:=λs=>by grind[KW]
 unfold uX;split;rename_i q;exact(JF.rf h).to λ_ _=>⟨k,by grind[Kj]⟩
 rename_i q;rw[Ag b]at q|-;simp only[BK]at q|-;have m:mT P ⟨s.cells.set a<|EP s.cells[a]<|EC P t,s.P,zt⟩<mT P s:=by unfold mT;simp only[Bi];have y:=rG E k;refine LM _ (λx _ f=>?_) ⟨a*16400+t,?_,?_,?_⟩;grind[Kj,Gz];grind;grind;grind[Kj,Gz]
 refine⟨⟨by simp only[Bi];exact h.cl,λl u=>?_,λj l d r e x f=>?_,h.el,h.es,h.ei⟩,λ_ _ q=>q,Nat.le_of_lt m,λq=>(by cases q),λ_=>zn m⟩;rcases Up u with rfl|q
 exact GE _ _<|h.cs _<|Am b;exact h.cs l q;rcases lI r with⟨rfl,rfl⟩|q
 rw[g]at e;cases e;rcases(Gz _ _ _).1 f with rfl|q
 grind;exact h.ci j _ _ (Ag b) g x q;exact h.ci j l d q e x f
omit N in
theorem sB(h:TQ P o B s){n g:M}(d:(least P).E n g):JF P o B s ⟨s.cells,s.P.set (n-1)<|EP (KZ s n)<|DB P g,s.more⟩ λS=>S.E n g:=by
 have⟨⟨k,p⟩,r⟩:=LR E.ok d;have b:n-1<L s.P:=by rw[h.el];omega
 have c:KZ s n=s.P[n-1]:=by grind[KZ]
 have i:∀m,KZ ⟨s.cells,s.P.set (n-1)<|EP (KZ s n)<|DB P g,s.more⟩ m=if n-1=m-1 then EP (KZ s n) (DB P g)else KZ s m:=λm=>by grind[KZ]
 refine⟨⟨h.cl,h.cs,h.ci,by simp only[Bi];exact h.el,λl f=>?_,λj l e x a=>?_⟩,λm x a=>?_,Ad _,λq=>⟨q,Q,?_⟩,λq=>zo q⟩;rcases Up f with rfl|q
 rw[c];exact GE _ _<|h.es _<|Am b;exact h.es l q;rcases lI e with⟨rfl,rfl⟩|q
 rcases(Gz _ _ _).1 a with rfl|q
 grind;rw[c]at q;exact h.ei _ _ (Ag b) x q;exact h.ei j l q x a;grind[Gz,KZ];show DB P g∈KZ _ n;grind[Gz]
omit N E in
theorem sH(h:∀r,QT P r->PE P r (RY P o s)/\(DE r->∀t,(RY P o s).I r.at t->Gi P r t (RY P o s))):(least P).le<|RY P o s:=
 V7 ⟨λ_ _ _ hF a=>⟨a.1,hF _ a.2⟩,λr b=>(h r b).1,λr t b c a=>(h r b).2 c t a⟩
theorem ZT(f:TQ P o B s)(h:(least P).le<|RY P o s){c:M}(n:Dh P o c){l:Cc}(p:Zw (EC P) ((least P).I c) l):l=KW P o s c:=by
 have⟨g,I,i,d,j⟩:=p;have r:∀x,x∈l↔∃t,(least P).I c t/\x=EC P t:=λx=>by grind
 have u:l.Nodup:=by rw[j.nodup_iff];refine List.pairwise_map.2<|(List.Pairwise.and_mem.1 i).imp ?_;rintro a b ⟨k,m,v⟩ e;exact v<|IJ N E (Ft E.ok<|(d a).1 k).2 (Ft E.ok<|(d b).1 m).2 e
 have y:bA<|KW P o s c:=by
  unfold KW;split;exact List.Pairwise.nil;rcases w:s.cells[(fH P o c).toNat]? with _|q
  exact List.Pairwise.nil;exact f.cs q<|BH w
 refine ID (IC g u) y λx=>?_
 rw[r];exact⟨fun⟨t,a,b⟩=>by rw[b];exact(h.i c t a).2,λz=>Ub N E f n z⟩
theorem sI(c:TQ P o B s)(h:(least P).le<|RY P o s){n:M}(R:1<=n)(S:n<=B){l:Cc}(p:Zw (DB P) ((least P).E n) l):l=KZ s n:=by
 have⟨v,U,w,j,y⟩:=p;have q:∀x,x∈l↔∃t,(least P).E n t/\x=DB P t:=λx=>by grind
 have r:l.Nodup:=by rw[y.nodup_iff];refine List.pairwise_map.2<|(List.Pairwise.and_mem.1 w).imp ?_;rintro a b ⟨k,m,u⟩ e;exact u<|N.inj a b (LR E.ok<|(j a).1 k).2 (LR E.ok<|(j b).1 m).2 e
 have d:n-1<L s.P:=by rw[c.el];omega
 have f:KZ s n=s.P[n-1]:=by grind[KZ]
 refine ID (IC v r) (by rw[f];exact c.es _<|Am d) λx=>?_
 rw[q];refine⟨fun⟨t,a,b⟩=>by rw[b];exact h.e n t a,λi=>?_⟩;rw[f]at i;have⟨g,z,I⟩:=c.ei _ _ (Ag d) x i;grind
end
theorem Y6(h:bA n0)(a:B<C)(b:C<n0):Kq (n0[B]'(by omega)) n0[C]=zt:=List.pairwise_iff_getElem.1 h B C (by omega) b a
theorem oU(a b):Op.bytesLess a.toList b.toList=Kq a b:=by grind[Kq,bytesLess_eq,Lib.toList_data]
theorem LD(h:CK B P (Y (T ⟨C,0,Z⟩) (L n0) R) n0)(k)(a:k<L n0):K' P ⟨C,k,Z⟩=T (Y' n0[k]):=by have:=h.cellAt k (by omega);grind
theorem bW(B v l s w)(h:CK B w v l)(hl:L l<=1000000)(E:bA l):
 F' zy 152 #[v,Y' s] w λe w'=>e=T' (O'<|Uj l s)/\w'=w:=by
 obtain⟨va,vc,rfl⟩:=CB h;have⟨V,F⟩:=Dv<|Uj l s;rw[F];have x:=J F;clear F;go_in;go_wp2;go_loopw[5,6] (λa b wr=>∃d f:M,d<=f/\f<=l/\a=G A d/\b=G A f/\wr=w/\D (∀i (q:i<L l),i<d->Kq l[i] s=zt)/\D (∀i (q:i<L l),f<=i->Kq l[i] s=zr)) (λa b _=>(zm b).toNat-(zm a).toNat);exact⟨0,L l,by omega,by omega,Q,Q,Q,λi q k=>by omega,λi q k=>by omega⟩;obtain⟨d,f,h1,S,rfl,rfl,rfl,r,o⟩:=hrel;by_cases a0:d<f
 .have tl:=LH (p:=(d:zw)<f) (by omega);have⟨m,H⟩:=Dv<|(d+f) / 2;have e1:((d:zw)+(f:zw)).tdiv 2=(m:zw):=by rw[<-H];rfl
  have K:m<l:=by omega
  have a1:d<=m:=by omega
  have a2:m<f:=by omega
  obtain⟨g,rfl⟩:=CH h (by omega);have c:=LD h m K;have X:=(h.lt g Q).2;have y:=oU l[m] s;cases n:Kq l[m] s with
  |true=>
   rw[n]at y;have R:D (∀i (q:i<L l),i<m+1->Kq l[i] s=zt):=λi q k=>by
    rcases AV i m with z|z
    exact LT (Y6 E z K) n;obtain rfl:i=m:=by omega
    exact n
   generalize l[m]=a at c y;clear n r H;go_wp2;go_round;exact⟨m+1,f,by omega,S,by go_num,Q,by trivial,R,o⟩;simp[intOf];omega
  |false=>
   rw[n]at y;have P:D (∀i (q:i<L l),m<=i->Kq l[i] s=zr):=λi q k=>by
    rcases AV m i with z|z
    cases t:Kq l[i] s with
    |false=>rfl
    |true=> have:=LT (Y6 E z q) t;rw[n]at this;cases this
    obtain rfl:i=m:=by omega
    exact n
   generalize l[m]=a at c y;clear n o H;go_wp2;go_round;exact⟨d,m,by omega,by omega,Q,Q,by trivial,r,P⟩;simp[intOf];omega
 .have tl:=Hz (p:=(d:zw)<f) (by omega);obtain rfl:d=f:=by omega
  have C:∀j (q:j<L l),l[j]=s->j=d:=λj q e=>by
   rcases AV j d with z|z
   have:=r.o j q z;rw[e,KE]at this;cases this;rcases AV d j with N|N
   have:=Y6 E N q;rw[e,o.o d (by omega)<|Ad _]at this;cases this;omega
  by_cases U:d<l
  .have tk:=LH (p:=(d:zw)<l) (by omega);obtain⟨g,rfl⟩:=CH h (by omega);have c:=LD h d U;have X:=(h.lt g Q).2;have u:(l[d].toList==s.toList)=V:=by
    rw[<-x.o];cases t:(l[d].toList==s.toList)with
    |true=>exact(Kj.2<|by rw[<-EQ (beq_iff_eq.1 t)];exact Am _).symm
    |false=>
     cases I:Uj l s with
     |false=>rfl
     |true=> have⟨j,q,e⟩:=AC.1<|Kj.1 I;obtain rfl:=C j q e;rw[e]at t;simp at t
   generalize l[d]=a at c u;clear C r o x;go_wp2;go_ret;exact⟨by first|rfl|rw[u]|(rw[<-u]),Q⟩
  .have tk:=Hz (p:=(d:zw)<l) (by omega);have u:V=zr:=by
    rw[<-x.o];cases I:Uj l s with
    |false=>rfl
    |true=> have⟨j,q,e⟩:=AC.1<|Kj.1 I;have:=C j q e;omega
   subst u;clear C r o x;go_wp2;go_ret;exact⟨Q,Q⟩
def GO(B:M)(w:I')(v:H')(a:List<|Cc):Prop:=∃b:Ci,L b=a/\J' w B 47 1 v a b/\∀i (h:i<L b) (c:i<L a),CK B w b[i] a[i]
theorem GO.t8{a}(h:GO B P V a)(k:O Cb P y0):GO B y0 V a:=by have⟨f,e,d,c⟩:=h;exact⟨f,e,Cx d k Ed,λi h b=>Cx (c i h b) k Ed⟩
theorem GO.get{a f}(h:GO B P (Y a (L f) C) f){i:M}(n:i<L f):∃g b d,a=T ⟨g,0,Z⟩/\K' P ⟨g,i,Z⟩=T (Y b (L f[i]) d)/\P.frozen? ⟨g,i,Z⟩=zr/\B<=g/\g<P.heap.size/\CK B P (Y b (L f[i]) d) f[i]:=by have⟨p,e,j,m⟩:=h;obtain⟨g,rfl⟩:=CH j (by omega);have k:=m i (by omega) n;have⟨b,l,d,q⟩:=CA k;rw[q]at k;have:=CU k;subst this;have o:=j.cellAt i (by omega);refine⟨g,b,d,Q,?_,j.frozenAt i,(j.lt g Q).1,(j.lt g Q).2,k⟩;grind
structure JJ(B sb pb:M)(nv cv ev:H')(nm:Cc)(s:Ls)(w:I'):Prop where
 bx:W sb #[Z' pb,nv,cv,ev,s.more] 74 w
 nr:CK B w nv nm
 nl:nm.length<=20000
 cl:GO B w cv s.cells
 V:GO B w ev s.P
 sb:B<=sb
 ne:∀g h,cv.ownBlock=T g->ev.ownBlock=T h->g≠h
 ln:s.cells.length=nm
 sh:∀l,l∈s.cells->l.length<=20000/\bA l
theorem JJ.t8(h:JJ B C R V z0 s0 n0 s1 P)(k:O Cb P y0):JJ B C R V z0 s0 n0 s1 y0:=
 ⟨h.bx.j k id,Cx h.nr k Ed,h.nl,h.cl.t8 k,h.V.t8 k,h.sb,h.ne,h.ln,h.sh⟩
theorem GO.form{b}(h:GO B P V b):∃a c,V=Y a b c:=by have⟨f,e,d,_⟩:=h;grind[CA,CU]
def Zy(a:Cc)(b:List<|Cc)(x:Cd):Cc:=if D9 a x 0<0 then[]else b[(D9 a x 0).toNat]?.getD []
theorem Jt(B q F:M)(E t u:H')(c:Cc)(s:Ls)(w:I')(h:JJ B q F E t u c s w)(x:Cd):
 F' zy 20 #[Z' q,x] w λe r=>(∃v,e=T' v/\CK B w v (Zy c s.cells x))/\r=w:=by
 obtain⟨K,N,rfl⟩:=h.cl.form;obtain⟨P,R,rfl⟩:=h.V.form;obtain⟨V,nl,X,rfl⟩:=CA h.nr;have q1:=h.bx.z;have S:=Cz h.bx;have k:=Jn B _ c x w h.nr h.nl;unfold Zy;have z:=(Et c x 0).2;have⟨i,l⟩:=Dv<|D9 c x 0;rw[l]at k z|-;have⟨I,a⟩:=Dv<|(if i<0 then[]else s.cells[i.toNat]?.getD []);rw[a];have f:=J a;clear l a;go_in;go_wp2_with fail;apply k.mono;rintro e r ⟨rfl,C⟩;cases C.symm;by_cases j:i<0
 .have H:=LH (p:=i<0) (by omega);have a:=f.o;rw[Bb j]at a;subst a;go_wp2_with fail;go_ret;exact⟨⟨_,Q,An _ _ _ _⟩,Q⟩
 .have H:=Hz (p:=i<0) (by omega);have a:=f.o;rw[Ba j]at a;obtain⟨n,rfl⟩:∃n:M,i=(n:zw):=⟨i.toNat,by omega⟩;have m:n<s.cells:=by rw[h.ln];omega
  rw[Int.toNat_natCast,Ag m,BK]at a;obtain⟨g,b,d,rfl,y,_,_,U,o⟩:=h.cl.get m;have tn:(n:zw)<(L s.cells:zw):=by omega
  clear j f;rw[a]at y o;clear a;go_wp2_with fail;go_ret;exact⟨⟨_,Q,o⟩,Q⟩
def Hf(c:M)(a b:H')(w d:I'):Prop:=O (λk=>k=c\/L' a=T k\/L' b=T k) w d
theorem JJ.own(h:JJ B C R V z0 s0 n0 s1 P)(f:X=C\/L' z0=X\/L' s0=X):B<=X/\∃a t b,P.heap[X]? =T (R' a t b)/\(t=74\/t=47):=by
 rcases f with rfl|q|q
 exact⟨h.sb,_,_,_,h.bx,zo Q⟩;have⟨g,_,c,_⟩:=h.cl;rotate_left;have⟨g,_,c,_⟩:=h.V;all_goals
  have⟨d,a,b,e⟩:=ES c q;exact⟨d,_,_,_,e,zn Q⟩
theorem JJ.str{l:Cc}(h:JJ B R X V z0 s0 n0 s1 P)(b:Hf R z0 s0 P y0)(q:CK C P u1 l):CK C y0 u1 l:=CD q b λk c f a z=>by obtain⟨_,d,t,e,g,i⟩:=h.own a;grind
theorem JJ.low(h:JJ B C R V z0 s0 n0 s1 P)(a:B<=P.heap.size)(b:Hf C z0 s0 P y0):zx B P y0:=b.xL a λ_ q=>(h.own q).1
theorem JJ.set{w}(h:JJ B C R V (Y (T ⟨p0,0,Z⟩) X v0) z0 n0 s1 w)(i:M)(u:H')(b:Cc)(hu:CK B w u b)(F:L b<=20000/\bA b):
 JJ B C R V (Y (T ⟨p0,0,Z⟩) X v0) z0 n0 ⟨s1.cells.set i b,s1.P,s1.more⟩ (w.setCell ⟨p0,i,Z⟩ u)/\O (λk=>k=p0) w (w.setCell ⟨p0,i,Z⟩ u)/\B<=p0:=by
 have d:O (λk=>k=p0) w<|w.setCell (p0,i) u:=(CT _ w).wS i u;have n:=h.cl;have⟨a,c,e⟩:=n.form;cases e;have⟨N,t,p,ha⟩:=n;have⟨E,P,fz,hh⟩:=ES p (k:=p0) Q;have r:∀{v l},CK B w v l->CK B (w.setCell (p0,i) u) v l:=fun{v l} q=>CD q d λk S U o z=>by grind
 refine⟨⟨h.bx.j d λq=>?_,r h.nr,h.nl,⟨N.set i u,by simp[t],?_,λj f m=>?_⟩,?_,h.sb,h.ne,by simp only[Bi];exact h.ln,λl I=>?_⟩,d,E⟩;have hb:=h.bx;grind[W];have:=(p.stored i u).1;grind;grind;have⟨y,x,K,H⟩:=h.V;exact⟨y,x,Cx K d λk o q=>h.ne p0 k Q o q.symm,λj f m=>r<|H j f m⟩;rcases Up I with rfl|q
 exact F;exact h.sh l q
theorem JJ.flag(h:JJ B C R V z0 s0 n0 s1 P):JJ B C R V z0 s0 n0 ⟨s1.cells,s1.P,zt⟩ (P.setCell (C,4)<|O' zt)/\O (λk=>k=C) P (P.setCell (C,4)<|O' zt):=by
 have a:O (λk=>k=C) P<|P.setCell (C,4)<|O' zt:=(CT _ P).wS 4 _;have i:∀{v b},GO B P v b->GO B (P.setCell (C,4)<|O' zt) v b:=fun{v b} q=>by have⟨l,e,g,f⟩:=q;exact⟨l,e,Cx g a<|CL g h.bx<|by decide,λj c d=>Cx (f j c d) a<|CL (f j c d) h.bx<|by decide⟩
 exact⟨⟨h.bx.set 4 _,Cx h.nr a<|CL h.nr h.bx<|by decide,h.nl,i h.cl,i h.V,h.sb,h.ne,h.ln,h.sh⟩,a⟩
theorem oS(B c F:M)(nv S U:H')(E:Cc)(s:Ls)(w:I')(h:JJ B c F nv S U E s w)(hB:B<=w)(i:M)(x:Cd)(I:i<s.cells)(hL:L (EP (s.cells[i]?.getD []) x)<=20000):
 F' zy 110 #[Z' c,i,x] w λe w'=>e=P' #[]/\JJ B c F nv S U E (uX s i x) w'/\Hf c S U w w':=by
 obtain⟨ca,m,rfl⟩:=h.cl.form;obtain⟨n,o,rfl⟩:=h.V.form;obtain⟨na,nl,nc,rfl⟩:=CA h.nr;obtain⟨g,b,d,rfl,hc,a4,a8,N,hs⟩:=h.cl.get I;have q2:=h.bx.j2;have lb:=Cz h.bx;have tn:(i:zw)<(L s.cells:zw):=by omega
 have t0:zu ((i:zw)<0)=zr:=by simp
 have C:=h.sh _<|Am I;rw[Ag I,BK]at hL;have⟨V,z⟩:=Dv<|uX s i x;rw[z];unfold uX at z;rw[Ag I,BK]at z;have y:=J z;clear z;generalize a7:s.cells[i]=l at hc hs C y hL;clear a7;have H:=bW B _ l x w hs (by have:=C.1;omega) C.2;have⟨r,hr⟩:=Dv<|Uj l x;rw[hr]at H y;have R:D<|r=zt->V=s:=λq=>by rw[<-y.o,Bb q]
 have P:D<|r=zr->(⟨s.cells.set i<|EP l x,s.P,zt⟩:Ls)=V:=λq=>by rw[<-y.o,Ba<|by rw[q];decide]
 clear hr y;go_in;go_wp2_with fail;refine H.mono ?_;rintro e w' ⟨rfl,hw⟩;cases hw.symm;cases r with
 |true=> cases R.o Q;clear R P H;go_wp2_with fail;go_end0;exact⟨Q,h,CT _ _⟩
 |false=>
  have a6:=J<|P.o Q;clear R P H;have a0:∀(f:I') (p:Ch) (u t:M),CK w f (Y p u t) (EP l x)->O Cb w f->JJ B c F (Y na nl nc) (Y g s.cells m) (Y n s.P o) E ⟨s.cells.set i<|EP l x,s.P,s.more⟩ (f.setCell (g,i)<|Y p u t)/\Hf c (Y g s.cells m) (Y n s.P o) w (f.setCell (g,i)<|Y p u t):=λf p u t h8 j=>by have⟨a1,a2,a3⟩:=(h.t8 j).set i (Y p u t) (EP l x) (CN h8 hB) ⟨hL,GE _ _ C.2⟩;exact⟨a1,(j.mono λ_ _ q=>q.elim).trans<|a2.mono λk _ q=>zn<|zo<|by rw[q];rfl⟩
  have BX:D (∀f,O Cb w f->f (g,i)=Y b l d/\f.frozen? (g,i)=zr/\f (c,2)=Y g s.cells m/\g<f/\c<f):=λf j=>⟨(Ae<|j.block g N id).trans hc,(Aj<|j.block g N id).trans a4,(Ae<|j.block c lb id).trans q2,Av N j.size,Av lb j.size⟩
  go_upto_region 3 with fail;go_cut[] (λwx=>D (JJ B c F (Y na nl nc) (Y g s.cells m) (Y n s.P o) E ⟨s.cells.set i<|EP l x,s.P,s.more⟩ wx)/\Hf c (Y g s.cells m) (Y n s.P o) w wx)
  .go_region_law(go_simp;go_at_call 47;refine(Jp B (Y b l d) l x _ (Cx hs oq λ_ _ q=>q)<|by have:=C.1;omega).mono ?_;rintro e f ⟨v8,rfl,K,a5⟩;obtain⟨p,u,t,rfl⟩:=CA K;have j:=O.trans (X:=Cb) (a:=w) oq a5;have⟨k1,k2,k3,k4,k5⟩:=BX.o f j;have K:=K;clear a5;dsimp only);all_goals
    go_wp2_with fail;go_meet;have⟨f1,f2⟩:=a0 _ _ _ _ (CN K<|by simp) j;exact⟨f1,f2⟩
  have⟨v,F2⟩:=hcut;have a9:=Cz v.bx;have b4:=v.bx.j4;have z4:=v.bx.wV 4;have⟨b1,b2⟩:=v.flag;have R1:JJ B c F (Y na nl nc) (Y g s.cells m) (Y n s.P o) E V (wc.setCell (c,4)<|O' zt)/\Hf c (Y g s.cells m) (Y n s.P o) w (wc.setCell (c,4)<|O' zt):=by rw[<-a6.o];exact⟨b1,F2.trans<|b2.mono λk _ q=>zo q⟩
  clear b1 b2 v F2 a0 BX hc a4 q2 lb N;go_wp2_with fail;go_end0;exact⟨Q,R1.1,R1.2⟩
theorem iY(a:M)(x:Cd)(w:I'):F' zy 110 #[Z' a,G A<|-1,x] w λe b=>e=P' #[]/\b=w:=by go_in;go_wp2_with fail;refine Ak (v:=P' #[]) (by simp[zz,results110,go_sem]) Q ⟨Q,Q⟩
theorem Oy:∀(l m:Cc),l.Nodup->(∀x,x∈l->x∈m)->L l<=m
 |[],_,_,_=>Ar _
 |a::l,m,b,c=>by
  rw[List.nodup_cons]at b;obtain⟨d,e,rfl⟩:=List.append_of_mem<|c a A9;have:=Oy l (d++e) b.2 λx g=>by grind
  grind
theorem bA.nodup{l:Cc}(h:bA l):l.Nodup:=h.imp fun{a b} q e=>by grind[KE]
theorem TQ.short{P:CQ}{r f n:M}(o:K9 P r f n){s:Ls}(h:TQ P f n s){l:Cc}(a:l∈s.cells):L l<=16400:=by
 obtain⟨i,c,rfl⟩:=AC.1 a;have d:i<oQ P f:=by have:=h.cl;grind[Lu]
 have:=Oy _ ((List.range 16400).map<|EC P) (h.cs _ a).nodup λx e=>by obtain⟨t,b,rfl⟩:=h.ci i _ _ (Ag c) (Ag d) x e;exact AS.2 ⟨t,List.mem_range.2<|rG o (Ft o.ok b).2,Q⟩
 grind
structure Xu(P:CQ)(f n B sb pb:M)(nv cv ev:H')(s:Ls)(w:I'):Prop where
 m:JJ B sb pb nv cv ev (Lu P f) s w
 i:TQ P f n s
 b:B<=w
theorem Xu.t8{P f n B e d c a b s w g}(h:Xu P f n B e d c a b s w)(k:O Cb w g):Xu P f n B e d c a b s g:=⟨h.m.t8 k,h.i,As h.b k.size⟩
def Lb(P:CQ)(f n B d h:M)(g a b:H')(s:Ls)(w e:I')(R:Sy->Prop):Prop:=∃c,Xu P f n B d h g a b c e/\JF P f n s c R/\Hf d a b w e
theorem Hf.trans{c a b w d e}(h:Hf c a b w d)(k:Hf c a b d e):Hf c a b w e:=O.trans h k
theorem Hf.of{d b c w a}(h:O Cb w a):Hf d b c w a:=h.mono λ_ _ q=>q.elim
section
variable{P:CQ}{r f n:M}(N:aT P)(o:K9 P r f n)
include N o
theorem qY(B a k j b d s w)(h:Xu P f n B a k j b d s w){c t i:M}(m:Dh P f c)(y:fH P f c=((i:M):zw))(z:(least P).I c t):
 F' zy 110 #[Z' a,i,(EC P t)] w λe u=>e=P' #[]/\Lb P f n B a k j b d s w u (λS=>S.I c t):=by
 have⟨g,C,x,_⟩:=Qq N o m;obtain rfl:g=i:=by omega
 have p:g<s.cells:=by rw[h.i.cl];exact x
 have E:=h.i.short o<|Am p;refine(oS B a k j b d (Lu P f) s w h.m h.b g (EC P t) p<|by grind[No]).mono ?_
 rintro e u ⟨rfl,v,l⟩;have q:=sF N o h.i m y z;exact⟨Q,_,⟨v,q.inv,As h.b l.size⟩,q,l⟩
theorem Qb(B a k v d g s w)(h:Xu P f n B a k v d g s w){c t:M}(x y)(H:x=EC P c)(I:y=EC P t)(q:Dh P f c)(E:(least P).I c t):
 F' zy 70 #[Z' a,x,y] w λe z=>e=P' #[]/\Lb P f n B a k v d g s w z (λS=>S.I c t):=by
 subst H I;have⟨i,j,_⟩:=Qq N o q;obtain⟨U,nl,V,rfl⟩:=CA h.m.nr;have q1:=h.m.bx.z;have R:=Cz h.m.bx;have b:=Jn B _ (Lu P f) (EC P c) w h.m.nr h.m.nl;have u:D9 (Lu P f) (EC P c) 0=(i:zw):=j;rw[u]at b;have l:=qY N o B a k _ d g s w h q j E;have⟨X,m⟩:=Dv<|EC P c;have⟨K,p⟩:=Dv<|EC P t;rw[m]at b|-;rw[p]at l|-;clear h N o j u m p;go_in;go_wp2_with fail;apply b.mono;rintro e z ⟨rfl,F⟩;cases F.symm;go_wp2_with fail;apply l.mono;rintro e w2 ⟨rfl,C⟩;go_wp2_with fail;go_end0;exact⟨Q,C⟩
omit N o in
theorem rT(s a):Zy (Lu P f) s.cells (EC P a)=KW P f s a:=Q
theorem Le(B m K nv v C s w)(h:Xu P f n B m K nv v C s w){a b:M}(x y)(hx:x=EC P a)(hy:y=EC P b)(ha:Ir P f a)(hb:Ir P f b)(hF:Dh P f a->Dh P f b->(least P).F a b):
 F' zy 71 #[Z' m,x,y] w λe w'=>e=P' #[]/\Lb P f n B m K nv v C s w w' (λS=>Dh P f b->S.F a b):=by
 subst hx hy;have d:=Jt B m K nv v C (Lu P f) s w h.m<|EC P a;obtain⟨na,nl,nc,rfl⟩:=CA h.m.nr;have q1:=h.m.bx.j1;have lb:=Cz h.m.bx;have HF:=Jn B _ (Lu P f) (EC P b) w h.m.nr h.m.nl;have a1:D (∀z,z∈KW P f s a->Dh P f a/\∃t,(least P).I a t/\z=EC P t):=λz p=>by
  rcases ha with q|⟨g,hg,rfl⟩
  exact⟨q,Ub N o h.i q p⟩;rw[rV N o hg]at p;cases p
 have a4:L (KW P f s a)<=16400:=by
  unfold KW;split;exact Ar _;rcases hq:s.cells[(fH P f a).toNat]? with _|q
  exact Ar _;exact h.i.short o<|BH hq
 have a3:(∃i:M,fH P f b=(i:zw)/\Dh P f b)\/(fH P f b= -1/\¬Dh P f b):=by
  rcases hb with q|⟨g,hg,rfl⟩
  have⟨i,F,_⟩:=Qq N o q;exact zo ⟨i,F,q⟩;refine zn ⟨gO N o hg,λq=>?_⟩;have:=q.isC o.ok.xE o.ok.ok.y;have:=o.ok.xE;unfold VT fN at*;omega
 have HN:=N;have HY:=o;rw[rT]at d;have⟨l,hL⟩:=Dv<|KW P f s a;rw[hL]at d a1 a4;have a7:=J hL;have⟨j,hj⟩:=Dv<|D9 (Lu P f) (EC P b) 0;have a2:fH P f b=j:=hj;rw[a2]at a3;rw[hj]at HF;have HJ:=J a2;have⟨X,hX⟩:=Dv<|EC P a;have⟨b1,hZ⟩:=Dv<|EC P b;rw[hX]at d|-;rw[hZ]at HF|-;clear N o ha hb hL hj a2 hX hZ;go_in;go_wp2_with fail;refine d.mono ?_;rintro e w' ⟨⟨lv,rfl,a6⟩,hw⟩;cases hw.symm;obtain⟨la,lc,rfl⟩:=CB a6;clear d;go_wp2_with fail;refine HF.mono ?_;rintro e w' ⟨rfl,hw⟩;cases hw.symm;clear HF q1 lb;go_wp2_with fail;go_loopw[8] (λi wr=>∃(k:M) (u:Ls),k<=l/\i=G A k/\Xu P f n B m K (Y na nl nc) v C u wr/\JF P f n s u (λS=>Dh P f b->∀t,Ir P f t->EC P t∈l.take k->S.I b t)/\Hf m v C w wr) (λi _=>l-(zm i).toNat);exact⟨0,s,by omega,Q,h,(JF.rf h.i).to λ_ _ _ t _ q=>by rw[List.take_zero]at q;(cases q),CT _ _⟩;obtain⟨k,u,hk,rfl,V,HX,d⟩:=hrel;have b2:=a4;by_cases a5:k<l
 .have tk:zu ((k:zw)<(L l:zw))=zt:=by simp;omega
  have hR:=h.m.str d a6;obtain⟨g,rfl⟩:=CH hR (by omega);have c:=LD hR k a5;have lg:=(hR.lt g Q).2;have⟨ca,t,I,p⟩:=a1.o l[k]<|Am _;rw[p]at c;have HZ:=J p;have HT:=I;rcases a3 with⟨i,a0,H⟩|⟨a0,H⟩
  .have R:=qY HN HY B m K _ v C u wr V H (HJ.o.trans a0)<|(Im P).flow _ _ _ (hF ca H) I;have⟨U,hU⟩:=Dv<|EC P t;rw[hU]at c R;subst a0;clear p I H hR hU;go_wp2_with fail;refine R.mono ?_;rintro e w2 ⟨rfl,s2,g1,g2,g3⟩;have O2:=d.trans g3;have N2:JF P f n s s2 (λS=>Dh P f b->∀t,Ir P f t->EC P t∈l.take (k+1)->S.I b t):=by
    refine(HX.then g2 λS b0 a8 q E t F h2=>a8.i _ _<|q E t F h2).to λ_ q E t' F h2=>?_
    rw[AK a5]at h2;rcases AJ.1 h2 with z|z
    exact q.1 E t' F z;rw[Ay,HZ.o]at z;rw[IJ HN HY F (Ft HY.ok HT).2 z];exact q.2
   clear g2 g3 V HX d c lg;go_wp2_with fail;go_roundw;exact⟨k+1,s2,by omega,by go_num,g1,N2,O2⟩;simp[intOf];omega
  .have R:=iY m (EC P t) wr;have⟨U,hU⟩:=Dv<|EC P t;rw[hU]at c R;subst a0;have N2:JF P f n s u (λS=>Dh P f b->∀t,Ir P f t->EC P t∈l.take (k+1)->S.I b t):=HX.to λ_ _ E=>Bm E H
   clear p I ca H hR hU;go_wp2_with fail;refine R.mono ?_;rintro e w' ⟨rfl,hw⟩;cases hw.symm;go_wp2_with fail;go_roundw;exact⟨k+1,u,by omega,by go_num,V,N2,d⟩;simp[intOf];omega
 .have tk:zu ((k:zw)<(L l:zw))=zr:=by simp;omega
  have R1:Lb P f n B m K (Y na nl nc) v C s w wr λS=>Dh P f b->S.F a b:=by
   refine⟨u,V,HX.to λa9 q E x hx=>?_,d⟩;have e:KW P f u a=l:=by rw[<-a7.o];unfold KW;rw[a9]
   rw[e]at hx;obtain⟨_,t,I,rfl⟩:=a1.o x hx;exact(q E t (Ft HY.ok I).2<|by rw[BJ<|by omega];exact hx).2
  clear V HX d;go_wp2_with fail;go_end0;exact⟨Q,R1⟩
end
theorem KO.low(h:KO B C z1 V z0 o0 x1 X v0 P)(o:P.heap.size<=R)(c:zx R P y0):KO B C z1 V z0 o0 x1 X v0 y0:=by
 have i:O (λk=>(P:M)<=k) P y0:=⟨c.os,c.tape,c.output,c.size,λk d _=>c.block k<|by omega⟩;have j:∀(k:M) (a:Cg) (t:TypeId) (b:M×M),(P:M)<=k->P.heap[k]? =T (R' a t b)->zv:=λk a t b m n=>by grind
 refine⟨?_,h.fn.j i (λk d q=>?_) λk a t b f g=>(j k a t b f g).elim,h.st.j i (λk d q=>?_) λk a t b f g=>(j k a t b f g).elim⟩;have:=h.r;unfold EB at this|-;rw[c.block B<|by grind];exact this;have⟨a,e,_⟩:=h.fn;have⟨_,_,_,l⟩:=ES e d;grind;have⟨a,e,_⟩:=h.st;have⟨_,_,_,l⟩:=ES e d;grind
abbrev mV(t:Tk):Cg:=#[t.a,t.pos,t.h]
structure Qi(P:CQ)(pn cn B sb pb:M)(nv cv ev:H')(w0:I')(s:Ls)(w:I'):Prop where
 p:Xu P pn cn B sb pb nv cv ev s w
 low:zx B w0 w
theorem Qi.t8(h:Qi U B C R X v0 V z0 s0 P s1 y0)(k:O Cb y0 v1):Qi U B C R X v0 V z0 s0 P s1 v1:=⟨h.p.t8 k,h.low.trans<|k.xL h.p.b λ_ q=>q.elim⟩
theorem Qi.q{a}(h:Qi U B C R X v0 V z0 s0 P s1 y0)(k:Xu U B C R X v0 V z0 s0 a v1)(o:Hf X z0 s0 y0 v1):Qi U B C R X v0 V z0 s0 P a v1:=⟨k,h.low.trans<|h.p.m.low h.p.b o⟩
structure mP(pb Bp B:M)(U:Ce)(fv sv:H')(rf:Dd)(fs:C8)(pl ca:M)(w0:I'):Prop where
 rp:KO pb Bp U fv sv rf fs pl ca w0
 b:w0<=B
 rn:rf.length<=4001
 fn:fs.length<=4001
 nz:∀f,f∈rf->f.I.a.size<=4000
theorem mP.at(h:mP B C R z1 V z0 o0 x1 X v0 P)(k:zx R P y0):KO B C z1 V z0 o0 x1 X v0 y0:=h.rp.low h.b k
theorem LU(z:mP v0 p0 R z1 u1 x2 o0 x1 o1 s2 P)(h:Qi U B C R X v0 V z0 s0 P s1 y0)(u:FS)(K E ov:H')(a5:∃a l c,K=Y a l c)(a6:∃a l c,E=Y a l c)(a7:∃a l c,ov=Y a l c)(t:Tk)(S:u.l<o0)(ht:t.a.size<=4000):
 F' zy 69 #[Z' X,N'<|Dc u K E ov,N'<|mV t] y0 λe w'=>e=(o0[u.l].I.a++⟨#[46]⟩++t.a)/\O Cb y0 w':=by
 obtain⟨k,v,o,rfl⟩:=a5;obtain⟨m,x,p,rfl⟩:=a6;obtain⟨n,y,q,rfl⟩:=a7;have hz:=z.nz _<|Am S;have f:=((CT Cb y0).alloc<|R' (Dc u (Y k v o) (Y m x p)<|Y n y q) 114).alloc<|R' (mV t) 104;have i:=(W.new y0 (Dc u (Y k v o) (Y m x p)<|Y n y q) 114).alloc<|R' (mV t) 104;have j:W ((y0:M)+1) (mV t) 104<|(y0.alloc<|R' (Dc u (Y k v o) (Y m x p)<|Y n y q) 114).alloc<|R' (mV t) 104:=by have:=W.new (y0.alloc<|R' (Dc u (Y k v o) (Y m x p)<|Y n y q) 114) (mV t) 104;simp only[World.size_alloc]at this;exact this
 have d:=h.t8 f;have b:=z.at d.low;have⟨nm,F⟩:=Dv<|o0[u.l].I.a;rw[F]at hz|-;have a4:=J F;clear h z F;unfold Dc at*;go_in;go_upto_region 1 with fail;generalize (y0.alloc _).alloc _=b1 at f i j d b|-;have a8:=d.p.m.bx.z 0;have b4:=Cz d.p.m.bx;have H:=b.r;have f0:=Jh H 0;have lp:=Cz H;have a9:=i.z 14;have b2:=Cz i;have b0:=j.z 0;have b3:=Cz j;have⟨cs,r,_⟩:=b.fn;obtain⟨ga,gc,rfl⟩:=CB r;obtain⟨g,rfl⟩:=CH r (by omega);have lg:=(r.lt g Q).2;have⟨tv,E,vv,N,_⟩:=b.fn.get S;have I:=N 0 (by decide);rw[Au]at I;simp only[J5,Ac,Aa,Ab]at a8 f0 a9 b0 I;rw[a4.o]at I;have ti:(u.l:zw)<(L o0:zw):=by omega
 have a0:=f;clear N r i j d b H f;go_quiet((fail));have O1:=a0.drewN nq;go_wp2_with fail;go_ret;exact⟨Q,O1⟩
structure OS(P:CQ)(w n o:M)(a:Dd)(m:C8):Prop where
 nm:aT P
 hy:K9 P w n o
 len:a.length=P
 I:∀f (h:f<a.length),a[f].I.a=DB P f
 tkl:∀f (h:f<a.length),a[f].wZ=(CO P f).m
 tkt:∀f (h:f<a.length) i (h':i<a[f].wZ.length),a[f].wZ[i].a=K7 P f i
 xE:m.length<=4001
 z:U0 4000 m
 l:∀(k:M) (u:FS),m[k]? =u->u.l<a
 rule:∀(k:M) (u:FS),m[k]? =u->(u.e=12\/u.e=13)\/∃r,NW P u r
 stmt:∀r,QT P r->(r.s.e=11\/r.s.e=12)\/∃(k:M) (u:FS),m[k]? =u/\NW P u r
theorem Qf{P:CQ}{w n o:M}(c:K9 P w n o){f v:M}(d:f<P)(g:v<(CO P f).y):DB P f++⟨#[46]⟩++K7 P f v=EC P (vN f v):=by
 have:=c.ok.xE;have:=c.ok.ok.y f;have e:Xz (vN f v)=⟨0,f,v⟩:=by grind[Xz,Gr,vN]
 unfold EC Kp DB;rw[e];simp only[show¬(0:M)=1 by omega,show¬(0:M)=2 by omega,BE];apply ByteArray.ext;apply Array.ext';simp
def pC(a:Dd)(u:FS)(t:Tk):Cd:=(a[u.l]?.map λf=>f.I.a).getD ByteArray.empty++⟨#[46]⟩++t.a
theorem Ra{a:Dd}{u:FS}{t:Tk}(h:u.l<a):a[u.l].I.a++⟨#[46]⟩++t.a=pC a u t:=by grind[pC]
section
variable{P:CQ}{w n o:M}{a:Dd}{m:C8}(K:OS P w n o a m){u:FS}{r:Rl}(b:NW P u r)
include K b
theorem OS.st:uC P (CO P r.f) r.s:=K.hy.ok.ok.ok r.f b.rl.1 r.s b.rl.2
theorem OS.ix:u.l<a:=by rw[K.len,b.l];exact b.rl.1
theorem OS.nmOf{v:M}{t:Tk}(d:v<(CO P r.f).y)(c:K7 P r.f v=t.a):pC a u t=EC P (vN r.f v):=by rw[<-Ra (K.ix b),K.I _<|K.ix b,b.l,<-c];exact Qf K.hy b.rl.1 d
theorem OS.tgx(c:r.s.e≠0)(d:r.s.e≠10):pC a u u.p=EC P r.tg/\Dh P n r.tg:=
 have:=b.xE
 have e:=(K.st b).tg c d (by omega)<|by omega
 ⟨K.nmOf b e<|b.p c d,D6 b.rl.1 e⟩
theorem OS.srx(h:r.s.e=2\/r.s.e=3\/r.s.e=5\/r.s.e=6\/r.s.e=8\/r.s.e=9\/r.s.e=10):pC a u u.q=EC P r.sr/\Dh P n r.sr:=
 have c:=(K.st b).sr h
 ⟨K.nmOf b c<|b.q h,D6 b.rl.1 c⟩
theorem OS.arx(h:r.s.e=7\/r.s.e=8):L u.k=L r.s.k/\∀i (f:i<L u.k) (c:i<L r.s.k),pC a u u.k[i]=EC P (vN r.f r.s.k[i])/\Dh P n (vN r.f r.s.k[i]):=by
 have e:=b.k h;have g:L u.k=r.s.k:=by have:=BG L e;grind
 refine⟨g,λi f c=>?_⟩;have d:=(K.st b).k _<|Am c;refine⟨K.nmOf b d ?_,D6 b.rl.1 d⟩;have:=BG (λl=>l[i]?) e;grind
omit b in
theorem OS.pax{g i:M}(c:g<a)(f:i<a[g].wZ):a[g].I.a++⟨#[46]⟩++a[g].wZ[i].a=EC P (vN g i)/\Dh P n (vN g i):=by
 have d:g<P:=by rw[<-K.len];exact c
 have e:i<(CO P g).y:=by have:=K.tkl g c;have:=K.hy.ok.ok.yB g;omega
 rw[K.I g c,K.tkt g c i f];exact⟨Qf K.hy d e,D6 d e⟩
end
theorem sG{d:Df}(q:Fi d){a:Dd}{m:C8}(S:Se (DN d) (UX d) (KV d 0 0) a m)(C:U7 m a)(B:U0 4000 m)(y:vR a d):OS (Du (DN d) d 0 0) (vx (DN d) DF) (Ew (DN d) d 0 0).1 (Ew (DN d) d 0 0).2 a m:=by
 have P:L a=d:=by have:=S.h.yG;grind[DN]
 refine⟨q.cx,q.anHy,by grind[GH],λf h=>?_,λf h=>?_,λf h i N=>?_,S.bp,B,λk u v=>?_,λk u v=>oZ q S C v,λr x=>pA q S x⟩;have j:f<d:=by omega
 unfold DB;rw[(q.one f j).1];have:=S.h.I h;grind[Lh,DN];have j:f<d:=by omega
 rw[y f h j,AG,(q.one f j).2.2.1];have j:f<d:=by omega
 have e:=y f h j;have H:i<d[f].m:=by grind
 unfold K7;rw[(q.one f j).2.1];unfold FU;rw[Be<|by grind,AI,Ag H];simp only[e,AT,BA,BK];rfl;have⟨g,F,x⟩:=C k (Bz.1 v).1;obtain⟨f,j,rfl⟩:=AC.1 F;have⟨t,p,c,l,_⟩:=rD (S.body f j) x;match t,l with
 |.mk s [],l=> have⟨z,e,I,_⟩:=l;rw[v]at e;cases e;rw[I.l];exact j
 |.mk s [(_,K)],l=> have⟨z,e,E,_⟩:=l;grind
 |.mk s [(_,K),(_,R)],l=> have⟨z,e,E,_⟩:=l;grind
 |.mk _ (_::_::_::_),l=>exact l.elim
theorem JJ.p{w}(h:JJ B C R V z0 s0 n0 s1 w)(e:Hf C z0 s0 w P)(q:W X q1 q0 w)(c:q0≠74)(d:q0≠47):W X q1 q0 P:=q.j e λk=>by obtain⟨_,g,j,i,a,f⟩:=h.own k;unfold W at q;rw[q]at a;cases a;exact f.elim c d
theorem JJ.row(h:JJ B R X V z0 s0 n0 s1 P)(f:Hf R z0 s0 P y0)(q:J' P C q0 v0 u1 p0 y1)(a:q0≠74)(b:q0≠47):J' y0 C q0 v0 u1 p0 y1:=CD q f λk i m d z=>by obtain⟨_,j,t,l,c,g⟩:=h.own d;rw[c]at z;cases z;exact g.elim a b
theorem UJ:∀(l:DH) (i:M) (_:i<l) (j:M),j<3->(DZ l)[i*3+j]? =(GJ l[i])[j]?
 |[],i,h,_,_=>by simp at h
 |t::l,0,_,j,a=>by unfold DZ;rw[List.flatMap_cons,Nat.zero_mul,AM,Be<|by simpa[GJ]using a];rfl
 |t::l,i+1,h,j,a=>by
  unfold DZ;rw[List.flatMap_cons,Bc<|by simp[GJ];omega];have e:(i+1)*3+j-(GJ t)=i*3+j:=by simp[GJ];omega
  rw[e];exact UJ l i (by simpa using h) j a
theorem Fb.get{a}(h:Fb B P (Y a o8 C) o8){i:M}(b:i<o8):∃g,a=T ⟨g,0,Z⟩/\g<P.heap.size/\∀j,j<3->P ⟨g,i*3+j,Z⟩=(GJ o8[i])[j]? :=by obtain⟨g,rfl⟩:=CH h (by omega);refine⟨g,Q,(h.lt g Q).2,λj d=>?_⟩;rw[h.cellAt (i*3+j)<|by omega,UJ o8 i b j d]
structure mW(P:CQ)(pn cn B sb pb Bp:M)(nv cv ev:H')(w0 w:I')(b4 b6:M)(xa fa:Cg)(av tv:H')(al tl:DH)(s:Ls)(wr:I'):Prop where
 x:Qi P pn cn B sb pb nv cv ev w0 s wr
 o:Hf sb cv ev w wr
 b4:W b4 xa 114 wr
 b6:W b6 fa 107 wr
 ar:Fb Bp wr av al
 tk:Fb Bp wr tv tl
theorem mW.q{b d c a}(h:mW U B C R X v0 p0 V z0 s0 P y0 o1 s2 q1 b u1 x2 o8 d s1 v1)(k:Xu U B C R X v0 V z0 s0 c a)(o:Hf X z0 s0 v1 a):mW U B C R X v0 p0 V z0 s0 P y0 o1 s2 q1 b u1 x2 o8 d c a:=
 ⟨h.x.q k o,h.o.trans o,h.x.p.m.p o h.b4 (by decide)<|by decide,h.x.p.m.p o h.b6 (by decide)<|by decide,h.x.p.m.row o h.ar (by decide)<|by decide,h.x.p.m.row o h.tk (by decide)<|by decide⟩
theorem mW.t8{a b c}(h:mW U B C R X v0 p0 V z0 s0 P y0 o1 s2 q1 a u1 x2 o8 b s1 v1)(o:O Cb v1 c):mW U B C R X v0 p0 V z0 s0 P y0 o1 s2 q1 a u1 x2 o8 b s1 c:=h.q (h.x.p.t8 o)<|Hf.of o
theorem SJ(K:OS U B C R o0 x1)(b5:mP o1 s2 v0 z1 u1 x2 o0 x1 p4 s3 P)(h:Qi U C R v0 p0 o1 V z0 s0 P s1 y0)(a6:NW U t0 z2)(hk:z2.s.e=7\/z2.s.e=8){g:M}(hg:g<U)(hp:(CO U g).m=z2.s.k)(hE:Gn U z2 g<|least U)(hu:mR 4000 t0)(av bv ov)(d3:Fb s2 y0 av t0.k)(i3:∃a l c,bv=Y a l c)(i5:∃a l c,ov=Y a l c):
 F' zy 72 #[Z' p0,N'<|Dc t0 av bv ov,g] y0 λe d=>e=P' #[]/\Lb U C R v0 p0 o1 V z0 s0 s1 y0 d (Gn U z2 g):=by
 obtain⟨H,l2,N,rfl⟩:=i3;obtain⟨I,l3,c3,rfl⟩:=i5;obtain⟨a1,E,rfl⟩:=CB d3;have c4:g<L o0:=by rw[K.len];exact hg
 have e4:=(K.arx a6 hk).1;have f3:L o0[g].wZ=L t0.k:=by rw[K.tkl g c4,hp,e4]
 have k3:=K.xE;have j9:=(K.st a6).xE;have c7:=b5.at h.low;have HX:=h;have b7:=hk;have HP:=J hp;have d0:=h.p.m.bx.z 0;have d7:=Cz h.p.m.bx;have f0:=Jh c7.r 0;have lp:=Cz c7.r;obtain⟨cs,a5,_⟩:=c7.fn;obtain⟨ga,gc,rfl⟩:=CB a5;obtain⟨fg,rfl⟩:=CH a5 (by omega);have lg:=(a5.lt fg Q).2;obtain⟨tv,j4,vv,t,b3,e5,f4⟩:=c7.fn.get c4;obtain⟨t1,t3,rfl⟩:=CB b3;obtain⟨e1,e2,e3,rfl⟩:=CA e5;obtain⟨v1,v2,v3,rfl⟩:=CA f4;have n0:=t 0 (by decide);have n1:=t 1 (by decide);have n2:=t 2 (by decide);have n3:=t 3 (by decide);have n4:=t 4 (by decide);have n5:=t 5 (by decide);have n6:=t 6 (by decide);simp only[J5,Ac,Aa,Ab,Au]at d0 f0 n0 n1 n2 n3 n4 n5 n6;have ti:(g:zw)<(L o0:zw):=by omega
 rw[f3]at n3 b3;obtain⟨F,hF⟩:=Dv<|o0[g];have HF:=J hF;rw[hF]at n0 n1 n2 n5 b3;clear t a5 e5 f4 h hk hp f3 e4 hF;go_in;have B4:=(W.new y0 (Dc t0 (Y a1 (L t0.k) E) (Y H l2 N)<|Y I l3 c3) 114).alloc<|R' (J5 F (Y t1 (L t0.k) t3) (Y e1 e2 e3)<|Y v1 v2 v3) 107;have B6:W ((y0:M)+1) (J5 F (Y t1 (L t0.k) t3) (Y e1 e2 e3)<|Y v1 v2 v3) 107<|(y0.alloc<|R' (Dc t0 (Y a1 (L t0.k) E) (Y H l2 N)<|Y I l3 c3) 114).alloc<|R' (J5 F (Y t1 (L t0.k) t3) (Y e1 e2 e3)<|Y v1 v2 v3) 107:=by have:=W.new (y0.alloc<|R' (Dc t0 (Y a1 (L t0.k) E) (Y H l2 N)<|Y I l3 c3) 114) (J5 F (Y t1 (L t0.k) t3) (Y e1 e2 e3)<|Y v1 v2 v3) 107;simp only[World.size_alloc]at this;exact this
 have AL:=((CT Cb y0).alloc<|R' (Dc t0 (Y a1 (L t0.k) E) (Y H l2 N)<|Y I l3 c3) 114).alloc<|R' (J5 F (Y t1 (L t0.k) t3) (Y e1 e2 e3)<|Y v1 v2 v3) 107;go_upto_region 2 with fail;change Code.wp _ _ _ _ ((y0.alloc<|R' (Dc t0 (Y a1 (L t0.k) E) (Y H l2 N)<|Y I l3 c3) 114).alloc<|R' (J5 F (Y t1 (L t0.k) t3) (Y e1 e2 e3)<|Y v1 v2 v3) 107);generalize (y0.alloc<|R' (Dc t0 (Y a1 (L t0.k) E) (Y H l2 N)<|Y I l3 c3) 114).alloc (R' (J5 F (Y t1 (L t0.k) t3) (Y e1 e2 e3)<|Y v1 v2 v3) 107)=h7 at B4 B6 AL|-;generalize i2:(y0:M)+1=b6 at B6|-;generalize i1:(y0:M)=f at B4|-;have d8:mW U C R v0 p0 o1 s2 V z0 s0 P y0 f b6 (Dc t0 (Y a1 (L t0.k) E) (Y H l2 N)<|Y I l3 c3) (J5 F (Y t1 (L t0.k) t3) (Y e1 e2 e3)<|Y v1 v2 v3) (Y a1 (L t0.k) E) (Y t1 (L t0.k) t3) t0.k F.wZ s1 h7:=⟨HX.t8 AL,Hf.of AL,B4,B6,Cx d3 AL λ_ _ q=>q,Cx b3 AL λ_ _ q=>q⟩;have b1:D<|L F.wZ=L t0.k:=(CU b3).symm;clear B4 B6 AL d3 b3 n0 n1 n2 n3 n4 n5 n6 d0 f0 d7 lp lg i1 i2 ti;go_wp2_with fail;go_loopw[7] (λi wr=>∃(k:M) (s':Ls),k<=L t0.k/\i=G A k/\mW U C R v0 p0 o1 s2 V z0 s0 P y0 f b6 (Dc t0 (Y a1 (L t0.k) E) (Y H l2 N)<|Y I l3 c3) (J5 F (Y t1 (L t0.k) t3) (Y e1 e2 e3)<|Y v1 v2 v3) (Y a1 (L t0.k) E) (Y t1 (L t0.k) t3) t0.k F.wZ s' wr/\D (JF U C R s1 s' (λS=>∀i a,i<k->z2.s.k[i]? =T a->S.F (vN z2.f a) (vN g i)))) (λi _=>L t0.k-(zm i).toNat);exact⟨0,s1,by omega,Q,d8,(JF.rf HX.p.i).to λ_ _ i a q=>by omega⟩;clear d8;obtain⟨k,s',hk,rfl,p,NX⟩:=hrel;by_cases a7:k<L t0.k
 .have tk:zu ((k:zw)<(L t0.k:zw))=zt:=by simp;omega
  obtain⟨ag,rfl,k4,c9⟩:=p.ar.get a7;have d1:Fb s2 wr (Y t1 (L F.wZ) t3) F.wZ:=by rw[b1.o];exact p.tk
  obtain⟨tg,rfl,k5,f2⟩:=d1.get (i:=k) (by rw[b1.o];exact a7);have g0:=c9 0 (by decide);have g1:=c9 1 (by decide);have g2:=c9 2 (by decide);have g3:=f2 0 (by decide);simp only[GJ,Aa,Ab,Au]at g0 g1 g2 g3;have d6:k<L z2.s.k:=by rw[<-(K.arx a6 b7).1];exact a7
  have e7:k<L o0[g].wZ:=by rw[HF.o,b1.o];exact a7
  have hx:=(K.arx a6 b7).2 k a7 d6;have hy:=K.pax c4 e7;obtain⟨a4,hA⟩:=Dv<|t0.k[k];have h8:a4.a.size<=4000:=by rw[<-hA];exact hu.2.2 _<|Am _
  rw[hA]at g0 g1 g2 hx;have i0:∃Tt,(F.wZ[k]'(by rw[b1.o];exact a7)).a=Tt/\Tt.size<=4000/\F.I.a++⟨#[46]⟩++Tt=EC U (vN g k)/\F.I.a.size<=4000:=by
   refine⟨_,Q,?_,?_,?_⟩
   .have:=K.tkt g c4 k e7;simp only[HF.o]at this;rw[this];exact K.hy.nm.y _ _
   .have:=hy.1;simp only[HF.o]at this;exact this
   .have:=K.I g c4;rw[HF.o]at this;rw[this];exact K.hy.nm.I _
  obtain⟨Tt,d2,j7,e0,j8⟩:=i0;rw[d2]at g3;have c0:∀b,O Cb wr b->F' zy 69 #[Z'<|T ⟨p0,0,Z⟩,N'<|Dc t0 (Y (T ⟨ag,0,Z⟩) (L t0.k) E) (Y H l2 N)<|Y I l3 c3,N'<|mV a4] b λe d=>e=T' (Y'<|EC U<|vN z2.f z2.s.k[k])/\O Cb b d:=λb h3=>by have:=LU b5 (p.t8 h3).x t0 (Y (T ⟨ag,0,Z⟩) (L t0.k) E) (Y H l2 N) (Y I l3 c3) ⟨_,_,_,Q⟩ ⟨_,_,_,Q⟩ ⟨_,_,_,Q⟩ a4 (K.ix a6) h8;rw[Ra,hx.1]at this;exact this
  have b0:∀b,O Cb wr b->F' zy 71 #[Z'<|T ⟨p0,0,Z⟩,Y'<|EC U<|vN z2.f z2.s.k[k],Y'<|F.I.a++{data:=#[46]}++Tt] b λe d=>e=T' (P' #[])/\Lb U C R v0 p0 o1 V z0 s0 s' b d (λS=>Dh U C (vN g k)->S.F (vN z2.f z2.s.k[k]) (vN g k)):=λb h3=>Le K.nm K.hy v0 p0 o1 V z0 s0 s' b (p.x.p.t8 h3) _ _ Q e0 (zo hx.2) (zo hy.2) λ_ _=>hE.1 k _<|Ag d6
  have h0:=J hy.2;obtain⟨X,hX⟩:=Dv<|EC U<|vN z2.f z2.s.k[k];rw[hX]at c0 b0;have HC:D (∀b,Hf p0 z0 s0 wr b->K' b ⟨f,0,Z⟩=T (G A t0.e)/\K' b ⟨f,1,Z⟩=T (Y' t0.p.a)/\K' b ⟨f,2,Z⟩=T (G A t0.p.pos)/\K' b ⟨f,3,Z⟩=T (G A t0.p.h)/\K' b ⟨f,4,Z⟩=T (Y' t0.q.a)/\K' b ⟨f,5,Z⟩=T (G A t0.q.pos)/\K' b ⟨f,6,Z⟩=T (G A t0.q.h)/\K' b ⟨f,7,Z⟩=T (G A t0.wU)/\K' b ⟨f,8,Z⟩=T (Y (T ⟨ag,0,Z⟩) (L t0.k) E)/\K' b ⟨f,9,Z⟩=T (G A t0.t9)/\K' b ⟨f,10,Z⟩=T (Y H l2 N)/\K' b ⟨f,11,Z⟩=T (Y I l3 c3)/\K' b ⟨f,12,Z⟩=T (G A t0.br)/\K' b ⟨f,13,Z⟩=T (G A t0.xY)/\K' b ⟨f,14,Z⟩=T (G A t0.l)/\K' b ⟨b6,0,Z⟩=T (Y' F.I.a)/\K' b ⟨b6,3,Z⟩=T (Y (T ⟨tg,0,Z⟩) (L t0.k) t3)/\K' b ⟨ag,k*3,Z⟩=T (Y' a4.a)/\K' b ⟨ag,k*3+1,Z⟩=T (G A a4.pos)/\K' b ⟨ag,k*3+2,Z⟩=T (G A a4.h)/\K' b ⟨tg,k*3,Z⟩=T (Y' Tt)):=λb h3=>by
   have m:=p.x.p.m.p h3 p.b4 (by decide) (by decide);have h6:=p.x.p.m.p h3 p.b6 (by decide) (by decide);have ha:=p.x.p.m.row h3 p.ar (by decide) (by decide);have ht:=p.x.p.m.row h3 d1 (by decide) (by decide);have ga:∀j,j<3->K' b ⟨ag,k*3+j,Z⟩=(GJ a4)[j]? :=λj hj=>by rw[ha.cellAt (k*3+j)<|by omega,UJ t0.k k a7 j hj,hA]
   have gt:K' b ⟨tg,k*3+0,Z⟩=T (Y' Tt):=by rw[ht.cellAt (k*3+0)<|by rw[b1.o];omega,UJ F.wZ k (by rw[b1.o];exact a7) 0<|by decide,<-d2];rfl
   exact⟨m.z 0,m.z 1,m.z 2,m.z 3,m.z 4,m.z 5,m.z 6,m.z 7,m.z 8,m.z 9,m.z 10,m.z 11,m.z 12,m.z 13,m.z 14,h6.z 0,h6.z 3,ga 0<|by decide,ga 1<|by decide,ga 2<|by decide,gt⟩
  clear hx hy hA d2 e0 hX c9 f2 d1;have k1:¬(9223372036854775807<F.I.a.size+1):=by omega
  have k2:¬(9223372036854775807<F.I.a.size+1+Tt.size):=by omega
  obtain⟨n7,y1,y2,y3,y4,y5,y6,y7,y8,y9,n8,n9,o2,o6,o7,o8,o9,p1,p2,p3,p6⟩:=HC.o wr<|CT _ _;clear g0 g1 g2 g3;go_wp2_with fail;go_region_held3(λd=>K' d ⟨f,0,Z⟩=T (G A t0.e)/\K' d ⟨f,1,Z⟩=T (Y' t0.p.a)/\K' d ⟨f,2,Z⟩=T (G A t0.p.pos)/\K' d ⟨f,3,Z⟩=T (G A t0.p.h)/\K' d ⟨f,4,Z⟩=T (Y' t0.q.a)/\K' d ⟨f,5,Z⟩=T (G A t0.q.pos)/\K' d ⟨f,6,Z⟩=T (G A t0.q.h)/\K' d ⟨f,7,Z⟩=T (G A t0.wU)/\K' d ⟨f,8,Z⟩=T (Y (T ⟨ag,0,Z⟩) (L t0.k) E)/\K' d ⟨f,9,Z⟩=T (G A t0.t9)/\K' d ⟨f,10,Z⟩=T (Y H l2 N)/\K' d ⟨f,11,Z⟩=T (Y I l3 c3)/\K' d ⟨f,12,Z⟩=T (G A t0.br)/\K' d ⟨f,13,Z⟩=T (G A t0.xY)/\K' d ⟨f,14,Z⟩=T (G A t0.l)/\K' d ⟨b6,0,Z⟩=T (Y' F.I.a)/\K' d ⟨b6,3,Z⟩=T (Y (T ⟨tg,0,Z⟩) (L t0.k) t3)/\K' d ⟨ag,k*3,Z⟩=T (Y' a4.a)/\K' d ⟨ag,k*3+1,Z⟩=T (G A a4.pos)/\K' d ⟨ag,k*3+2,Z⟩=T (G A a4.h)/\K' d ⟨tg,k*3,Z⟩=T (Y' Tt)) (go_keep)
   (first
     |(go_at_call 69;refine(c0 _ oq).mono ?_;rintro e w3 ⟨rfl,o3⟩;have O3:=O.trans (X:=Cb) (a:=wr) oq o3;clear o3;obtain⟨z0,a9,a0,z3,z4,z5,z6,z7,z8,z9,z10,z11,z12,z13,z14,z15,z16,z17,z18,z19,z20⟩:=HC.o w3<|Hf.of O3)
     |(go_at_call 71;refine(b0 _<|O.trans (X:=Cb) (a:=wr) O3 oq).mono ?_;rintro e w5 ⟨rfl,s5,p5,x5,o5⟩;have O5:=Hf.trans (Hf.of<|O.trans (X:=Cb) (a:=wr) O3 oq) o5;have P5:=p5;have X5:=x5;clear o5 p5 x5;obtain⟨q0,q1,q2,q3,q4,q5,q6,q7,q8,q9,k6,k7,k8,k9,l0,l1,l4,l5,l6,l7,l8⟩:=HC.o w5 O5))
  all_goals
   have N5:JF U C R s1 s5 (λS=>∀i a,i<k+1->z2.s.k[i]? =T a->S.F (vN z2.f a) (vN g i)):=by
    refine(NX.then X5 λS h5 c8 q i a h1 h2=>c8.f _ _<|q i a h1 h2).to λ_ q i a h1 h2=>?_
    rcases AV i k with z|z
    .exact q.1 i a z h2
    .obtain rfl:i=k:=by omega
     rw[Ag d6]at h2;cases h2;exact q.2 h0
   have C5:=p.q P5 O5;clear P5 X5 O5 O3 p NX;go_wp2_with fail;go_roundw;exact⟨k+1,s5,by omega,by go_num,C5,N5⟩;simp[intOf];omega
 .have tk:zu ((k:zw)<(L t0.k:zw))=zr:=by simp;omega
  have b8:=p.b4.j8;have i9:=Cz p.b4;have N0:JF U C R s1 s' (λS=>(∀i a,z2.s.k[i]? =T a->S.F (vN z2.f a) (vN g i))/\∀(v:M) (u':FS) (o:Rl),v<0->x1[v]? =T u'->NW U u' o->o.s.e=10->o.f=g->S.F o.sr z2.tg):=NX.to λ_ q=>⟨λi a h2=>q i a (by have:=(Bz.1 h2).1;have:=(K.arx a6 b7).1;omega) h2,λv _ _ h=>by omega⟩
  go_wp2_with fail;clear b8 i9;go_loopw[8] (λi wr=>∃(j:M) (s':Ls),j<=L x1/\i=G A j/\mW U C R v0 p0 o1 s2 V z0 s0 P y0 f b6 (Dc t0 (Y a1 (L t0.k) E) (Y H l2 N)<|Y I l3 c3) (J5 F (Y t1 (L t0.k) t3) (Y e1 e2 e3)<|Y v1 v2 v3) (Y a1 (L t0.k) E) (Y t1 (L t0.k) t3) t0.k F.wZ s' wr/\D (JF U C R s1 s' (λS=>(∀i a,z2.s.k[i]? =T a->S.F (vN z2.f a) (vN g i))/\∀(v:M) (u':FS) (o:Rl),v<j->x1[v]? =T u'->NW U u' o->o.s.e=10->o.f=g->S.F o.sr z2.tg))) (λi _=>L x1-(zm i).toNat);exact⟨0,s',by omega,Q,p,N0⟩;clear p NX N0;obtain⟨j,c6,hj,rfl,p,NX⟩:=hrel;have b2:=b5.at p.x.low;have d0:=p.x.p.m.bx.j0;have d7:=Cz p.x.p.m.bx;have f1:=W.j1 b2.r;have lp:=Cz b2.r;obtain⟨rs,a5,_⟩:=b2.st;obtain⟨j5,j6,rfl⟩:=CB a5;by_cases e6:j<L x1
  .have tj:zu ((j:zw)<(L x1:zw))=zt:=by simp;omega
   obtain⟨sg,rfl⟩:=CH a5 (by omega);have j0:=(a5.lt sg Q).2;obtain⟨u7,ybv,yov,t,f5,f6,f7⟩:=b2.st.get e6;obtain⟨y1,y2,y3,rfl⟩:=CA f5;obtain⟨y4,y5,y6,rfl⟩:=CA f6;obtain⟨y7,y8,y9,rfl⟩:=CA f7;obtain⟨y,hy⟩:=Dv<|x1[j];rw[hy]at t;have HY:D<|x1[j]? =T y:=by rw[Ag e6,hy];exact J Q
   have i7:=K.z y (by rw[<-hy];exact Am _);have i6:=K.l j y HY.o;have m0:=t 0 (by decide);have m1:=t 1 (by decide);have m2:=t 2 (by decide);have m3:=t 3 (by decide);have m4:=t 4 (by decide);have m5:=t 5 (by decide);have m6:=t 6 (by decide);have m7:=t 7 (by decide);have m8:=t 8 (by decide);have m9:=t 9 (by decide);have f8:=t 10 (by decide);have f9:=t 11 (by decide);have g4:=t 12 (by decide);have g5:=t 13 (by decide);have g6:=t 14 (by decide);simp only[Dc,Ac,Aa,Ab,Au]at m0 m1 m2 m3 m4 m5 m6 m7 m8 m9 f8 f9 g4 g5 g6;have B9:=W.new wr (Dc y (Y y1 y2 y3) (Y y4 y5 y6)<|Y y7 y8 y9) 114;have AL:=(CT Cb wr).alloc<|R' (Dc y (Y y1 y2 y3) (Y y4 y5 y6)<|Y y7 y8 y9) 114;clear t f5 f6 f7 hy a5 b2;go_upto_region 10 with fail;change Code.wp _ _ _ _ (wr.alloc<|R' (Dc y (Y y1 y2 y3) (Y y4 y5 y6)<|Y y7 y8 y9) 114);generalize wr.alloc (R' (Dc y (Y y1 y2 y3) (Y y4 y5 y6)<|Y y7 y8 y9) 114)=W1 at B9 AL|-;generalize (wr:M)=n at B9|-;have C1:=p.t8 AL;clear p AL m0 m1 m2 m3 m4 m5 m6 m7 m8 m9 f8 f9 g4 g5 g6 d0 f1 d7 lp j0;have k0:=B9.j0;have i8:=B9.j14;have l9:=Cz B9;by_cases c5:y.e=11/\y.l=g
   .obtain⟨a8,d4⟩:=c5;obtain⟨o,M'⟩:∃o,NW U y o:=by
     rcases K.rule j y HY.o with q|q
     .omega
     .exact q
    have d5:o.s.e=10:=by
     have h1:=M'.e;have h2:=M'.xE;unfold FK at h1;split at h1
     .omega
     .split at h1<;>omega
    have e9:o.f=g:=by rw[<-M'.l];exact d4
    have g7:((y.e:zw)==11)=zt:=by simp[a8]
    have j1:((y.l:zw)==(g:zw))=zt:=by simp[d4]
    have hx:=K.srx M' (by omega);have hz:=K.tgx a6 (by have:=b7;omega) (by have:=b7;omega);have c0:∀b,O Cb W1 b->F' zy 69 #[Z'<|T ⟨p0,0,Z⟩,N'<|Dc y (Y y1 y2 y3) (Y y4 y5 y6)<|Y y7 y8 y9,N'<|mV y.q] b λe d=>e=T' (Y'<|EC U o.sr)/\O Cb b d:=λb h3=>by have:=LU b5 (C1.t8 h3).x y (Y y1 y2 y3) (Y y4 y5 y6) (Y y7 y8 y9) ⟨_,_,_,Q⟩ ⟨_,_,_,Q⟩ ⟨_,_,_,Q⟩ y.q i6 i7.2.1;rw[Ra,hx.1]at this;exact this
    have d9:∀b,O Cb W1 b->F' zy 69 #[Z'<|T ⟨p0,0,Z⟩,N'<|Dc t0 (Y a1 (L t0.k) E) (Y H l2 N)<|Y I l3 c3,N'<|mV t0.p] b λe d=>e=T' (Y'<|EC U z2.tg)/\O Cb b d:=λb h3=>by have:=LU b5 (C1.t8 h3).x t0 (Y a1 (L t0.k) E) (Y H l2 N) (Y I l3 c3) ⟨_,_,_,Q⟩ ⟨_,_,_,Q⟩ ⟨_,_,_,Q⟩ t0.p (K.ix a6) hu.1;rw[Ra,hz.1]at this;exact this
    have e8:Sr U g o.sr:=⟨o.s,by rw[<-e9];exact M'.rl.2,d5,by rw[<-e9];rfl⟩;have b0:∀b,O Cb W1 b->F' zy 71 #[Z'<|T ⟨p0,0,Z⟩,Y'<|EC U o.sr,Y'<|EC U z2.tg] b λe d=>e=T' (P' #[])/\Lb U C R v0 p0 o1 V z0 s0 c6 b d (λS=>Dh U C z2.tg->S.F o.sr z2.tg):=λb h3=>Le K.nm K.hy v0 p0 o1 V z0 s0 c6 b (C1.x.p.t8 h3) _ _ Q Q (zo hx.2) (zo hz.2) λ_ _=>hE.2 _ e8
    obtain⟨g8,g9,j2⟩:=Dq hz.2 d5 hx.2;obtain⟨X,hX⟩:=Dv<|EC U o.sr;obtain⟨j3,hZ⟩:=Dv<|EC U z2.tg;rw[hX]at c0 b0;rw[hZ]at d9 b0;have HC:D (∀b,Hf p0 z0 s0 W1 b->K' b ⟨n,0,Z⟩=T (G A y.e)/\K' b ⟨n,1,Z⟩=T (Y' y.p.a)/\K' b ⟨n,2,Z⟩=T (G A y.p.pos)/\K' b ⟨n,3,Z⟩=T (G A y.p.h)/\K' b ⟨n,4,Z⟩=T (Y' y.q.a)/\K' b ⟨n,5,Z⟩=T (G A y.q.pos)/\K' b ⟨n,6,Z⟩=T (G A y.q.h)/\K' b ⟨n,7,Z⟩=T (G A y.wU)/\K' b ⟨n,8,Z⟩=T (Y y1 y2 y3)/\K' b ⟨n,9,Z⟩=T (G A y.t9)/\K' b ⟨n,10,Z⟩=T (Y y4 y5 y6)/\K' b ⟨n,11,Z⟩=T (Y y7 y8 y9)/\K' b ⟨n,12,Z⟩=T (G A y.br)/\K' b ⟨n,13,Z⟩=T (G A y.xY)/\K' b ⟨n,14,Z⟩=T (G A y.l)/\K' b ⟨f,0,Z⟩=T (G A t0.e)/\K' b ⟨f,1,Z⟩=T (Y' t0.p.a)/\K' b ⟨f,2,Z⟩=T (G A t0.p.pos)/\K' b ⟨f,3,Z⟩=T (G A t0.p.h)/\K' b ⟨f,4,Z⟩=T (Y' t0.q.a)/\K' b ⟨f,5,Z⟩=T (G A t0.q.pos)/\K' b ⟨f,6,Z⟩=T (G A t0.q.h)/\K' b ⟨f,7,Z⟩=T (G A t0.wU)/\K' b ⟨f,8,Z⟩=T (Y a1 (L t0.k) E)/\K' b ⟨f,9,Z⟩=T (G A t0.t9)/\K' b ⟨f,10,Z⟩=T (Y H l2 N)/\K' b ⟨f,11,Z⟩=T (Y I l3 c3)/\K' b ⟨f,12,Z⟩=T (G A t0.br)/\K' b ⟨f,13,Z⟩=T (G A t0.xY)/\K' b ⟨f,14,Z⟩=T (G A t0.l)):=λb h3=>by have m:=C1.x.p.m.p h3 C1.b4 (by decide) (by decide);have h9:=C1.x.p.m.p h3 B9 (by decide) (by decide);exact⟨h9.z 0,h9.z 1,h9.z 2,h9.z 3,h9.z 4,h9.z 5,h9.z 6,h9.z 7,h9.z 8,h9.z 9,h9.z 10,h9.z 11,h9.z 12,h9.z 13,h9.z 14,m.z 0,m.z 1,m.z 2,m.z 3,m.z 4,m.z 5,m.z 6,m.z 7,m.z 8,m.z 9,m.z 10,m.z 11,m.z 12,m.z 13,m.z 14⟩
    clear hx hz hX hZ a8 d4 e8 d5;clear k0 i8;obtain⟨p7,p8,s4,t9,u0,u2,u3,u4,u5,u6,p9,r0,r1,r3,r4,r5,r6,r7,r8,r9,s6,s7,s8,s9,t2,t4,t5,t6,t7,t8⟩:=HC.o W1<|CT _ _;go_wp2_with fail;go_region_held3(λd=>K' d ⟨n,0,Z⟩=T (G A y.e)/\K' d ⟨n,1,Z⟩=T (Y' y.p.a)/\K' d ⟨n,2,Z⟩=T (G A y.p.pos)/\K' d ⟨n,3,Z⟩=T (G A y.p.h)/\K' d ⟨n,4,Z⟩=T (Y' y.q.a)/\K' d ⟨n,5,Z⟩=T (G A y.q.pos)/\K' d ⟨n,6,Z⟩=T (G A y.q.h)/\K' d ⟨n,7,Z⟩=T (G A y.wU)/\K' d ⟨n,8,Z⟩=T (Y y1 y2 y3)/\K' d ⟨n,9,Z⟩=T (G A y.t9)/\K' d ⟨n,10,Z⟩=T (Y y4 y5 y6)/\K' d ⟨n,11,Z⟩=T (Y y7 y8 y9)/\K' d ⟨n,12,Z⟩=T (G A y.br)/\K' d ⟨n,13,Z⟩=T (G A y.xY)/\K' d ⟨n,14,Z⟩=T (G A y.l)/\K' d ⟨f,0,Z⟩=T (G A t0.e)/\K' d ⟨f,1,Z⟩=T (Y' t0.p.a)/\K' d ⟨f,2,Z⟩=T (G A t0.p.pos)/\K' d ⟨f,3,Z⟩=T (G A t0.p.h)/\K' d ⟨f,4,Z⟩=T (Y' t0.q.a)/\K' d ⟨f,5,Z⟩=T (G A t0.q.pos)/\K' d ⟨f,6,Z⟩=T (G A t0.q.h)/\K' d ⟨f,7,Z⟩=T (G A t0.wU)/\K' d ⟨f,8,Z⟩=T (Y a1 (L t0.k) E)/\K' d ⟨f,9,Z⟩=T (G A t0.t9)/\K' d ⟨f,10,Z⟩=T (Y H l2 N)/\K' d ⟨f,11,Z⟩=T (Y I l3 c3)/\K' d ⟨f,12,Z⟩=T (G A t0.br)/\K' d ⟨f,13,Z⟩=T (G A t0.xY)/\K' d ⟨f,14,Z⟩=T (G A t0.l)) (go_keep)
     (first
       |(go_at_call 71;have q9:=O4;refine(b0 _<|O.trans (X:=Cb) (a:=W1) O4 oq).mono ?_;rintro e w5 ⟨rfl,s5,p5,x5,o5⟩;have O5:=Hf.trans (Hf.of<|O.trans (X:=Cb) (a:=W1) O4 oq) o5;have P5:=p5;have X5:=x5;clear o5 p5 x5;obtain⟨yc0,yc1,yc2,yc3,yc4,yc5,yc6,yc7,yc8,yc9,yc10,yc11,yc12,yc13,yc14,yc15,yc16,yc17,yc18,yc19,yc20,yc21,yc22,yc23,yc24,yc25,yc26,yc27,yc28,yc29⟩:=HC.o w5 O5)
       |(go_at_call 69;have q9:=O3;refine(d9 _<|O.trans (X:=Cb) (a:=W1) O3 oq).mono ?_;rintro e w4 ⟨rfl,o4⟩;have O4:=O.trans (X:=Cb) (a:=W1) (O.trans (X:=Cb) (a:=W1) O3 oq) o4;clear o4;obtain⟨yd0,yd1,yd2,yd3,yd4,yd5,yd6,yd7,yd8,yd9,yd10,yd11,yd12,yd13,yd14,yd15,yd16,yd17,yd18,yd19,yd20,yd21,yd22,yd23,yd24,yd25,yd26,yd27,yd28,yd29⟩:=HC.o w4<|Hf.of O4)
       |(go_at_call 69;refine(c0 _ oq).mono ?_;rintro e w3 ⟨rfl,o3⟩;have O3:=O.trans (X:=Cb) (a:=W1) oq o3;clear o3;obtain⟨u8,u9,w8,yb3,yb4,yb5,yb6,yb7,yb8,yb9,v4,v5,v6,v7,v8,v9,w1,w2,w6,w7,w9,x0,x3,x4,x6,x7,x8,x9,yb28,yb29⟩:=HC.o w3<|Hf.of O3))
    all_goals
     have N5:JF U C R s1 s5 (λS=>(∀i a,z2.s.k[i]? =T a->S.F (vN z2.f a) (vN g i))/\∀(v:M) (u':FS) (o:Rl),v<j+1->x1[v]? =T u'->NW U u' o->o.s.e=10->o.f=g->S.F o.sr z2.tg):=by
      refine(NX.then X5 λS h5 c8 q=>⟨λi a z=>c8.f _ _<|q.1 i a z,λv u' r2 a9 a0 z3 z4 z5=>c8.f _ _<|q.2 v u' r2 a9 a0 z3 z4 z5⟩).to λ_ q=>⟨q.1.1,λv u' r2 a9 a0 z3 z4 z5=>?_⟩
      rcases AV v j with z|z
      .exact q.1.2 v u' r2 z a0 z3 z4 z5
      .obtain rfl:v=j:=by omega
       rw[HY.o]at a0;cases a0;have e1:=K.srx z3 (by omega);have e2:=K.srx M' (by have:=g9.o;omega);rw[IJ K.nm K.hy (zo e1.2) (zo e2.2)<|e1.1.symm.trans e2.1];exact q.2 g8
     have C5:=C1.q P5 O5;clear P5 X5 O5 O4 O3 C1 NX;go_wp2_with fail;go_roundw;exact⟨j+1,s5,by omega,by go_num,C5,N5⟩;simp[intOf];omega
   .have N5:JF U C R s1 c6 (λS=>(∀i a,z2.s.k[i]? =T a->S.F (vN z2.f a) (vN g i))/\∀(v:M) (u':FS) (o:Rl),v<j+1->x1[v]? =T u'->NW U u' o->o.s.e=10->o.f=g->S.F o.sr z2.tg):=NX.to λ_ q=>⟨q.1,λv u' r2 a9 a0 z3 z4 z5=>by
     rcases AV v j with z|z
     .exact q.2 v u' r2 z a0 z3 z4 z5
     .obtain rfl:v=j:=by omega
      rw[HY.o]at a0;cases a0;refine Bm ⟨?_,?_⟩ c5
      .rw[z3.e,z4];rfl
      .rw[z3.l,z5]⟩
    by_cases a8:y.e=11
    have g7:((y.e:zw)==11)=zt:=by simp[a8]
    have i4:¬y.l=g:=λq=>c5 ⟨a8,q⟩
    have j1:((y.l:zw)==(g:zw))=zr:=by simp;omega
    clear a8 i4 c5
    rotate_left
    have g7:((y.e:zw)==11)=zr:=by simp;omega
    clear a8 c5
    all_goals
     go_wp2_with fail;go_roundw;exact⟨j+1,c6,by omega,by go_num,C1,N5⟩;simp[intOf];omega
  .have tj:zu ((j:zw)<(L x1:zw))=zr:=by simp;omega
   have R1:Lb U C R v0 p0 o1 V z0 s0 s1 y0 wr<|Gn U z2 g:=by
    refine⟨c6,p.x.p,NX.to λ_ q=>⟨q.1,λx hx=>?_⟩,p.o⟩;obtain⟨st,h1,h2,rfl⟩:=hx;rcases K.stmt ⟨g,st⟩ ⟨hg,h1⟩with z|⟨kk,uu,a9,a0⟩
    .simp only at z;omega
    .exact q.2 kk uu ⟨g,st⟩ (by have:=(Bz.1 a9).1;omega) a9 a0 h2 Q
   clear p NX b2 a5;go_wp2_with fail;go_end0;exact⟨Q,R1⟩
theorem mB(a:K9 U B C R)(h:Ir U C X)(b:VT X):Dh U C X:=by
 rcases h with q|⟨g,c,rfl⟩
 exact q;have:=a.ok.xE;grind[VT,fN]
theorem Oo(b:QT U z2)(a:DE z2)(h:(least U).I z2.at B):Gi U z2 B<|least U:=(Im U).fol z2 B b a h
theorem De(a:NW U t0 z2)(h:z2.s.e=B):t0.e=FK B:=by rw[a.e,h]
theorem iU(n)(h:t0.e=n):((t0.e:zw)==2)=zu (n=2)/\((t0.e:zw)==3)=zu (n=3)/\((t0.e:zw)==6)=zu (n=6)/\((t0.e:zw)==7)=zu (n=7)/\((t0.e:zw)==8)=zu (n=8)/\((t0.e:zw)==4)=zu (n=4)/\((t0.e:zw)==5)=zu (n=5)/\((t0.e:zw)==10)=zu (n=10)/\((t0.e:zw)==9)=zu (n=9):=by grind
theorem SR(K:OS U B C R o0 x1)(h:Xu U C R X v0 p0 V z0 s0 s1 P)(v:NW U t0 z2)(m:z2.s.e=5\/z2.s.e=9)(ht:(least U).I z2.at o1)(av bv ov)(a8:∃a l c,av=Y a l c)(a9:∃a l c,bv=Y a l c)(b0:∃a l c,ov=Y a l c)(x N I)(hX:x=EC U o1)(hZ:N=EC U z2.tg)(hQ:I=EC U z2.sr):
 F' zy 73 #[Z' v0,N'<|Dc t0 av bv ov,x,N,I] P λe b=>e=P' #[]/\Lb U C R X v0 p0 V z0 s0 s1 P b (Gi U z2 o1):=by
 obtain⟨d,n,i,rfl⟩:=a8;obtain⟨f,o,j,rfl⟩:=a9;obtain⟨g,p,k,rfl⟩:=b0;have S:=(Ft K.hy.ok ht).2;have a4:=(K.tgx v (by omega)<|by omega).2;have a7:=(K.srx v<|by omega).2;have a5:=Oo v.rl (by unfold DE;omega) ht;have AL:=(CT Cb P).alloc<|R' (Dc t0 (Y d n i) (Y f o j)<|Y g p k) 114;have B6:=W.new P (Dc t0 (Y d n i) (Y f o j)<|Y g p k) 114;have hP:=h.t8 AL;have a6:∀b,Lb U C R X v0 p0 V z0 s0 s1 (P.alloc<|R' (Dc t0 (Y d n i) (Y f o j)<|Y g p k) 114) b (Gi U z2 o1)->Lb U C R X v0 p0 V z0 s0 s1 P b (Gi U z2 o1):=λb ⟨H,y,E,F⟩=>⟨H,y,E,(Hf.of AL).trans F⟩
 rcases m with m|m
 have k5:((t0.e:zw)==5)=zt:=by rw[De v m];rfl
 have a0:F' zy 71 #[Z' v0,x,N] (P.alloc<|R' (Dc t0 (Y d n i) (Y f o j)<|Y g p k) 114) λe b=>e=P' #[]/\Lb U C R X v0 p0 V z0 s0 s1 (P.alloc<|R' (Dc t0 (Y d n i) (Y f o j)<|Y g p k) 114) b (Gi U z2 o1):=
  (Le K.nm K.hy X v0 p0 V z0 s0 s1 _ hP x N hX hZ S (zo a4) (λq _=>a5.2.1 m<|q.isC K.hy.ok.xE K.hy.ok.ok.y)).mono λe b ⟨q0,H,y,E,F⟩=>⟨q0,H,y,E.to λ_ z=>⟨λq=>by omega,λ_ _=>z a4,λq=>by omega,λq=>by omega⟩,F⟩
 rotate_left;have k5:((t0.e:zw)==5)=zr:=by rw[De v m];rfl
 have b2:((t0.e:zw)==10)=zt:=by rw[De v m];rfl
 have a0:F' zy 71 #[Z' v0,I,x] (P.alloc<|R' (Dc t0 (Y d n i) (Y f o j)<|Y g p k) 114) λe b=>e=P' #[]/\Lb U C R X v0 p0 V z0 s0 s1 (P.alloc<|R' (Dc t0 (Y d n i) (Y f o j)<|Y g p k) 114) b (Gi U z2 o1):=
  (Le K.nm K.hy X v0 p0 V z0 s0 s1 _ hP I x hQ hX (zo a7) S (λ_ q=>a5.2.2.1 m<|q.isC K.hy.ok.xE K.hy.ok.ok.y)).mono λe b ⟨q0,H,y,E,F⟩=>⟨q0,H,y,E.to λ_ z=>⟨λq=>by omega,λq=>by omega,λ_ q=>z<|mB K.hy S q,λq=>by omega⟩,F⟩
 all_goals
  clear h K v S a4 a7 a5 hP hX hZ hQ ht;go_in;go_upto_region 1 with fail;generalize P.alloc (R' (Dc t0 (Y d n i) (Y f o j)<|Y g p k) 114)=b1 at AL B6 a0 a6|-;have k0:=B6.j0;have lb:=Cz B6;go_wp2_with fail;refine a0.mono ?_;rintro e w2 ⟨rfl,q⟩;have R1:=a6 _ q;clear q;go_wp2_with fail;go_end0;exact⟨Q,R1⟩
def QG(n:M):Cd:=⟨(Lib.decDigits n).toArray⟩
theorem Jk(n)(h:n<=4001):(QG n).size<=5:=by grind[QG,Lib.decDigits,ByteArray.size]
theorem UM(P)(b:1<=B)(a:C<4):QG B++⟨#[46]⟩++QG C=EC P (pN B C):=by
 have e:Xz (pN B C)=⟨1,B,C⟩:=by grind[Xz,Gr,pN]
 unfold EC Kp QG;rw[e];apply ByteArray.ext;apply Array.ext';simp
theorem mD(P)(a:1<=B):QG B++⟨#[46,48]⟩=EC P (pN B 0):=by rw[<-UM P a (by decide)];unfold QG;rw[Lib.decDigits_one (i:=0)<|by decide];apply ByteArray.ext;apply Array.ext';simp
theorem XZ(K:OS U B C R o0 x1)(b8:mP o1 s2 v0 z1 u1 x2 o0 x1 C p4 P)(h:Qi U C R v0 p0 o1 V z0 s0 P s1 y0)(x:NW U t0 z2)(H:z2.s.e=3)(ht:(least U).I z2.at s3)(av bv ov:H')(d0:∃a l c,av=Y a l c)(d1:∃a l c,bv=Y a l c)(d6:∃a l c,ov=Y a l c)(X a7 c8:Cd)(hX:X=EC U s3)(hZ:a7=EC U z2.tg):
 F' zy 73 #[Z' p0,N'<|Dc t0 av bv ov,X,a7,c8] y0 λe v=>e=P' #[]/\Lb U C R v0 p0 o1 V z0 s0 s1 y0 v (Gi U z2 s3):=by
 obtain⟨a1,l1,c1,rfl⟩:=d0;obtain⟨a2,l2,c2,rfl⟩:=d1;obtain⟨a3,l3,I,rfl⟩:=d6;have b7:=(Ft K.hy.ok ht).2;have d2:=(K.tgx x (by omega)<|by omega).2;have b5:=Oo x.rl (by unfold DE;omega) ht;have d3:=(K.st x).wU;have e5:=K.hy.pn;have b2:t0.wU=z2.s.wU:=x.wU H;have k5:((t0.e:zw)==5)=zr:=by rw[De x H];rfl
 have e6:((t0.e:zw)==10)=zr:=by rw[De x H];rfl
 have k4:((t0.e:zw)==4)=zt:=by rw[De x H];rfl
 have AL:=(CT Cb y0).alloc<|R' (Dc t0 (Y a1 l1 c1) (Y a2 l2 c2)<|Y a3 l3 I) 114;have g:=W.new y0 (Dc t0 (Y a1 l1 c1) (Y a2 l2 c2)<|Y a3 l3 I) 114;have a4:=h.t8 AL;have b4:∀m,1<=m->s3=pN m 0->(least U).I z2.tg (pN m z2.s.wU):=λm hm e=>by
  have:=b5.1 H (by rw[e];unfold pN;omega) (by rw[e];unfold pN;omega);rw[e]at this;have e2:pN m 0+z2.s.wU=pN m z2.s.wU:=by unfold pN;omega
  rw[e2]at this;exact this
 have b9:D (∀n,1<=n->n<=C->((X.toList==(QG n++⟨#[46,48]⟩).toList)=zt↔s3=pN n 0)):=λn d j=>by rw[mD U d,hX];constructor;intro q;exact IJ K.nm K.hy b7 (zo<|zn ⟨n,0,d,j,by decide,Q⟩)<|EQ<|beq_iff_eq.1 q;rintro rfl;simp
 have HZ:=J hZ;have a6:=J H;have⟨f,a8⟩:=Dv<|z2.s.wU;rw[a8]at b4 d3 b2;have c0:=J a8;clear h x b5 hX hZ ht H a8;go_in;go_upto_region 1 with fail;generalize y0.alloc (R' (Dc t0 (Y a1 l1 c1) (Y a2 l2 c2)<|Y a3 l3 I) 114)=e0 at AL g a4|-;generalize (y0:M)=b6 at g|-;have k0:=g.j0;have lb:=Cz g;go_wp2_with fail;clear k0 lb;go_loopw[10] (λi wr=>∃(n:M) (y:Ls),1<=n/\n<=C+1/\i=G A n/\Qi U C R v0 p0 o1 V z0 s0 P y wr/\W b6 (Dc t0 (Y a1 l1 c1) (Y a2 l2 c2)<|Y a3 l3 I) 114 wr/\Hf p0 z0 s0 y0 wr/\D (JF U C R s1 y (λS=>∀m,1<=m->m<n->s3=pN m 0->S.I z2.tg (pN m f)))) (λi _=>C+1-(zm i).toNat);exact⟨1,s1,by omega,by omega,Q,a4,g,Hf.of AL,(JF.rf a4.p.i).to λ_ _ m d j=>by omega⟩;clear a4 g AL;obtain⟨n,y,a9,e4,rfl,o,g,HO,NX⟩:=hrel;have b1:=b8.at o.low;have d8:=o.p.m.bx.j0;have e7:=Cz o.p.m.bx;have f2:=W.j2 b1.r;have lp:=Cz b1.r;clear b1;by_cases d5:n<=C
 .have tn:zu ((n:zw)<=(C:zw))=zt:=by simp;omega
  have hz:=Jk n (by omega);have a0:=b9.o n a9 d5;have HD:∀b,F' zy 22 #[n] b λe v=>e=QG n/\O Cb b v:=λb=>(Jx n (by omega) b).mono λ_ _ ⟨d,m,j⟩=>⟨d,by rw[j];exact(CT _ _).drewN m⟩
  have b0:∀b,O Cb wr b->s3=pN n 0->F' zy 70 #[Z' p0,a7,(QG n++{data:=#[46]}++QG f)] b λe v=>e=P' #[]/\Lb U C R v0 p0 o1 V z0 s0 y b v (λS=>S.I z2.tg<|pN n f):=λb p e=>Qb K.nm K.hy v0 p0 o1 V z0 s0 y b (o.p.t8 p) _ _ HZ.o (UM U a9<|by omega) d2<|b4 n a9 e
  have d7:=Jk f (by omega);have b3:∀b,F' zy 22 #[f] b λe v=>e=QG f/\O Cb b v:=λb=>(Jx f (by omega) b).mono λ_ _ ⟨d,m,j⟩=>⟨d,by rw[j];exact(CT _ _).drewN m⟩
  have⟨a5,hD⟩:=Dv<|QG n;have⟨E,hE⟩:=Dv<|QG f;rw[hD]at hz HD b0 a0;rw[hE]at d7 b3 b0;clear hD hE;cases hb:(X.toList==(a5++({data:=#[46,48]}:Cd)).toList)with
  |true=>
   have HT:=J<|a0.1 hb;clear a0;have c7:=g.j7;have lb:=Cz g;rw[b2]at c7;have e1:¬(9223372036854775807<a5.size+1):=by omega
   have e3:¬(9223372036854775807<a5.size+1+E):=by omega
   have HC:D (∀b,Hf p0 z0 s0 wr b->b (b6,7)=f):=λb p=>by have:=(o.p.m.p p g (by decide)<|by decide).z 7;simp only[Dc,Ac,Aa,Ab]at this;rw[b2]at this;exact this
   go_upto_region 11 with(go_at_call 22;refine(HD _).mono ?_;rintro e w3 ⟨rfl,o3⟩;have F:=o3;clear o3);have I:=HC.o w3<|Hf.of F;clear c7 d8 f2;go_region_held3(λv=>v (b6,7)=f) (go_keep)
    (first
      |(go_at_call 70;refine(b0 _ (O.trans (X:=Cb) (a:=wr) O5 oq) HT.o).mono ?_;rintro e w6 ⟨rfl,s6,p6,x6,o6⟩;have N:=Hf.trans (Hf.of<|O.trans (X:=Cb) (a:=wr) O5 oq) o6;clear o6;have c6:=HC.o w6 N)
      |(go_at_call 22;have q9:=O4;refine(b3 _).mono ?_;rintro e w5 ⟨rfl,o5⟩;have O5:=O.trans (X:=Cb) (a:=wr) (O.trans (X:=Cb) (a:=wr) O4 oq) o5;clear o5;have c5:=HC.o w5<|Hf.of O5)
      |(go_at_call 22;refine(HD _).mono ?_;rintro e w4 ⟨rfl,o4⟩;have O4:=O.trans (X:=Cb) (a:=wr) (O.trans (X:=Cb) (a:=wr) F oq) o4;clear o4;have c4:=HC.o w4<|Hf.of O4))
   all_goals
    have N6:JF U C R s1 s6 (λS=>∀m,1<=m->m<n+1->s3=pN m 0->S.I z2.tg (pN m f)):=by
     refine(NX.then x6 λS d9 c9 q m d j p=>c9.i _ _<|q m d j p).to λ_ q m d j p=>?_
     rcases AV m n with z|z
     exact q.1 m d z p;obtain rfl:m=n:=by omega
     exact q.2
    have B7:=o.p.m.p N g (by decide) (by decide);have X7:=o.q p6 N;have O7:=HO.trans N;clear N p6 x6 O5 O4 F c6 c5 c4 I;go_wp2_with fail;go_roundw;exact⟨n+1,s6,by omega,by omega,by go_num,X7,B7,O7,N6⟩;simp[intOf];omega
  |false=>
   have HT:D<|s3≠pN n 0:=λq=>by have:=a0.2 q;rw[hb]at this;cases this
   have N6:JF U C R s1 y (λS=>∀m,1<=m->m<n+1->s3=pN m 0->S.I z2.tg (pN m f)):=NX.to λ_ q m d j p=>by
    rcases AV m n with z|z
    exact q m d z p;obtain rfl:m=n:=by omega
    exact Bm p HT.o
   clear a0;go_wp2_with(go_at_call 22;refine(HD _).mono ?_;rintro e w3 ⟨rfl,o3⟩;have F:=o3;clear o3);have X7:=o.t8 F;have B7:=g.j F id;have O7:=HO.trans<|Hf.of F;go_roundw;exact⟨n+1,y,by omega,by omega,by go_num,X7,B7,O7,N6⟩;simp[intOf];omega
 .have tn:zu ((n:zw)<=(C:zw))=zr:=by simp;omega
  have R1:Lb U C R v0 p0 o1 V z0 s0 s1 y0 wr<|Gi U z2 s3:=by
   refine⟨y,o.p,NX.to λ_ q=>⟨λ_ d j=>?_,λq=>by have:=a6.o;omega,λq=>by have:=a6.o;omega,λq=>by have:=a6.o;omega⟩,HO⟩;obtain⟨m,k,m1,m2,m3,rfl⟩:=b7.wU K.hy.ok.xE K.hy.ok.ok.y d;have d4:k=0:=by unfold pN at j;omega
   subst d4;have:=q m m1 (by omega) Q;rw[c0.o,show pN m 0+f=pN m f by unfold pN;omega];exact this
  clear o g HO NX;go_wp2_with fail;go_end0;exact⟨Q,R1⟩
theorem JJ.setE(h:JJ B C R V z0 (Y (T ⟨p0,0,Z⟩) X v0) n0 s1 P)(i u d)(hu:CK B P u d):
 JJ B C R V z0 (Y (T ⟨p0,0,Z⟩) X v0) n0 ⟨s1.cells,s1.P.set i d,s1.more⟩ (P.setCell ⟨p0,i,Z⟩ u)/\O (λk=>k=p0) P (P.setCell ⟨p0,i,Z⟩ u)/\B<=p0:=by
 have b:O (λk=>k=p0) P<|P.setCell (p0,i) u:=(CT _ P).wS i u;have n:=h.V;have⟨a,c,e⟩:=n.form;cases e;have⟨I,t,p,ha⟩:=n;have⟨E,K,U,hh⟩:=ES p (k:=p0) Q;have r:∀{v l},CK B P v l->CK B (P.setCell (p0,i) u) v l:=fun{v l} q=>CD q b λk N S o z=>by grind
 refine⟨⟨h.bx.j b λq=>?_,r h.nr,h.nl,?_,⟨I.set i u,by simp[t],?_,λj f m=>?_⟩,h.sb,h.ne,h.ln,h.sh⟩,b,E⟩;have hb:=h.bx;grind[W];have⟨y,x,H,F⟩:=h.cl;exact⟨y,x,Cx H b λk o q=>h.ne k p0 o Q q,λj f m=>r<|F j f m⟩;have:=(p.stored i u).1;grind;grind
theorem aI(a:K9 U B C R)(b:X<U):⟨#[64]⟩++DB U X=EC U (fN X):=by
 have:=a.ok.xE;have e:Xz (fN X)=⟨2,X,0⟩:=by grind[Xz,Gr,fN]
 unfold EC Kp DB;rw[e];apply ByteArray.ext;apply Array.ext';simp
theorem TQ.eshort(a:K9 U B C R)(h:TQ U C R s1)(b:n0∈s1.P):L n0<=12:=by
 obtain⟨i,d,rfl⟩:=AC.1 b;have:=Oy _ ((List.range U).map<|DB U) (h.es _ b).nodup λx e=>by obtain⟨g,c,rfl⟩:=h.ei i _ (Ag d) x e;exact AS.2 ⟨g,List.mem_range.2 (LR a.ok c).2,Q⟩
 have:=a.ok.xE;grind
structure fG(P:CQ)(pn cn B sb pb Bp:M)(nv cv ev:H')(w0 w:I')(b6:M)(xa:Cg)(av:H')(al:DH)(s:Ls)(wr:I'):Prop where
 x:Qi P pn cn B sb pb nv cv ev w0 s wr
 o:Hf sb cv ev w wr
 b6:W b6 xa 114 wr
 ar:Fb Bp wr av al
theorem fG.q{b a}(h:fG U B C R X v0 p0 V z0 s0 P y0 o1 q1 u1 o8 s1 v1)(k:Xu U B C R X v0 V z0 s0 b a)(o:Hf X z0 s0 v1 a):fG U B C R X v0 p0 V z0 s0 P y0 o1 q1 u1 o8 b a:=
 ⟨h.x.q k o,h.o.trans o,h.x.p.m.p o h.b6 nofun nofun,h.x.p.m.row o h.ar nofun nofun⟩
theorem fG.t8{a}(h:fG U B C R X v0 p0 V z0 s0 P y0 o1 q1 u1 o8 s1 v1)(o:O Cb v1 a):fG U B C R X v0 p0 V z0 s0 P y0 o1 q1 u1 o8 s1 a:=h.q (h.x.p.t8 o)<|Hf.of o
def tR(P:CQ)(p i B b o q:M)(m j k:H')(x:I'):Prop:=
 ∀(s:Ls) (w:I') (u:FS) (r:Rl) (t:M) (g h n:H') (X f d:Cd),Qi P p i B b o m j k x s w->NW P u r->DE r->(least P).I r.at t->mR 4000 u->Fb q w g u.k->(∃a l c,h=Y a l c)->(∃a l c,n=Y a l c)->X=EC P t->f=EC P r.tg->d=EC P r.sr->
  F' zy 73 #[Z' b,N'<|Dc u g h n,X,f,d] w λe v=>e=P' #[]/\Lb P p i B b o m j k s w v (Gi P r t)
def JV(P:CQ)(r:Rl)(S:Sy):Prop:=PE P r S/\(DE r->∀t,S.I r.at t->Gi P r t S)
theorem Ou(h:FK B=FK C):B=C:=by grind[FK]
theorem vD(K:OS U B C R o0 x1){b:Rl}(j:NW U t0 z2)(k:NW U t0 b){S:Sy}(h:JV U z2 S):JV U b S:=by
 have hk:b.s.e=z2.s.e:=Ou<|k.e.symm.trans j.e;have v:z2.s.e≠0->z2.s.e≠10->b.tg=z2.tg:=λq1 q2=>by have d:=K.tgx j q1 q2;have e:=K.tgx k (by omega) (by omega);exact IJ K.nm K.hy (zo e.2) (zo d.2)<|e.1.symm.trans d.1
 have a3:z2.s.e=2\/z2.s.e=3\/z2.s.e=5\/z2.s.e=6\/z2.s.e=8\/z2.s.e=9\/z2.s.e=10->b.sr=z2.sr:=λq=>by have d:=K.srx j q;have e:=K.srx k (by omega);exact IJ K.nm K.hy (zo e.2) (zo d.2)<|e.1.symm.trans d.1
 have a4:z2.s.e=4\/z2.s.e=7->b.s.n=z2.s.n:=λq=>by have d:=j.g q;have e:=k.g (by omega);exact K.nm.inj _ _ ((K.st k).func<|by omega) ((K.st j).func q)<|e.trans d.symm
 have y:z2.s.e=7\/z2.s.e=8->L b.s.k=z2.s.k/\∀i n,b.s.k[i]? =T n->∃a,z2.s.k[i]? =T a/\vN b.f n=vN z2.f a:=λq=>by
  have d:=K.arx j q;have e:=K.arx k (by omega);refine⟨e.1.symm.trans d.1,λi n s=>?_⟩;obtain⟨p,rfl⟩:=Bz.1 s;have o:i<t0.k:=by omega
  have w:i<z2.s.k:=by omega
  have m:=d.2 i o w;have l:=e.2 i o p;exact⟨_,Ag w,IJ K.nm K.hy (zo l.2) (zo m.2)<|l.1.symm.trans m.1⟩
 have a2:z2.s.e=1\/z2.s.e=8->b.s.t=z2.s.t:=λq=>(k.pl<|by omega).symm.trans<|j.pl q
 have a1:z2.s.e=3->b.s.wU=z2.s.wU:=λq=>(k.wU<|by omega).symm.trans<|j.wU q
 have a0:∀g,z2.s.e=7\/z2.s.e=8->Gn U z2 g S->Gn U b g S:=λg q c=>⟨λi n s=>by have⟨a,p,o⟩:=(y q).2 i n s;rw[o];exact c.1 i a p,λx hx=>by rw[v (by omega)<|by omega];exact c.2 x hx⟩
 have⟨⟨b1,b2,b3,b4,b5⟩,f⟩:=h;refine⟨⟨λq=>?_,λq=>?_,λq=>?_,λq=>?_,λq=>?_⟩,λhF t E=>?_⟩;grind;grind;grind;grind;grind;have V:DE z2:=by grind[DE]
 have X:b.at=z2.at:=by grind[Rl.at,DE]
 rw[X]at E;have⟨F,H,I,N⟩:=f V t E;refine⟨λq m l=>?_,λq z=>?_,λq z=>?_,λq m l=>?_⟩;rw[v (by omega)<|by omega,a1<|by omega];exact F (by omega) m l;rw[v (by omega)<|by omega];exact H (by omega) z;rw[a3<|by omega];exact I (by omega) z;rw[(y<|by omega).1]at l;have⟨y1,y2⟩:=N (by omega) m l;rw[a2<|by omega];exact⟨y1,a0 _ (by omega) y2⟩
theorem kY(K:OS U B C R o0 x1)(e6:mP o1 s2 v0 z1 u1 x2 o0 x1 p4 s3 P)(E:tR U C R v0 p0 o1 s2 V z0 s0 P)(h:Qi U C R v0 p0 o1 V z0 s0 P s1 y0){k:M}(p:x1[k]? =t0)(av bv ov)(e4:Fb s2 y0 av t0.k)(i4:∃a l c,bv=Y a l c)(i7:∃a l c,ov=Y a l c):
 F' zy 38 #[Z' p0,N'<|Dc t0 av bv ov] y0 λe n=>e=P' #[]/\Lb U C R v0 p0 o1 V z0 s0 s1 y0 n (λS=>∀r,NW U t0 r->JV U r S):=by
 obtain⟨a2,l2,c2,rfl⟩:=i4;obtain⟨a3,l3,c3,rfl⟩:=i7;obtain⟨N,c1,rfl⟩:=CB e4;have g1:=K.l k t0 p;have hz:=K.z t0<|BH p;have AL:=(CT Cb y0).alloc<|R' (Dc t0 (Y N (L t0.k) c1) (Y a2 l2 c2)<|Y a3 l3 c3) 114;have B3:=W.new y0 (Dc t0 (Y N (L t0.k) c1) (Y a2 l2 c2)<|Y a3 l3 c3) 114;have d8:=h.t8 AL;have d6:=Cx e4 AL λ_ _ q=>q;have x:=K;have HG:=e6;have HZ:=hz;have i1:=J p;have d0:=J g1;clear h K e6 p hz e4 g1;go_in;go_upto_region 1 with fail;generalize y0.alloc (R' (Dc t0 (Y N (L t0.k) c1) (Y a2 l2 c2)<|Y a3 l3 c3) 114)=e0 at AL B3 d8 d6|-;generalize (y0:M)=d at B3|-;have d2:fG U C R v0 p0 o1 s2 V z0 s0 P y0 d (Dc t0 (Y N (L t0.k) c1) (Y a2 l2 c2)<|Y a3 l3 c3) (Y N (L t0.k) c1) t0.k s1 e0:=⟨d8,Hf.of AL,B3,d6⟩;clear d8 AL d6 B3;have HC:D (∀s' W1,fG U C R v0 p0 o1 s2 V z0 s0 P y0 d (Dc t0 (Y N (L t0.k) c1) (Y a2 l2 c2)<|Y a3 l3 c3) (Y N (L t0.k) c1) t0.k s' W1->K' W1 ⟨d,0,Z⟩=T (G A t0.e)/\K' W1 ⟨d,1,Z⟩=T (Y' t0.p.a)/\K' W1 ⟨d,2,Z⟩=T (G A t0.p.pos)/\K' W1 ⟨d,3,Z⟩=T (G A t0.p.h)/\K' W1 ⟨d,4,Z⟩=T (Y' t0.q.a)/\K' W1 ⟨d,5,Z⟩=T (G A t0.q.pos)/\K' W1 ⟨d,6,Z⟩=T (G A t0.q.h)/\K' W1 ⟨d,7,Z⟩=T (G A t0.wU)/\K' W1 ⟨d,8,Z⟩=T (Y N (L t0.k) c1)/\K' W1 ⟨d,9,Z⟩=T (G A t0.t9)/\K' W1 ⟨d,10,Z⟩=T (Y a2 l2 c2)/\K' W1 ⟨d,11,Z⟩=T (Y a3 l3 c3)/\K' W1 ⟨d,12,Z⟩=T (G A t0.br)/\K' W1 ⟨d,13,Z⟩=T (G A t0.xY)/\K' W1 ⟨d,14,Z⟩=T (G A t0.l)/\d<(W1:M)):=λs' W1 h=>⟨h.b6.z 0,h.b6.z 1,h.b6.z 2,h.b6.z 3,h.b6.z 4,h.b6.z 5,h.b6.z 6,h.b6.z 7,h.b6.z 8,h.b6.z 9,h.b6.z 10,h.b6.z 11,h.b6.z 12,h.b6.z 13,h.b6.z 14,Cz h.b6⟩
 have f1:∀b t,Qi U C R v0 p0 o1 V z0 s0 P s1 b->t.a.size<=4000->F' zy 69 #[Z'<|T ⟨p0,0,Z⟩,N'<|Dc t0 (Y N (L t0.k) c1) (Y a2 l2 c2)<|Y a3 l3 c3,N'<|mV t] b λe n=>e=T' (Y'<|pC o0 t0 t)/\O Cb b n:=λb t F ht=>by have:=LU HG F t0 (Y N (L t0.k) c1) (Y a2 l2 c2) (Y a3 l3 c3) ⟨_,_,_,Q⟩ ⟨_,_,_,Q⟩ ⟨_,_,_,Q⟩ t d0.o ht;rw[Ra]at this;exact this
 obtain⟨x0,b7,c7,x3,x4,x5,x6,x7,x8,x9,b8,b9,c0,c4,c6,lb⟩:=HC.o s1 e0 d2;go_wp2_with fail;refine(f1 e0 t0.p d2.x HZ.1).mono ?_;rintro e w1 ⟨rfl,g9⟩;have d3:=d2.t8 g9;clear g9 d2 x0 b7 c7 x3 x4 x5 x6 x7 x8 x9 b8 b9 c0 c4 c6 lb;obtain⟨x0,b7,c7,x3,x4,x5,x6,x7,x8,x9,b8,b9,c0,c4,c6,lb⟩:=HC.o s1 w1 d3;go_wp2_with fail;refine(f1 w1 t0.q d3.x HZ.2.1).mono ?_;rintro e H ⟨rfl,o2⟩;have I:=d3.t8 o2;clear o2 d3 x0 b7 c7 x3 x4 x5 x6 x7 x8 x9 b8 b9 c0 c4 c6 lb;obtain⟨x0,b7,c7,x3,x4,x5,x6,x7,x8,x9,b8,b9,c0,c4,c6,lb⟩:=HC.o s1 H I;have i8:=x.rule k t0 i1.o;have a7:(∀r,NW U t0 r->r.s.e=0\/r.s.e=10)->Lb U C R v0 p0 o1 V z0 s0 s1 y0 H (λS=>∀r,NW U t0 r->JV U r S):=λhn=>⟨s1,I.x.p,(JF.rf I.x.p.i).to λ_ _ r o=>by have:=hn r o;exact⟨⟨λq=>by omega,λq=>by omega,λq=>by omega,λq=>by omega,λq=>by omega⟩,λq=>by unfold DE at q;omega⟩,I.o⟩
 rcases i8 with hb|⟨r,o⟩
 .have g5:∀r,NW U t0 r->zv:=λr o=>by
   have h1:=o.e;have h2:=o.xE;unfold FK at h1;split at h1
   .omega
   .split at h1<;>omega
  have R1:=a7 λr o=>(g5 r o).elim
  have k2:((t0.e:zw)==2)=zr:=by simp;omega
  have k3:((t0.e:zw)==3)=zr:=by simp;omega
  have k6:((t0.e:zw)==6)=zr:=by simp;omega
  have k7:((t0.e:zw)==7)=zr:=by simp;omega
  have k8:((t0.e:zw)==8)=zr:=by simp;omega
  have k4:((t0.e:zw)==4)=zr:=by simp;omega
  have k5:((t0.e:zw)==5)=zr:=by simp;omega
  have b0:((t0.e:zw)==10)=zr:=by simp;omega
  have k9:((t0.e:zw)==9)=zr:=by simp;omega
  clear hb g5 a7
  go_wp2_with fail
  go_end0
  exact⟨Q,R1⟩
 .have b2:∀w3,Lb U C R v0 p0 o1 V z0 s0 s1 H w3 (JV U r)->Lb U C R v0 p0 o1 V z0 s0 s1 y0 w3 (λS=>∀r,NW U t0 r->JV U r S):=λw3 ⟨a4,q1,q2,q3⟩=>⟨a4,q1,q2.to λ_ q r' M'=>vD x o M' q,I.o.trans q3⟩
  have a9:=x.st o;have a6:∀j,j∈[1,2,4,6,7]->r.s.e=j->¬DE r:=λj hj q hF=>by unfold DE at hF;simp only[AY,AE,or_false]at hj;omega
  have a5:=(Im U).beg r o.rl;have kd:=o.e;have i2:=o.xE;obtain⟨Xp,e2⟩:=Dv<|pC o0 t0 t0.p;obtain⟨Xq,e3⟩:=Dv<|pC o0 t0 t0.q;rw[e2,e3];have b6:=J e2;have d1:=J e3;have HM:=o;have i5:r.s.e=0\/r.s.e=1\/r.s.e=2\/r.s.e=3\/r.s.e=4\/r.s.e=5\/r.s.e=6\/r.s.e=7\/r.s.e=8\/r.s.e=9\/r.s.e=10:=by omega
  have b5:∀(d9:Sy->Prop) (w3:I'),(∀S,d9 S->JV U r S)->Lb U C R v0 p0 o1 V z0 s0 s1 H w3 d9->Lb U C R v0 p0 o1 V z0 s0 s1 H w3 (JV U r):=λd9 w3 f ⟨a4,q1,q2,q3⟩=>⟨a4,q1,q2.to λ_ q=>f _ q,q3⟩
  have h7:=x.hy.pn;clear e2 e3 kd i2;by_cases hF:DE r
  .have b4:r.s.e=3\/r.s.e=5\/r.s.e=8\/r.s.e=9:=hF;have a0:=x.tgx o (by omega) (by omega);have a8:=x.srx o (by omega);obtain⟨Xo,f7,f5,f6⟩:∃Xo,(Xo=if r.s.e=9 then Xp else Xq)/\Xo=EC U r.at/\Dh U C r.at:=by
    by_cases q9:r.s.e=9
    .exact⟨Xp,by rw[Bb q9],by unfold Rl.at;rw[Bb q9];exact b6.o.symm.trans a0.1,by unfold Rl.at;rw[Bb q9];exact a0.2⟩
    .exact⟨Xq,by rw[Ba q9],by unfold Rl.at;rw[Ba q9];exact d1.o.symm.trans a8.1,by unfold Rl.at;rw[Ba q9];exact a8.2⟩
   have k2:((t0.e:zw)==2)=zr:=by rcases b4 with q|q|q|q<;>(rw[De o q];rfl)
   have k3:((t0.e:zw)==3)=zr:=by rcases b4 with q|q|q|q<;>(rw[De o q];rfl)
   have k6:((t0.e:zw)==6)=zr:=by rcases b4 with q|q|q|q<;>(rw[De o q];rfl)
   have k7:((t0.e:zw)==7)=zr:=by rcases b4 with q|q|q|q<;>(rw[De o q];rfl)
   have k8:((t0.e:zw)==8)=zr:=by rcases b4 with q|q|q|q<;>(rw[De o q];rfl)
   have HO:=Jt v0 p0 o1 V z0 s0 (Lu U C) s1 H I.x.p.m Xo;have hL:Zy (Lu U C) s1.cells Xo=KW U C s1 r.at:=by rw[f5];rfl
   rw[hL]at HO;have HO:=HO;have d0:D (∀z,z∈KW U C s1 r.at->∃t,(least U).I r.at t/\z=EC U t):=λz hz=>Ub x.nm x.hy I.x.p.i f6 hz
   have e9:L (KW U C s1 r.at)<=16400:=by
    unfold KW;split
    .exact Ar _
    .rcases hq:s1.cells[(fH U C r.at).toNat]? with _|q
     .exact Ar _
     .exact I.x.p.i.short x.hy<|BH hq
   have h0:∀s' b t z1,(least U).I r.at t->z1=EC U t->fG U C R v0 p0 o1 s2 V z0 s0 P y0 d (Dc t0 (Y N (L t0.k) c1) (Y a2 l2 c2)<|Y a3 l3 c3) (Y N (L t0.k) c1) t0.k s' b->F' zy 73 #[Z'<|T ⟨p0,0,Z⟩,N'<|Dc t0 (Y N (L t0.k) c1) (Y a2 l2 c2)<|Y a3 l3 c3,Y' z1,Y' Xp,Y' Xq] b λe n=>e=T' (P' #[])/\Lb U C R v0 p0 o1 V z0 s0 s' b n (Gi U r t):=λs' b t z1 h1 h2 F=>E s' b t0 r t _ _ _ z1 Xp Xq F.x HM hF h1 HZ F.ar ⟨_,_,_,Q⟩ ⟨_,_,_,Q⟩ h2 (b6.o.symm.trans a0.1)<|d1.o.symm.trans a8.1
   have c8:D (∀b,Hf p0 z0 s0 H b->K' b ⟨d,0,Z⟩=T (G A t0.e)/\K' b ⟨d,1,Z⟩=T (Y' t0.p.a)/\K' b ⟨d,2,Z⟩=T (G A t0.p.pos)/\K' b ⟨d,3,Z⟩=T (G A t0.p.h)/\K' b ⟨d,4,Z⟩=T (Y' t0.q.a)/\K' b ⟨d,5,Z⟩=T (G A t0.q.pos)/\K' b ⟨d,6,Z⟩=T (G A t0.q.h)/\K' b ⟨d,7,Z⟩=T (G A t0.wU)/\K' b ⟨d,8,Z⟩=T (Y N (L t0.k) c1)/\K' b ⟨d,9,Z⟩=T (G A t0.t9)/\K' b ⟨d,10,Z⟩=T (Y a2 l2 c2)/\K' b ⟨d,11,Z⟩=T (Y a3 l3 c3)/\K' b ⟨d,12,Z⟩=T (G A t0.br)/\K' b ⟨d,13,Z⟩=T (G A t0.xY)/\K' b ⟨d,14,Z⟩=T (G A t0.l)):=λb F=>by have y:=I.x.p.m.p F I.b6 (by decide) (by decide);exact⟨y.z 0,y.z 1,y.z 2,y.z 3,y.z 4,y.z 5,y.z 6,y.z 7,y.z 8,y.z 9,y.z 10,y.z 11,y.z 12,y.z 13,y.z 14⟩
   obtain⟨b1,e1⟩:=Dv<|KW U C s1 r.at;rw[e1]at HO d0 e9;have h5:=J e1;have d7:=b4;have j6:=hF;have f4:=J f7;clear a9 a6 a5 o a7 b5 a0 a8 f7 f5 f6 hL e1 b4 hF h7;go_upto_if 64 with fail;go_cut[64] (λv wx=>v=O' zt/\D (wx=H))
   .rcases d7 with q|q|q|q
    .have k4:((t0.e:zw)==4)=zt:=by rw[De HM q];rfl
     clear q;rw[k4];go_wp2_with fail;go_meet;exact⟨by first|rfl|rw[k4],Q⟩
    .have k4:((t0.e:zw)==4)=zr:=by rw[De HM q];rfl
     have k5:((t0.e:zw)==5)=zt:=by rw[De HM q];rfl
     clear q;rw[k4];go_wp2_with fail;go_meet;exact⟨by first|rfl|rw[k5],Q⟩
    .have k4:((t0.e:zw)==4)=zr:=by rw[De HM q];rfl
     have k5:((t0.e:zw)==5)=zr:=by rw[De HM q];rfl
     have b0:((t0.e:zw)==10)=zr:=by rw[De HM q];rfl
     have k9:((t0.e:zw)==9)=zt:=by rw[De HM q];rfl
     clear q;rw[k4];go_wp2_with fail;go_meet;exact⟨by first|rfl|rw[k9],Q⟩
    .have k4:((t0.e:zw)==4)=zr:=by rw[De HM q];rfl
     have k5:((t0.e:zw)==5)=zr:=by rw[De HM q];rfl
     have b0:((t0.e:zw)==10)=zt:=by rw[De HM q];rfl
     clear q;rw[k4];go_wp2_with fail;go_meet;exact⟨by first|rfl|rw[b0],Q⟩
   obtain⟨rfl,c9⟩:=hcut;cases c9.o.symm;clear c9;go_upto_if 72 with fail;go_cut[6] (λv wx=>v=Y' Xo/\D (wx=H))
   .by_cases q:r.s.e=9;have b0:((t0.e:zw)==10)=zt:=by rw[De HM q];rfl
    have e:=f4.o;rw[Bb q]at e;rotate_left;have b0:((t0.e:zw)==10)=zr:=by
     rcases d7 with q'|q'|q'|q'
     .rw[De HM q'];rfl
     .rw[De HM q'];rfl
     .rw[De HM q'];rfl
     .exact Bm q' q
    have e:=f4.o;rw[Ba q]at e;all_goals
     clear q;rw[b0];go_wp2_with fail;go_meet;exact⟨by rw[e],Q⟩
   obtain⟨rfl,c9⟩:=hcut;cases c9.o.symm;clear c9;go_wp2_with fail;refine HO.mono ?_;rintro e n ⟨⟨lv,rfl,e5⟩,hw⟩;cases hw.symm;obtain⟨la,lc,rfl⟩:=CB e5;clear HO x0 b7 c7 x3 x4 x5 x6 x7 x8 x9 b8 b9 c0 c4 c6 lb;go_wp2_with fail;go_loopw[8] (λi wr=>∃(j:M) (s':Ls),j<=L b1/\i=G A j/\fG U C R v0 p0 o1 s2 V z0 s0 P y0 d (Dc t0 (Y N (L t0.k) c1) (Y a2 l2 c2)<|Y a3 l3 c3) (Y N (L t0.k) c1) t0.k s' wr/\JF U C R s1 s' (λS=>∀t,Ir U C t->EC U t∈b1.take j->Gi U r t S)/\Hf p0 z0 s0 H wr) (λi _=>L b1-(zm i).toNat);exact⟨0,s1,by omega,Q,I,(JF.rf I.x.p.i).to λ_ _ t _ q=>by rw[List.take_zero]at q;(cases q),CT _ _⟩;obtain⟨j,s',hj,rfl,TR,NX,OW⟩:=hrel;have j8:=e9;by_cases g2:j<L b1
   .have tk:zu ((j:zw)<(L b1:zw))=zt:=by simp;omega
    have hR:=I.x.p.m.str OW e5;obtain⟨g,rfl⟩:=CH hR (by omega);have lg:=(hR.lt g Q).2;obtain⟨t,ht,hz⟩:=d0.o b1[j]<|Am _;obtain⟨z1,hU⟩:=Dv<|EC U t;have f0:D<|b1[j]=z1:=hz.trans hU;have f2:D (∀b,Hf p0 z0 s0 H b->K' b ⟨g,j,Z⟩=T (Y' z1)):=λb F=>by have:=LD (I.x.p.m.str F e5) j g2;rw[f0.o]at this;exact this
    have c:=f2.o wr OW;have f3:=J hU;have HT:=ht;have h4:∀b,O Cb wr b->F' zy 73 #[Z'<|T ⟨p0,0,Z⟩,N'<|Dc t0 (Y N (L t0.k) c1) (Y a2 l2 c2)<|Y a3 l3 c3,Y' z1,Y' Xp,Y' Xq] b λe n=>e=T' (P' #[])/\Lb U C R v0 p0 o1 V z0 s0 s' wr n (Gi U r t):=λb F=>(h0 s' b t z1 HT f3.o.symm<|TR.t8 F).mono λe n ⟨q0,a4,q1,q2,q3⟩=>⟨q0,a4,q1,q2,(Hf.of F).trans q3⟩
    obtain⟨x0,b7,c7,x3,x4,x5,x6,x7,x8,x9,b8,b9,c0,c4,c6⟩:=c8.o wr OW;have lb:=Cz TR.b6;clear hz hU ht hR;go_upto_region 25 with fail;go_region_held3(λn=>K' n ⟨d,0,Z⟩=T (G A t0.e)/\K' n ⟨d,1,Z⟩=T (Y' t0.p.a)/\K' n ⟨d,2,Z⟩=T (G A t0.p.pos)/\K' n ⟨d,3,Z⟩=T (G A t0.p.h)/\K' n ⟨d,4,Z⟩=T (Y' t0.q.a)/\K' n ⟨d,5,Z⟩=T (G A t0.q.pos)/\K' n ⟨d,6,Z⟩=T (G A t0.q.h)/\K' n ⟨d,7,Z⟩=T (G A t0.wU)/\K' n ⟨d,8,Z⟩=T (Y N (L t0.k) c1)/\K' n ⟨d,9,Z⟩=T (G A t0.t9)/\K' n ⟨d,10,Z⟩=T (Y a2 l2 c2)/\K' n ⟨d,11,Z⟩=T (Y a3 l3 c3)/\K' n ⟨d,12,Z⟩=T (G A t0.br)/\K' n ⟨d,13,Z⟩=T (G A t0.xY)/\K' n ⟨d,14,Z⟩=T (G A t0.l)/\K' n ⟨g,j,Z⟩=T (Y' z1)) (go_keep)
     (first|(go_at_call 73;refine(h4 _ oq).mono ?_;rintro e w5 ⟨rfl,s5,p5,x5,o5⟩;have O5:=o5;have X5:=x5;clear o5 x5;have c5:=f2.o w5<|OW.trans O5;obtain⟨i9,d5,z2,z3,z4,z5,z6,z7,z8,z9,j0,j1,j2,j3,j4⟩:=c8.o w5<|OW.trans O5))
    all_goals
     have N5:JF U C R s1 s5 (λS=>∀t,Ir U C t->EC U t∈b1.take (j+1)->Gi U r t S):=by
      refine(NX.then X5 λS j7 i3 q t h1 h2=>(q t h1 h2).up i3).to λ_ q t' h1 h2=>?_
      rw[AK g2]at h2;rcases AJ.1 h2 with z|z
      .exact q.1 t' h1 z
      .rw[Ay,f0.o,<-f3.o]at z;rw[IJ x.nm x.hy h1 (Ft x.hy.ok HT).2 z];exact q.2
     have T5:=TR.q p5 O5;have W5:=OW.trans O5;clear p5 X5 O5 TR NX OW;go_wp2_with fail;go_roundw;exact⟨j+1,s5,by omega,by go_num,T5,N5,W5⟩;simp[intOf];omega
   .have tk:zu ((j:zw)<(L b1:zw))=zr:=by simp;omega
    have R1:=b2 wr ⟨s',TR.x.p,NX.to λi6 q=>by
     have b4:=d7;refine⟨⟨λq=>by omega,λq=>by omega,λq=>by omega,λq=>by omega,λq=>by omega⟩,λ_ t ht=>q t ht.1 ?_⟩;have e:KW U C s' r.at=b1:=by rw[<-h5.o];unfold KW;rw[i6]
     rw[BJ<|by omega,<-e];exact ht.2,OW⟩
    clear TR NX OW;go_wp2_with fail;go_end0;exact⟨Q,R1⟩
  .rcases i5 with p|p|p|p|p|p|p|p|p|p|p
   have R1:=a7 λr' M'=>by have:=Ou<|M'.e.symm.trans o.e;omega
   obtain⟨k2,k3,k6,k7,k8,k4,k5,b0,k9⟩:=iU 1<|De o p;clear a9 a6 a5 o b2 a7 b5;rotate_left;focus
    have a0:=x.tgx o (by omega) (by omega);have g4:=(x.hy.ok.c r.f o.rl.1 r.s o.rl.2).1 p;have g6:t0.t9=r.s.t:=o.pl<|zo p;have k2:((t0.e:zw)==2)=zt:=by rw[De o p];rfl
    have HP:∀b,O Cb H b->F' zy 70 #[Z'<|T ⟨p0,0,Z⟩,Y' Xp,Y'<|QG r.s.t++{data:=#[46,48]}] b λe n=>e=T' (P' #[])/\Lb U C R v0 p0 o1 V z0 s0 s1 H n (JV U r):=λb F=>(Qb x.nm x.hy v0 p0 o1 V z0 s0 s1 b (I.x.p.t8 F) Xp _ (b6.o.symm.trans a0.1) (mD U g4.1) a0.2<|a5.1 p).mono λe n ⟨q0,a4,q1,q2,q3⟩=>⟨q0,a4,q1,q2.to λ_ z=>⟨⟨λ_=>z,λq=>by omega,λq=>by omega,λq=>by omega,λq=>by omega⟩,λq=>Bm q<|a6 1 (by decide) p⟩,(Hf.of F).trans q3⟩
    have f8:=Jk r.s.t (by omega);have HD:∀b,F' zy 22 #[G A r.s.t] b λe n=>e=T' (Y'<|QG r.s.t)/\O Cb b n:=λb=>(Jx r.s.t (by omega) b).mono λ_ _ ⟨h1,m,h2⟩=>⟨h1,by rw[h2];exact(CT _ _).drewN m⟩
    rw[g6]at x9;clear g6 a9 a6 a5 o a7 b5 a0;generalize r.s.t=nn at x9 HP HD f8 g4;generalize QG nn=j5 at HP HD f8;go_wp2_with fail;refine(HD _).mono ?_;rintro e w5 ⟨rfl,o5⟩;have O5:=o5;clear o5;go_wp2_with fail;refine(HP _ O5).mono ?_;rintro e w3 ⟨rfl,q⟩;have R1:=b2 _ q;clear q
   rotate_left;focus
    have a0:=x.tgx o (by omega) (by omega);have a8:=(x.srx o<|by omega).1;have k2:((t0.e:zw)==2)=zr:=by rw[De o p];rfl
    have k3:((t0.e:zw)==3)=zt:=by rw[De o p];rfl
    have HP:∀b,O Cb H b->F' zy 70 #[Z'<|T ⟨p0,0,Z⟩,Y' Xp,Y'<|Xq] b λe n=>e=T' (P' #[])/\Lb U C R v0 p0 o1 V z0 s0 s1 H n (JV U r):=λb F=>(Qb x.nm x.hy v0 p0 o1 V z0 s0 s1 b (I.x.p.t8 F) Xp _ (b6.o.symm.trans a0.1) (d1.o.symm.trans a8) a0.2<|a5.2.1 p).mono λe n ⟨q0,a4,q1,q2,q3⟩=>⟨q0,a4,q1,q2.to λ_ z=>⟨⟨λq=>by omega,λ_=>z,λq=>by omega,λq=>by omega,λq=>by omega⟩,λq=>Bm q<|a6 2 (by decide) p⟩,(Hf.of F).trans q3⟩
    clear a9 a6 a5 o a7 b5 a0 a8;go_wp2_with fail;refine(HP _<|CT _ _).mono ?_;rintro e w3 ⟨rfl,q⟩;have R1:=b2 _ q;clear q
   rotate_left
   .exact Bm (show DE r by unfold DE;omega) hF
   focus
    have a0:=x.tgx o (by omega) (by omega);have g0:({data:=#[64]}:Cd)++t0.q.a=EC U (fN r.s.n):=by rw[<-o.g (zo p)];exact aI x.hy<|a9.func<|zo p
    obtain⟨k2,k3,k6,k7,k8,k4,k5,b0,k9⟩:=iU 6<|De o p;have HP:∀b,O Cb H b->F' zy 70 #[Z'<|T ⟨p0,0,Z⟩,Y' Xp,Y'<|{data:=#[64]}++t0.q.a] b λe n=>e=T' (P' #[])/\Lb U C R v0 p0 o1 V z0 s0 s1 H n (JV U r):=λb F=>(Qb x.nm x.hy v0 p0 o1 V z0 s0 s1 b (I.x.p.t8 F) Xp _ (b6.o.symm.trans a0.1) (g0) a0.2<|a5.2.2.1 p).mono λe n ⟨q0,a4,q1,q2,q3⟩=>⟨q0,a4,q1,q2.to λ_ z=>⟨⟨λq=>by omega,λq=>by omega,λ_=>z,λq=>by omega,λq=>by omega⟩,λq=>Bm q<|a6 4 (by decide) p⟩,(Hf.of F).trans q3⟩
    have j9:=HZ.2.1;clear a9 a6 a5 o a7 b5 a0 g0;go_wp2_with fail;refine(HP _<|CT _ _).mono ?_;rintro e w3 ⟨rfl,q⟩;have R1:=b2 _ q;clear q
   rotate_left
   .exact Bm (show DE r by unfold DE;omega) hF
   focus
    have a0:=x.tgx o (by omega) (by omega);have a8:=x.srx o (by omega);obtain⟨k2,k3,k6,k7,k8,k4,k5,b0,k9⟩:=iU 7<|De o p;have HP:F' zy 71 #[Z'<|T ⟨p0,0,Z⟩,Y' Xq,Y' Xp] H λe n=>e=T' (P' #[])/\Lb U C R v0 p0 o1 V z0 s0 s1 H n (JV U r):=(Le x.nm x.hy v0 p0 o1 V z0 s0 s1 H I.x.p Xq Xp (d1.o.symm.trans a8.1) (b6.o.symm.trans a0.1) (zo a8.2) (zo a0.2) λ_ _=>a5.2.2.2.1 p).mono λe n ⟨q0,a4,q1,q2,q3⟩=>⟨q0,a4,q1,q2.to λ_ z'=>have z:=z' a0.2;⟨⟨λq=>by omega,λq=>by omega,λq=>by omega,λ_=>z,λq=>by omega⟩,λq=>Bm q<|a6 6 (by decide) p⟩,q3⟩
    clear a9 a6 a5 o a7 b5 a0 a8;go_wp2_with fail;refine HP.mono ?_;rintro e w3 ⟨rfl,q⟩;have R1:=b2 _ q;clear q
   rotate_left
   .have d4:=a9.func<|zn p;have f9:D9 (o0.map λf=>f.I.a) t0.q.a 0=((r.s.n:M):zw):=by
     have g8:r.s.n<L o0:=by rw[x.len];exact d4
     have g3:t0.q.a∈o0.map λf=>f.I.a:=by rw[<-o.g (zn p),<-x.I _ g8];exact AS.2 ⟨_,Am g8,Q⟩
     obtain⟨d5,z2⟩:=EF g3;have z3:=MS g3 ByteArray.empty;rw[Ag d5]at z3;simp only[BK,AT]at z3;have z4:vx (o0.map λf=>f.I.a) t0.q.a<L o0:=by simpa using d5
     have z5:=(x.I _ z4).symm.trans<|z3.trans (o.g<|zn p).symm;rw[z2,x.nm.inj _ _ (by rw[<-x.len];exact z4) d4 z5]
    obtain⟨k2,k3,k6,k7,k8,k4,k5,b0,k9⟩:=iU 8<|De o p;have e8:∀b,O Cb H b->F' zy 35 #[Z'<|T ⟨o1,0,Z⟩,Y' t0.q.a] b λe n=>e=T' (G A r.s.n)/\O Cb b n:=λb F=>by have g7:=HG.at (I.t8 F).x.low;have:=Fy s2 o1 p4 s3 u1 x2 o0 t0.q.a b g7.r g7.fn HG.rn;rw[f9]at this;exact this.mono λ_ _ q=>⟨q.1,by rw[q.2];exact CT _ _⟩
    have e7:∀b,O Cb H b->F' zy 72 #[Z'<|T ⟨p0,0,Z⟩,N'<|Dc t0 (Y N (L t0.k) c1) (Y a2 l2 c2)<|Y a3 l3 c3,G A r.s.n] b λe n=>e=T' (P' #[])/\Lb U C R v0 p0 o1 V z0 s0 s1 H n (JV U r):=λb F=>(SJ x HG (I.t8 F).x o (zo p) d4 (a9.many p) (a5.2.2.2.2 p) HZ (Y N (L t0.k) c1) (Y a2 l2 c2) (Y a3 l3 c3) (I.t8 F).ar ⟨_,_,_,Q⟩ ⟨_,_,_,Q⟩).mono λe n ⟨q0,a4,q1,q2,q3⟩=>⟨q0,a4,q1,q2.to λ_ z=>⟨⟨λq=>by omega,λq=>by omega,λq=>by omega,λq=>by omega,λ_=>z⟩,λq=>Bm q<|a6 7 (by decide) p⟩,(Hf.of F).trans q3⟩
    have h8:D (∀b,O Cb H b->K' b ⟨p0,0,Z⟩=T (Z'<|T ⟨o1,0,Z⟩)):=λb F=>(I.t8 F).x.p.m.bx.z 0
    have i0:D (∀b,Lb U C R v0 p0 o1 V z0 s0 s1 H b (JV U r)->K' b ⟨p0,0,Z⟩=T (Z'<|T ⟨o1,0,Z⟩)):=λb ⟨_,q,_⟩=>q.m.bx.z 0
    have h6:∀b,Lb U C R v0 p0 o1 V z0 s0 s1 H b (JV U r)->Hf p0 z0 s0 H b:=λb ⟨_,_,_,q⟩=>q
    have k1:=I.x.p.m.bx.j0;have k0:=Cz I.x.p.m.bx;have c8:D (∀b,Hf p0 z0 s0 H b->K' b ⟨d,0,Z⟩=T (G A t0.e)/\K' b ⟨d,1,Z⟩=T (Y' t0.p.a)/\K' b ⟨d,2,Z⟩=T (G A t0.p.pos)/\K' b ⟨d,3,Z⟩=T (G A t0.p.h)/\K' b ⟨d,4,Z⟩=T (Y' t0.q.a)/\K' b ⟨d,5,Z⟩=T (G A t0.q.pos)/\K' b ⟨d,6,Z⟩=T (G A t0.q.h)/\K' b ⟨d,7,Z⟩=T (G A t0.wU)/\K' b ⟨d,8,Z⟩=T (Y N (L t0.k) c1)/\K' b ⟨d,9,Z⟩=T (G A t0.t9)/\K' b ⟨d,10,Z⟩=T (Y a2 l2 c2)/\K' b ⟨d,11,Z⟩=T (Y a3 l3 c3)/\K' b ⟨d,12,Z⟩=T (G A t0.br)/\K' b ⟨d,13,Z⟩=T (G A t0.xY)/\K' b ⟨d,14,Z⟩=T (G A t0.l)):=λb F=>by have y:=I.x.p.m.p F I.b6 (by decide) (by decide);exact⟨y.z 0,y.z 1,y.z 2,y.z 3,y.z 4,y.z 5,y.z 6,y.z 7,y.z 8,y.z 9,y.z 10,y.z 11,y.z 12,y.z 13,y.z 14⟩
    clear a9 a6 a5 o a7 b5 f9 d4;generalize r.s.n=gg at e8 e7;go_upto_region 13 with fail;go_region_held3(λn=>K' n ⟨d,0,Z⟩=T (G A t0.e)/\K' n ⟨d,1,Z⟩=T (Y' t0.p.a)/\K' n ⟨d,2,Z⟩=T (G A t0.p.pos)/\K' n ⟨d,3,Z⟩=T (G A t0.p.h)/\K' n ⟨d,4,Z⟩=T (Y' t0.q.a)/\K' n ⟨d,5,Z⟩=T (G A t0.q.pos)/\K' n ⟨d,6,Z⟩=T (G A t0.q.h)/\K' n ⟨d,7,Z⟩=T (G A t0.wU)/\K' n ⟨d,8,Z⟩=T (Y N (L t0.k) c1)/\K' n ⟨d,9,Z⟩=T (G A t0.t9)/\K' n ⟨d,10,Z⟩=T (Y a2 l2 c2)/\K' n ⟨d,11,Z⟩=T (Y a3 l3 c3)/\K' n ⟨d,12,Z⟩=T (G A t0.br)/\K' n ⟨d,13,Z⟩=T (G A t0.xY)/\K' n ⟨d,14,Z⟩=T (G A t0.l)/\K' n ⟨p0,0,Z⟩=T (Z'<|T ⟨o1,0,Z⟩)) (go_keep)
     (first
       |(go_at_call 35;refine(e8 _ oq).mono ?_;rintro e w3 ⟨rfl,o3⟩;have O3:=O.trans (X:=Cb) (a:=H) oq o3;clear o3;have l0:=h8.o w3 O3;obtain⟨i9,d5,z2,z3,z4,z5,z6,z7,z8,z9,j0,j1,j2,j3,j4⟩:=c8.o w3<|Hf.of O3)
       |(go_at_call 72;refine(e7 _<|O.trans (X:=Cb) (a:=H) O3 oq).mono ?_;rintro e w5 ⟨rfl,q⟩;have Q5:=q;clear q;have t5:=i0.o w5 Q5;obtain⟨l1,y1,y2,y3,y4,y5,y6,y7,y8,y9,l4,l5,l6,l7,l8⟩:=c8.o w5<|h6 w5 Q5))
    all_goals
     have R1:=b2 _ Q5;clear Q5;go_wp2_with fail;go_end0;exact⟨Q,R1⟩
   .exact Bm (show DE r by unfold DE;omega) hF
   .exact Bm (show DE r by unfold DE;omega) hF
   have R1:=a7 λr' M'=>by have:=Ou<|M'.e.symm.trans o.e;omega
   obtain⟨k2,k3,k6,k7,k8,k4,k5,b0,k9⟩:=iU 11<|De o p;clear a9 a6 a5 o b2 a7 b5;all_goals
    go_wp2_with fail;go_end0;exact⟨Q,R1⟩
theorem bR(K:OS U B C R o0 x1)(b0:mP o1 s2 v0 z1 u1 x2 o0 x1 p4 s3 P)(h:Qi U C R v0 p0 o1 V z0 s0 P s1 y0)(a0:NW U t0 z2)(hk:z2.s.e=8){t:M}(ht:(least U).I z2.at t)(hu:mR 4000 t0)(av bv ov:H')(d9:Fb s2 y0 av t0.k)(i8:∃a l c,bv=Y a l c)(j5:∃a l c,ov=Y a l c)(X i6 i3:Cd)(hX:X=EC U t):
 F' zy 73 #[Z' p0,N'<|Dc t0 av bv ov,X,i6,i3] y0 λe w'=>e=P' #[]/\Lb U C R v0 p0 o1 V z0 s0 s1 y0 w' (Gi U z2 t):=by
 obtain⟨a2,l2,c2,rfl⟩:=i8;obtain⟨a3,l3,c3,rfl⟩:=j5;obtain⟨a1,c1,rfl⟩:=CB d9;have e8:=(Ft K.hy.ok ht).2;have g7:=Oo a0.rl (by unfold DE;omega) ht;have g4:=(K.arx a0<|zn hk).1;have i7:=(K.st a0).xE;have e7:=K.len;have j3:=K.hy.ok.xE;have h6:t0.t9=z2.s.t:=a0.pl<|zn hk;have h0:=(K.hy.ok.c z2.f a0.rl.1 z2.s a0.rl.2).2.1 hk;have j0:=K.hy.ok.lc;have k5:((t0.e:zw)==5)=zr:=by rw[De a0 hk];rfl
 have j7:((t0.e:zw)==10)=zr:=by rw[De a0 hk];rfl
 have k4:((t0.e:zw)==4)=zr:=by rw[De a0 hk];rfl
 have k9:((t0.e:zw)==9)=zt:=by rw[De a0 hk];rfl
 have AL:=(CT Cb y0).alloc<|R' (Dc t0 (Y a1 t0.k c1) (Y a2 l2 c2)<|Y a3 l3 c3) 114;have B6:=W.new y0 (Dc t0 (Y a1 t0.k c1) (Y a2 l2 c2)<|Y a3 l3 c3) 114;have d6:=h.t8 AL;have d0:=Cx d9 AL λ_ _ q=>q;have HK:=K;have d2:=J hk;have f9:∀g,g<L U->t=fN g->(CO U g).m=z2.s.k->(least U).E z2.s.t g/\Gn U z2 g (least U):=λg hg e hp=>by have:=g7.2.2.2 hk (by rw[e];unfold qV fN;omega) (by rw[e,show fN g-144=g by unfold fN;omega];exact hp);rw[e,show fN g-144=g by unfold fN;omega]at this;exact this
 have f8:D (∀g (hg:g<L o0),((X.toList==(⟨#[64]⟩++o0[g].I.a:Cd).toList)=zt↔t=fN g)):=λg hg=>by
  have g9:g<U:=by omega
  rw[K.I g hg,aI K.hy g9,hX];constructor;intro q;exact IJ K.nm K.hy e8 (zn ⟨g,g9,Q⟩)<|EQ<|beq_iff_eq.1 q;rintro rfl;simp
 obtain⟨d1,d4,g2⟩:=Dq g4 e7 h6;clear h K g7 hX ht hk d9 g4 e7 h6;go_in;go_upto_region 1 with fail;generalize y0.alloc (R' (Dc t0 (Y a1 (L t0.k) c1) (Y a2 l2 c2)<|Y a3 l3 c3) 114)=i5 at AL B6 d6 d0|-;generalize (y0:M)=o at B6|-;have d7:fG U C R v0 p0 o1 s2 V z0 s0 P y0 o (Dc t0 (Y a1 t0.k c1) (Y a2 l2 c2)<|Y a3 l3 c3) (Y a1 t0.k c1) t0.k s1 i5:=⟨d6,Hf.of AL,B6,d0⟩;have k0:=B6.j0;have lb:=Cz B6;clear d6 AL d0 B6;go_wp2_with fail;clear k0 lb;go_loopw[11] (λi wr=>∃(g:M) (f:Ls),g<=o0/\i=G A g/\fG U C R v0 p0 o1 s2 V z0 s0 P y0 o (Dc t0 (Y a1 t0.k c1) (Y a2 l2 c2)<|Y a3 l3 c3) (Y a1 t0.k c1) t0.k f wr/\D (JF U C R s1 f (λS=>∀d,d<g->t=fN d->(CO U d).m=z2.s.k->S.E z2.s.t d/\Gn U z2 d S))) (λi _=>o0-(zm i).toNat);exact⟨0,s1,by omega,Q,d7,(JF.rf d7.x.p.i).to λ_ _ d q=>by omega⟩;clear d7;obtain⟨g,f,hg,rfl,TF,NX⟩:=hrel;have b7:=b0.at TF.x.low;have l5:=b0.rn;have j9:=TF.x.p.m.bx.j0;have j8:=Cz TF.x.p.m.bx;have f0:=W.j0 b7.r;have lp:=Cz b7.r;have⟨rs,c4,_⟩:=b7.fn;obtain⟨ga,gc,rfl⟩:=CB c4;by_cases a6:g<o0
 .have tg:zu ((g:zw)<(L o0:zw))=zt:=by simp;omega
  obtain⟨fg,rfl⟩:=CH c4 (by omega);have lg:=(c4.lt fg Q).2;have⟨tv,l1,vv,a4,a9,g5,h9⟩:=b7.fn.get a6;obtain⟨t1,t3,rfl⟩:=CB a9;obtain⟨e1,e2,e3,rfl⟩:=CA g5;obtain⟨v1,v2,v3,rfl⟩:=CA h9;have a8:=f8.o g a6;have e9:=HK.tkl g a6;have h4:=b0.nz _<|Am a6;have d3:=J<|HK.I g a6;have⟨F,hF⟩:=Dv<|o0[g];rw[hF]at a4 a8 e9 h4 d3;have d5:=J e9;have n0:=a4 0 (by decide);have N:=a4 1 (by decide);have n2:=a4 2 (by decide);have n3:=a4 3 (by decide);have n4:=a4 4 (by decide);have n5:=a4 5 (by decide);have n6:=a4 6 (by decide);simp only[J5,Ac,Aa,Ab,Au]at n0 N n2 n3 n4 n5 n6;have BF:=W.new wr (J5 F (Y t1 F.wZ t3) (Y e1 e2 e3)<|Y v1 v2 v3) 107;have AL:=(CT Cb wr).alloc<|R' (J5 F (Y t1 F.wZ t3) (Y e1 e2 e3)<|Y v1 v2 v3) 107;clear a4 c4 b7 a9 g5 h9 hF e9;go_upto_region 17 with fail;change Code.wp _ _ _ _ (wr.alloc<|R' (J5 F (Y t1 F.wZ t3) (Y e1 e2 e3)<|Y v1 v2 v3) 107);generalize wr.alloc (R' (J5 F (Y t1 (L F.wZ) t3) (Y e1 e2 e3)<|Y v1 v2 v3) 107)=W1 at BF AL|-;generalize (wr:M)=b8 at BF|-;have x:=TF.t8 AL;clear TF AL n0 N n2 n3 n4 n5 n6 j9 f0 j8 lp lg;obtain⟨f5,-,-,z3⟩:=BF.k4;have f3:=Cz BF;have x8:=x.b6.j8;have c7:=Cz x.b6;have i9:¬(9223372036854775807<1+F.I.a.size):=by omega
  by_cases c6:t=fN g/\L F.wZ=t0.k
  .have⟨a5,a9⟩:=c6;have hb:(X.toList==(({data:=#[64]}:Cd)++F.I.a).toList)=zt:=a8.2 a5;have tl:((L F.wZ:zw)==(L t0.k:zw))=zt:=by simp[a9]
   have e4:g<U:=by rw[<-d4.o];exact a6
   have e6:(CO U g).m=z2.s.k:=by rw[<-d5.o,a9,d1.o]
   have hE:=f9 g e4 a5 e6;have g3:=J e6;have i2:=J a5;have⟨H,b5⟩:=Dv<|z2.s.t;rw[b5]at h0;have g1:=J b5;have x9:=x.b6.j9;rw[g2.o,b5]at x9;have⟨ea,ec,j2⟩:=x.x.p.m.V.form;subst j2;have j1:=x.x.p.i.el;have c0:H-1<L f.P:=by omega
   obtain⟨I,eb,ed,rfl,b4,e0,_,c8,b9⟩:=x.x.p.m.V.get c0;have f4:=x.x.p.m.bx.j3;have c9:=Cz x.x.p.m.bx;have g6:KZ f H=f.P[H-1]:=by unfold KZ;rw[Ag c0];rfl
   have h7:=x.x.p.i.eshort HK.hy<|Am c0;rw[<-g6]at b9 b4 h7;have e1:(H:zw)-1=((H-1:M):zw):=by omega
   have⟨N,e5⟩:=Dv<|H-1;have g0:=J e5;rw[e5]at e1 b4 e0;have tn:(N:zw)<(L f.P:zw):=by omega
   have ew:IntKind.i64.wrap (N:zw)=(N:zw):=by
    have:N<=4001:=by omega
    rw[BI];omega
   have nx:=sB HK.hy x.x.p.i (n:=H) (g:=g) (by rw[<-b5];exact hE.1);have g8:DB U g=F.I.a:=d3.o.symm;rw[g8]at nx;have f6:∀(m:I') (xa:Ch) (xl xc:M),CK W1 m (Y xa xl xc) (EP (KZ f H) F.I.a)->O Cb W1 m->Xu U C R v0 p0 o1 V z0 (Y I f.P ec) ⟨f.cells,f.P.set (H-1)<|EP (KZ f H) F.I.a,f.more⟩ (m.setCell (I,N)<|Y xa xl xc)/\Hf p0 z0 (Y I f.P ec) W1 (m.setCell (I,N)<|Y xa xl xc):=λm xa xl xc h8 E=>by have⟨b1,b2,b3⟩:=(x.x.p.m.t8 E).setE N (Y xa xl xc) (EP (KZ f H) F.I.a)<|CN h8 x.x.p.b;rw[<-g0.o]at b1 b2|-;exact⟨⟨b1,nx.inv,As x.x.p.b<|As E.size b2.size⟩,(Hf.of E).trans<|b2.mono λk _ q=>zn<|zn<|by rw[q];rfl⟩
   have BX:D (∀m,O Cb W1 m->m (I,N)=Y eb (KZ f H) ed/\m.frozen? (I,N)=zr/\m (p0,3)=Y I f.P ec/\m (o,9)=H/\m b8=F.I.a/\I<m/\p0<m):=λm E=>⟨(Ae<|E.block I c8 id).trans b4,(Aj<|E.block I c8 id).trans e0,(Ae<|E.block p0 c9 id).trans f4,(Ae<|E.block o c7 id).trans x9,(Ae<|E.block b8 f3 id).trans f5,Av c8 E.size,Av c9 E.size⟩
   have y:D (∀m,O (λk=>k=I) W1 m->m (p0,3)=Y I f.P ec/\m (o,9)=H/\m b8=F.I.a):=λm E=>by
    have⟨us,_,hr,_⟩:=x.x.p.m.V;have⟨_,cs,fz,hh⟩:=ES hr (k:=I) Q;have N:∀{b:M} {cs:Cg} {ty:TypeId},ty≠47->W b cs ty W1->b≠I:=λj6 hb e=>by subst e;have h1:=hb;unfold W at h1;rw[hh]at h1;injection h1 with h1;injection h1 with _ h2 _;exact j6 h2.symm
    exact⟨(Ae<|E.block p0 c9<|N (by decide) x.x.p.m.bx).trans f4,(Ae<|E.block o c7<|N (by decide) x.b6).trans x9,(Ae<|E.block b8 f3<|N (by decide) BF).trans f5⟩
   obtain⟨EL,d8⟩:=Dv<|L<|KZ f H;have i1:=J d8;rw[d8]at b4 BX h7 b9;clear a5 a9 g6 e6 b5 e5 g8 j1 a8 d8;go_upto_region 18 with fail;go_cut[] (λwx=>D (Xu U C R v0 p0 o1 V z0 (Y (T ⟨I,0,Z⟩) (L f.P) ec) ⟨f.cells,f.P.set (H-1)<|EP (KZ f H) F.I.a,f.more⟩ wx)/\Hf p0 z0 (Y (T ⟨I,0,Z⟩) (L f.P) ec) W1 wx)
   .clear HK b0 a0 hu e8 d2 f9 f8 NX x d5 g3 hE i2 g1 g2 d4 d1 d3 nx k5 j7 k4 k9 tg hb tl i9 z3 x8 BF g0 i7 j3 h0 j0 h4 e4 c0 a6 hg;refine wp_region_held_drew (S:=λw'=>O (λk=>k=I) W1 w') (by kernel_rfl) ((CT _ W1).drew) λj=>?_;refine JD 0 94 (v:=?_) Q y.o j ?_ (by intro y0 z;go_split_ands;go_simp;try with_reducible rfl) Q Q (by kernel_rfl) (λ_ _ _ h=>h);simp only[Bu,Bv,Bw];refine JD 1 95 (v:=?_) Q y.o j ?_ (by intro y0 z;go_split_ands;go_simp;try with_reducible rfl) Q Q (by kernel_rfl) (λ_ _ _ h=>h);simp only[Bu,Bv,Bw];refine JD 2 96 (v:=?_) Q y.o j ?_ (by intro y0 z;go_split_ands;go_simp;try with_reducible rfl) Q Q (by kernel_rfl) (λ_ _ _ h=>h);simp only[Bu,Bv,Bw];refine JD 3 97 (v:=?_) Q y.o j ?_ (by intro y0 z;go_split_ands;go_simp;try with_reducible rfl) Q Q (by kernel_rfl) (λ_ _ _ h=>h);simp only[Bu,Bv,Bw];refine JD 4 98 (v:=?_) Q y.o j ?_ (by intro y0 z;go_split_ands;go_simp;try with_reducible rfl) Q Q (by kernel_rfl) (λ_ _ _ h=>h);simp only[Bu,Bv,Bw];refine JD 5 99 (v:=?_) Q y.o j ?_ (by intro y0 z;go_split_ands;go_simp;try with_reducible rfl) Q Q (by kernel_rfl) (λ_ _ _ h=>h);simp only[Bu,Bv,Bw];refine JD 6 100 (v:=?_) Q y.o j ?_ (by intro y0 z;go_split_ands;go_simp;try with_reducible rfl) Q Q (by kernel_rfl) (λ_ _ _ h=>h);simp only[Bu,Bv,Bw];refine JD 7 101 (v:=?_) Q y.o j ?_ (by intro y0 z;go_split_ands;go_simp;try with_reducible rfl) Q Q (by kernel_rfl) (λ_ _ _ h=>h);simp only[Bu,Bv,Bw];refine JD 8 102 (v:=?_) Q y.o j ?_ (by intro y0 z;go_split_ands;go_simp;try with_reducible rfl) Q Q (by kernel_rfl) (λ_ _ _ h=>h);simp only[Bu,Bv,Bw];refine JD 9 103 (v:=?_) Q y.o j ?_ (by intro y0 z;go_split_ands;go_simp;try with_reducible rfl) Q Q (by kernel_rfl) (λ_ _ _ h=>h);simp only[Bu,Bv,Bw];refine JD 10 104 (v:=?_) Q y.o j ?_ (by intro y0 z;go_split_ands;go_simp;try with_reducible rfl) Q Q (by kernel_rfl) (λ_ _ _ h=>h);simp only[Bu,Bv,Bw];refine JD 11 105 (v:=?_) Q y.o j ?_ (by intro y0 z;go_split_ands;go_simp;try with_reducible rfl) Q Q (by kernel_rfl) (λ_ _ _ h=>h);simp only[Bu,Bv,Bw];refine JD 12 106 (v:=?_) Q y.o j ?_ (by intro y0 z;go_split_ands;go_simp;try with_reducible rfl) Q Q (by kernel_rfl) (λ_ _ _ h=>h);simp only[Bu,Bv,Bw];refine JD 13 107 (v:=?_) Q y.o j ?_ (by intro y0 z;go_split_ands;go_simp;try with_reducible rfl) Q Q (by kernel_rfl) (λ_ _ _ h=>h);simp only[Bu,Bv,Bw];refine JD 14 108 (v:=?_) Q y.o j ?_ (by intro y0 z;go_split_ands;go_simp;try with_reducible rfl) Q Q (by kernel_rfl) (λ_ _ _ h=>h);simp only[Bu,Bv,Bw];refine JD 16 110 (v:=?_) Q y.o j ?_ (by intro y0 z;go_split_ands;go_simp;try with_reducible rfl) Q Q (by kernel_rfl) (λ_ _ _ h=>h);simp only[Bu,Bv,Bw];refine JD 17 111 (v:=?_) Q y.o j ?_ (by intro y0 z;go_split_ands;go_simp;try with_reducible rfl) Q Q (by kernel_rfl) (λ_ _ _ h=>h);simp only[Bu,Bv,Bw];refine JD 18 112 (v:=?_) Q y.o j ?_ (by intro y0 z;go_split_ands;go_simp;try with_reducible rfl) Q Q (by kernel_rfl) (λ_ _ _ h=>h);simp only[Bu,Bv,Bw];refine Ca (rs:=[15]) (by kernel_rfl) (by simp) ?_;refine BY Q (λK hK=>?_) BZ;go_simp;refine hK.out _ _ j λj=>?_;clear hK K;refine Ca (rs:=[19]) (by kernel_rfl) (by simp) ?_;refine BY Q (λK hK=>?_) BZ;go_simp;go_at_call 47;refine(Jp v0 (Y eb EL ed) (KZ f H) F.I.a _ (Cx b9 oq λ_ _ q=>q)<|by have:=i1.o;omega).mono ?_;rintro e m ⟨v8,rfl,c5,h5⟩;obtain⟨xa,xl,xc,rfl⟩:=CA c5;have E:=O.trans (X:=Cb) (a:=W1) oq h5;have⟨k1,k2,k3,l6,l7,k6,k7⟩:=BX.o m E;have c5:=c5;clear h5;dsimp only;refine hK.out _ _ (E.mono λ_ _ q=>q.elim) λj=>?_;clear hK K;refine Ca (rs:=[20]) (by kernel_rfl) (by simp) ?_;refine BY Q (λK hK=>?_) BZ;go_simp;refine hK.out _ _ j λj=>?_;clear hK K;refine Ca (rs:=[21]) (by kernel_rfl) (by simp) ?_;refine BY Q (λK hK=>?_) BZ;go_simp;refine hK.out _ _ (j.wS _ _) λj=>?_;clear hK K;refine wpAnyH_done (by kernel_rfl) ?_ _;go_wp2_with fail;go_meet;have⟨f1,f2⟩:=f6 _ _ _ _ (CN c5<|by simp) E;exact⟨f1,f2⟩
   have⟨P2,O2⟩:=hcut;have p:=x.q P2 O2;have f7:=SJ HK b0 p.x a0 (zn d2.o) e4 g3.o hE.2 hu (Y a1 t0.k c1) (Y a2 l2 c2) (Y a3 l3 c3) p.ar ⟨_,_,_,Q⟩ ⟨_,_,_,Q⟩;clear x8 x9 f5 z3 b4 e0 f4 f6 BX y x P2 O2 c7 f3 c8 c9 b9;obtain⟨x0,l8,m4,x3,x4,x5,x6,x7,x8,x9,l9,m0,m1,m2,m3⟩:wc o=t0.e/\wc (o,1)=t0.p.a/\wc (o,2)=t0.p.pos/\wc (o,3)=t0.p.h/\wc (o,4)=t0.q.a/\wc (o,5)=t0.q.pos/\wc (o,6)=t0.q.h/\wc (o,7)=t0.wU/\wc (o,8)=Y a1 t0.k c1/\wc (o,9)=t0.t9/\wc (o,10)=Y a2 l2 c2/\wc (o,11)=Y a3 l3 c3/\wc (o,12)=t0.br/\wc (o,13)=t0.xY/\wc (o,14)=t0.l:=⟨p.b6.z 0,p.b6.z 1,p.b6.z 2,p.b6.z 3,p.b6.z 4,p.b6.z 5,p.b6.z 6,p.b6.z 7,p.b6.z 8,p.b6.z 9,p.b6.z 10,p.b6.z 11,p.b6.z 12,p.b6.z 13,p.b6.z 14⟩;have c7:=Cz p.b6;go_wp2_with fail;refine f7.mono ?_;rintro e w5 ⟨rfl,s5,p5,i0,o5⟩;have T5:=p.q p5 o5;have N5:JF U C R s1 s5 (λS=>∀d,d<g+1->t=fN d->(CO U d).m=z2.s.k->S.E z2.s.t d/\Gn U z2 d S):=by
    refine((NX.then nx λS i4 a7 q d a b c=>⟨a7.e _ _ (q d a b c).1,(q d a b c).2.up a7⟩).then i0 λS i4 a7 q=>⟨λd a b c=>⟨a7.e _ _ (q.1 d a b c).1,(q.1 d a b c).2.up a7⟩,a7.e _ _ q.2⟩).to λ_ q d h1 h2 h3=>?_
    rcases AV d g with z|z
    exact q.1.1 d z h2 h3;obtain rfl:d=g:=by omega
    exact⟨by rw[g1.o];exact q.1.2,q.2⟩
   clear p5 i0 o5 f7 p NX nx;go_wp2_with fail;go_roundw;exact⟨g+1,s5,by omega,by go_num,T5,N5⟩;simp[intOf];omega
  .have N5:JF U C R s1 f (λS=>∀d,d<g+1->t=fN d->(CO U d).m=z2.s.k->S.E z2.s.t d/\Gn U z2 d S):=NX.to λ_ q d h1 h2 h3=>by
    rcases AV d g with z|z
    exact q d z h2 h3;obtain rfl:d=g:=by omega
    exact Bm ⟨h2,by rw[d5.o,h3,d1.o]⟩ c6
   clear NX
   by_cases a5:t=fN g
   have hb:(X.toList==(({data:=#[64]}:Cd)++F.I.a).toList)=zt:=a8.2 a5
   have tl:((L F.wZ:zw)==(L t0.k:zw))=zr:=by
    have:L F.wZ≠t0.k:=λq=>c6 ⟨a5,q⟩
    simp;omega
   rotate_left
   have hb:(X.toList==(({data:=#[64]}:Cd)++F.I.a).toList)=zr:=by rw[Bool.eq_false_iff];exact λq=>a5<|a8.1 q
   all_goals
    clear a8 a5 c6;go_wp2_with fail;go_roundw;exact⟨g+1,f,by omega,by go_num,x,N5⟩;simp[intOf];omega
 .have tg:zu ((g:zw)<(L o0:zw))=zr:=by simp;omega
  have R1:Lb U C R v0 p0 o1 V z0 s0 s1 y0 wr<|Gi U z2 t:=by
   refine⟨f,TF.x.p,NX.to λ_ q=>?_,TF.o⟩;have l4:=d2.o;refine⟨λz=>by omega,λz=>by omega,λz=>by omega,λ_ k8 l0=>?_⟩;have e7:=d4.o;have j4:t-144<g/\144<=t:=by
    rcases e8 with z|⟨d,z3,rfl⟩
    have:=z.isC HK.hy.ok.xE HK.hy.ok.ok.y;unfold VT at this;unfold qV at k8;omega;unfold fN;omega
   exact q (t-144) j4.1 (by unfold fN;omega) l0
  clear TF NX;go_wp2_with fail;go_end0;exact⟨Q,R1⟩
theorem uM(K:OS U B C R o0 x1)(H F y z)(I:mP v0 p0 X z1 V z0 o0 x1 C o1 P):tR U C R X H v0 p0 F y z P:=by
 intro s w u r t b i x f g e h d hF v N E o p k m j;have n:∃a l c,b=Y a l c:=CA E;rcases hF with q|q|q|q
 grind[XZ];exact SR K h.p d (zo q) v b i x n o p f g e k m j;grind[bR];exact SR K h.p d (zn q) v b i x n o p f g e k m j
theorem kX(K:OS U B C R o0 x1)(g:mP p0 o1 X z1 u1 x2 o0 x1 C s2 P)(h:Qi U C R X v0 p0 V z0 s0 P s1 y0)(m:x1[p4]? =t0)(b d f)(i:Fb o1 y0 b t0.k)(j:∃a l c,d=Y a l c)(n:∃a l c,f=Y a l c):
 F' zy 38 #[Z' v0,N'<|Dc t0 b d f] y0 λe o=>e=P' #[]/\Lb U C R X v0 p0 V z0 s0 s1 y0 o (λS=>∀r,NW U t0 r->JV U r S):=
 kY K g (uM K v0 V z0 s0 g) h m b d f i j n
theorem JV.up{S a:Sy}(h:JV U z2 S)(k:S.le a)(b:∀c t,a.I c t->S.I c t):JV U z2 a:=⟨h.1.up k,λhF t d=>(h.2 hF t<|b _ _ d).up k⟩
theorem JF.thenI{b d:Ls}{R g:Sy->Prop}(h:JF U B C s1 b R)(k:JF U B C b d g)(r:∀S a:Sy,S.le a->(∀c t,a.I c t->S.I c t)->R S->R a):JF U B C s1 d λS=>R S/\g S:=by
 refine⟨k.inv,λn x q=>k.eu n x<|h.eu n x q,As k.lf h.lf,λq=>?_,λq=>?_⟩;have⟨j,i,l⟩:=k.stop q;have⟨m,o,p⟩:=h.stop j;refine⟨m,i.trans o,r _ _ (lV i k.eu) (λc t z=>?_) p,l⟩;have e:KW U B d c=KW U B b c:=by grind[KW]
 exact⟨z.1,by rw[<-e];exact z.2⟩;rcases k.go q with z|z
 rcases h.go z with f|f
 exact zo f;exact zn<|BM k.lf f;exact zn<|Av z h.lf
def nE(P:CQ)(a:C8)(k:M)(S:Sy):Prop:=∀(j:M) (u:FS) (r:Rl),j<k->a[j]? =u->NW P u r->JV P r S
theorem pI{f g:Ls}(l:x1[R]? =t0)(h:JF U B C s1 f<|nE U x1 R)(x:JF U B C f g (λS=>∀r,NW U t0 r->JV U r S)):JF U B C s1 g<|nE U x1<|R+1:=
 (h.thenI x (λ_ _ a b q j t0 r e c d=>(q j t0 r e c d).up a b)).to λ_ q j i r e c d=>by
  rcases AV j R with z|z
  .exact q.1 j i r z c d
  grind
theorem jT(K:OS U B C R o0 x1)(h:nE U x1 x1<|RY U C s1):(least U).le<|RY U C s1:=
 sH λr c=>by
  rcases K.stmt r c with q|⟨k,u,a,b⟩
  .exact⟨⟨λz=>by omega,λz=>by omega,λz=>by omega,λz=>by omega,λz=>by omega⟩,λz=>by grind[DE]⟩
  .exact h k u r (Bz.1 a).1 a b
theorem qI(b:Fi y2)(S:Se (DN y2) (UX y2) (KV y2 0 0) o0 x1)(f:M)(h:f<o0):o0[f].y=(CO (Du (DN y2) y2 0 0) f).y:=by
 have a:f<y2:=by have:=S.h.yG;grind[DN]
 rw[S.h.y f h,IN y2 f a,(b.one f a).2.1]
def Xr(f:RF):Cc:=f.y.map λv=>f.I.a++⟨#[46]⟩++v
def PI(a:Dd)(k:M):Cc:=(a.take k).flatMap Xr
def Ws(n:M):Cc:=(List.range 4).map λk=>QG n++⟨#[46]⟩++QG k
def Xy(n:M):Cc:=(List.range n).flatMap λi=>Ws<|i+1
theorem Wl(a:Dd)(k:M)(h:k<a):PI a (k+1)=PI a k++Xr a[k]:=by grind[PI,List.take_succ_eq_append_getElem]
theorem jO(n):Xy (n+1)=Xy n++Ws (n+1):=by grind[Xy,List.range_succ]
theorem vA(K:OS U B C R o0 x1)(g:∀f (h:f<L o0),o0[f].y=(CO U f).y):Lu U C=PI o0 o0++Xy C:=by
 unfold Lu oQ;rw[Bn,List.map_flatMap,List.map_flatMap,<-K.len];congr 1;have:∀k,k<=L o0->(List.range k).flatMap (λf=>((List.range (CO U f).y).map<|vN f).map<|EC U)=PI o0 k:=by
  intro k;induction k with
  |zero=>intro _;rfl
  |succ k j=>
   intro a;rw[Wl o0 k a,List.range_succ,List.flatMap_append,List.flatMap_singleton,j<|by omega];congr 1;have e:Xr o0[k]=(CO U k).y.map λv=>DB U k++⟨#[46]⟩++v:=by unfold Xr;rw[g k a,K.I k a]
   rw[e];refine A5 (by simp) λi b c=>?_
   have d:i<(CO U k).y:=by grind
   simp only[AT,List.getElem_range];rw[<-Qf K.hy (by rw[<-K.len];exact a) d];grind[K7]
 grind;unfold Xy;congr 1;funext n;unfold Ws;refine A5 Q λi b c=>?_
 grind[UM]
theorem Tryz.infoRowS:(Tryz.prog.info? 47).map (λi=>(i.zero,i.size,i.bytes))=T (T<|Y Z 0 0,1,24):=by kernel_rfl
abbrev aR(B n:M)(w:I')(v:H'):Prop:=J' w B 47 1 v n<|List.replicate n<|Y Z 0 0
theorem aR.rows(h:aR B C P V):GO B P V<|List.replicate C []:=
 ⟨List.replicate C<|Y Z 0 0,by simp,by grind,λi h a=>by simp only[List.getElem_replicate];exact An _ _ _ _⟩
theorem TA(B n:M)(w:I')(c:B<=w)(m:n<=20000):∃a,(Instr.makeSlice 27 n n).run zy w=.ok (Y w n n) a/\aR B n a (Y w n n)/\O Cb w a:=by
 have⟨j,d,h,i,o⟩:=Bx Tryz.infoRowS;have⟨l,g,p,b⟩:=run_makeSlice_full (P:=zy) w B 27 47 j (Y Z 0 0) 1 underlying27 d h i .i64 .i64 n (by omega) (by grind) (by grind[E']) c;refine⟨l,g,?_,O.xA (CT _ w) b λk f=>by cases f⟩;have e:(madeCells (Y Z 0 0).cells<|n*1).toList=List.replicate n (Y Z 0 0):=by rw[Nat.mul_one];exact toList_madeCells_one _ n
 grind
theorem Lf{c:Type}(g:z9->List c)(m:M):∀(l:List z9),(∀x,x∈l->(g x)<=m)->L (l.flatMap g)<=l*m
 |[],_=>by simp
 |a::l,h=>by have d:=h a<|.head _;have e:=Lf g m l λx b=>h x<|.tail _ b;grind[Nat.succ_mul]
theorem pD{pn:M}(a:K9 U B pn C):L (Lu U pn)<=20000:=by have b:=Lf (λf=>(List.range (CO U f).y).map<|vN f) 12 (List.range U) (λf _=>by rw[AG,List.length_range];exact a.ok.ok.y f);have c:=Lf (λn=>(List.range 4).map<|pN<|n+1) 4 (List.range pn) (λn _=>by grind);have d:=a.ok.xE;have e:=a.ok.lp;grind[Lu,oQ]
structure UW(sb pb cn:M)(nv ev:H')(nm:Cc)(w wr:I'):Prop where
 bx:W sb #[Z' pb,nv,Y Z 0 0,ev,O' zr] 74 wr
 nr:CK w wr nv nm
 V:aR w cn wr ev
 sb:w<=sb
 o:O Cb w wr
theorem UW.push{nm}(a:UW B C R V z0 nm P y0){Wz x}(k:O Cb y0 Wz)(i:Wz.grownBy v1<|L' V)(l:J' v1 P 9 1 s0 (L nm+1)<|nm.map Y'++[Y' x]):UW B C R s0 z0 (nm++[x]) P (v1.setCell (B,1) s0)/\W B #[Z' C,V,Y Z 0 0,z0,O' zr] 74 v1/\O Cb P v1:=by
 have c:O (λk=>L' V=T k) y0 v1:=(k.mono λ_ _ q=>q.elim).xA i λ_ q=>zo q;have h:O Cb P v1:=a.o.thn c (λj e q=>by have:=(World.ownsRow.lt a.nr j q).1;omega);have b:=a.bx.j c λq=>CL a.nr a.bx nofun _ q Q;have g:O (λk=>k=B) v1<|v1.setCell (B,1) s0:=(CT _ v1).wS 1 _;have d:=Cx a.V c λj e=>GW a.V a.nr nofun j e;have f:CK P v1 s0<|nm++[x]:=by grind[CK]
 exact⟨⟨b.set 1 _,Cx f g<|CL f b nofun,Cx d g<|CL d b nofun,a.sb,h.xB 1 _ a.sb⟩,b,h⟩
theorem JJ.flagB(h:JJ B C R V z0 s0 n0 s1 P)(b):JJ B C R V z0 s0 n0 ⟨s1.cells,s1.P,b⟩ (P.setCell (C,4) b)/\O (λk=>k=C) P (P.setCell (C,4) b):=by
 have a:O (λk=>k=C) P<|P.setCell (C,4) b:=(CT _ P).wS 4 _;have l:∀{v c},GO B P v c->GO B (P.setCell (C,4) b) v c:=fun{v c} q=>by have⟨m,e,i,g⟩:=q;exact⟨m,e,Cx i a<|CL i h.bx nofun,λj d f=>Cx (g j d f) a<|CL (g j d f) h.bx nofun⟩
 exact⟨⟨h.bx.set 4 _,Cx h.nr a<|CL h.nr h.bx nofun,h.nl,l h.cl,l h.V,h.sb,h.ne,h.ln,h.sh⟩,a⟩
theorem jF(a:UW B C R V (Y P R R) n0 P y0)(F:n0=X)(E:X<=20000)(y:aR P X v1<|Y y0 X X)(f:O Cb y0 v1):
 JJ P B C V (Y y0 X X) (Y P R R) n0 ⟨List.replicate X [],List.replicate R [],zr⟩ (v1.setCell (B,2)<|Y y0 X X):=by
 have b:=a.bx.j f id;have c:O (λk=>k=B) v1<|v1.setCell (B,2)<|Y y0 X X:=(CT _ v1).wS 2 _;have s:∀{v d},GO P v1 v d->GO P (v1.setCell (B,2)<|Y y0 X X) v d:=fun{v d} q=>by have⟨z,e,r,o⟩:=q;exact⟨z,e,Cx r c<|CL r b nofun,λj i m=>Cx (o j i m) c<|CL (o j i m) b nofun⟩
 have p:=Cx a.nr f Ed;refine⟨b.set 2 _,Cx p c<|CL p b nofun,by omega,s y.rows,s<|aR.rows<|Cx a.V f Ed,a.sb,λg h u x=>?_,by grind,λl t=>?_⟩;cases u;cases x;have:=Cz a.bx;have:=a.sb;grind;obtain rfl:=List.eq_of_mem_replicate t;exact⟨Ar _,List.Pairwise.nil⟩
theorem jB(P e d b):TQ P e d ⟨List.replicate (Lu P e) [],List.replicate d [],b⟩ where
 cl:=List.length_replicate
 cs:=λl a=>by obtain rfl:=List.eq_of_mem_replicate a;exact List.Pairwise.nil
 ci:=λi l c f _ x g=>by grind
 el:=List.length_replicate
 es:=λl a=>by obtain rfl:=List.eq_of_mem_replicate a;exact List.Pairwise.nil
 ei:=λi l f x g=>by grind
theorem cC{u:M}(K:OS U B u C o0 x1)(hv:∀f (h:f<L o0),o0[f].y=(CO U f).y)(b1:mP R v0 P z1 V z0 o0 x1 u C P)(i2:C<=4001):
 F' zy 11 #[Z' R] P λe w'=>∃d g cv ev s,e=T' (Z'<|T ⟨d,0,Z⟩)/\Qi U u C (P:M) d R g cv ev P s w'/\(least U).le (RY U u s)/\O Cb P w':=by
 obtain⟨i0,d5,e6,e7,e8⟩:=Bx Tryz.infoStr;have hp:=b1.rp;have p0:=W.j0 hp.r;have p1:=W.j1 hp.r;have p2:=W.j2 hp.r;have p3:=W.j3 hp.r;have lp:=Cz hp.r;have HK:=K;have HV:=J hv;have c9:∀k,L (PI o0 k)<=144:=λk=>by
  have h1:=Lf Xr 12 (o0.take k) λf hf=>by obtain⟨i,hi,rfl⟩:=AC.1<|List.mem_of_mem_take hf;unfold Xr;rw[AG,hv i hi];exact K.hy.ok.ok.y i
  have h2:=K.hy.ok.xE;have h3:=K.len;have h4:=List.length_take_le k o0;have h5:=List.length_take_le' k o0;unfold PI;omega
 clear K hv;obtain⟨w1,f9,r1,o1⟩:=TA (P:M) C P (Ad _) (by omega);have l1:R<(w1:M):=Av lp o1.size;have AL:=o1.alloc<|R' #[Z'<|T ⟨R,0,Z⟩,Y Z 0 0,Y Z 0 0,Y (T ⟨(P:M),0,Z⟩) C C,O' zr] 74;have B1:=W.new w1 #[Z'<|T ⟨R,0,Z⟩,Y Z 0 0,Y Z 0 0,Y (T ⟨(P:M),0,Z⟩) C C,O' zr] 74;go_in;go_upto_block 0 with fail;change Code.wp _ _ _ _ (w1.alloc<|R' #[Z'<|T ⟨R,0,Z⟩,Y Z 0 0,Y Z 0 0,Y (T ⟨(P:M),0,Z⟩) C C,O' zr] 74);have A2:=(CT Cb w1).alloc<|R' #[Z'<|T ⟨R,0,Z⟩,Y Z 0 0,Y Z 0 0,Y (T ⟨(P:M),0,Z⟩) C C,O' zr] 74;have d4:=J o1.size;generalize w1.alloc (R' #[Z'<|T ⟨R,0,Z⟩,Y Z 0 0,Y Z 0 0,Y (T ⟨(P:M),0,Z⟩) C C,O' zr] 74)=c at AL B1 A2|-;generalize (w1:M)=d at B1 d4|-;have T0:UW d R C (Y Z 0 0) (Y (T ⟨(P:M),0,Z⟩) C C) [] P c:=⟨B1,An _ _ _ _,Cx r1 A2 Ed,d4,AL⟩;clear B1 AL A2 r1 o1 f9 l1;go_cut[] (λwx=>∃g:H',UW d R C g (Y (T ⟨(P:M),0,Z⟩) C C) (PI o0<|L o0) P wx)
 .clear p0 p1 p2 p3 lp;go_wp2_with fail;go_loopw[4] (λi wz=>∃(k:M) (g:H'),k<=L o0/\i=G A k/\UW d R C g (Y (T ⟨(P:M),0,Z⟩) C C) (PI o0 k) P wz) (λi _=>L o0-(zm i).toNat);exact⟨0,_,by omega,Q,T0⟩;clear T0;obtain⟨k,g,hk,rfl,T0⟩:=hrel;have N:=b1.at<|T0.o.below λ_ q=>q.elim;have f0:=W.z N.r;have lp:=Cz N.r;have i9:=b1.rn;obtain⟨rs,a0,_⟩:=N.fn;obtain⟨ga,gc,rfl⟩:=CB a0;by_cases b0:k<L o0
  .have tk:=LH (p:=(k:zw)<L o0) (by omega);obtain⟨fg,rfl⟩:=CH a0 (by omega);have HF:=J<|Wl o0 k b0;have g3:L o0[k].y<=12:=by rw[HV.o k b0];exact HK.hy.ok.ok.y k
   have g2:=b1.nz _<|Am b0;have e3:∀v,v∈o0[k].y->v.size<=4000:=by rw[HV.o k b0];intro v hv;obtain⟨j,hj,rfl⟩:=AC.1 hv;have:=HK.hy.nm.y k j;unfold K7 at this;rw[Ag hj]at this;exact this
   have CX:D (∀c,O Cb P c->∃v1 v3,K' c ⟨R,0,Z⟩=T (Y (T ⟨fg,0,Z⟩) (L o0) gc)/\K' c ⟨fg,k*7,Z⟩=T (Y' o0[k].I.a)/\K' c ⟨fg,k*7+6,Z⟩=T (Y v1 (L o0[k].y) v3)/\CK v0 c (Y v1 (L o0[k].y) v3) o0[k].y/\R<(c:M)/\fg<(c:M)):=λc hW=>by have N:=b1.at<|hW.below λ_ q=>q.elim;obtain⟨rs,a0,_⟩:=N.fn;obtain⟨tv,bv,vv,E,j0,i1,c7⟩:=N.fn.get b0;obtain⟨v1,v2,v3,rfl⟩:=CA c7;have:=CU c7;subst this;exact⟨v1,v3,Jh N.r 0,E 0<|by decide,E 6<|by decide,c7,Cz N.r,(a0.lt fg Q).2⟩
   generalize o0[k]=F at HF g3 g2 e3 CX;clear a0 N;obtain⟨v1,v3,d0,d1,d2,d3,e0,e1⟩:=CX.o P oq;have HC:D (∀c,O Cb P c->K' c ⟨R,0,Z⟩=T (Y (T ⟨fg,0,Z⟩) (L o0) gc)/\K' c ⟨fg,k*7,Z⟩=T (Y' F.I.a)/\K' c ⟨fg,k*7+6,Z⟩=T (Y v1 (L F.y) v3)/\R<(c:M)/\fg<(c:M)):=λc hW=>⟨(Ae<|hW.block R e0 id).trans d0,(Ae<|hW.block fg e1 id).trans d1,(Ae<|hW.block fg e1 id).trans d2,Av e0 hW.size,Av e1 hW.size⟩
   clear d0 d1 d2 e0 e1 CX;have o:UW d R C g (Y (T ⟨(P:M),0,Z⟩) C C) (PI o0 k++(Xr F).take 0) P wr:=by rw[List.take_zero,AN];exact T0
   have f2:=show k+1<=L o0 from b0
   clear T0;go_upto_block 2 with fail;go_wp2_with fail;go_loopw[5] (λi wz=>∃(j:M) (g:H'),j<=L F.y/\i=G A j/\UW d R C g (Y (T ⟨(P:M),0,Z⟩) C C) (PI o0 k++(Xr F).take j) P wz) (λi _=>L F.y-(zm i).toNat);exact⟨0,_,by omega,Q,o⟩;clear o;obtain⟨j,g,hj,rfl,o⟩:=hrel;obtain⟨c0,c1,c2,l0,l1⟩:=HC.o wr o.o;have j1:L (Xr F)=L F.y:=by unfold Xr;rw[AG]
   by_cases d6:j<L F.y
   .have tj:=LH (p:=(j:zw)<L F.y) (by omega);obtain⟨vg,rfl⟩:=CH d3 (by omega);have HX:D (∀c,O Cb P c->K' c ⟨vg,j,Z⟩=T (Y' F.y[j])):=λc hW=>(Ae<|hW.block vg (d3.lt vg Q).2 id).trans<|LD d3 j d6
    have hx:(Xr F).take (j+1)=(Xr F).take j++[F.I.a++⟨#[46]⟩++F.y[j]]:=by rw[AK<|by omega];unfold Xr;rw[AT]
    have HT:=J hx;have g4:=e3 _<|Am d6;have g1:L (PI o0 k++(Xr F).take j)<=20000:=by have:=c9 k;rw[Ah,List.length_take];omega
    generalize F.y[j]=X at HX HT g4;clear hx;have i4:(j:zw)<(L F.y:zw):=by omega
    have i6:(k:zw)<(L o0:zw):=by omega
    have h7:¬(9223372036854775807<F.I.a.size+1):=by omega
    have z2:¬(9223372036854775807<F.I.a.size+1+X.size):=by omega
    go_upto_block 3 with fail;go_cut[] (λwx=>∃b3:H',UW d R C b3 (Y (T ⟨(P:M),0,Z⟩) C C) (PI o0 k++(Xr F).take (j+1)) P wx)
    .go_upto_region 8 with fail;have r:=λc (z:O Cb P c)=>And.intro (HX.o c z)<|HC.o c z
     refine wp_region_held_drew (S:=λw'=>O Cb P w') (by kernel_rfl) o.o.drew λb=>?_;refine JD 0 39 (v:=?_) Q r b ?_ (by intro P z;go_split_ands;go_simp;try with_reducible rfl) Q Q (by kernel_rfl) Io;simp only[Bu,Bv,Bw];refine JD 1 40 (v:=?_) Q r b ?_ (by intro P z;go_split_ands;go_simp;try with_reducible rfl) Q Q (by kernel_rfl) Io;simp only[Bu,Bv,Bw];refine JD 2 41 (v:=?_) Q r b ?_ (by intro P z;go_split_ands;go_simp;try with_reducible rfl) Q Q (by kernel_rfl) Io;simp only[Bu,Bv,Bw];refine JD 3 42 (v:=?_) Q r b ?_ (by intro P z;go_split_ands;go_simp;try with_reducible rfl) Q Q (by kernel_rfl) Io;simp only[Bu,Bv,Bw];refine JD 5 44 (v:=?_) Q r b ?_ (by intro P z;go_split_ands;go_simp;try with_reducible rfl) Q Q (by kernel_rfl) Io;simp only[Bu,Bv,Bw];refine JD 6 45 (v:=?_) Q r b ?_ (by intro P z;go_split_ands;go_simp;try with_reducible rfl) Q Q (by kernel_rfl) Io;simp only[Bu,Bv,Bw];refine JD 7 46 (v:=?_) Q r b ?_ (by intro P z;go_split_ands;go_simp;try with_reducible rfl) Q Q (by kernel_rfl) Io;simp only[Bu,Bv,Bw];refine JD 8 47 (v:=?_) Q r b ?_ (by intro P z;go_split_ands;go_simp;try with_reducible rfl) Q Q (by kernel_rfl) Io;simp only[Bu,Bv,Bw];refine JD 9 48 (v:=?_) Q r b ?_ (by intro P z;go_split_ands;go_simp;try with_reducible rfl) Q Q (by kernel_rfl) Io;simp only[Bu,Bv,Bw];refine JD 10 49 (v:=?_) Q r b ?_ (by intro P z;go_split_ands;go_simp;try with_reducible rfl) Q Q (by kernel_rfl) Io;simp only[Bu,Bv,Bw];refine JD 11 50 (v:=?_) Q r b ?_ (by intro P z;go_split_ands;go_simp;try with_reducible rfl) Q Q (by kernel_rfl) Io;simp only[Bu,Bv,Bw];refine JD 12 51 (v:=?_) Q r b ?_ (by intro P z;go_split_ands;go_simp;try with_reducible rfl) Q Q (by kernel_rfl) Io;simp only[Bu,Bv,Bw];refine JD 13 52 (v:=?_) Q r b ?_ (by intro P z;go_split_ands;go_simp;try with_reducible rfl) Q Q (by kernel_rfl) Io;simp only[Bu,Bv,Bw];refine JD 14 53 (v:=?_) Q r b ?_ (by intro P z;go_split_ands;go_simp;try with_reducible rfl) Q Q (by kernel_rfl) Io;simp only[Bu,Bv,Bw];refine JD 15 54 (v:=?_) Q r b ?_ (by intro P z;go_split_ands;go_simp;try with_reducible rfl) Q Q (by kernel_rfl) Io;simp only[Bu,Bv,Bw];refine JD 16 55 (v:=?_) Q r b ?_ (by intro P z;go_split_ands;go_simp;try with_reducible rfl) Q Q (by kernel_rfl) Io;simp only[Bu,Bv,Bw];refine JD 17 56 (v:=?_) Q r b ?_ (by intro P z;go_split_ands;go_simp;try with_reducible rfl) Q Q (by kernel_rfl) Io;simp only[Bu,Bv,Bw];refine JD 18 57 (v:=?_) Q r b ?_ (by intro P z;go_split_ands;go_simp;try with_reducible rfl) Q Q (by kernel_rfl) Io;simp only[Bu,Bv,Bw];refine JD 19 58 (v:=?_) Q r b ?_ (by intro P z;go_split_ands;go_simp;try with_reducible rfl) Q Q (by kernel_rfl) Io;simp only[Bu,Bv,Bw];refine JD 20 59 (v:=?_) Q r b ?_ (by intro P z;go_split_ands;go_simp;try with_reducible rfl) Q Q (by kernel_rfl) Io;simp only[Bu,Bv,Bw];refine JD 21 60 (v:=?_) Q r b ?_ (by intro P z;go_split_ands;go_simp;try with_reducible rfl) Q Q (by kernel_rfl) Io;simp only[Bu,Bv,Bw];refine JD 22 61 (v:=?_) Q r b ?_ (by intro P z;go_split_ands;go_simp;try with_reducible rfl) Q Q (by kernel_rfl) Io;simp only[Bu,Bv,Bw];refine JD 23 62 (v:=?_) Q r b ?_ (by intro P z;go_split_ands;go_simp;try with_reducible rfl) Q Q (by kernel_rfl) Io;simp only[Bu,Bv,Bw];refine JD 24 63 (v:=?_) Q r b ?_ (by intro P z;go_split_ands;go_simp;try with_reducible rfl) Q Q (by kernel_rfl) Io;simp only[Bu,Bv,Bw];refine JD 25 64 (v:=?_) Q r b ?_ (by intro P z;go_split_ands;go_simp;try with_reducible rfl) Q Q (by kernel_rfl) Io;simp only[Bu,Bv,Bw];refine JD 26 65 (v:=?_) Q r b ?_ (by intro P z;go_split_ands;go_simp;try with_reducible rfl) Q Q (by kernel_rfl) Io;simp only[Bu,Bv,Bw];have s1:=o.bx.j1;have ls:=Cz o.bx;refine Ca (rs:=[4,27]) (by kernel_rfl) (by simp)<|BY Q (λK I=>?_)<|BY Q (λK I=>?_) BZ;focus
      go_simp;refine I.out _ _ b λb=>?_;clear I K;refine Ca (rs:=[27]) (by kernel_rfl) (by simp)<|BY Q (λK I=>?_) BZ;go_simp;refine I.out _ _ (b.alloc _) λb=>?_;clear I K
     rotate_left;focus
      go_simp;refine I.out _ _ (b.alloc _) λb=>?_;clear I K;refine Ca (rs:=[4]) (by kernel_rfl) (by simp)<|BY Q (λK I=>?_) BZ;go_simp;refine I.out _ _ b λb=>?_;clear I K
     all_goals
      refine Ca (rs:=[28]) (by kernel_rfl) (by simp)<|BY Q (λK I=>?_) BZ;refine C7 Q _ _ 47 Q (P:M) 9 i0 (Y' ByteArray.empty) 1 16 underlying47 d5 e6 e7 e8 Q (by decide) _ _ _ Q (World.ownsRow.alloc o.nr _) _ 1 1 [Y'<|F.I.a++⟨#[46]⟩++X] Q Q (C3 Q _ _) (λx hx=>by simp at hx;subst hx;rfl) (by decide) (by unfold E';omega) (by omega) (by have:=o.o.size;simp;omega) ?_;intro v5 w5 b4 b9 _;obtain⟨v6,v7,v8,rfl⟩:=CA b4;obtain⟨t5,b5,o5⟩:=o.push (nm:=PI o0 k++(Xr F).take j) (x:=F.I.a++⟨#[46]⟩++X) ((CT _ _).alloc _).drew b9 b4;have T5:=t5;have q1:=b5.j1;have q2:=b5.wV 1;have q3:=Cz b5;refine I.out _ _ o5 λb=>?_;clear I K t5 b5;refine JD 29 68 (v:=?_) Q r b ?_ (by intro P z;go_split_ands;go_simp;try with_reducible rfl) Q Q (by kernel_rfl) Io;simp only[Bu,Bv,Bw];refine JD 30 69 (v:=?_) Q r b ?_ (by intro P z;go_split_ands;go_simp;try with_reducible rfl) Q Q (by kernel_rfl) Io;simp only[Bu,Bv,Bw];refine Ca (rs:=[31]) (by kernel_rfl) (by simp)<|BY Q (λK I=>?_) BZ;go_simp;refine I.out _ _ T5.o λb=>?_;clear I K;refine wpAnyH_done (by kernel_rfl) ?_ _;go_wp2_with fail;go_meet;exact⟨_,by rw[HT.o,<-Bh];exact T5⟩
    obtain⟨b3,T2⟩:=hcut;clear o;go_wp2_with fail;go_roundw;exact⟨j+1,b3,by omega,by go_num,T2⟩;simp[zm];omega
   .have tj:=Hz (p:=(j:zw)<L F.y) (by omega);obtain rfl:j=L F.y:=by omega
    have T3:UW d R C g (Y (T ⟨(P:M),0,Z⟩) C C) (PI o0<|k+1) P wr:=by rw[HF.o,<-BJ (l:=Xr F) (i:=L F.y) (by omega)];exact o
    clear o;go_wp2_with fail;go_roundw;exact⟨k+1,g,f2,by go_num,T3⟩;simp[zm];omega
  .have tk:=Hz (p:=(k:zw)<L o0) (by omega);obtain rfl:k=L o0:=by omega
   clear a0 N;go_wp2_with fail;go_meet;exact⟨g,T0⟩
 obtain⟨g,o⟩:=hcut;clear T0;go_upto_block 4 with fail;go_cut[] (λwx=>∃g:H',UW d R C g (Y (T ⟨(P:M),0,Z⟩) C C) (PI o0 (L o0)++Xy u) P wx)
 .have f8:D (∀c,O Cb P c->K' c ⟨R,2,Z⟩=T (G A u)/\R<(c:M)):=λc hW=>⟨(Ae<|hW.block R lp id).trans p2,Av lp hW.size⟩
  have T3:UW d R C g (Y (T ⟨(P:M),0,Z⟩) C C) (PI o0 (L o0)++Xy 0) P wc:=by have e:PI o0 (L o0)++Xy 0=PI o0 (L o0):=AN _;rw[e];exact o
  have i8:=HK.hy.pn;have f5:∀n,L (Xy n)<=4*n:=λn=>by have h2:=Lf (λi=>Ws<|i+1) 4 (List.range n) (λi _=>by unfold Ws;rw[AG,List.length_range];exact Ad _);rw[List.length_range]at h2;unfold Xy;omega
  clear p0 p1 p2 p3 lp o;go_wp2_with fail;go_loopw[6] (λi wz=>∃(n:M) (g:H'),n<=u/\i=G A ((n:zw)+1)/\UW d R C g (Y (T ⟨(P:M),0,Z⟩) C C) (PI o0 (L o0)++Xy n) P wz) (λi _=>u+1-(zm i).toNat);exact⟨0,_,by omega,Q,T3⟩;clear T3;obtain⟨n,g,hn,rfl,T3⟩:=hrel;obtain⟨c2,l2⟩:=f8.o wr T3.o;have f4:=J<|jO n;by_cases b0:n<u
  .have tk:=LH (p:=(n:zw)+1<=(u:zw)) (by omega);have o:UW d R C g (Y (T ⟨(P:M),0,Z⟩) C C) (PI o0 (L o0)++Xy n++(Ws<|n+1).take 0) P wr:=by rw[List.take_zero,AN];exact T3
   clear T3;go_upto_block 6 with fail;go_wp2_with fail;go_loopw[7] (λi wz=>∃(k:M) (g:H'),k<=4/\i=G A k/\UW d R C g (Y (T ⟨(P:M),0,Z⟩) C C) (PI o0 (L o0)++Xy n++(Ws<|n+1).take k) P wz) (λi _=>4-(zm i).toNat);exact⟨0,_,by omega,Q,o⟩;clear o;obtain⟨k,g,hk,rfl,o⟩:=hrel;have i7:L (Ws<|n+1)=4:=by unfold Ws;rw[AG,List.length_range]
   by_cases i5:k<4
   .have tj:=LH (p:=(k:zw)<4) (by omega);have hx:(Ws<|n+1).take (k+1)=(Ws<|n+1).take k++[QG (n+1)++⟨#[46]⟩++QG k]:=by rw[AK<|by omega];unfold Ws;rw[AT,List.getElem_range]
    obtain⟨dz,b6⟩:∃dz:zw->Cd,dz=λz=>QG z.toNat:=⟨_,Q⟩
    have HD:∀(z:zw) (c:I'),0<=z->z<=5000->F' zy 22 #[G A z] c λe w'=>e=T' (Y'<|dz z)/\O Cb c w':=λz c h1 h2=>by obtain⟨a,rfl⟩:∃a:M,z=a:=⟨z.toNat,by omega⟩;rw[b6];exact(Jx a (by omega) c).mono λ_ _ ⟨q1,m,q2⟩=>⟨q1,by rw[q2];exact(CT _ _).drewN m⟩
    have j6:(dz<|(n:zw)+1).size<=5:=by rw[b6];exact Jk (n+1)<|by omega
    have j7:(dz (k:zw)).size<=5:=by rw[b6];exact Jk k<|by omega
    have HT:D<|(Ws<|n+1).take (k+1)=(Ws<|n+1).take k++[dz ((n:zw)+1)++⟨#[46]⟩++dz (k:zw)]:=by rw[b6];exact hx
    clear b6;have g1:L (PI o0 (L o0)++Xy n++(Ws<|n+1).take k)<=20000:=by have:=c9<|L o0;have:=f5 n;rw[Ah,Ah,List.length_take];omega
    have h7:¬(9223372036854775807<(dz<|(n:zw)+1).size+1):=by omega
    have z2:¬(9223372036854775807<(dz<|(n:zw)+1).size+1+(dz (k:zw)).size):=by omega
    have s1:=o.bx.j1;have ls:=Cz o.bx;clear hx;go_upto_block 7 with fail;go_cut[] (λwx=>∃b3:H',UW d R C b3 (Y (T ⟨(P:M),0,Z⟩) C C) (PI o0 (L o0)++Xy n++(Ws<|n+1).take (k+1)) P wx)
    .go_upto_region 15 with fail;go_region_law(first
      |(go_simp;go_at_call 22;apply(HD _ _ (by omega)<|by omega).mono;rintro e w3 ⟨rfl,o3⟩;have O3:=O.trans (X:=Cb) (a:=wr) (by repeat(first|exact oq|exact O3|refine O.drew ?_|refine O.alloc ?_ _)) o3;have s3:=(Ae<|O3.block d ls id).trans s1;have l3:=Av ls O3.size;clear o3;dsimp only)
      |(refine C7 Q _ _ 47 Q (P:M) 9 i0 (Y' ByteArray.empty) 1 16 underlying47 d5 e6 e7 e8 Q (by decide) _ _ _ Q (World.ownsRow.alloc (Cx o.nr O3 Ed) _) _ 1 1 [Y'<|dz ((n:zw)+1)++⟨#[46]⟩++dz (k:zw)] Q Q (C3 Q _ _) (λx hx=>by simp at hx;subst hx;rfl) (by decide) (by unfold E';omega) (by omega) (by have:=o.o.size;have:=O3.size;simp;omega) ?_;intro v5 w5 b4 b9 _;obtain⟨v6,v7,v8,rfl⟩:=CA b4;obtain⟨t5,b5,o5⟩:=o.push (x:=dz ((n:zw)+1)++⟨#[46]⟩++dz (k:zw)) (by repeat(first|exact oq|exact O3|refine O.drew ?_|refine O.alloc ?_ _)) b9 b4;have T5:=t5;have q1:=b5.j1;have q2:=b5.wV 1;have q3:=Cz b5;clear t5 b5 b4 b9))
     all_goals
      go_wp2_with fail;go_meet;exact⟨_,by rw[HT.o,<-Bh];exact T5⟩
    obtain⟨b3,T2⟩:=hcut;clear o s1 ls;go_wp2_with fail;go_roundw;exact⟨k+1,b3,by omega,by go_num,T2⟩;simp[zm];omega
   .have tj:=Hz (p:=(k:zw)<4) (by omega);obtain rfl:k=4:=by omega
    have T3:UW d R C g (Y (T ⟨(P:M),0,Z⟩) C C) (PI o0 (L o0)++Xy (n+1)) P wr:=by rw[f4.o,<-Bh,<-BJ (l:=Ws<|n+1) (i:=4) (by omega)];exact o
    clear o;go_wp2_with fail;go_roundw;exact⟨n+1,g,by omega,by go_num,T3⟩;simp[zm];omega
  .have tk:=Hz (p:=(n:zw)+1<=(u:zw)) (by omega);obtain rfl:n=u:=by omega
   go_wp2_with fail;go_meet;exact⟨g,T3⟩
 obtain⟨g,T2⟩:=hcut;clear o;rw[<-vA HK HV.o]at T2;obtain⟨n1,n3,rfl⟩:=CB T2.nr;have b8:=pD (pn:=u) HK.hy;obtain⟨H,b7⟩:=Dv<|L<|Lu U u;rw[b7]at T2 b8;obtain⟨w2,g0,r2,o2⟩:=TA (P:M) H wc T2.o.size b8;have LB:=jF T2 b7 b8 r2 o2;have s1:=T2.bx.j1;have g5:=Cz T2.bx;have b2:=T2.bx.j o2 id;have s2:=b2.z;have z2:=b2.wV 2;have g6:=Cz b2;have s4:=LB.bx.j4;have z4:=LB.bx.wV 4;have l4:=Cz LB.bx;have O9:=((T2.o.trans o2).xB 2 (Y (T ⟨(wc:M),0,Z⟩) H H) T2.sb).xB 4 (O' zt) T2.sb;have F9:=J (LB.flagB zt).1;clear r2 o2 b2 LB T2;go_upto_block 8 with fail;change Code.wp _ _ _ _ ((w2.setCell ⟨d,2,Z⟩<|Y (T ⟨(wc:M),0,Z⟩) H H).setCell ⟨d,4,Z⟩<|O' zt);have t:Qi U u C (P:M) d R (Y n1 H n3) (Y (T ⟨(wc:M),0,Z⟩) H H) (Y (T ⟨(P:M),0,Z⟩) C C) P ⟨List.replicate H [],List.replicate C [],zt⟩<|(w2.setCell ⟨d,2,Z⟩<|Y (T ⟨(wc:M),0,Z⟩) H H).setCell ⟨d,4,Z⟩<|O' zt:=by have li:=jB U u C zt;rw[b7]at li;exact⟨⟨F9,li,O9.size⟩,O9.below λ_ q=>q.elim⟩
 clear F9 g0 s1 s2 s4 z2 z4 l4 g5 g6 b7 b8 p0 p1 p2 p3 lp;generalize ((w2.setCell ⟨d,2,Z⟩<|Y (T ⟨(wc:M),0,Z⟩) H H).setCell ⟨d,4,Z⟩<|O' zt)=W9 at t O9|-;generalize Y (T ⟨(wc:M),0,Z⟩) H H=cv at t|-;generalize Y (T ⟨(P:M),0,Z⟩) C C=ev at t|-;obtain⟨mf,d7⟩:=Uq;obtain⟨a9,hJ⟩:∃a9:M->I'->Prop,a9=λn wz=>∃s:Ls,Qi U u C (P:M) d R (Y n1 H n3) cv ev P s wz/\D (s.more=zr->(least U).le (RY U u s))/\D (n=mT U s+if s.more then 1 else 0):=⟨_,Q⟩
 have c8:∃n,a9 n W9:=⟨_,by rw[hJ];exact⟨_,t,(λq=>by cases q),Q⟩⟩;have HJ:=J hJ;clear hJ t O9;go_wp2_with fail;go_loopw[] (λwz=>∃n,a9 n wz) (λwz=>mf λn=>a9 n wz);exact c8;clear c8;obtain⟨n0,d8⟩:=hrel;have d9:=(d7 (λn=>a9 n wr) n0 d8).1;obtain⟨nn,c6⟩:∃nn,nn=mf (λn=>a9 n wr):=⟨_,Q⟩;have e2:a9 nn wr:=by rw[c6];exact d9
 rw[HJ.o]at e2;obtain⟨s,t,LE,HL⟩:=e2;have f6:=J c6;clear d8 d9 c6 n0;have s4:=t.p.m.bx.j4;have z4:=t.p.m.bx.wV 4;have l4:=Cz t.p.m.bx;by_cases hm:s.more=zt
 .rw[hm]at s4;have FB:=t.p.m.flagB zr;have L3:Qi U u C (P:M) d R (Y n1 H n3) cv ev P ⟨s.cells,s.P,zr⟩<|wr.setCell ⟨d,4,Z⟩<|O' zr:=⟨⟨FB.1,⟨t.p.i.cl,t.p.i.cs,t.p.i.ci,t.p.i.el,t.p.i.es,t.p.i.ei⟩,As t.p.b FB.2.size⟩,t.low.trans<|FB.2.xL t.p.b λk q=>by rw[q];exact t.p.m.sb⟩;have HM:=J hm;clear FB hm;go_upto_block 10 with fail;change Code.wp _ _ _ _ (wr.setCell ⟨d,4,Z⟩<|O' zr);clear s4 z4 l4 t;generalize wr.setCell ⟨d,4,Z⟩ (O' zr)=W3 at L3|-;go_wp2_with fail;go_loopw[8] (λi wz=>∃(k:M) (s':Ls),k<=L x1/\i=G A k/\Qi U u C (P:M) d R (Y n1 H n3) cv ev P s' wz/\JF U u C ⟨s.cells,s.P,zr⟩ s' (nE U x1 k)) (λi _=>L x1-(zm i).toNat);exact⟨0,_,by omega,Q,L3,(JF.rf L3.p.i).to λ_ _ j _ _ q=>by omega⟩;clear L3;obtain⟨k,s',hk,rfl,L3,NX⟩:=hrel;have N:=b1.at L3.low;have f1:=W.z N.r;have lp:=Cz N.r;obtain⟨rs,a0,_⟩:=N.st;obtain⟨h8,h9,rfl⟩:=CB a0;have i3:=b1.fn;by_cases b0:k<L x1
  .have tk:=LH (p:=(k:zw)<L x1) (by omega);obtain⟨sg,rfl⟩:=CH a0 (by omega);have j2:=(a0.lt sg Q).2;obtain⟨j3,j4,j5,E,c3,e4,e5⟩:=N.st.get b0;obtain⟨y1,y2,y3,rfl⟩:=CA c3;obtain⟨y4,y5,y6,rfl⟩:=CA e4;obtain⟨y7,y8,y9,rfl⟩:=CA e5;obtain⟨y,hy⟩:=Dv<|x1[k];rw[hy]at E c3;have HY:D<|x1[k]? =T y:=by rw[Ag b0,hy];exact J Q
   have HR:=kX HK b1 L3 HY.o (Y y1 y2 y3) (Y y4 y5 y6) (Y y7 y8 y9) c3 ⟨_,_,_,Q⟩ ⟨_,_,_,Q⟩;have m0:=E 0 (by decide);have m1:=E 1 (by decide);have m2:=E 2 (by decide);have m3:=E 3 (by decide);have m4:=E 4 (by decide);have m5:=E 5 (by decide);have m6:=E 6 (by decide);have m7:=E 7 (by decide);have m8:=E 8 (by decide);have m9:=E 9 (by decide);have g7:=E 10 (by decide);have g8:=E 11 (by decide);have g9:=E 12 (by decide);have h0:=E 13 (by decide);have h6:=E 14 (by decide);simp only[Dc,Ac,Aa,Ab,Au]at m0 m1 m2 m3 m4 m5 m6 m7 m8 m9 g7 g8 g9 h0 h6;unfold Dc at HR;clear E c3 e4 e5 hy a0 N;go_wp2_with fail;apply HR.mono;rintro e w5 ⟨rfl,s5,p5,x5,o5⟩;have L5:=L3.q p5 o5;have N5:=pI HY.o NX x5;clear p5 x5 o5 HR L3 NX;go_wp2_with fail;go_roundw;exact⟨k+1,s5,by omega,by go_num,L5,N5⟩;simp[zm];omega
  .have tk:=Hz (p:=(k:zw)<L x1) (by omega);obtain rfl:k=L x1:=by omega
   have e9:∃n,a9 n wr:=⟨_,by rw[HJ.o];exact⟨s',L3,λq=>jT HK (NX.stop q).2.2,Q⟩⟩;have f3:mf (λn=>a9 n wr)<nn:=by
    have h1:=(d7 (λn=>a9 n wr) _<|by rw[HJ.o];exact⟨s',L3,λq=>jT HK (NX.stop q).2.2,Q⟩).2;have h2:=HL.o;rw[HM.o]at h2;have h3:=NX.lf;have h4:mT U ⟨s.cells,s.P,zr⟩=mT U s:=Q;apply BM h1;rw[h2];simp only[BD];split
    .rename_i q;rcases NX.go q with z|z
     .cases z
     .omega
    .omega
   have f7:=f6.o;clear L3 NX a0 N;go_wp2_with fail;exact⟨e9,by rw[<-f7];exact f3⟩
 .have c5:s.more=zr:=by simpa using hm
  rw[c5]at s4;have R1:D (∃c4 g cv ev s,Z' (T ⟨d,0,Z⟩)=Z' (T ⟨c4,0,Z⟩)/\Qi U u C (P:M) c4 R g cv ev P s wr/\(least U).le (RY U u s)/\O Cb P wr):=⟨d,_,cv,ev,s,Q,t,LE c5,Ea t.low⟩;clear t LE HL hm c5;go_wp2_with fail;go_ret;obtain⟨c4,a1,a2,a3,a4,a5,a6,a7,a8⟩:=R1.o;exact⟨c4,a1,a2,a3,a4,BG T' a5,a6,a7,a8⟩
def QR(a:Dd)(f v:Cd):Bool:=zu (0<=D9 (a.map λx=>x.I.a) f 0) && zu (0<=D9 ((a[(D9 (a.map λx=>x.I.a) f 0).toNat]?.map λx=>x.y).getD []) v 0)
theorem QP(a:KO C R z1 x2 v2 o0 x1 X v0 P)(I:L o0<=4001)(o:∀f,f∈o0->L f.y<=20000)(d:W B #[Z' C,V,z0,s0,u1] 74 P)(f v:Cd):
 F' zy 18 #[Z' B,f,v] P λe r=>e=(QR o0 f v)/\r=P:=by
 have k:=Fy R C X v0 x2 v2 o0 f P a.r a.fn I;have a1:=d.z;have ls:=Cz d;have f0:=W.z a.r;have lp:=Cz a.r;have⟨z,S,E⟩:=Et (o0.map λx=>x.I.a) f 0;have b:D<|QR o0 f v=(zu (0<=D9 (o0.map λx=>x.I.a) f 0) && zu (0<=D9 ((o0[(D9 (o0.map λx=>x.I.a) f 0).toNat]?.map λx=>x.y).getD []) v 0)):=Q;have⟨t,l⟩:=Dv<|QR o0 f v;rw[l]at b|-;rw[AG]at E;have⟨i,n⟩:=Dv<|D9 (o0.map λx=>x.I.a) f 0;rw[n]at k b S E;by_cases a0:0<=i;obtain⟨g,rfl⟩:∃g:M,i=g:=⟨i.toNat,by omega⟩;have m:g<o0:=by omega
 have⟨rs,h,_⟩:=a.fn;obtain⟨ga,gc,rfl⟩:=CB h;obtain⟨F,rfl⟩:=CH h (by omega);have lg:=(h.lt F Q).2;have⟨tv,u1,vv,u,K,H,p⟩:=a.fn.get m;obtain⟨v1,a2,v3,rfl⟩:=CA p;have N:=u 6 (by decide);simp only[J5,Ac,Aa,Ab]at N;have s:=Jn R _ o0[g].y v P p<|o _<|Am m;have c:t=zu (0<=D9 o0[g].y v 0):=by rw[b.o,Int.toNat_natCast,Ag m];simp
 have⟨j,y⟩:=Dv<|D9 o0[g].y v 0;rw[y]at s c;have tg:zu ((0:zw)<=(g:zw))=zt:=by simp
 clear d o l z n u K H p h a b y;subst c;go_in;go_wp2_with fail;apply k.mono;rintro e r ⟨rfl,q⟩;cases q.symm;go_wp2_with fail;apply s.mono;rotate_left;obtain rfl:i= -1:=by omega
 have c:t=zr:=by rw[b.o];rfl
 clear d o l z n a b;subst c;go_in;go_wp2_with fail;apply k.mono;all_goals
  rintro e r ⟨rfl,q⟩;cases q.symm;go_wp2_with fail;go_ret;exact⟨Q,Q⟩
theorem Vv(h:n0.Nodup){v:M}(b:v<n0):D9 n0 n0[v] 0=(v:zw):=by have a:=Am b;have⟨c,d⟩:=EF a;have e:=MS a ByteArray.empty;grind[List.getElem_inj]
theorem nX(N:aT U)(a:B<U)(i:C<(CO U B).y):Gv U (DB U B) (K7 U B C) 0=vN B C:=by
 have e:∀k (h:k<L U),CO U k=U[k]:=λk h=>by grind[CO]
 have c:D9 (CO U B).y (K7 U B C) 0=(C:zw):=by
  have:K7 U B C=(CO U B).y[C]:=by grind[K7]
  rw[this];exact Vv (N.de B) i
 have:∀d k,k+d=B->Gv (U.drop k) (DB U B) (K7 U B C) k=vN B C:=by
  intro d;induction d with
  |zero=>
   intro k g;obtain rfl:k=B:=by omega
   rw[Oc U _ _ k a,<-e k a,c,Bb ⟨Q,by omega⟩];rfl
  |succ d j=>
   intro k g;have b:k<U:=by omega
   rw[Oc U _ _ k b,Ba,j (k+1)<|by omega];rintro⟨q,_⟩;have:=N.inj k B b a (by rw[e k b];exact EQ q);omega
 exact this B 0<|by omega
theorem sE(K:OS U B C R o0 x1){v:M}(g:X<o0)(k:v<o0[X].y):QR o0 o0[X].I.a o0[X].y[v]=zt:=by
 have h:(o0.map λx=>x.I.a).Nodup:=by
  refine List.pairwise_iff_getElem.2 λi j c d l b=>?_
  rw[AG]at c d;rw[AT,AT,K.I i c,K.I j d]at b;have:=K.nm.inj i j (by rw[<-K.len];omega) (by rw[<-K.len];omega) b;omega
 have a:=Vv h (v:=X) (by grind);rw[AT]at a;unfold QR;rw[a,Int.toNat_natCast,Ag g];have⟨_,e⟩:=EF<|Am k;simp only[BA,BK,e];simp
def Sz(w c:I'):Prop:=∀b a t,t≠29->t≠9->t≠47->W b a t w->W b a t c
theorem Sz.of(k:O Cb P y0):Sz P y0:=λ_ _ _ _ _ _ h=>h.j k id
theorem Sz.trans{a b}(h:Sz a b)(k:Sz b P):Sz a P:=λx d t e f g q=>k x d t e f g<|h x d t e f g q
theorem eA(B C r s l w)(n:CK B w r l)(o:CK C w s l)(E:L l<=20000):
 F' zy 14 #[r,s] w λe j=>e=O' zt/\O Cb w j:=by
 obtain⟨u,v,rfl⟩:=CB n;obtain⟨x,y,rfl⟩:=CB o;have K:zu ((L l:zw)=(L l:zw))=zt:=by simp
 have I:((L l:zw)==(L l:zw))=zt:=by simp
 go_in;go_wp2_with fail;go_loopw[5] (λi wr=>∃k:M,k<=l/\i=G A k/\O Cb w wr) (λi _=>l-(zm i).toNat);exact⟨0,by omega,Q,oq⟩;obtain⟨k,z,rfl,a⟩:=hrel;by_cases q:k<l
 .have t:=LH (p:=(k:zw)<l) (by omega);have b:=Cx n a Ed;have f:=Cx o a Ed;obtain⟨g,rfl⟩:=CH b (by omega);obtain⟨h,rfl⟩:=CH f (by omega);have c:=LD b k q;have d:=LD f k q;have F:=(b.lt g Q).2;have H:=(f.lt h Q).2;have⟨X,m⟩:=Dv<|l[k];rw[m]at c d;have N:(X.toList==X.toList)=zt:=by simp
  clear b f m;go_upto_region 6 with fail;go_region_held3(λj=>j (g,k)=X/\j (h,k)=X) (go_keep) (fail);go_wp2_with fail;go_roundw;exact⟨k+1,by omega,by go_num,a.drew⟩;simp[zm];omega
 .have t:=Hz (p:=(k:zw)<l) (by omega);go_wp2_with fail;go_ret;exact⟨Q,a⟩

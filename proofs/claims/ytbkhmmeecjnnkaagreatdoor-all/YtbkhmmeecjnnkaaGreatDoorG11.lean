/- Part of the proof. -/
import Derived.Test.YtbkhmmeecjnnkaaGreatDoorG06
import Derived.Maps.RangeWalk
import Derived.Lib.TrailingZeros
import Derived.Laws.BitsAllLaws
import Derived.Shelf.Spec.TrailingZeros
import Derived.Deep.RegionHeld3
import Derived.Deep.AppendLies
import Derived.WideKeyEntry
set_option maxRecDepth 100000
set_option maxHeartbeats 4000000
namespace Go.Proofs.YtbkhmmeecjnnkaaGreatDoor
open Go.Proofs.Tryz Go.RowKit Go.Maps Go.ChangeMaps
open Option renaming none->Z,some->T
open Value renaming int->G,slice->Y,pointer->Z',tuple->P',bool->O',agg->N',ownBlock->L'
open IntKind renaming i64->A
open Ending renaming returned->T'
open Obj renaming cells->R'
open List renaming length->L
open World renaming cell?->K',ownsRow->J'
open Go renaming World->I',Value->H',Calls->F',maxLen->E',Addr->A',results->zz
open Go.Proofs.Tryz renaming prog->zy
open _root_ renaming Nat->M,Int->zw,False->zv,rfl->Q,decide->zu
open Bool renaming true->zt,false->zr
open Or renaming inl->zo,inr->zn
open Go.RowKit renaming intOf->zm
variable {u4:Act}{z5:Array Oper}{v9:List (Ci)}{q2:Cf}{U:CQ}{y1:Ci}{B C R X p0 v0:Nat}{z1:Nat->Prop}{p3:Oper}{z9:Type}{q0:TypeId}{V z0:Value}{P v1 y0:World}
def vN(f v:M):M:=f*12+v
def fN(f:M):M:=144+f
def pN(n k:M):M:=156+(n-1)*4+k
def VT(t:M):Prop:=t<144\/156<=t
def qV(t:M):Prop:=144<=t/\t<156
structure Sy where
 I:M->M->Prop
 F:M->M->Prop
 E:M->M->Prop
structure Rl where
 f:M
 s:DX
variable {z2:Rl}
def Rl.tg(r:Rl):M:=vN r.f r.s.w
def Rl.sr(r:Rl):M:=vN r.f r.s.n
def Sr(P:CQ)(g:M)(x:M):Prop:=∃s,s∈(CO P g).f/\s.e=10/\x=vN g s.n
def QT(P:CQ)(r:Rl):Prop:=r.f<P/\r.s∈(CO P r.f).f
def Gn(P:CQ)(r:Rl)(g:M)(S:Sy):Prop:=
 (∀i a,r.s.k[i]? =T a->S.F (vN r.f a) (vN g i))/\∀x,Sr P g x->S.F x r.tg
def PE(P:CQ)(r:Rl)(S:Sy):Prop:=
 (r.s.e=1->S.I r.tg (pN r.s.t 0))/\(r.s.e=2->S.I r.tg r.sr)/\(r.s.e=4->S.I r.tg (fN r.s.n))/\(r.s.e=6->S.F r.sr r.tg)/\(r.s.e=7->Gn P r r.s.n S)
def Gi(P:CQ)(r:Rl)(t:M)(S:Sy):Prop:=
 (r.s.e=3->156<=t->(t-156) % 4=0->S.I r.tg (t+r.s.wU))/\(r.s.e=5->VT t->S.F t r.tg)/\(r.s.e=9->VT t->S.F r.sr t)/\
 (r.s.e=8->qV t->(CO P<|t-144).m=r.s.k->S.E r.s.t (t-144)/\Gn P r (t-144) S)
def DE(r:Rl):Prop:=r.s.e=3\/r.s.e=5\/r.s.e=8\/r.s.e=9
def Rl.at(r:Rl):M:=if r.s.e=9 then r.tg else r.sr
structure rK(P:CQ)(S:Sy):Prop where
 flow:∀a b t,S.F a b->S.I a t->S.I b t
 beg:∀r,QT P r->PE P r S
 fol:∀r t,QT P r->DE r->S.I r.at t->Gi P r t S
def least(P:CQ):Sy:=⟨λc t=>∀S,rK P S->S.I c t,λa b=>∀S,rK P S->S.F a b,λn g=>∀S,rK P S->S.E n g⟩
structure Sy.le(S T:Sy):Prop where
 i:∀c t,S.I c t->T.I c t
 f:∀a b,S.F a b->T.F a b
 e:∀n g,S.E n g->T.E n g
theorem Sy.le.rf(S:Sy):S.le S:=⟨λ_ _ h=>h,λ_ _ h=>h,λ_ _ h=>h⟩
theorem Sy.le.tr{S a R:Sy}(h:S.le a)(k:a.le R):S.le R:=⟨λc t q=>k.i c t<|h.i c t q,λc t q=>k.f c t<|h.f c t q,λc t q=>k.e c t<|h.e c t q⟩
theorem Gn.up{S b:Sy}(h:Gn U z2 B S)(k:S.le b):Gn U z2 B b:=⟨λi a q=>k.f _ _<|h.1 i a q,λx q=>k.f _ _<|h.2 x q⟩
theorem PE.up{S a:Sy}(h:PE U z2 S)(k:S.le a):PE U z2 a:=
 ⟨λq=>k.i _ _<|h.1 q,λq=>k.i _ _<|h.2.1 q,λq=>k.i _ _<|h.2.2.1 q,λq=>k.f _ _<|h.2.2.2.1 q,λq=>(h.2.2.2.2 q).up k⟩
theorem Gi.up{S a:Sy}(h:Gi U z2 B S)(k:S.le a):Gi U z2 B a:=
 ⟨λq u v=>k.i _ _<|h.1 q u v,λq u=>k.f _ _<|h.2.1 q u,λq u=>k.f _ _<|h.2.2.1 q u,λq u v=>⟨k.e _ _ (h.2.2.2 q u v).1,(h.2.2.2 q u v).2.up k⟩⟩
theorem V7{S:Sy}(h:rK U S):(least U).le S:=⟨λ_ _ q=>q S h,λ_ _ q=>q S h,λ_ _ q=>q S h⟩
theorem QV(h:∀S,rK U S->Gn U z2 B S):Gn U z2 B<|least U:=⟨λi a q S b=>(h S b).1 i a q,λx q S b=>(h S b).2 x q⟩
theorem Im(P):rK P<|least P:=by
 refine⟨λa b t h k S c=>c.flow a b t (h S c)<|k S c,λr d=>?_,λr t d e h=>?_⟩;exact⟨λq S c=>(c.beg r d).1 q,λq S c=>(c.beg r d).2.1 q,λq S c=>(c.beg r d).2.2.1 q,λq S c=>(c.beg r d).2.2.2.1 q,λq=>QV λS c=>(c.beg r d).2.2.2.2 q⟩;exact⟨λq u v S c=>(c.fol r t d e<|h S c).1 q u v,λq u S c=>(c.fol r t d e<|h S c).2.1 q u,λq u S c=>(c.fol r t d e<|h S c).2.2.1 q u,
  λq u v=>⟨λS c=>((c.fol r t d e<|h S c).2.2.2 q u v).1,QV λS c=>((c.fol r t d e<|h S c).2.2.2 q u v).2⟩⟩
structure Sv where
 s:Sy
 N:M->M->Prop
 W:M->Rl->Prop
variable {y7:Sv}
structure Eu(P:CQ)(X:M->Ce)(v:Sv):Prop where
 le:v.s.le<|least P
 np:∀c t,v.N c t->v.s.I c t
 fl:∀a b t,v.s.F a b->v.s.I a t->v.s.I b t\/v.N a t\/X a t
 fo:∀a r t,v.W a r->v.s.I a t->Gi P r t v.s\/v.N a t\/X a t
structure Sv.le(v u:Sv):Prop where
 s:v.s.le u.s
 w:u.W=v.W
theorem Sv.le.rf(v:Sv):v.le v:=⟨.rf _,Q⟩
theorem Sv.le.tr{b c:Sv}(h:y7.le b)(k:b.le c):y7.le c:=⟨h.s.tr k.s,k.w.trans h.w⟩
def Sv.give(v:Sv)(c:M)(a:Ce):Sv:=
 ⟨⟨λx t=>v.s.I x t\/(x=c/\a t),v.s.F,v.s.E⟩,λx t=>v.N x t\/(x=c/\a t/\¬v.s.I x t),v.W⟩
theorem Sv.give_le(v:Sv)(c a):v.le<|v.give c a:=⟨⟨λ_ _ h=>zo h,λ_ _ h=>h,λ_ _ h=>h⟩,Q⟩
theorem Eu.give{X}{v:Sv}{c}(h:Eu U X v)(g:∀t,z1 t->(least U).I c t):Eu U X<|v.give c z1:=by
 refine⟨⟨?_,h.le.f,h.le.e⟩,?_,?_,?_⟩;rintro x t (q|⟨rfl,q⟩);exact h.le.i x t q;grind;rintro x t (q|⟨rfl,q,_⟩);exact zo<|h.np x t q;exact zn ⟨Q,q⟩;rintro a b t hF e;by_cases d:v.s.I a t;rcases h.fl a b t hF d with q|q|q
 exact zo<|zo q;exact zn<|zo<|zo q;grind;rcases e with q|⟨rfl,q⟩
 grind;exact zn<|zo<|zn ⟨Q,q,d⟩;rintro a r t f e;by_cases d:v.s.I a t;rcases h.fo a r t f d with q|q|q
 exact zo<|q.up (Sv.give_le v c z1).s;exact zn<|zo<|zo q;grind;rcases e with q|⟨rfl,q⟩
 grind;exact zn<|zo<|zn ⟨Q,q,d⟩
def Sv.edge(v:Sv)(a b:M):Sv:=⟨⟨v.s.I,λx y=>v.s.F x y\/(x=a/\y=b),v.s.E⟩,v.N,v.W⟩
theorem Sv.edge_le(v:Sv)(a b):v.le<|v.edge a b:=⟨⟨λ_ _ h=>h,λ_ _ h=>zo h,λ_ _ h=>h⟩,Q⟩
def Sv.flow(v:Sv)(a b:M):Sv:=(v.edge a b).give b<|v.s.I a
theorem Sv.flow_le(v:Sv)(a b):v.le<|v.flow a b:=(Sv.edge_le v a b).tr<|Sv.give_le _ _ _
theorem Sv.flow_F(v:Sv)(a b):(v.flow a b).s.F a b:=zn ⟨Q,Q⟩
theorem Eu.flow{X}{v:Sv}(h:Eu U X v)(hF:(least U).F B C):Eu U X<|v.flow B C:=by
 have g:∀t,v.s.I B t->(least U).I C t:=λt q=>(Im U).flow B C t hF<|h.le.i B t q
 have d:=h.give (c:=C) g;refine⟨⟨d.le.i,?_,h.le.e⟩,d.np,?_,?_⟩;rintro x y (q|⟨rfl,rfl⟩);exact h.le.f x y q;exact hF;rintro x y t (q|⟨rfl,rfl⟩) e;exact d.fl x y t q e;by_cases f:v.s.I x t;exact zo<|zn ⟨Q,f⟩;rcases e with q|⟨rfl,q⟩
 exact Bm q f;exact Bm q f;rintro x r t i e;rcases d.fo x r t i e with q|q|q
 exact zo<|q.up ⟨λ_ _ q=>q,λ_ _ q=>zo q,λ_ _ q=>q⟩;exact zn<|zo q;exact zn<|zn q
theorem Eu.kept{X}{v:Sv}(h:Eu U X v){d:M->Ce}(e:∀c t,X c t->d c t):Eu U d v:=
 ⟨h.le,h.np,λa b t q r=>(h.fl a b t q r).imp id<|.imp id<|e _ _,λa r t q u=>(h.fo a r t q u).imp id<|.imp id<|e _ _⟩
def Sv.xG(v:Sv)(n g:M):Sv:=⟨⟨v.s.I,v.s.F,λx y=>v.s.E x y\/(x=n/\y=g)⟩,v.N,v.W⟩
theorem Sv.ent_le(v:Sv)(n g):v.le<|v.xG n g:=⟨⟨λ_ _ h=>h,λ_ _ h=>h,λ_ _ h=>zo h⟩,Q⟩
theorem Eu.xG{X}{v:Sv}(h:Eu U X v)(a:(least U).E B C):Eu U X<|v.xG B C:=by refine⟨⟨h.le.i,h.le.f,?_⟩,h.np,h.fl,?_⟩;rintro x y (q|⟨rfl,rfl⟩);exact h.le.e x y q;exact a;rintro x r t c b;exact(h.fo x r t c b).imp (λq=>q.up (Sv.ent_le v B C).s) id
def Sv.wait(v:Sv)(a:M)(r:Rl):Sv:=⟨v.s,v.N,λx y=>v.W x y\/(x=a/\y=r)⟩
theorem Eu.wait{X}{v:Sv}{r}(h:Eu U X v)(c:∀t,v.s.I B t->v.N B t):Eu U X<|v.wait B r:=by refine⟨h.le,h.np,h.fl,?_⟩;rintro x y t (q|⟨rfl,rfl⟩) b;exact h.fo x y t q b;exact zn<|zo<|c t b
theorem Eu.done{v:Sv}(h:Eu U (λ_ _=>zv) v)(d:∀c t,¬v.N c t)(e:∀r,QT U r->PE U r v.s)(f:∀r,QT U r->DE r->v.W r.at r):v.s.le (least U)/\(least U).le v.s:=by
 refine⟨h.le,V7 ⟨λa b t q r=>?_,e,λr t q u k=>?_⟩⟩;rcases h.fl a b t q r with q|q|q
 exact q;exact Bm q<|d _ _;exact q.elim;rcases h.fo _ r t (f r q u) k with q|q|q
 exact q;exact Bm q<|d _ _;exact q.elim
structure Sv.up(v u:Sv):Prop where
 le:v.le u
 n:∀c t,v.N c t->u.N c t
 old:∀c t,u.N c t->v.N c t\/¬v.s.I c t
 new:∀c t,u.s.I c t->v.s.I c t\/u.N c t
 ed:∀a b,u.s.F a b->v.s.F a b\/∀t,v.s.I a t->u.s.I b t
theorem Sv.up.rf(v:Sv):v.up v:=⟨.rf _,λ_ _ h=>h,λ_ _ h=>zo h,λ_ _ h=>zo h,λ_ _ h=>zo h⟩
theorem Sv.up.tr{b c:Sv}(h:y7.up b)(k:b.up c):y7.up c:=
 ⟨h.le.tr k.le,λx t q=>k.n x t<|h.n x t q,λx t q=>(k.old x t q).elim (h.old x t) λq=>zn λr=>q<|h.le.s.i x t r,λx t q=>(k.new x t q).elim (λq=>(h.new x t q).imp id<|k.n x t) zn,
   λx y q=>(k.ed x y q).elim (λq=>(h.ed x y q).imp id λq t r=>k.le.s.i y t<|q t r) λq=>zn λt r=>q t<|h.le.s.i x t r⟩
theorem Sv.give_up(v:Sv)(c a):v.up<|v.give c a:=by
 refine⟨Sv.give_le v c a,λ_ _ q=>zo q,λx t q=>q.imp id λq=>q.2.2,λx t q=>?_,λ_ _ q=>zo q⟩;rcases q with q|⟨rfl,q⟩
 exact zo q;by_cases h:v.s.I x t;exact zo h;exact zn<|zn ⟨Q,q,h⟩
theorem Sv.flow_up(v:Sv)(a b):v.up<|v.flow a b:=by have h:=Sv.give_up v b<|v.s.I a;refine⟨Sv.flow_le v a b,h.n,h.old,h.new,?_⟩;rintro x y (q|⟨rfl,rfl⟩);exact zo q;exact zn λt r=>zn ⟨Q,r⟩
theorem Sv.ent_up(v:Sv)(n g):v.up<|v.xG n g:=⟨Sv.ent_le v n g,λ_ _ h=>h,λ_ _ h=>zo h,λ_ _ h=>zo h,λ_ _ h=>zo h⟩
theorem Eu.passed{X c}{m:Ce}{v:Sv}(h:Eu U (λa t=>X a t\/(a=c/\m t)) y7)(k:v.up y7)(f:∀t,m t->v.s.I c t)(d:∀b t,v.s.F c b->m t->y7.s.I b t)(e:∀r t,v.W c r->m t->Gi U r t y7.s):Eu U X y7:=by
 refine⟨h.le,h.np,λa b t q r=>?_,λa r t q i=>?_⟩;rcases h.fl a b t q r with z|z|z|⟨rfl,z⟩
 exact zo z;grind;grind;exact zo<|(k.ed a b q).elim (λq=>d b t q z) λq=>q t<|f t z;rcases h.fo a r t q i with z|z|z|⟨rfl,z⟩
 exact zo z;grind;grind;exact zo<|e r t (by rw[<-k.le.w];exact q) z
def Sv.took(v:Sv):Sv:=⟨v.s,λ_ _=>zv,v.W⟩
theorem Eu.took{v:Sv}(h:Eu U (λ_ _=>zv) v):Eu U v.N v.took:=
 ⟨h.le,λ_ _ q=>q.elim,λa b t q r=>(h.fl a b t q r).imp id λz=>zn<|z.elim id False.elim,λa b t q r=>(h.fo a b t q r).imp id λz=>zn<|z.elim id False.elim⟩
theorem Uq:∃c:(Ce)->M,∀p n,p n->p (c p)/\c p<=n:=by
 have h:∀p:Ce,∃k,∀n,p n->p k/\k<=n:=λp=>by
  by_cases b:∃n,p n;have⟨n,a⟩:=b;induction n using Nat.strongRecOn with
  |_ n g=> by_cases q:∃m,m<n/\p m;have⟨m,d,e⟩:=q;exact g m d e;exact⟨n,λm f=>⟨a,Nat.le_of_not_lt λr=>q ⟨m,r,f⟩⟩⟩
  exact⟨0,λn a=>Bm ⟨n,a⟩ b⟩
 exact⟨λp=>Classical.choose<|h p,λp=>Classical.choose_spec<|h p⟩
def Sv.raw(v:Sv):Prop:=∀c t,v.s.I c t->v.N c t
theorem Sv.raw.up{v u:Sv}(h:v.raw)(k:v.up u):u.raw:=λc t q=>(k.new c t q).elim (λq=>k.n c t<|h c t q) id
def Sv.left(B:M)(v:Sv)(n:M):Prop:=n=(List.range<|B*B).countP λi=>@decide (¬(v.s.I (i / B) (i % B)/\¬v.N (i / B) (i % B)))<|Classical.propDecidable _
theorem LM{p q:M->Bool}:∀(l:Cf),(∀x,x∈l->p x=zt->q x=zt)->(∃x,x∈l/\q x=zt/\p x=zr)->l.countP p<l.countP q
 |[],_,h=>by grind
 |a::l,c,h=>by
  have f:l.countP p<=l.countP q:=List.countP_mono_left λx b=>c x<|Ax _ b
  obtain⟨x,b,d,e⟩:=h;rw[List.countP_cons,List.countP_cons];rcases AY.1 b with rfl|b
  .grind
  .have:=LM l (λx b=>c x<|Ax _ b) ⟨x,b,d,e⟩;grind
theorem Sv.left_lt{B:M}{v u:Sv}{x:Sv}(f:x.s=v.s/\∀c t,¬x.N c t)(h:x.up u)(e:∃c t,c<B/\t<B/\v.N c t)(o:∀c t,v.N c t->v.s.I c t)(b:v.left B C)(a:u.left B R):R<C:=by
 unfold Sv.left at b a;rw[b,a];have⟨c,t,d,s,p⟩:=e;have w:∀c t,v.s.I c t->u.s.I c t/\¬u.N c t:=λc t q=>⟨h.le.s.i c t<|by grind,λk=>(h.old c t k).elim (f.2 c t) λk=>k<|by grind⟩
 have l:0<B:=by omega
 have g:(c*B+t) / B=c:=by grind[Nat.mul_comm,Nat.mul_add_div,Nat.div_eq_of_lt]
 have j:(c*B+t) % B=t:=by grind[Nat.mul_comm,Nat.mul_add_mod,Nat.mod_eq_of_lt]
 refine LM _ (λi _ r=>?_) ⟨c*B+t,?_,?_,?_⟩;grind;rw[List.mem_range];calc c*B+t<c*B+B:=by omega
  _=(c+1)*B:=by grind
  _<=B*B:=Nat.mul_le_mul_right B d
 grind;grind
structure XB{α:Type}(R:H'->Option (Cm×List MemPlace))(mk:α->H')(dc:α->Cm)(ok:α->Prop):Prop where
 rd:∀a,ok a->R (mk a)=T (dc a,[])
 inv:∀v z,R v=T z->∃a,v=mk a/\z=(dc a,[])/\ok a
 inj:∀a b,dc a=dc b->a=b
def kI(k:M):Lit:=Lit.int .i64 k
theorem Uk{a b:M}(h:kI a=kI b):a=b:=by grind[kI]
theorem Fz:Keyed zy 3:=int_keyed underlying3
theorem ZO{k:M}(h:k<20000):keyOf zy 3 k=kI k:=keyOf_int_mk underlying3<|WalkArith.wf_i64<|by omega
theorem Yf{k:M}(h:k<20000):WideAt.IsKeyLit<|kI k:=Fz.key<|ZO h
theorem Nr(n):∀(l:Cf),l.Pairwise (·≠ ·)->L l<=(l.filter λx=>zu<|x≠n)+1
 |[],_=>by simp
 |a::l,h=>by
  obtain⟨c,b⟩:=List.pairwise_cons.1 h;by_cases d:a=n
  .grind[List.filter_eq_self]
  .have:=Nr n l b;grind
theorem GA:∀(n:M) (l:Cf),l.Pairwise (·≠ ·)->(∀x,x∈l->x<n)->l<=n
 |0,[],_,_=>Ad _
 |0,a::_,_,h=>Bm (h a A9)<|by omega
 |n+1,l,b,h=>by
  have c:=Nr n l b;have d:=GA n (l.filter λx=>zu<|x≠n) (b.filter _) λx e=>by grind
  omega
theorem oW{n:M}{l:List Lit}(d:l.Pairwise (·≠ ·))(h:∀x,x∈l->∃k,k<n/\x=kI k):l<=n:=by
 have e:∃m:Cf,l=m.map kI/\∀x,x∈m->x<n:=by
  clear d;induction l with
  |nil=>exact⟨[],Q,by simp⟩
  |cons a l j=>
   obtain⟨m,rfl,b⟩:=j λx c=>h x<|Ax _ c
   obtain⟨k,g,rfl⟩:=h a A9;exact⟨k::m,Q,λx c=>(AY.1 c).elim (λq=>q▸g)<|b x⟩
 obtain⟨m,rfl,b⟩:=e;rw[AG];exact GA n m ((List.pairwise_map.1 d).imp λq r=>q<|BG kI r) b
theorem Tr{R:H'->Option (Cm×List MemPlace)}{b n a}{w:I'}(h:w.ownsMap zy 3 R b n a)(q:∀x,has a x=zt->∃k,k<20000/\x=kI k):w.ownsMap zy 3 R b 20000 a/\Maps.size a<=20000:=by
 have⟨c,m,d,v⟩:=h.entries Fz;have r:L c<=20000:=by
  have:=oW (n:=20000) (l:=c.map λp=>p.1) (List.pairwise_map.2 d) λx t=>by obtain⟨p,d,rfl⟩:=AS.1 t;exact q p.1<|by grind[Maps.has_eq,WideAt.sameKey_self]
  grind
 have s:Maps.size a<=20000:=by rw[m];exact r
 refine⟨?_,s⟩;have⟨g,j,o,F,_,e⟩:=h;refine⟨g,j,o,F,?_,e⟩;grind[length_sorted]
def En{α:Type}(R:H'->Option (Cm×List MemPlace))(dc:α->Cm)(b:M)(g:M->Option α)(w:I'):Prop:=
 ∃c,w.ownsMap zy 3 R b 20000 c/\(∀x,has c x=zt->∃k,k<20000/\x=kI k)/\(∀k a,g k=T a->k<20000)/\(∀k,k<20000->g k=Z->has c (kI k)=zr)/\∀k a,g k=T a->has c (kI k)=zt/\∀z,c.atKey (kI k) z=dc a
section
variable{α:Type}{R:H'->Option (Cm×List MemPlace)}{mk:α->H'}{dc:α->Cm}{ok:α->Prop}{b:M}{g:M->Option α}{w w':I'}
theorem En.lt(h:En R dc b g w):b<w:=by have⟨a,h,_⟩:=h;exact h.lt
theorem En.j{X:Ce}(h:En R dc b g w)(k:O X w w')(l:¬X b):En R dc b g w':=
 have⟨c,⟨e,d,a,r⟩,j⟩:=h
 ⟨c,⟨e,d,by rw[k.block b (lt_of_block a) l];exact a,r⟩,j⟩
theorem En.xJ(h:En R dc b g w):∃a c,w.heap[b]? =T (.map a c):=by have⟨d,⟨a,e,k,r⟩,j⟩:=h;grind
theorem En.ne{c a t d}(h:En R dc b g w)(l:w.heap[c]? =T (R' a t d)):b≠c:=by have⟨e,k,j⟩:=h.xJ;grind
theorem En.made(w:I'):En R dc w (λ_=>Z)<|w.alloc<|.map #[] 0:=
 ⟨.map [],(World.ownsMap_made w _ _ _).mono<|Ar _,λx h=>by grind[Maps.has_eq],λ_ _ h=>by simp at h,λ_ _ _=>Q,λ_ _ h=>by simp at h⟩
theorem En.ext{a}(h:En R dc b g w)(e:∀k,g k=a k):En R dc b a w:=by rw[<-show g=a from funext e];exact h
theorem En.look{t e:TypeId}(h:En R dc b g w)(E:XB R mk dc ok)(s:Tryz.prog.underlying t=T (.map 3 e)){z:H'}(v:(zeroValue e).run zy w=.ok z w){k:M}(q:k<20000)(c):
 (g k=Z->(Instr.lookup t (.map<|T b) k c).run zy w=.ok (if c then P' #[z,O' zr]else z) w)/\∀a,g k=T a->(Instr.lookup t (.map<|T b) k c).run zy w=.ok (if c then P' #[mk a,O' zt]else mk a) w:=by
 have⟨x,m,N,P,S,n⟩:=h;obtain⟨K,B,p,F,_,rfl⟩:=m;rcases Maps.fit_look c Fz s v p F (ZO q)with⟨r,V,d⟩|⟨C,y,_,_,r,o,d,_⟩
 grind[Maps.has_false_of_atKey];obtain⟨j,H,rfl,X⟩:=E.inv _ _ o;have U:=Maps.has_true_of_atKey d;refine⟨λl=>(by grind),λa l=>?_⟩;have I:j=a:=E.inj j a<|(d<|dc a).symm.trans<|(n k a l).2<|dc a;grind
theorem En.put{t e:TypeId}(h:En R dc b g w)(E:XB R mk dc ok)(s:Tryz.prog.underlying t=T (.map 3 e)){k:M}(d:k<20000){a:α}(p:ok a):
 ∃w',(Instr.mapUpdate t (.map<|T b) k<|mk a).run zy w=.ok () w'/\En R dc b (λx=>if x=k then T a else g x) w'/\O (λk=>k=b) w w':=by
 have⟨m,j,v,B,C,F⟩:=h;have⟨w',r,n,o⟩:=World.ownsMap.store j Fz s (by grind[E']) (ZO d)<|E.rd a p;have l:∀x,has (m.put (kI k)<|dc a) x=zt->∃k,k<20000/\x=kI k:=λx c=>by grind[Maps.has_put_other]
 refine⟨w',r,⟨_,(Tr n l).1,l,λx y c=>?_,λx c H=>?_,λx y c=>?_⟩,(CT _ w).xA (World.mapTurned.grown o) λk d=>zo<|by cases d;rfl⟩
 .grind
 .grind[Maps.has_put_other,Uk]
 .dsimp only at c;split at c
  .next q=> cases c;rw[q];exact⟨Maps.has_put_same (World.ownsMap.isMap j) (Yf d) _,λz=>Maps.atKey_put_same (World.ownsMap.isMap j) (Yf d) _ z⟩
  grind[Maps.has_put_other,Uk,Maps.atKey_put_other]
theorem En.len{t e:TypeId}(h:En R dc b g w)(s:Tryz.prog.underlying t=T (.map 3 e))(j):
 ∃n:M,n<=20000/\(Builtin.len_ #[t] j #[.map<|T b]).run zy w=.ok n w/\(n=0↔∀k,g k=Z):=by
 have⟨l,d,o,v,x,q⟩:=h;refine⟨Maps.size l,(Tr d o).2,d.len s j,?_⟩;obtain⟨c,rfl,C,z⟩:=d.entries Fz;rw[Maps.size_eq];constructor;intro m k;cases r:g k with
 |none=>rfl
 |some a=> have:=(q k a r).1;rw[List.length_eq_zero_iff.1 m,Maps.has_eq]at this;simp at this
 intro B;cases c with
 |nil=>rfl
 |cons p c=>
  have y:has (.map (p::c):Cm) p.1=zt:=by grind[Maps.has_eq,WideAt.sameKey_self]
  grind
def Je(R:H'->Option (Cm×List MemPlace))(dc:α->Cm)(b r:M)(g:M->Option α)(e:Ce)(w:I'):Prop:=
 ∃c left d,w.ranges zy 3 R b r 20000 c left d/\(∀x,has c x=zt->∃k,k<20000/\x=kI k)/\(∀k a,g k=T a->k<20000)/\(∀k,k<20000->g k=Z->has c (kI k)=zr)/\(∀k a,g k=T a->has c (kI k)=zt/\∀z,c.atKey (kI k) z=dc a)/\∀k,e k↔left (kI k)=zt
theorem Je.map{r}{l:Ce}(h:Je R dc b r g l w):En R dc b g w:=by have⟨a,left,m,c,d,e,j,k,n⟩:=h;exact⟨a,c.owns,d,e,j,k⟩
theorem Je.ltr{r}{c:Ce}(h:Je R dc b r g c w):r<w:=by have⟨d,left,e,a,_⟩:=h;exact a.lt
theorem Je.iter{r}{e:Ce}(h:Je R dc b r g e w):∃a s c d,w.heap[r]? =T (.mapIter a s c d):=by have⟨j,left,m,⟨n,l,y,x,k,p,F,v,o,t,q⟩,_⟩:=h;grind
theorem Je.j{r}{k X:Ce}(h:Je R dc b r g k w)(j:O X w w')(s:¬X b)(v:¬X r):Je R dc b r g k w'/\w'.rangeLeft b r=w.rangeLeft b r:=by
 have z:=h.map.lt;have B:=h.ltr;have⟨a,left,c,d,o⟩:=h;have e:w'.ranges zy 3 R b r 20000 a left c:=by have⟨n,m,E,C,l,t,F,y,p,x,q⟩:=d;exact⟨n,m,E,C,l,(j.block b z s).trans t,F,y,p,(j.block r B v).trans x,q⟩
 exact⟨⟨a,left,c,e,o⟩,by rw[d.left_eq,e.left_eq]⟩
variable{i:Array Oper}{u:List Oper}{o:Oper}{a:Act}{f:Exit->Act->I'->Prop}
theorem GU(w)(d:o.guard=Z)(m:Operand)(t)(y:o.op=Op.range t m)(e)(E:Tryz.prog.underlying t=T (.map 3 e)){R:H'->Option (Cm×List MemPlace)}{dc:α->Cm}(b){g:M->Option α}
 (x:a.eval m=.map (T b))(z:En R dc b g w)
 (r:∀w',Je R dc b w g (λk=>∃a,g k=T a) w'->O Cb w w'->(w':M)=w+1->wpList zy i f u (a.put o.dst<|Z' w) w'):
 wpList zy i f (o::u) a w:=by
 have⟨h,n,j,p,l,q⟩:=z;refine wpList_range_own w d m t y 3 e Fz E R b 20000 h x n λw' B s C=>r w' ⟨h,_,_,B,j,p,l,q,λk=>⟨?_,λc=>?_⟩⟩ ((CT _ w).xA s λk c=>by cases c) C
 grind;obtain⟨F,v,e⟩:=j _ c;cases Uk e;cases d:g k with
 |none=>rw[l k v d]at c;cases c
 |some a=>exact⟨a,Q⟩
theorem Hy(w)(V:o.guard=Z)(e:Operand)(a5:o.op=Op.next e zr)(E:XB R mk dc ok)(b r:M){g:M->Option α}{d:Ce}(a1:a.eval e=Z' r)(h:Je R dc b r g d w)
 (P:(∀k,¬d k)->wpList zy i f u (a.put o.dst<|P' #[O' zr]) w)
 (S:∀(k:M) (x:α) (w':I'),k<20000->d k->g k=x->ok x->Je R dc b r g (λz=>d z/\z≠k) w'->w'.rangeLeft b r<w.rangeLeft b r->O (λz=>z=r) w w'->(w':M)=w->(Instr.entry<|Z' r).run zy w'=.ok (P' #[k,mk x]) w'->wpList zy i f u (a.put o.dst<|P' #[O' zt,k,mk x]) w'):
 wpList zy i f (o::u) a w:=by
 have a8:=h.map;have⟨j,left,B,l,m,I,K,n,N⟩:=h;refine wpList_next_ranges w V e a5 3 Fz R (λv:H'=>v) (λv:H'=>v) (λs _ _=>⟨s,Q⟩) (λv _ _=>⟨v,Q⟩) b r 20000 j left B a1 l (λ_ hl=>P λk c=>?_) ?_;grind;rintro s v kl y w' C a2 a3 hv p q a4 a0 a6 U;have hh:=Maps.has_true_of_atKey p;obtain⟨k,c,rfl⟩:=m kl hh;have⟨x',H,e2,a9⟩:=Maps.keyOf_int_inv underlying3 a2;have F:x'=(k:zw):=by grind[kI]
 subst H;subst F;obtain⟨x,rfl,rfl,a7⟩:=E.inv v _ hv;have X:g k=x:=by
  cases hq:g k with
  |none=>grind
  |some t=>rw[E.inj x t<|(p<|dc x).symm.trans<|(n k t hq).2<|dc x]
 refine S k x w' c ((N k).2 a3) X a7 ⟨j,_,C,q,m,I,K,n,λz=>?_⟩ (by rw[q.left_eq,l.left_eq];exact a4) ((CT _ w).xA a0 λk c=>zo<|by cases c;rfl) a6 U;grind[WideAt.sameKey_self,Yf,sameKey_ne,Uk]
end
theorem nU(x i):x &&& 2 ^ i=0↔x.testBit i=zr:=by constructor;intro h;have:=BG (λy=>y.testBit i) h;grind;intro h;apply Nat.eq_of_testBit_eq;grind
theorem Zz(h:B<18446744073709551616)(y j)(b:y<18446744073709551616):(y &&& (18446744073709551615-B)).testBit j=(y.testBit j && !B.testBit j):=by
 have e:18446744073709551615-B=2 ^ 64-(B+1):=by omega
 rw[Nat.testBit_and,e,Nat.testBit_two_pow_sub_succ (by omega:B<2 ^ 64)];by_cases a:j<64;simp[a];have:y.testBit j=zr:=Nat.testBit_lt_two_pow (Av (by omega:y<2 ^ 64)<|Nat.pow_le_pow_right (by decide)<|by omega);simp[this]
theorem Qm(h:B≠0):∃i,B.testBit i=zt:=by apply BC;intro q;exact h<|Nat.eq_of_testBit_eq λi=>by grind
theorem XN(h:B<18446744073709551616)(a:B.testBit C=zt):C<64:=by apply BC;intro q;rw[Nat.testBit_lt_two_pow<|Av (by omega:B<2 ^ 64)<|Nat.pow_le_pow_right (by decide)<|by omega]at a;cases a
theorem QD(l:B≠0)(h:B<18446744073709551616):Lib.ctz 64 B<64/\B.testBit (Lib.ctz 64 B)=zt/\∀i,(B &&& (B-1)).testBit i=(B.testBit i && zu (i≠Lib.ctz 64 B)):=by
 have⟨m,o,f⟩:=Lib.ctzFrom_spec 64 B (by omega) (by omega);have e:Lib.ctz 64 B=Lib.ctzFrom 64 B:=by grind[Lib.ctz]
 rw[e];generalize Lib.ctzFrom 64 B=k at*;have p:0<2 ^ k:=Nat.two_pow_pos k;have b:B-1=2 ^ k*(2*m)+(2 ^ k-1):=by grind
 have a:∀i,B.testBit i=(zu (k<=i) && (2*m+1).testBit (i-k)):=λi=>by grind
 have g:∀i,(B-1).testBit i=if i<k then(2 ^ k-1).testBit i else(2*m).testBit (i-k):=λi=>by rw[b,Nat.testBit_two_pow_mul_add _<|by omega]
 refine⟨f,by rw[a];simp,λi=>?_⟩;rw[Nat.testBit_and,a,g];by_cases d:i<k;grind;rw[Ba d];by_cases n:i=k;grind;obtain⟨j,rfl⟩:∃j,i=k+(j+1):=⟨i-k-1,by omega⟩;have c:k+(j+1)-k=j+1:=by omega
 rw[c,Nat.testBit_succ,Nat.testBit_succ,show(2*m+1) / 2=m by omega,show 2*m / 2=m by omega];simp
theorem Vg(a:B≠0):B &&& (B-1)<B:=by grind[Nat.and_le_right]
structure Wd(g:M->Option M)(m:Ce):Prop where
 ok:∀k x,g k=T x->x≠0/\x<18446744073709551616/\k<300
 d:∀n,m n↔∃x,g (n / 64)=T x/\x.testBit (n % 64)=zt
theorem Wd.lt{g}(h:Wd g z1)(a:z1 B):B<19200:=by have⟨x,b,_⟩:=(h.d B).1 a;have:=(h.ok _ _ b).2.2;omega
theorem Wd.nil:Wd (λ_=>Z) λ_=>zv:=⟨λ_ _ h=>by simp at h,λn=>by simp⟩
theorem Wd.empty{g}(h:Wd g z1):(∀k,g k=Z)↔∀n,¬z1 n:=by
 constructor;intro q n c;have⟨x,e,_⟩:=(h.d n).1 c;grind;intro q k;cases a:g k with
 |none=>rfl
 |some x=> have⟨i,b⟩:=Qm (h.ok k x a).1;have d:=XN (h.ok k x a).2.1 b;exact Bm ((h.d<|k*64+i).2 ⟨x,by grind,by grind⟩)<|q _
def wd(g:M->Option M)(k:M):M:=(g k).getD 0
theorem Wd.word{g}(h:Wd g z1)(n):z1 n↔(wd g<|n / 64).testBit (n % 64)=zt:=by
 rw[h.d];unfold wd;cases g (n / 64)with
 |none=>simp
 |some x=>simp
theorem Wd.small{g}(h:Wd g z1)(k):wd g k<18446744073709551616:=by
 unfold wd;cases a:g k with
 |none=>simp
 |some x=>exact(h.ok k x a).2.1
theorem Wd.put{g}(h:Wd g z1){k y:M}(d:k<300)(e:y≠0)(c:y<18446744073709551616):Wd (λx=>if x=k then T (wd g k|||y)else g x) λn=>z1 n\/(n / 64=k/\y.testBit (n % 64)=zt):=by
 refine⟨λx z b=>?_,λn=>?_⟩
 .split at b
  .next q=>
   cases b;refine⟨λf=>?_,?_,by omega⟩
   .grind
   .have:=Nat.or_lt_two_pow (n:=64) (x:=wd g k) (y:=y) (by have:=h.small k;omega) (by omega);omega
  .exact h.ok x z b
 .by_cases a:n / 64=k
  .simp only[a,BD,true_and];rw[h.word,a];grind
  .simp only[a,BE,false_and,or_false];exact h.d n
def OM:H'->Option (Cm×List MemPlace)
 |.int .u64 a=>if 0<=a/\a<18446744073709551616 then T (.lit<|.int .u64 a,[])else Z
 |_=>Z
def NK(n:M):Cm:=.lit<|.int .u64 n
def UO(n:M):Value:=.int .u64 n
theorem Pw:XB OM UO NK λn=>n<18446744073709551616:=by
 refine⟨λa d=>?_,λv z c=>?_,λa b h=>?_⟩
 .unfold OM UO NK;simp only;rw[Bb ⟨by omega,by omega⟩]
 .unfold OM at c;split at c
  .next a=>
   split at c
   .next h0=>
    cases c;refine⟨a.toNat,?_,?_,by omega⟩
    .unfold UO;rw[Int.toNat_of_nonneg h0.1]
    .unfold NK;rw[Int.toNat_of_nonneg h0.1]
   .cases c
  .cases c
 grind[NK]
def DV(b:M)(m:Ce)(w:I'):Prop:=∃g,En OM NK b g w/\Wd g m
theorem DV.j{X:Ce}{w w'}(h:DV B z1 w)(d:O X w w')(e:¬X B):DV B z1 w':=by have⟨g,a,c⟩:=h;exact⟨g,a.j d e,c⟩
theorem DV.lt(h:DV B z1 P):B<P:=by have⟨g,a,c⟩:=h;exact a.lt
theorem DV.made(w:I'):DV w (λ_=>zv)<|w.alloc<|.map #[] 0:=⟨_,En.made w,Wd.nil⟩
theorem DV.iff{m':Ce}(h:DV B z1 P)(e:∀n,z1 n↔m' n):DV B m' P:=by rw[<-show z1=m' from funext λn=>propext<|e n];exact h
theorem Wd.iff{g}{m':Ce}(h:Wd g z1)(e:∀n,z1 n↔m' n):Wd g m':=by rw[<-show z1=m' from funext λn=>propext<|e n];exact h
theorem qG(w):(zeroValue 249).run zy w=.ok (.int .u64 0) w:=by go_simp
theorem En.word{g}(h:En OM NK B g P){k:M}(f:k<20000):(Instr.lookup 89 (.map<|T B) k zr).run zy P=.ok (.int .u64<|wd g k) P:=by
 have⟨d,e⟩:=h.look Pw underlying89 (qG P) f zr;unfold wd;cases c:g k with
 |none=>exact d c
 |some a=>exact e a c
theorem Kl(b m)(x:M)(w:I')(h:DV b m w)(hx:x<19200):
 F' zy 100 #[.map<|T b,x] w λe F=>∃r:Bool,e=r/\(r=zt↔¬m x)/\DV b (λn=>m n\/n=x) F/\O (λk=>k=b) w F:=by
 have⟨g,o,j⟩:=h;have K:(Instr.lookup 89 (.map<|T b) (G A<|(x:zw) / 64) zr).run zy w.drew=.ok (.int .u64<|wd g<|x / 64) w.drew:=by have:=(o.j (O.drew<|CT Cb w) id).word (k:=x / 64) (by omega);rw[show(((x / 64:M):M):zw)=(x:zw) / 64 by omega]at this;exact this
 obtain⟨a,d⟩:∃a,a=2 ^ (x % 64):=⟨_,Q⟩;have l:a<18446744073709551616:=by have:2 ^ (x % 64)<2 ^ 64:=Nat.pow_lt_pow_right (by decide) (by omega);rw[d];omega
 have a0:IntKind.u64.wrap (2 ^ (x % 64))=(a:zw):=by
  rw[IntKind.wrap_u64,d];have:((2:zw) ^ (x % 64))=((2 ^ (x % 64):M):zw):=by simp
  rw[this];omega
 have p:=j.word x;have C:=j.put (k:=x / 64) (y:=a) (by omega) (by rw[d];exact Nat.ne_of_gt<|Nat.two_pow_pos _) l;have s:=j.small<|x / 64;have⟨c,B⟩:=Dv<|wd g<|x / 64;rw[B]at K p C s;have U:=bits_and_u64_nat c a s l;have V:=bits_or_u64_nat c a s l;have t:=nU c<|x % 64;rw[<-d]at t;obtain⟨u,H,v⟩:=Dq p d t;clear p B d t;by_cases f:m x
 .have z:((c &&& a:M):zw)≠0:=by
   have:=v.o;have i:=u.o.1 f;intro q;have q:c &&& a=0:=by omega
   rw[this.1 q]at i;cases i
  have S:(((c &&& a:M):zw) !=0)=zt:=by simpa using z
  go_in
  go_wp2_with fail
  go_region
  go_wp2_with fail
  go_ret
  exact⟨zr,Q,by simp[f],⟨g,o.j (X:=Cb) oq id,j.iff λn=>⟨zo,λq=>q.elim id λe=>e▸f⟩⟩,oq⟩
 .have z:(((c &&& a:M):zw) !=0)=zr:=by
   have i:c.testBit (x % 64)=zr:=by cases I:c.testBit<|x % 64;rfl;exact Bm (u.o.2 I) f
   rw[v.o.2 i];rfl
  have R:(c|||a)<18446744073709551616:=by have:=Nat.or_lt_two_pow (n:=64) (x:=c) (y:=a) (by omega) (by omega);omega
  have⟨w1,E,N,P⟩:=(o.j (O.drew<|CT Cb w) id).put Pw underlying89 (k:=x / 64) (by omega) R
  rw[show(((x / 64:M):M):zw)=(x:zw) / 64 by omega]at E
  unfold UO at E
  go_in
  go_wp2_with fail
  go_region
  go_wp2_with fail
  go_ret
  refine⟨zt,Q,by simp[f],⟨_,N,C.iff λn=>?_⟩,(O.drew<|CT _ w).trans P⟩
  rw[H.o,Nat.testBit_two_pow]
  simp only[A7]
  constructor
  rintro(q|⟨q1,q2⟩)
  exact zo q
  exact zn<|by omega
  rintro(q|rfl)
  exact zo q
  exact zn ⟨Q,Q⟩
theorem OH(x:M)(w:I')(g:x<19200):
 F' zy 97 #[x] w λe a=>∃b,e=Value.map (T b)/\(w:M)<=b/\DV b (λn=>n=x) a/\O Cb w a:=by
 have i:=@run_makeMap zy;have f:=DV.made w;go_in;go_wp2_with fail;apply(Kl _ _ x _ f g).mono;rintro e j ⟨r,rfl,_,c,d⟩;go_wp2_with fail;go_ret;exact⟨_,Q,Ad _,c.iff λn=>by simp,((CT _ w).alloc _).thn d λk h q=>by omega⟩
structure Zv(b o f r:M)(go:M->Option M)(m u:Ce)(rest:Ce)(w0 w:I'):Prop where
 rng:Je OM NK o r go rest w
 S:DV f (λn=>u n/\¬rest (n / 64)/\¬m n) w
 bs:DV b (λn=>m n\/(u n/\¬rest (n / 64))) w
 ob:O (λk=>k=b) w0 w
theorem LC(b o m u w)(h:DV b m w)(k:DV o u w)(b5:b≠o):
 F' zy 146 #[.map<|T b,.map<|T o] w λe w'=>∃f,e=Value.map (T f)/\w.heap.size<=f/\DV f (λn=>u n/\¬m n) w'/\DV b (λn=>m n\/u n) w'/\O (λk=>k=b) w w':=by
 have c1:=@run_makeMap zy;have⟨go,ko,K⟩:=k;have lo:=ko.lt;have lb:=h.lt;have R:O Cb w<|w.alloc<|.map #[] 0:=(CT _ w).alloc _;have v:=J<|DV.made w;have t:=J<|h.j R id;have C:=ko.j R id;clear h ko;go_in;go_wp2_with(at_range;apply GU _ Q _ 89 Q 249 underlying89 o Q C;intro w2 B g hs);have b0:(w.alloc (.map #[] 0):M)=w+1:=by simp
 rw[b0]at B hs|-;try go_frame
 have T0:Zv b o w ((w:M)+1) go m u (λk=>∃a,go k=T a) w w2:=by refine⟨B,(v.o.j g id).iff λn=>⟨False.elim,?_⟩,(t.o.j g id).iff λn=>⟨zo,?_⟩,(R.trans g).mono λ_ _ q=>q.elim⟩;rintro⟨q,r,_⟩;have⟨x,hx,_⟩:=(K.d n).1 q;exact r ⟨x,hx⟩;rintro(q|⟨q,r⟩);exact q;have⟨x,hx,_⟩:=(K.d n).1 q;exact Bm ⟨x,hx⟩ r
 clear B g hs v t C R b0;have c3:(w:M)<w+1:=Nat.lt_succ_self _;generalize (w:M)+1=r at*;go_loopw[] (λwr=>∃s:Ce,Zv b o w r go m u s w wr) (λwr=>wr.rangeLeft o r);exact⟨_,T0⟩;clear T0;have⟨s,l⟩:=hrel;go_wp2_with(at_next;refine Hy _ Q _ Q Pw o r Q l.rng ?_ ?_);rotate_left
 .intro k x V hk H a8 a1 B a0 g hs b3;unfold UO at b3;have⟨d,mb,X⟩:=l.bs;have⟨gf,mf,wf⟩:=l.S;have a6:b≠r:=by omega
  have a7:w≠r:=by omega
  have a2:=mb.j g λq=>a6 q;have b1:=mf.j g λq=>a7 q;have hW:=X.small k;have I:∀n,n / 64=k->(u n↔x.testBit (n % 64)=zt):=λn c=>by rw[K.word,c];unfold wd;rw[a8];rfl
  have F:∀n,n / 64=k->(m n↔(wd d k).testBit (n % 64)=zt):=λn c=>by have:=X.word n;rw[c]at this;rw[<-this];exact⟨zo,λq=>q.elim id λq=>Bm H q.2⟩
  have b4:wd gf k=0:=by apply BC;intro q;have⟨i,hi⟩:=Qm q;have hl:=XN (wf.small k) hi;have:=(wf.word<|k*64+i).2 (by rw[show(k*64+i) / 64=k by omega,show(k*64+i) % 64=i by omega];exact hi);rw[show(k*64+i) / 64=k by omega]at this;exact this.2.1 H
  have a9:=(K.ok k x a8).2.2;have hl:(Instr.lookup 89 (.map b) k zr).run zy V=.ok (.int .u64<|wd d k) V:=a2.word hk;have b6:=u64_andNot_nat x (wd d k) a1 hW;have⟨y,N⟩:=Dv<|x &&& (18446744073709551615-wd d k);have E:∀i,y.testBit i=(x.testBit i && !(wd d k).testBit i):=λi=>by rw[<-N];exact Zz hW x i a1
  have P:y<18446744073709551616:=by rw[<-N];exact BM Nat.and_le_left a1
  rw[N]at b6;have c2:=bits_or_u64_nat (wd d k) y hW P;obtain⟨HU,HM,c0⟩:=Dq I F E;have a3:=B;have C:=g;have v:D (∀n,(u n/\¬(s (n / 64)/\n / 64≠k)/\¬m n)↔(u n/\¬s (n / 64)/\¬m n)\/(n / 64=k/\y.testBit (n % 64)=zt)):=λn=>by by_cases c:n / 64=k;rw[c,E,I n c,F n c];cases x.testBit (n % 64)<;>cases (wd d k).testBit (n % 64)<;>simp[H];simp[c]
  have t:D (∀n,(m n\/(u n/\¬(s (n / 64)/\n / 64≠k)))↔(m n\/(u n/\¬s (n / 64)))\/(n / 64=k/\y.testBit (n % 64)=zt)):=λn=>by by_cases c:n / 64=k;rw[c,E,I n c,F n c];cases x.testBit (n % 64)<;>cases (wd d k).testBit (n % 64)<;>simp[H];simp[c]
  have a4:O (λk=>k=b) w V:=l.ob.thn g (λj hj q=>by omega);clear I F E B g N;by_cases p:y=0
  .have hz:((y:zw) !=0)=zr:=by rw[p];rfl
   have H3:Zv b o w r go m u (λz=>s z/\z≠k) w V:=
    ⟨a3,⟨gf,b1,wf.iff λn=>by rw[v.o,p];simp⟩,⟨d,a2,X.iff λn=>by rw[t.o,p];simp⟩,a4⟩
   clear p;go_wp2_with fail;go_roundw;exact⟨_,H3⟩;exact a0
  .have hz:((y:zw) !=0)=zt:=by simpa using p
   have b7:wd d k|||y<18446744073709551616:=by have:=Nat.or_lt_two_pow (n:=64) (x:=wd d k) (y:=y) (by omega) (by omega);omega
   have⟨w4,b8,m4,S⟩:=a2.put Pw underlying89 (k:=k) hk b7;have a5:w≠b:=by omega
   have⟨w5,b9,m5,U⟩:=(b1.j S λq=>a5 q).put Pw underlying89 (k:=k) (a:=y) hk P;unfold UO at b8 b9;have R4:=a3.j S (λq=>b5 q.symm) λq=>a6 q.symm;have R5:=R4.1.j U (λq=>by omega) λq=>a7 q.symm;have b2:w5.rangeLeft o r<wr.rangeLeft o r:=by rw[R5.2,R4.2];exact a0
   have pf:=wf.put (k:=k) (y:=y) a9 p P;rw[b4,Nat.zero_or]at pf;have H5:Zv b o w r go m u (λz=>s z/\z≠k) w w5:=
    ⟨R5.1,⟨_,m5,pf.iff λn=>(v.o n).symm⟩,⟨_,m4.j U λq=>a5 q.symm,(X.put (k:=k) (y:=y) a9 p P).iff λn=>(t.o n).symm⟩,(a4.trans S).thn U λj hj q=>by omega⟩
   clear R4 R5 pf m4 m5 S U p a0;go_wp2_with fail;go_roundw;exact⟨_,H5⟩;exact b2
 .intro hd;have v:=J l.S;have t:=J l.bs;have C:=l.ob;clear l;go_wp2_with fail;go_ret;exact⟨_,Q,Ad _,v.o.iff λn=>by simp[hd],t.o.iff λn=>by simp[hd],C⟩
theorem UC(b m w)(h:DV b m w):
 F' zy 146 #[.map<|T b,.map<|T b] w λe u=>∃f,e=Value.map (T f)/\w.heap.size<=f/\DV f (λ_=>zv) u/\DV b m u/\O Cb w u:=by
 have a2:=@run_makeMap zy;have⟨go,s,a1⟩:=h;have lo:=s.lt;have t:O Cb w<|w.alloc<|.map #[] 0:=(CT _ w).alloc _;have g:=DV.made w;have l:=s.j t id;clear s;go_in;go_wp2_with(at_range;apply GU _ Q _ 89 Q 249 underlying89 b Q l;intro w2 d c p);have C:(w.alloc (.map #[] 0):M)=w+1:=by simp
 rw[C]at d p|-;try go_frame
 have B:Je OM NK b ((w:M)+1) go (λk=>∃a,go k=T a) w2:=d;have y:=g.j c id;have z:=t.trans c;have a4:(w:M)<w+1:=Nat.lt_succ_self _;clear d c p g l t C;generalize (w:M)+1=r at*;go_loopw[] (λwr=>∃H:Ce,Je OM NK b r go H wr/\DV w (λ_=>zv) wr/\O Cb w wr) (λwr=>wr.rangeLeft b r);exact⟨_,B,y,z⟩;clear B y z;have⟨H,o,g,l⟩:=hrel;go_wp2_with(at_next;refine Hy _ Q _ Q Pw b r Q o ?_ ?_);rotate_left
 .intro k x v V a3 U n d X c p R;unfold UO at R;have S:w≠r:=by omega
  have K:=g.j c λq=>S q;have N:O Cb w v:=l.thn c (λj hj q=>by omega);have E:wd go k=x:=by unfold wd;rw[U];rfl
  have hl:(Instr.lookup 89 (.map b) k zr).run zy v=.ok (.int .u64 x) v:=by rw[<-E];exact d.map.word V
  have a0:=u64_andNot_nat x x n n;have F:x &&& (18446744073709551615-x)=0:=Nat.eq_of_testBit_eq λi=>by rw[Zz n x i n];simp
  rw[F]at a0;have hz:(((0:M):zw) !=0)=zr:=Q;have P:=d;clear d c E F;go_wp2_with fail;go_roundw;exact⟨_,P,K,N⟩;exact X
 .intro hd;have I:DV b m wr:=⟨go,o.map,a1⟩;clear o;go_wp2_with fail;go_ret;exact⟨_,Q,Ad _,g,I,l⟩
def Mz(w:I'):Prop:=TabAt 0 Lib.deBruijn64tab w
theorem eR(x k a:M)(w:I')(h:((x:zw)==0)=zr)
 (b:IntKind.u64.wrap (bits BinOp.and IntKind.u64 (x:zw) (IntKind.u64.wrap<|-(x:zw))*285870213051353865) / 288230376151711744=(a:zw))
 (f:a<64)(g:k<64)(d:w (0,a)=Value.int .u8 k):
 F' zy 147 #[.int .u64 x] w λe c=>e=k/\c=w:=by
 go_in;go_wp2_with(simp only[b]);go_ret;exact⟨Q,Q⟩
theorem mF(x:M)(w:I')(f:x≠0)(d:x<18446744073709551616)(a:Mz w):
 F' zy 147 #[.int .u64 x] w λe g=>e=(Lib.ctz 64 x)/\g=w:=by
 have⟨i,c⟩:=Lib.lowest_bit 64 x f d;have⟨b,j⟩:=Lib.deBruijn64_at _ c;have h:=a _ b;grind[eR,tz64_key]
theorem Mz.j{X:Ce}{w w'}(h:Mz w)(c:O X w w')(d:¬X 0)(b:0<w.heap.size):Mz w':=λj a=>by rw[Ae<|c.block _ b d];exact h j a
theorem GB(h:J' P B q0 C V R y1):∀k,L' V=T k->∃a,P.heap[k]? =T (R' a q0 (0,0)):=by
 intro k b;rcases h.2 with⟨rfl,_⟩|⟨g,d,a,rfl,_,c,_⟩
 cases b;cases b;exact⟨a,c⟩
theorem Je.neRow{f:H'->Option (Cm×List MemPlace)}{j:z9->Cm}{g}(h:Je f j B C g z1 P)(k:J' P R q0 X V v0 y1):L' V≠B/\L' V≠C:=by refine⟨λq=>?_,λq=>?_⟩;have⟨i,l⟩:=GB k _ q;have⟨o,c,m⟩:=h.map.xJ;grind;have⟨i,l⟩:=GB k _ q;have⟨a,s,c,d,m⟩:=h.iter;grind
structure XD(m rest:Ce)(k y:M)(l:Cf):Prop where
 nd:l.Pairwise (·≠ ·)
 d:∀n,n∈l↔m n/\¬rest (n / 64)/\¬(n / 64=k/\y.testBit (n % 64)=zt)
theorem XD.step{d:Ce}(h:XD z1 d B C q2)(t:¬d B)(u:∀i,i<64->C.testBit i=zt->z1 (B*64+i))(g:C≠0)(j:C<18446744073709551616):XD z1 d B (C &&& (C-1))<|q2++[B*64+Lib.ctz 64 C]:=by
 have⟨q,r,e⟩:=QD g j;generalize Lib.ctz 64 C=c at*;have f:(B*64+c) / 64=B:=by omega
 have s:(B*64+c) % 64=c:=by omega
 refine⟨List.pairwise_append.2 ⟨h.nd,List.pairwise_singleton _ _,λa o b p=>?_⟩,λn=>?_⟩;rw[Ay.1 p];rintro rfl;exact((h.d _).1 o).2.2 ⟨f,by grind⟩;rw[AJ,Ay,h.d,e];grind
theorem XD.len{c:Ce}(h:XD z1 c B C q2)(a:∀n,z1 n->n<19200):L q2<=19200:=GA 19200 q2 h.nd λx b=>a x ((h.d x).1 b).1
theorem G6(b m w)(h:DV b m w)(hT:Mz w)(hg:0<w.heap.size):
 F' zy 99 #[.map<|T b] w λe w'=>∃v l,e=T' v/\CY w w' v l/\l.Pairwise (·≠ ·)/\(∀x,x∈l↔m x)/\O Cb w w':=by
 have⟨i0,c0,c5,c6,c7⟩:=Bx Tryz.infoInt;have⟨go,ko,U⟩:=h;have lo:=ko.lt;go_in;go_wp2_with(at_range;apply GU _ Q _ 89 Q 249 underlying89 b Q ko;intro w2 K C hs);try go_frame
 have P:=K;have O0:=C;have I0:CY w w2 (Y Z 0 0) []:=An _ _ _ _;have H:D (([]:Cf).Pairwise (·≠ ·)/\∀n,n∈([]:Cf)↔m n/\¬∃a,go (n / 64)=T a):=⟨List.Pairwise.nil,λn=>⟨λq=>Bm q AE,λq=>by have⟨x,E,_⟩:=(U.d n).1 q.1;exact Bm ⟨x,E⟩ q.2⟩⟩
 clear K C hs ko;obtain⟨r,S⟩:∃r,r=(w:M):=⟨_,Q⟩;have P:Je OM NK b r go (λk=>∃a,go k=T a) w2:=by rw[S];exact P
 rw[<-S];have b6:=J S;clear S;go_loopw[3] (λv wr=>∃(F:Ce) (l:Cf) (d:Ch) (f:M),v=Y d l f/\CY w wr (Y d l f) l/\Je OM NK b r go F wr/\D (l.Pairwise (·≠ ·)/\∀n,n∈l↔m n/\¬F (n / 64))/\O Cb w wr) (λ_ wr=>wr.rangeLeft b r);exact⟨_,[],Z,0,Q,I0,P,H,O0⟩;clear P O0 I0 H;obtain⟨F,l,d,f,rfl,g,p,o,s⟩:=hrel;go_wp2_with(at_next;refine Hy _ Q _ Q Pw b r Q p ?_ ?_);rotate_left
 .intro k x w3 hk c3 b0 c4 K a2 C hs b9;unfold UO at b9;have E:=U.ok k x b0;have d1:=E.2.2;have I:=p.neRow g;have a3:CY w w3 (Y d l f) l:=Cx g C (λj B q=>I.2<|by rw[B,q]);have a8:=K;have a7:O Cb w w3:=s.thn C (λj B q=>by have:=b6.o;omega);have hm:∀i,i<64->(m (k*64+i)↔x.testBit i=zt):=λi hi=>by rw[U.word,show(k*64+i) / 64=k by omega,show(k*64+i) % 64=i by omega];unfold wd;rw[b0];rfl
  have a5:XD m (λz=>F z/\z≠k) k x l:=⟨o.o.1,λn=>by rw[o.o.2];by_cases R:n / 64=k;have:=hm (n % 64) (by omega);rw[show k*64+n % 64=n by omega]at this;simp[R,c3,this];simp[R]⟩
  have HM:=J hm;have⟨H,a0⟩:=Dv<|wr.rangeLeft b r;rw[a0]at a2;have u:=a2;have b4:=J a0;clear K C hm g p o s I a2 a0;go_wp2_with fail;go_loopw[3,5] (λv z X=>∃(y:M) (l:Cf) (d:Ch) (f:M),v=Y d l f/\z=.int .u64 y/\y<18446744073709551616/\D (∀i,y.testBit i=zt->x.testBit i=zt)/\D (XD m (λz=>F z/\z≠k) k y l)/\CY w X (Y d l f) l/\D (Je OM NK b r go (λz=>F z/\z≠k) X)/\X.rangeLeft b r<H/\O Cb w X) (λ_ z _=>(zm z).toNat);exact⟨x,l,d,f,Q,Q,c4,λ_ q=>q,a5,a3,a8,u,a7⟩;clear a3 a8 a5 a7 u;obtain⟨y,l,d,f,rfl,rfl,N,HY,o,g,p,u,s⟩:=hrel;by_cases t:y=0
  .subst t;have hz:(((0:M):zw) !=0)=zr:=Q;go_wp2_with fail;go_roundw;exact⟨_,l,d,f,Q,g,p,⟨o.o.nd,λn=>by rw[o.o.d];simp⟩,s⟩;rw[b4.o];exact u
  .have hz:((y:zw) !=0)=zt:=by simpa using t
   have hc:=(QD t N).1;have a6:=o.o.step (λq=>q.2 Q) (λi hi q=>(HM.o i hi).2<|HY.o i q) t N;have c1:=a6.len λn R=>U.lt R;rw[Ah,Az]at c1;have b7:=hT.j s id hg;have d0:=bits_and_u64_nat y (y-1) N (by omega);have d3:IntKind.u64.wrap ((y:zw)-1)=((y-1:M):zw):=by rw[IntKind.wrap_u64];omega
   have b8:D (∀i,(y &&& (y-1)).testBit i=zt->x.testBit i=zt):=λi q=>by rw[(QD t N).2.2]at q;simp only[Bool.and_eq_true]at q;exact HY.o i q.1
   have d2:=Vg t;have d4:=s.size;go_wp2_with fail;apply FC<|mF y _ t N b7;generalize Lib.ctz 64 y=c at*;have I:=p.neRow g;go_wp2_with(at_builtin;refine AO _ Q _ _ 105 Q w 3 i0 (G A 0) 1 8 underlying105 c0 c5 c6 c7 Q (by decide) _ _ _ Q (g.alloc _) wr 1 1 [G A<|(k:zw)*64+c] Q Q (C3 (by simp) _ _) (λx E=>by simp at E;subst E;rfl) (by unfold E';omega) (by omega) (by simp;omega) ?_;intro v' V b2 a1 c2);have b5:O Cb w V:=O.xA (s.alloc _) a1 λj B=>zn (g.lt j B).1;have b1:O (λj=>T j=L' (Y d l f)) wr V:=O.xA oq a1 λj B=>zo B.symm;have⟨R5,L5⟩:=p.j b1 (λq=>I.1 q.symm) λq=>I.2 q.symm;have b3:V.rangeLeft b r<H:=by show _<_;rw[L5];exact u
   have a9:CY w V v'<|l++[k*64+c]:=by unfold CY;rw[Ah,Az,Bn];exact b2
   obtain⟨c8,c9,rfl⟩:=CB a9;clear b2 a1 c2 b1 L5 p g u;go_wp2_with fail;go_roundw;exact⟨_,_,c8,c9,Q,Q,by omega,b8,a6,a9,R5,b3,b5⟩;simp[intOf];omega
 .intro hd;have a4:=o.o;clear p o;go_wp2_with fail;go_ret;exact⟨_,l,Q,g,a4.1,λn=>by rw[a4.2];simp[hd],s⟩
theorem cN(b o m u w)(h:DV b m w)(k:DV o u w):
 F' zy 84 #[.map<|T b,.map<|T o] w λe w'=>∃r:Bool,e=r/\(r=zt↔∃n,m n/\u n)/\O Cb w w':=by
 have⟨d,E,X⟩:=h;have⟨go,ko,a0⟩:=k;have lb:=E.lt;have lo:=ko.lt;go_in;go_wp2_with(at_range;apply GU _ Q _ 89 Q 249 underlying89 b Q E;intro w2 g f U);try go_frame
 have P:=f;obtain⟨r,s⟩:∃r,r=(w:M):=⟨_,Q⟩;have R:Je OM NK b r d (λk=>∃a,d k=T a) w2:=by rw[s];exact g
 rw[<-s];have a4:=J s;have N:D (∀n,m n->u n->∃a,d (n / 64)=T a):=λn B _=>by have⟨x,hx,_⟩:=(X.d n).1 B;exact⟨x,hx⟩
 clear g f U E s;go_loopw[] (λwr=>∃(t:Ce),Je OM NK b r d t wr/\(∀n,m n->u n->t (n / 64))/\O Cb w wr) (λwr=>wr.rangeLeft b r);exact⟨_,R,N,P⟩;clear R P N;have⟨t,HR,I,K⟩:=hrel;go_wp2_with(at_next;refine Hy _ Q _ Q Pw b r Q HR ?_ ?_);rotate_left
 .intro k x F hk b0 a7 a1 g a8 f U a6;unfold UO at a6;have v:O Cb w F:=K.thn f (λj hj q=>by have:=a4.o;omega);have hl:(Instr.lookup 89 (.map o) k zr).run zy F=.ok (.int .u64<|wd go k) F:=(ko.j v id).word hk;have V:=a0.small k;have a5:=bits_and_u64_nat x (wd go k) a1 V;have z:∀n,n / 64=k->((m n/\u n)↔(x &&& wd go k).testBit (n % 64)=zt):=λn B=>by
   rw[X.word,a0.word,B,Nat.testBit_and];have:wd d k=x:=by unfold wd;rw[a7];rfl
   rw[this];simp
  have⟨y,C⟩:=Dv<|x &&& wd go k;have a9:y<18446744073709551616:=by rw[<-C];exact BM Nat.and_le_left a1
  rw[C]at a5 z;have H:=J z;have a3:=g;clear g f z C V;by_cases c:y=0
  .have hz:((y:zw) !=0)=zr:=by rw[c];rfl
   have a2:D (∀n,m n->u n->t (n / 64)/\n / 64≠k):=λn l p=>⟨I n l p,λq=>by have:=(H.o n q).1 ⟨l,p⟩;rw[c]at this;simp at this⟩
   clear c;go_wp2_with fail;go_roundw;exact⟨_,a3,a2,v⟩;exact a8
  .have hz:((y:zw) !=0)=zt:=by simpa using c
   have HX:∃n,m n/\u n:=by have⟨i,S⟩:=Qm c;have hl:=XN a9 S;exact⟨k*64+i,(H.o _<|by omega).2<|by rw[show(k*64+i) % 64=i by omega];exact S⟩
   clear c;go_wp2_with fail;go_ret;exact⟨zt,Q,by simpa using HX,v⟩
 .intro hd;go_wp2_with fail;go_ret;exact⟨zr,Q,by simp;exact λn l p=>hd _<|I n l p,K⟩
def Mj:H'->Option (Cm×List MemPlace)
 |.map (T b)=>T (.lit<|.int .i64 b,[])
 |_=>Z
def Mi(b:M):Cm:=.lit<|.int .i64 b
def Ly(b:M):Value:=.map<|T b
theorem Ha:XB Mj Ly Mi λ_=>True:=by
 refine⟨λa _=>Q,λv z c=>?_,λa b h=>?_⟩;unfold Mj at c;split at c
 next b=>cases c;exact⟨b,Q,Q,trivial⟩
 cases c;grind[Mi]
theorem Ez(w):(zeroValue 89).run zy w=.ok (.map Z) w:=by go_simp
def eF:H'->Option (Cm×List MemPlace)
 |Y (T ⟨g,0,Z⟩) l c=>T (DataW.agg [.lit<|.int .i64 g,.lit<|.int .i64 l,.lit<|.int .i64 c],[])
 |_=>Z
def eE(t:M×M×M):Cm:=DataW.agg [.lit<|.int .i64 t.1,.lit<|.int .i64 t.2.1,.lit<|.int .i64 t.2.2]
def Mk(t:M×M×M):Value:=Y t.1 t.2.1 t.2.2
theorem lN:XB eF Mk eE λ_=>True:=by
 refine⟨λa _=>Q,λv z d=>?_,λa b h=>?_⟩;unfold eF at d;split at d
 next g l c=>cases d;exact⟨(g,l,c),Q,Q,trivial⟩
 cases d;grind[eE]
theorem Xa(w):(zeroValue 265).run zy w=.ok (Y Z 0 0) w:=by go_simp
structure So where
 om:M->M
 bk:M->M->Option M
 fw:M->Option (M×M×M)
 rl:M->List Rl
def ET(P:CQ)(v:Sv)(t i x:M):Prop:=
 (t=0->v.s.I i x)/\(t=1->v.s.E i x)/\(t=2->v.N i x)/\(t=3->v.s.F i x)/\(t=4->Sr P i x)
def qA(o:So)(b:H')(c d a:M):Cg:=#[b,c,d,a,.map<|T<|o.om 0,.map<|T<|o.om 1,.map<|T<|o.om 2,.map<|T<|o.om 3,.map<|T<|o.om 5,.map<|T<|o.om 4]
def Dh(P:CQ)(a c:M):Prop:=(∃f i,f<L P/\i<L (CO P f).y/\c=vN f i)\/∃n k,1<=n/\n<=a/\k<4/\c=pN n k
def pQ(r:Rl)(a:H'):Ci:=G A r.f::NS r.s a
def MX(B:M)(w:I')(v:H')(l:List Rl):Prop:=∃a:List<|Ci,J' w B 209 9 v (L l) a.flatten/\L a=L l/\∀i (h:i<L a) (c:i<L l),∃b,a[i]=pQ l[i] b/\CY 0 w b l[i].s.k
structure Es(P:CQ)(sb:M)(fv:H')(mn pn cn:M)(o:So)(v:Sv)(w:I'):Prop where
 p:W sb (qA o fv mn pn cn) 139 w
 mp:∀t,t<=4->En Mj Mi (o.om t) (o.bk t) w
 st:∀t i k,o.bk t i=T k->DV k (ET P v t i) w
 dj:∀t i t' i' k,o.bk t i=T k->o.bk t' i'=T k->t=t'/\i=i'
 oj:∀t t',t<=5->t'<=5->o.om t=o.om t'->t=t'
 ne:∀t i k t',o.bk t i=T k->t'<=5->k≠o.om t'
 t4:∀t i k,o.bk t i=T k->t<=4
 d0:∀c,(t:M)->t=0\/t=3->((∃k,o.bk t c=T k)↔Dh P pn c)
 d1:∀n,(∃k,o.bk 1 n=T k)↔1<=n/\n<=cn
 d4:∀f,(∃k,o.bk 4 f=T k)↔f<P.length
 d2:∀c k,o.bk 2 c=T k->∃x,v.N c x
 ins:∀t i x,t<=4->ET P v t i x->∃k,o.bk t i=T k
 fm:En eF eE (o.om 5) o.fw w
 S:∀c t,o.fw c=T t->MX 0 w (Mk t) (o.rl c)
 fj:∀c c' t t',o.fw c=T t->o.fw c'=T t'->t.1=t'.1->c=c'
 f0:∀c,o.fw c=Z->o.rl c=[]
 fvr:∀c r,v.W c r↔r∈o.rl c
theorem Qy:ET U y7 2 B C↔y7.N B C:=by simp[ET]
def So.own(o:So)(a k:M):Prop:=k=a\/(∃t,t<=5/\k=o.om t)\/(∃t i,o.bk t i=k)\/∃c t,o.fw c=T t/\k=t.1
theorem MX.j{w w' l}{X:Ce}(h:MX B w V l)(b:O X w w')(o:∀k,L' V=T k->¬X k)(n:∀k a d,X k->w.heap[k]? ≠T (R' a 3 d)):MX B w' V l:=by have⟨a,f,g,j⟩:=h;refine⟨a,Cx f b o,g,λi q p=>?_⟩;have⟨c,e,m⟩:=j i q p;exact⟨c,e,CD m b n⟩
theorem Es.j{o w w'}{X:Ce}(h:Es U B V C R v0 o y7 w)(b:O X w w')(d:∀k,X k->¬o.own B k)(j:∀k f g,X k->w.heap[k]? ≠T (R' f 3 g)):Es U B V C R v0 o y7 w':=
 {h with
  p:=h.p.j b λq=>d _ q<|zo Q
  mp:=λt l=>(h.mp t l).j b λq=>d _ q<|zn<|zo ⟨t,by omega,Q⟩
  st:=λt i k a=>(h.st t i k a).j b λq=>d _ q<|zn<|zn<|zo ⟨t,i,a⟩
  fm:=h.fm.j b λq=>d _ q<|zn<|zo ⟨5,by omega,Q⟩
  S:=λc t e=>(h.S c t e).j b (λk a q=>d _ q<|zn<|zn<|zn ⟨c,t,e,by unfold Mk at a;cases a;rfl⟩) j}
theorem Es.t8{o}(h:Es U B V C R X o y7 P)(a:O Cb P y0):Es U B V C R X o y7 y0:=h.j a (λ_ q=>q.elim) λ_ _ _ q=>q.elim
section
variable{P:CQ}{a:M}{s:H'}{u B l:M}{o:So}{v:Sv}{w C:I'}
theorem DV.xJ{b m w}(h:DV b m w):∃d c,w.heap[b]? =T (.map d c):=by have⟨g,e,_⟩:=h;exact e.xJ
theorem Es.e(h:Es P a s u B l o v w){k}(d:o.own a k):(∃e c,w.heap[k]? =T (.map e c))\/(∃b,w.heap[k]? =T (R' b 139 (0,0)))\/∃b,w.heap[k]? =T (R' b 209 (0,0)):=by
 rcases d with rfl|⟨t,m,rfl⟩|⟨t,i,d⟩|⟨c,t,j,rfl⟩
 exact zn<|zo ⟨_,h.p⟩;by_cases g:t=5;subst g;exact zo h.fm.xJ;exact zo (h.mp t<|by omega).xJ;exact zo (h.st t i k d).xJ;have⟨b,f,_⟩:=h.S c t j;exact zn<|zn<|GB f _ Q
theorem Es.noCells(h:Es P a s u B l o v w){k b t c}(g:o.own a k)(d:t≠139)(f:t≠209):w.heap[k]? ≠T (R' b t c):=by
 intro q;rcases h.e g with⟨_,_,e⟩|⟨_,e⟩|⟨_,e⟩<;>rw[e]at q<;>cases q
 exact d Q;exact f Q
theorem Es.ownLt(h:Es P a s u B l o v w){k}(b:o.own a k):k<w:=by rcases h.e b with⟨_,_,e⟩|⟨_,e⟩|⟨_,e⟩<;>exact lt_of_block e
theorem Es.yC(h:Es P a s u B l o v w){k b c}(j:w.heap[k]? =T (.map b c)):k≠a/\∀c t,o.fw c=T t->k≠t.1:=by refine⟨?_,λc t e=>?_⟩;rintro rfl;have:=h.p;grind[W];rintro rfl;have⟨f,d,_⟩:=h.S c t e;have⟨g,i⟩:=GB d _ Q;grind
theorem Es.put(h:Es P a s u B l o v w){t i k}{m:Ce}{v':Sv}(g:o.bk t i=T k)(R:DV k m C)(y:O (λj=>j=k) w C)(K:∀x,ET P v' t i x↔m x)(E:∀b d x,¬(b=t/\d=i)->(ET P v' b d x↔ET P v b d x))(N:v'.W=v.W)(hN:t=2->∃x,m x):Es P a s u B l o v' C:=by
 have⟨es,c,S⟩:=(h.st t i k g).xJ;have⟨V,X⟩:=h.yC S;have t4:=h.t4 t i k g;refine{h with p:=h.p.j y λq=>V q.symm,mp:=λb F=>(h.mp b F).j y λq=>h.ne t i k b g (by omega) q.symm,st:=λb d z p=>?_,ins:=λb d x F q=>?_,d2:=λf z p=>?_,fm:=h.fm.j y λq=>h.ne t i k 5 g (by omega) q.symm,S:=λf b H=>(h.S f b H).j y (λj I q=>X f b H<|by unfold Mk at I;cases I;exact q.symm) λj cs fz q r=>by grind,fvr:=λc r=>by rw[N];exact h.fvr c r};by_cases e:b=t/\d=i;obtain⟨rfl,rfl⟩:=e;rw[g]at p;cases p;exact R.iff λn=>(K n).symm
 have:z≠k:=λq=>e<|h.dj b d t i k (q▸p) g
 exact((h.st b d z p).j y this).iff λn=>(E b d n e).symm
 by_cases e:2=t/\f=i;grind[Qy];have⟨x,U⟩:=h.d2 f z p;exact⟨x,Qy.1<|(E 2 f x e).2<|Qy.2 U⟩;by_cases e:b=t/\d=i;grind;exact h.ins b d x F<|(E b d x e).1 q
def So.news(o:So)(c f:M):So:={o with bk:=λt i=>if t=2 then(if i=c then T f else o.bk 2 i)else o.bk t i}
theorem Es.news(h:Es P a s u B l o v w){c f}{m:Ce}{v':Sv}(R:¬o.own a f)(a2:∃U c,w.heap[f]? =T (.map U c))(hm:DV f m C)(X:En Mj Mi (o.om 2) (λx=>if x=c then T f else o.bk 2 x) C)(H:O (λj=>j=o.om 2) w C)(V:∀x,ET P v' 2 c x↔m x)(K:∀b d x,¬(b=2/\d=c)->(ET P v' b d x↔ET P v b d x))(hW:v'.W=v.W)(hN:∃x,m x):Es P a s u B l (o.news c f) v' C:=by
 have⟨a1,c2,a0⟩:=(h.mp 2<|by omega).xJ;have⟨n1,n2⟩:=h.yC a0;have E:∀t i k,(o.news c f).bk t i=T k->(t=2/\i=c/\k=f)\/(¬(t=2/\i=c)/\o.bk t i=T k):=λt i k g=>by grind[So.news]
 have I:∀t i,t≠2->(o.news c f).bk t i=o.bk t i:=λt i e=>by unfold So.news;dsimp only;rw[Ba e]
 have a3:∀t i k,o.bk t i=T k->k≠f:=λt i k g q=>R<|q▸zn (zn<|zo ⟨t,i,g⟩)
 refine{h with p:=h.p.j H λq=>n1 q.symm,mp:=λb y=>?_,st:=λb d z F=>?_,dj:=λt i b d k g F=>?_,ne:=λt i k b g y=>?_,t4:=λt i k g=>?_,d0:=λp t ht=>?_,d1:=λn=>?_,d4:=λn=>?_,d2:=λp z F=>?_,ins:=λb d x y q=>?_,fm:=h.fm.j H λq=>Bm (h.oj 5 2 (by omega) (by omega) q)<|by omega,S:=λp b N=>(h.S p b N).j H (λj S q=>n2 p b N<|by unfold Mk at S;cases S;exact q.symm) λj cs fz q r=>by grind,fvr:=λc r=>by rw[hW];exact h.fvr c r};by_cases e:b=2;subst e;exact X.ext λx=>by grind[So.news]
 have:(o.news c f).bk b=o.bk b:=funext λi=>I b i e
 rw[this];exact(h.mp b y).j H (λq=>e<|h.oj b 2 (by omega) (by omega) q);rcases E b d z F with⟨rfl,rfl,rfl⟩|⟨e,g⟩
 exact hm.iff λn=>(V n).symm
 exact((h.st b d z g).j H<|h.ne b d z 2 g<|by omega).iff λn=>(K b d n e).symm
 rcases E t i k g with⟨rfl,rfl,rfl⟩|⟨e,q⟩
 grind;rcases E b d k F with⟨rfl,rfl,rfl⟩|⟨e',q'⟩
 grind;exact h.dj t i b d k q q';rcases E t i k g with⟨rfl,rfl,rfl⟩|⟨e,q⟩
 exact λq=>R<|zn<|zo ⟨b,y,q⟩
 exact h.ne t i k b q y;rcases E t i k g with⟨rfl,rfl,rfl⟩|⟨e,q⟩
 omega;exact h.t4 t i k q;rw[<-h.d0 p t ht,I t p<|by omega];rw[<-h.d1 n,I 1 n<|by omega];rw[<-h.d4 n,I 4 n<|by omega];rcases E 2 p z F with⟨_,rfl,_⟩|⟨e,q⟩
 grind[Qy];have⟨x,hx⟩:=h.d2 p z q;exact⟨x,Qy.1<|(K 2 p x e).2<|Qy.2 hx⟩;by_cases e:b=2/\d=c;obtain⟨rfl,rfl⟩:=e;exact⟨f,by grind[So.news]⟩;have⟨k,g⟩:=h.ins b d x y<|(K b d x e).1 q;grind[So.news]
end
structure Hl(P:CQ)(sb:M)(fv:H')(mn pn cn:M)(o o':So)(v:Sv)(w w':I'):Prop where
 r:Es P sb fv mn pn cn o' v w'
 ow:∀k,o'.own sb k->o.own sb k\/(w:M)<=k
 rl:(o'.rl,o'.fw)=(o.rl,o.fw)
 on:O (o.own sb) w w'
theorem Jo(P:CQ)(v:Sv)(c:M)(a:Ce)(t i x:M):ET P (v.give c a) t i x↔ET P v t i x\/(t=0/\i=c/\a x)\/(t=2/\i=c/\a x/\¬v.s.I c x):=by grind[ET,Sv.give]
theorem Ng(P d p y B m o v w)(c E U:M)(b:Ce)(h:Es P d p y B m o v w)(s:o.bk 0 c=E)(ht:DV U b w)(hc:c<20000)(b3:U≠E):
 F' zy 139 #[Z' d,c,.map<|T U] w λe w'=>e=P' #[]/\∃o',Hl P d p y B m o o' (v.give c b) w w':=by
 have b4:=(h.st 0 c E s).iff (m':=v.s.I c) λn=>by simp[ET]
 obtain⟨-,-,-,-,p4,-,p6⟩:=h.p.k7;have b9:=Cz h.p;have l0:=((h.mp 0<|by omega).look Ha underlying87 (Ez w) hc zr).2 E s;unfold Ly at l0;go_in;go_wp2_with fail;apply(LC E U (v.s.I c) b w b4 ht<|Ne.symm b3).mono;rintro e g ⟨f,rfl,hf,sf,s0,o1⟩;obtain⟨K,S⟩:∃K:Sv,K=⟨⟨λx t=>v.s.I x t\/(x=c/\b t),v.s.F,v.s.E⟩,v.N,v.W⟩:=⟨_,Q⟩;have R:∀t i x,ET P K t i x↔ET P v t i x\/(t=0/\i=c/\b x):=λt i x=>by rw[S];by_cases h0:t=0;subst h0;simp[ET];simp[ET,h0]
 have l:Es P d p y B m o K g:=h.put (v':=K) s s0 o1 (λx=>by rw[R];simp[ET]) (λt' i' x q=>by rw[R];exact⟨λr=>r.elim id λr=>Bm ⟨r.1,r.2.1⟩ q,zo⟩) (by rw[S]) (by nofun);have a5:¬o.own d f:=λq=>by have:=h.ownLt q;omega
 have lf:=sf.lt;have⟨gf,mf,wf⟩:=sf;have⟨n,hn,b7,a4⟩:=mf.len underlying89 3;rw[wf.empty]at a4;have p6:=l.p.j6;have c0:=Cz l.p;have I:=(l.mp 2<|by omega).look Ha underlying87 (Ez g) hc zr;have V:=J a4;have a2:DV f (λn=>b n/\¬v.s.I c n) g:=⟨gf,mf,wf⟩;have a0:O (o.own d) w g:=o1.mono λj _ q=>by rw[q];exact zn<|zn<|zo ⟨0,c,s⟩
 have H:=J R;have a3:=J S;clear a4 mf wf o1 s0 R S;by_cases hz:n=0
 .subst hz;have u:Es P d p y B m o (v.give c b) g:=l.put (v':=v.give c b) s ((l.st 0 c E s).j (X:=Cb) oq id) oq (λx=>by
   rw[Jo,H.o];simp[ET]) (λt' i' x q=>by
   rw[Jo,H.o];have:=V.o.1 Q x;constructor;rintro(r|r|⟨_,_,r⟩);exact zo r;exact zn r;exact Bm r this;rintro(r|r);exact zo r;exact zn<|zo r) (by rw[a3.o];rfl) (by nofun)
  have HR:=u;clear u I;go_wp2_with fail;exact Ak (v:=P' #[]) (by simp[zz,results139,go_sem]) Q ⟨Q,o,HR,λ_ q=>zo q,Q,a0⟩
 .have b8:=Ka n 0 (by omega);have a6:∃x,b x/\¬v.s.I c x:=by apply BC;intro q;exact hz<|V.o.2 λx hx=>q ⟨x,hx⟩
  clear V hz;cases C:o.bk 2 c with
  |none=>
   have l3:=I.1 C;have b0:(binOp BinOp.eql 89 (.map Z)<|.map Z).run zy g=.ok (O' zt) g:=by rfl
   clear I;have⟨N,b5,m2,z⟩:=(l.mp 2<|by omega).put Ha underlying87 (k:=c) (a:=f) hc trivial;unfold Ly at b5;have b1:f≠o.om 2:=λq=>a5<|zn<|zo ⟨2,by omega,q⟩
   have u:Es P d p y B m (o.news c f) (v.give c b) N:=l.news (v':=v.give c b) a5 a2.xJ (a2.j z b1) m2 z (λx=>by
    rw[Jo];simp only[Nat.reduceEqDiff,false_and,false_or,true_and];refine⟨λq=>q.elim (λq=>?_) id,zn⟩;have⟨k,a7⟩:=h.ins 2 c x (by omega) q;rw[C]at a7;cases a7) (λt' i' x q=>by
    rw[Jo,H.o];constructor;rintro(r|r|⟨r1,r2,_⟩);exact zo r;exact zn r;exact Bm ⟨r1,r2⟩ q;rintro(r|r);exact zo r;exact zn<|zo r) (by rw[a3.o];rfl) a6
   have a1:Hl P d p y B m o (o.news c f) (v.give c b) w N:=by
    refine⟨u,λk s=>?_,Q,a0.thn z λj _ q=>by rw[q];exact zn<|zo ⟨2,by omega,Q⟩⟩;rcases s with q|q|⟨t,i,q⟩|q
    exact zo<|zo q;exact zo<|zn<|zo q;unfold So.news at q;dsimp only at q;split at q;split at q;cases q;exact zn hf;exact zo<|zn<|zn<|zo ⟨2,i,q⟩;exact zo<|zn<|zn<|zo ⟨t,i,q⟩;exact zo<|zn<|zn<|zn q
   clear u m2 z;go_wp2_with fail;exact Ak (v:=P' #[]) (by simp[zz,results139,go_sem]) Q ⟨Q,_,a1⟩
  |some F=>
   have l3:=I.2 F C;unfold Ly at l3;clear I;have a8:DV F (v.N c) g:=(l.st 2 c F C).iff λx=>by rw[H.o];simp[ET]
   have b2:F≠f:=λq=>a5<|zn<|zn<|zo ⟨2,c,q▸C⟩
   have a1:=a8;have b0:(binOp BinOp.eql 89 (.map F)<|.map Z).run zy g=.ok (O' zr) g:=by rfl
   clear a8;go_wp2_with fail;apply(LC F f (v.N c) _ g a1 a2 b2).mono;rintro e N ⟨f2,rfl,b6,_,s2,z⟩;have u:Es P d p y B m o (v.give c b) N:=l.put (v':=v.give c b) C s2 z (λx=>by
    rw[Jo];simp[ET]) (λt' i' x q=>by
    rw[Jo,H.o];constructor;rintro(r|r|⟨r1,r2,_⟩);exact zo r;exact zn r;exact Bm ⟨r1,r2⟩ q;rintro(r|r);exact zo r;exact zn<|zo r) (by rw[a3.o];rfl) (λ_=>by
    have⟨x,hx⟩:=a6;exact⟨x,zn hx⟩)
   have a9:Hl P d p y B m o o (v.give c b) w N:=⟨u,λ_ q=>zo q,Q,a0.thn z λj _ q=>by rw[q];exact zn<|zn<|zo ⟨2,c,C⟩⟩;clear u s2 z;go_wp2_with fail;go_end0;exact⟨Q,_,a9⟩
theorem Es.iff{o b}(h:Es U B V C R X o y7 P)(e:∀t i x,ET U b t i x↔ET U y7 t i x)(d:b.W=y7.W):Es U B V C R X o b P:=
 {h with
  st:=λt i k a=>(h.st t i k a).iff λn=>(e t i n).symm
  ins:=λt i x f q=>h.ins t i x f<|(e t i x).1 q
  d2:=λc k a=>by obtain⟨x,g⟩:=h.d2 c k a;exact⟨x,Qy.1<|(e 2 c x).2<|Qy.2 g⟩
  fvr:=λc r=>by rw[d];exact h.fvr c r}
theorem bV(P b g j k d o v w)(c a:M)(h:Es P b g j k d o v w)(l:o.bk 0 c=a)(z:c<20000):
 F' zy 139 #[Z' b,c,.map<|T a] w λe K=>e=P' #[]/\∃F,Hl P b g j k d o F (v.give c<|v.s.I c) w K:=by
 have B:=(h.st 0 c a l).iff (m':=v.s.I c) λn=>by simp[ET]
 have p4:=h.p.j4;have X:=Cz h.p;have E:=((h.mp 0<|by omega).look Ha underlying87 (Ez w) z zr).2 a l;unfold Ly at E;go_in;go_wp2_with fail;refine(UC a (v.s.I c) w B).mono ?_;rintro e N ⟨f,rfl,S,I,H,s⟩;have⟨R,p,u⟩:=I;have⟨n,V,U,m⟩:=p.len underlying89 3;have C:n=0:=m.2<|u.empty.2 λ_ q=>q;subst C;have y:Es P b g j k d o (v.give c<|v.s.I c) N:=(h.t8 s).iff (λt i x=>by rw[Jo];refine⟨?_,zo⟩;rintro(q|⟨rfl,rfl,q⟩|⟨_,_,q,r⟩);exact q;simpa[ET]using q;exact Bm q r) Q
 clear p u m H;go_wp2_with fail;exact Ak (v:=P' #[]) (by simp[zz,results139,go_sem]) Q ⟨Q,o,y,λ_ q=>zo q,Q,s.mono λ_ _ q=>q.elim⟩
theorem Dh.lt(h:Dh U B C)(g:L U<=12)(a:∀f,L (CO U f).y<=12)(m:B<=4001):C<16400:=by
 rcases h with⟨f,i,j,l,rfl⟩|⟨n,k,b,d,e,rfl⟩
 have:=a f;unfold vN;omega;unfold pN;omega
theorem Hl.trans{o b c d}(h:Hl U B V C R X o b y7 P y0)(k:Hl U B V C R X b c d y0 v1):Hl U B V C R X o c d P v1:=
 ⟨k.r,λj a=>(k.ow j a).elim (h.ow j) λq=>zn<|As h.on.size q,k.rl.trans h.rl,h.on.thn k.on λj a q=>(h.ow j q).elim id λr=>Bm r<|by omega⟩
def Nx(P:CQ)(h:M)(d:H')(e g c:M)(o:So)(v:Sv)(w i:I')(b:Sv->Prop):Prop:=
 ∃f a,Hl P h d e g c o f a w i/\v.up a/\(∀X,Eu P X v->Eu P X a)/\b a
theorem Nx.then{o}{c d:Sv->Prop}(h:Nx U B V C R X o y7 P y0 c)(k:∀b a,Hl U B V C R X o b a P y0->y7.up a->c a->Nx U B V C R X b a y0 v1 d):Nx U B V C R X o y7 P v1 d:=by have⟨b,a,f,g,i,m⟩:=h;have⟨l,s,p,r,j,n⟩:=k b a f g m;exact⟨l,s,f.trans p,g.tr r,λe q=>j e<|i e q,n⟩
theorem M8(P v a b t i x):ET P (v.edge a b) t i x↔ET P v t i x\/(t=3/\i=a/\x=b):=by grind[ET,Sv.edge]
theorem Lg(P c l s d g o v w a b)(h:Es P c l s d g o v w)(K:Dh P d a)(hb:Dh P d b)(la:a<16400)(lb:b<16400)(hF:(least P).F a b):
 F' zy 143 #[Z' c,a,b] w λe I=>e=P' #[]/\Nx P c l s d g o v w I (λu=>u.s.F a b):=by
 have⟨F,B⟩:=(h.d0 a 3<|zn Q).2 K;have⟨p,z⟩:=(h.d0 a 0<|zo Q).2 K;have⟨V,R⟩:=(h.d0 b 0<|zo Q).2 hb;have p7:=h.p.j7;have a1:=Cz h.p;have l3:=((h.mp 3<|by omega).look Ha underlying87 (Ez w) (k:=a) (by omega) zr).2 F B;have U:=(h.st 3 a F B).iff (m':=v.s.F a) λn=>by simp[ET]
 unfold Ly at l3;go_in;go_wp2_with fail;refine(Kl F (v.s.F a) b w U<|by omega).mono ?_;rintro e f ⟨r,rfl,S,s1,H⟩;have m:Es P c l s d g o (v.edge a b) f:=h.put (v':=v.edge a b) B s1 H (λx=>by rw[M8];simp[ET]) (λt' i' x q=>by rw[M8];exact⟨λr=>r.elim id λr=>Bm ⟨r.1,r.2.1⟩ q,zo⟩) Q<|by nofun
 have C:O (o.own c) w f:=H.mono λj _ q=>by rw[q];exact zn<|zn<|zo ⟨3,a,B⟩
 have HR:=J S;clear S s1 H U;cases r with
 |false=>
  have N:v.s.F a b:=by apply BC;intro q;have:=HR.o.2 q;cases this
  have E:Nx P c l s d g o v w f λu=>u.s.F a b:=⟨o,v,⟨m.iff (λt i x=>by rw[M8];refine⟨zo,?_⟩;rintro(q|⟨rfl,rfl,rfl⟩);exact q;simpa[ET]using N) Q,λ_ q=>zo q,Q,C⟩,.rf _,λ_ q=>q,N⟩
  go_wp2_with fail;go_end0;exact⟨Q,E⟩
 |true=>
  have p4:=m.p.j4;have a2:=Cz m.p;have l4:=((m.mp 0<|by omega).look Ha underlying87 (Ez f) (k:=a) (by omega) zr).2 p z;unfold Ly at l4;have sa:DV p (v.s.I a) f:=(m.st 0 a p z).iff λx=>by rw[M8];simp[ET]
  have gv:F' zy 139 #[Z' c,b,.map p] f λe I=>e=P' #[]/\∃o',Hl P c l s d g o o' (v.flow a b) f I:=by by_cases e:p=V;have a0:a=b:=(m.dj 0 a 0 b p z<|e▸R).2;subst a0;exact bV P c l s d g o (v.edge a a) f a p m z (by omega);exact Ng P c l s d g o (v.edge a b) f b V p (v.s.I a) m R sa (by omega) e
  go_wp2_with fail;refine gv.mono ?_;rintro e w2 ⟨rfl,o2,y⟩;have E:Nx P c l s d g o v w w2 λu=>u.s.F a b:=⟨o2,v.flow a b,⟨y.r,λk hk=>(y.ow k hk).imp id λq=>As C.size q,y.rl,C.trans y.on⟩,Sv.flow_up v a b,λX q=>q.flow hF,Sv.flow_F v a b⟩;clear y;go_wp2_with fail;go_end0;exact⟨Q,E⟩
structure Ia(P:CQ)(pn cn:M):Prop where
 ok:Jd P
 xE:P.length<=12
 lp:pn<=4001
 lc:cn<=4001
 c:∀i,i<P.length->∀s,s∈(CO P i).f->(s.e=1->1<=s.t/\s.t<=pn)/\(s.e=8->1<=s.t/\s.t<=cn)/\s.wU<=3
structure Hk(P:CQ)(sb:M)(fv:H')(mn pn cn:M)(o:So)(v:Sv)(w:I'):Prop where
 r:Es P sb fv mn pn cn o v w
 pl:Ds 0 w fv P
 tb:Mz w
 tl:0<(w:M)
 tn:¬o.own sb 0
theorem Es.noPlan{o}(h:Es U B V C R X o y7 P):TT (o.own B) P:=λk b t c a q=>by refine⟨?_,?_,?_,?_⟩<;>rintro rfl<;>exact h.noCells a (by decide) (by decide) q
theorem Hk.q{o a b}(h:Hk U B V C R X o y7 P)(k:Hl U B V C R X o a b P y0):Hk U B V C R X a b y0:=
 ⟨k.r,h.pl.j k.on h.r.noPlan,h.tb.j k.on h.tn h.tl,Av h.tl k.on.size,λq=>(k.ow _ q).elim h.tn λq=>by have:=h.tl;omega⟩
theorem Hk.t8{o}(h:Hk U B V C R X o y7 P)(k:O Cb P y0):Hk U B V C R X o y7 y0:=
 ⟨h.r.t8 k,h.pl.t8 k,h.tb.j k id h.tl,Av h.tl k.size,h.tn⟩
theorem Hl.t8{o a w2}(h:Hl U B V C R X o a y7 P y0)(k:O Cb y0 w2):Hl U B V C R X o a y7 P w2:=
 ⟨h.r.t8 k,h.ow,h.rl,h.on.xV k⟩
theorem Es.ints{o}(h:Es U B V C R X o y7 P)(k:CY v0 P z0 q2)(b:O (o.own B) P y0):CY v0 y0 z0 q2:=
 CD k b λj c d a=>h.noCells a (by decide)<|by decide
abbrev ND(r:Rl)(a:H'):Cg:=#[r.f,r.s.e,r.s.w,r.s.n,r.s.wU,r.s.t,a,r.s.q,r.s.xI]
structure nI(P:CQ)(r:Rl):Prop where
 f:r.f<P
 tg:r.s.w<(CO P r.f).y
 ar:∀a,a∈r.s.k->a<(CO P r.f).y.length
 n:r.s.k.length<=4000
theorem D6(a:C<L U)(b:R<L (CO U C).y):Dh U B<|vN C R:=zo ⟨C,R,a,b,Q⟩
theorem KQ(a:Ia U B C)(b:R<L U)(c:X<L (CO U R).y):vN R X<16400:=by have:=a.xE;have:=a.ok.y R;grind[vN]
theorem JB(f i:M)(w:I')(b:f<=4001)(c:i<=4001):
 F' zy 127 #[f,i] w λe a=>e=(vN f i)/\a=w:=by
 have e:((vN f i:M):zw)=(f:zw)*12+(i:zw):=by unfold vN;omega
 go_in;go_wp2;go_ret;exact⟨by rw[e];rfl,Q⟩
theorem GI(r a w)(b:r.f<=4001)(c:r.s.w<=4001):
 F' zy 140 #[N'<|ND r a] w λe d=>e=r.tg/\O Cb w d:=by
 go_in;go_wp2_with(first|(go_at_call 127;apply FC<|JB r.f r.s.w _ b c));go_ret;exact⟨Q,oq⟩
theorem IR(r a w)(b:r.f<=4001)(c:r.s.n<=4001):
 F' zy 141 #[N'<|ND r a] w λe d=>e=r.sr/\O Cb w d:=by
 go_in;go_wp2_with(first|(go_at_call 127;apply FC<|JB r.f r.s.n _ b c));go_ret;exact⟨Q,oq⟩
theorem Vk(P f y B b t o v w)(C:Ia P b t)(h:Hk P f y B b t o v w)(r)(g:M)(av:H')(hi:CY 0 w av r.s.k)(hr:nI P r)(N:g<P)(hn:L r.s.k<=(CO P g).y)(hL:Gn P r g<|least P):
 F' zy 144 #[Z' f,N'<|ND r av,g] w λe w'=>e=P' #[]/\Nx P f y B b t o v w w' (λv'=>Gn P r g v'.s):=by
 obtain⟨aa,ac,rfl⟩:=CB hi;have c:O Cb w<|w.alloc<|R' (ND r<|Y aa r.s.k ac) 209:=(CT _ w).alloc _;have d4:=W.new w (ND r<|Y aa r.s.k ac) 209;have hE:=h.t8 c;have hI:=Cx hi c λ_ _ q=>q;have c2:¬o.own f w:=λq=>by have:=h.r.ownLt q;omega
 have e3:(w.alloc (R' (ND r<|Y aa r.s.k ac) 209):M)=w+1:=by simp
 have e0:=C.xE;have hf:=hr.f;have e6:=hr.n;clear h hi;go_in;go_wp2_with fail;generalize w.alloc (R' (ND r<|Y aa (L r.s.k) ac) 209)=a5 at*;have S0:Hl P f y B b t o o v a5 a5:=⟨hE.r,λ_ q=>zo q,Q,CT _ _⟩;have O1:=c;clear c;generalize (w:M)=rb at*;go_loopw[14] (λi wr=>∃(k:M) (c:So) (m:Sv),k<=r.s.k/\i=G A k/\Hl P f y B b t o c m a5 wr/\D (v.up m/\(∀X,Eu P X v->Eu P X m)/\∀j a,j<k->r.s.k[j]? =T a->m.s.F (vN r.f a) (vN g j))) (λi _=>r.s.k-(zm i).toNat);exact⟨0,o,v,by omega,Q,S0,⟨.rf _,λ_ q=>q,λj a q=>by omega⟩⟩;clear S0;obtain⟨k,c,m,hk,rfl,E,H⟩:=hrel;have z:=hE.q E;have d6:¬c.own f rb:=λq=>(E.ow _ q).elim c2 λq=>by omega
 have a2:=d4.j E.on c2;have b0:=a2.j0;have e7:=Cz a2;by_cases I:k<r.s.k
 .have a0:=hE.r.ints hI E.on;obtain⟨gl,rfl⟩:=CH a0 (by omega);have V:=a0.cellAt k (by omega);rw[AI,Ag I]at V;simp only[BA]at V;have d7:=(a0.lt gl Q).2;have b9:=hr.ar r.s.k[k]<|Am _;have h1:Dh P b<|vN r.f r.s.k[k]:=D6 hf b9;have h2:Dh P b<|vN g k:=D6 N (by omega);have h3:=KQ C hf b9;have h4:vN g k<16400:=KQ C N (by omega);have U:=hL.1 k _<|Ag I;have d2:=C.ok.y r.f;have a7:(k:zw)<(L r.s.k:zw):=by omega
  have HG:=J<|Ag I;have a3:=U;have S:=z;clear a0 U z a2;generalize r.s.k[k]=x at*;go_wp2_with(first|(go_at_call 127;first|(refine FC (JB r.f x _ (by omega)<|by omega) ?_)|(refine FC (JB g k _ (by omega)<|by omega) ?_)));refine(Lg P f y B b t c m wr _ _ S.r h1 h2 h3 h4 a3).mono ?_;rintro e w2 ⟨rfl,d,n,s2,u2,i2,q2⟩;have F:=E.trans s2;have p:v.up n/\(∀X,Eu P X v->Eu P X n)/\∀j a,j<k+1->r.s.k[j]? =T a->n.s.F (vN r.f a) (vN g j):=⟨H.1.tr u2,λX q=>i2 X<|H.2.1 X q,λj a R u=>by by_cases e:j=k;subst e;rw[HG.o]at u;cases u;exact q2;exact u2.le.s.f _ _<|H.2.2 j a (by omega) u⟩
  clear s2 u2 i2 q2 H E;go_wp2_with fail;go_roundw;exact⟨k+1,d,n,by omega,by go_num,F,p⟩;simp[intOf];omega
 .have e:k=r.s.k:=by omega
  subst e;have a7:zu ((L r.s.k:zw)<(L r.s.k:zw))=zr:=by simp
  have p9:=z.r.p.j9;have e9:=Cz z.r.p;have⟨kr,c0⟩:=(z.r.d4 g).2 N;have l9:=((z.r.mp 4<|by omega).look Ha underlying87 (Ez wr) (k:=g) (by omega) zr).2 kr c0;unfold Ly at l9;have c3:DV kr (Sr P g) wr:=(z.r.st 4 g kr c0).iff λx=>by simp[ET]
  have S:=z;clear z;go_wp2_with fail;refine(G6 kr (Sr P g) wr c3 S.tb S.tl).mono ?_;rintro e w2 ⟨nv,l,rfl,a9,c1,a8,d⟩;obtain⟨na,nc,rfl⟩:=CB a9;have a4:=S.t8 d;have c6:=a2.j d id;have c8:=CN a9<|Ar _;have e2:L l<=19200:=GA 19200 l c1 λx K=>by have⟨_,_,d9⟩:=c3;exact d9.lt<|(a8 x).1 K
  have HM:=J a8;have c9:=d;have e5:=E.on;have e4:=d;have SW:Hl P f y B b t c c m w2 w2:=⟨a4.r,λ_ q=>zo q,Q,CT _ _⟩;have c4:=hr.tg;have d2:=C.ok.y r.f;have c7:Dh P b r.tg:=D6 hf c4;have d8:r.tg<16400:=KQ C hf c4;clear a9 c1 a8 d;go_wp2_with fail;go_loopw[37] (λi wr=>∃(k:M) (d:So) (n:Sv),k<=l/\i=G A k/\Hl P f y B b t c d n w2 wr/\D (m.up n/\(∀X,Eu P X m->Eu P X n)/\∀j x,j<k->l[j]? =T x->n.s.F x r.tg)) (λi _=>l-(zm i).toNat);exact⟨0,c,m,by omega,Q,SW,⟨.rf _,λ_ q=>q,λj a q=>by omega⟩⟩;clear SW;obtain⟨k,d,n,hk,rfl,F,p⟩:=hrel;have d3:=a4.q F;have a6:=c6.j F.on d6;by_cases I:k<l
  .have a1:=a4.r.ints c8 F.on;obtain⟨gl,rfl⟩:=CH a1 (by omega);have V:=a1.cellAt k (by omega);rw[AI,Ag I]at V;simp only[BA]at V;have d7:=(a1.lt gl Q).2;have d5:k+1<=L l:=I;have K:=(HM.o l[k]).1<|Am _;have U:=hL.2 _ K;have c5:Dh P b l[k]/\l[k]<16400:=by have⟨s,hs,e1,e⟩:=K;have:=(C.ok.ok g N s hs).sr (by omega);rw[e];exact⟨D6 N this,KQ C N this⟩
   have a7:(k:zw)<(L l:zw):=by omega
   have HG:=J<|Ag I;have a3:=U;have⟨b0,b1,b2,b3,b4,b5,b6,b7,b8⟩:=a6.k9;have e8:=Cz a6;clear a1 U K a6;generalize l[k]=x at*;go_wp2_with fail;refine(GI r _ wr (by omega)<|by omega).mono ?_;rintro e w3 ⟨rfl,o3⟩;go_wp2_with fail;refine(Lg P f y B b t d n w3 x r.tg (d3.t8 o3).r c5.1 c7 c5.2 d8 a3).mono ?_;rintro e w4 ⟨rfl,o4,v4,s4,u4,i4,q4⟩;have d1:=(F.t8 o3).trans s4;have d0:m.up v4/\(∀X,Eu P X m->Eu P X v4)/\∀j x,j<k+1->l[j]? =T x->v4.s.F x r.tg:=⟨p.1.tr u4,λX q=>i4 X<|p.2.1 X q,λj a R u=>by by_cases e:j=k;subst e;rw[HG.o]at u;cases u;exact q4;exact u4.le.s.f _ _<|p.2.2 j a (by omega) u⟩
   clear s4 u4 i4 q4 p F;go_wp2_with fail;go_roundw;exact⟨k+1,o4,v4,d5,by go_num,d1,d0⟩;simp[intOf];omega
  .have e:k=l:=by omega
   subst e;have a7:zu ((L l:zw)<(L l:zw))=zr:=by simp
   have HX:Nx P f y B b t o v w wr λv'=>Gn P r g v'.s:=by have t1:=(E.t8 c9).trans F;refine⟨d,n,⟨t1.r,λj R=>(t1.ow j R).imp id λq=>As O1.size q,t1.rl,(O1.mono λ_ _ q=>q.elim).trans t1.on⟩,H.1.tr p.1,λX q=>p.2.1 X<|H.2.1 X q,λj a u=>p.1.le.s.f _ _<|H.2.2 j a (Bz.1 u).1 u,λx K=>?_⟩;have⟨j,R,e⟩:=AC.1<|(HM.o x).2 K;exact p.2.2 j x R<|by rw[Ag R,e]
   go_wp2_with fail;go_end0;exact⟨Q,HX⟩
theorem Nt(n k:M)(w:I')(c:1<=n)(d:n<=4001)(b:k<=4):
 F' zy 82 #[n,k] w λe a=>e=(pN n k)/\a=w:=by
 have e:((pN n k:M):zw)=156+((n:zw)-1)*4+(k:zw):=by unfold pN;omega
 go_in;go_wp2;go_ret;exact⟨by rw[e];rfl,Q⟩
theorem iK(f:M)(w:I')(b:f<=4001):
 F' zy 142 #[f] w λe a=>e=(fN f)/\a=w:=by
 have e:((fN f:M):zw)=144+(f:zw):=by unfold fN;omega
 go_in;go_wp2;go_ret;exact⟨by rw[e];rfl,Q⟩
def Gr(x:M):M×M×M:=if x<144 then(0,x / 12,x % 12)else if x<156 then(2,x-144,0)else(1,(x-156) / 4+1,(x-156) % 4)
theorem NJ(x:M)(w:I')(i:x<19200):
 F' zy 128 #[x] w λe h=>e=N' #[(Gr x).1,(Gr x).2.1,(Gr x).2.2]/\O Cb w h:=by
 by_cases c:x<144
 .have e:Gr x=(0,x / 12,x % 12):=by unfold Gr;rw[Bb c]
  rw[e];have d:=LH (p:=(x:zw)<144) (by omega);have a:(((x / 12:M):M):zw)=(x:zw) / 12:=by omega
  have b:(((x % 12:M):M):zw)=(x:zw) % 12:=by omega
  go_in;go_wp2;apply Ak (v:=N' #[G A 0,G A<|(x:zw) / 12,G A<|(x:zw) % 12]) (by simp[zz,results128,go_sem]) Q;exact⟨by rw[a,b];rfl,oq⟩
 by_cases f:x<156
 .have e:Gr x=(2,x-144,0):=by unfold Gr;rw[Ba c,Bb f]
  rw[e];have d:=Hz (p:=(x:zw)<144) (by omega);have g:=LH (p:=(x:zw)<156) (by omega);have a:(((x-144:M):M):zw)=(x:zw)-144:=by omega
  go_in;go_wp2;apply Ak (v:=N' #[G A 2,G A<|(x:zw)-144,G A 0]) (by simp[zz,results128,go_sem]) Q;exact⟨by rw[a];rfl,oq⟩
 .have e:Gr x=(1,(x-156) / 4+1,(x-156) % 4):=by unfold Gr;rw[Ba c,Ba f]
  rw[e];have d:=Hz (p:=(x:zw)<144) (by omega);have g:=Hz (p:=(x:zw)<156) (by omega);have a:((((x-156) / 4+1:M):M):zw)=((x:zw)-156) / 4+1:=by omega
  have b:((((x-156) % 4:M):M):zw)=((x:zw)-156) % 4:=by omega
  go_in;go_wp2;apply Ak (v:=N' #[G A 1,G A<|((x:zw)-156) / 4+1,G A<|((x:zw)-156) % 4]) (by simp[zz,results128,go_sem]) Q;exact⟨by rw[a,b];rfl,oq⟩
theorem ZF(P v n g t i x):ET P (v.xG n g) t i x↔ET P v t i x\/(t=1/\i=n/\x=g):=by by_cases a:t=1;subst a;simp[ET,Sv.xG];simp[ET,Sv.xG,a]
theorem YY(P d fv p l b o v w)(u:Ia P l b)(h:Hk P d fv p l b o v w)(r)(g:M)(av:H')(hi:CY 0 w av r.s.k)(hr:nI P r)(hg:g<P)(h1:1<=r.s.t)(h2:r.s.t<=b)
 (hL:(CO P g).m=r.s.k->(least P).E r.s.t g/\Gn P r g (least P)):
 F' zy 169 #[Z' d,N'<|ND r av,g] w λe w'=>e=P' #[]/\Nx P d fv p l b o v w w' (λf=>(CO P g).m=r.s.k->f.s.E r.s.t g/\Gn P r g f.s):=by
 obtain⟨S,U,rfl⟩:=CB hi;have t:O Cb w<|w.alloc<|R' (ND r<|Y S r.s.k U) 209:=(CT _ w).alloc _;have H:=W.new w (ND r<|Y S r.s.k U) 209;have s:=h.t8 t;have hI:=Cx hi t Ed;have b9:¬o.own d w:=λq=>by have:=h.r.ownLt q;omega
 have c5:=u.xE;have hf:=hr.f;have c9:=hr.n;have d1:=u.lc;have c7:=u.ok.yB g;have c8:=u.ok.y g;obtain⟨gf,cf,rfl,c3⟩:=h.pl.form (by omega);have⟨vv,sv,a5,_,_⟩:=(s.pl).get hg;have V:=a5 2 (by omega);have a1:CO P g=P[g]:=by unfold CO;rw[Ag hg];rfl
 simp only[Rk,Aa,Ab]at V;rw[<-a1]at V;obtain⟨p0,-,-,-,-,p5⟩:=s.r.p.k6;have a3:=Cz s.r.p;have HP:=J a1;clear h hi a5 a1;go_in;go_wp2_with fail;generalize w.alloc (R' (ND r<|Y S (L r.s.k) U) 209)=z at*;have b6:=H.j6;have a2:=Cz H;have c6:(g:zw)<(L P:zw):=by omega
 have c1:=Av c3 t.size;by_cases I:(CO P g).m=r.s.k
 .have hz:(((CO P g).m:zw) !=(L r.s.k:zw))=zr:=by simp[I]
  go_region;go_wp2_with fail;have C:O Cb z z.drew:=(CT _ z).drew;have c:=s.t8 C;have F:=H.j C id;have a4:=Cx hI C Ed;have O2:=t.trans C;clear p0 p5 V b6 a3 a2 c1 C s H hI t;generalize z.drew=m at*;have p5:=c.r.p.j5;have a3:=Cz c.r.p;have b5:=F.z;have a2:=Cz F;have⟨i,B⟩:=(c.r.d1 r.s.t).2 ⟨h1,h2⟩;have l5:∀a,O Cb m a->(Instr.lookup 87 (.map<|o.om 1) r.s.t zr).run zy a=.ok (.map i) a:=λa h3=>(((c.r.mp 1<|by omega).j h3 id).look Ha underlying87 (Ez a) (k:=r.s.t) (by omega) zr).2 i B
  have l6:=l5 _<|(CT _ m).drew;have a7:∀a,O Cb m a->DV i (v.s.E r.s.t) a:=λa h3=>((c.r.st 1 r.s.t i B).j h3 id).iff λx=>by simp[ET]
  clear l5;go_cut[] (λwx=>D (DV i (λn=>v.s.E r.s.t n\/n=g) wx)/\D (O (λk=>k=i) m wx))
  .go_region_law(go_simp;go_at_call 100;apply(Kl i _ g _ (a7 _<|(CT _ m).drew)<|by omega).mono;rintro e w5 ⟨rr,rfl,_,s5,o5⟩;dsimp only);all_goals
    go_wp2_with fail;go_meet;exact⟨s5,(O.drew<|CT _ m).trans o5⟩
  have⟨S5,E⟩:=hcut;have a6:Es P d _ p l b o (v.xG r.s.t g) wc:=c.r.put (v':=v.xG r.s.t g) B S5 E (λx=>by rw[ZF];simp[ET]) (λt' i' x q=>by rw[ZF];exact⟨λr=>r.elim id λr=>Bm ⟨r.1,r.2.1⟩ q,zo⟩) Q<|by nofun
  have N:Hl P d _ p l b o o (v.xG r.s.t g) m wc:=⟨a6,λ_ q=>zo q,Q,E.mono λj _ q=>by rw[q];exact zn<|zn<|zo ⟨1,_,B⟩⟩;have a8:=c.q N;have c0:¬(w=i):=λq=>b9<|q▸zn (zn<|zo ⟨1,_,B⟩)
  have a0:=F.j E c0;have a9:=c.r.ints a4 N.on;have⟨b0,b1,b2,b3,b4,c4,b6,b7,b8⟩:=a0.k9;have d0:=Cz a0;clear a6 a0 S5 E c F a4 a7 p5 b5 l6 a3 a2;go_wp2_with fail;apply(Vk P d _ p l b o _ wc u a8 r g _ a9 hr hg (by omega) (hL I).2).mono;rintro e w6 ⟨rfl,o6,v6,s6,u6,i6,q6⟩;have y:Nx P d (Y gf P cf) p l b o v w w6 λf=>(CO P g).m=r.s.k->f.s.E r.s.t g/\Gn P r g f.s:=by have K:=N.trans s6;exact⟨o6,v6,⟨K.r,λj hj=>(K.ow j hj).imp id λq=>As O2.size q,K.rl,(O2.mono λ_ _ q=>q.elim).trans K.on⟩,(Sv.ent_up v _ _).tr u6,λX q=>i6 X<|q.xG (hL I).1,λ_=>⟨u6.le.s.e _ _<|zn ⟨Q,Q⟩,q6⟩⟩
  clear s6 u6 i6 q6;go_wp2_with fail;go_end0;exact⟨Q,y⟩
 .have hz:=qO ((CO P g).m:zw) r.s.k (by omega);have y:∀R,O Cb z R->Nx P d (Y gf P cf) p l b o v w R (λf=>(CO P g).m=r.s.k->f.s.E r.s.t g/\Gn P r g f.s):=λR hW=>⟨o,v,⟨(s.t8 hW).r,λ_ q=>zo q,Q,(t.trans hW).mono λ_ _ q=>q.elim⟩,.rf _,λ_ q=>q,λq=>Bm q I⟩
  have y:=y;go_region;go_wp2_with fail;exact Ak (v:=P' #[]) (by simp[zz,results169,go_sem]) Q ⟨Q,y _ oq⟩
def Ir(P:CQ)(a t:M):Prop:=Dh P a t\/∃g,g<L P/\t=fN g
theorem Ia.rl(b:Ia U B C)(a:QT U z2)(c:z2.s.e≠0)(d:z2.s.e≠10)(e:z2.s.e≠11)(f:z2.s.e≠12):nI U z2:=
 have h:=b.ok.ok z2.f a.1 z2.s a.2
 ⟨a.1,h.tg c d e f,h.k,h.xE⟩
theorem Dh.isC(h:Dh U B C)(g:L U<=12)(a:∀f,L (CO U f).y<=12):VT C:=by
 rcases h with⟨f,i,j,l,rfl⟩|⟨n,k,b,d,e,rfl⟩
 have:=a f;exact zo (by grind[vN]);exact zn<|by grind[pN]
theorem Ir.z(h:Ir U B C)(b:L U<=12)(a:VT C):Dh U B C:=by
 rcases h with h|⟨g,c,rfl⟩
 exact h;unfold VT fN at a;omega
theorem Ir.code(h:Ir U B C)(a:L U<=12)(b:∀f,L (CO U f).y<=12)(d:qV C):C-144<L U:=by
 rcases h with h|⟨g,c,rfl⟩
 have:=h.isC a b;grind[VT,qV];grind[fN]
theorem Ir.wU(h:Ir U B C)(c:L U<=12)(b:∀f,L (CO U f).y<=12)(a:156<=C):∃n k,1<=n/\n<=B/\k<4/\C=pN n k:=by
 rcases h with(⟨f,i,d,j,rfl⟩|h)|⟨g,e,rfl⟩
 have:=b f;unfold vN at a;omega;exact h;unfold fN at a;omega
theorem Ir.lt(a:Ia U B C)(h:Ir U B R):R<16400:=by
 rcases h with h|⟨g,b,rfl⟩
 exact h.lt a.xE a.ok.y a.lp;have:=a.xE;grind[fN]
theorem Uv(e:Ia U B C):rK U ⟨λc t=>Dh U B c/\Ir U B t,λa b=>Dh U B a/\Dh U B b,λn g=>(1<=n/\n<=C)/\g<L U⟩:=by
 have w:∀r g,nI U r->g<L U->(CO U g).m=r.s.k->Gn U r g ⟨λc t=>Dh U B c/\Ir U B t,λa b=>Dh U B a/\Dh U B b,λn g=>(1<=n/\n<=C)/\g<L U⟩:=λr g d j I=>by refine⟨λi a v=>⟨D6 d.f<|d.ar a<|BH v,D6 j ?_⟩,λx z=>?_⟩;have o:=(Bz.1 v).1;have p:=e.ok.yB g;omega;obtain⟨s,y,E,rfl⟩:=z;exact⟨D6 j<|(e.ok.ok g j s y).sr<|by omega,D6 d.f d.tg⟩
 refine⟨λa b t h k=>⟨h.2,k.2⟩,λr d=>?_,λr t d H h=>?_⟩;have f:=e.ok.ok r.f d.1 r.s d.2;have l:=e.c r.f d.1 r.s d.2;refine⟨λq=>?_,λq=>?_,λq=>?_,λq=>?_,λq=>?_⟩;have R:=e.rl d (by omega) (by omega) (by omega) (by omega);exact⟨D6 R.f R.tg,zo<|zn ⟨_,0,(l.1 q).1,(l.1 q).2,by omega,Q⟩⟩;have R:=e.rl d (by omega) (by omega) (by omega) (by omega);exact⟨D6 R.f R.tg,zo<|D6 R.f<|f.sr<|by omega⟩;have R:=e.rl d (by omega) (by omega) (by omega) (by omega);exact⟨D6 R.f R.tg,zn ⟨_,f.func<|by omega,Q⟩⟩;have R:=e.rl d (by omega) (by omega) (by omega) (by omega);exact⟨D6 R.f<|f.sr<|by omega,D6 R.f R.tg⟩;have R:=e.rl d (by omega) (by omega) (by omega) (by omega);exact w r _ R (f.func<|by omega)<|f.many q;have f:=e.ok.ok r.f d.1 r.s d.2;have l:=e.c r.f d.1 r.s d.2;have R:=e.rl d (by grind[DE]) (by grind[DE]) (by grind[DE]) (by grind[DE]);refine⟨λq u m=>?_,λq u=>?_,λq u=>?_,λq u m=>?_⟩;obtain⟨n,k,o,p,F,rfl⟩:=h.2.wU e.xE e.ok.y u;refine⟨D6 R.f R.tg,zo<|zn ⟨n,r.s.wU,o,p,by omega,?_⟩⟩;grind[pN];exact⟨h.2.z e.xE u,D6 R.f R.tg⟩;exact⟨D6 R.f<|f.sr<|by omega,h.2.z e.xE u⟩;have j:=h.2.code e.xE e.ok.y u;grind
theorem Ft(a:Ia U B C)(h:(least U).I R X):Dh U B R/\Ir U B X:=h _<|Uv a
theorem oT(c:Ia U B C)(h:(least U).F R X):Dh U B R/\Dh U B X:=h _<|Uv c
theorem LR(a:Ia U B C)(h:(least U).E R X):(1<=R/\R<=C)/\X<U:=h _<|Uv a
theorem Yc(P m E H l C o v w)(p:Ia P l C)(h:Hk P m E H l C o v w)(r x av)(hi:CY 0 w av r.s.k)(hr:QT P r)(hf:DE r)(hx:(least P).I r.at x):
 F' zy 145 #[Z' m,N'<|ND r av,x] w λe i=>e=P' #[]/\Nx P m E H l C o v w i (λy=>Gi P r x y.s):=by
 obtain⟨R,S,rfl⟩:=CB hi;have o1:O Cb w<|w.alloc<|R' (ND r<|Y R r.s.k S) 209:=(CT _ w).alloc _;have c1:=W.new w (ND r<|Y R r.s.k S) 209;have hE:=h.t8 o1;have hI:=Cx hi o1 Ed;have hR:=p.rl hr (by unfold DE at hf;omega) (by unfold DE at hf;omega) (by unfold DE at hf;omega) (by unfold DE at hf;omega);have hT:=(Ft p hx).2;have lx:=hT.lt p;have c3:∀k,o.own m k->k<(w:M):=λk q=>h.r.ownLt q
 have d4:¬o.own m w:=λq=>by have:=c3 _ q;omega
 have HF:=(Im P).fol r x hr hf hx;clear h hi;go_in;go_upto_block 0 with(first|(go_at_call 128;apply(NJ x _<|by omega).mono;rintro e w2 ⟨rfl,o2⟩;dsimp only;have a4:=(c1.j o2 id).alloc<|R' #[(Gr x).1,(Gr x).2.1,(Gr x).2.2] 228;have b1:=a4.j1;have c7:=Cz a4));have u:O Cb w2<|w2.alloc<|R' #[(Gr x).1,(Gr x).2.1,(Gr x).2.2] 228:=(CT _ w2).alloc _;have a9:=W.new w2 #[(Gr x).1,(Gr x).2.1,(Gr x).2.2] 228;have a0:=hE.t8<|o2.trans u;have d0:=Cx hI (o2.trans u) Ed;have O3:=o1.trans<|o2.trans u;have d5:¬o.own m w2:=λq=>by have:=c3 _ q;have q1:=o1.size;have q2:=o2.size;omega
 clear o1 o2 u hE hI c1 b1 c7;generalize w2.alloc (R' #[(Gr x).1,(Gr x).2.1,(Gr x).2.2] 228)=z at*;generalize (w2:M)=tb at*;have⟨b0,b1,b2,b3,b4,b5,b6,b7,b8⟩:=a4.k9;have c7:=Cz a4;have⟨t0,t1,t2⟩:=a9.k3;have e3:=Cz a9;have a5:=p.xE;have a1:=hR.f;have c6:=hR.tg;have e2:=p.ok.y r.f;clear hx;have b9:Dh P l r.tg:=D6 a1 c6;have d9:r.tg<16400:=KQ p a1 c6;have a3:∀(a8:Sv->Prop) (W2 i:I'),O Cb z W2->Nx P m E H l C o v W2 i a8->Nx P m E H l C o v w i a8:=λa8 W2 i hW hN=>by have⟨N,v6,g,K,F,I⟩:=hN;have ow:=O3.trans hW;exact⟨N,v6,⟨g.r,λj hj=>(g.ow j hj).imp id λq=>As ow.size q,g.rl,(ow.mono λ_ _ q=>q.elim).trans g.on⟩,K,F,I⟩
 have a6:∀W2,O Cb z W2->Gi P r x v.s->Nx P m E H l C o v w W2 (λy=>Gi P r x y.s):=λW2 hW hq=> a3 _ _ _ hW ⟨o,v,⟨(a0.t8 hW).r,λ_ q=>zo q,Q,oq⟩,.rf _,λ_ q=>q,hq⟩
 have k0:r.s.e=3\/r.s.e=5\/r.s.e=8\/r.s.e=9:=hf;clear hf;rcases k0 with d|d|d|d
 .have k3:(((r.s.e:M):zw)==3)=zt:=by rw[d];rfl
  have b:=J d;clear d;by_cases c:156<=x/\(x-156) % 4=0
  .have s:Gr x=(1,(x-156) / 4+1,(x-156) % 4):=by unfold Gr;rw[Ba<|by omega,Ba<|by omega]
   have U:((((Gr x).1:M):zw)==1)=zt:=by rw[s];rfl
   have d6:((((Gr x).2.2:M):zw)==0)=zt:=by rw[s];simp;omega
   have e1:=(p.c r.f a1 r.s hr.2).2.2;have c4:pN (Gr x).2.1 r.s.wU=x+r.s.wU:=by rw[s];unfold pN;dsimp only;omega
   have d2:1<=(Gr x).2.1:=by rw[s];dsimp only;omega
   have d3:(Gr x).2.1<=4001:=by have⟨n,k,h1,h2,h3,e⟩:=hT.wU a5 p.ok.y c.1;have:=p.lp;rw[s];dsimp only;unfold pN at e;omega
   have c9:(least P).I r.tg<|x+r.s.wU:=HF.1 b.o c.1 c.2;have V:D (∀B,O (o.own m) z B->B (tb,1)=(Gr x).2.1/\B w=r.f/\B (w,1)=r.s.e/\B (w,2)=r.s.w/\B (w,3)=r.s.n/\B (w,4)=r.s.wU/\B (w,5)=r.s.t/\B (w,6)=Y R r.s.k S/\B (w,7)=r.s.q/\B (w,8)=r.s.xI):=λB h3=>by have q1:=(a9.j h3 d5).j1;have d1:=a4.j h3 d4;have⟨r0,r1,r2,r3,r4,r5,r6,r7,r8⟩:=d1.k9;exact⟨q1,r0,r1,r2,r3,r4,r5,r6,r7,r8⟩
   have d7:pN (Gr x).2.1 r.s.wU<19200:=by omega
   have c0:=J c4;clear c s c4;have⟨ka,c2⟩:=(a0.r.d0 r.tg 0<|zo Q).2 b9;go_wp2_with fail;go_region_held3(λi=>i (tb,1)=(Gr x).2.1/\i w=r.f/\i (w,1)=r.s.e/\i (w,2)=r.s.w/\i (w,3)=r.s.n/\i (w,4)=r.s.wU/\i (w,5)=r.s.t/\i (w,6)=Y R r.s.k S/\i (w,7)=r.s.q/\i (w,8)=r.s.xI) (go_keep)
    (first
      |(go_at_call 140;apply(GI r (Y R r.s.k S) _ (by omega)<|by omega).mono;rintro e w3 ⟨rfl,u⟩;have O4:=O.trans (X:=Cb) (a:=z) oq u;clear u;have⟨q1,r0,r1,r2,r3,r4,r5,r6,r7,r8⟩:=V.o w3<|O4.mono λ_ _ q=>q.elim)
      |(go_at_call 82;apply FC<|Nt (Gr x).2.1 r.s.wU _ d2 d3<|by omega)
      |(go_at_call 139;refine(Ng P m E H l C o v w5 r.tg ka fb _ (a0.t8 O5).r c2 sf (by omega) λq=>by have:=(a0.t8 O4).r.ownLt (k:=ka)<|zn<|zn<|zo ⟨0,_,c2⟩;omega).mono ?_;rintro e w6 ⟨rfl,N,g⟩;have SS:=g;clear g;have⟨q1,r0,r1,r2,r3,r4,r5,r6,r7,r8⟩:=V.o w6<|(O5.mono λ_ _ q=>q.elim).trans SS.on)
      |(go_at_call 97;apply(OH (pN (Gr x).2.1 r.s.wU) _ d7).mono;rintro e w5 ⟨fb,rfl,e0,sf,o5⟩;have O5:=O4.trans o5;clear o5;have⟨q1,r0,r1,r2,r3,r4,r5,r6,r7,r8⟩:=V.o w5<|O5.mono λ_ _ q=>q.elim))
   all_goals
    have f:Nx P m E H l C o v w w6 λy=>Gi P r x y.s:=by refine a3 (λy=>Gi P r x y.s) _ _ O5 ⟨N,_,SS,Sv.give_up v _ _,λX q=>q.give λt ht=>by rw[ht,c0.o];exact c9,?_⟩;refine⟨λ_ _ _=>?_,λq=>Bm (b.o.symm.trans q)<|by decide,λq=>Bm (b.o.symm.trans q)<|by decide,λq=>Bm (b.o.symm.trans q)<|by decide⟩;rw[<-c0.o];exact zn ⟨Q,Q⟩
    go_wp2_with fail;go_end0;exact⟨Q,f⟩
  .have f:=a6 _ (CT _ z) ⟨λ_ h1 h2=>Bm ⟨h1,h2⟩ c,λq=>Bm (b.o.symm.trans q)<|by decide,λq=>Bm (b.o.symm.trans q)<|by decide,λq=>Bm (b.o.symm.trans q)<|by decide⟩;by_cases h1:156<=x
   .have s:Gr x=(1,(x-156) / 4+1,(x-156) % 4):=by unfold Gr;rw[Ba<|by omega,Ba<|by omega]
    have U:((((Gr x).1:M):zw)==1)=zt:=by rw[s];rfl
    have d6:((((Gr x).2.2:M):zw)==0)=zr:=by rw[s];simp;omega
    clear c s h1;go_wp2_with fail;go_end0;exact⟨Q,f⟩
   .have U:((((Gr x).1:M):zw)==1)=zr:=by unfold Gr;split;rfl;rw[Bb<|by omega];rfl
    clear c h1
    go_wp2_with fail
    go_end0
    exact⟨Q,f⟩
 .have k3:(((r.s.e:M):zw)==3)=zr:=by rw[d];rfl
  have k5:(((r.s.e:M):zw)==5)=zt:=by rw[d];rfl
  have b:=J d;clear d;by_cases c:VT x
  .have U:((((Gr x).1:M):zw) !=2)=zt:=by unfold Gr;unfold VT at c;split;rfl;rw[Ba<|by omega];rfl
   have V:D<|Dh P l x:=hT.z a5 c
   have a7:(least P).F x r.tg:=HF.2.1 b.o c
   clear c
   go_wp2_with fail
   apply(GI r (Y R r.s.k S) z (by omega)<|by omega).mono
   rintro e w3 ⟨rfl,u⟩
   have a2:=u
   clear u
   go_wp2_with fail
   apply(Lg P m E H l C o v w3 x r.tg (a0.t8 a2).r V.o b9 lx d9 a7).mono
   rintro e w4 ⟨rfl,nx⟩
   have⟨N,v6,g,K,F,I⟩:=nx
   have f:=a3 (λy=>Gi P r x y.s) _ _ a2 ⟨N,v6,g,K,F,λq=>Bm (b.o.symm.trans q)<|by decide,λ_ _=>I,λq=>Bm (b.o.symm.trans q)<|by decide,λq=>Bm (b.o.symm.trans q)<|by decide⟩
   clear g K F I
   go_wp2_with fail
   go_end0
   exact⟨Q,f⟩
  .have U:((((Gr x).1:M):zw) !=2)=zr:=by unfold Gr;unfold VT at c;rw[Ba<|by omega,Bb<|by omega];rfl
   have f:=a6 _ (CT _ z) ⟨λq=>Bm (b.o.symm.trans q)<|by decide,λ_ q=>Bm q c,λq=>Bm (b.o.symm.trans q)<|by decide,λq=>Bm (b.o.symm.trans q)<|by decide⟩
   clear c
   go_wp2_with fail
   go_end0
   exact⟨Q,f⟩
 .have k3:(((r.s.e:M):zw)==3)=zr:=by rw[d];rfl
  have k5:(((r.s.e:M):zw)==5)=zr:=by rw[d];rfl
  have k9:(((r.s.e:M):zw)==9)=zr:=by rw[d];rfl
  have k8:(((r.s.e:M):zw)==8)=zt:=by rw[d];rfl
  have b:=J d;clear d;by_cases c:qV x
  .have s:Gr x=(2,x-144,0):=by unfold Gr;unfold qV at c;rw[Ba<|by omega,Bb<|by omega]
   have U:((((Gr x).1:M):zw) !=2)=zr:=by rw[s];rfl
   have hg:=hT.code a5 p.ok.y c;have hn:=(p.c r.f a1 r.s hr.2).2.1 b.o;have HL:=HF.2.2.2 b.o c;have ho:(Gr x).2.1=x-144:=by rw[s]
   rw[ho]at t1;clear c s ho;go_wp2_with fail;apply(YY P m E H l C o v z p a0 r (x-144) (Y R r.s.k S) d0 hR hg hn.1 hn.2 HL).mono;rintro e w4 ⟨rfl,nx⟩;have⟨N,v6,g,K,F,I⟩:=nx;have f:=a3 (λy=>Gi P r x y.s) _ _ (CT _ z) ⟨N,v6,g,K,F,λq=>Bm (b.o.symm.trans q)<|by decide,λq=>Bm (b.o.symm.trans q)<|by decide,λq=>Bm (b.o.symm.trans q)<|by decide,λ_ _=>I⟩;clear g K F I;go_wp2_with fail;go_end0;exact⟨Q,f⟩
  .have U:((((Gr x).1:M):zw) !=2)=zt:=by unfold Gr;unfold qV at c;split;rfl;rw[Ba<|by omega];rfl
   have f:=a6 _ (CT _ z) ⟨λq=>Bm (b.o.symm.trans q)<|by decide,λq=>Bm (b.o.symm.trans q)<|by decide,λq=>Bm (b.o.symm.trans q)<|by decide,λ_ q=>Bm q c⟩
   clear c
   go_wp2_with fail
   go_end0
   exact⟨Q,f⟩
 .have k3:(((r.s.e:M):zw)==3)=zr:=by rw[d];rfl
  have k5:(((r.s.e:M):zw)==5)=zr:=by rw[d];rfl
  have k9:(((r.s.e:M):zw)==9)=zt:=by rw[d];rfl
  have b:=J d;clear d;by_cases c:VT x
  .have U:((((Gr x).1:M):zw) !=2)=zt:=by unfold Gr;unfold VT at c;split;rfl;rw[Ba<|by omega];rfl
   have V:D<|Dh P l x:=hT.z a5 c
   have a7:(least P).F r.sr x:=HF.2.2.1 b.o c
   have c5:=(p.ok.ok r.f a1 r.s hr.2).sr (by have:=b.o;omega)
   have c8:Dh P l r.sr:=D6 a1 c5
   have d8:r.sr<16400:=KQ p a1 c5
   clear c
   go_wp2_with fail
   apply(IR r (Y R r.s.k S) z (by omega)<|by omega).mono
   rintro e w3 ⟨rfl,u⟩
   have a2:=u
   clear u
   go_wp2_with fail
   apply(Lg P m E H l C o v w3 r.sr x (a0.t8 a2).r c8 V.o d8 lx a7).mono
   rintro e w4 ⟨rfl,nx⟩
   have⟨N,v6,g,K,F,I⟩:=nx
   have f:=a3 (λy=>Gi P r x y.s) _ _ a2 ⟨N,v6,g,K,F,λq=>Bm (b.o.symm.trans q)<|by decide,λq=>Bm (b.o.symm.trans q)<|by decide,λ_ _=>I,λq=>Bm (b.o.symm.trans q)<|by decide⟩
   clear g K F I
   go_wp2_with fail
   go_end0
   exact⟨Q,f⟩
  .have U:((((Gr x).1:M):zw) !=2)=zr:=by unfold Gr;unfold VT at c;rw[Ba<|by omega,Bb<|by omega];rfl
   have f:=a6 _ (CT _ z) ⟨λq=>Bm (b.o.symm.trans q)<|by decide,λq=>Bm (b.o.symm.trans q)<|by decide,λ_ q=>Bm q c,λq=>Bm (b.o.symm.trans q)<|by decide⟩
   clear c
   go_wp2_with fail
   go_end0
   exact⟨Q,f⟩
section
variable{P:CQ}{a:M}{f:H'}{g l b:M}{o:So}{v:Sv}{w m:I'}
def So.tk(o:So)(c:M):So:={o with om:=λt=>if t=2 then c else o.om t,bk:=λt i=>if t=2 then Z else o.bk t i}
theorem So.tk_bk{o:So}{c t i k:M}(h:(o.tk c).bk t i=k):t≠2/\o.bk t i=k:=by grind[So.tk]
theorem So.tk_old{o:So}{c t i:M}(h:t≠2):(o.tk c).bk t i=o.bk t i:=by grind[So.tk]
theorem So.tk_om{o:So}{c t:M}(h:t≠2):(o.tk c).om t=o.om t:=by grind[So.tk]
theorem So.tk_2{o:So}{c:M}:(o.tk c).om 2=c:=Q
theorem Xj(v t i x)(h:t≠2):ET P v.took t i x↔ET P v t i x:=by grind[ET,Sv.took]
theorem Es.took(h:Es P a f g l b o v w){u}(a1:(w:M)<=u)(U:En Mj Mi u (λ_=>Z) m)(N:W a (qA (o.tk u) f g l b) 139 m)(z:O (λk=>k=a) w m):Es P a f g l b (o.tk u) v.took m:=by
 have lo:∀t,t<=5->o.om t<(w:M):=λt p=>h.ownLt<|zn<|zo ⟨t,p,Q⟩
 have E:∀t,t<=5->o.om t≠a:=λt p=>by by_cases K:t=5;subst K;have⟨_,_,e⟩:=h.fm.xJ;exact(h.yC e).1;have⟨_,_,e⟩:=(h.mp t<|by omega).xJ;exact(h.yC e).1
 have X:∀t i k,o.bk t i=T k->k≠a:=λt i k d=>by have⟨_,_,e⟩:=(h.st t i k d).xJ;exact(h.yC e).1
 refine{h with p:=N,mp:=λt p=>?_,st:=λt i k d=>?_,dj:=λt i s V k d S=>h.dj t i s V k (So.tk_bk d).2 (So.tk_bk S).2,oj:=λt s p B e=>?_,ne:=λt i k s d B=>?_,t4:=λt i k d=>h.t4 t i k (So.tk_bk d).2,d0:=λc t p=>?_,d1:=λn=>?_,d4:=λn=>?_,d2:=λc k d=>Bm Q (So.tk_bk d).1,ins:=λt i x p q=>?_,fm:=?_,S:=λc t C=>(h.S c t C).j z (λj R q=>?_) λj F fz q r=>?_,fvr:=h.fvr};by_cases e:t=2;subst e;exact U;rw[So.tk_om e,show(o.tk u).bk t=o.bk t from funext λi=>So.tk_old e];exact(h.mp t p).j z (E t<|by omega);have⟨e,d⟩:=So.tk_bk d;exact((h.st t i k d).j z<|X t i k d).iff λx=>(Xj v t i x e).symm
 by_cases H:t=2;grind[So.tk_2,So.tk_om];by_cases y:s=2;grind[So.tk_2,So.tk_om];rw[So.tk_om H,So.tk_om y]at e;exact h.oj t s p B e;have⟨e,d⟩:=So.tk_bk d;by_cases y:s=2;rw[y,So.tk_2];have:=h.ownLt<|zn<|zn<|zo ⟨t,i,d⟩;omega;rw[So.tk_om y];exact h.ne t i k s d B;rw[<-h.d0 c t p,So.tk_old<|by omega];rw[<-h.d1 n,So.tk_old<|by omega];rw[<-h.d4 n,So.tk_old<|by omega];by_cases e:t=2;grind[ET,Sv.took];rw[So.tk_old e];exact h.ins t i x p<|(Xj v t i x e).1 q;rw[So.tk_om<|by omega];exact h.fm.j z (E 5<|by omega);have⟨F,I,_⟩:=h.S c t C;exact CL I h.p nofun j R q;rw[q]at r;have a0:=h.p;grind[W]
theorem Es.outk(h:Es P a f g l b o v w){x}(E:(w:M)<=x):(∀c k,o.bk 2 c=T k->¬(o.tk x).own a k)/\¬(o.tk x).own a (o.om 2):=by
 have C:=(h.mp 2<|by omega).xJ;refine⟨λc k j q=>?_,λq=>?_⟩;have⟨z,y,e⟩:=(h.st 2 c k j).xJ;have⟨s,u⟩:=h.yC e;have B:=h.ownLt<|zn<|zn<|zo ⟨2,c,j⟩;rcases q with q|⟨t,p,q⟩|⟨t,i,q⟩|⟨n,t,q,r⟩
 exact s q;by_cases d:t=2;grind[So.tk_2];rw[So.tk_om d]at q;exact h.ne 2 c k t j p q;have⟨d,q⟩:=So.tk_bk q;exact d (h.dj t i 2 c k q j).1;exact u n t q r;have⟨z,y,e⟩:=C;have⟨s,u⟩:=h.yC e;have B:=h.ownLt (k:=o.om 2)<|zn<|zo ⟨2,by omega,Q⟩;rcases q with q|⟨t,p,q⟩|⟨t,i,q⟩|⟨n,t,q,r⟩
 exact s q;by_cases d:t=2;grind[So.tk_2];rw[So.tk_om d]at q;exact d (h.oj 2 t (by omega) p q).symm;have⟨d,q⟩:=So.tk_bk q;exact h.ne t i _ 2 q (by omega) Q;exact u n t q r
def So.wt(o:So)(c:M)(t:M×M×M)(r:Rl):So:={o with fw:=λx=>if x=c then T t else o.fw x,rl:=λx=>if x=c then o.rl c++[r]else o.rl x}
def NR(o:So)(c:M):Value:=match o.fw c with|none=>Y Z 0 0|some t=>Mk t
theorem Es.fwAt(h:Es P a f g l b o v w)(c):MX 0 w (NR o c)<|o.rl c:=by
 unfold NR;cases d:o.fw c with
 |none=> rw[h.f0 c d];exact⟨[],⟨Q,zo ⟨Q,Q⟩⟩,Q,λi q=>by simp at q⟩
 |some t=>exact h.S c t d
theorem Es.wait(h:Es P a f g l b o v w){c:M}{t:M×M×M}{r:Rl}{y:I'}(B:O (λk=>L' (NR o c)=T k) w y)(I:L' (NR o c)=t.1\/w<=t.1)(hr:MX 0 y (Mk t)<|o.rl c++[r])
 (hm:En eF eE (o.om 5) (λx=>if x=c then T t else o.fw x) m)(C:O (λk=>k=o.om 5) y m):Es P a f g l b (o.wt c t r) (v.wait c r) m:=by
 have V:∀k,L' (NR o c)=T k->∃p,o.fw c=T p/\k=p.1:=λk n=>by
  unfold NR at n;cases hc:o.fw c with
  |none=>rw[hc]at n;cases n
  |some p=>rw[hc]at n;unfold Mk at n;cases n;exact⟨p,Q,Q⟩
 have a1:∀k,L' (NR o c)=T k->∃s,w.heap[k]? =T (R' s 209 (0,0)):=λk n=>by obtain⟨p,e,rfl⟩:=V k n;obtain⟨s,h1,_⟩:=h.S c p e;exact GB h1 _ Q
 obtain⟨a5,c5,K⟩:=h.fm.xJ;have l5:=lt_of_block K;have b1:y.heap[o.om 5]? =T (.map a5 c5):=(B.block _ l5 λq=>by obtain⟨s,e⟩:=a1 _ q;rw[K]at e;cases e).trans K;obtain⟨n1,n2⟩:=h.yC K;have a4:∀k H E,w.heap[k]? =T (.map H E)->¬(L' (NR o c)=T k):=λk H E n q=>by grind
 have a6:W a (qA o f g l b) 139 y:=h.p.j B λq=>by obtain⟨s,e⟩:=a1 _ q;have:=h.p;grind[W]
 have a0:∀d i,(o.wt c t r).fw d=T i->(d=c/\i=t)\/(d≠c/\o.fw d=T i):=λd i u=>by grind[So.wt]
 refine{h with p:=a6.j C λq=>n1 q.symm,mp:=λi a2=>?_,st:=λi X k' U=>?_,ins:=h.ins,fm:=hm,S:=λd i u=>?_,fj:=λc1 c2 t1 t2 a7 a8 e=>?_,f0:=λd u=>?_,fvr:=λd N=>?_}
 .obtain⟨H,E,e⟩:=(h.mp i a2).xJ;exact((h.mp i a2).j B<|a4 _ _ _ e).j C (λq=>Bm (h.oj i 5 (by omega) (by omega) q)<|by omega)
 .obtain⟨H,E,e⟩:=(h.st i X k' U).xJ;exact((h.st i X k' U).j B<|a4 _ _ _ e).j C (h.ne i X k' 5 U<|by omega)
 .have a3:∀k s S,k=o.om 5->y.heap[k]? ≠T (R' s 3 S):=λk s S q r=>by grind
  rcases a0 d i u with⟨rfl,rfl⟩|⟨e,n⟩
  .have e:(o.wt d i r).rl d=o.rl d++[r]:=by grind[So.wt]
   rw[e];refine hr.j C (λj z q=>?_) a3;obtain⟨s,h1,_⟩:=hr;grind[GB]
  .have er:(o.wt c t r).rl d=o.rl d:=by grind[So.wt]
   rw[er];refine((h.S d i n).j B (λj z q=>?_) λj s S q r=>?_).j C (λj z q=>n2 d i n<|by unfold Mk at z;cases z;exact q.symm) a3
   .obtain⟨p,R,F⟩:=V j q;unfold Mk at z;cases z;exact e<|h.fj d c i p n R F
   grind
 .have b0:∀d i,d≠c->o.fw d=T i->i.1≠t.1:=λd i a9 n q=>by
   rcases I with I|I
   .obtain⟨p,R,F⟩:=V _ I;exact a9<|h.fj d c i p n R<|q.trans F
   .have:=h.ownLt (k:=i.1)<|zn<|zn<|zn ⟨d,i,n,Q⟩;omega
  rcases a0 c1 t1 a7 with⟨rfl,rfl⟩|⟨F,q1⟩
  .grind
  .rcases a0 c2 t2 a8 with⟨rfl,rfl⟩|⟨e2,q2⟩
   .grind
   .exact h.fj c1 c2 t1 t2 q1 q2 e
 .unfold So.wt at u|-;dsimp only at u|-;split at u
  .cases u
  .next e=>rw[Ba e];exact h.f0 d u
 .show(v.W d N\/(d=c/\N=r))↔_;unfold So.wt;dsimp only;by_cases e:d=c
  .subst e;rw[Bb Q,h.fvr d N];simp
  .rw[Ba e,h.fvr d N];simp[e]
end
structure wB(P:CQ)(sb:M)(fv:H')(mn pn cn:M)(o o':So)(v v':Sv)(w w':I')(r:Rl):Prop where
 so:Es P sb fv mn pn cn o' v' w'
 ow:∀k,o'.own sb k->o.own sb k\/(w:M)<=k
 on:O (o.own sb) w w'
 le:v.s.le v'.s
 w1:∀a q,v.W a q->v'.W a q
 w2:∀a q,v'.W a q->v.W a q\/(DE r/\a=r.at/\q=r)
 raw:v.raw->v'.raw
 ok:∀X,v.raw->Eu P X v->Eu P X v'
 beg:PE P r v'.s
 fol:DE r->v'.W r.at r
 len:∀c,(o'.rl c).length<=(o.rl c)+1
def Bg(P:CQ)(f:M)(b:H')(c e a:M)(o:So)(v:Sv)(w h:I')(r:Rl):Prop:=∃d g,wB P f b c e a o d v g w h r
theorem Nx.bg{o}(d:O Cb P y0)(h:Nx U B V C R X o y7 y0 v1 λb=>PE U z2 b.s)(j:¬DE z2):Bg U B V C R X o y7 P v1 z2:=by have⟨f,b,s,u,i,q⟩:=h;refine⟨f,b,s.r,λk l=>(s.ow k l).imp id λq=>As d.size q,(d.mono λ_ _ q=>q.elim).trans s.on,u.le.s,λa q h=>by rw[u.le.w];exact h,λa q h=>zo<|by rw[<-u.le.w];exact h,λh=>h.up u,λg _ h=>i g h,q,λh=>Bm h j,λc=>?_⟩;have e:f.rl=o.rl:=BG Prod.fst s.rl;rw[e];omega
theorem Hk.nxt{o a c}(h:Hk U B V C R X o y7 P)(r:Es U B V C R X a c y0)(d:∀k,a.own B k->o.own B k\/P.heap.size<=k)(b:O (o.own B) P y0):Hk U B V C R X a c y0:=
 ⟨r,h.pl.j b h.r.noPlan,h.tb.j b h.tn h.tl,Av h.tl b.size,λq=>(d _ q).elim h.tn λq=>by have:=h.tl;omega⟩
theorem Es.waitB{o m t r}(h:Es U B V C R X o y7 P)(S:O Cb P y0)(d:r.at=v0)(y:DE r)(a3:J' y0 0 209 9 (NR o v0) (L<|o.rl v0) v9.flatten)(s:L v9=L (o.rl v0))
 (a2:∀i (h:i<L v9) (h':i<L (o.rl v0)),∃z0,v9[i]=pQ (o.rl v0)[i] z0/\CY 0 y0 z0 (o.rl v0)[i].s.k)(hi:CY 0 y0 z0 r.s.k)(hg:y0.grownBy v1<|L'<|NR o v0)(z:L' (NR o v0)=T t.1\/P.heap.size<=t.1)(ho:J' v1 0 209 9 (Mk t) (L (o.rl v0)+1)<|v9.flatten++pQ r z0)
 (hm:En eF eE (o.om 5) (λx=>if x=v0 then T t else o.fw x) m)(H:O (λk=>k=o.om 5) v1 m):Bg U B V C R X o y7 P m r:=by
 have n:O (λk=>L' (NR o v0)=T k) y0 v1:=O.xA oq hg λj hj=>zo hj;have p:O (λk=>L' (NR o v0)=T k) P v1:=(S.mono λ_ _ q=>q.elim).trans n;have I:∀{u:H'} {l:Cf},CY 0 y0 u l->CY 0 v1 u l:=λf=>CD f n<|Ht a3<|by decide
 have N:MX 0 v1 (Mk t)<|o.rl v0++[r]:=by
  refine⟨v9++[pQ r z0],?_,by simp[s],λi a0 a1=>?_⟩;rw[List.flatten_append,Ah];simp only[List.flatten_cons,List.flatten_nil,AN,Az];exact ho;simp only[Ah,Az]at a0 a1;by_cases E:i<(o.rl v0);have⟨u,e,f⟩:=a2 i (by omega) E;rw[AD<|by omega,AD E];exact⟨u,e,I f⟩;have e:i=(o.rl v0):=by omega
  subst e;rw[AB<|by omega,AB<|by omega];simp only[s,Nat.sub_self,AA];exact⟨z0,Q,I hi⟩
 have hw:=h.wait (r:=r) p z N hm H;have F:∀k,L' (NR o v0)=T k->o.own B k:=λk b=>by
  unfold NR at b;cases d:o.fw v0 with
  |none=>rw[d]at b;cases b
  |some t0=>rw[d]at b;unfold Mk at b;cases b;exact zn<|zn<|zn ⟨v0,t0,d,Q⟩
 have g:r.s.e≠1/\r.s.e≠2/\r.s.e≠4/\r.s.e≠6/\r.s.e≠7:=by unfold DE at y;omega
 refine⟨_,_,hw,λk b=>?_,(p.mono λk _ q=>F k q).thn H λk _ q=>by rw[q];exact zn<|zo ⟨5,by omega,Q⟩,.rf _,λa q h=>zo h,λa q h=>h.imp id λh=>⟨y,d▸h.1,h.2⟩,λh=>h,λa4 f h=>h.wait λx hx=>f _ x hx,⟨λq=>Bm q g.1,λq=>Bm q g.2.1,λq=>Bm q g.2.2.1,λq=>Bm q g.2.2.2.1,λq=>Bm q g.2.2.2.2⟩,λ_=>zn ⟨d,Q⟩,λx=>?_⟩;rcases b with q|q|q|⟨K,t',q,rfl⟩
 exact zo<|zo q;exact zo<|zn<|zo q;exact zo<|zn<|zn<|zo q;unfold So.wt at q;dsimp only at q;split at q;cases q;exact z.imp (F _) id;exact zo<|zn<|zn<|zn ⟨K,t',q,Q⟩;unfold So.wt;dsimp only;split
 next e=>rw[e];simp
 omega
abbrev wM:Cg:=#[G A 0,G A 0,G A 0,G A 0,G A 0,G A 0,Y Z 0 0,G A 0,G A 0]
theorem Tryz.infoRule:(Tryz.prog.info? 209).map (λi=>(i.zero,i.size,i.bytes))=T (T<|N' wM,9,88):=by kernel_rfl
theorem Vj(h:W B y1.toArray q0 P):∀j u,y1[j]? =T u->P ((B:A').add j)=T u:=λj u c=>by
 have:=h.z j;rw[Ac,c]at this;by_cases a:j=0
 .subst a;simpa[Addr.add]using this
 .simpa[Addr.add,a]using this
theorem Bg.from{o}(a:O Cb P y0)(h:Bg U B V C R X o y7 y0 v1 z2):Bg U B V C R X o y7 P v1 z2:=by have⟨c,d,h⟩:=h;exact⟨c,d,h.so,λk b=>(h.ow k b).imp id λq=>As a.size q,(a.mono λ_ _ q=>q.elim).trans h.on,h.le,h.w1,h.w2,h.raw,h.ok,h.beg,h.fol,h.len⟩
theorem bJ(P f U mn E R o v w)(H:Ia P E R)(h:Hk P f U mn E R o v w)(r av)(hi:CY 0 w av r.s.k)(hr:QT P r)(d6:∀c,L (o.rl c)<=100000):
 F' zy 95 #[Z' f,N'<|ND r av] w λe m=>e=P' #[]/\Bg P f U mn E R o v w m r:=by
 obtain⟨i0,d5,e3,e4,e5⟩:=Bx Tryz.infoRule;obtain⟨n,p,rfl⟩:=CB hi;have o1:O Cb w<|w.alloc<|R' (ND r<|Y n (L r.s.k) p) 209:=(CT _ w).alloc _;have b4:=W.new w (ND r<|Y n (L r.s.k) p) 209;have y:=h.t8 o1;have hI:=Cx hi o1 λ_ _ q=>q;have e0:∀k,o.own f k->k<(w:M):=λk q=>h.r.ownLt q
 have d9:¬o.own f (w:M):=λq=>by have:=e0 _ q;omega
 have a1:=H.ok.ok r.f hr.1 r.s hr.2;have HP:=hr;have a5:=(Im P).beg r hr;have e9:=H.xE;have a0:=hr.1;have f9:=H.ok.y r.f;have f2:=a1.e;clear h hi hr;go_in;have b0:=b4.z;have g0:=Cz b4;go_upto_block 0 with fail;generalize w.alloc (R' (ND r<|Y n (L r.s.k) p) 209)=B at*;have HI:=hI;have HC:D (∀d,O (o.own f) B d->(∀i,K' d ⟨(w:M),i,Z⟩=(ND r<|Y n (L r.s.k) p)[i]?)):=λd h3=>(b4.j h3 d9).z
 have b1:D (∀d,O (λk=>o.own f k/\k≠f) B d->K' d ⟨f,8,Z⟩=T (.map<|T<|o.om 5)/\K' d ⟨(w:M),0,Z⟩=T (G A r.f)/\K' d ⟨(w:M),1,Z⟩=T (G A r.s.e)/\K' d ⟨(w:M),2,Z⟩=T (G A r.s.w)/\K' d ⟨(w:M),3,Z⟩=T (G A r.s.n)/\K' d ⟨(w:M),4,Z⟩=T (G A r.s.wU)/\K' d ⟨(w:M),5,Z⟩=T (G A r.s.t)/\K' d ⟨(w:M),6,Z⟩=T (Y n (L r.s.k) p)/\K' d ⟨(w:M),7,Z⟩=T (G A r.s.q)/\K' d ⟨(w:M),8,Z⟩=T (G A r.s.xI)):=λd h3=>by have q8:=(y.r.p.j h3 λq=>q.2 Q).j8;have s:=HC.o d<|h3.mono λ_ _ q=>q.1;exact⟨q8,s 0,s 1,s 2,s 3,s 4,s 5,s 6,s 7,s 8⟩
 have g1:=Cz y.r.p;have p8:=y.r.p.j8;clear hI;have k0:(r.s.e=1\/r.s.e=2\/r.s.e=4)\/r.s.e=6\/r.s.e=7\/(r.s.e=3\/r.s.e=5\/r.s.e=8\/r.s.e=9)\/(r.s.e=0\/10<=r.s.e):=by omega
 rcases k0 with b|b|b|b|b
 .have a3:=a1.tg (by omega) (by omega) (by omega) (by omega);have b2:Dh P E r.tg:=D6 a0 a3;have c6:r.tg<16400:=KQ H a0 a3;have a6:¬DE r:=λq=>by unfold DE at q;omega
  have f4:=H.lp;obtain⟨ka,c1⟩:=(y.r.d0 r.tg 0<|zo Q).2 b2;have hg:∃X,X<19200/\(least P).I r.tg X/\((r.s.e=1/\pN r.s.t 0=X/\1<=r.s.t/\r.s.t<=E)\/(r.s.e=2/\r.sr=X/\r.s.n<=4001)\/(r.s.e=4/\fN r.s.n=X/\r.s.n<L P)):=by
   rcases b with b|b|b
   .have d8:=(H.c r.f a0 r.s HP.2).1 b;exact⟨_,by unfold pN;omega,a5.1 b,zo ⟨b,Q,d8⟩⟩
   .have a4:=a1.sr (by omega);exact⟨_,Nat.lt_trans (KQ H a0 a4)<|by decide,a5.2.1 b,zn<|zo ⟨b,Q,by omega⟩⟩
   .have b5:=a1.func<|zo b;exact⟨_,by unfold fN;omega,a5.2.2.1 b,zn<|zn ⟨b,Q,b5⟩⟩
  clear b;obtain⟨X,lX,hI,hX⟩:=hg;have d1:=hI;have c8:∀S:Sy,S.I r.tg X->PE P r S:=λS hS=>by
   rcases hX with⟨q,e,_⟩|⟨q,e,_⟩|⟨q,e,_⟩<;>subst e
   .exact⟨λ_=>hS,λz=>by omega,λz=>by omega,λz=>by omega,λz=>by omega⟩
   .exact⟨λz=>by omega,λ_=>hS,λz=>by omega,λz=>by omega,λz=>by omega⟩
   .exact⟨λz=>by omega,λz=>by omega,λ_=>hS,λz=>by omega,λz=>by omega⟩
  clear hI;have hg:((((r.s.e:M):zw)==1)=zt/\pN r.s.t 0=X/\1<=r.s.t/\r.s.t<=E)\/((((r.s.e:M):zw)==1)=zr/\(((r.s.e:M):zw)==2)=zt/\r.sr=X/\r.s.n<=4001)\/((((r.s.e:M):zw)==1)=zr/\(((r.s.e:M):zw)==2)=zr/\(((r.s.e:M):zw)==4)=zt/\fN r.s.n=X/\r.s.n<L P):=by
   rcases hX with⟨q,e⟩|⟨q,e⟩|⟨q,e⟩<;>rw[q]
   .exact zo ⟨Q,e⟩
   .exact zn<|zo ⟨Q,Q,e⟩
   .exact zn<|zn ⟨Q,Q,Q,e⟩
  clear hX;rcases hg with⟨k1,hX,c3,f7⟩|⟨k1,k2,hX,c3⟩|⟨k1,k2,k4,hX,c3⟩
  all_goals
   have b3:=J hX;clear hX;go_wp2_with fail;go_region_held3(λm=>(∀i,K' m ⟨(w:M),i,Z⟩=(ND r<|Y n (L r.s.k) p)[i]?)) (go_keep)
    (first
      |(go_at_call 140;refine(GI r (Y n (L r.s.k) p) _ (by omega)<|by omega).mono ?_;rintro e w3 ⟨rfl,I⟩;have l:=O.trans (X:=Cb) (a:=B) oq I;clear I;have s:=HC.o w3<|l.mono λ_ _ q=>q.elim)
      |(go_at_call 82;refine(Nt r.s.t 0 _ (by omega) (by omega)<|by omega).mono ?_;rw[b3.o];rintro e m ⟨rfl,hw⟩;cases hw.symm)
      |(go_at_call 141;refine(IR r (Y n (L r.s.k) p) _ (by omega)<|by omega).mono ?_;rw[b3.o];rintro e w4 ⟨rfl,o4⟩;have l:=l.trans o4;clear o4;have s:=HC.o w4<|l.mono λ_ _ q=>q.elim)
      |(go_at_call 142;refine(iK r.s.n _<|by omega).mono ?_;rw[b3.o];rintro e m ⟨rfl,hw⟩;cases hw.symm)
      |(go_at_call 139;refine(Ng P f U mn E R o v K r.tg ka fb _ (y.t8 O5).r c1 sf (by omega) λq=>by have:=(y.t8 l).r.ownLt (k:=ka)<|zn<|zn<|zo ⟨0,_,c1⟩;omega).mono ?_;rintro e F ⟨rfl,o6,s6⟩;have SS:=s6;clear s6;have s:=HC.o F<|(O5.mono λ_ _ q=>q.elim).trans SS.on)
      |(go_at_call 97;refine(OH X _<|by omega).mono ?_;rintro e K ⟨fb,rfl,f1,sf,o5⟩;have O5:=l.trans o5;clear o5;have s:=HC.o K<|O5.mono λ_ _ q=>q.elim))
   all_goals
    have HX:Bg P f U mn E R o v w F r:=Nx.bg (o1.trans O5) ⟨o6,_,SS,Sv.give_up v _ _,λX' q=>q.give λt ht=>by rw[ht];exact d1,c8 _<|zn ⟨Q,Q⟩⟩ a6;go_wp2_with fail;go_end0;exact⟨Q,HX⟩
 .have k1:(((r.s.e:M):zw)==1)=zr:=by rw[b];rfl
  have k2:(((r.s.e:M):zw)==2)=zr:=by rw[b];rfl
  have k4:(((r.s.e:M):zw)==4)=zr:=by rw[b];rfl
  have k6:(((r.s.e:M):zw)==6)=zt:=by rw[b];rfl
  have a3:=a1.tg (by rw[b];decide) (by rw[b];decide) (by rw[b];decide) (by rw[b];decide);have b2:Dh P E r.tg:=D6 a0 a3;have c6:r.tg<16400:=KQ H a0 a3;have a4:=a1.sr (by omega);have c9:Dh P E r.sr:=D6 a0 a4;have e6:r.sr<16400:=KQ H a0 a4;have a6:¬DE r:=λq=>by unfold DE at q;omega
  have N:=J b;clear b;go_wp2_with fail;go_region_held3(λm=>(∀i,K' m ⟨(w:M),i,Z⟩=(ND r<|Y n (L r.s.k) p)[i]?)) (go_keep)
   (first
     |(go_at_call 141;refine(IR r (Y n (L r.s.k) p) _ (by omega)<|by omega).mono ?_;rintro e w3 ⟨rfl,I⟩;have l:=O.trans (X:=Cb) (a:=B) oq I;clear I;have s:=HC.o w3<|l.mono λ_ _ q=>q.elim)
     |(go_at_call 140;refine(GI r (Y n (L r.s.k) p) _ (by omega)<|by omega).mono ?_;rintro e w4 ⟨rfl,o4⟩;have O5:=l.trans o4;clear o4;have s:=HC.o w4<|O5.mono λ_ _ q=>q.elim)
     |(go_at_call 143;refine(Lg P f U mn E R o v w4 r.sr r.tg (y.t8 O5).r c9 b2 e6 c6<|a5.2.2.2.1 N.o).mono ?_;rintro e F ⟨rfl,o6,v6,s6,u6,i6,q6⟩;have SS:=s6;have UU:=And.intro u6<|And.intro i6 q6;clear s6 u6 i6 q6;have s:=HC.o F<|(O5.mono λ_ _ q=>q.elim).trans SS.on))
  all_goals
   have HX:Bg P f U mn E R o v w F r:=Nx.bg (o1.trans O5) ⟨o6,v6,SS,UU.1,UU.2.1,⟨λq=>Bm (N.o.symm.trans q)<|by decide,λq=>Bm (N.o.symm.trans q)<|by decide,λq=>Bm (N.o.symm.trans q)<|by decide,λ_=>UU.2.2,λq=>Bm (N.o.symm.trans q)<|by decide⟩⟩ a6;go_wp2_with fail;go_end0;exact⟨Q,HX⟩
 .have k1:(((r.s.e:M):zw)==1)=zr:=by rw[b];rfl
  have k2:(((r.s.e:M):zw)==2)=zr:=by rw[b];rfl
  have k4:(((r.s.e:M):zw)==4)=zr:=by rw[b];rfl
  have k6:(((r.s.e:M):zw)==6)=zr:=by rw[b];rfl
  have k7:(((r.s.e:M):zw)==7)=zt:=by rw[b];rfl
  have hR:=H.rl HP (by rw[b];decide) (by rw[b];decide) (by rw[b];decide) (by rw[b];decide);have b5:=a1.func<|zn b;have f6:=a1.many b;have f8:=H.ok.yB r.s.n;have a6:¬DE r:=λq=>by unfold DE at q;omega
  have N:=J b;clear b;go_wp2_with fail;refine(Vk P f U mn E R o v B H y r r.s.n (Y n (L r.s.k) p) HI hR b5 (by omega)<|a5.2.2.2.2 N.o).mono ?_;rintro e F ⟨rfl,o6,v6,s6,u6,i6,q6⟩;have HX:Bg P f U mn E R o v w F r:=Nx.bg o1 ⟨o6,v6,s6,u6,i6,⟨λq=>Bm (N.o.symm.trans q)<|by decide,λq=>Bm (N.o.symm.trans q)<|by decide,λq=>Bm (N.o.symm.trans q)<|by decide,λq=>Bm (N.o.symm.trans q)<|by decide,λ_=>q6⟩⟩ a6;clear s6 u6 i6 q6;go_wp2_with fail;go_end0;exact⟨Q,HX⟩
 .have k1:(((r.s.e:M):zw)==1)=zr:=by simp;omega
  have k2:(((r.s.e:M):zw)==2)=zr:=by simp;omega
  have k4:(((r.s.e:M):zw)==4)=zr:=by simp;omega
  have k6:(((r.s.e:M):zw)==6)=zr:=by simp;omega
  have k7:(((r.s.e:M):zw)==7)=zr:=by simp;omega
  have d4:DE r:=by unfold DE;omega
  obtain⟨C,hC⟩:=Dv<|r.at;have hK:(r.s.e≠9/\r.sr=C/\r.s.n<=4001/\C<16400)\/(r.s.e=9/\r.tg=C/\r.s.w<=4001/\C<16400):=by
   unfold Rl.at at hC;by_cases V:r.s.e=9
   .rw[Bb V]at hC;have a3:=a1.tg (by rw[V];decide) (by rw[V];decide) (by rw[V];decide) (by rw[V];decide);exact zn ⟨V,hC,by omega,by rw[<-hC];exact KQ H a0 a3⟩
   .rw[Ba V]at hC;have a4:=a1.sr (by omega);exact zo ⟨V,hC,by omega,by rw[<-hC];exact KQ H a0 a4⟩
  have f0:C<16400:=by rcases hK with q|q;exact q.2.2.2;exact q.2.2.2
  have c7:=J hC;clear hC;have b7:D (∀d,O Cb B d->(Instr.lookup 137 (.map<|T<|o.om 5) (G A C) zr).run zy d=.ok (NR o C) d):=λd h3=>by
   have q:=(y.t8 h3).r.fm.look lN underlying137 (Xa d) (k:=C) (by omega) zr;unfold NR;cases hq:o.fw C with
   |none=>exact q.1 hq
   |some t=>exact q.2 t hq
  obtain⟨cs,a9,d3,b6⟩:=y.r.fwAt C;have f3:=d6 C;have e7:=J b6;have c4:∀k,L' (NR o C)=T k->o.own f k/\k≠f:=λk b=>by
   refine⟨?_,CL a9 y.r.p (by decide) k b⟩;unfold NR at b;cases hc:o.fw C with
   |none=>rw[hc]at b;cases b
   |some t0=>rw[hc]at b;unfold Mk at b;cases b;exact zn<|zn<|zn ⟨C,t0,hc,Q⟩
  have b9:∀(Wc:I') (g a2:M) (K:I'),O Cb B Wc->Wc.grownBy K (L'<|NR o C)->(L' (NR o C)=T g\/g=(Wc:M))->J' K 0 209 9 (Y (T ⟨g,0,Z⟩) (L (o.rl C)+1) a2) (L (o.rl C)+1) (cs.flatten++pQ r (Y n (L r.s.k) p))->
   ∃F,(Instr.mapUpdate 137 (.map<|T<|o.om 5) (G A C)<|Mk (g,L (o.rl C)+1,a2)).run zy K=.ok () F/\Bg P f U mn E R o v w F r/\O (λk=>o.own f k/\k≠f) B K/\O (λk=>o.own f k/\k≠f) B F:=λWc g a2 K hc hg hl a8=>by
   have g5:O (λk=>L' (NR o C)=T k) B K:=O.xA (hc.mono λ_ _ q=>q.elim) hg λj hj=>zo hj;have d7:=y.r.fm.j g5 (λq=>by obtain⟨e8,e⟩:=GB a9 _ q;exact y.r.fm.ne e Q);obtain⟨F,h6,m6,o6⟩:=d7.put lN underlying137 (k:=C) (a:=(g,L (o.rl C)+1,a2)) (by omega) trivial;have y5:O (λk=>o.own f k/\k≠f) B K:=g5.mono λk _ q=>c4 k q
   have n5:o.om 5≠f:=by obtain⟨_,_,e⟩:=y.r.fm.xJ;exact(y.r.yC e).1
   refine⟨F,h6,Bg.from o1<|y.r.waitB (t:=(g,L (o.rl C)+1,a2)) hc c7.o d4 (Cx a9 hc λ_ _ q=>q) d3 (λi q q'=>?_) (Cx HI hc λ_ _ q=>q) hg (hl.imp id λq=>by have:=hc.size;dsimp only;omega) a8 m6 o6,y5,y5.thn o6 λk _ q=>by rw[q];exact⟨zn<|zo ⟨5,by omega,Q⟩,n5⟩⟩;obtain⟨u,e,hr⟩:=b6 i q q';exact⟨u,e,Cx hr hc λ_ _ q=>q⟩
  have d0:=J b9;clear b6 c4 b9;have hg:(D (∀d,F' zy 141 #[N'<|ND r<|Y n (L r.s.k) p] d λe m=>e=T' (G A C)/\O Cb d m)/\((((r.s.e:M):zw)==3)=zt\/(((r.s.e:M):zw)==3)=zr/\(((r.s.e:M):zw)==5)=zt\/(((r.s.e:M):zw)==3)=zr/\(((r.s.e:M):zw)==5)=zr/\(((r.s.e:M):zw)==8)=zt))\/(D (∀d,F' zy 140 #[N'<|ND r<|Y n (L r.s.k) p] d λe m=>e=T' (G A C)/\O Cb d m)/\(((r.s.e:M):zw)==3)=zr/\(((r.s.e:M):zw)==5)=zr/\(((r.s.e:M):zw)==8)=zr/\(((r.s.e:M):zw)==9)=zt):=by
   rcases hK with⟨V,hs,hl,_⟩|⟨V,ht,hl,_⟩
   .exact zo ⟨λd=>by rw[<-hs];exact IR r _ d (by omega) hl,by simp;omega⟩
   .exact zn ⟨λd=>by rw[<-ht];exact GI r _ d (by omega) hl,by simp;omega⟩
  clear b hK;rcases hg with⟨b8,k3|⟨k3,k5⟩|⟨k3,k5,k8⟩⟩|⟨b8,k3,k5,k8,k9⟩
  all_goals
   go_wp2_with fail;go_region_held3(λm=>K' m ⟨f,8,Z⟩=T (.map<|T<|o.om 5)/\K' m ⟨(w:M),0,Z⟩=T (G A r.f)/\K' m ⟨(w:M),1,Z⟩=T (G A r.s.e)/\K' m ⟨(w:M),2,Z⟩=T (G A r.s.w)/\K' m ⟨(w:M),3,Z⟩=T (G A r.s.n)/\K' m ⟨(w:M),4,Z⟩=T (G A r.s.wU)/\K' m ⟨(w:M),5,Z⟩=T (G A r.s.t)/\K' m ⟨(w:M),6,Z⟩=T (Y n (L r.s.k) p)/\K' m ⟨(w:M),7,Z⟩=T (G A r.s.q)/\K' m ⟨(w:M),8,Z⟩=T (G A r.s.xI)) (go_keep)
    (first
      |((first|go_at_call 141|go_at_call 140);refine(b8 _).mono ?_;rintro e w3 ⟨rfl,I⟩;(first|(have l:=O.trans ((CT Cb B).drew) I)|(have l:=O.trans ((CT Cb B).drew.alloc _) I)|(have l:=l.trans I)|(have l:=O.trans (l.alloc _) I));(first|(have a7:W (B:M) (ND r<|Y n (L r.s.k) p) 209 w3:=W.j (W.new B.drew _ _) I id)|(have a7:=a7.j I id)|(have a7:=W.j (W.new _ _ _) I id)|skip);clear I;have L1:=b7.o _ l;have L2:=b7.o _<|l.alloc<|R' (ND r<|Y n (L r.s.k) p) 209;obtain⟨q8,s,r1,r2,r3,r4,r5,r6,r7,r8⟩:=b1.o w3<|l.mono λ_ _ q=>q.elim)
      |(refine step_append_lies _ Q _ _ 265 Q 0 209 i0 (N' wM) 9 88 underlying265 d5 e3 e4 e5 Q (by decide) (NR o C) (L<|o.rl C) cs.flatten Q (Cx a9 (X:=Cb) (by first|exact l|exact l.alloc _) λ_ _ q=>q) _ 1 1 (pQ r<|Y n (L r.s.k) p) Q Q (by first|exact Vj a7|exact Vj<|W.new _ _ _) (λx hx=>by unfold pQ NS at hx;simp only[AY,AE,or_false]at hx;rcases hx with rfl|rfl|rfl|rfl|rfl|rfl|rfl|rfl|rfl<;>rfl) (by decide) (by unfold E';omega) (by omega) (Ar _) _ Q ?_;intro g a2 K a8 c0 c2 f5;have FF:=J<|d0.o _ g a2 K (by first|exact l|exact l.alloc _) c0 c2 a8;obtain⟨F,c5,d2,e1,e2⟩:=FF.o;unfold Mk at c5;dsimp only at c5;clear c0 c2 a8;obtain⟨q8,s,r1,r2,r3,r4,r5,r6,r7,r8⟩:=b1.o K e1;have S6:=J<|b1.o F e2;obtain⟨g2,s0,s1,s2,s3,s4,s5,s6,s7,s8⟩:=S6.o;clear FF S6))
   all_goals
    go_wp2_with fail;go_end0;exact⟨Q,d2⟩
 .have k1:(((r.s.e:M):zw)==1)=zr:=by simp;omega
  have k2:(((r.s.e:M):zw)==2)=zr:=by simp;omega
  have k4:(((r.s.e:M):zw)==4)=zr:=by simp;omega
  have k6:(((r.s.e:M):zw)==6)=zr:=by simp;omega
  have k7:(((r.s.e:M):zw)==7)=zr:=by simp;omega
  have k3:(((r.s.e:M):zw)==3)=zr:=by simp;omega
  have k5:(((r.s.e:M):zw)==5)=zr:=by simp;omega
  have k8:(((r.s.e:M):zw)==8)=zr:=by simp;omega
  have k9:(((r.s.e:M):zw)==9)=zr:=by simp;omega
  have HX:Bg P f U mn E R o v w B r:=Nx.bg o1 ⟨o,v,⟨y.r,λ_ q=>zo q,Q,CT _ _⟩,.rf _,λ_ q=>q,⟨λq=>by omega,λq=>by omega,λq=>by omega,λq=>by omega,λq=>by omega⟩⟩ (λq=>by unfold DE at q;omega);clear b;go_wp2_with fail;go_end0;exact⟨Q,HX⟩
theorem MX.get{l:List Rl}(h:MX 0 P (Y (T ⟨B,0,Z⟩) C R) l){i:M}(q:i<L l):
 ∃a,(∀j,j<9->K' P ⟨B,i*9+j,Z⟩=(pQ l[i] a)[j]?)/\CY 0 P a l[i].s.k:=by
 have⟨c,k,s,f⟩:=h;cases CU k;have d:i<c:=by omega
 have o:∀x,x∈c->L x=9:=by intro x r;obtain⟨j,b,rfl⟩:=AC.1 r;have⟨_,e,_⟩:=f j b (by omega);rw[e];rfl
 have⟨a,e,m⟩:=f i d q;refine⟨a,λj b=>?_,m⟩;have p:=k.cellAt (i*9+j) (by omega);rw[p,EO o d b,e]
theorem Yu(P u F K z C o v w)(a1:Ia P z C)(h:Hk P u F K z C o v w)(c nb m)(hs:DV nb m w)(hn:¬o.own u nb)(e5:v.s.le<|least P)(hm:∀t,m t->v.s.I c t)(hW:∀r,v.W c r->QT P r/\DE r/\r.at=c)(hl:L (o.rl c)<=100000)(hc:Dh P z c):
 F' zy 96 #[Z' u,c,.map<|T nb] w λe w'=>e=P' #[]/\Nx P u F K z C o v w w' (λv'=>(∀b t,v.s.F c b->m t->v'.s.I b t)/\∀r t,v.W c r->m t->Gi P r t v'.s):=by
 have⟨kf,f7⟩:=(h.r.d0 c 3<|zn Q).2 hc;have lc:c<16400:=hc.lt a1.xE a1.ok.y a1.lp;have p7:=h.r.p.j7;have e8:=Cz h.r.p;have l3:=((h.r.mp 3<|by omega).look Ha underlying87 (Ez w) (k:=c) (by omega) zr).2 kf f7;have g1:=(h.r.st 3 c kf f7).iff (m':=v.s.F c) λn=>by simp[ET]
 unfold Ly at l3;have j2:=hs.lt;have B:=g1;have HW:=J hW;clear g1 hW;go_in;go_wp2_with fail;refine(G6 kf (v.s.F c) w B h.tb h.tl).mono ?_;rintro e w1 ⟨nv,l,rfl,a5,a9,a4,d⟩;obtain⟨na,nc,rfl⟩:=CB a5;have d4:=h.t8 d;have g5:=CN a5<|Ar _;have g7:=hs.j d id;have i3:L l<=19200:=GA 19200 l a9 λx hx=>by have⟨_,_,e9⟩:=B;exact e9.lt<|(a4 x).1 hx
 have f0:=J a4;have i8:=d.size;have f2:=d;have SW:Hl P u F K z C o o v w1 w1:=⟨d4.r,λ_ q=>zo q,Q,CT _ _⟩;clear a5 a9 a4 d B p7 l3 e8;go_wp2_with fail;go_loopw[21] (λi wr=>∃(k:M) (d:So) (y:Sv),k<=l/\i=G A k/\Hl P u F K z C o d y w1 wr/\D (v.up y/\(∀X,Eu P X v->Eu P X y)/\∀j b t,j<k->l[j]? =T b->m t->y.s.I b t)) (λi _=>l-(zm i).toNat);exact⟨0,o,v,by omega,Q,SW,⟨.rf _,λ_ q=>q,λj a _ q=>by omega⟩⟩;clear SW;obtain⟨k,d,y,hk,rfl,HS,HQ⟩:=hrel;have a7:=d4.q HS;have i0:¬d.own u nb:=λq=>(HS.ow _ q).elim hn λq=>by omega
 have d3:=g7.j HS.on hn;by_cases a3:k<l
 .have d1:=d4.r.ints g5 HS.on;obtain⟨gl,rfl⟩:=CH d1 (by omega);have a8:=d1.cellAt k (by omega);rw[AI,Ag a3]at a8;simp only[BA]at a8;have i1:=(d1.lt gl Q).2;have hF:=(f0.o l[k]).1<|Am _;have f5:=e5.f _ _ hF;have e0:=(oT a1 f5).2;have j1:=e0.lt a1.xE a1.ok.y a1.lp;have⟨kb,e3⟩:=(a7.r.d0 l[k] 0<|zo Q).2 e0;have h8:nb≠kb:=λq=>i0<|q▸zn (zn<|zo ⟨0,_,e3⟩)
  have e4:(k:zw)<(L l:zw):=by omega
  have e2:k+1<=L l:=a3;have HG:=J<|Ag a3;have g4:=J e3;have a6:=a7;have c9:=d3;clear d1 hF e0 e3 a7 d3;generalize l[k]=x at*;go_wp2_with fail;refine(Ng P u F K z C d y wr x kb nb m a6.r g4.o c9 (by omega) h8).mono ?_;rintro e w2 ⟨rfl,f,s2⟩;have a0:=HS.trans s2;have N:v.up (y.give x m)/\(∀X,Eu P X v->Eu P X (y.give x m))/\∀j b t,j<k+1->l[j]? =T b->m t->(y.give x m).s.I b t:=⟨HQ.1.tr<|Sv.give_up _ _ _,λX q=>(HQ.2.1 X q).give λt I=>(Im P).flow c x t f5<|e5.i c t<|hm t I,λj b t S H I=>by by_cases e:j=k;subst e;rw[HG.o]at H;cases H;exact zn ⟨Q,I⟩;exact zo<|HQ.2.2 j b t (by omega) H I⟩
  clear s2 HQ HS;go_wp2_with fail;go_roundw;exact⟨k+1,f,_,e2,by go_num,a0,N⟩;simp[intOf];omega
 .have e:k=l:=by omega
  subst e;have e4:zu ((L l:zw)<(L l:zw))=zr:=by simp
  have a6:=a7;have c9:=d3;clear a7 d3;go_wp2_with fail;refine(G6 nb m wr c9 a6.tb a6.tl).mono ?_;rintro e w2 ⟨nv,s,rfl,a5,a9,a4,f⟩;obtain⟨j3,j4,rfl⟩:=CB a5;have i4:L s<=19200:=GA 19200 s a9 λx hx=>by have⟨_,_,e9⟩:=c9;exact e9.lt<|(a4 x).1 hx
  have a2:=a6.t8 f;have g6:=CN a5<|Ar _;have f1:=J a4;have i9:=f.size;have g8:=f;have e7:d.rl=o.rl:=BG Prod.fst HS.rl;have i5:L (d.rl c)<=100000:=by rw[e7];exact hl
  have f6:=a2.r.fwAt c;obtain⟨fa,fl,fc,e1,h5⟩:∃a l cc,NR d c=Y a l cc/\l=L (d.rl c):=by have⟨cs,q,_⟩:=f6;have⟨a,l,cc,e⟩:=CA q;rw[e]at q;exact⟨a,l,cc,e,CU q⟩
  subst h5;have lk:(Instr.lookup 137 (.map<|d.om 5) c zr).run zy w2=.ok (Y fa (d.rl c) fc) w2:=by
   rw[<-e1];have q:=a2.r.fm.look lN underlying137 (Xa w2) (k:=c) (by omega) zr;unfold NR;cases hq:d.fw c with
   |none=>exact q.1 hq
   |some t=>exact q.2 t hq
  have p8:=a2.r.p.j8;have e8:=Cz a2.r.p;have SW:Hl P u F K z C d d y w2 w2:=⟨a2.r,λ_ q=>zo q,Q,CT _ _⟩;have f3:=J e7;have g2:=J e1;clear a5 a9 a4 f e7 e1 f6;go_wp2_with fail;go_loopw[39] (λi wr=>∃(k:M) (f:So) (E:Sv),k<=(d.rl c)/\i=G A k/\Hl P u F K z C d f E w2 wr/\D (y.up E/\(∀X,Eu P X y->Eu P X E)/\∀j r t,j<k->(d.rl c)[j]? =T r->m t->Gi P r t E.s)) (λi _=>(d.rl c)-(zm i).toNat);exact⟨0,d,y,by omega,Q,SW,⟨.rf _,λ_ q=>q,λj a _ q=>by omega⟩⟩;clear SW p8 lk e8;obtain⟨k,f,E,hk,rfl,a0,N⟩:=hrel;have d9:=a2.q a0;by_cases a3:k<(d.rl c)
  .have b9:=d9.r.fwAt c;have q1:f.rl=d.rl:=BG Prod.fst a0.rl;have q2:f.fw=d.fw:=BG Prod.snd a0.rl;have q3:NR f c=NR d c:=by unfold NR;rw[q2]
   rw[q1,q3,g2.o]at b9;obtain⟨g,rfl⟩:∃g,fa=T ⟨g,0,Z⟩:=by obtain⟨cs,q,_⟩:=b9;exact CH q<|by omega
   have lg:g<(wr:M):=by obtain⟨cs,q,_⟩:=b9;exact(q.lt g Q).2
   have⟨av,R,hI⟩:=b9.get a3;have c0:=R 0 (by omega);have c1:=R 1 (by omega);have c2:=R 2 (by omega);have c3:=R 3 (by omega);have c4:=R 4 (by omega);have c5:=R 5 (by omega);have c6:=R 6 (by omega);have c7:=R 7 (by omega);have c8:=R 8 (by omega);simp only[pQ,NS,Aa,Ab,Au]at c0 c1 c2 c3 c4 c5 c6 c7 c8;have hv:v.W c (d.rl c)[k]:=(h.r.fvr c _).2 (by rw[<-f3.o];exact Am _);have g0:=HW.o _ hv;have HG:=J<|Ag a3;have e4:(k:zw)<(L (d.rl c):zw):=by omega
   have e2:k+1<=L (d.rl c):=a3;obtain⟨aa,ac,rfl⟩:=CB hI;have d6:=J g0;clear b9 R hv g0 q1 q2 q3;generalize (d.rl c)[k]=r at*;have o5:O Cb wr<|wr.alloc<|R' (ND r<|Y aa r.s.k ac) 209:=(CT _ wr).alloc _;have h4:=W.new wr (ND r<|Y aa r.s.k ac) 209;have d0:=d9.t8 o5;have h0:=Cx hI o5 λ_ _ q=>q;have h3:=Cx (a2.r.ints g6 a0.on) o5 λ_ _ q=>q;have h9:¬f.own u wr:=λq=>by have:=d9.r.ownLt q;omega
   have i6:(wr.alloc (R' (ND r<|Y aa r.s.k ac) 209):M)=wr+1:=by simp
   go_upto_block 4 with fail;generalize wr.alloc (R' (ND r<|Y aa (L r.s.k) ac) 209)=W5 at*;have f4:Hl P u F K z C f f E W5 W5:=⟨d0.r,λ_ q=>zo q,Q,CT _ _⟩;clear c0 c1 c2 c3 c4 c5 c6 c7 c8 lg;generalize (wr:M)=rb at*;go_wp2_with fail;go_loopw[45] (λi wi=>∃(p:M) (o3:So) (U:Sv),p<=s/\i=G A p/\Hl P u F K z C f o3 U W5 wi/\D (E.up U/\(∀X,Eu P X E->Eu P X U)/\∀j t,j<p->s[j]? =T t->Gi P r t U.s)) (λi _=>s-(zm i).toNat);exact⟨0,f,E,by omega,Q,f4,⟨.rf _,λ_ q=>q,λj a q=>by omega⟩⟩;clear f4;obtain⟨p,o3,U,i2,rfl,B,V⟩:=hrel;have g9:=d0.q B;by_cases e6:p<s
   .have d2:=d0.r.ints h3 B.on;have h1:=d0.r.ints h0 B.on;have d8:=h4.j B.on h9;obtain⟨gl,rfl⟩:=CH d2 (by omega);have a8:=d2.cellAt p (by omega);rw[AI,Ag e6]at a8;simp only[BA]at a8;have i1:=(d2.lt gl Q).2;have f8:=(f1.o s[p]).1<|Am _;have h2:(least P).I r.at s[p]:=by rw[d6.o.2.2];exact e5.i _ _<|hm _ f8
    have g3:=J<|Ag e6;have h7:(p:zw)<(L s:zw):=by omega
    have h6:p+1<=L s:=e6;have⟨b0,b1,b2,b3,b4,b5,b6,b7,b8⟩:=d8.k9;have j0:=Cz d8;clear d2 d8 f8;generalize s[p]=x at*;go_wp2_with fail;refine(Yc P u F K z C o3 U wr a1 g9 r x (Y aa r.s.k ac) h1 d6.o.1 d6.o.2.1 h2).mono ?_;rintro e w7 ⟨rfl,o7,v7,s7,u7,i7,q7⟩;have d7:=B.trans s7;have d5:E.up v7/\(∀X,Eu P X E->Eu P X v7)/\∀j t,j<p+1->s[j]? =T t->Gi P r t v7.s:=⟨V.1.tr u7,λX q=>i7 X<|V.2.1 X q,λj t S H=>by by_cases e:j=p;subst e;rw[g3.o]at H;cases H;exact q7;exact(V.2.2 j t (by omega) H).up u7.le.s⟩
    clear s7 u7 i7 q7 V B;go_wp2_with fail;go_roundw;exact⟨p+1,o7,v7,h6,by go_num,d7,d5⟩;simp[intOf];omega
   .have e:p=s:=by omega
    subst e;have h7:zu ((L s:zw)<(L s:zw))=zr:=by simp
    have d7:=(a0.t8 o5).trans B;have d5:y.up U/\(∀X,Eu P X y->Eu P X U)/\∀j r t,j<k+1->(d.rl c)[j]? =T r->m t->Gi P r t U.s:=⟨N.1.tr V.1,λX q=>V.2.1 X<|N.2.1 X q,λj r' t S H I=>by by_cases e:j=k;subst e;rw[HG.o]at H;cases H;have⟨i,hi,e⟩:=AC.1<|(f1.o t).2 I;exact V.2.2 i t hi (by rw[Ag hi,e]);exact(N.2.2 j r' t (by omega) H I).up V.1.le.s⟩
    clear N a0 V B;go_wp2_with fail;go_roundw;exact⟨k+1,o3,U,e2,by go_num,d7,d5⟩;simp[intOf];omega
  .have e:k=(d.rl c):=by omega
   subst e;have e4:zu ((L (d.rl c):zw)<(L (d.rl c):zw))=zr:=by simp
   have HX:Nx P u F K z C o v w wr (λv'=>(∀b t,v.s.F c b->m t->v'.s.I b t)/\∀r t,v.W c r->m t->Gi P r t v'.s):=by have t1:=(HS.t8 g8).trans a0;refine⟨f,E,⟨t1.r,λj S=>(t1.ow j S).imp id λq=>As f2.size q,t1.rl,(f2.mono λ_ _ q=>q.elim).trans t1.on⟩,HQ.1.tr N.1,λX q=>N.2.1 X<|HQ.2.1 X q,λb t hF I=>?_,λr t hr I=>?_⟩;have⟨j,S,e⟩:=AC.1<|(f0.o b).2 hF;exact N.1.le.s.i _ _<|HQ.2.2 j b t S (by rw[Ag S,e]) I;have f9:=(h.r.fvr c r).1 hr;rw[<-f3.o]at f9;have⟨j,S,e⟩:=AC.1 f9;exact N.2.2 j r t S (by rw[Ag S,e]) I
   go_wp2_with fail;go_end0;exact⟨Q,HX⟩
structure Ks(P:CQ)(g:M)(m:H')(n s l:M)(o o':So)(v':Sv)(w w':I'):Prop where
 e:Hk P g m n s l o' v' w'
 ow:∀k,o'.own g k->o.own g k\/(w:M)<=k
 on:O (o.own g) w w'
section
variable{P:CQ}{g:M}{m:H'}{n s l:M}{o B C:So}{v F H:Sv}{w x w2:I'}
theorem Ks.rf(h:Hk P g m n s l o v w):Ks P g m n s l o o v w w:=⟨h,λ_ q=>zo q,oq⟩
theorem Ks.more(h:Ks P g m n s l o B F w x)(r:Es P g m n s l C H w2)(b:∀k,C.own g k->B.own g k\/(x:M)<=k)(a:O (B.own g) x w2):Ks P g m n s l o C H w w2:=
 ⟨h.e.nxt r b a,λk c=>(b k c).elim (h.ow k) λq=>zn<|As h.on.size q,h.on.thn a λj d q=>(h.ow j q).elim id λr=>Bm r<|by omega⟩
theorem Ks.t8(h:Ks P g m n s l o B F w x)(k:O Cb x w2):Ks P g m n s l o B F w w2:=⟨h.e.t8 k,h.ow,h.on.xV k⟩
structure Ph(P:CQ)(o:So)(v:Sv)(D:Rl->Prop)(cnt:M):Prop where
 raw:v.raw
 ok:Eu P (λ_ _=>zv) v
 w:∀a q,v.W a q->QT P q/\DE q/\q.at=a
 d:∀r,D r->PE P r v.s/\(DE r->v.W r.at r)
 len:∀c,(o.rl c)<=cnt
theorem Ph.q{o i v j d e r}(h:Ph P o v d e)(k:wB P g m n s l o i v j w x r)(t:QT P r){E:Rl->Prop}(p:∀q,E q->d q\/q=r):Ph P i j E<|e+1:=by
 refine⟨k.raw h.raw,k.ok _ h.raw h.ok,λa q b=>?_,λq b=>?_,λc=>As (k.len c)<|Nat.succ_le_succ<|h.len c⟩;rcases k.w2 a q b with z|⟨u,y,I⟩
 exact h.w a q z;grind;rcases p q b with z|rfl
 exact⟨(h.d q z).1.up k.le,λf=>k.w1 _ _<|(h.d q z).2 f⟩;exact⟨k.beg,k.fol⟩
structure rQ(P:CQ)(o:So)(v:Sv):Prop where
 ok:Eu P (λ_ _=>zv) v
 w:∀a q,v.W a q->QT P q/\DE q/\q.at=a
 b:∀r,QT P r->PE P r v.s/\(DE r->v.W r.at r)
 len:∀c,(o.rl c).length<=100000
theorem rQ.later{o i v d}(h:rQ P o v)(u:v.took.up d)(k:Eu P (λ_ _=>zv) d)(b:i.rl=o.rl):rQ P i d:=
 ⟨k,λa q e=>h.w a q<|by have:=u.le.w;rw[this]at e;exact e,λr b=>⟨(h.b r b).1.up u.le.s,λf=>by rw[u.le.w];exact(h.b r b).2 f⟩,λc=>by rw[b];exact h.len c⟩
theorem Hk.j(h:Hk P g m n s l o v w){X:Ce}(c:O X w x)(f:∀k,X k->¬o.own g k)(d:∀k a t b,X k->w.heap[k]? ≠T (R' a t b))(e:¬X 0):Hk P g m n s l o v x:=
 ⟨h.r.j c f λk a b q=>d k a _ b q,h.pl.j c λk a t b q r=>Bm r<|d k a t b q,h.tb.j c e h.tl,Av h.tl c.size,h.tn⟩
theorem Hk.took(h:Hk P g m n s l o v w){a}(p:(w:M)<=a)(j:En Mj Mi a (λ_=>Z) x)(f:W g (qA (o.tk a) m n s l) 139 x)(c:O (λk=>k=g) w x):Hk P g m n s l (o.tk a) v.took x/\∀k,(o.tk a).own g k->o.own g k\/k=a:=by
 have d:∀k,(o.tk a).own g k->o.own g k\/k=a:=λk b=>by
  rcases b with q|⟨t,r,q⟩|⟨t,i,q⟩|q
  exact zo<|zo q;by_cases e:t=2;grind[So.tk_2];rw[So.tk_om e]at q;exact zo<|zn<|zo ⟨t,r,q⟩;exact zo<|zn<|zn<|zo ⟨t,i,(So.tk_bk q).2⟩;exact zo<|zn<|zn<|zn q
 exact⟨h.nxt (h.r.took p j f c) (λk b=>(d k b).imp id λq=>by omega)<|c.mono λk _ q=>zo q,d⟩
end
theorem rQ.done{P:CQ}{g:M}{m:H'}{n s l:M}{o:So}{v:Sv}{w:I'}(h:rQ P o v)(k:Es P g m n s l o v w)(b:∀c,o.bk 2 c=Z):v.s.le (least P)/\(least P).le v.s:=by refine h.ok.done (λc t q=>?_) (λr a=>(h.b r a).1) λr a=>(h.b r a).2;have⟨d,e⟩:=k.ins 2 c t (by omega)<|Qy.2 q;grind
theorem eH(P d fv F E C o v w)(b5:Ia P E C)(h:Hk P d fv F E C o v w)(h0:Ph P o v (λ_=>zv) 0):
 F' zy 53 #[Z' d] w λe w'=>e=P' #[]/\∃o' v',Ks P d fv F E C o o' v' w w'/\v'.s.le (least P)/\(least P).le v'.s:=by
 obtain⟨V,fl,K,k1,k0⟩:∃a l c,fv=Y a l c/\l=L P:=by have⟨cs,q,_⟩:=h.pl;have⟨a,l,c,e⟩:=CA q;rw[e]at q;exact⟨a,l,c,e,CU q⟩
 subst k0;subst k1;have l5:=b5.xE;have p0:=h.r.p.j0;have b3:=Cz h.r.p;have HA:=J b5;have B0:D<|Ks P d (Y V P K) F E C o o v w w:=Ks.rf h;have H0:=J h0;clear h b5 h0;go_in;go_wp2_with fail;go_loopw[14] (λi wr=>∃(k:M) (U:So) (v1:Sv),k<=P/\i=G A k/\D (Ks P d (Y V P K) F E C o U v1 w wr)/\D (Ph P U v1 (λr=>QT P r/\r.f<k)<|k*4001)) (λi _=>P-(zm i).toNat);exact⟨0,o,v,by omega,Q,B0,⟨H0.o.raw,H0.o.ok,H0.o.w,λr q=>by omega,λc=>by have:=H0.o.len c;omega⟩⟩;clear B0 H0 p0 b3;obtain⟨k,U,v1,hk,rfl,p,y⟩:=hrel;by_cases a4:k<P
 .obtain⟨gf,rfl⟩:∃g,V=T ⟨g,0,Z⟩:=by obtain⟨cs,q,_⟩:=p.o.e.pl;exact CH q<|by omega
  have l3:gf<(wr:M):=by obtain⟨cs,q,_⟩:=p.o.e.pl;exact(q.lt gf Q).2
  have⟨vv,sv,f5,_,b2⟩:=p.o.e.pl.get a4
  obtain⟨sa,sc,rfl,d5⟩:=b2.form
  have c3:=f5 3<|by omega
  simp only[Rk,Aa,Ab]at c3
  have d3:CO P k=P[k]:=by unfold CO;rw[Ag a4];rfl
  rw[<-d3]at c3 b2 d5
  have p0:=p.o.e.r.p.j0
  have b3:=Cz p.o.e.r.p
  have l8:=HA.o.ok.many k
  have k5:(k:zw)<(L P:zw):=by omega
  have k4:k+1<=L P:=a4
  have l4:=J d3
  have B1:D<|Ks P d (Y gf P K) F E C o U v1 w wr:=p.o
  have Q1:D<|Ph P U v1 (λr=>QT P r/\(r.f<k\/(r.f=k/\∃j,j<0/\(CO P k).f[j]? =r.s)))<|k*4001+0:=⟨y.o.raw,y.o.ok,y.o.w,λr q=>by rcases q with⟨q1,q2|⟨_,j,q2,_⟩⟩;exact y.o.d r ⟨q1,q2⟩;omega,λc=>y.o.len c⟩
  have j7:=J b2
  have S1:D<|Ks P d (Y gf P K) F E C U U v1 wr wr:=Ks.rf p.o.e
  have j5:=J d5
  clear f5 d3 p y b2 d5
  go_wp2_with fail
  clear p0 b3 c3 l3
  go_loopw[27] (λi wi=>∃(j:M) (b:So) (f:Sv),j<=(CO P k).f/\i=G A j/\D (Ks P d (Y gf P K) F E C U b f wr wi)/\D (Ph P b f (λr=>QT P r/\(r.f<k\/(r.f=k/\∃i,i<j/\(CO P k).f[i]? =r.s)))<|k*4001+j)) (λi _=>(CO P k).f-(zm i).toNat)
  exact⟨0,U,v1,by omega,Q,S1,Q1⟩
  obtain⟨j,b,f,hj,rfl,a2,a1⟩:=hrel
  by_cases c9:j<(CO P k).f
  .obtain⟨gs,rfl,i2⟩:=j5.o<|by omega
   have h6:=j7.o.j a2.o.on S1.o.e.r.noPlan;have m7:gs<wr:=Av i2 a2.o.on.size;have⟨av,a0,hI⟩:=h6.get c9;have c0:=a0 0 (by omega);have c1:=a0 1 (by omega);have c2:=a0 2 (by omega);have c3:=a0 3 (by omega);have c4:=a0 4 (by omega);have c5:=a0 5 (by omega);have c6:=a0 6 (by omega);have c7:=a0 7 (by omega);simp only[NS,Aa,Ab,Au]at c0 c1 c2 c3 c4 c5 c6 c7;have g1:(CO P k).f[j]∈(CO P k).f:=Am _;have HG:=J<|Ag c9;have k3:(j:zw)<(L (CO P k).f:zw):=by omega
   have k2:j+1<=L (CO P k).f:=c9;obtain⟨aa,ac,rfl⟩:=CB hI;have HI:=J hI;have e4:=J g1;clear h6 a0 hI g1 S1 Q1 i2;generalize (CO P k).f[j]=s at*;have o5:O Cb wr<|wr.alloc<|R' (NS s<|Y aa s.k ac).toArray 206:=(CT _ wr).alloc _;have e8:=a2.o.t8 o5;have f3:=Cx HI.o o5 λ_ _ q=>q;have d8:=J e8;have i3:=J f3;clear e8 f3 o5;go_wp2_with fail;refine(bJ P d _ F E C b f _ HA.o d8.o.e ⟨k,s⟩ (Y aa s.k ac) i3.o ⟨a4,e4.o⟩ λc=>by have:=a1.o.len c;omega).mono ?_;rintro e w6 ⟨rfl,o6,v6,b6⟩;have b9:=J<|d8.o.more b6.so b6.ow b6.on;have b8:D<|Ph P o6 v6 (λr=>QT P r/\(r.f<k\/(r.f=k/\∃i,i<j+1/\(CO P k).f[i]? =r.s)))<|k*4001+(j+1):=a1.o.q b6 ⟨a4,e4.o⟩ λq hq=>by rcases hq with⟨q1,q2|⟨q2,i,q3,q4⟩⟩;exact zo ⟨q1,zo q2⟩;by_cases e:i=j;subst e;rw[HG.o]at q4;refine zn ?_;have⟨qf,qs⟩:=q;simp only[Ai]at q2 q4;rw[q2,q4];exact zo ⟨q1,zn ⟨q2,i,by omega,q4⟩⟩
   clear b6;go_wp2_with fail;go_roundw;exact⟨j+1,o6,v6,k2,by go_num,b9,b8⟩;simp[intOf];omega
  .have e:j=(CO P k).f:=by omega
   subst e;have k3:zu ((L (CO P k).f:zw)<(L (CO P k).f:zw))=zr:=by simp
   have b9:=J<|B1.o.more a2.o.e.r a2.o.ow a2.o.on;have b8:D<|Ph P b f (λr=>QT P r/\r.f<k+1)<|(k+1)*4001:=⟨a1.o.raw,a1.o.ok,a1.o.w,λr hr=>by refine a1.o.d r ⟨hr.1,?_⟩;by_cases e:r.f=k;refine zn ⟨e,?_⟩;have:=hr.1.2;rw[e]at this;have⟨i,hi,e2⟩:=AC.1 this;exact⟨i,hi,by rw[Ag hi,e2]⟩;exact zo<|by have:=hr.2;omega,λc=>by have:=a1.o.len c;omega⟩
   clear a2 a1 S1 Q1;go_wp2_with fail;go_roundw;exact⟨k+1,b,f,k4,by go_num,b9,b8⟩;simp[intOf];omega
 .have e:k=P:=by omega
  subst e;have k5:zu ((L P:zw)<(L P:zw))=zr:=by simp
  have Q2:D<|rQ P U v1:=⟨y.o.ok,y.o.w,λr hr=>y.o.d r ⟨hr,hr.1⟩,λc=>by have:=y.o.len c;omega⟩;have B2:D<|Ks P d (Y V P K) F E C o U v1 w wr:=p.o;have⟨mf,g2⟩:=Uq;obtain⟨S,hJ⟩:∃S:M->I'->Prop,S=λn wz=>∃(b:So) (f:Sv),D (Ks P d (Y V P K) F E C o b f w wz)/\D (rQ P b f)/\D (f.left 16400 n):=⟨_,Q⟩
  have d9:D (∃n,S n wr):=⟨_,by rw[hJ];exact⟨U,v1,B2,Q2,Q⟩⟩;have HJ:=J hJ;have e3:=J g2;clear y p Q2 B2 hJ g2;go_wp2_with fail;go_loopw[] (λwz=>∃n,S n wz) (λwz=>mf λn=>S n wz);exact d9.o;clear d9;have⟨n0,g3⟩:=hrel;have g4:=(e3.o (λn=>S n wr) n0 g3).1;obtain⟨nn,d1⟩:∃nn,nn=mf (λn=>S n wr):=⟨_,Q⟩;have g5:S nn wr:=by rw[d1];exact g4
  rw[HJ.o]at g5;have⟨b,f,I,y,HL⟩:=g5;have i9:=J d1;clear g3 g4 d1 n0;have hR:=I.o.e.r;have p6:=hR.p.j6;have f6:=hR.p.wV 6;have b3:=Cz hR.p;have b0:=hR.mp 2 (by omega);have⟨ln,l7,k6,a9⟩:=b0.len underlying87 3;have m8:=b0.lt;by_cases hz:ln=0
  .subst hz;have HD:=J<|y.o.done hR<|a9.1 Q;clear hR b0 a9 HL;go_wp2_with fail;go_end0;exact⟨Q,b,f,I.o,HD.o⟩
  .have l6:0<ln:=by omega
   have hv:∃c t,c<16400/\t<16400/\f.N c t:=by
    apply BC;intro q;refine hz<|a9.2 λc=>?_;cases hq:b.bk 2 c with
    |none=>rfl
    |some x=> have⟨t,ht⟩:=hR.d2 c x hq;have hi:=Ft HA.o<|y.o.ok.le.i _ _<|y.o.ok.np c t ht;exact Bm ⟨c,t,hi.1.lt HA.o.xE HA.o.ok.y HA.o.lp,hi.2.lt HA.o,ht⟩ q
   have a5:=@run_makeMap zy;have HV:=J hv;clear hz a9 hv hR b0;go_upto_region 12 with fail;have h7:(wr.setCell (d,6) (.map wr):M)=wr:=by simp
   have f4:W d (qA (b.tk wr) (Y V P K) F E C) 139<|(wr.setCell (d,6)<|.map wr).alloc<|.map #[] 0:=(I.o.e.r.p.set 6<|.map wr).alloc _;have g0:En Mj Mi wr (λ_=>Z)<|(wr.setCell (d,6)<|.map wr).alloc<|.map #[] 0:=by have q:=En.made (R:=Mj) (dc:=Mi)<|wr.setCell (d,6)<|.map wr;rw[h7]at q;exact q
   have a6:O (λk=>k=d) wr<|(wr.setCell (d,6)<|.map wr).alloc<|.map #[] 0:=((CT _ wr).wS 6 _).alloc _;have l1:((wr.setCell (d,6)<|.map wr).alloc (.map #[] 0):M)=wr+1:=by simp
   have⟨f0,g9⟩:=I.o.e.took (Ad _) g0 f4 a6;have g8:=I.o.e.r.outk<|Ad wr;clear f4 g0 h7;generalize (wr.setCell (d,6)<|.map (wr:M)).alloc (.map #[] 0)=X at*;have k9:b.om 2≠d:=by have⟨_,_,e⟩:=(I.o.e.r.mp 2<|by omega).xJ;exact(I.o.e.r.yC e).1
   have e1:=J<|(I.o.e.r.mp 2<|by omega).j a6 k9;have h5:∀c x,b.bk 2 c=T x->DV x (f.N c) X/\x<(wr:M):=λc x hx=>by have q:=I.o.e.r.st 2 c x hx;have⟨_,_,e⟩:=q.xJ;exact⟨(q.j a6 (I.o.e.r.yC e).1).iff λt=>Qy,q.lt⟩
   obtain⟨j6,a8,e6,e5,j0⟩:=Ix h5 f0 g9 g8 a6;have m9:b.om 2<(X:M):=by omega
   clear h5 f0 g9 g8 a6 p6 f6 k6 a5;go_wp2_with(at_range;refine GU _ Q _ 87 Q 89 underlying87 (b.om 2) Q e1.o ?_;intro w3 a3 d2 h2);try go_frame
   obtain⟨H,h1⟩:∃H,H=(X:M):=⟨_,Q⟩;rw[<-h1]at a3 h2|-;have R0:=J a3;have g6:¬(b.tk wr).own d H:=λq=>by have:=a8.o.r.ownLt q;omega
   have S0:D<|Hl P d (Y V P K) F E C (b.tk wr) (b.tk wr) f.took X w3:=⟨(a8.o.t8 d2).r,λ_ q=>zo q,Q,d2.mono λ_ _ q=>q.elim⟩;have K0:D<|f.took.up f.took/\Eu P (λa t=>(∃x,b.bk 2 a=T x)/\f.N a t) f.took:=⟨.rf _,y.o.ok.took.kept λc t q=>⟨I.o.e.r.ins 2 c t (by omega)<|Qy.2 q,q⟩⟩;have e7:=J g6;have l9:X<=H:=by omega
   have m0:H<=X:=by omega
   have m4:(wr:M)<X:=by omega
   have m5:(X:M)<=wr+1:=by omega
   clear a3 d2 g6 e1 h1 l1 h2;generalize i0:wr=wz at*;have j8:=J i0;clear i0;go_loopw[] (λwi=>∃(b4:Ce) (o3:So) (N:Sv),D (Je Mj Mi (b.om 2) H (b.bk 2) b4 wi)/\D (Hl P d (Y V P K) F E C (b.tk wz) o3 N X wi)/\D (f.took.up N/\Eu P (λa t=>b4 a/\f.N a t) N)/\D (¬o3.own d H)) (λwi=>wi.rangeLeft (b.om 2) H);exact⟨_,_,_,R0,S0,K0,e7⟩;clear R0 S0 K0 e7;have⟨b4,o3,N,HR,p,HK,b7⟩:=hrel;go_wp2_with(at_next;refine Hy _ Q _ Q Ha (b.om 2) H Q HR.o ?_ ?_);rotate_left
   .intro k x w4 hk m2 c8 a3 k7 b1 m3 j9;unfold Ly at j9;have⟨_,_,_,_,f8⟩:=HR.o.iter;have l2:0≠H:=by have:=a8.o.tl;omega
    have f1:=a8.o.q p.o;have f2:=f1.j b1 (λz q=>by rw[q];exact b7.o) (λz cs t fz q r=>by rw[q,f8]at r;cases r) λq=>l2 q;have⟨h3,m6⟩:=j6.o k x c8;have d6:=e5.o.1 k x c8;have i1:¬o3.own d x:=λq=>(p.o.ow _ q).elim d6 λq=>by omega
    have h4:=(h3.j p.o.on d6).j b1 (λq=>by omega);have⟨t0,h8⟩:=I.o.e.r.d2 k x c8;have f7:=(Ft HA.o<|y.o.ok.le.i _ _<|y.o.ok.np k t0 h8).1;have a7:o3.rl=b.rl:=BG Prod.fst p.o.rl;have m1:H<w4:=a3.ltr;have d0:∀t,f.N k t->N.s.I k t:=λt ht=>HK.o.1.le.s.i _ _<|y.o.ok.np k t ht
    have h9:∀r,N.W k r->QT P r/\DE r/\r.at=k:=λr hr=>y.o.w k r (by have:=HK.o.1.le.w;rw[this]at hr;exact hr)
    obtain⟨d7,j3,j1,i7⟩:=F8 (Yu P d (Y V P K) F E C o3 N w4 HA.o f2 k x (f.N k) h4 i1 HK.o.2.le d0 h9 (by rw[a7];exact y.o.len k) f7) a3 b1 d0;have l0:¬o3.own d (b.om 2):=λq=>(p.o.ow _ q).elim e5.o.2 λq=>by omega
    clear f1 f2 h3 d6 i1 h4 h8 f7 a7 h9 a3 b1 d0 f8;go_wp2_with fail;refine d7.o.mono ?_;rintro e w5 ⟨rfl,o5,v5,s5,u5,i5,q5⟩;have d4:=j3.o.j s5.on l0 b7.o;have j2:=J d4.1;have k8:w5.rangeLeft (b.om 2) H<wr.rangeLeft (b.om 2) H:=by rw[d4.2];exact k7
    have j4:D<|Hl P d (Y V P K) F E C (b.tk wz) o5 v5 X w5:=⟨s5.r,λj hj=>(s5.ow j hj).elim (p.o.ow j) λq=>zn<|by have:=p.o.on.size;omega,s5.rl.trans p.o.rl,(p.o.on.thn j1.o λj hj q=>by omega).thn s5.on λj hj q=>(p.o.ow j q).elim id λq=>by omega⟩;have i4:D<|f.took.up v5/\Eu P (λa t=>(b4 a/\a≠k)/\f.N a t) v5:=by refine⟨HK.o.1.tr u5,Eu.passed (c:=k) (m:=f.N k) (v:=N) ((i5 _ HK.o.2).kept λa t q=>?_) u5 i7.o q5.1 q5.2⟩;by_cases e:a=k;subst e;exact zn ⟨Q,q.2⟩;exact zo ⟨⟨q.1,e⟩,q.2⟩
    have i8:D<|¬o5.own d H:=λq=>(s5.ow _ q).elim b7.o λq=>by omega
    clear s5 u5 i5 q5 d4 d7;go_wp2_with fail;go_roundw;exact⟨_,_,_,j2,j4,i4,i8⟩;exact k8
   .intro hd;have g7:Eu P (λ_ _=>zv) N:=HK.o.2.kept λa t q=>hd a q.1
    have a7:o3.rl=b.rl:=BG Prod.fst p.o.rl;obtain⟨mm,a5⟩:∃mm,N.left 16400 mm:=⟨_,Q⟩;have f9:mm<nn:=Sv.left_lt (B:=16400) (v:=f) (u:=N) (x:=f.took) ⟨Q,λ_ _ q=>q⟩ HK.o.1 HV.o (λc t q=>y.o.ok.np c t q) HL.o a5;have e9:Ks P d (Y V P K) F E C o o3 N w wr:=I.o.more p.o.r (λj hj=>(p.o.ow j hj).elim (λq=>(e6.o j q).imp id λq=>by omega) λq=>zn<|by omega)<|((j0.o.mono λj _ q=>by rw[q];exact zo Q).thn p.o.on λj hj q=>(e6.o j q).elim id λq=>by omega);have e0:D<|S mm wr:=by rw[HJ.o];exact⟨o3,N,e9,y.o.later HK.o.1 g7 a7,a5⟩
    have i6:D<|mf (λn=>S n wr)<mf (λn=>S n wz):=by have:=(e3.o (λn=>S n wr) mm e0.o).2;rw[<-i9.o];exact BM this f9
    clear g7 a7 a5 f9 e9;go_wp2_with fail;go_roundw;exact⟨mm,e0.o⟩
    case measure=>rw[j8.o];exact i6.o
section
variable{α:Type}{R:H'->Option (Cm×List MemPlace)}{mk:α->H'}{c:α->Cm}{ok:α->Prop}{b:M}{g:M->Option α}{w f:I'}
theorem En.block(h:En R c b g w)(e:f.heap[b]? =w.heap[b]?):En R c b g f:=
 have⟨a,⟨i,d,k,r⟩,j⟩:=h
 ⟨a,⟨i,d,by grind,r⟩,j⟩
theorem En.entry{t e:TypeId}(h:En R c b g w)(E:XB R mk c ok)(r:Tryz.prog.underlying t=T (.map 3 e)){z:H'}(I:∀u:I',(zeroValue e).run zy u=.ok z u){k:M}(B:k<20000)(K:g k=Z):
 ∃(l:Array MapEntry) (i:M),w.heap[b]? =T (.map l i)/\
  (∀d:I',d.heap[b]? =T (.map l i)->(Instr.mapEntry t (.map<|T b) k).run zy d=.ok (P' #[z,goInt i]) (ChangeMaps.setBlock d b<|.map (l.push ⟨G A k,z,i⟩)<|i+1))/\
  (∀(d:I') (n:H'),d.heap[b]? =T (.map (l.push ⟨G A k,z,i⟩)<|i+1)->(Instr.entryStore t (.map<|T b) (goInt i) n).run zy d=.ok () (ChangeMaps.setBlock d b<|.map (l.push ⟨G A k,n,i⟩)<|i+1))/\
  ∀(a:α),ok a->∀d:I',d.heap[b]? =T (.map (l.push ⟨G A k,mk a,i⟩)<|i+1)->En R c b (λx=>if x=k then T a else g x) d:=by
 have P:=(h.look E r (I w) B zt).1 K;have U:=λ(a:α) (y:ok a)=>h.put E r B y
 obtain⟨X,⟨l,i,s,F,hs,rfl⟩,v⟩:=h;have p:=ZO B;have⟨s1,s2,_⟩:=F.stamped;have H:∀d:I',(Instr.findKey 3 k l.toList).run zy d=.ok Z d:=λd=>by
  rcases Fz.find d p l.toList F.keys with⟨o,_⟩|⟨j,e0,o,C,v⟩
  exact o;exfalso;rcases Fz.find w p l.toList F.keys with⟨_,q⟩|⟨j',e',V,q2,q3⟩
  grind;simp[Instr.lookup,run_underlying r,MapKept.run_getObj_map s,Fz.check w _ p,V,Result.andThen]at P
 refine⟨l,i,s,λd m=>?_,λd n m=>?_,λa y d m=>?_⟩;simp[Instr.mapEntry,run_underlying r,MapKept.run_getObj_map m,Fz.check d zr p,H d,I,MapKept.run_setObj_map _ m,Result.andThen,ChangeMaps.setBlock];have N:(l.push ⟨G A k,z,i⟩).findIdx? (λe=>((e.born:M):zw)==((i:M):zw))=l:=by grind
 have S:(l.push ⟨G A k,z,i⟩).modify l (λe=>{e with val:=n})=l.push ⟨G A k,n,i⟩:=by grind
 simp[Instr.entryStore,MapKept.run_getObj_map m,asInt,asIntOf,goInt,N,S,MapKept.run_setObj_map _ m,Result.andThen,ChangeMaps.setBlock];have⟨f,o,C,_⟩:=U a y;have v:(Instr.mapUpdate t (.map b) k<|mk a).run zy w=.ok () (ChangeMaps.setBlock w b<|.map (l.push ⟨G A k,mk a,i⟩)<|i+1):=by simp[Instr.mapUpdate,run_underlying r,MapKept.run_getObj_map s,Fz.check w zr p,H w,MapKept.run_setObj_map _ s,Result.andThen,ChangeMaps.setBlock]
 rw[v]at o;cases o;apply C.block;grind[ChangeMaps.heap_setBlock_same]
end
structure Hj(g:M)(s:H')(u B n:M)(o:So)(l m:M->Ce)(w:I'):Prop where
 p:W g (qA o s u B n) 139 w
 mp:∀t,t<=4->En Mj Mi (o.om t) (o.bk t) w
 st:∀t i k,o.bk t i=T k->DV k (λx=>t=4/\m i x) w
 dj:∀t i t' i' k,o.bk t i=T k->o.bk t' i'=T k->t=t'/\i=i'
 oj:∀t t',t<=5->t'<=5->o.om t=o.om t'->t=t'
 ne:∀t i k t',o.bk t i=T k->t'<=5->k≠o.om t'
 t4:∀t i k,o.bk t i=T k->t<=4
 d:∀t i,(∃k,o.bk t i=T k)↔l t i
 fm:En eF eE (o.om 5) o.fw w
 f0:∀c,o.fw c=Z
 r0:∀c,o.rl c=[]
section
variable{P:CQ}{g:M}{s:H'}{u B n:M}{o C:So}{l Dm' m E:M->Ce}{w w':I'}
theorem Hj.e(h:Hj g s u B n o l m w){k}(a:o.own g k):(∃e c,w.heap[k]? =T (.map e c))\/∃d,w.heap[k]? =T (R' d 139 (0,0)):=by
 rcases a with rfl|⟨t,j,rfl⟩|⟨t,i,a⟩|⟨c,t,b,rfl⟩
 exact zn ⟨_,h.p⟩;by_cases f:t=5;subst f;exact zo h.fm.xJ;exact zo (h.mp t<|by omega).xJ;exact zo (h.st t i k a).xJ;rw[h.f0]at b;cases b
theorem Hj.ownLt(h:Hj g s u B n o l m w){k}(a:o.own g k):k<w:=by rcases h.e a with⟨_,_,e⟩|⟨_,e⟩<;>exact lt_of_block e
theorem Hj.j{X:Ce}(h:Hj g s u B n o l m w)(a:O X w w')(b:∀k,X k->¬o.own g k):Hj g s u B n o l m w':=
 {h with
  p:=h.p.j a λq=>b _ q<|zo Q
  mp:=λt d=>(h.mp t d).j a λq=>b _ q<|zn<|zo ⟨t,by omega,Q⟩
  st:=λt i k c=>(h.st t i k c).j a λq=>b _ q<|zn<|zn<|zo ⟨t,i,c⟩
  fm:=h.fm.j a λq=>b _ q<|zn<|zo ⟨5,by omega,Q⟩}
def So.gr(o:So)(a:M->M->Option M):So:={o with bk:=λt i=>match a t i with|some f=>T f|none=>o.bk t i}
theorem So.gr_bk{o:So}{a:M->M->Option M}{t i k}(h:(o.gr a).bk t i=T k):a t i=T k\/(a t i=Z/\o.bk t i=T k):=by grind[So.gr]
theorem Hj.grow(h:Hj g s u B n o l m w){nb:M->M->Option M}(y:∀t i f,nb t i=T f->t<=4/\(w:M)<=f/\DV f (λ_=>zv) w'/\(t=4->∀x,¬m i x))(K:∀t i b p f,nb t i=T f->nb b p=T f->t=b/\i=p)
 (N:∀t,t<=4->En Mj Mi (o.om t) ((o.gr nb).bk t) w')(v:O (λk=>∃t,t<=4/\k=o.om t) w w')(P:∀t i,Dm' t i↔l t i\/∃f,nb t i=T f):
 Hj g s u B n (o.gr nb) Dm' m w'/\(∀k,(o.gr nb).own g k->o.own g k\/(w:M)<=k)/\O (o.own g) w w':=by
 have V:∀t,t<=5->o.om t<(w:M):=λt c=>h.ownLt<|zn<|zo ⟨t,c,Q⟩
 have U:∀t,t<=4->g≠o.om t:=λt c q=>by have⟨_,_,e⟩:=(h.mp t c).xJ;have z:=h.p;unfold W at z;rw[q,e]at z;cases z
 have I:∀t i k,o.bk t i=T k->k<(w:M):=λt i k a=>h.ownLt<|zn<|zn<|zo ⟨t,i,a⟩
 refine⟨{h with p:=h.p.j v fun⟨t,c,q⟩=>U t c q,mp:=N,st:=λt i k a=>?_,dj:=λt i b p k a H=>?_,ne:=λt i k b a F=>?_,t4:=λt i k a=>?_,d:=λt i=>?_,fm:=h.fm.j v fun⟨t,c,q⟩=>Bm (h.oj 5 t (by omega) (by omega) q)<|by omega},λk a=>?_,v.mono λk _ ⟨t,c,q⟩=>zn<|zo ⟨t,by omega,q⟩⟩;rcases So.gr_bk a with q|⟨_,q⟩
 have⟨_,_,S,R⟩:=y t i k q;exact S.iff λx=>⟨False.elim,fun⟨e,r⟩=>R e x r⟩
 exact(h.st t i k q).j v fun⟨b,F,e⟩=>h.ne t i k b q (by omega) e
 rcases So.gr_bk a with q|⟨_,q⟩
 rcases So.gr_bk H with j|⟨_,j⟩
 exact K t i b p k q j;have:=(y t i k q).2.1;have:=I _ _ _ j;omega;rcases So.gr_bk H with j|⟨_,j⟩
 grind;exact h.dj t i b p k q j;rcases So.gr_bk a with q|⟨_,q⟩
 have:=(y t i k q).2.1;have:=V b F;intro e;have e:k=o.om b:=e;omega;exact h.ne t i k b q F;rcases So.gr_bk a with q|⟨_,q⟩
 grind;exact h.t4 t i k q;rw[P,<-h.d t i];constructor;grind[So.gr_bk];rintro(⟨k,a⟩|⟨k,a⟩);unfold So.gr;grind;exact⟨k,by grind[So.gr]⟩;rcases a with q|q|⟨t,i,q⟩|q
 exact zo<|zo q;exact zo<|zn<|zo q;rcases So.gr_bk q with q|⟨_,q⟩
 grind;exact zo<|zn<|zn<|zo ⟨t,i,q⟩;exact zo<|zn<|zn<|zn q
end
def uB(g:M)(s:H')(u B n:M)(o:So)(l m:M->Ce)(w w':I'):Prop:=∃C,Hj g s u B n C l m w'/\(∀k,C.own g k->o.own g k\/(w:M)<=k)/\O (o.own g) w w'
theorem En.new{e:Type}{R:H'->Option (Cm×List MemPlace)}{a:e->Cm}{w:I'}{f:M}(h:w.heap[f]? =T (.map #[] 0)):En R a f (λ_=>Z) w:=by have⟨c,⟨j,i,b,r⟩,d⟩:=En.made (R:=R) (dc:=a) w;rw[BB]at b;cases b;exact⟨c,⟨#[],0,h,r⟩,d⟩
theorem UD{w:I'}{f:M}(h:w.heap[f]? =T (.map #[] 0)):DV f (λ_=>zv) w:=⟨_,En.new h,Wd.nil⟩
section
theorem NI(a b x):(setBlock a b x:M)=a:=by simp[setBlock]
theorem Ip(a b k x)(h:k≠b):(setBlock a b x).heap[k]? =a.heap[k]? :=by grind[setBlock]
theorem aD(a:I')(b:M)(x:Obj)(h:b<a):(setBlock a b x).heap[b]? =x:=by grind[setBlock]
theorem O.setB{X:Ce}{a c:I'}{b:M}{x:Obj}(h:O X a c)(d:X b):O X a<|setBlock c b x:=by refine h.thn (Y:=λk=>k=b) ⟨Q,Q,Q,?_,λk e q=>?_⟩ λj _ q=>q▸d;rw[NI];exact Ad _;exact Ip _ _ _ _ q
end
theorem OU(g s u B n o l m w c)(h:Hj g s u B n o l m w)(hc:c<20000)(h0:¬l 0 c)(h3:¬l 3 c):
 F' zy 94 #[Z' g,c] w λe w'=>e=P' #[]/\uB g s u B n o (λt i=>l t i\/((t=0\/t=3)/\i=c)) m w w':=by
 have n0:o.bk 0 c=Z:=by
  cases I:o.bk 0 c with
  |none=>rfl
  |some k=>exact Bm ((h.d 0 c).1 ⟨k,I⟩) h0
 have n3:o.bk 3 c=Z:=by
  cases I:o.bk 3 c with
  |none=>rfl
  |some k=>exact Bm ((h.d 3 c).1 ⟨k,I⟩) h3
 obtain⟨b0,R,d7,c0,c6,d3⟩:=(h.mp 0<|by omega).entry Ha underlying87 Ez hc n0;obtain⟨b1,S,d8,c5,c7,d5⟩:=(h.mp 3<|by omega).entry Ha underlying87 Ez hc n3;have c8:o.om 0≠o.om 3:=λq=>Bm (h.oj 0 3 (by omega) (by omega) q)<|by omega
 have d0:=Ne.symm c8;have l0:=(h.mp 0<|by omega).lt;have l3:=(h.mp 3<|by omega).lt;have s0:g≠o.om 0:=λq=>(h.mp 0<|by omega).ne h.p q.symm
 have s3:g≠o.om 3:=λq=>(h.mp 3<|by omega).ne h.p q.symm
 have p4:=h.p.j4;have p7:=h.p.j7;have e6:=Cz h.p;unfold goInt at c0 c6 c5 c7;obtain⟨F1,a2⟩:∃F:I'->I',F=λa=>ChangeMaps.setBlock a (o.om 0)<|.map (b0.push ⟨G A c,.map Z,R⟩)<|R+1:=⟨_,Q⟩
 obtain⟨F2,a3⟩:∃F:M->I'->I',F=λx a=>ChangeMaps.setBlock a (o.om 0)<|.map (b0.push ⟨G A c,.map<|T x,R⟩)<|R+1:=⟨_,Q⟩
 obtain⟨F3,a4⟩:∃F:I'->I',F=λa=>ChangeMaps.setBlock a (o.om 3)<|.map (b1.push ⟨G A c,.map Z,S⟩)<|S+1:=⟨_,Q⟩
 obtain⟨F4,a5⟩:∃F:M->I'->I',F=λx a=>ChangeMaps.setBlock a (o.om 3)<|.map (b1.push ⟨G A c,.map<|T x,S⟩)<|S+1:=⟨_,Q⟩
 obtain⟨A0,b2⟩:∃a8:I'->Prop,a8=λ(a:I')=>a.heap[o.om 0]? =T (.map b0 R)/\(w:M)<=(a:M):=⟨_,Q⟩
 obtain⟨V,a7⟩:∃a8:I'->Prop,a8=λ(a:I')=>a.heap[o.om 3]? =T (.map b1 S)/\(w:M)<=(a:M):=⟨_,Q⟩
 obtain⟨B0,b4⟩:∃a8:I'->Prop,a8=λ(a:I')=>a.heap[o.om 0]? =T (.map (b0.push ⟨G A c,.map Z,R⟩)<|R+1)/\(w:M)<=(a:M):=⟨_,Q⟩
 obtain⟨B3,b5⟩:∃a8:I'->Prop,a8=λ(a:I')=>a.heap[o.om 3]? =T (.map (b1.push ⟨G A c,.map Z,S⟩)<|S+1)/\(w:M)<=(a:M):=⟨_,Q⟩
 have e1:∀a,A0 a->(Instr.mapEntry 87 (.map<|T<|o.om 0)<|G A c).run zy a=.ok (P' #[.map Z,G A R]) (F1 a):=λa b=>by rw[a2];rw[b2]at b;exact c0 a b.1
 have U:∀a x,B0 a->(Instr.entryStore 87 (.map<|T<|o.om 0) (G A R)<|.map<|T x).run zy a=.ok () (F2 x a):=λa x b=>by rw[a3];rw[b4]at b;exact c6 a _ b.1
 have N:∀a,V a->(Instr.mapEntry 87 (.map<|T<|o.om 3)<|G A c).run zy a=.ok (P' #[.map Z,G A S]) (F3 a):=λa b=>by rw[a4];rw[a7]at b;exact c5 a b.1
 have e4:∀a x,B3 a->(Instr.entryStore 87 (.map<|T<|o.om 3) (G A S)<|.map<|T x).run zy a=.ok () (F4 x a):=λa x b=>by rw[a5];rw[b5]at b;exact c7 a _ b.1
 have al:∀(a:I') (x:Obj) (k:M),k<(w:M)->(w:M)<=(a:M)->(a.alloc x).heap[k]? =a.heap[k]? :=λa x k K P=>Ao _ _ _<|by omega
 have z1:∀a,(F1 a:M)=(a:M):=λa=>by rw[a2];exact NI _ _ _
 have z2:∀x a,(F2 x a:M)=(a:M):=λx a=>by rw[a3];exact NI _ _ _
 have z3:∀a,(F3 a:M)=(a:M):=λa=>by rw[a4];exact NI _ _ _
 have z4:∀x a,(F4 x a:M)=(a:M):=λx a=>by rw[a5];exact NI _ _ _
 have a0:A0 w:=by rw[b2];exact⟨d7,Ad _⟩
 have a1:∀a,A0 a->A0 a.drew:=λa b=>by rw[b2]at b|-;exact b
 have a6:∀a x,A0 a->A0 (a.alloc x):=λa x b=>by rw[b2]at b|-;exact⟨(al a x _ l0 b.2).trans b.1,by simp;omega⟩
 have a9:∀a,A0 a->B0 (F1 a):=λa b=>by rw[b2]at b;rw[b4];refine⟨?_,by rw[z1];exact b.2⟩;rw[a2];exact aD _ _ _<|by omega
 have b3:∀a x,B0 a->B0 (a.alloc x):=λa x b=>by rw[b4]at b|-;exact⟨(al a x _ l0 b.2).trans b.1,by simp;omega⟩
 have r:V w:=by rw[a7];exact⟨d8,Ad _⟩
 have p:∀a,V a->V a.drew:=λa b=>by rw[a7]at b|-;exact b
 have d1:∀a,B0 a->B0 a.drew:=λa b=>by rw[b4]at b|-;exact b
 have d2:∀a,B3 a->B3 a.drew:=λa b=>by rw[b5]at b|-;exact b
 have d:∀a x,V a->V (a.alloc x):=λa x b=>by rw[a7]at b|-;exact⟨(al a x _ l3 b.2).trans b.1,by simp;omega⟩
 have z:∀a,V a->V (F1 a):=λa b=>by rw[a7]at b|-;refine⟨?_,by rw[z1];exact b.2⟩;rw[a2];exact(Ip _ _ _ _ d0).trans b.1
 have H:∀x a,V a->V (F2 x a):=λx a b=>by rw[a7]at b|-;refine⟨?_,by rw[z2];exact b.2⟩;rw[a3];exact(Ip _ _ _ _ d0).trans b.1
 have X:∀a,V a->B3 (F3 a):=λa b=>by rw[a7]at b;rw[b5];refine⟨?_,by rw[z3];exact b.2⟩;rw[a4];exact aD _ _ _<|by omega
 have b9:∀a x,B3 a->B3 (a.alloc x):=λa x b=>by rw[b5]at b|-;exact⟨(al a x _ l3 b.2).trans b.1,by simp;omega⟩
 have c1:∀a j,K' (F1 a) ⟨g,j,Z⟩=K' a ⟨g,j,Z⟩:=λa j=>by rw[a2];exact Ae<|Ip _ _ _ _ s0
 have c2:∀x a j,K' (F2 x a) ⟨g,j,Z⟩=K' a ⟨g,j,Z⟩:=λx a j=>by rw[a3];exact Ae<|Ip _ _ _ _ s0
 have c3:∀a j,K' (F3 a) ⟨g,j,Z⟩=K' a ⟨g,j,Z⟩:=λa j=>by rw[a4];exact Ae<|Ip _ _ _ _ s3
 have c4:∀x a j,K' (F4 x a) ⟨g,j,Z⟩=K' a ⟨g,j,Z⟩:=λx a j=>by rw[a5];exact Ae<|Ip _ _ _ _ s3
 have y1:=e1 _<|a1 _ a0;have y2:=e1 _<|a1 _<|a6 _ (.map #[] 0) a0;have y3:=e1 _<|a1 _<|a6 _ (.map #[] 0)<|a6 _ (.map #[] 0) a0;have y4:=λx=>U _ x<|b3 _ (.map #[] 0)<|a9 _<|a1 _ a0
 have y5:=λx=>N _<|H x _<|d _ (.map #[] 0)<|z _<|p _ r
 have y6:=λx y=>e4 _ y<|X _<|H x _<|d _ (.map #[] 0)<|z _<|p _ r
 have y7:=λx=>N _<|d _ (.map #[] 0)<|H x _<|d _ (.map #[] 0)<|z _<|p _ r
 have y8:=λx y=>e4 _ y<|X _<|d _ (.map #[] 0)<|H x _<|d _ (.map #[] 0)<|z _<|p _ r
 have y9:=λx y=>e4 _ y<|b9 _ (.map #[] 0)<|X _<|H x _<|d _ (.map #[] 0)<|z _<|p _ r
 have e7:=λx=>U _ x<|b3 _ (.map #[] 0)<|b3 _ (.map #[] 0)<|a9 _<|a1 _ a0
 have e8:=λx=>N _<|H x _<|d _ (.map #[] 0)<|d _ (.map #[] 0)<|z _<|p _ r
 have e9:=λx y=>e4 _ y<|X _<|H x _<|d _ (.map #[] 0)<|d _ (.map #[] 0)<|z _<|p _ r
 have f0:=λx=>U _ x<|a9 _<|a1 _<|a6 _ (.map #[] 0) a0
 have f3:=λx=>N _<|H x _<|z _<|p _<|d _ (.map #[] 0) r
 have f4:=λx y=>e4 _ y<|X _<|H x _<|z _<|p _<|d _ (.map #[] 0) r
 have f5:=λx=>N _<|d _ (.map #[] 0)<|H x _<|z _<|p _<|d _ (.map #[] 0) r
 have f6:=λx y=>e4 _ y<|X _<|d _ (.map #[] 0)<|H x _<|z _<|p _<|d _ (.map #[] 0) r
 have f7:=λx y=>e4 _ y<|b9 _ (.map #[] 0)<|X _<|H x _<|z _<|p _<|d _ (.map #[] 0) r
 have f8:=λx=>U _ x<|b3 _ (.map #[] 0)<|a9 _<|a1 _<|a6 _ (.map #[] 0) a0
 have f9:=λx=>N _<|H x _<|d _ (.map #[] 0)<|z _<|p _<|d _ (.map #[] 0) r
 have g0:=λx y=>e4 _ y<|X _<|H x _<|d _ (.map #[] 0)<|z _<|p _<|d _ (.map #[] 0) r
 have g9:=λx=>U _ x<|a9 _<|a1 _<|a6 _ (.map #[] 0)<|a6 _ (.map #[] 0) a0
 have h4:=λx=>N _<|H x _<|z _<|p _<|d _ (.map #[] 0)<|d _ (.map #[] 0) r
 have h5:=λx y=>e4 _ y<|X _<|H x _<|z _<|p _<|d _ (.map #[] 0)<|d _ (.map #[] 0) r
 have o1:∀(a:I'),O (λk=>k=o.om 0\/k=o.om 3) w a->O (λk=>k=o.om 0\/k=o.om 3) w (F1 a):=λa b=>by rw[a2];exact b.setB<|zo Q
 have m1:∀(a:I') (f:M),(w:M)<=f->a.heap[f]? =T (.map #[] 0)->(F1 a).heap[f]? =T (.map #[] 0):=λa f K P=>by rw[a2];exact(Ip _ _ _ _<|by omega).trans P
 have o2:∀(x:M) (a:I'),O (λk=>k=o.om 0\/k=o.om 3) w a->O (λk=>k=o.om 0\/k=o.om 3) w (F2 x a):=λx a b=>by rw[a3];exact b.setB<|zo Q
 have m2:∀(x:M) (a:I') (f:M),(w:M)<=f->a.heap[f]? =T (.map #[] 0)->(F2 x a).heap[f]? =T (.map #[] 0):=λx a f K P=>by rw[a3];exact(Ip _ _ _ _<|by omega).trans P
 have o3:∀(a:I'),O (λk=>k=o.om 0\/k=o.om 3) w a->O (λk=>k=o.om 0\/k=o.om 3) w (F3 a):=λa b=>by rw[a4];exact b.setB<|zn Q
 have m3:∀(a:I') (f:M),(w:M)<=f->a.heap[f]? =T (.map #[] 0)->(F3 a).heap[f]? =T (.map #[] 0):=λa f K P=>by rw[a4];exact(Ip _ _ _ _<|by omega).trans P
 have q3:∀(a:I') v,a.heap[o.om 0]? =v->(F3 a).heap[o.om 0]? =v:=λa v P=>by rw[a4];exact(Ip _ _ _ _ c8).trans P
 have o4:∀(x:M) (a:I'),O (λk=>k=o.om 0\/k=o.om 3) w a->O (λk=>k=o.om 0\/k=o.om 3) w (F4 x a):=λx a b=>by rw[a5];exact b.setB<|zn Q
 have m4:∀(x:M) (a:I') (f:M),(w:M)<=f->a.heap[f]? =T (.map #[] 0)->(F4 x a).heap[f]? =T (.map #[] 0):=λx a f K P=>by rw[a5];exact(Ip _ _ _ _<|by omega).trans P
 have q4:∀(x:M) (a:I') v,a.heap[o.om 0]? =v->(F4 x a).heap[o.om 0]? =v:=λx a v P=>by rw[a5];exact(Ip _ _ _ _ c8).trans P
 have q2:∀f (a:I'),(w:M)<=(a:M)->(F2 f a).heap[o.om 0]? =T (.map (b0.push ⟨G A c,.map<|T f,R⟩)<|R+1):=λf a K=>by rw[a3];exact aD _ _ _<|by omega
 have r4:∀f (a:I'),(w:M)<=(a:M)->(F4 f a).heap[o.om 3]? =T (.map (b1.push ⟨G A c,.map<|T f,S⟩)<|S+1):=λf a K=>by rw[a5];exact aD _ _ _<|by omega
 have qa:∀(a:I') v,(w:M)<=(a:M)->a.heap[o.om 0]? =v->(a.alloc<|.map #[] 0).heap[o.om 0]? =v:=λa v K P=>(al a _ _ l0 K).trans P
 have b8:∀(a:I') (f:M),f=(a:M)->(a.alloc<|.map #[] 0).heap[f]? =T (.map #[] 0):=λa f K=>by rw[K];exact BB a _
 have ma:∀(a:I') (f:M),a.heap[f]? =T (.map #[] 0)->(a.alloc<|.map #[] 0).heap[f]? =T (.map #[] 0):=λa f K=>(Ao _ _ _<|lt_of_block K).trans K
 have md:∀(a:I') (f:M),a.heap[f]? =T (.map #[] 0)->a.drew.heap[f]? =T (.map #[] 0):=λa f K=>K
 have c9:∀(a:I') (f1 f2:M),O (λk=>k=o.om 0\/k=o.om 3) w a->a.heap[f1]? =T (.map #[] 0)->a.heap[f2]? =T (.map #[] 0)->f1≠f2->(w:M)<=f1->(w:M)<=f2->a.heap[o.om 0]? =T (.map (b0.push ⟨G A c,.map<|T f1,R⟩)<|R+1)->a.heap[o.om 3]? =T (.map (b1.push ⟨G A c,.map<|T f2,S⟩)<|S+1)->uB g s u B n o (λt i=>l t i\/((t=0\/t=3)/\i=c)) m w a:=λa f1 f2 g1 g2 g3 g4 g5 g6 g7 g8=>by
  obtain⟨nb,b6⟩:∃nb:M->M->Option M,nb=λt i=>if i=c then(if t=0 then T f1 else if t=3 then T f2 else Z)else Z:=⟨_,Q⟩
  have b7:∀t i f,nb t i=T f->(t=0/\i=c/\f=f1)\/(t=3/\i=c/\f=f2):=λt i f I=>by
   rw[b6]at I;dsimp only at I;split at I
   .next e=>
    split at I
    .next U=>cases I;exact zo ⟨U,e,Q⟩
    .split at I
     .next N=>cases I;exact zn ⟨N,e,Q⟩
     .cases I
   .cases I
  have d4:=d3 f1 trivial a g7;have d6:=d5 f2 trivial a g8;refine⟨o.gr nb,h.grow (λt i f I=>?_) (λt i t' i' f I d9=>?_) (λt ht=>?_) (g1.mono λk _ q=>q.elim (λq=>⟨0,by omega,q⟩) λq=>⟨3,by omega,q⟩) λt i=>?_⟩
  .rcases b7 t i f I with⟨rfl,rfl,rfl⟩|⟨rfl,rfl,rfl⟩
   .exact⟨by omega,g5,UD g2,λq=>by omega⟩
   .exact⟨by omega,g6,UD g3,λq=>by omega⟩
  .rcases b7 t i f I with⟨rfl,rfl,e⟩|⟨rfl,rfl,e⟩<;>rcases b7 t' i' f d9 with⟨rfl,rfl,e'⟩|⟨rfl,rfl,e'⟩
   .exact⟨Q,Q⟩
   .exact Bm (e.symm.trans e') g4
   .exact Bm (e'.symm.trans e) g4
   .exact⟨Q,Q⟩
  .by_cases e0:t=0
   .subst e0;refine d4.ext λx=>?_
    unfold So.gr;dsimp only;rw[b6];dsimp only;by_cases e:x=c
    .rw[Bb e,Bb e,Bb Q]
    .rw[Ba e,Ba e]
   .by_cases N:t=3
    .subst N;refine d6.ext λx=>?_
     unfold So.gr;dsimp only;rw[b6];dsimp only;by_cases e:x=c
     .rw[Bb e,Bb e,Ba<|by omega,Bb Q]
     .rw[Ba e,Ba e]
    .have:(o.gr nb).bk t=o.bk t:=funext λx=>by
      unfold So.gr;dsimp only;rw[b6];dsimp only;by_cases e:x=c
      .rw[Bb e,Ba e0,Ba N]
      .rw[Ba e]
     rw[this]
     exact(h.mp t ht).j g1 λq=>q.elim (λq=>e0<|h.oj t 0 (by omega) (by omega) q) λq=>N<|h.oj t 3 (by omega) (by omega) q
  .constructor
   .rintro(q|⟨q1,q2⟩)
    .exact zo q
    .rw[b6];rcases q1 with rfl|rfl
     .exact zn ⟨f1,by simp[q2]⟩
     .exact zn ⟨f2,by simp[q2]⟩
   .rintro(q|⟨f,q⟩)
    .exact zo q
    .rcases b7 t i f q with⟨e1,U,_⟩|⟨e1,U,_⟩
     .exact zn ⟨zo e1,U⟩
     .exact zn ⟨zn e1,U⟩
 have e5:=@run_makeMap zy;obtain⟨H1,H2,H3,H4⟩:=F8 a2 a3 a4 a5;clear e1 U N e4 a0 a6 a1 p r d z H a9 b3 d1 X b9 d2;have OO:=And.intro o1<|And.intro o2<|And.intro o3 o4;have MM:=J<|And.intro m1<|And.intro m2<|And.intro m3<|And.intro m4<|And.intro b8<|And.intro ma md;have QQ:=J<|And.intro q2<|And.intro q3<|And.intro q4<|And.intro qa r4;clear o1 o2 o3 o4 m1 m2 m3 m4 b8 ma md q2 q3 q4 qa r4 a2 a3 a4 a5 b2 a7 b4 b5 c0 c5 c6 c7 al;go_in;go_region_held3(λw'=>K' w' ⟨g,4,Z⟩=T (.map<|T<|o.om 0)/\K' w' ⟨g,7,Z⟩=T (.map<|T<|o.om 3)) (go_keep) (fail);all_goals
  go_wp2_with fail;go_end0;refine⟨Q,?_⟩;obtain⟨o1,o2,o3,o4⟩:=OO;obtain⟨m1,m2,m3,m4,b8,ma,md⟩:=MM.o;obtain⟨q2,q3,q4,qa,r4⟩:=QQ.o;clear y1 y2 y3 y4;first
   |refine c9 _ (w:M) ((w:M)+1) ?_ ?_ ?_ ?_ ?_ ?_ ?g7 (r4 ((w:M)+1) _<|by simp[z1,z2,z3]<;>omega)
   |refine c9 _ ((w:M)+1) (w:M) ?_ ?_ ?_ ?_ ?_ ?_ ?g7 (r4 (w:M) _<|by simp[z1,z2,z3]<;>omega)
  case g7=>repeat(first|exact q2 _ _ (by simp[z1]<;>omega)|refine q3 _ _ ?_|refine q4 _ _ _ ?_|refine qa _ _ (by simp[z1,z2,z3]<;>omega) ?_)
  .repeat(first|exact CT _ _|refine o1 _ ?_|refine o2 _ _ ?_|refine o3 _ ?_|refine o4 _ _ ?_|refine O.alloc ?_ _|refine O.drew ?_)
  rotate_left;rotate_left
  .omega
  .omega
  .omega
  all_goals
   repeat(first|refine m1 _ _ (by omega) ?_|refine m2 _ _ _ (by omega) ?_|refine m3 _ _ (by omega) ?_|refine m4 _ _ _ (by omega) ?_|refine md _ _ ?_|(refine b8 _ _ ?_;(simp[z1,z2,z3];done))|refine ma _ _ ?_)
structure GG(b:M)(C:H')(B v u:M)(o E:So)(m l:M->Ce)(w F:I'):Prop where
 c:Hj b C B v u E m l F
 ow:∀k,E.own b k->o.own b k\/(w:M)<=k
 on:O (o.own b) w F
section
variable{P:CQ}{b:M}{C:H'}{B v u:M}{o E K:So}{m H l N:M->Ce}{w F w2:I'}
theorem GG.rf(h:Hj b C B v u o m l w):GG b C B v u o o m l w w:=⟨h,λ_ q=>zo q,oq⟩
theorem GG.trans(h:GG b C B v u o E m l w F)(k:GG b C B v u E K H N F w2):GG b C B v u o K H N w w2:=
 ⟨k.c,λj a=>(k.ow j a).elim (h.ow j) λq=>zn<|As h.on.size q,h.on.thn k.on λj a q=>(h.ow j q).elim id λr=>Bm r<|by omega⟩
theorem GG.t8(h:GG b C B v u o E m l w F)(k:O Cb F w2):GG b C B v u o E m l w w2:=⟨h.c.j k λ_ q=>q.elim,h.ow,h.on.xV k⟩
theorem Hj.iff(h:Hj b C B v u o m l w)(a:∀t i,m t i↔H t i)(c:∀i x,l i x↔N i x):Hj b C B v u o H N w:=by rw[<-show m=H from funext λt=>funext λi=>propext<|a t i,<-show l=N from funext λt=>funext λi=>propext<|c t i];exact h
theorem GG.iff(h:GG b C B v u o E m l w F)(a:∀t i,m t i↔H t i)(c:∀i x,l i x↔N i x):GG b C B v u o E H N w F:=⟨h.c.iff a c,h.ow,h.on⟩
theorem Hj.noPlan(h:Hj b C B v u o m l w):TT (o.own b) w:=λk c t d a q=>by
 rcases h.e a with⟨_,_,e⟩|⟨_,e⟩
 .rw[e]at q;cases q
 .rw[e]at q;cases q;decide
theorem Hj.ret(h:Hj b C B v u o m l w){f k y}(d:o.bk 4 f=T k)(S:DV k (λx=>l f x\/x=y) F)(g:O (λj=>j=k) w F):GG b C B v u o o m (λi x=>l i x\/(i=f/\x=y)) w F:=by
 have⟨P,c,U⟩:=(h.st 4 f k d).xJ;have I:b≠k:=λq=>by have R:=h.p;grind[W]
 refine⟨{h with p:=h.p.j g I,mp:=λa z=>(h.mp a z).j g λq=>h.ne 4 f k a d (by omega) q.symm,st:=λa p t s=>?_,fm:=h.fm.j g λq=>h.ne 4 f k 5 d (by omega) q.symm},λ_ q=>zo q,g.mono λj _ q=>by rw[q];exact zn<|zn<|zo ⟨4,f,d⟩⟩;by_cases e:a=4/\p=f;grind;have:t≠k:=λq=>e<|h.dj a p 4 f k (q▸s) d
 refine((h.st a p t s).j g this).iff λn=>⟨λq=>⟨q.1,zo q.2⟩,λq=>⟨q.1,q.2.elim id λr=>Bm ⟨q.1,r.1⟩ e⟩⟩
theorem Hj.one(h:Hj b C B v u o m l w){t i f}(y:t<=4)(U:(w:M)<=f)(V:F.heap[f]? =T (.map #[] 0))(p:En Mj Mi (o.om t) (λx=>if x=i then T f else o.bk t x) F)(n:O (λk=>k=o.om t) w F)(X:t=4->∀x,¬l i x):
 ∃E,GG b C B v u o E (λa d=>m a d\/(a=t/\d=i)) l w F:=by
 obtain⟨j,r⟩:∃j:M->M->Option M,j=λa d=>if a=t/\d=i then T f else Z:=⟨_,Q⟩
 have a0:∀a d g,j a d=T g->a=t/\d=i/\g=f:=λa d g s=>by grind
 have⟨c,P,I⟩:=h.grow (nb:=j) (Dm':=λa d=>m a d\/(a=t/\d=i)) (w':=F) (λa d g s=>by
  grind[UD]) (λt1 i1 t2 i2 g R S=>by
  grind) (λa z=>by
  by_cases e:a=t;subst e;refine p.ext λx=>?_
  grind[So.gr];have:(o.gr j).bk a=o.bk a:=funext λx=>by grind[So.gr]
  rw[this];exact(h.mp a z).j n λq=>e<|h.oj a t (by omega) (by omega) q) (n.mono λk _ q=>⟨t,y,q⟩) (λa d=>by
  rw[r];constructor;rintro(q|q);exact zo q;exact zn ⟨f,by simp[q]⟩;grind)
 exact⟨_,c,P,I⟩
end
def XY(m:M->Ce)(f a:M)(c:Prop)(t i:M):Prop:=m t i\/(t=0\/t=3)/\(∃j,j<a/\i=vN f j)\/t=4/\i=f/\c
def rF(P:CQ)(l:M->Ce)(f j i x:M):Prop:=l i x\/i=f/\∃s a,a<j/\(CO P f).f[a]? =T s/\s.e=10/\x=vN f s.n
theorem WU{P:CQ}{l f j s}(k:(CO P f).f[j]? =T s)(i x):rF P l f (j+1) i x↔rF P l f j i x\/(s.e=10/\i=f/\x=vN f s.n):=by constructor;rintro(q|⟨a,h,c,d,g,o,p⟩);exact zo<|zo q;by_cases e:c=j;grind;exact zo<|zn ⟨a,h,c,by omega,g,o,p⟩;rintro((q|⟨a,h,c,d,g⟩)|⟨n,a,d⟩);exact zo q;exact zn ⟨a,h,c,by omega,g⟩;exact zn ⟨a,s,j,by omega,k,n,d⟩
theorem PC(P b C B v u o m l w)(X:Ia P v u)(h:Hj b C B v u o m l w)(hp:Ds 0 w C P)(f:M)(hf:f<P)(hD:∀i,i<12->¬m 0 (vN f i)/\¬m 3 (vN f i))(hR:∀x,¬l f x):
 F' zy 93 #[Z' b,f] w λe w'=>e=P' #[]/\
  ∃o',GG b C B v u o o' (XY m f (CO P f).y True) (λi x=>l i x\/(i=f/\Sr P f x)) w w':=by
 obtain⟨c,r,rfl,c5⟩:=hp.form (by omega);have⟨vv,sv,a5,b2,b0⟩:=hp.get hf;obtain⟨sa,sc,rfl,a9⟩:=b0.form;obtain⟨va,vl,vc,rfl⟩:=CA b2;have c4:=CU b2;have c1:=a5 1 (by omega);simp only[Rk,Aa,Ab]at c1;have a8:CO P f=P[f]:=by unfold CO;rw[Ag hf];rfl
 rw[<-a8]at c4 b0 a9;subst c4;have e9:=X.xE;have f3:=X.ok.y f;have f1:=X.ok.many f;have p0:=h.p.j0;have a2:=Cz h.p;have f0:(f:zw)<(L P:zw):=by omega
 obtain⟨d2,d1,d0⟩:=Dq a9 a8 a5;have M0:GG b (Y c P r) B v u o o (XY m f 0 zv) l w w:=(GG.rf h).iff (λt i=>by grind[XY]) λ_ _=>Iff.rfl;clear a9 a8 b2 a5;go_in;go_wp2_with fail;clear p0 c1 a2;go_loopw[17] (λi wr=>∃(k:M) (E:So),k<=(CO P f).y/\i=G A k/\GG b (Y c P r) B v u o E (XY m f k zv) l w wr) (λi _=>(CO P f).y-(zm i).toNat);exact⟨0,o,by omega,Q,M0⟩;clear M0;obtain⟨k,E,hk,rfl,n⟩:=hrel;by_cases d6:k<(CO P f).y
 .have d5:(k:zw)<(L (CO P f).y:zw):=by omega
  have d4:k+1<=L (CO P f).y:=d6;have b1:vN f k<20000:=by unfold vN;omega
  have a1:∀t,t=0\/t=3->¬XY m f k zv t (vN f k):=λt ht q=>by have:=hD k (by omega);grind[XY,vN]
  have b3:=a1;clear a1;go_wp2_with(first|(go_at_call 127;refine FC (JB f k _ (by omega)<|by omega) ?_));refine(OU b _ B v u E _ l wr (vN f k) n.c b1 (b3 0<|zo Q)<|b3 3<|zn Q).mono ?_;rintro e w2 ⟨rfl,K,c2,c8,c7⟩;have p:GG b (Y c P r) B v u o K (XY m f (k+1) zv) l w w2:=(n.trans ⟨c2,c8,c7⟩).iff (λt i=>by grind[XY]) λ_ _=>Iff.rfl;clear c2 c8 c7 n;go_wp2_with fail;go_roundw;exact⟨k+1,K,d4,by go_num,p⟩;simp[intOf];omega
 .have e:k=(CO P f).y:=by omega
  subst e;have d5:zu ((L (CO P f).y:zw)<(L (CO P f).y:zw))=zr:=by simp
  have p9:=n.c.p.j9;have a2:=Cz n.c.p;have d7:=@run_makeMap zy;have R:O Cb wr<|wr.alloc<|.map #[] 0:=(CT _ wr).alloc _;have⟨w2,b8,b6,a7⟩:=(((n.c.mp 4<|by omega).j R id)).put Ha underlying87 (k:=f) (a:=wr) (by omega) trivial;unfold Ly at b8;have n4:wr≠E.om 4:=λq=>by have:=n.c.ownLt (k:=E.om 4)<|zn<|zo ⟨4,by omega,Q⟩;omega
  have b7:w2.heap[(wr:M)]? =T (.map #[] 0):=(a7.block _ (by simp) n4).trans<|BB wr _;have⟨K,s2⟩:=n.c.one (t:=4) (i:=f) (by omega) (Ad _) b7 b6 ((R.mono λ_ _ q=>q.elim).trans a7) λ_=>hR;have b4:¬o.own b c:=λq=>by have⟨cs,e7,_⟩:=hp;have⟨e8,e⟩:=E0 e7;rcases h.e q with⟨_,_,e'⟩|⟨_,e'⟩<;>rw[e]at e'<;>cases e'
  have p:GG b (Y c P r) B v u o K (XY m f (CO P f).y True) (rF P l f 0) w w2:=(n.trans s2).iff (λt i=>by grind[XY]) (λi x=>by grind[rF]);have c3:w2 (c,f*4+3)=Y sa (CO P f).f sc:=by rw[Ae<|p.on.block c c5 b4,d0.o 3<|by omega];simp only[Rk,Aa,Ab];rw[d1.o]
  have e1:c<w2:=Av c5 p.on.size;have e6:=p.c.p.j0;have e3:=Cz p.c.p;clear b7 b6 a7 s2 n R;go_wp2_with fail;clear p9 a2 b8 c3 e6 e3 d7 e1 b4;go_loopw[42] (λi wi=>∃(j:M) (g:So),j<=(CO P f).f/\i=G A j/\GG b (Y c P r) B v u o g (XY m f (CO P f).y True) (rF P l f j) w wi) (λi _=>(CO P f).f-(zm i).toNat);exact⟨0,K,by omega,Q,p⟩;clear p;obtain⟨j,g,hj,rfl,S⟩:=hrel;by_cases a0:j<(CO P f).f
  .obtain⟨gs,rfl,c6⟩:=d2.o (by omega);have b9:=b0.j S.on h.noPlan;have e2:gs<wr:=Av c6 S.on.size;have⟨av,a6,hI⟩:=b9.get a0;have c0:=a6 0 (by omega);simp only[NS,Aa,Au]at c0;unfold NS at a6;have d8:=X.ok.ok f hf _<|Am a0;have HG:=J<|Ag a0;have d3:(j:zw)<(L (CO P f).f:zw):=by omega
   have b5:j+1<=L (CO P f).f:=a0;obtain⟨aa,al,ac,rfl⟩:=CA hI;clear b9 hI c6;generalize (CO P f).f[j]=s at*;have R:O Cb wr<|wr.alloc<|R' #[s.e,s.w,s.n,s.wU,s.t,Y aa al ac,s.q,s.xI] 206:=(CT _ wr).alloc _;have a4:=W.new wr #[s.e,s.w,s.n,s.wU,s.t,Y aa al ac,s.q,s.xI] 206;have d:=S.t8 R;have a1:¬g.own b wr:=λq=>by have:=S.c.ownLt q;omega
   go_upto_region 9 with fail;generalize wr.alloc (R' #[s.e,s.w,s.n,s.wU,s.t,Y aa al ac,s.q,s.xI] 206)=I at*;generalize (wr:M)=tb at*;obtain⟨t0,-,t2⟩:=a4.k3;have f4:=Cz a4;clear c0 a6 R e2;by_cases U:s.e=10
   .have e0:(((s.e:M):zw)==10)=zt:=by rw[U];rfl
    have f2:=d8.sr (by omega);have⟨z,V⟩:=(d.c.d 4 f).2<|zn<|zn ⟨Q,Q,trivial⟩;have c9:=J U;have b1:vN f s.n<19200:=by unfold vN;omega
    have p9:=d.c.p.j9;have a2:=Cz d.c.p;have od:O Cb I I.drew:=(CT _ I).drew;have l9:=(((d.c.mp 4<|by omega).j od id).look Ha underlying87 (Ez I.drew) (k:=f) (by omega) zr).2 z V;unfold Ly at l9;have d9:=((d.c.st 4 f z V).j od id).iff (m':=rF P l f j f) λx=>by simp
    have e4:b≠z:=λq=>by have⟨_,_,e⟩:=(d.c.st 4 f z V).xJ;have hb:=d.c.p;unfold W at hb;rw[q,e]at hb;cases hb
    have e5:tb≠z:=λq=>a1<|q▸zn (zn<|zo ⟨4,f,V⟩)
    have HS:D (∀W6,O (λk=>k=z) I W6->W6 (b,9)=Value.map (g.om 4)/\W6 (tb,2)=s.n):=λW6 h6=>by have r1:=(d.c.p.j h6 e4).j9;have r2:=(a4.j h6 e5).j2;exact⟨r1,r2⟩
    clear U od;go_wp2_with fail;go_region_held3(λw'=>w' (b,9)=Value.map (g.om 4)/\w' (tb,2)=s.n) (go_keep)
     (first
       |(go_at_call 127;refine FC (JB f s.n _ (by omega)<|by omega) ?_)
       |(go_at_call 100;refine(Kl z _ (vN f s.n) _ d9 b1).mono ?_;rintro e w6 ⟨rb,rfl,_,s6,o6⟩;have O6:=(O.drew<|CT (λk=>k=z) I).trans o6;clear o6;have⟨r1,r2⟩:=HS.o w6 O6))
    all_goals
     have a3:GG b (Y c P r) B v u o g (XY m f (CO P f).y True) (rF P l f<|j+1) w w6:=(d.trans<|d.c.ret (y:=vN f s.n) V (s6.iff λx=>by simp) O6).iff (λ_ _=>Iff.rfl) (λi x=>by rw[WU HG.o];simp[c9.o]);clear s6 O6;go_wp2_with fail;go_roundw;exact⟨j+1,g,b5,by go_num,a3⟩;simp[intOf];omega
   .have e0:(((s.e:M):zw)==10)=zr:=by simp;omega
    have a3:GG b (Y c P r) B v u o g (XY m f (CO P f).y True) (rF P l f<|j+1) w I:=d.iff (λ_ _=>Iff.rfl) (λi x=>by rw[WU HG.o];simp[U]);clear U;go_wp2_with fail;go_roundw;exact⟨j+1,g,b5,by go_num,a3⟩;simp[intOf];omega
  .have e:j=(CO P f).f:=by omega
   subst e;have d3:zu ((L (CO P f).f:zw)<(L (CO P f).f:zw))=zr:=by simp
   have HX:GG b (Y c P r) B v u o g (XY m f (CO P f).y True) (λi x=>l i x\/(i=f/\Sr P f x)) w wr:=S.iff (λ_ _=>Iff.rfl) λi x=>or_congr Iff.rfl<|and_congr Iff.rfl ⟨fun⟨s',i',_,q3,q⟩=>⟨s',BH q3,q⟩,fun⟨s',q3,q⟩=>by have⟨i',e⟩:=List.mem_iff_getElem?.1 q3;exact⟨s',i',(Bz.1 e).1,e,q⟩⟩;go_wp2_with fail;go_end0;exact⟨Q,g,HX⟩
def Sv.zero:Sv:=⟨⟨λ_ _=>zv,λ_ _=>zv,λ_ _=>zv⟩,λ_ _=>zv,λ_ _=>zv⟩
theorem qM(P X):Eu P X Sv.zero:=⟨⟨λ_ _ q=>q.elim,λ_ _ q=>q.elim,λ_ _ q=>q.elim⟩,λ_ _ q=>q.elim,λ_ _ _ q=>q.elim,λ_ _ _ q=>q.elim⟩
theorem qN(P){o:So}(h:∀c,o.rl c=[]):Ph P o Sv.zero (λ_=>zv) 0:=⟨λ_ _ q=>q.elim,qM P _,λ_ _ q=>q.elim,λ_ q=>q.elim,λc=>by rw[h];exact Ad _⟩
def So.ini(n:M):So:=⟨λt=>if t=4 then n+6 else if t=5 then n+5 else n+1+t,λ_ _=>Z,λ_=>Z,λ_=>[]⟩
theorem So.ini_inj(_ht:C<=5)(_ht':R<=5)(h:(So.ini B).om C=(So.ini B).om R):C=R:=by unfold So.ini at h;dsimp only at h;split at h<;>split at h<;>(try split at h)<;>(try split at h)<;>omega
theorem So.ini_own(h:(So.ini B).own C R)(a:C=B+7):B<R/\R<=B+7:=by
 rcases h with q|⟨t,b,q⟩|⟨t,i,q⟩|⟨c,t,q,_⟩
 omega;unfold So.ini at q;dsimp only at q;split at q;omega;split at q<;>omega;cases q;cases q
theorem Hj.ini(h:W (B+7) (qA (So.ini B) V C R X) 139 P)(f:∀k,B<k->k<=B+6->P.heap[k]? =T (.map #[] 0)):Hj (B+7) V C R X (So.ini B) (λ_ _=>zv) (λ_ _=>zv) P:=by
 have b:∀t,t<=5->B<(So.ini B).om t/\(So.ini B).om t<=B+6:=λt c=>by unfold So.ini;dsimp only;split;omega;split<;>omega
 exact{p:=h,mp:=λt c=>En.new<|f _ (b t<|by omega).1 (b t<|by omega).2,st:=λt i k a=>(by cases a),dj:=λt i g l k a=>(by cases a),oj:=λt g c j e=>So.ini_inj c j e,ne:=λt i k g a=>(by cases a),t4:=λt i k a=>(by cases a),d:=λt i=>⟨fun⟨k,a⟩=>(by cases a),λq=>q.elim⟩,fm:=En.new<|f _ (b 5<|by omega).1 (b 5<|by omega).2,f0:=λ_=>Q,r0:=λ_=>Q}
theorem kS(h:Sr U B C):B<U:=by have⟨s,a,_⟩:=h;apply BC;intro q;unfold CO at a;rw[AF<|by omega]at a;cases a
theorem IX{a:M}(h:∀k,a<=k->k<(P:M)->P.heap[k]? =T (.map #[] 0)):∀k,a<=k->k<(P.alloc (.map #[] 0):M)->(P.alloc<|.map #[] 0).heap[k]? =T (.map #[] 0):=λk b c=>by
 by_cases e:k=P
 .rw[e];exact BB P _
 .simp only[World.size_alloc]at c;rw[Ao _ _ _<|by omega];exact h k b<|by omega
theorem Hj.fin{o:So}{a g:M->Ce}(h:Hj B V C R X o a g P)(s:∀c t,t=0\/t=3->(a t c↔Dh U R c))(u:∀n,a 1 n↔1<=n/\n<=X)(j:∀f,a 4 f↔f<L U)(v:∀c,¬a 2 c)(l:∀i x,g i x↔Sr U i x):Es U B V C R X o Sv.zero P:=by
 have p:∀c k,o.bk 2 c≠T k:=λc k q=>v c<|(h.d 2 c).1 ⟨k,q⟩
 refine{p:=h.p,mp:=h.mp,st:=λt i k d=>(h.st t i k d).iff λx=>?_,dj:=h.dj,oj:=h.oj,ne:=h.ne,t4:=h.t4,d0:=λc t m=>(h.d t c).trans<|s c t m,d1:=λn=>(h.d 1 n).trans<|u n,d4:=λf=>(h.d 4 f).trans<|j f,d2:=λc k d=>Bm d<|p c k,ins:=λt i x m q=>?_,fm:=h.fm,S:=λc t b=>(by rw[h.f0]at b;cases b),fj:=λc z t E b=>(by rw[h.f0]at b;cases b),f0:=λc _=>h.r0 c,fvr:=λc r=>by rw[h.r0];simp[Sv.zero]};have y:=h.t4 t i k d;have F:t≠2:=λe=>p i k<|e▸d
 constructor;rintro⟨e,q⟩;subst e;simp only[ET,Nat.reduceEqDiff,false_implies,true_and,forall_const];exact(l i x).1 q;intro q;by_cases e:t=4;exact⟨e,(l i x).2<|q.2.2.2.2 e⟩;have:t=0\/t=1\/t=3:=by omega
 rcases this with e|e|e
 exact(q.1 e).elim;exact(q.2.1 e).elim;exact(q.2.2.2.1 e).elim;have:t=0\/t=1\/t=2\/t=3\/t=4:=by omega
 rcases this with e|e|e|e|e
 exact(q.1 e).elim;exact(q.2.1 e).elim;exact(q.2.2.1 e).elim;exact(q.2.2.2.1 e).elim;subst e;exact(h.d 4 i).2 ((j i).2<|kS<|q.2.2.2.2 Q)
def m6(w:I'):World:=((((((w.alloc<|.map #[] 0).alloc<|.map #[] 0).alloc<|.map #[] 0).alloc<|.map #[] 0).alloc<|.map #[] 0).alloc<|.map #[] 0)
def Sm(w:I')(b:H')(c d a:M):World:=(m6<|w.alloc<|R' #[b,c,d,a] 86).alloc<|R' (qA (So.ini w) b c d a) 139
theorem iS(w c d e b):W (w.heap.size+7) (qA (So.ini w.heap.size) c d e b) 139 (Sm w c d e b)/\W w.heap.size #[c,G A d,G A e,G A b] 86 (Sm w c d e b)/\(∀k,w.heap.size<k->k<=w.heap.size+6->(Sm w c d e b).heap[k]? =T (.map #[] 0))/\O Cb w (Sm w c d e b)/\(Sm w c d e b:M)=w.heap.size+8:=by
 have f:(m6 (w.alloc<|R' #[c,d,e,b] 86):M)=w+7:=by simp[m6]
 refine⟨f▸W.new _ _ _,(((((((W.new w _ _).alloc _).alloc _).alloc _).alloc _).alloc _).alloc _).alloc _,λk h i=>?_,?_,by simp[Sm,m6]⟩;unfold Sm;rw[Ao _ _ _<|by rw[f];omega];refine IX (a:=w+1) (IX<|IX<|IX<|IX<|IX λk j g=>?_) k (by omega) (f▸by omega);simp only[World.size_alloc]at g;omega;unfold Sm m6;exact oq
def RT(P:CQ)(a b r c t i:M):Prop:=(t=0\/t=3)/\((∃f j,f<a/\j<L (CO P f).y/\i=vN f j)\/∃n j,(1<=n/\n<=b/\j<4\/n=b+1/\j<r)/\i=pN n j)\/t=4/\i<a\/t=1/\1<=i/\i<=c
def dW(P:CQ)(a i x:M):Prop:=i<a/\Sr P i x
theorem Sn(P:CQ)(U:H')(l b d:M)(w:I')(E:Ia P b d)(hp:Ds 0 w U P)(tb:Mz w)(tl:0<(w:M)):
 F' zy 52 #[N' #[U,l,b,d]] w λe w'=>∃g o,e=T' (Z'<|T ⟨g,0,Z⟩)/\Hk P g U l b d o Sv.zero w'/\(∀k,o.own g k->(w:M)<=k)/\O Cb w w'/\Ph P o Sv.zero (λ_=>zv) 0:=by
 obtain⟨m,p,rfl⟩:∃a c,U=Y a P c:=by have⟨cs,q,_⟩:=hp;exact CB q
 have d0:=E.xE;have d4:=E.lp;have d3:=E.lc;have d2:=@run_makeMap zy;go_in;go_upto_region 2 with fail;have⟨b0,V,b3,v,c8⟩:=iS w (Y m P p) l b d;have hC:=Hj.ini b0 b3;clear b0 b3;obtain⟨g,a6⟩:∃g,g=(w:M)+1+1+1+1+1+1+1:=⟨_,Q⟩;have a1:g=w+7:=a6;rw[<-a1]at hC;rw[<-a6];change Code.wp _ _ _ _ (Sm w (Y m P p) l b d);generalize Sm w (Y m (L P) p) l b d=s at*;have a3:¬(So.ini w).own g w:=λq=>by have:=So.ini_own q a1;omega
 have b1:∀k,(So.ini w).own g k->(w:M)<=k:=λk q=>by have:=So.ini_own q a1;omega
 generalize So.ini (w:M)=u at*;have f0:=V.j0;have b7:=Cz V;have c0:=hp.t8 v;have S:=V;have c9:(w:M)<s:=by omega
 have M0:GG g (Y m P p) l b d u u (RT P 0 0 0 0) (dW P 0) s s:=(GG.rf hC).iff (λt i=>by grind[RT]) (λi x=>by grind[dW]);clear V a6 a1 c8;obtain⟨nb,a0⟩:∃nb,nb=(w:M):=⟨_,Q⟩;rw[<-a0]at a3 c9 f0 b7|-;have S:W nb #[Y m P p,l,b,d] 86 s:=by rw[a0];exact S
 have a8:=J a0;clear a0;go_wp2_with fail;clear f0 b7;go_loopw[20] (λi wr=>∃(k:M) (o1:So),k<=P/\i=G A k/\GG g (Y m P p) l b d u o1 (RT P k 0 0 0) (dW P k) s wr) (λi _=>P-(zm i).toNat);exact⟨0,u,by omega,Q,M0⟩;clear M0;obtain⟨k,o1,hk,rfl,y⟩:=hrel;by_cases X:k<P
 .have a2:(k:zw)<(L P:zw):=by omega
  have I:k+1<=L P:=X;have c1:=c0.j y.on hC.noPlan;have hD:∀t,t=0\/t=3->∀i,i<12->¬(RT P k 0 0 0) t (vN k i):=λt ht i hi q=>by
   rcases q with⟨_,⟨f,j,q1,q2,F⟩|⟨n,j,q1,F⟩⟩|q|q
   have:=E.ok.y f;unfold vN at F;omega;all_goals omega
  have HD:=J hD;clear hD;go_wp2_with fail;refine(PC P g (Y m P p) l b d o1 (RT P k 0 0 0) (dW P k) wr E y.c c1 k X (λi hi=>⟨HD.o 0 (zo Q) i hi,HD.o 3 (zn Q) i hi⟩) λx q=>Nat.lt_irrefl _ q.1).mono ?_;rintro e w2 ⟨rfl,C,s2⟩;have z:GG g (Y m P p) l b d u C (RT P (k+1) 0 0 0) (dW P<|k+1) s w2:=(y.trans s2).iff (λt i=>by grind[RT,XY]) (λi x=>by grind[dW]);clear s2 y;go_wp2_with fail;go_roundw;exact⟨k+1,C,I,by go_num,z⟩;simp[intOf];omega
 .have e:k=P:=by omega
  subst e;have a2:zu ((L P:zw)<(L P:zw))=zr:=by simp
  have B:=S.j y.on a3;have f2:=B.j2;have a7:=Cz B;clear B;go_wp2_with fail;clear f2 a7;go_loopw[29] (λi R=>∃(k:M) (C:So),k<=b/\i=G A k/\GG g (Y m P p) l b d u C (RT P P k 0 0) (dW P P) s R) (λi _=>b-(zm i).toNat);exact⟨0,o1,by omega,Q,y⟩;clear y;obtain⟨k,C,hk,rfl,z⟩:=hrel;by_cases X:k<b
  .have a2:(k:zw)<(b:zw):=by omega
   have I:k+1<=b:=X;go_wp2_with fail;go_loopw[32] (λi R=>∃(j:M) (r:So),j<=4/\i=G A j/\GG g (Y m P p) l b d u r (RT P P k j 0) (dW P P) s R) (λi _=>4-(zm i).toNat);exact⟨0,C,by omega,Q,z⟩;clear z;obtain⟨j,r,hj,rfl,h⟩:=hrel;by_cases c5:j<4
   .have d1:(j:zw)<4:=by omega
    have c2:j+1<=4:=c5;have c7:pN (k+1) j<20000:=by unfold pN;omega
    have b5:∀t,t=0\/t=3->¬(RT P P k j 0) t (pN (k+1) j):=λt ht q=>by
     rcases q with⟨_,⟨f,j',q1,q2,F⟩|⟨n,j',q1,F⟩⟩|q|q
     have:=E.ok.y f;unfold vN pN at F;omega;unfold pN at F;omega;all_goals omega
    have a9:=J b5;clear b5;go_wp2_with(first|(go_at_call 82;refine FC (Nt (k+1) j _ (by omega) (by omega)<|by omega) ?_));refine(OU g (Y m P p) l b d r (RT P P k j 0) (dW P P) wr (pN (k+1) j) h.c c7 (a9.o 0<|zo Q)<|a9.o 3<|zn Q).mono ?_;rintro e w4 ⟨rfl,N,c4,b9,b8⟩;have H:GG g (Y m P p) l b d u N (RT P P k (j+1) 0) (dW P P) s w4:=(h.trans ⟨c4,b9,b8⟩).iff (λt i=>by grind[RT]) λ_ _=>Iff.rfl;clear c4 b9 b8 h;go_wp2_with fail;go_roundw;exact⟨j+1,N,c2,by go_num,H⟩;simp[intOf];omega
   .have e:j=4:=by omega
    subst e;have H:GG g (Y m P p) l b d u r (RT P P (k+1) 0 0) (dW P P) s wr:=h.iff (λt i=>by grind[RT]) λ_ _=>Iff.rfl;clear h;go_wp2_with fail;go_roundw;exact⟨k+1,r,I,by go_num,H⟩;simp[intOf];omega
  .have e:b=k:=by omega
   subst e;have a2:zu ((b:zw)<(b:zw))=zr:=by simp
   have B:=S.j z.on a3;have f3:=B.j3;have a7:=Cz B;clear B;go_wp2_with fail;clear f3 a7;go_loopw[45] (λi R=>∃(k:M) (r:So),k<=d/\i=G A k/\GG g (Y m P p) l b d u r (RT P P b 0 k) (dW P P) s R) (λi _=>d-(zm i).toNat);exact⟨0,C,by omega,Q,z⟩;clear z;obtain⟨k,r,hk,rfl,h⟩:=hrel;by_cases c6:k<d
   .have c3:(k:zw)<(d:zw):=by omega
    have I:k+1<=d:=c6;have p5:=h.c.p.j5;have d5:=Cz h.c.p;have oa:O Cb wr<|wr.alloc<|.map #[] 0:=(CT _ wr).alloc _;have⟨w4,b6,b2,a4⟩:=((h.c.mp 1<|by omega).j oa id).put Ha underlying87 (k:=k+1) (a:=wr) (by omega) trivial;unfold Ly at b6;rw[show(((k+1:M):M):zw)=(k:zw)+1 by omega]at b6;have n4:wr≠r.om 1:=λq=>by have:=h.c.ownLt (k:=r.om 1)<|zn<|zo ⟨1,by omega,Q⟩;omega
    have b4:w4.heap[(wr:M)]? =T (.map #[] 0):=(a4.block _ (by simp) n4).trans<|BB wr _;have⟨N,s4⟩:=h.c.one (t:=1) (i:=k+1) (by omega) (Ad _) b4 b2 ((oa.mono λ_ _ q=>q.elim).trans a4) (λq=>by omega);have H:GG g (Y m P p) l b d u N (RT P P b 0<|k+1) (dW P P) s w4:=(h.trans s4).iff (λt i=>by grind[RT]) λ_ _=>Iff.rfl;clear b2 a4 oa b4 s4 h;go_wp2_with fail;go_roundw;exact⟨k+1,N,I,by go_num,H⟩;simp[intOf];omega
   .have e:d=k:=by omega
    subst e;have c3:zu ((d:zw)<(d:zw))=zr:=by simp
    have hR:Es P g (Y m P p) l b d r Sv.zero wr:=h.c.fin (λc t ht=>by grind[RT,Dh]) (λn=>by grind[RT]) (λf=>by grind[RT]) (λc q=>by grind[RT]) λi x=>⟨λq=>q.2,λq=>⟨kS q,q⟩⟩;have K:O Cb w wr:=⟨h.on.os.trans v.os,h.on.tape.trans v.tape,h.on.output.trans v.output,As v.size h.on.size,λj hj _=>(h.on.block j (Av hj v.size) λq=>by have:=b1 j q;have:=a8.o;omega).trans<|v.block j hj id⟩;have a5:∀j,r.own g j->(w:M)<=j:=λj q=>(h.ow j q).elim (λq=>by have:=b1 j q;have:=a8.o;omega) λq=>As v.size q
    have HX:Hk P g (Y m P p) l b d r Sv.zero wr/\(∀j,r.own g j->(w:M)<=j)/\O Cb w wr/\Ph P r Sv.zero (λ_=>zv) 0:=⟨⟨hR,hp.t8 K,tb.j K id tl,Av tl K.size,λq=>by have:=a5 _ q;omega⟩,a5,K,qN P h.c.r0⟩;clear hR K a5;go_wp2_with fail;go_ret;exact⟨g,r,Q,HX⟩
def Kv(P:CQ)(S:Sy)(f g:M):Prop:=∃s,s∈(CO P f).f/\((s.e=7/\g=s.n)\/(s.e=8/\S.E s.t g))
theorem Vm(P H fv mn pn cn o v w)(I:Ia P pn cn)(h:Hk P H fv mn pn cn o v w)(f:M)(hf:f<P):
 F' zy 98 #[Z' H,f] w λe U=>∃b,e=Value.map (T b)/\w.heap.size<=b/\DV b (Kv P v.s f) U/\O Cb w U:=by
 obtain⟨gf,fc,rfl,b4⟩:=h.pl.form (by omega);have⟨vv,sv,b0,_,a6⟩:=h.pl.get hf;obtain⟨sa,sc,rfl,a5⟩:=a6.form;have u:=b0 3 (by omega);simp only[Rk,Aa,Ab]at u;have b1:CO P f=P[f]:=by unfold CO;rw[Ag hf];rfl
 rw[<-b1]at u a6 a5;have e2:=I.xE;have e8:=I.lc;have e4:=I.ok.many f;have l:O Cb w<|w.alloc<|.map #[] 0:=(CT _ w).alloc _;have p0:=(h.r.p.j l id).j0;have b6:=Cz<|h.r.p.j l id;have c8:(w.alloc<|.map #[] 0) (gf,f*4+3)=Y sa (CO P f).f sc:=(Ae<|l.block gf b4 id).trans u;have d8:gf<w.alloc (.map #[] 0):=Av b4 l.size;have e3:(f:zw)<(L P:zw):=by omega
 have d0:=@run_makeMap zy;have b2:=DV.made w;have a8:=l;have b8:=J a5;have d2:∀k,k<(w:M)->k≠(w:M):=λk q=>by omega
 clear a5 b1 b0 l u;go_in;go_wp2_with fail;clear p0 c8 d8 b6 d0;obtain⟨a,a0⟩:∃a,a=(w:M):=⟨_,Q⟩;have S0:DV a (λg=>∃s i,i<0/\(CO P f).f[i]? =T s/\((s.e=7/\g=s.n)\/(s.e=8/\v.s.E s.t g)))<|w.alloc<|.map #[] 0:=by rw[a0];exact b2.iff λn=>⟨False.elim,fun⟨_,_,q,_⟩=>by omega⟩
 rw[<-a0];have K:=J a0;clear a0 d2 b2;generalize w.alloc (.map #[] 0)=W0 at*;go_loopw[19] (λi wr=>∃j:M,j<=(CO P f).f/\i=G A j/\D (DV a (λg=>∃s i,i<j/\(CO P f).f[i]? =T s/\((s.e=7/\g=s.n)\/(s.e=8/\v.s.E s.t g))) wr)/\O Cb w wr) (λi _=>(CO P f).f-(zm i).toNat);exact⟨0,by omega,Q,S0,a8⟩;clear S0 a8;obtain⟨j,hj,rfl,V,N⟩:=hrel;by_cases R:j<(CO P f).f
 .obtain⟨gs,rfl,b5⟩:=b8.o (by omega);have b3:=a6.j N λ_ _ _ _ q=>q.elim;have d9:gs<wr:=Av b5 N.size;have⟨av,r,hI⟩:=b3.get R;have c0:=r 0 (by omega);have c1:=r 1 (by omega);have c2:=r 2 (by omega);have u:=r 3 (by omega);have c4:=r 4 (by omega);have c5:=r 5 (by omega);have c6:=r 6 (by omega);have c7:=r 7 (by omega);simp only[NS,Aa,Ab,Au]at c0 c1 c2 u c4 c5 c6 c7;have d4:=I.ok.ok f hf _<|Am R;have d3:=I.c f hf _<|Am R;have HG:=J<|Ag R;have c9:(j:zw)<(L (CO P f).f:zw):=by omega
  have a3:j+1<=L (CO P f).f:=R;obtain⟨aa,al,ac,rfl⟩:=CA hI;clear b3 r hI b5;generalize (CO P f).f[j]=s at*;have l:O Cb wr<|wr.alloc<|R' #[s.e,s.w,s.n,s.wU,s.t,Y aa al ac,s.q,s.xI] 206:=(CT _ wr).alloc _;have a2:=W.new wr #[s.e,s.w,s.n,s.wU,s.t,Y aa al ac,s.q,s.xI] 206;have a1:=V.j l id;have a9:=N.trans l;go_upto_region 5 with fail;generalize wr.alloc (R' #[s.e,s.w,s.n,s.wU,s.t,Y aa al ac,s.q,s.xI] 206)=d at*;have e7:a<w+1:=by have:=K.o;omega
  have d7:wr≠a:=λq=>by have:=V.lt;omega
  generalize (wr:M)=tb at*;obtain⟨t0,-,t2,-,t4⟩:=a2.k5;have f1:=Cz a2;clear c0 c1 c2 u c4 c5 c6 c7 l d9 V N;have a7:∀(m:Ce) (p:I'),O (λk=>k=a) d p->DV a m p->(∀g,m g↔(∃s i,i<j/\(CO P f).f[i]? =T s/\((s.e=7/\g=s.n)\/(s.e=8/\v.s.E s.t g)))\/((s.e=7/\g=s.n)\/(s.e=8/\v.s.E s.t g)))->DV a (λg=>∃s i,i<j+1/\(CO P f).f[i]? =T s/\((s.e=7/\g=s.n)\/(s.e=8/\v.s.E s.t g))) p/\O Cb w p:=λm p C E e6=>by refine⟨E.iff λg=>(e6 g).trans ⟨?_,?_⟩,a9.thn C λk hk q=>by have:=K.o;omega⟩;rintro(⟨s',i,q1,t⟩|q);exact⟨s',i,by omega,t⟩;exact⟨s,j,by omega,HG.o,q⟩;rintro⟨s',i,q1,t,F⟩;by_cases e:i=j;subst e;rw[HG.o]at t;cases t;exact zn F;exact zo ⟨s',i,by omega,t,F⟩
  by_cases y:s.e=7
  .have k7:(((s.e:M):zw)==7)=zt:=by rw[y];rfl
   have e5:=d4.func<|zn y;have H7:=J y;clear y;go_wp2_with fail;refine(Kl a _ s.n d a1<|by omega).mono ?_;rintro e p ⟨rb,rfl,_,E,C⟩;have c:=a7 _ p C E λg=>⟨λq=>q.imp id λq=>zo ⟨H7.o,q⟩,λq=>q.imp id λq=>q.elim (λq=>q.2) λq=>Bm (H7.o.symm.trans q.1)<|by decide⟩
   clear E C;go_wp2_with fail;go_roundw;exact⟨j+1,a3,by go_num,c.1,c.2⟩;simp[intOf];omega
  .by_cases z:s.e=8
   .have k7:(((s.e:M):zw)==7)=zr:=by rw[z];rfl
    have k8:(((s.e:M):zw)==8)=zt:=by rw[z];rfl
    have d1:=d3.2.1 z;have H8:=J z;clear y z;have B:=(h.t8 a9).r;have⟨S,a4⟩:=(B.d1 s.t).2 d1;have e9:=h.r.ownLt<|zn<|zn<|zo ⟨1,s.t,a4⟩;have f0:=h.r.ownLt (k:=H)<|zo Q;have p5:=B.p.j5;have b6:=Cz B.p;have od:O Cb d d.drew:=(CT _ d).drew;have l5:=(((B.mp 1<|by omega).j od id).look Ha underlying87 (Ez d.drew) (k:=s.t) (by omega) zr).2 S a4;unfold Ly at l5;have d6:DV S (v.s.E s.t) d.drew:=((B.st 1 s.t S a4).j od id).iff λx=>by simp[ET]
    have d5:=a1.j od id;have e1:H≠a:=by have:=K.o;omega
    have e0:a≠S:=by have:=K.o;omega
    have b7:=J B.p;have b9:D (∀X,O (λk=>k=a) d X->X (H,5)=Value.map (o.om 1)/\X (tb,4)=s.t):=λX h6=>by have r1:=(b7.j h6 e1).j5;have r2:=(a2.j h6 d7).j4;exact⟨r1,r2⟩
    clear B od;go_wp2_with fail;go_region_held3(λU=>U (H,5)=Value.map (o.om 1)/\U (tb,4)=s.t) (go_keep)
     (first
       |(go_at_call 146;refine(LC a S _ _ _ d5 d6 e0).mono ?_;rintro e p ⟨fb,rfl,_,_,E,C⟩;have S6:=E;have O6:=(O.drew<|CT (λk=>k=a) d).trans C;clear E C;have⟨r1,r2⟩:=b9.o p O6))
    all_goals
     have c:=a7 _ p O6 S6 λg=>⟨λq=>q.imp id λq=>zn ⟨H8.o,q⟩,λq=>q.imp id λq=>q.elim (λq=>Bm (H8.o.symm.trans q.1)<|by decide) λq=>q.2⟩
     clear S6 O6;go_wp2_with fail;go_roundw;exact⟨j+1,a3,by go_num,c.1,c.2⟩;simp[intOf];omega
   .have k7:(((s.e:M):zw)==7)=zr:=by simp;omega
    have k8:(((s.e:M):zw)==8)=zr:=by simp;omega
    have c:=a7 _ d (CT _ _) a1 λg=>⟨zo,λq=>q.elim id λq=>q.elim (λq=>Bm q.1 y) λq=>Bm q.1 z⟩
    clear y z;go_wp2_with fail;go_roundw;exact⟨j+1,a3,by go_num,c.1,c.2⟩;simp[intOf];omega
 .have e:j=(CO P f).f:=by omega
  subst e;have c9:zu ((L (CO P f).f:zw)<(L (CO P f).f:zw))=zr:=by simp
  have c:DV a (Kv P v.s f) wr:=V.iff λg=>by constructor;rintro⟨s,i,q1,t,F⟩;exact⟨s,BH t,F⟩;rintro⟨s,t,F⟩;have⟨i,hi,e⟩:=AC.1 t;exact⟨s,i,hi,by rw[Ag hi,e],F⟩
  go_wp2_with fail;go_ret;exact⟨a,Q,by have:=K.o;omega,c,N⟩
def Iz(P:CQ)(S:Sy)(m g:M):Prop:=∀X:Ce,X m->(∀f g,X f->Kv P S f g->X g)->X g
theorem Iz.rf(P S m):Iz P S m m:=λ_ h _=>h
theorem Iz.step{P S m f g}(h:Iz P S m f)(k:Kv P S f g):Iz P S m g:=λX b a=>a f g (h X b a) k
theorem Kv.iff{P}{S a:Sy}(h:S.le a)(k:a.le S)(f g):Kv P S f g↔Kv P a f g:=
 ⟨fun⟨s,q,r⟩=>⟨s,q,r.imp id λr=>⟨r.1,h.e _ _ r.2⟩⟩,fun⟨s,q,r⟩=>⟨s,q,r.imp id λr=>⟨r.1,k.e _ _ r.2⟩⟩⟩
theorem Iz.iff{P}{S a:Sy}(h:S.le a)(k:a.le S)(m g):Iz P S m g↔Iz P a m g:=
 ⟨λq X b c=>q X b λf g e d=>c f g e<|(Kv.iff h k f g).1 d,λq X b c=>q X b λf g e d=>c f g e<|(Kv.iff h k f g).2 d⟩
theorem Kv.lt{P j b}{S:Sy}(a:Ia P j b)(h:S.le<|least P){f g:M}(e:f<P)(k:Kv P S f g):g<P:=by obtain⟨s,i,⟨c,rfl⟩|⟨_,d⟩⟩:=k;exact(a.ok.ok f e s i).func (zn c);exact(LR a<|h.e _ _ d).2
structure Bf(P:CQ)(S:Sy)(m:M)(o:Ce)(t:Cf)(C:Ce):Prop where
 hm:o m
 le:∀g,o g->Iz P S m g
 q:∀g,g∈t->o g
 cl:∀f g,o f->f∉t->¬C f->Kv P S f g->o g
section
variable{P:CQ}{S:Sy}{m c g:M}{o:Ce}{t:Cf}
theorem Bf.xC(P S m):Bf P S m (λg=>g=m) [m] λ_=>zv:=
 ⟨Q,λg e=>e▸Iz.rf P S m,λg h=>by simpa using h,λf g e h=>Bm (by rw[e];simp) h⟩
theorem Bf.pop(h:Bf P S m o (c::t) λ_=>zv):Bf P S m o t (λf=>f=c)/\o c:=
 ⟨⟨h.hm,h.le,λg d=>h.q g<|Ax _ d,λf g b e a=>h.cl f g b (λq=>(AY.1 q).elim a e) id⟩,h.q c A9⟩
theorem Bf.old(h:Bf P S m o t λf=>f=c)(a:o g):Bf P S m (λx=>o x\/x=g) t λf=>f=c:=by
 have e:(λx=>o x\/x=g)=o:=funext λx=>propext ⟨λq=>q.elim id λq=>q▸a,zo⟩
 grind
theorem Bf.add(h:Bf P S m o t λf=>f=c)(e:o c)(k:Kv P S c g):Bf P S m (λx=>o x\/x=g) (t++[g]) λf=>f=c:=by
 refine⟨zo h.hm,λx b=>b.elim (h.le x) λq=>q▸(h.le c e).step k,λx b=>?_,λf x a j d i=>?_⟩;grind[q];rcases a with a|rfl
 exact zo<|h.cl f x a (λq=>j<|AJ.2<|zo q) d i;grind
theorem Bf.fin(h:Bf P S m o t λf=>f=c)(i:∀g,Kv P S c g->o g):Bf P S m o t λ_=>zv:=by refine⟨h.hm,h.le,h.q,λf g a d _ b=>?_⟩;by_cases e:f=c;grind;exact h.cl f g a d e b
theorem Bf.done(h:Bf P S m o [] λ_=>zv)(g):o g↔Iz P S m g:=
 ⟨h.le g,λq=>q o h.hm λf x a b=>h.cl f x a (by simp) id b⟩
def Si(o:Ce)(l n:M):Prop:=n=2*((List.range 12).countP λi=>@decide (¬o i)<|Classical.propDecidable _)+l
theorem gJ(c:g<12)(d:¬o g){l a b:M}(h:Si o l a)(k:Si (λx=>o x\/x=g) (l+1) b):b<a:=by
 unfold Si at h k;have:=LM (p:=λi=>@decide (¬(o i\/i=g))<|Classical.propDecidable _) (q:=λi=>@decide (¬o i)<|Classical.propDecidable _) (List.range 12) (λx _ e=>by grind) ⟨g,List.mem_range.2 c,by grind,by simp⟩
 grind
end
def NO(B:M)(w:I')(v:H')(l:Cf):Prop:=
 ∃g o a b,v=Y (g,o) l a/\B<=g/\w.heap[g]? =T (R' b 3 (0,0))/\L l<=a/\o+a<=b.size/\a<=E'/\∀j (h:j<L l),b[o+j]? =T (G A (l[j]:zw))
theorem NO.j{X:Ce}{w w'}(h:NO B w V q2)(f:O X w w')(i:∀k,L' V=T k->¬X k):NO B w' V q2:=by obtain⟨g,o,b,c,rfl,d,a,e⟩:=h;exact⟨g,o,b,c,Q,d,by rw[f.block g (Cz a)<|i g Q];exact a,e⟩
theorem NO.e(h:NO B P V q2):∀k,L' V=T k->B<=k/\∃a,P.heap[k]? =T (R' a 3 (0,0)):=by obtain⟨g,o,e,a,rfl,b,c,_⟩:=h;intro k d;cases d;exact⟨b,a,c⟩
theorem NO.form(h:NO B P V q2):∃g o a,V=Y (T ⟨g,o,Z⟩) q2 a/\B<=g/\g<P.heap.size/\L q2<=a/\a<=maxLen:=by obtain⟨g,o,a,b,rfl,c,d,e,_,f,_⟩:=h;grind
theorem NO.head(h:NO B P (Y (C,R) X v0) (p0::q2)):P ⟨C,R,Z⟩=p0:=by have⟨C,R,v0,a,e,f,b,i,_,j,d⟩:=h;cases e;rw[cell_of_row P C R a _ _ b];have:=d 0 (by simp);grind
theorem NO.tail(h:NO B P (Y (C,R) X v0) (p0::q2)):∃i,(if v0=1 then T ((C,R):A')else T ((C,R+1):A'))=(C,i)/\NO B P (Y (T ⟨C,i,Z⟩) q2<|v0-1) q2:=by have⟨C,R,v0,a,e,b,d,k,r,q,m⟩:=h;cases e;rw[Af]at k;by_cases p:v0=1;have:q2=[]:=List.eq_nil_of_length_eq_zero (by omega);subst this;exact⟨R,by grind,C,R,v0-1,a,Q,b,d,by simp,by omega,by omega,λj f=>Bm f<|by simp⟩;refine⟨R+1,by grind,C,R+1,v0-1,a,Q,b,d,by omega,by omega,by omega,λj f=>?_⟩;have:=m (j+1) (by grind);grind
theorem NO.of(h:CY B P V q2)(c:q2≠[]):NO B P V q2:=by
 have p:L q2≠0:=λq=>c<|List.eq_nil_of_length_eq_zero q
 rcases h.2 with⟨_,q⟩|⟨g,b,a,rfl,d,f,i,k,m,n⟩
 omega;refine⟨g,0,b,a,Q,d,f,i,by omega,k,λj o=>?_⟩;have e:(a.toList.take<|L q2*1)[j]? =(q2[j]:zw):=by grind
 grind
theorem NO.push(E:TypeId)(b:A')(c:M)(X:NO B y0 V q2)(n:M)(hn:y0 b=n)(a1:b.add 0=b)(hl:L q2<=100000)(I:B<=y0):
 ∃g o a r,(Builtin.append_ #[105,105] E #[V,Y (T b) 1 c]).run zy y0=.ok (Y (g,o) (L q2+1) a) r/\NO B r (Y (T ⟨g,o,Z⟩) (L q2+1) a) (q2++[n])/\O (λk=>L' V=T k) y0 r/\(L' V=T g\/y0.heap.size<=g):=by
 have⟨q,t,a0,f,a3⟩:=Bx Tryz.infoInt;obtain⟨g,o,a,d,rfl,F,h,h3,h4,H,h6⟩:=X;have y:∀j u,[G A (n:zw)][j]? =T u->y0 (b.add j)=T u:=λj u hu=>by grind
 have lw:=Cz h;by_cases hr:q2+1<=a;have s:=run_firstCells_some (P:=zy) y0 q.size 1 b 1 c [G A (n:zw)] (by rw[f];rfl) y;have z:=run_storeCells_at zy g (o+q2) 3 [G A (n:zw)] 0 d y0 h (by simp;omega) (λx C=>by simp at C;subst C;rfl);simp only[Au,Az]at z;refine⟨g,o,a,y0.setRow g (d.toList.take (o+q2)++[G A (n:zw)]++d.toList.drop (o+q2+1)).toArray,?_,⟨g,o,a,_,by grind,F,setRow_heap y0 g d _ _ _ h,by grind,?_,H,λj m=>?_⟩,⟨Q,Q,Q,by simp,λk _ N=>setRow_other y0 g k _ λe=>N<|by rw[e];rfl⟩,zo Q⟩;rw[f]at s;simp[Builtin.append_,run_underlying underlying105,sizeOf,typeInfo,t,f,Builtin.lenOf,hr,s,Addr.add_lit,z];grind;simp only[Ac];rw[Ah,Az]at m;by_cases e:j=q2;subst e;have S:min (o+q2) d=o+q2:=by omega
 rw[Be<|by simp;omega,Bc<|by grind];simp[S];grind;have R:L (q2.map λi:M=>G A (i:zw))=L q2*q.size:=by grind
 have U:∀j V,(q2.map λi:M=>G A (i:zw))[j]? =T V->y0 (((g,o):A').add j)=T V:=λj V hv=>by grind[Addr.add_lit,cell_of_row]
 have K:=run_append_grow (P:=zy) y0 105 E 3 q (G A 0) underlying105 t a0 (g,o) q2 a _ R U b 1 c [G A (n:zw)] (by rw[f];rfl) y (by omega) (by omega) (growslice_fits (by omega)<|by grind);have a2:=grownCap_ge y0 (L q2+1) a 3;refine⟨_,0,_,_,K,⟨y0,0,_,_,by rw[Ah];rfl,I,BB y0.drew _,by grind,?_,grownCap_le_maxLen y0 _ _ _<|by grind[E'],λj m=>?_⟩,((CT _ y0).drew).alloc _,zn<|Ad _⟩;simp only[Array.size_append,BW,size_zeroCells,AG,Az,AM,Value.cells];simp;omega;rw[Ah,Az]at m;rw[AM];by_cases e:j=q2;subst e;rw[Array.getElem?_append_left<|by simp,Array.getElem?_append_right<|by simp];simp;have p:j<q2:=by omega
 rw[AD p,Array.getElem?_append_left<|by simp;omega,Array.getElem?_append_left<|by simpa using p];simp[p]
theorem ON{i:List Oper}{f:Exit->Act->I'->Prop}(w:I')(u:p3.guard=Z)(s x:Operand)
 (C:p3.op=.call {callee:=.builtin .append,args:=#[s,x],argTypes:=#[105,105]})(H:u4.eval s=V)(E:NO B w V q2)(n:M)(b:A')(c:M)(I:u4.eval x=Y (T b) 1 c)
 (z:w b=n)(t:b.add 0=b)(y:L q2<=100000)(q:B<=w)
 (h:∀g o e d,NO B d (Y (g,o) (L q2+1) e) (q2++[n])->O (λk=>L' V=T k) w d->(L' V=T g\/(w:M)<=g)->wpList zy z5 f i (u4.put p3.dst<|Y (T ⟨g,o,Z⟩) (L q2+1) e) d):
 wpList zy z5 f (p3::i) u4 w:=by
 refine wpList_plain u λK r=>?_
 have⟨g,o,e,d,F,j,m,p⟩:=E.push p3.type b c n z t y q;unfold Oper.wp execOp;simp only[C,resolve,invoke,builtin,Sem.run_bind,Sem.run_pure,Result.andThen_ok,List.map_toArray,AH,List.map_nil,H,I,F];exact r _ _<|h g o e d j m p

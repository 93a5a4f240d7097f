/- Part of the proof: AnA AnB AnC AnD AnE AnG AnH. -/
import Derived.Test.YtaningfhibkemaaGreatDoorG15
import Derived.Maps.RangeWalk
import Derived.Lib.TrailingZeros
import Derived.Laws.BitsAllLaws
import Derived.OwnWalk
import Derived.Shelf.Spec.TrailingZeros
set_option maxRecDepth 100000
set_option maxHeartbeats 1000000
namespace Go.Proofs.YtaningfhibkemaaGreatDoor
open Go.Proofs.Tryz Go.RowKit Go.Maps
open Option renaming none->Z,some->T
open Value renaming int->G,slice->Y
open IntKind renaming i64->A
def vN(f v:Nat):Nat:=f*12+v
def fN(f:Nat):Nat:=144+f
def pN(n k:Nat):Nat:=156+(n-1)*4+k
def PK(t:Nat):Prop:=t<144\/156<=t
def Zd(t:Nat):Prop:=144<=t/\t<156
structure Sy where
 I:Nat->Nat->Prop
 F:Nat->Nat->Prop
 E:Nat->Nat->Prop
structure Rl where
 f:Nat
 s:Be
def Rl.tg(r:Rl):Nat:=vN r.f r.s.cY
def Rl.sr(r:Rl):Nat:=vN r.f r.s.cM
def Fq(P:List PFn)(g:Nat)(x:Nat):Prop:=∃s,s∈(As P g).r9/\s.kind=10/\x=vN g s.cM
def LZ(P:List PFn)(r:Rl):Prop:=r.f<P.length/\r.s∈(As P r.f).r9
def Ds(P:List PFn)(r:Rl)(g:Nat)(S:Sy):Prop:=
 (∀i a,r.s.args[i]? =T a->S.F (vN r.f a) (vN g i))/\∀x,Fq P g x->S.F x r.tg
def KY(P:List PFn)(r:Rl)(S:Sy):Prop:=
 (r.s.kind=1->S.I r.tg (pN r.s.cK 0))/\(r.s.kind=2->S.I r.tg r.sr)/\(r.s.kind=4->S.I r.tg (fN r.s.cM))/\(r.s.kind=6->S.F r.sr r.tg)/\(r.s.kind=7->Ds P r r.s.cM S)
def Dk(P:List PFn)(r:Rl)(t:Nat)(S:Sy):Prop:=
 (r.s.kind=3->156<=t->(t-156) % 4=0->S.I r.tg (t+r.s.field))/\(r.s.kind=5->PK t->S.F t r.tg)/\(r.s.kind=9->PK t->S.F r.sr t)/\
 (r.s.kind=8->Zd t->(As P (t-144)).u9=r.s.args.length->S.E r.s.cK (t-144)/\Ds P r (t-144) S)
def AS(r:Rl):Prop:=r.s.kind=3\/r.s.kind=5\/r.s.kind=8\/r.s.kind=9
def Rl.at(r:Rl):Nat:=if r.s.kind=9 then r.tg else r.sr
structure Zl(P:List PFn)(S:Sy):Prop where
 flow:∀a b t,S.F a b->S.I a t->S.I b t
 beg:∀r,LZ P r->KY P r S
 fol:∀r t,LZ P r->AS r->S.I r.at t->Dk P r t S
def least(P:List PFn):Sy:=⟨fun c t=>∀S,Zl P S->S.I c t,fun a b=>∀S,Zl P S->S.F a b,fun n g=>∀S,Zl P S->S.E n g⟩
structure Sy.le(S T:Sy):Prop where
 i:∀c t,S.I c t->T.I c t
 f:∀a b,S.F a b->T.F a b
 e:∀n g,S.E n g->T.E n g
theorem Sy.le.rf(S:Sy):S.le S:=⟨fun _ _ h=>h,fun _ _ h=>h,fun _ _ h=>h⟩
theorem Sy.le.tr{S a R:Sy}(h:S.le a)(k:a.le R):S.le R:=⟨fun c t q=>k.i c t (h.i c t q),fun c t q=>k.f c t (h.f c t q),fun c t q=>k.e c t (h.e c t q)⟩
theorem Ds.up{P r g}{S b:Sy}(h:Ds P r g S)(k:S.le b):Ds P r g b:=⟨fun i a q=>k.f _ _ (h.1 i a q),fun x q=>k.f _ _ (h.2 x q)⟩
theorem KY.up{P r}{S a:Sy}(h:KY P r S)(k:S.le a):KY P r a:=
 ⟨fun q=>k.i _ _ (h.1 q),fun q=>k.i _ _ (h.2.1 q),fun q=>k.i _ _ (h.2.2.1 q),fun q=>k.f _ _ (h.2.2.2.1 q),fun q=>(h.2.2.2.2 q).up k⟩
theorem Dk.up{P r t}{S a:Sy}(h:Dk P r t S)(k:S.le a):Dk P r t a:=
 ⟨fun q u v=>k.i _ _ (h.1 q u v),fun q u=>k.f _ _ (h.2.1 q u),fun q u=>k.f _ _ (h.2.2.1 q u),fun q u v=>⟨k.e _ _ (h.2.2.2 q u v).1,(h.2.2.2 q u v).2.up k⟩⟩
theorem PV{P}{S:Sy}(h:Zl P S):(least P).le S:=⟨fun _ _ q=>q S h,fun _ _ q=>q S h,fun _ _ q=>q S h⟩
theorem L8{P r g}(h:∀S,Zl P S->Ds P r g S):Ds P r g (least P):=⟨fun i a q S b=>(h S b).1 i a q,fun x q S b=>(h S b).2 x q⟩
theorem Ew(P:List PFn):Zl P (least P):=by
 refine⟨fun a b t h k S c=>c.flow a b t (h S c) (k S c),fun r d=>?_,fun r t d e h=>?_⟩
 .exact⟨fun q S c=>(c.beg r d).1 q,fun q S c=>(c.beg r d).2.1 q,fun q S c=>(c.beg r d).2.2.1 q,fun q S c=>(c.beg r d).2.2.2.1 q,fun q=>L8 fun S c=>(c.beg r d).2.2.2.2 q⟩
 .exact⟨fun q u v S c=>(c.fol r t d e (h S c)).1 q u v,fun q u S c=>(c.fol r t d e (h S c)).2.1 q u,fun q u S c=>(c.fol r t d e (h S c)).2.2.1 q u,
   fun q u v=>⟨fun S c=>((c.fol r t d e (h S c)).2.2.2 q u v).1,L8 fun S c=>((c.fol r t d e (h S c)).2.2.2 q u v).2⟩⟩
structure Sv where
 s:Sy
 N:Nat->Nat->Prop
 W:Nat->Rl->Prop
structure BQ(P:List PFn)(X:Nat->Nat->Prop)(v:Sv):Prop where
 le:v.s.le (least P)
 np:∀c t,v.N c t->v.s.I c t
 fl:∀a b t,v.s.F a b->v.s.I a t->v.s.I b t\/v.N a t\/X a t
 fo:∀a r t,v.W a r->v.s.I a t->Dk P r t v.s\/v.N a t\/X a t
structure Sv.le(v u:Sv):Prop where
 s:v.s.le u.s
 w:u.W=v.W
theorem Sv.le.rf(v:Sv):v.le v:=⟨.rf _,rfl⟩
theorem Sv.le.tr{a b c:Sv}(h:a.le b)(k:b.le c):a.le c:=⟨h.s.tr k.s,k.w.trans h.w⟩
def Sv.give(v:Sv)(c:Nat)(a:Nat->Prop):Sv:=
 ⟨⟨fun x t=>v.s.I x t\/(x=c/\a t),v.s.F,v.s.E⟩,fun x t=>v.N x t\/(x=c/\a t/\¬v.s.I x t),v.W⟩
theorem Sv.give_le(v:Sv)(c a):v.le (v.give c a):=⟨⟨fun _ _ h=>.inl h,fun _ _ h=>h,fun _ _ h=>h⟩,rfl⟩
theorem BQ.give{P X}{v:Sv}{c}{e:Nat->Prop}(h:BQ P X v)(g:∀t,e t->(least P).I c t):BQ P X (v.give c e):=by
 refine⟨⟨?_,h.le.f,h.le.e⟩,?_,?_,?_⟩
 .rintro x t (q|⟨rfl,q⟩)
  .exact h.le.i x t q
  .exact g t q
 .rintro x t (q|⟨rfl,q,_⟩)
  .exact .inl (h.np x t q)
  .exact .inr ⟨rfl,q⟩
 .rintro a b t hF f;by_cases d:v.s.I a t
  .rcases h.fl a b t hF d with q|q|q
   .exact .inl (.inl q)
   .exact .inr (.inl (.inl q))
   .exact .inr (.inr q)
  .rcases f with q|⟨rfl,q⟩
   .exact jY q d
   .exact .inr (.inl (.inr ⟨rfl,q,d⟩))
 .rintro a r t i f;by_cases d:v.s.I a t
  .rcases h.fo a r t i d with q|q|q
   .exact .inl (q.up (Sv.give_le v c e).s)
   .exact .inr (.inl (.inl q))
   .exact .inr (.inr q)
  .rcases f with q|⟨rfl,q⟩
   .exact jY q d
   .exact .inr (.inl (.inr ⟨rfl,q,d⟩))
def Sv.edge(v:Sv)(a b:Nat):Sv:=⟨⟨v.s.I,fun x y=>v.s.F x y\/(x=a/\y=b),v.s.E⟩,v.N,v.W⟩
theorem Sv.edge_le(v:Sv)(a b):v.le (v.edge a b):=⟨⟨fun _ _ h=>h,fun _ _ h=>.inl h,fun _ _ h=>h⟩,rfl⟩
def Sv.flow(v:Sv)(a b:Nat):Sv:=(v.edge a b).give b (v.s.I a)
theorem Sv.flow_le(v:Sv)(a b):v.le (v.flow a b):=(Sv.edge_le v a b).tr (Sv.give_le _ _ _)
theorem Sv.flow_F(v:Sv)(a b):(v.flow a b).s.F a b:=.inr ⟨rfl,rfl⟩
theorem BQ.flow{P X}{v:Sv}{a b}(h:BQ P X v)(hF:(least P).F a b):BQ P X (v.flow a b):=by
 have g:∀t,v.s.I a t->(least P).I b t:=fun t q=>(Ew P).flow a b t hF (h.le.i a t q)
 have d:=h.give (c:=b) g;refine⟨⟨d.le.i,?_,h.le.e⟩,d.np,?_,?_⟩
 .rintro x y (q|⟨rfl,rfl⟩)
  .exact h.le.f x y q
  .exact hF
 .rintro x y t (q|⟨rfl,rfl⟩) e
  .exact d.fl x y t q e
  .by_cases f:v.s.I x t
   .exact .inl (.inr ⟨rfl,f⟩)
   .rcases e with q|⟨rfl,q⟩
    .exact jY q f
    .exact jY q f
 .rintro x r t i e;rcases d.fo x r t i e with q|q|q
  .exact .inl (q.up ⟨fun _ _ q=>q,fun _ _ q=>.inl q,fun _ _ q=>q⟩)
  .exact .inr (.inl q)
  .exact .inr (.inr q)
theorem BQ.kept{P X}{v:Sv}(h:BQ P X v){d:Nat->Nat->Prop}(e:∀c t,X c t->d c t):BQ P d v:=
 ⟨h.le,h.np,fun a b t q r=>(h.fl a b t q r).imp id (.imp id (e _ _)),fun a r t q u=>(h.fo a r t q u).imp id (.imp id (e _ _))⟩
def Sv.eD(v:Sv)(n g:Nat):Sv:=⟨⟨v.s.I,v.s.F,fun x y=>v.s.E x y\/(x=n/\y=g)⟩,v.N,v.W⟩
theorem Sv.ent_le(v:Sv)(n g):v.le (v.eD n g):=⟨⟨fun _ _ h=>h,fun _ _ h=>h,fun _ _ h=>.inl h⟩,rfl⟩
theorem BQ.eD{P X}{v:Sv}{n g}(h:BQ P X v)(a:(least P).E n g):BQ P X (v.eD n g):=by
 refine⟨⟨h.le.i,h.le.f,?_⟩,h.np,h.fl,?_⟩
 .rintro x y (q|⟨rfl,rfl⟩)
  .exact h.le.e x y q
  .exact a
 .rintro x r t c b;exact(h.fo x r t c b).imp (fun q=>q.up (Sv.ent_le v n g).s) id
def Sv.wait(v:Sv)(a:Nat)(r:Rl):Sv:=⟨v.s,v.N,fun x y=>v.W x y\/(x=a/\y=r)⟩
theorem BQ.wait{P X}{v:Sv}{a r}(h:BQ P X v)(c:∀t,v.s.I a t->v.N a t):BQ P X (v.wait a r):=by
 refine⟨h.le,h.np,h.fl,?_⟩;rintro x y t (q|⟨rfl,rfl⟩) b
 .exact h.fo x y t q b
 .exact .inr (.inl (c t b))
theorem BQ.done{P}{v:Sv}(h:BQ P (fun _ _=>False) v)(d:∀c t,¬v.N c t)(e:∀r,LZ P r->KY P r v.s)(f:∀r,LZ P r->AS r->v.W r.at r):v.s.le (least P)/\(least P).le v.s:=by
 refine⟨h.le,PV ⟨fun a b t q r=>?_,e,fun r t q u k=>?_⟩⟩
 .rcases h.fl a b t q r with q|q|q
  .exact q
  .exact jY q (d _ _)
  .exact q.elim
 .rcases h.fo _ r t (f r q u) k with q|q|q
  .exact q
  .exact jY q (d _ _)
  .exact q.elim
structure Sv.up(v u:Sv):Prop where
 le:v.le u
 n:∀c t,v.N c t->u.N c t
 old:∀c t,u.N c t->v.N c t\/¬v.s.I c t
 new:∀c t,u.s.I c t->v.s.I c t\/u.N c t
 ed:∀a b,u.s.F a b->v.s.F a b\/∀t,v.s.I a t->u.s.I b t
theorem Sv.up.rf(v:Sv):v.up v:=⟨.rf _,fun _ _ h=>h,fun _ _ h=>.inl h,fun _ _ h=>.inl h,fun _ _ h=>.inl h⟩
theorem Sv.up.tr{a b c:Sv}(h:a.up b)(k:b.up c):a.up c:=
 ⟨h.le.tr k.le,fun x t q=>k.n x t (h.n x t q),fun x t q=>(k.old x t q).elim (h.old x t) fun q=>.inr fun r=>q (h.le.s.i x t r),fun x t q=>(k.new x t q).elim (fun q=>(h.new x t q).imp id (k.n x t)) .inr,
   fun x y q=>(k.ed x y q).elim (fun q=>(h.ed x y q).imp id fun q t r=>k.le.s.i y t (q t r)) fun q=>.inr fun t r=>q t (h.le.s.i x t r)⟩
theorem Sv.give_up(v:Sv)(c a):v.up (v.give c a):=by
 refine⟨Sv.give_le v c a,fun _ _ q=>.inl q,fun x t q=>q.imp id fun q=>q.2.2,fun x t q=>?_,fun _ _ q=>.inl q⟩;rcases q with q|⟨rfl,q⟩
 .exact .inl q
 .by_cases h:v.s.I x t
  .exact .inl h
  .exact .inr (.inr ⟨rfl,q,h⟩)
theorem Sv.flow_up(v:Sv)(a b):v.up (v.flow a b):=by
 have h:=Sv.give_up v b (v.s.I a);refine⟨Sv.flow_le v a b,h.n,h.old,h.new,?_⟩;rintro x y (q|⟨rfl,rfl⟩)
 .exact .inl q
 .exact .inr fun t r=>.inr ⟨rfl,r⟩
theorem Sv.ent_up(v:Sv)(n g):v.up (v.eD n g):=⟨Sv.ent_le v n g,fun _ _ h=>h,fun _ _ h=>.inl h,fun _ _ h=>.inl h,fun _ _ h=>.inl h⟩
theorem BQ.passed{P X c}{m:Nat->Prop}{v u:Sv}(h:BQ P (fun a t=>X a t\/(a=c/\m t)) u)(k:v.up u)(f:∀t,m t->v.s.I c t)(d:∀b t,v.s.F c b->m t->u.s.I b t)(e:∀r t,v.W c r->m t->Dk P r t u.s):BQ P X u:=by
 refine⟨h.le,h.np,fun a b t q r=>?_,fun a r t q i=>?_⟩
 .rcases h.fl a b t q r with z|z|z|⟨rfl,z⟩
  .exact .inl z
  .exact .inr (.inl z)
  .exact .inr (.inr z)
  .exact .inl ((k.ed a b q).elim (fun q=>d b t q z) fun q=>q t (f t z))
 .rcases h.fo a r t q i with z|z|z|⟨rfl,z⟩
  .exact .inl z
  .exact .inr (.inl z)
  .exact .inr (.inr z)
  .exact .inl (e r t (by rw[<-k.le.w];exact q) z)
def Sv.took(v:Sv):Sv:=⟨v.s,fun _ _=>False,v.W⟩
theorem BQ.took{P}{v:Sv}(h:BQ P (fun _ _=>False) v):BQ P v.N v.took:=
 ⟨h.le,fun _ _ q=>q.elim,fun a b t q r=>(h.fl a b t q r).imp id fun z=>.inr (z.elim id False.elim),fun a b t q r=>(h.fo a b t q r).imp id fun z=>.inr (z.elim id False.elim)⟩
theorem Ou:∃c:(Nat->Prop)->Nat,∀p n,p n->p (c p)/\c p<=n:=by
 have h:∀p:Nat->Prop,∃k,∀n,p n->p k/\k<=n:=fun p=>by
  by_cases b:∃n,p n
  .obtain⟨n,a⟩:=b;induction n using Nat.strongRecOn with
   |_ n g=>
    by_cases q:∃m,m<n/\p m
    .obtain⟨m,d,e⟩:=q;exact g m d e
    .exact⟨n,fun m f=>⟨a,Nat.le_of_not_lt fun r=>q ⟨m,r,f⟩⟩⟩
  .exact⟨0,fun n a=>jY ⟨n,a⟩ b⟩
 exact⟨fun p=>Classical.choose (h p),fun p=>Classical.choose_spec (h p)⟩
def Sv.raw(v:Sv):Prop:=∀c t,v.s.I c t->v.N c t
theorem Sv.raw.up{v u:Sv}(h:v.raw)(k:v.up u):u.raw:=fun c t q=>(k.new c t q).elim (fun q=>k.n c t (h c t q)) id
def Sv.left(B:Nat)(v:Sv)(n:Nat):Prop:=n=(List.range (B*B)).countP fun i=>@decide (¬(v.s.I (i / B) (i % B)/\¬v.N (i / B) (i % B))) (Classical.propDecidable _)
theorem Hq{p q:Nat->Bool}:∀(l:List Nat),(∀x,x∈l->p x=true->q x=true)->(∃x,x∈l/\q x=true/\p x=false)->l.countP p<l.countP q
 |[],_,h=>by obtain⟨x,b,_⟩:=h;exact jY b iR
 |a::l,d,h=>by
  have i:l.countP p<=l.countP q:=List.countP_mono_left fun x b=>d x (iK _ b)
  obtain⟨x,b,e,f⟩:=h;rw[List.countP_cons,List.countP_cons];rcases jJ.1 b with rfl|b
  .rw[e,f];simp;omega
  .have:=Hq l (fun x b=>d x (iK _ b)) ⟨x,b,e,f⟩;have g:=d a jP;by_cases c:p a=true
   .rw[c,g c];omega
   .simp only[Bool.not_eq_true]at c;rw[c];split<;>simp_all<;>omega
theorem Sv.left_lt{B:Nat}{v u:Sv}{x:Sv}(a:x.s=v.s/\∀c t,¬x.N c t)(h:x.up u)(w:∃c t,c<B/\t<B/\v.N c t)(r:∀c t,v.N c t->v.s.I c t){n m:Nat}(j:v.left B n)(g:u.left B m):m<n:=by
 unfold Sv.left at j g;rw[j,g];obtain⟨c,t,s,l,e⟩:=w;have o:∀c t,v.s.I c t->u.s.I c t/\¬u.N c t:=fun c t q=>⟨h.le.s.i c t (by rw[a.1];exact q),fun k=>(h.old c t k).elim (a.2 c t) fun k=>k (by rw[a.1];exact q)⟩
 have p:0<B:=by omega
 have b:(c*B+t) / B=c:=by rw[Nat.mul_comm,Nat.mul_add_div p,Nat.div_eq_of_lt l];rfl
 have d:(c*B+t) % B=t:=by rw[Nat.mul_comm,Nat.mul_add_mod,Nat.mod_eq_of_lt l]
 refine Hq _ (fun i _ f=>?_) ⟨c*B+t,?_,?_,?_⟩
 .simp only[jN]at f⊢;exact fun q=>f (o _ _ q.1)
 .rw[List.mem_range];calc c*B+t<c*B+B:=by omega
   _=(c+1)*B:=by rw[Nat.add_mul];omega
   _<=B*B:=Nat.mul_le_mul_right B s
 .simp only[jN];rw[b,d];exact fun q=>q.2 e
 .simp only[decide_eq_false_iff_not,Classical.not_not];rw[b,d];exact o c t (r c t e)
theorem O.thn{X Y:Nat->Prop}{a b c:World}(h:O X a b)(k:O Y b c)(g:∀j,j<a.heap.size->Y j->X j):O X a c:=
 ⟨k.os.trans h.os,k.tape.trans h.tape,k.output.trans h.output,iG h.size k.size,fun j d e=>(k.block j (iI d h.size) (fun q=>e (g j d q))).trans (h.block j d e)⟩
structure Q8{α:Type}(R:Value->Option (DataW Unit×List MemPlace))(mk:α->Value)(dc:α->DataW Unit)(ok:α->Prop):Prop where
 rd:∀a,ok a->R (mk a)=T (dc a,[])
 inv:∀v z,R v=T z->∃a,v=mk a/\z=(dc a,[])/\ok a
 inj:∀a b,dc a=dc b->a=b
def kI(k:Nat):Lit:=Lit.int .i64 k
theorem L4{a b:Nat}(h:kI a=kI b):a=b:=by unfold kI at h;cases h;rfl
theorem C8:Keyed prog 3:=int_keyed underlying3
theorem Tc{k:Nat}(h:k<20000):keyOf prog 3 (G A k)=T (kI k):=keyOf_int_mk underlying3 (WalkArith.wf_i64 (by omega))
theorem RC{k:Nat}(h:k<20000):WideAt.IsKeyLit (kI k):=C8.key (Tc h)
theorem JC(n:Nat):∀(l:List Nat),l.Pairwise (·≠ ·)->l.length<=(l.filter fun x=>decide (x≠n)).length+1
 |[],_=>by simp
 |a::l,h=>by
  obtain⟨c,d⟩:=List.pairwise_cons.1 h;by_cases b:a=n
  .subst b;have e:l.filter (fun x=>decide (x≠a))=l:=List.filter_eq_self.2 fun x g=>by simp;exact fun q=>c x g q.symm
   rw[List.filter_cons_of_neg (by simp),e];simp
  .have:=JC n l d;rw[List.filter_cons_of_pos (by simpa using b)];simp only[gU];omega
theorem DQ:∀(n:Nat) (l:List Nat),l.Pairwise (·≠ ·)->(∀x,x∈l->x<n)->l.length<=n
 |0,[],_,_=>gS _
 |0,a::_,_,h=>jY (h a jP) (by omega)
 |n+1,l,b,h=>by
  have d:=JC n l b;have e:=DQ n (l.filter fun x=>decide (x≠n)) (b.filter _) fun x c=>by have:=List.mem_filter.1 c;have:=h x this.1;have:=(List.mem_filter.1 c).2;simp at this;omega
  omega
theorem YB{n:Nat}{l:List Lit}(d:l.Pairwise (·≠ ·))(h:∀x,x∈l->∃k,k<n/\x=kI k):l.length<=n:=by
 have e:∃m:List Nat,l=m.map kI/\∀x,x∈m->x<n:=by
  clear d;induction l with
  |nil=>exact⟨[],rfl,by simp⟩
  |cons a l j=>
   obtain⟨m,rfl,b⟩:=j fun x c=>h x (iK _ c)
   obtain⟨k,g,rfl⟩:=h a jP;exact⟨k::m,rfl,fun x c=>(jJ.1 c).elim (fun q=>q▸g) (b x)⟩
 obtain⟨m,rfl,b⟩:=e;rw[iT];exact DQ n m ((List.pairwise_map.1 d).imp fun q r=>q (congrArg kI r)) b
theorem NF{R:Value->Option (DataW Unit×List MemPlace)}{b n a}{w:World}(h:w.ownsMap prog 3 R b n a)(r:∀x,has a x=true->∃k,k<20000/\x=kI k):w.ownsMap prog 3 R b 20000 a/\Maps.size a<=20000:=by
 obtain⟨g,j,c,s⟩:=h.entries C8;have t:g.length<=20000:=by
  have:=YB (n:=20000) (l:=g.map fun p=>p.1) (List.pairwise_map.2 c) fun x v=>by obtain⟨p,c,rfl⟩:=jD.1 v;exact r p.1 (by rw[j,Maps.has_eq];exact List.any_eq_true.2 ⟨p,c,WideAt.sameKey_self (s p c)⟩)
  simpa using this
 have d:Maps.size a<=20000:=by rw[j];exact t
 refine⟨?_,d⟩;obtain⟨m,o,q,F,_,e⟩:=h;refine⟨m,o,q,F,?_,e⟩;rw[e]at d;simpa[Maps.size,length_sorted]using d
def BW{α:Type}(R:Value->Option (DataW Unit×List MemPlace))(dc:α->DataW Unit)(b:Nat)(g:Nat->Option α)(w:World):Prop:=
 ∃c,w.ownsMap prog 3 R b 20000 c/\(∀x,has c x=true->∃k,k<20000/\x=kI k)/\(∀k a,g k=T a->k<20000)/\(∀k,k<20000->g k=Z->has c (kI k)=false)/\∀k a,g k=T a->has c (kI k)=true/\∀z,c.atKey (kI k) z=dc a
section
variable{α:Type}{R:Value->Option (DataW Unit×List MemPlace)}{mk:α->Value}{dc:α->DataW Unit}{ok:α->Prop}{b:Nat}{g:Nat->Option α}{w f:World}
theorem BW.lt(h:BW R dc b g w):b<w.heap.size:=by obtain⟨a,h,_⟩:=h;exact h.lt
theorem BW.d8{X:Nat->Prop}(h:BW R dc b g w)(k:O X w f)(l:¬X b):BW R dc b g f:=by obtain⟨c,⟨e,d,a,r⟩,j⟩:=h;exact⟨c,⟨e,d,by rw[k.block b (lt_of_block a) l];exact a,r⟩,j⟩
theorem BW.isMap(h:BW R dc b g w):∃a c,w.heap[b]? =T (.map a c):=by obtain⟨j,⟨a,d,e,r⟩,k⟩:=h;exact⟨a,d,e⟩
theorem BW.ne{c d t e}(h:BW R dc b g w)(a:w.heap[c]? =T (.cells d t e)):b≠c:=by obtain⟨l,k,j⟩:=h.isMap;rintro rfl;rw[j]at a;cases a
theorem BW.made(w:World):BW R dc w.heap.size (fun _=>Z) (w.alloc (.map #[] 0)):=
 ⟨.map [],(World.ownsMap_made w _ _ _).mono (iF _),fun x h=>by simp[Maps.has_eq]at h,fun _ _ h=>by simp at h,fun _ _ _=>rfl,fun _ _ h=>by simp at h⟩
theorem BW.ext{a}(h:BW R dc b g w)(e:∀k,g k=a k):BW R dc b a w:=by rw[<-show g=a from funext e];exact h
theorem BW.look{t e:TypeId}(h:BW R dc b g w)(E:Q8 R mk dc ok)(C:Tryz.prog.underlying t=T (.map 3 e)){z:Value}(H:(zeroValue e).run prog w=.ok z w){k:Nat}(p:k<20000)(c:Bool):
 (g k=Z->(Instr.lookup t (.map (T b)) (G A k) c).run prog w=.ok (if c then .tuple #[z,.bool false]else z) w)/\∀a,g k=T a->(Instr.lookup t (.map (T b)) (G A k) c).run prog w=.ok (if c then .tuple #[mk a,.bool true]else mk a) w:=by
 obtain⟨I,s,N,P,v,o⟩:=h;obtain⟨M,K,B,F,_,rfl⟩:=s;rcases Maps.fit_look c C8 C H B F (Tc p)with⟨m,Q,l⟩|⟨L,y,_,_,m,x,l,_⟩
 .have j:=Maps.has_false_of_atKey l;exact⟨fun _=>m,fun a d=>(by rw[(o k a d).1]at j;cases j)⟩
 .obtain⟨n,q,rfl,S⟩:=E.inv _ _ x;have j:=Maps.has_true_of_atKey l;refine⟨fun d=>(by rw[v k p d]at j;cases j),fun a d=>?_⟩;have r:n=a:=E.inj n a ((l (dc a)).symm.trans ((o k a d).2 (dc a)));rw[m,q,r]
theorem BW.put{t e:TypeId}(h:BW R dc b g w)(E:Q8 R mk dc ok)(K:Tryz.prog.underlying t=T (.map 3 e)){k:Nat}(d:k<20000){a:α}(H:ok a):
 ∃f,(Instr.mapUpdate t (.map (T b)) (G A k) (mk a)).run prog w=.ok () f/\BW R dc b (fun x=>if x=k then T a else g x) f/\O (fun k=>k=b) w f:=by
 obtain⟨p,l,s,v,B,m⟩:=h;obtain⟨f,I,C,F⟩:=World.ownsMap.store l C8 K (by unfold maxLen;omega) (Tc d) (E.rd a H);have n:∀x,has (p.put (kI k) (dc a)) x=true->∃k,k<20000/\x=kI k:=fun x c=>by
  by_cases o:x=kI k
  .exact⟨k,d,o⟩
  .rw[Maps.has_put_other o]at c;exact s x c
 refine⟨f,I,⟨_,(NF C n).1,n,fun x y c=>?_,fun x c j=>?_,fun x y c=>?_⟩,(O.refl _ w).grown F.grown (fun k d=>.inl (by cases d;rfl))⟩
 .dsimp only at c;split at c
  .next q=>rw[q];exact d
  .exact v x y c
 .dsimp only at j;split at j
  .cases j
  .next q=>rw[Maps.has_put_other (fun r=>q (L4 r))];exact B x c j
 .dsimp only at c;split at c
  .next q=> cases c;rw[q];exact⟨Maps.has_put_same l.isMap (RC d) _,fun z=>Maps.atKey_put_same l.isMap (RC d) _ z⟩
  .next q=> rw[Maps.has_put_other (fun r=>q (L4 r))];exact⟨(m x y c).1,fun z=>by rw[Maps.atKey_put_other (fun r=>q (L4 r))];exact(m x y c).2 z⟩
theorem BW.len{t e:TypeId}(h:BW R dc b g w)(B:Tryz.prog.underlying t=T (.map 3 e))(m:TypeId):
 ∃n:Nat,n<=20000/\(Builtin.len_ #[t] m #[.map (T b)]).run prog w=.ok (G A n) w/\(n=0↔∀k,g k=Z):=by
 obtain⟨o,d,l,C,r,s⟩:=h;refine⟨Maps.size o,(NF d l).2,d.len B m,?_⟩;obtain⟨c,rfl,E,y⟩:=d.entries C8;rw[Maps.size_eq];constructor
 .intro q k;cases v:g k with
  |none=>rfl
  |some a=> have:=(s k a v).1;rw[List.length_eq_zero_iff.1 q,Maps.has_eq]at this;simp at this
 .intro z;cases c with
  |nil=>rfl
  |cons p c=>
   have j:has (.map (p::c):DataW Unit) p.1=true:=by rw[Maps.has_eq];exact List.any_eq_true.2 ⟨p,jP,WideAt.sameKey_self (y p jP)⟩
   obtain⟨k,x,e⟩:=l _ j;rw[e,r k x (z k)]at j;cases j
def FY(R:Value->Option (DataW Unit×List MemPlace))(dc:α->DataW Unit)(b r:Nat)(g:Nat->Option α)(e:Nat->Prop)(w:World):Prop:=
 ∃c left d,w.ranges prog 3 R b r 20000 c left d/\(∀x,has c x=true->∃k,k<20000/\x=kI k)/\(∀k a,g k=T a->k<20000)/\(∀k,k<20000->g k=Z->has c (kI k)=false)/\(∀k a,g k=T a->has c (kI k)=true/\∀z,c.atKey (kI k) z=dc a)/\∀k,e k↔left (kI k)=true
theorem FY.map{r}{l:Nat->Prop}(h:FY R dc b r g l w):BW R dc b g w:=by obtain⟨a,left,m,c,d,e,j,k,n⟩:=h;exact⟨a,c.owns,d,e,j,k⟩
theorem FY.ltr{r}{c:Nat->Prop}(h:FY R dc b r g c w):r<w.heap.size:=by obtain⟨d,left,e,a,_⟩:=h;exact a.lt
theorem FY.iter{r}{j:Nat->Prop}(h:FY R dc b r g j w):∃a s c d,w.heap[r]? =T (.mapIter a s c d):=by obtain⟨k,left,n,⟨o,m,y,x,l,t,F,v,p,e,q⟩,_⟩:=h;exact⟨_,_,_,_,e⟩
theorem FY.d8{r}{k X:Nat->Prop}(h:FY R dc b r g k w)(j:O X w f)(s:¬X b)(v:¬X r):FY R dc b r g k f/\f.rangeLeft b r=w.rangeLeft b r:=by
 have z:=h.map.lt;have B:=h.ltr;obtain⟨a,left,c,d,o⟩:=h;have e:f.ranges prog 3 R b r 20000 a left c:=by obtain⟨n,m,E,C,l,t,F,y,p,x,q⟩:=d;exact⟨n,m,E,C,l,(j.block b z s).trans t,F,y,p,(j.block r B v).trans x,q⟩
 exact⟨⟨a,left,c,e,o⟩,by rw[d.left_eq,e.left_eq]⟩
variable{i:Array Oper}{u:List Oper}{o:Oper}{a:Act}{Q:Exit->Act->World->Prop}
theorem EC(w:World)(d:o.guard=Z)(m:Operand)(t:TypeId)(z:o.op=Op.range t m)(e:TypeId)(F:Tryz.prog.underlying t=T (.map 3 e)){R:Value->Option (DataW Unit×List MemPlace)}{dc:α->DataW Unit}(b:Nat){g:Nat->Option α}
 (y:a.eval m=.map (T b))(B:BW R dc b g w)
 (r:∀f,FY R dc b w.heap.size g (fun k=>∃a,g k=T a) f->O kJ w f->f.heap.size=w.heap.size+1->wpList prog i Q u (a.put o.dst (.pointer (T ⟨w.heap.size,0,Z⟩))) f):
 wpList prog i Q (o::u) a w:=by
 obtain⟨h,p,j,q,l,n⟩:=B;refine wpList_range_own w d m t z 3 e C8 F R b 20000 h y p fun f C v E=>r f ⟨h,_,_,C,j,q,l,n,fun k=>⟨?_,fun c=>?_⟩⟩ ((O.refl _ w).grown v (fun k c=>by cases c)) E
 .rintro⟨a,s⟩;exact(n k a s).1
 .obtain⟨H,x,e⟩:=j _ c;have e:=L4 e;subst e;cases d:g k with
  |none=>rw[l k x d]at c;cases c
  |some a=>exact⟨a,rfl⟩
theorem EU(w:World)(hg:o.guard=Z)(m:Operand)(a7:o.op=Op.next m false)(E:Q8 R mk dc ok)(b r:Nat){g:Nat->Option α}{d:Nat->Prop}(a3:a.eval m=.pointer (T ⟨r,0,Z⟩))(h:FY R dc b r g d w)
 (V:(∀k,¬d k)->wpList prog i Q u (a.put o.dst (.tuple #[.bool false])) w)
 (X:∀(k:Nat) (x:α) (f:World),k<20000->d k->g k=T x->ok x->FY R dc b r g (fun z=>d z/\z≠k) f->f.rangeLeft b r<w.rangeLeft b r->O (fun z=>z=r) w f->f.heap.size=w.heap.size->(Instr.entry (.pointer (T ⟨r,0,Z⟩))).run prog f=.ok (.tuple #[G A k,mk x]) f->wpList prog i Q u (a.put o.dst (.tuple #[.bool true,G A k,mk x])) f):
 wpList prog i Q (o::u) a w:=by
 have b0:=h.map;obtain⟨n,left,M,s,t,U,B,C,e⟩:=h;refine wpList_next_ranges w hg m a7 3 C8 R (fun v:Value=>v) (fun v:Value=>v) (fun K _ _=>⟨K,rfl⟩) (fun v _ _=>⟨v,rfl⟩) b r 20000 n left M a3 s (fun _ hl=>V fun k c=>?_) ?_
 .have:=hl (kI k);rw[(e k).1 c]at this;cases this
 .rintro K v kl y f N a4 a5 hv F I a6 a2 a8 a0;have j:=Maps.has_true_of_atKey F;obtain⟨k,c,rfl⟩:=t kl j;obtain⟨x',S,p,b1⟩:=Maps.keyOf_int_inv underlying3 a4;have P:x'=(k:Int):=by unfold kI at p;cases p;rfl
  subst S;subst P;obtain⟨x,rfl,rfl,a9⟩:=E.inv v _ hv;have a1:g k=T x:=by
   cases H:g k with
   |none=>rw[B k c H]at j;cases j
   |some L=>rw[E.inj x L ((F (dc x)).symm.trans ((C k L H).2 (dc x)))]
  refine X k x f c ((e k).2 a5) a1 a9 ⟨n,_,N,I,t,U,B,C,fun z=>?_⟩ (by rw[I.left_eq,s.left_eq];exact a6) ((O.refl _ w).grown a2 (fun k c=>.inl (by cases c;rfl))) a8 a0;show(d z/\z≠k)↔_;rw[e z];by_cases l:z=k
  .subst l;simp[WideAt.sameKey_self (RC c)]
  .simp[l,sameKey_ne (fun q=>l (L4 q))]
end
theorem Yi(x i:Nat):x &&& 2 ^ i=0↔x.testBit i=false:=by
 constructor
 .intro h;have:=congrArg (fun y=>y.testBit i) h;simpa[Nat.testBit_and,Nat.testBit_two_pow]using this
 .intro h;apply Nat.eq_of_testBit_eq;intro j;rw[Nat.testBit_and,Nat.testBit_two_pow,Nat.zero_testBit];by_cases a:i=j
  .subst a;simp[h]
  .simp[a]
theorem SN{x:Nat}(h:x<18446744073709551616)(y j:Nat)(b:y<18446744073709551616):(y &&& (18446744073709551615-x)).testBit j=(y.testBit j && !x.testBit j):=by
 have e:18446744073709551615-x=2 ^ 64-(x+1):=by omega
 rw[Nat.testBit_and,e,Nat.testBit_two_pow_sub_succ (by omega:x<2 ^ 64)];by_cases a:j<64
 .simp[a]
 .have:y.testBit j=false:=Nat.testBit_lt_two_pow (iI (by omega:y<2 ^ 64) (Nat.pow_le_pow_right (by decide) (by omega)));simp[this]
theorem Lw{x:Nat}(h:x≠0):∃i,x.testBit i=true:=by
 apply Classical.byContradiction;intro q;exact h (Nat.eq_of_testBit_eq fun i=>by
  rw[Nat.zero_testBit];cases a:x.testBit i
  .rfl
  .exact jY ⟨i,a⟩ q)
theorem VM{x i:Nat}(h:x<18446744073709551616)(a:x.testBit i=true):i<64:=by apply Classical.byContradiction;intro q;rw[Nat.testBit_lt_two_pow (iI (by omega:x<2 ^ 64) (Nat.pow_le_pow_right (by decide) (by omega)))]at a;cases a
theorem LO{x:Nat}(f:x≠0)(h:x<18446744073709551616):Lib.ctz 64 x<64/\x.testBit (Lib.ctz 64 x)=true/\∀i,(x &&& (x-1)).testBit i=(x.testBit i && decide (i≠Lib.ctz 64 x)):=by
 obtain⟨m,a,n⟩:=Lib.ctzFrom_spec 64 x (by omega) (by omega);have e:Lib.ctz 64 x=Lib.ctzFrom 64 x:=by simp[Lib.ctz,f]
 rw[e];generalize Lib.ctzFrom 64 x=k at*;have p:0<2 ^ k:=Nat.two_pow_pos k;have c:x-1=2 ^ k*(2*m)+(2 ^ k-1):=by rw[a,Nat.mul_add,Nat.mul_one];omega
 have b:∀i,x.testBit i=(decide (k<=i) && (2*m+1).testBit (i-k)):=fun i=>by rw[a,Nat.mul_comm,Nat.testBit_mul_two_pow]
 have o:∀i,(x-1).testBit i=if i<k then(2 ^ k-1).testBit i else(2*m).testBit (i-k):=fun i=>by rw[c,Nat.testBit_two_pow_mul_add _ (by omega)]
 refine⟨n,by rw[b];simp,fun i=>?_⟩;rw[Nat.testBit_and,b,o];by_cases g:i<k
 .have:¬k<=i:=by omega
  simp[this]
 .rw[jQ g];by_cases l:i=k
  .subst l;simp
  .obtain⟨j,rfl⟩:∃j,i=k+(j+1):=⟨i-k-1,by omega⟩;have d:k+(j+1)-k=j+1:=by omega
   rw[d,Nat.testBit_succ,Nat.testBit_succ,show(2*m+1) / 2=m by omega,show 2*m / 2=m by omega];simp
theorem Pk{x:Nat}(a:x≠0):x &&& (x-1)<x:=by have:x &&& (x-1)<=x-1:=Nat.and_le_right;omega
structure Wd(g:Nat->Option Nat)(m:Nat->Prop):Prop where
 ok:∀k x,g k=T x->x≠0/\x<18446744073709551616/\k<300
 dF:∀n,m n↔∃x,g (n / 64)=T x/\x.testBit (n % 64)=true
theorem Wd.lt{g m}(h:Wd g m){n}(a:m n):n<19200:=by obtain⟨x,b,_⟩:=(h.dF n).1 a;have:=(h.ok _ _ b).2.2;omega
theorem Wd.nil:Wd (fun _=>Z) (fun _=>False):=⟨fun _ _ h=>by simp at h,fun n=>by simp⟩
theorem Wd.empty{g m}(h:Wd g m):(∀k,g k=Z)↔∀n,¬m n:=by
 constructor
 .intro q n d;obtain⟨x,c,_⟩:=(h.dF n).1 d;rw[q]at c;cases c
 .intro q k;cases a:g k with
  |none=>rfl
  |some x=> obtain⟨i,b⟩:=Lw (h.ok k x a).1;have e:=VM (h.ok k x a).2.1 b;exact jY ((h.dF (k*64+i)).2 ⟨x,by rw[show(k*64+i) / 64=k by omega];exact a,by rw[show(k*64+i) % 64=i by omega];exact b⟩) (q _)
def wd(g:Nat->Option Nat)(k:Nat):Nat:=(g k).getD 0
theorem Wd.word{g m}(h:Wd g m)(n:Nat):m n↔(wd g (n / 64)).testBit (n % 64)=true:=by
 rw[h.dF];unfold wd;cases g (n / 64)with
 |none=>simp
 |some x=>simp
theorem Wd.small{g m}(h:Wd g m)(k:Nat):wd g k<18446744073709551616:=by
 unfold wd;cases a:g k with
 |none=>simp
 |some x=>exact(h.ok k x a).2.1
theorem Wd.put{g m}(h:Wd g m){k y:Nat}(l:k<300)(e:y≠0)(j:y<18446744073709551616):Wd (fun x=>if x=k then T (wd g k|||y)else g x) (fun n=>m n\/(n / 64=k/\y.testBit (n % 64)=true)):=by
 refine⟨fun x z c=>?_,fun n=>?_⟩
 .split at c
  .next q=>
   cases c;refine⟨fun f=>?_,?_,by omega⟩
   .obtain⟨i,d⟩:=Lw e;have:=congrArg (fun a=>a.testBit i) f;simp[Nat.testBit_or,d]at this
   .have:=Nat.or_lt_two_pow (n:=64) (x:=wd g k) (y:=y) (by have:=h.small k;omega) (by omega);omega
  .exact h.ok x z c
 .by_cases b:n / 64=k
  .simp only[b,if_true,true_and];rw[h.word,b];simp[Nat.testBit_or]
  .simp only[b,if_false,false_and,or_false];exact h.dF n
def MK:Value->Option (DataW Unit×List MemPlace)
 |.int .u64 a=>if 0<=a/\a<18446744073709551616 then T (.lit (.int .u64 a),[])else Z
 |_=>Z
def K7(n:Nat):DataW Unit:=.lit (.int .u64 n)
def QU(n:Nat):Value:=.int .u64 n
theorem MN:Q8 MK QU K7 (fun n=>n<18446744073709551616):=by
 refine⟨fun a d=>?_,fun v z c=>?_,fun a b h=>?_⟩
 .unfold MK QU K7;simp only;rw[jR ⟨by omega,by omega⟩]
 .unfold MK at c;split at c
  .next a=>
   split at c
   .next h0=>
    cases c;refine⟨a.toNat,?_,?_,by omega⟩
    .unfold QU;rw[Int.toNat_of_nonneg h0.1]
    .unfold K7;rw[Int.toNat_of_nonneg h0.1]
   .cases c
  .cases c
 .unfold K7 at h;cases h;rfl
def Bn(b:Nat)(m:Nat->Prop)(w:World):Prop:=∃g,BW MK K7 b g w/\Wd g m
theorem Bn.d8{b:Nat}{m X:Nat->Prop}{w a}(h:Bn b m w)(e:O X w a)(f:¬X b):Bn b m a:=by obtain⟨g,c,d⟩:=h;exact⟨g,c.d8 e f,d⟩
theorem Bn.lt{b:Nat}{m:Nat->Prop}{w}(h:Bn b m w):b<w.heap.size:=by obtain⟨g,a,c⟩:=h;exact a.lt
theorem Bn.made(w:World):Bn w.heap.size (fun _=>False) (w.alloc (.map #[] 0)):=⟨_,BW.made w,Wd.nil⟩
theorem Bn.iff{b:Nat}{m m':Nat->Prop}{w}(h:Bn b m w)(e:∀n,m n↔m' n):Bn b m' w:=by rw[<-show m=m' from funext fun n=>propext (e n)];exact h
theorem Wd.iff{g}{m m':Nat->Prop}(h:Wd g m)(e:∀n,m n↔m' n):Wd g m':=by rw[<-show m=m' from funext fun n=>propext (e n)];exact h
theorem YW(w:World):(zeroValue 226).run prog w=.ok (.int .u64 0) w:=by go_simp
theorem BW.word{b g w}(h:BW MK K7 b g w){k:Nat}(f:k<20000):(Instr.lookup 69 (.map (T b)) (G A k) false).run prog w=.ok (.int .u64 (wd g k)) w:=by
 obtain⟨d,e⟩:=h.look MN underlying69 (YW w) f false;unfold wd;cases c:g k with
 |none=>exact d c
 |some a=>exact e a c
theorem Gp(b:Nat)(m:Nat->Prop)(x:Nat)(w:World)(h:Bn b m w)(hx:x<19200):
 Calls prog 91 #[.map (T b),G A x] w fun e K=>∃r:Bool,e=.returned (.bool r)/\(r=true↔¬m x)/\Bn b (fun n=>m n\/n=x) K/\O (fun k=>k=b) w K:=by
 obtain⟨g,o,i⟩:=h;have S:(Instr.lookup 69 (.map (T b)) (G A ((x:Int) / 64)) false).run prog w.drew=.ok (.int .u64 (wd g (x / 64))) w.drew:=by have:=(o.d8 (O.drew (O.refl kJ w)) id).word (k:=x / 64) (by omega);rw[show(((x / 64:Nat):Nat):Int)=(x:Int) / 64 by omega]at this;exact this
 obtain⟨c,d⟩:∃c,c=2 ^ (x % 64):=⟨_,rfl⟩;have l:c<18446744073709551616:=by have:2 ^ (x % 64)<2 ^ 64:=Nat.pow_lt_pow_right (by decide) (by omega);rw[d];omega
 have a2:IntKind.u64.wrap (2 ^ (x % 64))=(c:Int):=by
  rw[IntKind.wrap_u64,d];have:((2:Int) ^ (x % 64))=((2 ^ (x % 64):Nat):Int):=by simp
  rw[this];omega
 have p:=i.word x;have s:=i.put (k:=x / 64) (y:=c) (by omega) (by rw[d];exact Nat.ne_of_gt (Nat.two_pow_pos _)) l;have t:=i.small (x / 64);obtain⟨a,E⟩:∃a,wd g (x / 64)=a:=⟨_,rfl⟩;rw[E]at S p s t;have a0:=bits_and_u64_nat a c t l;have a1:=bits_or_u64_nat a c t l;have u:=Yi a (x % 64);rw[<-d]at u;obtain⟨v,z,P,L,B,Q⟩:=EF o p s d u i;clear o p s E d u i;by_cases f:m x
 .have C:((a &&& c:Nat):Int)≠0:=by
   have:=B.o;have j:=z.o.1 f;intro q;have q:a &&& c=0:=by omega
   rw[this.1 q]at j;cases j
  have V:(((a &&& c:Nat):Int) !=0)=true:=by simpa using C
  go_enter func91,ntmps91
  go_wp2_with fail
  go_region
  go_wp2_with fail
  go_ret
  exact⟨false,rfl,by simp[f],⟨g,v.o.d8 (X:=kJ) (by repeat first|exact BI _ _|apply BG|apply BH|apply BE) id,Q.o.iff fun n=>⟨.inl,fun q=>q.elim id fun e=>e▸f⟩⟩,(by repeat first|exact BI _ _|apply BG|apply BH|apply BE)⟩
 .have C:(((a &&& c:Nat):Int) !=0)=false:=by
   have j:a.testBit (x % 64)=false:=by
    cases R:a.testBit (x % 64)
    .rfl
    .exact jY (z.o.2 R) f
   rw[B.o.2 j];rfl
  have U:(a|||c)<18446744073709551616:=by have:=Nat.or_lt_two_pow (n:=64) (x:=a) (y:=c) (by omega) (by omega);omega
  obtain⟨w1,I,F,H⟩:=(v.o.d8 (O.drew (O.refl kJ w)) id).put MN underlying69 (k:=x / 64) (by omega) U
  rw[show(((x / 64:Nat):Nat):Int)=(x:Int) / 64 by omega]at I
  unfold QU at I
  have N:=J H
  have M:=J F
  clear H F
  go_enter func91,ntmps91
  go_wp2_with fail
  go_region
  go_wp2_with fail
  go_ret
  refine⟨true,rfl,by simp[f],⟨_,M.o,P.o.iff fun n=>?_⟩,(O.drew (O.refl _ w)).trans N.o⟩
  rw[L.o,Nat.testBit_two_pow]
  simp only[jN]
  constructor
  .rintro(q|⟨q1,q2⟩)
   .exact .inl q
   .exact .inr (by omega)
  .rintro(q|rfl)
   .exact .inl q
   .exact .inr ⟨rfl,rfl⟩
theorem Ko(x:Nat)(w:World)(j:x<19200):
 Calls prog 88 #[G A x] w fun e f=>∃b,e=.returned (.map (T b))/\w.heap.size<=b/\Bn b (fun n=>n=x) f/\O kJ w f:=by
 have l:=@run_makeMap prog;have d:=J (Bn.made w);go_enter func88,ntmps88;go_wp2_with fail;refine(Gp _ _ x _ d.o j).mono ?_;rintro e m ⟨r,rfl,_,a,c⟩;have g:=J a;have i:=J c;clear a c d;go_wp2_with fail;go_ret;exact⟨_,rfl,gS _,g.o.iff fun n=>by simp,((O.refl _ w).alloc _).thn i.o (fun k h q=>by omega)⟩
structure SL(b o f r:Nat)(go:Nat->Option Nat)(m u:Nat->Prop)(rest:Nat->Prop)(w0 w:World):Prop where
 rng:FY MK K7 o r go rest w
 fr:Bn f (fun n=>u n/\¬rest (n / 64)/\¬m n) w
 bs:Bn b (fun n=>m n\/(u n/\¬rest (n / 64))) w
 ob:O (fun k=>k=b) w0 w
theorem Hf(b o:Nat)(m u:Nat->Prop)(w:World)(h:Bn b m w)(k:Bn o u w)(b7:b≠o):
 Calls prog 127 #[.map (T b),.map (T o)] w fun e w'=>∃f,e=.returned (.map (T f))/\w.heap.size<=f/\Bn f (fun n=>u n/\¬m n) w'/\Bn b (fun n=>m n\/u n) w'/\O (fun k=>k=b) w w':=by
 have c3:=@run_makeMap prog;obtain⟨go,ko,b2⟩:=k;have lo:=ko.lt;have lb:=h.lt;have N:O kJ w (w.alloc (.map #[] 0)):=(O.refl _ w).alloc _;obtain⟨v,t,C,E,O1⟩:=BB (Bn.made w) (h.d8 N id) (ko.d8 N id) b2 N;clear h ko b2 N;go_enter func127,ntmps127;go_wp2_with(at_range;refine EC _ rfl _ 69 rfl 226 underlying69 o rfl C.o ?_;intro w2 B g hs);have b1:(w.alloc (.map #[] 0)).heap.size=w.heap.size+1:=by simp
 rw[b1]at B hs⊢;try go_frame
 have T0:D (SL b o w.heap.size (w.heap.size+1) go m u (fun k=>∃a,go k=T a) w w2):=by
  refine⟨B,(v.o.d8 g id).iff fun n=>⟨False.elim,?_⟩,(t.o.d8 g id).iff fun n=>⟨.inl,?_⟩,(O1.o.trans g).mono (fun _ _ q=>q.elim)⟩
  .rintro⟨q,r,_⟩;obtain⟨x,hx,_⟩:=(E.o.dF n).1 q;exact r ⟨x,hx⟩
  .rintro(q|⟨q,r⟩)
   .exact q
   .obtain⟨x,hx,_⟩:=(E.o.dF n).1 q;exact jY ⟨x,hx⟩ r
 clear B g hs v t C O1 b1;have c5:w.heap.size<w.heap.size+1:=Nat.lt_succ_self _;generalize w.heap.size+1=r at*;go_loopw[] (fun wr=>∃s:Nat->Prop,D (SL b o w.heap.size r go m u s w wr)) (fun wr=>wr.rangeLeft o r)
 case atStart=>exact⟨_,T0⟩
 case round=>
  clear T0;obtain⟨s,l⟩:=hrel;go_wp2_with(at_next;refine EU _ rfl _ rfl MN o r rfl l.o.rng ?_ ?_);rotate_left
  .intro k x R hk I a9 a1 B a0 g hs b5;unfold QU at b5;obtain⟨d,mb,S⟩:=l.o.bs;obtain⟨gf,mf,U⟩:=l.o.fr;have a7:b≠r:=by omega
   have a8:w.heap.size≠r:=by omega
   have a2:=mb.d8 g (fun q=>a7 q);have b3:=mf.d8 g (fun q=>a8 q);have hW:=S.small k;have K:∀n,n / 64=k->(u n↔x.testBit (n % 64)=true):=fun n c=>by rw[E.o.word,c];unfold wd;rw[a9];rfl
   have H:∀n,n / 64=k->(m n↔(wd d k).testBit (n % 64)=true):=fun n c=>by have:=S.word n;rw[c]at this;rw[<-this];exact⟨.inl,fun q=>q.elim id fun q=>jY I q.2⟩
   have b6:wd gf k=0:=by apply Classical.byContradiction;intro q;obtain⟨i,hi⟩:=Lw q;have hl:=VM (U.small k) hi;have:=(U.word (k*64+i)).2 (by rw[show(k*64+i) / 64=k by omega,show(k*64+i) % 64=i by omega];exact hi);rw[show(k*64+i) / 64=k by omega]at this;exact this.2.1 I
   have b0:=(E.o.ok k x a9).2.2;have hl:(Instr.lookup 69 (.map (T b)) (G A k) false).run prog R=.ok (.int .u64 (wd d k)) R:=a2.word hk;have b8:=u64_andNot_nat x (wd d k) a1 hW;obtain⟨y,L⟩:∃y,x &&& (18446744073709551615-wd d k)=y:=⟨_,rfl⟩;have F:∀i,y.testBit i=(x.testBit i && !(wd d k).testBit i):=fun i=>by rw[<-L];exact SN hW x i a1
   have M:y<18446744073709551616:=by rw[<-L];exact Nat.lt_of_le_of_lt Nat.and_le_left a1
   rw[L]at b8;have c4:=bits_or_u64_nat (wd d k) y hW M;obtain⟨HU,HM,c2,a4,C⟩:=BB K H F B g;have v:D (∀n,(u n/\¬(s (n / 64)/\n / 64≠k)/\¬m n)↔(u n/\¬s (n / 64)/\¬m n)\/(n / 64=k/\y.testBit (n % 64)=true)):=fun n=>by
    by_cases c:n / 64=k
    .rw[c,F,K n c,H n c];cases x.testBit (n % 64)<;>cases (wd d k).testBit (n % 64)<;>simp[I]
    .simp[c]
   have t:D (∀n,(m n\/(u n/\¬(s (n / 64)/\n / 64≠k)))↔(m n\/(u n/\¬s (n / 64)))\/(n / 64=k/\y.testBit (n % 64)=true)):=fun n=>by
    by_cases c:n / 64=k
    .rw[c,F,K n c,H n c];cases x.testBit (n % 64)<;>cases (wd d k).testBit (n % 64)<;>simp[I]
    .simp[c]
   have a5:O (fun k=>k=b) w R:=l.o.ob.thn g (fun j hj q=>by omega);have a3:=J a5;clear K H F B g L a5;by_cases p:y=0
   .have hz:((y:Int) !=0)=false:=by rw[p];rfl
    have H3:D (SL b o w.heap.size r go m u (fun z=>s z/\z≠k) w R):=
     ⟨a4.o,⟨gf,b3,U.iff fun n=>by rw[v.o,p];simp⟩,⟨d,a2,S.iff fun n=>by rw[t.o,p];simp⟩,a3.o⟩
    clear p;go_wp2_with fail;go_roundw
    case rel=>exact⟨_,H3⟩
    case measure=>exact a0
   .have hz:((y:Int) !=0)=true:=by simpa using p
    have b9:wd d k|||y<18446744073709551616:=by have:=Nat.or_lt_two_pow (n:=64) (x:=wd d k) (y:=y) (by omega) (by omega);omega
    obtain⟨w4,c0,m4,P⟩:=a2.put MN underlying69 (k:=k) hk b9;have a6:w.heap.size≠b:=by omega
    obtain⟨w5,c1,m5,Q⟩:=(b3.d8 P (fun q=>a6 q)).put MN underlying69 (k:=k) (a:=y) hk M;unfold QU at c0 c1;have V:=a4.o.d8 P (fun q=>b7 q.symm) (fun q=>a7 q.symm);have X:=V.1.d8 Q (fun q=>by omega) (fun q=>a8 q.symm);have b4:D (w5.rangeLeft o r<wr.rangeLeft o r):=by rw[X.2,V.2];exact a0
    have pf:=U.put (k:=k) (y:=y) b0 p M;rw[b6,Nat.zero_or]at pf;have H5:D (SL b o w.heap.size r go m u (fun z=>s z/\z≠k) w w5):=
     ⟨X.1,⟨_,m5,pf.iff fun n=>(v.o n).symm⟩,⟨_,m4.d8 Q (fun q=>a6 q.symm),(S.put (k:=k) (y:=y) b0 p M).iff fun n=>(t.o n).symm⟩,(a3.o.trans P).thn Q (fun j hj q=>by omega)⟩
    clear V X pf m4 m5 P Q p a0;go_wp2_with fail;go_roundw
    case rel=>exact⟨_,H5⟩
    case measure=>exact b4.o
  .intro hd;obtain⟨v,t,C⟩:=Ax l.o.fr l.o.bs l.o.ob;clear l;go_wp2_with fail;go_ret;exact⟨_,rfl,gS _,v.o.iff fun n=>by simp[hd],t.o.iff fun n=>by simp[hd],C.o⟩
theorem OD(b:Nat)(m:Nat->Prop)(w:World)(h:Bn b m w):
 Calls prog 127 #[.map (T b),.map (T b)] w fun e u=>∃f,e=.returned (.map (T f))/\w.heap.size<=f/\Bn f (fun _=>False) u/\Bn b m u/\O kJ w u:=by
 have a1:=@run_makeMap prog;obtain⟨go,s,H⟩:=h;have lo:=s.lt;have t:O kJ w (w.alloc (.map #[] 0)):=(O.refl _ w).alloc _;obtain⟨g,l,Q,B⟩:=Ba (Bn.made w) (s.d8 t id) H t;clear s H t;go_enter func127,ntmps127;go_wp2_with(at_range;refine EC _ rfl _ 69 rfl 226 underlying69 b rfl l.o ?_;intro w2 d c p);have E:(w.alloc (.map #[] 0)).heap.size=w.heap.size+1:=by simp
 rw[E]at d p⊢;try go_frame
 have C:D (FY MK K7 b (w.heap.size+1) go (fun k=>∃a,go k=T a) w2):=d;have y:=J (g.o.d8 c id);have z:=J (B.o.trans c);have a3:w.heap.size<w.heap.size+1:=Nat.lt_succ_self _;clear d c p g l B E;generalize w.heap.size+1=r at*;go_loopw[] (fun wr=>∃K:Nat->Prop,D (FY MK K7 b r go K wr)/\D (Bn w.heap.size (fun _=>False) wr)/\D (O kJ w wr)) (fun wr=>wr.rangeLeft b r)
 case atStart=>exact⟨_,C,y,z⟩
 case round=>
  clear C y z;obtain⟨K,o,g,l⟩:=hrel;go_wp2_with(at_next;refine EU _ rfl _ rfl MN b r rfl o.o ?_ ?_);rotate_left
  .intro k x v V a2 U n d X c p R;unfold QU at R;have S:w.heap.size≠r:=by omega
   have M:=J (g.o.d8 c (fun q=>S q));have N:D (O kJ w v):=l.o.thn c (fun j hj q=>by omega);have F:wd go k=x:=by unfold wd;rw[U];rfl
   have hl:(Instr.lookup 69 (.map (T b)) (G A k) false).run prog v=.ok (.int .u64 x) v:=by rw[<-F];exact d.map.word V
   have a0:=u64_andNot_nat x x n n;have I:x &&& (18446744073709551615-x)=0:=Nat.eq_of_testBit_eq fun i=>by rw[SN n x i n];simp
   rw[I]at a0;have hz:(((0:Nat):Int) !=0)=false:=rfl;have P:=J d;clear d c F I;go_wp2_with fail;go_roundw
   case rel=>exact⟨_,P,M,N⟩
   case measure=>exact X
  .intro hd;have L:D (Bn b m wr):=⟨go,o.o.map,Q.o⟩;clear o;go_wp2_with fail;go_ret;exact⟨_,rfl,gS _,g.o,L.o,l.o⟩
def JZ(w:World):Prop:=TabAt 0 Lib.deBruijn64tab w
theorem Ve(x k a:Nat)(w:World)(h:((x:Int)==0)=false)
 (b:IntKind.u64.wrap (bits BinOp.and IntKind.u64 (x:Int) (IntKind.u64.wrap (-(x:Int)))*285870213051353865) / 288230376151711744=(a:Int))
 (f:a<64)(g:k<64)(d:w.cell? ⟨0,a,Z⟩=T (.int .u8 k)):
 Calls prog 128 #[.int .u64 x] w fun e c=>e=.returned (G A k)/\c=w:=by
 go_enter func128,ntmps128;go_wp2_with(simp only[b]);go_ret;exact⟨rfl,rfl⟩
theorem XE(x:Nat)(w:World)(f:x≠0)(d:x<18446744073709551616)(g:JZ w):
 Calls prog 128 #[.int .u64 x] w fun e j=>e=.returned (G A (Lib.ctz 64 x))/\j=w:=by
 obtain⟨h,c⟩:=Lib.lowest_bit 64 x f d;obtain⟨b,i⟩:=Lib.deBruijn64_at _ c;have a:=g _ b;rw[i]at a;exact Ve x _ _ w (by simp;omega) (tz64_key x _ d f h) b c a
theorem JZ.d8{X:Nat->Prop}{w a}(h:JZ w)(d:O X w a)(e:¬X 0)(c:0<w.heap.size):JZ a:=fun j b=>by rw[gT (d.block _ c e)];exact h j b
theorem DD{w:World}{B e d v n f}(h:w.ownsRow B e d v n f):∀k,v.ownBlock=T k->∃a,w.heap[k]? =T (.cells a e (0,0)):=by
 intro k b;rcases h.2 with⟨rfl,_⟩|⟨g,i,a,rfl,_,c,_⟩
 .cases b
 .cases b;exact⟨a,c⟩
theorem FY.neRow{t:Type}{R:Value->Option (DataW Unit×List MemPlace)}{l:t->DataW Unit}{b r g m w B e o v n p}(h:FY R l b r g m w)(k:w.ownsRow B e o v n p):v.ownBlock≠T b/\v.ownBlock≠T r:=by
 refine⟨fun q=>?_,fun q=>?_⟩
 .obtain⟨j,i⟩:=DD k _ q;obtain⟨u,c,f⟩:=h.map.isMap;rw[i]at f;cases f
 .obtain⟨j,i⟩:=DD k _ q;obtain⟨a,s,c,d,f⟩:=h.iter;rw[i]at f;cases f
structure Rc(m rest:Nat->Prop)(k y:Nat)(l:List Nat):Prop where
 nd:l.Pairwise (·≠ ·)
 dF:∀n,n∈l↔m n/\¬rest (n / 64)/\¬(n / 64=k/\y.testBit (n % 64)=true)
theorem Rc.step{m f:Nat->Prop}{k y l}(h:Rc m f k y l)(w:¬f k)(x:∀i,i<64->y.testBit i=true->m (k*64+i))(s:y≠0)(t:y<18446744073709551616):Rc m f k (y &&& (y-1)) (l++[k*64+Lib.ctz 64 y]):=by
 obtain⟨p,g,r⟩:=LO s t;generalize Lib.ctz 64 y=c at*;have j:(k*64+c) / 64=k:=by omega
 have o:(k*64+c) % 64=c:=by omega
 refine⟨List.pairwise_append.2 ⟨h.nd,List.pairwise_singleton _ _,fun a u b v=>?_⟩,fun n=>?_⟩
 .rw[iL.1 v];rintro rfl;exact((h.dF _).1 u).2.2 ⟨j,by rw[o];exact g⟩
 .rw[iW,iL,h.dF,r];by_cases d:n / 64=k
  .by_cases e:n % 64=c
   .have:n=k*64+c:=by omega
    subst this;simp[e,d,w,x c p g]
   .have:n≠k*64+c:=fun q=>e (by rw[q];exact o)
    simp[d,e,this]
  .have:n≠k*64+c:=fun q=>d (by rw[q];exact j)
   simp[d,this]
theorem Rc.len{m c:Nat->Prop}{k y l}(h:Rc m c k y l)(a:∀n,m n->n<19200):l.length<=19200:=DQ 19200 l h.nd fun x b=>a x ((h.dF x).1 b).1
theorem DZ(b:Nat)(m:Nat->Prop)(w:World)(h:Bn b m w)(hT:JZ w)(hg:0<w.heap.size):
 Calls prog 90 #[.map (T b)] w fun e w'=>∃v l,e=.returned v/\Ay w.heap.size w' v l/\l.Pairwise (·≠ ·)/\(∀x,x∈l↔m x)/\O kJ w w':=by
 obtain⟨i0,c1,c7,c8,c9⟩:=info_parts Tryz.infoInt;obtain⟨go,ko,b0⟩:=h;have lo:=ko.lt;obtain⟨HO,M,b8⟩:=Ax ko b0 hT;clear ko b0 hT;go_enter func90,ntmps90;go_wp2_with(at_range;refine EC _ rfl _ 69 rfl 226 underlying69 b rfl HO.o ?_;intro w2 K C hs);try go_frame
 have N:=J K;have O0:=J C;have I0:D (Ay w.heap.size w2 (Y Z 0 0) []):=iB _ _ _ _;have H:D (([]:List Nat).Pairwise (·≠ ·)/\∀n,n∈([]:List Nat)↔m n/\¬∃a,go (n / 64)=T a):=⟨List.Pairwise.nil,fun n=>⟨fun q=>jY q iR,fun q=>by obtain⟨x,E,_⟩:=(M.o.dF n).1 q.1;exact jY ⟨x,E⟩ q.2⟩⟩
 clear K C hs HO;obtain⟨r,R⟩:∃r,r=w.heap.size:=⟨_,rfl⟩;have N:D (FY MK K7 b r go (fun k=>∃a,go k=T a) w2):=by rw[R];exact N.o
 rw[<-R];have b6:=J R;clear R;go_loopw[3] (fun v wr=>∃(F:Nat->Prop) (l:List Nat) (d:Option Addr) (f:Nat),v=Y d l.length f/\D (Ay w.heap.size wr (Y d l.length f) l)/\D (FY MK K7 b r go F wr)/\D (l.Pairwise (·≠ ·)/\∀n,n∈l↔m n/\¬F (n / 64))/\D (O kJ w wr)) (fun _ wr=>wr.rangeLeft b r)
 case atStart=>exact⟨_,[],Z,0,rfl,I0,N,H,O0⟩
 case round=>
  clear N O0 I0 H;obtain⟨F,l,d,f,rfl,g,p,o,s⟩:=hrel;go_wp2_with(at_next;refine EU _ rfl _ rfl MN b r rfl p.o ?_ ?_);rotate_left
  .intro k x w3 hk c4 a7 c6 K a0 C hs c0;unfold QU at c0;have E:=M.o.ok k x a7;have d3:=E.2.2;have I:=p.o.neRow g.o;have a1:D (Ay w.heap.size w3 (Y d l.length f) l):=Ac g.o C (fun j B q=>I.2 (by rw[B,q]));have a6:=J K;have a5:D (O kJ w w3):=s.o.thn C (fun j B q=>by have:=b6.o;omega);have hm:∀i,i<64->(m (k*64+i)↔x.testBit i=true):=fun i hi=>by rw[M.o.word,show(k*64+i) / 64=k by omega,show(k*64+i) % 64=i by omega];unfold wd;rw[a7];rfl
   have a3:D (Rc m (fun z=>F z/\z≠k) k x l):=⟨o.o.1,fun n=>by
    rw[o.o.2];by_cases Q:n / 64=k
    .have:=hm (n % 64) (by omega);rw[show k*64+n % 64=n by omega]at this;simp[Q,c4,this]
    .simp[Q]⟩
   have HM:=J hm;obtain⟨H,V⟩:∃n,wr.rangeLeft b r=n:=⟨_,rfl⟩;rw[V]at a0;have u:=J a0;have b3:=J V;clear K C hm g p o s I a0 V;go_wp2_with fail;go_loopw[3,5] (fun v z U=>∃(y:Nat) (l:List Nat) (d:Option Addr) (f:Nat),v=Y d l.length f/\z=.int .u64 y/\y<18446744073709551616/\D (∀i,y.testBit i=true->x.testBit i=true)/\D (Rc m (fun z=>F z/\z≠k) k y l)/\D (Ay w.heap.size U (Y d l.length f) l)/\D (FY MK K7 b r go (fun z=>F z/\z≠k) U)/\D (U.rangeLeft b r<H)/\D (O kJ w U)) (fun _ z _=>(intOf z).toNat)
   case atStart=>exact⟨x,l,d,f,rfl,rfl,c6,fun _ q=>q,a3,a1,a6,u,a5⟩
   case round=>
    clear a1 a6 a3 a5 u;obtain⟨y,l,d,f,rfl,rfl,L,HY,o,g,p,u,s⟩:=hrel;by_cases t:y=0
    .subst t;have hz:(((0:Nat):Int) !=0)=false:=rfl;go_wp2_with fail;go_roundw
     case rel=>exact⟨_,l,d,f,rfl,g,p,⟨o.o.nd,fun n=>by rw[o.o.dF];simp⟩,s⟩
     case measure=>rw[b3.o];exact u.o
    .have hz:((y:Int) !=0)=true:=by simpa using t
     have hc:=(LO t L).1;have a4:=J (o.o.step (fun q=>q.2 rfl) (fun i hi q=>(HM.o i hi).2 (HY.o i q)) t L);have c2:=a4.o.len (fun n Q=>M.o.lt Q);rw[gW,iM]at c2;have b7:=J (b8.o.d8 s.o id hg);have d2:=bits_and_u64_nat y (y-1) L (by omega);have d5:IntKind.u64.wrap ((y:Int)-1)=((y-1:Nat):Int):=by rw[IntKind.wrap_u64];omega
     have b9:D (∀i,(y &&& (y-1)).testBit i=true->x.testBit i=true):=fun i q=>by rw[(LO t L).2.2]at q;simp only[Bool.and_eq_true]at q;exact HY.o i q.1
     have d4:=Pk t;have d6:=s.o.size;go_wp2_with fail;refine(XE y _ t L b7.o).mono ?_;rintro e w4 ⟨rfl,hw⟩;have hw:=hw.symm;subst hw;generalize Lib.ctz 64 y=c at*;have I:=p.o.neRow g.o;go_wp2_with(at_builtin;refine jA _ rfl _ _ 50 rfl w.heap.size 3 i0 (G A 0) 1 8 underlying50 c1 c7 c8 c9 rfl (by decide) _ _ _ rfl (g.o.alloc _) ⟨wr.heap.size,0,Z⟩ 1 1 [G A ((k:Int)*64+c)] rfl rfl (AD (by simp) _ _) (fun x E=>by simp at E;subst E;rfl) (by unfold maxLen;omega) (by omega) (by simp;omega) ?_;intro v' S a9 X c3);have b4:D (O kJ w S):=O.grown (s.o.alloc _) X (fun j B=>.inr (g.o.lt j B).1);have a8:O (fun j=>T j=Value.ownBlock (Y d l.length f)) wr S:=O.grown ((O.refl _ wr).alloc _) X (fun j B=>.inl B.symm);obtain⟨R5,L5⟩:=p.o.d8 a8 (fun q=>I.1 q.symm) (fun q=>I.2 q.symm);have b5:=J R5;have b2:D (S.rangeLeft b r<H):=by show _<_;rw[L5];exact u.o
     have P:Ay w.heap.size S v' (l++[k*64+c]):=by unfold Ay;rw[gW,iM,jZ];exact a9
     obtain⟨d0,d7,d1,rfl⟩:=Ad P;have c5:=Ag P;subst c5;have b1:=J P;clear a9 X c3 a8 R5 L5 P p g u;go_wp2_with fail;go_roundw
     case rel=>exact⟨_,_,d0,d1,rfl,rfl,by omega,b9,a4,b1,b5,b2,b4⟩
     case measure=>simp[intOf];omega
  .intro hd;have a2:=o.o;clear p o;go_wp2_with fail;go_ret;exact⟨_,l,rfl,g.o,a2.1,fun n=>by rw[a2.2];simp[hd],s.o⟩
def IU:Value->Option (DataW Unit×List MemPlace)
 |.map (T b)=>T (.lit (.int .i64 b),[])
 |_=>Z
def IT(b:Nat):DataW Unit:=.lit (.int .i64 b)
def Hd(b:Nat):Value:=.map (T b)
theorem Eh:Q8 IU Hd IT (fun _=>True):=by
 refine⟨fun a _=>rfl,fun v z c=>?_,fun a b h=>?_⟩
 .unfold IU at c;split at c
  .next b=>cases c;exact⟨b,rfl,rfl,trivial⟩
  .cases c
 .unfold IT at h;cases h;rfl
theorem Cs(w:World):(zeroValue 69).run prog w=.ok (.map Z) w:=by go_simp
def UY:Value->Option (DataW Unit×List MemPlace)
 |Y (T ⟨g,0,Z⟩) l c=>T (.agg [.lit (.int .i64 g),.lit (.int .i64 l),.lit (.int .i64 c)],[])
 |_=>Z
def UX(t:Nat×Nat×Nat):DataW Unit:=.agg [.lit (.int .i64 t.1),.lit (.int .i64 t.2.1),.lit (.int .i64 t.2.2)]
def Io(t:Nat×Nat×Nat):Value:=Y (T ⟨t.1,0,Z⟩) t.2.1 t.2.2
theorem Xj:Q8 UY Io UX (fun _=>True):=by
 refine⟨fun a _=>rfl,fun v z d=>?_,fun a b h=>?_⟩
 .unfold UY at d;split at d
  .next g l c=>cases d;exact⟨(g,l,c),rfl,rfl,trivial⟩
  .cases d
 .obtain⟨e,f,i⟩:=a;obtain⟨j,k,m⟩:=b;unfold UX at h;simp only[DataW.agg.injEq,List.cons.injEq,DataW.lit.injEq,Lit.int.injEq,true_and,and_true]at h;obtain⟨q,r,s⟩:=h;have n:e=j:=by omega
  have o:f=k:=by omega
  have p:i=m:=by omega
  rw[n,o,p]
theorem QK(w:World):(zeroValue 224).run prog w=.ok (Y Z 0 0) w:=by go_simp
structure So where
 om:Nat->Nat
 bk:Nat->Nat->Option Nat
 fw:Nat->Option (Nat×Nat×Nat)
 rl:Nat->List Rl
def Ch(P:List PFn)(v:Sv)(t i x:Nat):Prop:=
 (t=0->v.s.I i x)/\(t=1->v.s.E i x)/\(t=2->v.N i x)/\(t=3->v.s.F i x)/\(t=4->Fq P i x)
def Hh(o:So)(b:Value)(c d a:Nat):Array Value:=#[b,G A c,G A d,G A a,.map (T (o.om 0)),.map (T (o.om 1)),.map (T (o.om 2)),.map (T (o.om 3)),.map (T (o.om 5)),.map (T (o.om 4))]
def AM(P:List PFn)(a c:Nat):Prop:=(∃f i,f<P.length/\i<(As P f).t8.length/\c=vN f i)\/∃n k,1<=n/\n<=a/\k<4/\c=pN n k
def YO(r:Rl)(a:Value):List Value:=G A r.f::Kr r.s a
def Jb(B:Nat)(w:World)(v:Value)(l:List Rl):Prop:=∃a:List (List Value),w.ownsRow B 192 9 v l.length a.flatten/\a.length=l.length/\∀i (h:i<a.length) (c:i<l.length),∃b,a[i]=YO l[i] b/\Ay 0 w b l[i].s.args
structure BN(P:List PFn)(sb:Nat)(fv:Value)(mn pn cn:Nat)(o:So)(v:Sv)(w:World):Prop where
 cI:W sb (Hh o fv mn pn cn) 120 w
 mp:∀t,t<=4->BW IU IT (o.om t) (o.bk t) w
 st:∀t i k,o.bk t i=T k->Bn k (Ch P v t i) w
 dj:∀t i t' i' k,o.bk t i=T k->o.bk t' i'=T k->t=t'/\i=i'
 oj:∀t t',t<=5->t'<=5->o.om t=o.om t'->t=t'
 ne:∀t i k t',o.bk t i=T k->t'<=5->k≠o.om t'
 t4:∀t i k,o.bk t i=T k->t<=4
 d0:∀c,(t:Nat)->t=0\/t=3->((∃k,o.bk t c=T k)↔AM P pn c)
 d1:∀n,(∃k,o.bk 1 n=T k)↔1<=n/\n<=cn
 d4:∀f,(∃k,o.bk 4 f=T k)↔f<P.length
 d2:∀c k,o.bk 2 c=T k->∃x,v.N c x
 ins:∀t i x,t<=4->Ch P v t i x->∃k,o.bk t i=T k
 fm:BW UY UX (o.om 5) o.fw w
 fr:∀c t,o.fw c=T t->Jb 0 w (Io t) (o.rl c)
 fj:∀c c' t t',o.fw c=T t->o.fw c'=T t'->t.1=t'.1->c=c'
 f0:∀c,o.fw c=Z->o.rl c=[]
 fvr:∀c r,v.W c r↔r∈o.rl c
theorem LJ{P:List PFn}{v:Sv}{c x:Nat}:Ch P v 2 c x↔v.N c x:=by simp[Ch]
def So.own(o:So)(a k:Nat):Prop:=k=a\/(∃t,t<=5/\k=o.om t)\/(∃t i,o.bk t i=T k)\/∃c t,o.fw c=T t/\k=t.1
theorem Jb.d8{B w c v l}{X:Nat->Prop}(h:Jb B w v l)(b:O X w c)(p:∀k,v.ownBlock=T k->¬X k)(o:∀k a f,X k->w.heap[k]? ≠T (.cells a 3 f)):Jb B c v l:=by obtain⟨a,g,j,m⟩:=h;refine⟨a,Ac g b p,j,fun i q r=>?_⟩;obtain⟨d,e,n⟩:=m i q r;exact⟨d,e,Ai n b o⟩
theorem BN.d8{P e g l m f o v w n}{X:Nat->Prop}(h:BN P e g l m f o v w)(b:O X w n)(d:∀k,X k->¬o.own e k)(s:∀k p r,X k->w.heap[k]? ≠T (.cells p 3 r)):BN P e g l m f o v n:=
 {h with
  cI:=h.cI.d8 b (fun q=>d _ q (.inl rfl))
  mp:=fun t u=>(h.mp t u).d8 b (fun q=>d _ q (.inr (.inl ⟨t,by omega,rfl⟩)))
  st:=fun t i k a=>(h.st t i k a).d8 b (fun q=>d _ q (.inr (.inr (.inl ⟨t,i,a⟩))))
  fm:=h.fm.d8 b (fun q=>d _ q (.inr (.inl ⟨5,by omega,rfl⟩)))
  fr:=fun c t j=>(h.fr c t j).d8 b (fun k a q=>d _ q (.inr (.inr (.inr ⟨c,t,j,by unfold Io at a;cases a;rfl⟩)))) s}
theorem BN.s9{P e b c d a o v w f}(h:BN P e b c d a o v w)(g:O kJ w f):BN P e b c d a o v f:=h.d8 g (fun _ q=>q.elim) (fun _ _ _ q=>q.elim)
section
variable{P:List PFn}{a:Nat}{l:Value}{p s d:Nat}{o:So}{v:Sv}{w u:World}
theorem Bn.isMap{b m w}(h:Bn b m w):∃e c,w.heap[b]? =T (.map e c):=by obtain⟨g,f,_⟩:=h;exact f.isMap
theorem BN.kind(h:BN P a l p s d o v w){k}(e:o.own a k):(∃f c,w.heap[k]? =T (.map f c))\/(∃b,w.heap[k]? =T (.cells b 120 (0,0)))\/∃b,w.heap[k]? =T (.cells b 192 (0,0)):=by
 rcases e with rfl|⟨t,n,rfl⟩|⟨t,i,e⟩|⟨c,t,m,rfl⟩
 .exact .inr (.inl ⟨_,h.cI⟩)
 .by_cases j:t=5
  .subst j;exact .inl h.fm.isMap
  .exact .inl (h.mp t (by omega)).isMap
 .exact .inl (h.st t i k e).isMap
 .obtain⟨b,g,_⟩:=h.fr c t m;exact .inr (.inr (DD g _ rfl))
theorem BN.noCells(h:BN P a l p s d o v w){k b t c}(i:o.own a k)(f:t≠120)(g:t≠192):w.heap[k]? ≠T (.cells b t c):=by
 intro q;rcases h.kind i with⟨_,_,e⟩|⟨_,e⟩|⟨_,e⟩<;>rw[e]at q<;>cases q
 .exact f rfl
 .exact g rfl
theorem BN.ownLt(h:BN P a l p s d o v w){k}(b:o.own a k):k<w.heap.size:=by rcases h.kind b with⟨_,_,e⟩|⟨_,e⟩|⟨_,e⟩<;>exact lt_of_block e
theorem BN.dU(h:BN P a l p s d o v w){k f c}(e:w.heap[k]? =T (.map f c)):k≠a/\∀c t,o.fw c=T t->k≠t.1:=by
 refine⟨?_,fun c t i=>?_⟩
 .rintro rfl;have:=h.cI;unfold W at this;rw[e]at this;cases this
 .rintro rfl;obtain⟨j,g,_⟩:=h.fr c t i;obtain⟨m,b⟩:=DD g _ rfl;rw[e]at b;cases b
theorem BN.put(h:BN P a l p s d o v w){t i k}{m:Nat->Prop}{v':Sv}(g:o.bk t i=T k)(U:Bn k m u)(B:O (fun j=>j=k) w u)(K:∀x,Ch P v' t i x↔m x)(E:∀b f x,¬(b=t/\f=i)->(Ch P v' b f x↔Ch P v b f x))(S:v'.W=v.W)(R:t=2->∃x,m x):BN P a l p s d o v' u:=by
 obtain⟨es,c,N⟩:=(h.st t i k g).isMap;obtain⟨V,X⟩:=h.dU N;have t4:=h.t4 t i k g;refine{h with cI:=h.cI.d8 B (fun q=>V q.symm),mp:=fun b F=>(h.mp b F).d8 B (fun q=>h.ne t i k b g (by omega) q.symm),st:=fun b f C z=>?_,ins:=fun b f x F q=>?_,d2:=fun y C z=>?_,fm:=h.fm.d8 B (fun q=>h.ne t i k 5 g (by omega) q.symm),fr:=fun y b L=>(h.fr y b L).d8 B (fun j M q=>X y b L (by unfold Io at M;cases M;exact q.symm)) (fun j cs fz q r=>by rw[q,N]at r;cases r),fvr:=fun c r=>by rw[S];exact h.fvr c r}
 .by_cases e:b=t/\f=i
  .obtain⟨rfl,rfl⟩:=e;rw[g]at z;cases z;exact U.iff fun n=>(K n).symm
  .have:C≠k:=fun q=>e (h.dj b f t i k (q▸z) g)
   exact((h.st b f C z).d8 B this).iff fun n=>(E b f n e).symm
 .by_cases e:2=t/\y=i
  .obtain⟨I,Q⟩:=e;obtain⟨x,H⟩:=R I.symm;subst I;subst Q;exact⟨x,LJ.1 ((K x).2 H)⟩
  .obtain⟨x,H⟩:=h.d2 y C z;exact⟨x,LJ.1 ((E 2 y x e).2 (LJ.2 H))⟩
 .by_cases e:b=t/\f=i
  .obtain⟨rfl,rfl⟩:=e;exact⟨k,g⟩
  .exact h.ins b f x F ((E b f x e).1 q)
def So.news(o:So)(c f:Nat):So:={o with bk:=fun t i=>if t=2 then(if i=c then T f else o.bk 2 i)else o.bk t i}
theorem BN.news(h:BN P a l p s d o v w){c f}{m:Nat->Prop}{v':Sv}(R:¬o.own a f)(a1:∃es c,w.heap[f]? =T (.map es c))(hm:Bn f m u)(hM:BW IU IT (o.om 2) (fun x=>if x=c then T f else o.bk 2 x) u)(H:O (fun j=>j=o.om 2) w u)(N:∀x,Ch P v' 2 c x↔m x)(K:∀b y x,¬(b=2/\y=c)->(Ch P v' b y x↔Ch P v b y x))(hW:v'.W=v.W)(hN:∃x,m x):BN P a l p s d (o.news c f) v' u:=by
 obtain⟨a0,c2,U⟩:=(h.mp 2 (by omega)).isMap;obtain⟨n1,n2⟩:=h.dU U;have B:∀t i k,(o.news c f).bk t i=T k->(t=2/\i=c/\k=f)\/(¬(t=2/\i=c)/\o.bk t i=T k):=fun t i k g=>by
  unfold So.news at g;dsimp only at g;split at g
  .next e=>
   subst e;split at g
   .next e=>cases g;exact .inl ⟨rfl,e,rfl⟩
   .next e=>exact .inr ⟨fun q=>e q.2,g⟩
  .next e=>exact .inr ⟨fun q=>e q.1,g⟩
 have I:∀t i,t≠2->(o.news c f).bk t i=o.bk t i:=fun t i e=>by unfold So.news;dsimp only;rw[jQ e]
 have V:∀t i k,o.bk t i=T k->k≠f:=fun t i k g q=>R (q▸.inr (.inr (.inl ⟨t,i,g⟩)))
 refine{h with cI:=h.cI.d8 H (fun q=>n1 q.symm),mp:=fun b E=>?_,st:=fun b y F C=>?_,dj:=fun t i b y k g C=>?_,ne:=fun t i k b g E=>?_,t4:=fun t i k g=>?_,d0:=fun z t ht=>?_,d1:=fun n=>?_,d4:=fun n=>?_,d2:=fun z F C=>?_,ins:=fun b y x E q=>?_,fm:=h.fm.d8 H (fun q=>jY (h.oj 5 2 (by omega) (by omega) q) (by omega)),fr:=fun z b Q=>(h.fr z b Q).d8 H (fun j S q=>n2 z b Q (by unfold Io at S;cases S;exact q.symm)) (fun j cs fz q r=>by rw[q,U]at r;cases r),fvr:=fun c r=>by rw[hW];exact h.fvr c r}
 .by_cases e:b=2
  .subst e;exact hM.ext fun x=>by unfold So.news;dsimp only;rw[jR rfl]
  .have:(o.news c f).bk b=o.bk b:=funext fun i=>I b i e
   rw[this];exact(h.mp b E).d8 H (fun q=>e (h.oj b 2 (by omega) (by omega) q))
 .rcases B b y F C with⟨rfl,rfl,rfl⟩|⟨e,g⟩
  .exact hm.iff fun n=>(N n).symm
  .exact((h.st b y F g).d8 H (h.ne b y F 2 g (by omega))).iff fun n=>(K b y n e).symm
 .rcases B t i k g with⟨rfl,rfl,rfl⟩|⟨e,q⟩
  .rcases B b y _ C with⟨rfl,rfl,_⟩|⟨X,M⟩
   .exact⟨rfl,rfl⟩
   .exact jY rfl (V _ _ _ M)
  .rcases B b y k C with⟨rfl,rfl,rfl⟩|⟨X,M⟩
   .exact jY rfl (V _ _ _ q)
   .exact h.dj t i b y k q M
 .rcases B t i k g with⟨rfl,rfl,rfl⟩|⟨e,q⟩
  .exact fun q=>R (.inr (.inl ⟨b,E,q⟩))
  .exact h.ne t i k b q E
 .rcases B t i k g with⟨rfl,rfl,rfl⟩|⟨e,q⟩
  .omega
  .exact h.t4 t i k q
 .rw[<-h.d0 z t ht,I t z (by omega)]
 .rw[<-h.d1 n,I 1 n (by omega)]
 .rw[<-h.d4 n,I 4 n (by omega)]
 .rcases B 2 z F C with⟨_,rfl,_⟩|⟨e,q⟩
  .obtain⟨x,L⟩:=hN;exact⟨x,LJ.1 ((N x).2 L)⟩
  .obtain⟨x,L⟩:=h.d2 z F q;exact⟨x,LJ.1 ((K 2 z x e).2 (LJ.2 L))⟩
 .by_cases e:b=2/\y=c
  .obtain⟨rfl,rfl⟩:=e;exact⟨f,by unfold So.news;simp⟩
  .obtain⟨k,g⟩:=h.ins b y x E ((K b y x e).1 q);refine⟨k,?_⟩;unfold So.news;dsimp only;split
   .next e2=>rw[jQ (fun q=>e ⟨e2,q⟩),<-e2];exact g
   .exact g
end

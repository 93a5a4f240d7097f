/- Part of the proof: AnA AnB AnC AnD. -/
import Derived.Test.YtaningfhibkemaaGreatDoorG10
import Derived.Maps.RangeWalk
import Derived.Lib.TrailingZeros
import Derived.Laws.BitsAllLaws
set_option maxRecDepth 100000
set_option maxHeartbeats 1000000
namespace Go.Proofs.YtaningfhibkemaaGreatDoor
open Go.Proofs.Tryz Go.RowKit Go.Maps
def vN(f v:Nat):Nat:=f*12+v
def fN(f:Nat):Nat:=144+f
def pN(n k:Nat):Nat:=156+(n-1)*4+k
def Py(t:Nat):Prop:=t<144\/156<=t
def Y2(t:Nat):Prop:=144<=t/\t<156
structure Sy where
 I:Nat->Nat->Prop
 F:Nat->Nat->Prop
 E:Nat->Nat->Prop
structure Rl where
 f:Nat
 s:Bb
def Rl.tg(r:Rl):Nat:=vN r.f r.s.cO
def Rl.sr(r:Rl):Nat:=vN r.f r.s.cC
def Fg(P:List PFn)(g:Nat)(x:Nat):Prop:=∃s,s∈(As P g).r9/\s.kind=10/\x=vN g s.cC
def LP(P:List PFn)(r:Rl):Prop:=r.f<P.length/\r.s∈(As P r.f).r9
def Dj(P:List PFn)(r:Rl)(g:Nat)(S:Sy):Prop:=
 (∀i a,r.s.args[i]? =some a->S.F (vN r.f a) (vN g i))/\∀x,Fg P g x->S.F x r.tg
def KL(P:List PFn)(r:Rl)(S:Sy):Prop:=
 (r.s.kind=1->S.I r.tg (pN r.s.cA 0))/\(r.s.kind=2->S.I r.tg r.sr)/\(r.s.kind=4->S.I r.tg (fN r.s.cC))/\(r.s.kind=6->S.F r.sr r.tg)/\(r.s.kind=7->Dj P r r.s.cC S)
def Dd(P:List PFn)(r:Rl)(t:Nat)(S:Sy):Prop:=
 (r.s.kind=3->156<=t->(t-156) % 4=0->S.I r.tg (t+r.s.field))/\(r.s.kind=5->Py t->S.F t r.tg)/\(r.s.kind=9->Py t->S.F r.sr t)/\
 (r.s.kind=8->Y2 t->(As P (t-144)).u9=r.s.args.length->S.E r.s.cA (t-144)/\Dj P r (t-144) S)
def AR(r:Rl):Prop:=r.s.kind=3\/r.s.kind=5\/r.s.kind=8\/r.s.kind=9
def Rl.at(r:Rl):Nat:=if r.s.kind=9 then r.tg else r.sr
structure Za(P:List PFn)(S:Sy):Prop where
 flow:∀a b t,S.F a b->S.I a t->S.I b t
 beg:∀r,LP P r->KL P r S
 fol:∀r t,LP P r->AR r->S.I r.at t->Dd P r t S
def least(P:List PFn):Sy:=⟨fun c t=>∀S,Za P S->S.I c t,fun a b=>∀S,Za P S->S.F a b,fun n g=>∀S,Za P S->S.E n g⟩
structure Sy.le(S T:Sy):Prop where
 i:∀c t,S.I c t->T.I c t
 f:∀a b,S.F a b->T.F a b
 e:∀n g,S.E n g->T.E n g
theorem Sy.le.rf(S:Sy):S.le S:=⟨fun _ _ h=>h,fun _ _ h=>h,fun _ _ h=>h⟩
theorem Sy.le.tr{S a R:Sy}(h:S.le a)(k:a.le R):S.le R:=⟨fun c t q=>k.i c t (h.i c t q),fun c t q=>k.f c t (h.f c t q),fun c t q=>k.e c t (h.e c t q)⟩
theorem Dj.up{P r g}{S b:Sy}(h:Dj P r g S)(k:S.le b):Dj P r g b:=⟨fun i a q=>k.f _ _ (h.1 i a q),fun x q=>k.f _ _ (h.2 x q)⟩
theorem KL.up{P r}{S a:Sy}(h:KL P r S)(k:S.le a):KL P r a:=
 ⟨fun q=>k.i _ _ (h.1 q),fun q=>k.i _ _ (h.2.1 q),fun q=>k.i _ _ (h.2.2.1 q),fun q=>k.f _ _ (h.2.2.2.1 q),fun q=>(h.2.2.2.2 q).up k⟩
theorem Dd.up{P r t}{S a:Sy}(h:Dd P r t S)(k:S.le a):Dd P r t a:=
 ⟨fun q u v=>k.i _ _ (h.1 q u v),fun q u=>k.f _ _ (h.2.1 q u),fun q u=>k.f _ _ (h.2.2.1 q u),fun q u v=>⟨k.e _ _ (h.2.2.2 q u v).1,(h.2.2.2 q u v).2.up k⟩⟩
theorem PI{P}{S:Sy}(h:Za P S):(least P).le S:=⟨fun _ _ q=>q S h,fun _ _ q=>q S h,fun _ _ q=>q S h⟩
theorem LR{P r g}(h:∀S,Za P S->Dj P r g S):Dj P r g (least P):=⟨fun i a q S b=>(h S b).1 i a q,fun x q S b=>(h S b).2 x q⟩
theorem En(P:List PFn):Za P (least P):=by
 refine⟨fun a b t h k S c=>c.flow a b t (h S c) (k S c),fun r d=>?_,fun r t d e h=>?_⟩
 .exact⟨fun q S c=>(c.beg r d).1 q,fun q S c=>(c.beg r d).2.1 q,fun q S c=>(c.beg r d).2.2.1 q,fun q S c=>(c.beg r d).2.2.2.1 q,fun q=>LR fun S c=>(c.beg r d).2.2.2.2 q⟩
 .exact⟨fun q u v S c=>(c.fol r t d e (h S c)).1 q u v,fun q u S c=>(c.fol r t d e (h S c)).2.1 q u,fun q u S c=>(c.fol r t d e (h S c)).2.2.1 q u,
   fun q u v=>⟨fun S c=>((c.fol r t d e (h S c)).2.2.2 q u v).1,LR fun S c=>((c.fol r t d e (h S c)).2.2.2 q u v).2⟩⟩
structure Sv where
 s:Sy
 N:Nat->Nat->Prop
 W:Nat->Rl->Prop
structure BH(P:List PFn)(X:Nat->Nat->Prop)(v:Sv):Prop where
 le:v.s.le (least P)
 np:∀c t,v.N c t->v.s.I c t
 fl:∀a b t,v.s.F a b->v.s.I a t->v.s.I b t\/v.N a t\/X a t
 fo:∀a r t,v.W a r->v.s.I a t->Dd P r t v.s\/v.N a t\/X a t
structure Sv.le(v u:Sv):Prop where
 s:v.s.le u.s
 w:u.W=v.W
theorem Sv.le.rf(v:Sv):v.le v:=⟨.rf _,rfl⟩
theorem Sv.le.tr{a b c:Sv}(h:a.le b)(k:b.le c):a.le c:=⟨h.s.tr k.s,k.w.trans h.w⟩
def Sv.give(v:Sv)(c:Nat)(a:Nat->Prop):Sv:=
 ⟨⟨fun x t=>v.s.I x t\/(x=c/\a t),v.s.F,v.s.E⟩,fun x t=>v.N x t\/(x=c/\a t/\¬v.s.I x t),v.W⟩
theorem Sv.give_le(v:Sv)(c a):v.le (v.give c a):=⟨⟨fun _ _ h=>.inl h,fun _ _ h=>h,fun _ _ h=>h⟩,rfl⟩
theorem BH.give{P X}{v:Sv}{c}{e:Nat->Prop}(h:BH P X v)(g:∀t,e t->(least P).I c t):BH P X (v.give c e):=by
 refine⟨⟨?_,h.le.f,h.le.e⟩,?_,?_,?_⟩
 .rintro x t (q|⟨rfl,q⟩)
  .exact h.le.i x t q
  .exact g t q
 .rintro x t (q|⟨rfl,q,_⟩)
  .exact .inl (h.np x t q)
  .exact .inr ⟨rfl,q⟩
 .rintro a b t hF f;by_cases d:v.s.I a t
  .rcases h.fl a b t hF d with q|q|q
   .exact .inl (.inl q)
   .exact .inr (.inl (.inl q))
   .exact .inr (.inr q)
  .rcases f with q|⟨rfl,q⟩
   .exact jO q d
   .exact .inr (.inl (.inr ⟨rfl,q,d⟩))
 .rintro a r t i f;by_cases d:v.s.I a t
  .rcases h.fo a r t i d with q|q|q
   .exact .inl (q.up (Sv.give_le v c e).s)
   .exact .inr (.inl (.inl q))
   .exact .inr (.inr q)
  .rcases f with q|⟨rfl,q⟩
   .exact jO q d
   .exact .inr (.inl (.inr ⟨rfl,q,d⟩))
def Sv.edge(v:Sv)(a b:Nat):Sv:=⟨⟨v.s.I,fun x y=>v.s.F x y\/(x=a/\y=b),v.s.E⟩,v.N,v.W⟩
theorem Sv.edge_le(v:Sv)(a b):v.le (v.edge a b):=⟨⟨fun _ _ h=>h,fun _ _ h=>.inl h,fun _ _ h=>h⟩,rfl⟩
def Sv.flow(v:Sv)(a b:Nat):Sv:=(v.edge a b).give b (v.s.I a)
theorem Sv.flow_le(v:Sv)(a b):v.le (v.flow a b):=(Sv.edge_le v a b).tr (Sv.give_le _ _ _)
theorem Sv.flow_F(v:Sv)(a b):(v.flow a b).s.F a b:=.inr ⟨rfl,rfl⟩
theorem BH.flow{P X}{v:Sv}{a b}(h:BH P X v)(hF:(least P).F a b):BH P X (v.flow a b):=by
 have g:∀t,v.s.I a t->(least P).I b t:=fun t q=>(En P).flow a b t hF (h.le.i a t q)
 have d:=h.give (c:=b) g;refine⟨⟨d.le.i,?_,h.le.e⟩,d.np,?_,?_⟩
 .rintro x y (q|⟨rfl,rfl⟩)
  .exact h.le.f x y q
  .exact hF
 .rintro x y t (q|⟨rfl,rfl⟩) e
  .exact d.fl x y t q e
  .by_cases f:v.s.I x t
   .exact .inl (.inr ⟨rfl,f⟩)
   .rcases e with q|⟨rfl,q⟩
    .exact jO q f
    .exact jO q f
 .rintro x r t i e;rcases d.fo x r t i e with q|q|q
  .exact .inl (q.up ⟨fun _ _ q=>q,fun _ _ q=>.inl q,fun _ _ q=>q⟩)
  .exact .inr (.inl q)
  .exact .inr (.inr q)
theorem BH.kept{P X}{v:Sv}(h:BH P X v){Y:Nat->Nat->Prop}(d:∀c t,X c t->Y c t):BH P Y v:=
 ⟨h.le,h.np,fun a b t q r=>(h.fl a b t q r).imp id (.imp id (d _ _)),fun a r t q u=>(h.fo a r t q u).imp id (.imp id (d _ _))⟩
def Sv.dT(v:Sv)(n g:Nat):Sv:=⟨⟨v.s.I,v.s.F,fun x y=>v.s.E x y\/(x=n/\y=g)⟩,v.N,v.W⟩
theorem Sv.ent_le(v:Sv)(n g):v.le (v.dT n g):=⟨⟨fun _ _ h=>h,fun _ _ h=>h,fun _ _ h=>.inl h⟩,rfl⟩
theorem BH.dT{P X}{v:Sv}{n g}(h:BH P X v)(a:(least P).E n g):BH P X (v.dT n g):=by
 refine⟨⟨h.le.i,h.le.f,?_⟩,h.np,h.fl,?_⟩
 .rintro x y (q|⟨rfl,rfl⟩)
  .exact h.le.e x y q
  .exact a
 .rintro x r t c b;exact(h.fo x r t c b).imp (fun q=>q.up (Sv.ent_le v n g).s) id
def Sv.wait(v:Sv)(a:Nat)(r:Rl):Sv:=⟨v.s,v.N,fun x y=>v.W x y\/(x=a/\y=r)⟩
theorem BH.wait{P X}{v:Sv}{a r}(h:BH P X v)(c:∀t,v.s.I a t->v.N a t):BH P X (v.wait a r):=by
 refine⟨h.le,h.np,h.fl,?_⟩;rintro x y t (q|⟨rfl,rfl⟩) b
 .exact h.fo x y t q b
 .exact .inr (.inl (c t b))
theorem BH.done{P}{v:Sv}(h:BH P (fun _ _=>False) v)(d:∀c t,¬v.N c t)(e:∀r,LP P r->KL P r v.s)(f:∀r,LP P r->AR r->v.W r.at r):v.s.le (least P)/\(least P).le v.s:=by
 refine⟨h.le,PI ⟨fun a b t q r=>?_,e,fun r t q u k=>?_⟩⟩
 .rcases h.fl a b t q r with q|q|q
  .exact q
  .exact jO q (d _ _)
  .exact q.elim
 .rcases h.fo _ r t (f r q u) k with q|q|q
  .exact q
  .exact jO q (d _ _)
  .exact q.elim
structure Sv.up(v u:Sv):Prop where
 le:v.le u
 n:∀c t,v.N c t->u.N c t
 old:∀c t,u.N c t->v.N c t\/¬v.s.I c t
 new:∀c t,u.s.I c t->v.s.I c t\/u.N c t
 ed:∀a b,u.s.F a b->v.s.F a b\/∀t,v.s.I a t->u.s.I b t
theorem Sv.up.rf(v:Sv):v.up v:=⟨.rf _,fun _ _ h=>h,fun _ _ h=>.inl h,fun _ _ h=>.inl h,fun _ _ h=>.inl h⟩
theorem Sv.up.tr{a b c:Sv}(h:a.up b)(k:b.up c):a.up c:=
 ⟨h.le.tr k.le,fun x t q=>k.n x t (h.n x t q),fun x t q=>(k.old x t q).elim (h.old x t) fun q=>.inr fun r=>q (h.le.s.i x t r),fun x t q=>(k.new x t q).elim (fun q=>(h.new x t q).imp id (k.n x t)) .inr,
   fun x y q=>(k.ed x y q).elim (fun q=>(h.ed x y q).imp id fun q t r=>k.le.s.i y t (q t r)) fun q=>.inr fun t r=>q t (h.le.s.i x t r)⟩
theorem Sv.give_up(v:Sv)(c a):v.up (v.give c a):=by
 refine⟨Sv.give_le v c a,fun _ _ q=>.inl q,fun x t q=>q.imp id fun q=>q.2.2,fun x t q=>?_,fun _ _ q=>.inl q⟩;rcases q with q|⟨rfl,q⟩
 .exact .inl q
 .by_cases h:v.s.I x t
  .exact .inl h
  .exact .inr (.inr ⟨rfl,q,h⟩)
theorem Sv.flow_up(v:Sv)(a b):v.up (v.flow a b):=by
 have h:=Sv.give_up v b (v.s.I a);refine⟨Sv.flow_le v a b,h.n,h.old,h.new,?_⟩;rintro x y (q|⟨rfl,rfl⟩)
 .exact .inl q
 .exact .inr fun t r=>.inr ⟨rfl,r⟩
theorem Sv.ent_up(v:Sv)(n g):v.up (v.dT n g):=⟨Sv.ent_le v n g,fun _ _ h=>h,fun _ _ h=>.inl h,fun _ _ h=>.inl h,fun _ _ h=>.inl h⟩
theorem BH.passed{P X c}{m:Nat->Prop}{v u:Sv}(h:BH P (fun a t=>X a t\/(a=c/\m t)) u)(k:v.up u)(f:∀t,m t->v.s.I c t)(d:∀b t,v.s.F c b->m t->u.s.I b t)(e:∀r t,v.W c r->m t->Dd P r t u.s):BH P X u:=by
 refine⟨h.le,h.np,fun a b t q r=>?_,fun a r t q i=>?_⟩
 .rcases h.fl a b t q r with z|z|z|⟨rfl,z⟩
  .exact .inl z
  .exact .inr (.inl z)
  .exact .inr (.inr z)
  .exact .inl ((k.ed a b q).elim (fun q=>d b t q z) fun q=>q t (f t z))
 .rcases h.fo a r t q i with z|z|z|⟨rfl,z⟩
  .exact .inl z
  .exact .inr (.inl z)
  .exact .inr (.inr z)
  .exact .inl (e r t (by rw[<-k.le.w];exact q) z)
def Sv.took(v:Sv):Sv:=⟨v.s,fun _ _=>False,v.W⟩
theorem BH.took{P}{v:Sv}(h:BH P (fun _ _=>False) v):BH P v.N v.took:=
 ⟨h.le,fun _ _ q=>q.elim,fun a b t q r=>(h.fl a b t q r).imp id fun z=>.inr (z.elim id False.elim),fun a b t q r=>(h.fo a b t q r).imp id fun z=>.inr (z.elim id False.elim)⟩
theorem Oh:∃c:(Nat->Prop)->Nat,∀p n,p n->p (c p)/\c p<=n:=by
 have h:∀p:Nat->Prop,∃k,∀n,p n->p k/\k<=n:=fun p=>by
  by_cases b:∃n,p n
  .obtain⟨n,a⟩:=b;induction n using Nat.strongRecOn with
   |_ n g=>
    by_cases q:∃m,m<n/\p m
    .obtain⟨m,d,e⟩:=q;exact g m d e
    .exact⟨n,fun m f=>⟨a,Nat.le_of_not_lt fun r=>q ⟨m,r,f⟩⟩⟩
  .exact⟨0,fun n a=>jO ⟨n,a⟩ b⟩
 exact⟨fun p=>Classical.choose (h p),fun p=>Classical.choose_spec (h p)⟩
def Sv.raw(v:Sv):Prop:=∀c t,v.s.I c t->v.N c t
theorem Sv.raw.up{v u:Sv}(h:v.raw)(k:v.up u):u.raw:=fun c t q=>(k.new c t q).elim (fun q=>k.n c t (h c t q)) id
def Sv.left(B:Nat)(v:Sv)(n:Nat):Prop:=n=(List.range (B*B)).countP fun i=>@decide (¬(v.s.I (i / B) (i % B)/\¬v.N (i / B) (i % B))) (Classical.propDecidable _)
theorem Hh{p q:Nat->Bool}:∀(l:List Nat),(∀x,x∈l->p x=true->q x=true)->(∃x,x∈l/\q x=true/\p x=false)->l.countP p<l.countP q
 |[],_,h=>by obtain⟨x,b,_⟩:=h;exact jO b iH
 |a::l,d,h=>by
  have i:l.countP p<=l.countP q:=List.countP_mono_left fun x b=>d x (iA _ b)
  obtain⟨x,b,e,f⟩:=h;rw[List.countP_cons,List.countP_cons];rcases iZ.1 b with rfl|b
  .rw[e,f];simp;omega
  .have:=Hh l (fun x b=>d x (iA _ b)) ⟨x,b,e,f⟩;have g:=d a jF;by_cases c:p a=true
   .rw[c,g c];omega
   .simp only[Bool.not_eq_true]at c;rw[c];split<;>simp_all<;>omega
theorem Sv.left_lt{B:Nat}{v u:Sv}{x:Sv}(a:x.s=v.s/\∀c t,¬x.N c t)(h:x.up u)(w:∃c t,c<B/\t<B/\v.N c t)(r:∀c t,v.N c t->v.s.I c t){n m:Nat}(j:v.left B n)(g:u.left B m):m<n:=by
 unfold Sv.left at j g;rw[j,g];obtain⟨c,t,s,l,e⟩:=w;have o:∀c t,v.s.I c t->u.s.I c t/\¬u.N c t:=fun c t q=>⟨h.le.s.i c t (by rw[a.1];exact q),fun k=>(h.old c t k).elim (a.2 c t) fun k=>k (by rw[a.1];exact q)⟩
 have p:0<B:=Z;have b:(c*B+t) / B=c:=by rw[Nat.mul_comm,Nat.mul_add_div p,Nat.div_eq_of_lt l];rfl
 have d:(c*B+t) % B=t:=by rw[Nat.mul_comm,Nat.mul_add_mod,Nat.mod_eq_of_lt l]
 refine Hh _ (fun i _ f=>?_) ⟨c*B+t,?_,?_,?_⟩
 .simp only[jD]at f⊢;exact fun q=>f (o _ _ q.1)
 .rw[List.mem_range];calc c*B+t<c*B+B:=by omega
   _=(c+1)*B:=by rw[Nat.add_mul];omega
   _<=B*B:=Nat.mul_le_mul_right B s
 .simp only[jD];rw[b,d];exact fun q=>q.2 e
 .simp only[decide_eq_false_iff_not,Classical.not_not];rw[b,d];exact o c t (r c t e)
theorem O.thn{X Y:Nat->Prop}{a b c:World}(h:O X a b)(k:O Y b c)(g:∀j,j<a.heap.size->Y j->X j):O X a c:=
 ⟨k.os.trans h.os,k.tape.trans h.tape,k.output.trans h.output,gW h.size k.size,fun j d e=>(k.block j (gY d h.size) (fun q=>e (g j d q))).trans (h.block j d e)⟩
structure QV{α:Type}(R:Value->Option (DataW Unit×List MemPlace))(mk:α->Value)(dc:α->DataW Unit)(ok:α->Prop):Prop where
 rd:∀a,ok a->R (mk a)=some (dc a,[])
 inv:∀v z,R v=some z->∃a,v=mk a/\z=(dc a,[])/\ok a
 inj:∀a b,dc a=dc b->a=b
def kI(k:Nat):Lit:=.int .i64 k
theorem LQ{a b:Nat}(h:kI a=kI b):a=b:=by unfold kI at h;cases h;rfl
theorem CV:Keyed prog 3:=int_keyed underlying3
theorem SU{k:Nat}(h:k<20000):keyOf prog 3 (.int .i64 k)=some (kI k):=keyOf_int_mk underlying3 (WalkArith.wf_i64 Z)
theorem Rr{k:Nat}(h:k<20000):WideAt.IsKeyLit (kI k):=CV.key (SU h)
theorem Jt(n:Nat):∀(l:List Nat),l.Pairwise (·≠ ·)->l.length<=(l.filter fun x=>decide (x≠n)).length+1
 |[],_=>jY
 |a::l,h=>by
  obtain⟨c,d⟩:=List.pairwise_cons.1 h;by_cases b:a=n
  .subst b;have e:l.filter (fun x=>decide (x≠a))=l:=List.filter_eq_self.2 fun x g=>by simp;exact fun q=>c x g q.symm
   rw[List.filter_cons_of_neg jY,e];simp
  .have:=Jt n l d;rw[List.filter_cons_of_pos (by simpa using b)];simp only[gK];omega
theorem DJ:∀(n:Nat) (l:List Nat),l.Pairwise (·≠ ·)->(∀x,x∈l->x<n)->l.length<=n
 |0,[],_,_=>gI _
 |0,a::_,_,h=>jO (h a jF) Z
 |n+1,l,b,h=>by
  have d:=Jt n l b;have e:=DJ n (l.filter fun x=>decide (x≠n)) (b.filter _) fun x c=>by have:=List.mem_filter.1 c;have:=h x this.1;have:=(List.mem_filter.1 c).2;simp at this;omega
  omega
theorem Yq{n:Nat}{l:List Lit}(d:l.Pairwise (·≠ ·))(h:∀x,x∈l->∃k,k<n/\x=kI k):l.length<=n:=by
 have e:∃m:List Nat,l=m.map kI/\∀x,x∈m->x<n:=by
  clear d;induction l with
  |nil=>exact⟨[],rfl,jY⟩
  |cons a l j=>
   obtain⟨m,rfl,b⟩:=j fun x c=>h x (iA _ c)
   obtain⟨k,g,rfl⟩:=h a jF;exact⟨k::m,rfl,fun x c=>(iZ.1 c).elim (fun q=>q▸g) (b x)⟩
 obtain⟨m,rfl,b⟩:=e;rw[iJ];exact DJ n m ((List.pairwise_map.1 d).imp fun q r=>q (congrArg kI r)) b
theorem Ns{R:Value->Option (DataW Unit×List MemPlace)}{b n a}{w:World}(h:w.ownsMap prog 3 R b n a)(r:∀x,has a x=true->∃k,k<20000/\x=kI k):w.ownsMap prog 3 R b 20000 a/\Maps.size a<=20000:=by
 obtain⟨g,j,c,s⟩:=h.entries CV;have t:g.length<=20000:=by
  have:=Yq (n:=20000) (l:=g.map fun p=>p.1) (List.pairwise_map.2 c) fun x v=>by obtain⟨p,c,rfl⟩:=iT.1 v;exact r p.1 (by rw[j,Maps.has_eq];exact List.any_eq_true.2 ⟨p,c,WideAt.sameKey_self (s p c)⟩)
  simpa using this
 have d:Maps.size a<=20000:=by rw[j];exact t
 refine⟨?_,d⟩;obtain⟨m,o,q,F,_,e⟩:=h;refine⟨m,o,q,F,?_,e⟩;rw[e]at d;simpa[Maps.size,length_sorted]using d
def BK{α:Type}(R:Value->Option (DataW Unit×List MemPlace))(dc:α->DataW Unit)(b:Nat)(g:Nat->Option α)(w:World):Prop:=
 ∃c,w.ownsMap prog 3 R b 20000 c/\(∀x,has c x=true->∃k,k<20000/\x=kI k)/\(∀k a,g k=some a->k<20000)/\(∀k,k<20000->g k=none->has c (kI k)=false)/\∀k a,g k=some a->has c (kI k)=true/\∀z,c.atKey (kI k) z=dc a
section
variable{α:Type}{R:Value->Option (DataW Unit×List MemPlace)}{mk:α->Value}{dc:α->DataW Unit}{ok:α->Prop}{b:Nat}{g:Nat->Option α}{w f:World}
theorem BK.lt(h:BK R dc b g w):b<w.heap.size:=by obtain⟨a,h,_⟩:=h;exact h.lt
theorem BK.d8{X:Nat->Prop}(h:BK R dc b g w)(k:O X w f)(l:¬X b):BK R dc b g f:=by obtain⟨c,⟨e,d,a,r⟩,j⟩:=h;exact⟨c,⟨e,d,by rw[k.block b (lt_of_block a) l];exact a,r⟩,j⟩
theorem BK.isMap(h:BK R dc b g w):∃a c,w.heap[b]? =some (.map a c):=by obtain⟨j,⟨a,d,e,r⟩,k⟩:=h;exact⟨a,d,e⟩
theorem BK.ne{c d t e}(h:BK R dc b g w)(a:w.heap[c]? =some (.cells d t e)):b≠c:=by obtain⟨l,k,j⟩:=h.isMap;rintro rfl;rw[j]at a;cases a
theorem BK.made(w:World):BK R dc w.heap.size (fun _=>none) (w.alloc (.map #[] 0)):=
 ⟨.map [],(World.ownsMap_made w _ _ _).mono (gV _),fun x h=>by simp[Maps.has_eq]at h,fun _ _ h=>by simp at h,fun _ _ _=>rfl,fun _ _ h=>by simp at h⟩
theorem BK.ext{a}(h:BK R dc b g w)(e:∀k,g k=a k):BK R dc b a w:=by rw[<-show g=a from funext e];exact h
theorem BK.look{t e:TypeId}(h:BK R dc b g w)(E:QV R mk dc ok)(B:Tryz.prog.underlying t=some (.map 3 e)){z:Value}(C:(zeroValue e).run prog w=.ok z w){k:Nat}(p:k<20000)(c:Bool):
 (g k=none->(Instr.lookup t (.map (some b)) (.int .i64 k) c).run prog w=.ok (if c then .tuple #[z,.bool false]else z) w)/\∀a,g k=some a->(Instr.lookup t (.map (some b)) (.int .i64 k) c).run prog w=.ok (if c then .tuple #[mk a,.bool true]else mk a) w:=by
 obtain⟨G,s,L,M,v,o⟩:=h;obtain⟨K,H,A,F,_,rfl⟩:=s;rcases Maps.fit_look c CV B C A F (SU p)with⟨m,N,l⟩|⟨I,y,_,_,m,x,l,_⟩
 .have j:=Maps.has_false_of_atKey l;exact⟨fun _=>m,fun a d=>(by rw[(o k a d).1]at j;cases j)⟩
 .obtain⟨n,q,rfl,P⟩:=E.inv _ _ x;have j:=Maps.has_true_of_atKey l;refine⟨fun d=>(by rw[v k p d]at j;cases j),fun a d=>?_⟩;have r:n=a:=E.inj n a ((l (dc a)).symm.trans ((o k a d).2 (dc a)));rw[m,q,r]
theorem BK.put{t e:TypeId}(h:BK R dc b g w)(E:QV R mk dc ok)(H:Tryz.prog.underlying t=some (.map 3 e)){k:Nat}(d:k<20000){a:α}(F:ok a):
 ∃f,(Instr.mapUpdate t (.map (some b)) (.int .i64 k) (mk a)).run prog w=.ok () f/\BK R dc b (fun x=>if x=k then some a else g x) f/\O (fun k=>k=b) w f:=by
 obtain⟨p,l,s,v,A,m⟩:=h;obtain⟨f,G,B,C⟩:=World.ownsMap.store l CV H jZ (SU d) (E.rd a F);have n:∀x,has (p.put (kI k) (dc a)) x=true->∃k,k<20000/\x=kI k:=fun x c=>by
  by_cases o:x=kI k
  .exact⟨k,d,o⟩
  .rw[Maps.has_put_other o]at c;exact s x c
 refine⟨f,G,⟨_,(Ns B n).1,n,fun x y c=>?_,fun x c j=>?_,fun x y c=>?_⟩,(O.refl _ w).grown C.grown (fun k d=>.inl (by cases d;rfl))⟩
 .dsimp only at c;split at c
  .next q=>rw[q];exact d
  .exact v x y c
 .dsimp only at j;split at j
  .cases j
  .next q=>rw[Maps.has_put_other (fun r=>q (LQ r))];exact A x c j
 .dsimp only at c;split at c
  .next q=> cases c;rw[q];exact⟨Maps.has_put_same l.isMap (Rr d) _,fun z=>Maps.atKey_put_same l.isMap (Rr d) _ z⟩
  .next q=> rw[Maps.has_put_other (fun r=>q (LQ r))];exact⟨(m x y c).1,fun z=>by rw[Maps.atKey_put_other (fun r=>q (LQ r))];exact(m x y c).2 z⟩
theorem BK.len{t e:TypeId}(h:BK R dc b g w)(A:Tryz.prog.underlying t=some (.map 3 e))(m:TypeId):
 ∃n:Nat,n<=20000/\(Builtin.len_ #[t] m #[.map (some b)]).run prog w=.ok (.int .i64 n) w/\(n=0↔∀k,g k=none):=by
 obtain⟨o,d,l,B,r,s⟩:=h;refine⟨Maps.size o,(Ns d l).2,d.len A m,?_⟩;obtain⟨c,rfl,C,y⟩:=d.entries CV;rw[Maps.size_eq];constructor
 .intro q k;cases v:g k with
  |none=>rfl
  |some a=> have:=(s k a v).1;rw[List.length_eq_zero_iff.1 q,Maps.has_eq]at this;simp at this
 .intro z;cases c with
  |nil=>rfl
  |cons p c=>
   have j:has (.map (p::c):DataW Unit) p.1=true:=by rw[Maps.has_eq];exact List.any_eq_true.2 ⟨p,jF,WideAt.sameKey_self (y p jF)⟩
   obtain⟨k,x,e⟩:=l _ j;rw[e,r k x (z k)]at j;cases j
def FG(R:Value->Option (DataW Unit×List MemPlace))(dc:α->DataW Unit)(b r:Nat)(g:Nat->Option α)(e:Nat->Prop)(w:World):Prop:=
 ∃c left d,w.ranges prog 3 R b r 20000 c left d/\(∀x,has c x=true->∃k,k<20000/\x=kI k)/\(∀k a,g k=some a->k<20000)/\(∀k,k<20000->g k=none->has c (kI k)=false)/\(∀k a,g k=some a->has c (kI k)=true/\∀z,c.atKey (kI k) z=dc a)/\∀k,e k↔left (kI k)=true
theorem FG.map{r}{l:Nat->Prop}(h:FG R dc b r g l w):BK R dc b g w:=by obtain⟨a,left,m,c,d,e,j,k,n⟩:=h;exact⟨a,c.owns,d,e,j,k⟩
theorem FG.ltr{r}{c:Nat->Prop}(h:FG R dc b r g c w):r<w.heap.size:=by obtain⟨d,left,e,a,_⟩:=h;exact a.lt
theorem FG.iter{r}{j:Nat->Prop}(h:FG R dc b r g j w):∃a s c d,w.heap[r]? =some (.mapIter a s c d):=by obtain⟨k,left,n,⟨o,m,y,x,l,t,F,v,p,e,q⟩,_⟩:=h;exact⟨_,_,_,_,e⟩
theorem FG.d8{r}{k X:Nat->Prop}(h:FG R dc b r g k w)(j:O X w f)(s:¬X b)(v:¬X r):FG R dc b r g k f/\f.rangeLeft b r=w.rangeLeft b r:=by
 have z:=h.map.lt;have A:=h.ltr;obtain⟨a,left,c,d,o⟩:=h;have e:f.ranges prog 3 R b r 20000 a left c:=by obtain⟨n,m,C,B,l,t,F,y,p,x,q⟩:=d;exact⟨n,m,C,B,l,(j.block b z s).trans t,F,y,p,(j.block r A v).trans x,q⟩
 exact⟨⟨a,left,c,e,o⟩,by rw[d.left_eq,e.left_eq]⟩
variable{i:Array Oper}{u:List Oper}{o:Oper}{a:Act}{Q:Exit->Act->World->Prop}
theorem Eu(w:World)(d:o.guard=none)(m:Operand)(t:TypeId)(z:o.op=Op.range t m)(e:TypeId)(E:Tryz.prog.underlying t=some (.map 3 e)){R:Value->Option (DataW Unit×List MemPlace)}{dc:α->DataW Unit}(b:Nat){g:Nat->Option α}
 (y:a.eval m=.map (some b))(A:BK R dc b g w)
 (r:∀f,FG R dc b w.heap.size g (fun k=>∃a,g k=some a) f->O kD w f->f.heap.size=w.heap.size+1->wpList prog i Q u (a.put o.dst (.pointer (some ⟨w.heap.size,0,none⟩))) f):
 wpList prog i Q (o::u) a w:=by
 obtain⟨h,p,j,q,l,n⟩:=A;refine wpList_range_own w d m t z 3 e CV E R b 20000 h y p fun f B v C=>r f ⟨h,_,_,B,j,q,l,n,fun k=>⟨?_,fun c=>?_⟩⟩ ((O.refl _ w).grown v (fun k c=>by cases c)) C
 .rintro⟨a,s⟩;exact(n k a s).1
 .obtain⟨F,x,e⟩:=j _ c;have e:=LQ e;subst e;cases d:g k with
  |none=>rw[l k x d]at c;cases c
  |some a=>exact⟨a,rfl⟩
theorem EK(w:World)(X:o.guard=none)(m:Operand)(a5:o.op=Op.next m false)(E:QV R mk dc ok)(b r:Nat){g:Nat->Option α}{d:Nat->Prop}(a1:a.eval m=.pointer (some ⟨r,0,none⟩))(h:FG R dc b r g d w)
 (S:(∀k,¬d k)->wpList prog i Q u (a.put o.dst (.tuple #[.bool false])) w)
 (U:∀(k:Nat) (x:α) (f:World),k<20000->d k->g k=some x->ok x->FG R dc b r g (fun z=>d z/\z≠k) f->f.rangeLeft b r<w.rangeLeft b r->O (fun z=>z=r) w f->f.heap.size=w.heap.size->(Instr.entry (.pointer (some ⟨r,0,none⟩))).run prog f=.ok (.tuple #[.int .i64 k,mk x]) f->wpList prog i Q u (a.put o.dst (.tuple #[.bool true,.int .i64 k,mk x])) f):
 wpList prog i Q (o::u) a w:=by
 have a8:=h.map;obtain⟨n,left,K,s,t,P,A,B,e⟩:=h;refine wpList_next_ranges w X m a5 3 CV R (fun v:Value=>v) (fun v:Value=>v) (fun H _ _=>⟨H,rfl⟩) (fun v _ _=>⟨v,rfl⟩) b r 20000 n left K a1 s (fun _ hl=>S fun k c=>?_) ?_
 .have:=hl (kI k);rw[(e k).1 c]at this;cases this
 .rintro H v kl y f L a2 a3 hv C G a4 a0 a6 V;have j:=Maps.has_true_of_atKey C;obtain⟨k,c,rfl⟩:=t kl j;obtain⟨x',N,p,a9⟩:=Maps.keyOf_int_inv underlying3 a2;have M:x'=(k:Int):=by unfold kI at p;cases p;rfl
  subst N;subst M;obtain⟨x,rfl,rfl,a7⟩:=E.inv v _ hv;have Y:g k=some x:=by
   cases F:g k with
   |none=>rw[A k c F]at j;cases j
   |some I=>rw[E.inj x I ((C (dc x)).symm.trans ((B k I F).2 (dc x)))]
  refine U k x f c ((e k).2 a3) Y a7 ⟨n,_,L,G,t,P,A,B,fun z=>?_⟩ (by rw[G.left_eq,s.left_eq];exact a4) ((O.refl _ w).grown a0 (fun k c=>.inl (by cases c;rfl))) a6 V;show(d z/\z≠k)↔_;rw[e z];by_cases l:z=k
  .subst l;simp[WideAt.sameKey_self (Rr c)]
  .simp[l,sameKey_ne (fun q=>l (LQ q))]
end
theorem XY(x i:Nat):x &&& 2 ^ i=0↔x.testBit i=false:=by
 constructor
 .intro h;have:=congrArg (fun y=>y.testBit i) h;simpa[Nat.testBit_and,Nat.testBit_two_pow]using this
 .intro h;apply Nat.eq_of_testBit_eq;intro j;rw[Nat.testBit_and,Nat.testBit_two_pow,Nat.zero_testBit];by_cases a:i=j
  .subst a;simp[h]
  .simp[a]
theorem Sx{x:Nat}(h:x<18446744073709551616)(y j:Nat)(b:y<18446744073709551616):(y &&& (18446744073709551615-x)).testBit j=(y.testBit j && !x.testBit j):=by
 have e:18446744073709551615-x=2 ^ 64-(x+1):=Z;rw[Nat.testBit_and,e,Nat.testBit_two_pow_sub_succ (Z:x<2 ^ 64)];by_cases a:j<64
 .simp[a]
 .have:y.testBit j=false:=Nat.testBit_lt_two_pow (gY (Z:y<2 ^ 64) (Nat.pow_le_pow_right T Z));simp[this]
theorem Ll{x:Nat}(h:x≠0):∃i,x.testBit i=true:=by
 apply Classical.byContradiction;intro q;exact h (Nat.eq_of_testBit_eq fun i=>by
  rw[Nat.zero_testBit];cases a:x.testBit i
  .rfl
  .exact jO ⟨i,a⟩ q)
theorem VA{x i:Nat}(h:x<18446744073709551616)(a:x.testBit i=true):i<64:=by apply Classical.byContradiction;intro q;rw[Nat.testBit_lt_two_pow (gY (Z:x<2 ^ 64) (Nat.pow_le_pow_right T Z))]at a;cases a
theorem LF{x:Nat}(f:x≠0)(h:x<18446744073709551616):Lib.ctz 64 x<64/\x.testBit (Lib.ctz 64 x)=true/\∀i,(x &&& (x-1)).testBit i=(x.testBit i && decide (i≠Lib.ctz 64 x)):=by
 obtain⟨m,a,n⟩:=Lib.ctzFrom_spec 64 x Z Z;have e:Lib.ctz 64 x=Lib.ctzFrom 64 x:=by simp[Lib.ctz,f]
 rw[e];generalize Lib.ctzFrom 64 x=k at*;have p:0<2 ^ k:=Nat.two_pow_pos k;have c:x-1=2 ^ k*(2*m)+(2 ^ k-1):=by rw[a,Nat.mul_add,Nat.mul_one];omega
 have b:∀i,x.testBit i=(decide (k<=i) && (2*m+1).testBit (i-k)):=fun i=>by rw[a,Nat.mul_comm,Nat.testBit_mul_two_pow]
 have o:∀i,(x-1).testBit i=if i<k then(2 ^ k-1).testBit i else(2*m).testBit (i-k):=fun i=>by rw[c,Nat.testBit_two_pow_mul_add _ Z]
 refine⟨n,by rw[b];simp,fun i=>?_⟩;rw[Nat.testBit_and,b,o];by_cases g:i<k
 .have:¬k<=i:=Z;simp[this]
 .rw[jG g];by_cases l:i=k
  .subst l;simp
  .obtain⟨j,rfl⟩:∃j,i=k+(j+1):=⟨i-k-1,Z⟩;have d:k+(j+1)-k=j+1:=Z;rw[d,Nat.testBit_succ,Nat.testBit_succ,show(2*m+1) / 2=m by omega,show 2*m / 2=m by omega];simp
theorem Pa{x:Nat}(a:x≠0):x &&& (x-1)<x:=by have:x &&& (x-1)<=x-1:=Nat.and_le_right;omega
structure Wd(g:Nat->Option Nat)(m:Nat->Prop):Prop where
 ok:∀k x,g k=some x->x≠0/\x<18446744073709551616/\k<300
 cU:∀n,m n↔∃x,g (n / 64)=some x/\x.testBit (n % 64)=true
theorem Wd.lt{g m}(h:Wd g m){n}(a:m n):n<19200:=by obtain⟨x,b,_⟩:=(h.cU n).1 a;have:=(h.ok _ _ b).2.2;omega
theorem Wd.nil:Wd (fun _=>none) (fun _=>False):=⟨fun _ _ h=>by simp at h,fun n=>jY⟩
theorem Wd.empty{g m}(h:Wd g m):(∀k,g k=none)↔∀n,¬m n:=by
 constructor
 .intro q n d;obtain⟨x,c,_⟩:=(h.cU n).1 d;rw[q]at c;cases c
 .intro q k;cases a:g k with
  |none=>rfl
  |some x=> obtain⟨i,b⟩:=Ll (h.ok k x a).1;have e:=VA (h.ok k x a).2.1 b;exact jO ((h.cU (k*64+i)).2 ⟨x,by rw[show(k*64+i) / 64=k by omega];exact a,by rw[show(k*64+i) % 64=i by omega];exact b⟩) (q _)
def wd(g:Nat->Option Nat)(k:Nat):Nat:=(g k).getD 0
theorem Wd.word{g m}(h:Wd g m)(n:Nat):m n↔(wd g (n / 64)).testBit (n % 64)=true:=by
 rw[h.cU];unfold wd;cases g (n / 64)with
 |none=>simp
 |some x=>simp
theorem Wd.small{g m}(h:Wd g m)(k:Nat):wd g k<18446744073709551616:=by
 unfold wd;cases a:g k with
 |none=>simp
 |some x=>exact(h.ok k x a).2.1
theorem Wd.put{g m}(h:Wd g m){k y:Nat}(l:k<300)(e:y≠0)(j:y<18446744073709551616):Wd (fun x=>if x=k then some (wd g k|||y)else g x) (fun n=>m n\/(n / 64=k/\y.testBit (n % 64)=true)):=by
 refine⟨fun x z c=>?_,fun n=>?_⟩
 .split at c
  .next q=>
   cases c;refine⟨fun f=>?_,?_,Z⟩
   .obtain⟨i,d⟩:=Ll e;have:=congrArg (fun a=>a.testBit i) f;simp[Nat.testBit_or,d]at this
   .have:=Nat.or_lt_two_pow (n:=64) (x:=wd g k) (y:=y) (by have:=h.small k;omega) Z;omega
  .exact h.ok x z c
 .by_cases b:n / 64=k
  .simp only[b,if_true,true_and];rw[h.word,b];simp[Nat.testBit_or]
  .simp only[b,if_false,false_and,or_false];exact h.cU n
def MB:Value->Option (DataW Unit×List MemPlace)
 |.int .u64 a=>if 0<=a/\a<18446744073709551616 then some (.lit (.int .u64 a),[])else none
 |_=>none
def KP(n:Nat):DataW Unit:=.lit (.int .u64 n)
def QK(n:Nat):Value:=.int .u64 n
theorem MC:QV MB QK KP (fun n=>n<18446744073709551616):=by
 refine⟨fun a d=>?_,fun v z c=>?_,fun a b h=>?_⟩
 .unfold MB QK KP;simp only;rw[jH ⟨Z,Z⟩]
 .unfold MB at c;split at c
  .next a=>
   split at c
   .next h0=>
    cases c;refine⟨a.toNat,?_,?_,Z⟩
    .unfold QK;rw[Int.toNat_of_nonneg h0.1]
    .unfold KP;rw[Int.toNat_of_nonneg h0.1]
   .cases c
  .cases c
 .unfold KP at h;cases h;rfl
def Bl(b:Nat)(m:Nat->Prop)(w:World):Prop:=∃g,BK MB KP b g w/\Wd g m
theorem Bl.d8{b:Nat}{m X:Nat->Prop}{w a}(h:Bl b m w)(e:O X w a)(f:¬X b):Bl b m a:=by obtain⟨g,c,d⟩:=h;exact⟨g,c.d8 e f,d⟩
theorem Bl.lt{b:Nat}{m:Nat->Prop}{w}(h:Bl b m w):b<w.heap.size:=by obtain⟨g,a,c⟩:=h;exact a.lt
theorem Bl.made(w:World):Bl w.heap.size (fun _=>False) (w.alloc (.map #[] 0)):=⟨_,BK.made w,Wd.nil⟩
theorem Bl.iff{b:Nat}{m m':Nat->Prop}{w}(h:Bl b m w)(e:∀n,m n↔m' n):Bl b m' w:=by rw[<-show m=m' from funext fun n=>propext (e n)];exact h
theorem Wd.iff{g}{m m':Nat->Prop}(h:Wd g m)(e:∀n,m n↔m' n):Wd g m':=by rw[<-show m=m' from funext fun n=>propext (e n)];exact h
theorem YL(w:World):(zeroValue 226).run prog w=.ok (.int .u64 0) w:=by go_simp
theorem BK.word{b g w}(h:BK MB KP b g w){k:Nat}(f:k<20000):(Instr.lookup 69 (.map (some b)) (.int .i64 k) false).run prog w=.ok (.int .u64 (wd g k)) w:=by
 obtain⟨d,e⟩:=h.look MC underlying69 (YL w) f false;unfold wd;cases c:g k with
 |none=>exact d c
 |some a=>exact e a c
theorem Gf(b:Nat)(m:Nat->Prop)(x:Nat)(w:World)(h:Bl b m w)(hx:x<19200):
 Calls prog 91 #[.map (some b),.int .i64 x] w fun e H=>∃r:Bool,e=.returned (.bool r)/\(r=true↔¬m x)/\Bl b (fun n=>m n\/n=x) H/\O (fun k=>k=b) w H:=by
 obtain⟨g,o,i⟩:=h;have Q:(Instr.lookup 69 (.map (some b)) (.int .i64 ((x:Int) / 64)) false).run prog w.drew=.ok (.int .u64 (wd g (x / 64))) w.drew:=by have:=(o.d8 (O.drew (O.refl kD w)) id).word (k:=x / 64) Z;rw[show(((x / 64:Nat):Nat):Int)=(x:Int) / 64 by omega]at this;exact this
 obtain⟨c,d⟩:∃c,c=2 ^ (x % 64):=⟨_,rfl⟩;have l:c<18446744073709551616:=by have:2 ^ (x % 64)<2 ^ 64:=Nat.pow_lt_pow_right T Z;rw[d];omega
 have Y:IntKind.u64.wrap (2 ^ (x % 64))=(c:Int):=by rw[IntKind.wrap_u64,d];have:((2:Int) ^ (x % 64))=((2 ^ (x % 64):Nat):Int):=jY;rw[this];omega
 have p:=i.word x;have s:=i.put (k:=x / 64) (y:=c) Z (by rw[d];exact Nat.ne_of_gt (Nat.two_pow_pos _)) l;have t:=i.small (x / 64);obtain⟨a,C⟩:∃a,wd g (x / 64)=a:=⟨_,rfl⟩;rw[C]at Q p s t;have U:=bits_and_u64_nat a c t l;have V:=bits_or_u64_nat a c t l;have u:=XY a (x % 64);rw[<-d]at u;have v:=J o;have z:=J p;have M:=J s;have I:=J d;have A:=J u;have N:=J i;clear o p s C d u i;by_cases f:m x
 .have B:((a &&& c:Nat):Int)≠0:=by have:=A.o;have j:=z.o.1 f;intro q;have q:a &&& c=0:=Z;rw[this.1 q]at j;cases j
  have S:(((a &&& c:Nat):Int) !=0)=true:=by simpa using B
  go_enter func91,ntmps91
  go_wp2_with fail
  go_region
  go_wp2_with fail
  go_ret
  exact⟨false,rfl,by simp[f],⟨g,v.o.d8 (X:=kD) jV id,N.o.iff fun n=>⟨.inl,fun q=>q.elim id fun e=>e▸f⟩⟩,jV⟩
 .have B:(((a &&& c:Nat):Int) !=0)=false:=by
   have j:a.testBit (x % 64)=false:=by
    cases P:a.testBit (x % 64)
    .rfl
    .exact jO (z.o.2 P) f
   rw[A.o.2 j];rfl
  have R:(a|||c)<18446744073709551616:=by have:=Nat.or_lt_two_pow (n:=64) (x:=a) (y:=c) Z Z;omega
  obtain⟨w1,G,E,F⟩:=(v.o.d8 (O.drew (O.refl kD w)) id).put MC underlying69 (k:=x / 64) Z R
  rw[show(((x / 64:Nat):Nat):Int)=(x:Int) / 64 by omega]at G
  unfold QK at G
  have L:=J F
  have K:=J E
  clear F E
  go_enter func91,ntmps91
  go_wp2_with fail
  go_region
  go_wp2_with fail
  go_ret
  refine⟨true,rfl,by simp[f],⟨_,K.o,M.o.iff fun n=>?_⟩,(O.drew (O.refl _ w)).trans L.o⟩
  rw[I.o,Nat.testBit_two_pow]
  simp only[jD]
  constructor
  .rintro(q|⟨q1,q2⟩)
   .exact .inl q
   .exact .inr Z
  .rintro(q|rfl)
   .exact .inl q
   .exact .inr ⟨rfl,rfl⟩
theorem Kf(x:Nat)(w:World)(j:x<19200):
 Calls prog 88 #[.int .i64 x] w fun e f=>∃b,e=.returned (.map (some b))/\w.heap.size<=b/\Bl b (fun n=>n=x) f/\O kD w f:=by
 have l:=@run_makeMap prog;have d:=J (Bl.made w);go_enter func88,ntmps88;go_wp2_with fail;refine(Gf _ _ x _ d.o j).mono ?_;rintro e m ⟨r,rfl,_,a,c⟩;have g:=J a;have i:=J c;clear a c d;go_wp2_with fail;go_ret;exact⟨_,rfl,gI _,g.o.iff fun n=>jY,((O.refl _ w).alloc _).thn i.o (fun k h q=>Z)⟩
structure Su(b o f r:Nat)(go:Nat->Option Nat)(m u:Nat->Prop)(rest:Nat->Prop)(w0 w:World):Prop where
 rng:FG MB KP o r go rest w
 fr:Bl f (fun n=>u n/\¬rest (n / 64)/\¬m n) w
 bs:Bl b (fun n=>m n\/(u n/\¬rest (n / 64))) w
 ob:O (fun k=>k=b) w0 w
theorem G5(b o:Nat)(m u:Nat->Prop)(w:World)(h:Bl b m w)(k:Bl o u w)(b6:b≠o):
 Calls prog 127 #[.map (some b),.map (some o)] w fun e w'=>∃f,e=.returned (.map (some f))/\w.heap.size<=f/\Bl f (fun n=>u n/\¬m n) w'/\Bl b (fun n=>m n\/u n) w'/\O (fun k=>k=b) w w':=by
 have c2:=@run_makeMap prog;obtain⟨go,ko,b1⟩:=k;have lo:=ko.lt;have lb:=h.lt;have L:O kD w (w.alloc (.map #[] 0)):=(O.refl _ w).alloc _;have v:=J (Bl.made w);have t:=J (h.d8 L id);have B:=J (ko.d8 L id);have C:=J b1;have O1:=J L;clear h ko b1 L;go_enter func127,ntmps127;go_wp2_with(at_range;refine Eu _ rfl _ 69 rfl 226 underlying69 o rfl B.o ?_;intro w2 A g hs);have b0:(w.alloc (.map #[] 0)).heap.size=w.heap.size+1:=jY;rw[b0]at A hs⊢;try go_frame
 have T0:D (Su b o w.heap.size (w.heap.size+1) go m u (fun k=>∃a,go k=some a) w w2):=by
  refine⟨A,(v.o.d8 g id).iff fun n=>⟨False.elim,?_⟩,(t.o.d8 g id).iff fun n=>⟨.inl,?_⟩,(O1.o.trans g).mono (fun _ _ q=>q.elim)⟩
  .rintro⟨q,r,_⟩;obtain⟨x,hx,_⟩:=(C.o.cU n).1 q;exact r ⟨x,hx⟩
  .rintro(q|⟨q,r⟩)
   .exact q
   .obtain⟨x,hx,_⟩:=(C.o.cU n).1 q;exact jO ⟨x,hx⟩ r
 clear A g hs v t B O1 b0;have c4:w.heap.size<w.heap.size+1:=Nat.lt_succ_self _;generalize w.heap.size+1=r at*;go_loopw[] (fun wr=>∃s:Nat->Prop,D (Su b o w.heap.size r go m u s w wr)) (fun wr=>wr.rangeLeft o r)
 case atStart=>exact⟨_,T0⟩
 case round=>
  clear T0;obtain⟨s,l⟩:=hrel;go_wp2_with(at_next;refine EK _ rfl _ rfl MC o r rfl l.o.rng ?_ ?_);rotate_left
  .intro k x P X G a8 a0 A Y g hs b4;unfold QK at b4;obtain⟨d,mb,Q⟩:=l.o.bs;obtain⟨gf,mf,R⟩:=l.o.fr;have a6:b≠r:=Z;have a7:w.heap.size≠r:=Z;have a1:=mb.d8 g (fun q=>a6 q);have b2:=mf.d8 g (fun q=>a7 q);have V:=Q.small k;have H:∀n,n / 64=k->(u n↔x.testBit (n % 64)=true):=fun n c=>by rw[C.o.word,c];unfold wd;rw[a8];rfl
   have F:∀n,n / 64=k->(m n↔(wd d k).testBit (n % 64)=true):=fun n c=>by have:=Q.word n;rw[c]at this;rw[<-this];exact⟨.inl,fun q=>q.elim id fun q=>jO G q.2⟩
   have b5:wd gf k=0:=by apply Classical.byContradiction;intro q;obtain⟨i,hi⟩:=Ll q;have hl:=VA (R.small k) hi;have:=(R.word (k*64+i)).2 (by rw[show(k*64+i) / 64=k by omega,show(k*64+i) % 64=i by omega];exact hi);rw[show(k*64+i) / 64=k by omega]at this;exact this.2.1 G
   have a9:=(C.o.ok k x a8).2.2;have hl:(Instr.lookup 69 (.map (some b)) (.int .i64 k) false).run prog P=.ok (.int .u64 (wd d k)) P:=a1.word X;have b7:=u64_andNot_nat x (wd d k) a0 V;obtain⟨y,I⟩:∃y,x &&& (18446744073709551615-wd d k)=y:=⟨_,rfl⟩;have E:∀i,y.testBit i=(x.testBit i && !(wd d k).testBit i):=fun i=>by rw[<-I];exact Sx V x i a0
   have K:y<18446744073709551616:=by rw[<-I];exact Nat.lt_of_le_of_lt Nat.and_le_left a0
   rw[I]at b7;have c3:=bits_or_u64_nat (wd d k) y V K;have HU:=J H;have HM:=J F;have c1:=J E;have a3:=J A;have B:=J g;have v:D (∀n,(u n/\¬(s (n / 64)/\n / 64≠k)/\¬m n)↔(u n/\¬s (n / 64)/\¬m n)\/(n / 64=k/\y.testBit (n % 64)=true)):=fun n=>by
    by_cases c:n / 64=k
    .rw[c,E,H n c,F n c];cases x.testBit (n % 64)<;>cases (wd d k).testBit (n % 64)<;>simp[G]
    .simp[c]
   have t:D (∀n,(m n\/(u n/\¬(s (n / 64)/\n / 64≠k)))↔(m n\/(u n/\¬s (n / 64)))\/(n / 64=k/\y.testBit (n % 64)=true)):=fun n=>by
    by_cases c:n / 64=k
    .rw[c,E,H n c,F n c];cases x.testBit (n % 64)<;>cases (wd d k).testBit (n % 64)<;>simp[G]
    .simp[c]
   have a4:O (fun k=>k=b) w P:=l.o.ob.thn g (fun j hj q=>Z);have a2:=J a4;clear H F E A g I a4;by_cases p:y=0
   .have hz:((y:Int) !=0)=false:=by rw[p];rfl
    have H3:D (Su b o w.heap.size r go m u (fun z=>s z/\z≠k) w P):=
     ⟨a3.o,⟨gf,b2,R.iff fun n=>by rw[v.o,p];simp⟩,⟨d,a1,Q.iff fun n=>by rw[t.o,p];simp⟩,a2.o⟩
    clear p;go_wp2_with fail;go_roundw
    case rel=>exact⟨_,H3⟩
    case measure=>exact Y
   .have hz:((y:Int) !=0)=true:=by simpa using p
    have b8:wd d k|||y<18446744073709551616:=by have:=Nat.or_lt_two_pow (n:=64) (x:=wd d k) (y:=y) Z Z;omega
    obtain⟨w4,b9,m4,M⟩:=a1.put MC underlying69 (k:=k) X b8;have a5:w.heap.size≠b:=Z;obtain⟨w5,c0,m5,N⟩:=(b2.d8 M (fun q=>a5 q)).put MC underlying69 (k:=k) (a:=y) X K;unfold QK at b9 c0;have S:=a3.o.d8 M (fun q=>b6 q.symm) (fun q=>a6 q.symm);have U:=S.1.d8 N (fun q=>Z) (fun q=>a7 q.symm);have b3:D (w5.rangeLeft o r<wr.rangeLeft o r):=by rw[U.2,S.2];exact Y
    have pf:=R.put (k:=k) (y:=y) a9 p K;rw[b5,Nat.zero_or]at pf;have H5:D (Su b o w.heap.size r go m u (fun z=>s z/\z≠k) w w5):=
     ⟨U.1,⟨_,m5,pf.iff fun n=>(v.o n).symm⟩,⟨_,m4.d8 N (fun q=>a5 q.symm),(Q.put (k:=k) (y:=y) a9 p K).iff fun n=>(t.o n).symm⟩,(a2.o.trans M).thn N (fun j hj q=>Z)⟩
    clear S U pf m4 m5 M N p Y;go_wp2_with fail;go_roundw
    case rel=>exact⟨_,H5⟩
    case measure=>exact b3.o
  .intro hd;have v:=J l.o.fr;have t:=J l.o.bs;have B:=J l.o.ob;clear l;go_wp2_with fail;go_ret;exact⟨_,rfl,gI _,v.o.iff fun n=>by simp[hd],t.o.iff fun n=>by simp[hd],B.o⟩
theorem Ou(b:Nat)(m:Nat->Prop)(w:World)(h:Bl b m w):
 Calls prog 127 #[.map (some b),.map (some b)] w fun e u=>∃f,e=.returned (.map (some f))/\w.heap.size<=f/\Bl f (fun _=>False) u/\Bl b m u/\O kD w u:=by
 have a0:=@run_makeMap prog;obtain⟨go,s,F⟩:=h;have lo:=s.lt;have t:O kD w (w.alloc (.map #[] 0)):=(O.refl _ w).alloc _;have g:=J (Bl.made w);have l:=J (s.d8 t id);have N:=J F;have A:=J t;clear s F t;go_enter func127,ntmps127;go_wp2_with(at_range;refine Eu _ rfl _ 69 rfl 226 underlying69 b rfl l.o ?_;intro X d c p);have C:(w.alloc (.map #[] 0)).heap.size=w.heap.size+1:=jY;rw[C]at d p⊢;try go_frame
 have B:D (FG MB KP b (w.heap.size+1) go (fun k=>∃a,go k=some a) X):=d;have y:=J (g.o.d8 c id);have z:=J (A.o.trans c);have a2:w.heap.size<w.heap.size+1:=Nat.lt_succ_self _;clear d c p g l A C;generalize w.heap.size+1=r at*;go_loopw[] (fun wr=>∃H:Nat->Prop,D (FG MB KP b r go H wr)/\D (Bl w.heap.size (fun _=>False) wr)/\D (O kD w wr)) (fun wr=>wr.rangeLeft b r)
 case atStart=>exact⟨_,B,y,z⟩
 case round=>
  clear B y z;obtain⟨H,o,g,l⟩:=hrel;go_wp2_with(at_next;refine EK _ rfl _ rfl MC b r rfl o.o ?_ ?_);rotate_left
  .intro k x v S a1 R n d U c p P;unfold QK at P;have Q:w.heap.size≠r:=Z;have K:=J (g.o.d8 c (fun q=>Q q));have L:D (O kD w v):=l.o.thn c (fun j hj q=>Z);have E:wd go k=x:=by unfold wd;rw[R];rfl
   have hl:(Instr.lookup 69 (.map (some b)) (.int .i64 k) false).run prog v=.ok (.int .u64 x) v:=by rw[<-E];exact d.map.word S
   have V:=u64_andNot_nat x x n n;have G:x &&& (18446744073709551615-x)=0:=Nat.eq_of_testBit_eq fun i=>by rw[Sx n x i n];simp
   rw[G]at V;have hz:(((0:Nat):Int) !=0)=false:=rfl;have M:=J d;clear d c E G;go_wp2_with fail;go_roundw
   case rel=>exact⟨_,M,K,L⟩
   case measure=>exact U
  .intro Y;have I:D (Bl b m wr):=⟨go,o.o.map,N.o⟩;clear o;go_wp2_with fail;go_ret;exact⟨_,rfl,gI _,g.o,I.o,l.o⟩

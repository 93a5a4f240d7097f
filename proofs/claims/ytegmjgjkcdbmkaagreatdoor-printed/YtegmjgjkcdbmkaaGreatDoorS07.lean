/- One of the texts of the proof: AnA AnB AnC AnD AnE AnF AnG. -/
import Derived.Test.YtegmjgjkcdbmkaaGreatDoorS12
import Derived.Maps.RangeWalk
import Derived.Lib.TrailingZeros
import Derived.Laws.BitsAllLaws
import Derived.OwnWalk
import Derived.Shelf.Spec.TrailingZeros
set_option maxRecDepth 100000
set_option maxHeartbeats 1000000
namespace Go.Proofs.YtegmjgjkcdbmkaaGreatDoor
open Go.RowKit Go.Maps
def vN(f v:Nat):Nat:=f*12+v
def fN(f:Nat):Nat:=144+f
def pN(n k:Nat):Nat:=156+(n-1)*4+k
def Ug(t:Nat):Prop:=t<144∨156≤t
def YF(t:Nat):Prop:=144≤t∧t<156
structure Sy where
 I:Nat→Nat→Prop
 F:Nat→Nat→Prop
 E:Nat→Nat→Prop
structure Rl where
 f:Nat
 s:AY
def Rl.tg(r:Rl):Nat:=vN r.f r.s.aQ
def Rl.sr(r:Rl):Nat:=vN r.f r.s.r9
def Ey(P:List PFn)(g:Nat)(x:Nat):Prop:=∃s,s∈(Ap P g).b9∧s.kind=10∧x=vN g s.r9
def Ly(P:List PFn)(r:Rl):Prop:=r.f<P.length∧r.s∈(Ap P r.f).b9
def DY(P:List PFn)(r:Rl)(g:Nat)(S:Sy):Prop:=
 (∀i a,r.s.args[i]? =some a→S.F (vN r.f a) (vN g i))∧∀x,Ey P g x→S.F x r.tg
def Mz(P:List PFn)(r:Rl)(S:Sy):Prop:=
 (r.s.kind=1→S.I r.tg (pN r.s.m9 0))∧(r.s.kind=2→S.I r.tg r.sr)∧(r.s.kind=4→S.I r.tg (fN r.s.r9))∧(r.s.kind=6→S.F r.sr r.tg)∧(r.s.kind=7→DY P r r.s.r9 S)
def EZ(P:List PFn)(r:Rl)(t:Nat)(S:Sy):Prop:=
 (r.s.kind=3→156≤t→(t-156) % 4=0→S.I r.tg (t+r.s.field))∧(r.s.kind=5→Ug t→S.F t r.tg)∧(r.s.kind=9→Ug t→S.F r.sr t)∧
 (r.s.kind=8→YF t→(Ap P (t-144)).i8=r.s.args.length→S.E r.s.m9 (t-144)∧DY P r (t-144) S)
def A2(r:Rl):Prop:=r.s.kind=3∨r.s.kind=5∨r.s.kind=8∨r.s.kind=9
def Rl.at(r:Rl):Nat:=if r.s.kind=9 then r.tg else r.sr
structure XW(P:List PFn)(S:Sy):Prop where
 flow:∀a b t,S.F a b→S.I a t→S.I b t
 beg:∀r,Ly P r→Mz P r S
 fol:∀r t,Ly P r→A2 r→S.I r.at t→EZ P r t S
def least(P:List PFn):Sy:=⟨fun c t=>∀S,XW P S→S.I c t,fun a b=>∀S,XW P S→S.F a b,fun n g=>∀S,XW P S→S.E n g⟩
structure Sy.le(S T:Sy):Prop where
 i:∀c t,S.I c t→T.I c t
 f:∀a b,S.F a b→T.F a b
 e:∀n g,S.E n g→T.E n g
theorem Sy.le.rf(S:Sy):S.le S:=⟨fun _ _ h=>h,fun _ _ h=>h,fun _ _ h=>h⟩
theorem Sy.le.tr{S T R:Sy}(h:S.le T)(k:T.le R):S.le R:=⟨fun c t q=>k.i c t (h.i c t q),fun c t q=>k.f c t (h.f c t q),fun c t q=>k.e c t (h.e c t q)⟩
theorem DY.up{P r g}{S T:Sy}(h:DY P r g S)(k:S.le T):DY P r g T:=⟨fun i a q=>k.f _ _ (h.1 i a q),fun x q=>k.f _ _ (h.2 x q)⟩
theorem Mz.up{P r}{S T:Sy}(h:Mz P r S)(k:S.le T):Mz P r T:=
 ⟨fun q=>k.i _ _ (h.1 q),fun q=>k.i _ _ (h.2.1 q),fun q=>k.i _ _ (h.2.2.1 q),fun q=>k.f _ _ (h.2.2.2.1 q),fun q=>(h.2.2.2.2 q).up k⟩
theorem EZ.up{P r t}{S T:Sy}(h:EZ P r t S)(k:S.le T):EZ P r t T:=
 ⟨fun q u v=>k.i _ _ (h.1 q u v),fun q u=>k.f _ _ (h.2.1 q u),fun q u=>k.f _ _ (h.2.2.1 q u),fun q u v=>⟨k.e _ _ (h.2.2.2 q u v).1,(h.2.2.2 q u v).2.up k⟩⟩
theorem Vg{P}{S:Sy}(h:XW P S):(least P).le S:=⟨fun _ _ q=>q S h,fun _ _ q=>q S h,fun _ _ q=>q S h⟩
theorem KE{P r g}(h:∀S,XW P S→DY P r g S):DY P r g (least P):=⟨fun i a q S b=>(h S b).1 i a q,fun x q S b=>(h S b).2 x q⟩
theorem CU(P:List PFn):XW P (least P):=by
 refine ⟨fun a b t h k S c=>c.flow a b t (h S c) (k S c),fun r d=>?_,fun r t d e h=>?_⟩
 ·exact ⟨fun q S c=>(c.beg r d).1 q,fun q S c=>(c.beg r d).2.1 q,fun q S c=>(c.beg r d).2.2.1 q,fun q S c=>(c.beg r d).2.2.2.1 q,fun q=>KE fun S c=>(c.beg r d).2.2.2.2 q⟩
 ·exact ⟨fun q u v S c=>(c.fol r t d e (h S c)).1 q u v,fun q u S c=>(c.fol r t d e (h S c)).2.1 q u,fun q u S c=>(c.fol r t d e (h S c)).2.2.1 q u,
   fun q u v=>⟨fun S c=>((c.fol r t d e (h S c)).2.2.2 q u v).1,KE fun S c=>((c.fol r t d e (h S c)).2.2.2 q u v).2⟩⟩
structure Sv where
 s:Sy
 N:Nat→Nat→Prop
 W:Nat→Rl→Prop
structure Bs(P:List PFn)(X:Nat→Nat→Prop)(v:Sv):Prop where
 le:v.s.le (least P)
 np:∀c t,v.N c t→v.s.I c t
 fl:∀a b t,v.s.F a b→v.s.I a t→v.s.I b t∨v.N a t∨X a t
 fo:∀a r t,v.W a r→v.s.I a t→EZ P r t v.s∨v.N a t∨X a t
structure Sv.le(v u:Sv):Prop where
 s:v.s.le u.s
 w:u.W=v.W
theorem Sv.le.rf(v:Sv):v.le v:=⟨.rf _,rfl⟩
theorem Sv.le.tr{a b c:Sv}(h:a.le b)(k:b.le c):a.le c:=⟨h.s.tr k.s,k.w.trans h.w⟩
def Sv.give(v:Sv)(c:Nat)(T:Nat→Prop):Sv:=
 ⟨⟨fun x t=>v.s.I x t∨(x=c∧T t),v.s.F,v.s.E⟩,fun x t=>v.N x t∨(x=c∧T t∧¬v.s.I x t),v.W⟩
theorem Sv.give_le(v:Sv)(c T):v.le (v.give c T):=⟨⟨fun _ _ h=>.inl h,fun _ _ h=>h,fun _ _ h=>h⟩,rfl⟩
theorem Bs.give{P X}{v:Sv}{c}{T:Nat→Prop}(h:Bs P X v)(f:∀t,T t→(least P).I c t):Bs P X (v.give c T):=by
 refine ⟨⟨?_,h.le.f,h.le.e⟩,?_,?_,?_⟩
 ·rintro x t (q | ⟨rfl,q⟩)
  ·exact h.le.i x t q
  ·exact f t q
 ·rintro x t (q | ⟨rfl,q,_⟩)
  ·exact .inl (h.np x t q)
  ·exact .inr ⟨rfl,q⟩
 ·rintro a b t hF e;by_cases d:v.s.I a t
  ·rcases h.fl a b t hF d with q | q | q
   ·exact .inl (.inl q)
   ·exact .inr (.inl (.inl q))
   ·exact .inr (.inr q)
  ·rcases e with q | ⟨rfl,q⟩
   ·exact absurd q d
   ·exact .inr (.inl (.inr ⟨rfl,q,d⟩))
 ·rintro a r t g e;by_cases d:v.s.I a t
  ·rcases h.fo a r t g d with q | q | q
   ·exact .inl (q.up (Sv.give_le v c T).s)
   ·exact .inr (.inl (.inl q))
   ·exact .inr (.inr q)
  ·rcases e with q | ⟨rfl,q⟩
   ·exact absurd q d
   ·exact .inr (.inl (.inr ⟨rfl,q,d⟩))
def Sv.edge(v:Sv)(a b:Nat):Sv:=⟨⟨v.s.I,fun x y=>v.s.F x y∨(x=a∧y=b),v.s.E⟩,v.N,v.W⟩
theorem Sv.edge_le(v:Sv)(a b):v.le (v.edge a b):=⟨⟨fun _ _ h=>h,fun _ _ h=>.inl h,fun _ _ h=>h⟩,rfl⟩
def Sv.flow(v:Sv)(a b:Nat):Sv:=(v.edge a b).give b (v.s.I a)
theorem Sv.flow_le(v:Sv)(a b):v.le (v.flow a b):=(Sv.edge_le v a b).tr (Sv.give_le _ _ _)
theorem Sv.flow_F(v:Sv)(a b):(v.flow a b).s.F a b:=.inr ⟨rfl,rfl⟩
theorem Bs.flow{P X}{v:Sv}{a b}(h:Bs P X v)(hF:(least P).F a b):Bs P X (v.flow a b):=by
 have g:∀t,v.s.I a t→(least P).I b t:=fun t q=>(CU P).flow a b t hF (h.le.i a t q)
 have d:=h.give (c:=b) g;refine ⟨⟨d.le.i,?_,h.le.e⟩,d.np,?_,?_⟩
 ·rintro x y (q | ⟨rfl,rfl⟩)
  ·exact h.le.f x y q
  ·exact hF
 ·rintro x y t (q | ⟨rfl,rfl⟩) e
  ·exact d.fl x y t q e
  ·by_cases f:v.s.I x t
   ·exact .inl (.inr ⟨rfl,f⟩)
   ·rcases e with q | ⟨rfl,q⟩
    ·exact absurd q f
    ·exact absurd q f
 ·rintro x r t i e;rcases d.fo x r t i e with q | q | q
  ·exact .inl (q.up ⟨fun _ _ q=>q,fun _ _ q=>.inl q,fun _ _ q=>q⟩)
  ·exact .inr (.inl q)
  ·exact .inr (.inr q)
theorem Bs.kept{P X}{v:Sv}(h:Bs P X v){Y:Nat→Nat→Prop}(d:∀c t,X c t→Y c t):Bs P Y v:=
 ⟨h.le,h.np,fun a b t q r=>(h.fl a b t q r).imp id (.imp id (d _ _)),fun a r t q u=>(h.fo a r t q u).imp id (.imp id (d _ _))⟩
def Sv.bN(v:Sv)(n g:Nat):Sv:=⟨⟨v.s.I,v.s.F,fun x y=>v.s.E x y∨(x=n∧y=g)⟩,v.N,v.W⟩
theorem Sv.ent_le(v:Sv)(n g):v.le (v.bN n g):=⟨⟨fun _ _ h=>h,fun _ _ h=>h,fun _ _ h=>.inl h⟩,rfl⟩
theorem Bs.bN{P X}{v:Sv}{n g}(h:Bs P X v)(a:(least P).E n g):Bs P X (v.bN n g):=by
 refine ⟨⟨h.le.i,h.le.f,?_⟩,h.np,h.fl,?_⟩
 ·rintro x y (q | ⟨rfl,rfl⟩)
  ·exact h.le.e x y q
  ·exact a
 ·rintro x r t c b;exact (h.fo x r t c b).imp (fun q=>q.up (Sv.ent_le v n g).s) id
def Sv.wait(v:Sv)(a:Nat)(r:Rl):Sv:=⟨v.s,v.N,fun x y=>v.W x y∨(x=a∧y=r)⟩
theorem Bs.wait{P X}{v:Sv}{a r}(h:Bs P X v)(c:∀t,v.s.I a t→v.N a t):Bs P X (v.wait a r):=by
 refine ⟨h.le,h.np,h.fl,?_⟩;rintro x y t (q | ⟨rfl,rfl⟩) b
 ·exact h.fo x y t q b
 ·exact .inr (.inl (c t b))
theorem Bs.done{P}{v:Sv}(h:Bs P (fun _ _=>False) v)(d:∀c t,¬v.N c t)(e:∀r,Ly P r→Mz P r v.s)(f:∀r,Ly P r→A2 r→v.W r.at r):v.s.le (least P)∧(least P).le v.s:=by
 refine ⟨h.le,Vg ⟨fun a b t q r=>?_,e,fun r t q u k=>?_⟩⟩
 ·rcases h.fl a b t q r with q | q | q
  ·exact q
  ·exact absurd q (d _ _)
  ·exact q.elim
 ·rcases h.fo _ r t (f r q u) k with q | q | q
  ·exact q
  ·exact absurd q (d _ _)
  ·exact q.elim
structure Sv.up(v u:Sv):Prop where
 le:v.le u
 n:∀c t,v.N c t→u.N c t
 old:∀c t,u.N c t→v.N c t∨¬v.s.I c t
 new:∀c t,u.s.I c t→v.s.I c t∨u.N c t
 ed:∀a b,u.s.F a b→v.s.F a b∨∀t,v.s.I a t→u.s.I b t
theorem Sv.up.rf(v:Sv):v.up v:=⟨.rf _,fun _ _ h=>h,fun _ _ h=>.inl h,fun _ _ h=>.inl h,fun _ _ h=>.inl h⟩
theorem Sv.up.tr{a b c:Sv}(h:a.up b)(k:b.up c):a.up c:=
 ⟨h.le.tr k.le,fun x t q=>k.n x t (h.n x t q),fun x t q=>(k.old x t q).elim (h.old x t) fun q=>.inr fun r=>q (h.le.s.i x t r),fun x t q=>(k.new x t q).elim (fun q=>(h.new x t q).imp id (k.n x t)) .inr,
   fun x y q=>(k.ed x y q).elim (fun q=>(h.ed x y q).imp id fun q t r=>k.le.s.i y t (q t r)) fun q=>.inr fun t r=>q t (h.le.s.i x t r)⟩
theorem Sv.give_up(v:Sv)(c T):v.up (v.give c T):=by
 refine ⟨Sv.give_le v c T,fun _ _ q=>.inl q,fun x t q=>q.imp id fun q=>q.2.2,fun x t q=>?_,fun _ _ q=>.inl q⟩;rcases q with q | ⟨rfl,q⟩
 ·exact .inl q
 ·by_cases h:v.s.I x t
  ·exact .inl h
  ·exact .inr (.inr ⟨rfl,q,h⟩)
theorem Sv.flow_up(v:Sv)(a b):v.up (v.flow a b):=by
 have h:=Sv.give_up v b (v.s.I a);refine ⟨Sv.flow_le v a b,h.n,h.old,h.new,?_⟩;rintro x y (q | ⟨rfl,rfl⟩)
 ·exact .inl q
 ·exact .inr fun t r=>.inr ⟨rfl,r⟩
theorem Sv.ent_up(v:Sv)(n g):v.up (v.bN n g):=⟨Sv.ent_le v n g,fun _ _ h=>h,fun _ _ h=>.inl h,fun _ _ h=>.inl h,fun _ _ h=>.inl h⟩
theorem Bs.passed{P X c}{m:Nat→Prop}{v u:Sv}(h:Bs P (fun a t=>X a t∨(a=c∧m t)) u)(k:v.up u)(f:∀t,m t→v.s.I c t)(d:∀b t,v.s.F c b→m t→u.s.I b t)(e:∀r t,v.W c r→m t→EZ P r t u.s):Bs P X u:=by
 refine ⟨h.le,h.np,fun a b t q r=>?_,fun a r t q i=>?_⟩
 ·rcases h.fl a b t q r with z | z | z | ⟨rfl,z⟩
  ·exact .inl z
  ·exact .inr (.inl z)
  ·exact .inr (.inr z)
  ·exact .inl ((k.ed a b q).elim (fun q=>d b t q z) fun q=>q t (f t z))
 ·rcases h.fo a r t q i with z | z | z | ⟨rfl,z⟩
  ·exact .inl z
  ·exact .inr (.inl z)
  ·exact .inr (.inr z)
  ·exact .inl (e r t (by rw [←k.le.w];exact q) z)
def Sv.took(v:Sv):Sv:=⟨v.s,fun _ _=>False,v.W⟩
theorem Bs.took{P}{v:Sv}(h:Bs P (fun _ _=>False) v):Bs P v.N v.took:=
 ⟨h.le,fun _ _ q=>q.elim,fun a b t q r=>(h.fl a b t q r).imp id fun z=>.inr (z.elim id False.elim),fun a b t q r=>(h.fo a b t q r).imp id fun z=>.inr (z.elim id False.elim)⟩
theorem Ru:∃c:(Nat→Prop)→Nat,∀p n,p n→p (c p)∧c p≤n:=by
 have h:∀p:Nat→Prop,∃k,∀n,p n→p k∧k≤n:=fun p=>by
  by_cases b:∃n,p n
  ·obtain ⟨n,a⟩:=b;induction n using Nat.strongRecOn with
   | _ n g=>
     by_cases q:∃m,m<n∧p m
     ·obtain ⟨m,d,e⟩:=q;exact g m d e
     ·exact ⟨n,fun m f=>⟨a,Nat.le_of_not_lt fun r=>q ⟨m,r,f⟩⟩⟩
  ·exact ⟨0,fun n a=>absurd ⟨n,a⟩ b⟩
 exact ⟨fun p=>Classical.choose (h p),fun p=>Classical.choose_spec (h p)⟩
def Sv.raw(v:Sv):Prop:=∀c t,v.s.I c t→v.N c t
theorem Sv.raw.up{v u:Sv}(h:v.raw)(k:v.up u):u.raw:=fun c t q=>(k.new c t q).elim (fun q=>k.n c t (h c t q)) id
theorem mK{P r g}(d:Ly P r)(a:r.s.kind=8)(b:(least P).I r.at (fN g))(f:g<12)(c:(Ap P g).i8=r.s.args.length):(least P).E r.s.m9 g∧DY P r g (least P):=by
 have h:=((CU P).fol r (fN g) d (.inr (.inr (.inl a))) b).2.2.2 a ⟨by unfold fN;omega,by unfold fN;omega⟩;have e:fN g-144=g:=by unfold fN;omega
 rw [e] at h;exact h c
def Sv.left(B:Nat)(v:Sv)(n:Nat):Prop:=n=(List.range (B*B)).countP fun i=>@decide (¬(v.s.I (i / B) (i % B)∧¬v.N (i / B) (i % B))) (Classical.propDecidable _)
theorem IV{p q:Nat→Bool}:∀(l:List Nat),(∀x,x∈l→p x=true→q x=true)→(∃x,x∈l∧q x=true∧p x=false)→l.countP p<l.countP q
 | [],_,h=>by obtain ⟨x,b,_⟩:=h;exact absurd b List.not_mem_nil
 | a::l,d,h=>by
   have i:l.countP p≤l.countP q:=List.countP_mono_left fun x b=>d x (rT _ b)
   obtain ⟨x,b,e,f⟩:=h;rw [List.countP_cons,List.countP_cons];rcases List.mem_cons.1 b with rfl | b
   ·rw [e,f];simp;omega
   ·have:=IV l (fun x b=>d x (rT _ b)) ⟨x,b,e,f⟩;have g:=d a List.mem_cons_self;by_cases c:p a=true
    ·rw [c,g c];omega
    ·simp only [Bool.not_eq_true] at c;rw [c];split<;>simp_all<;>omega
theorem Sv.left_lt{B:Nat}{v u:Sv}{x:Sv}(a:x.s=v.s∧∀c t,¬x.N c t)(h:x.up u)(w:∃c t,c<B∧t<B∧v.N c t)(r:∀c t,v.N c t→v.s.I c t){n m:Nat}(j:v.left B n)(g:u.left B m):m<n:=by
 unfold Sv.left at j g;rw [j,g];obtain ⟨c,t,s,l,e⟩:=w;have o:∀c t,v.s.I c t→u.s.I c t∧¬u.N c t:=fun c t q=>⟨h.le.s.i c t (by rw [a.1];exact q),fun k=>(h.old c t k).elim (a.2 c t) fun k=>k (by rw [a.1];exact q)⟩
 have p:0<B:=by omega
 have b:(c*B+t) / B=c:=by rw [Nat.mul_comm,Nat.mul_add_div p,Nat.div_eq_of_lt l];rfl
 have d:(c*B+t) % B=t:=by rw [Nat.mul_comm,Nat.mul_add_mod,Nat.mod_eq_of_lt l]
 refine IV _ (fun i _ f=>?_) ⟨c*B+t,?_,?_,?_⟩
 ·simp only [decide_eq_true_eq] at f⊢;exact fun q=>f (o _ _ q.1)
 ·rw [List.mem_range];calc c*B+t<c*B+B:=by omega
   _=(c+1)*B:=by rw [Nat.add_mul];omega
   _≤B*B:=Nat.mul_le_mul_right B s
 ·simp only [decide_eq_true_eq];rw [b,d];exact fun q=>q.2 e
 ·simp only [decide_eq_false_iff_not,Classical.not_not];rw [b,d];exact o c t (r c t e)
theorem Ab.thn{X Y:Nat→Prop}{a b c:World}(h:Ab X a b)(k:Ab Y b c)(g:∀j,j<a.heap.size→Y j→X j):Ab X a c:=
 ⟨k.os.trans h.os,k.tape.trans h.tape,k.output.trans h.output,rO h.size k.size,fun j d e=>(k.block j (rP d h.size) (fun q=>e (g j d q))).trans (h.block j d e)⟩
structure Pg{α:Type}(R:Value→Option (DataW Unit×List MemPlace))(mk:α→Value)(dc:α→DataW Unit)(ok:α→Prop):Prop where
 rd:∀a,ok a→R (mk a)=some (dc a,[])
 inv:∀v z,R v=some z→∃a,v=mk a∧z=(dc a,[])∧ok a
 inj:∀a b,dc a=dc b→a=b
def kI(k:Nat):Lit:=.int .i64 k
theorem KD{a b:Nat}(h:kI a=kI b):a=b:=by unfold kI at h;cases h;rfl
theorem Cp:Keyed Tryz.prog 3:=int_keyed Tryz.underlying3
theorem Ro{k:Nat}(h:k<20000):keyOf Tryz.prog 3 (.int .i64 k)=some (kI k):=keyOf_int_mk Tryz.underlying3 (WalkArith.wf_i64 (by omega))
theorem PR{k:Nat}(h:k<20000):WideAt.IsKeyLit (kI k):=Cp.key (Ro h)
theorem Ir(n:Nat):∀(l:List Nat),l.Pairwise (·≠ ·)→l.length≤(l.filter fun x=>decide (x≠n)).length+1
 | [],_=>by simp
 | a::l,h=>by
   obtain ⟨c,d⟩:=List.pairwise_cons.1 h;by_cases b:a=n
   ·subst b;have e:l.filter (fun x=>decide (x≠a))=l:=List.filter_eq_self.2 fun x g=>by simp;exact fun q=>c x g q.symm
    rw [List.filter_cons_of_neg (by simp),e];simp
   ·have:=Ir n l d;rw [List.filter_cons_of_pos (by simpa using b)];simp only [rW];omega
theorem C8:∀(n:Nat) (l:List Nat),l.Pairwise (·≠ ·)→(∀x,x∈l→x<n)→l.length≤n
 | 0,[],_,_=>rN _
 | 0,a::_,_,h=>absurd (h a List.mem_cons_self) (by omega)
 | n+1,l,b,h=>by
   have d:=Ir n l b;have e:=C8 n (l.filter fun x=>decide (x≠n)) (b.filter _) fun x c=>by have:=List.mem_filter.1 c;have:=h x this.1;have:=(List.mem_filter.1 c).2;simp at this;omega
   omega
theorem Xh{n:Nat}{l:List Lit}(d:l.Pairwise (·≠ ·))(h:∀x,x∈l→∃k,k<n∧x=kI k):l.length≤n:=by
 have e:∃m:List Nat,l=m.map kI∧∀x,x∈m→x<n:=by
  clear d;induction l with
  | nil=>exact ⟨[],rfl,by simp⟩
  | cons a l j=>
    obtain ⟨m,rfl,b⟩:=j fun x c=>h x (rT _ c)
    obtain ⟨k,g,rfl⟩:=h a List.mem_cons_self;exact ⟨k::m,rfl,fun x c=>(List.mem_cons.1 c).elim (fun q=>q▸g) (b x)⟩
 obtain ⟨m,rfl,b⟩:=e;rw [rX];exact C8 n m ((List.pairwise_map.1 d).imp fun q r=>q (congrArg kI r)) b
theorem Mb{R:Value→Option (DataW Unit×List MemPlace)}{b n D}{w:World}(h:w.ownsMap Tryz.prog 3 R b n D)(q:∀x,has D x=true→∃k,k<20000∧x=kI k):w.ownsMap Tryz.prog 3 R b 20000 D∧Maps.size D≤20000:=by
 obtain ⟨d,g,a,r⟩:=h.entries Cp;have s:d.length≤20000:=by
  have:=Xh (n:=20000) (l:=d.map fun p=>p.1) (List.pairwise_map.2 a) fun x t=>by obtain ⟨p,a,rfl⟩:=List.mem_map.1 t;exact q p.1 (by rw [g,Maps.has_eq];exact List.any_eq_true.2 ⟨p,a,WideAt.sameKey_self (r p a)⟩)
  simpa using this
 have c:Maps.size D≤20000:=by rw [g];exact s
 refine ⟨?_,c⟩;obtain ⟨j,m,o,F,_,e⟩:=h;refine ⟨j,m,o,F,?_,e⟩;rw [e] at c;simpa [Maps.size,length_sorted] using c
def Bv{α:Type}(R:Value→Option (DataW Unit×List MemPlace))(dc:α→DataW Unit)(b:Nat)(g:Nat→Option α)(w:World):Prop:=
 ∃D,w.ownsMap Tryz.prog 3 R b 20000 D∧(∀x,has D x=true→∃k,k<20000∧x=kI k)∧(∀k a,g k=some a→k<20000)∧(∀k,k<20000→g k=none→has D (kI k)=false)∧∀k a,g k=some a→has D (kI k)=true∧∀z,D.atKey (kI k) z=dc a
section
variable {α : Type} {R : Value → Option (DataW Unit × List MemPlace)} {mk : α → Value} {dc : α → DataW Unit} {ok : α → Prop} {b : Nat} {g : Nat → Option α} {w w' : World}
theorem Bv.lt(h:Bv R dc b g w):b<w.heap.size:=by obtain ⟨D,h,_⟩:=h;exact h.lt
theorem Bv.O{X:Nat→Prop}(h:Bv R dc b g w)(j:Ab X w w')(k:¬X b):Bv R dc b g w':=by obtain ⟨D,⟨d,c,a,r⟩,e⟩:=h;exact ⟨D,⟨d,c,by rw [j.block b (lt_of_block a) k];exact a,r⟩,e⟩
theorem Bv.isMap(h:Bv R dc b g w):∃a c,w.heap[b]? =some (.map a c):=by obtain ⟨D,⟨a,d,e,r⟩,j⟩:=h;exact ⟨a,d,e⟩
theorem Bv.ne{c d t e}(h:Bv R dc b g w)(a:w.heap[c]? =some (.cells d t e)):b≠c:=by obtain ⟨l,k,j⟩:=h.isMap;rintro rfl;rw [j] at a;cases a
theorem Bv.made(w:World):Bv R dc w.heap.size (fun _=>none) (w.alloc (.map #[] 0)):=
 ⟨.map [],(World.ownsMap_made w _ _ _).mono (rR _),fun x h=>by simp [Maps.has_eq] at h,fun _ _ h=>by simp at h,fun _ _ _=>rfl,fun _ _ h=>by simp at h⟩
theorem Bv.ext{a}(h:Bv R dc b g w)(e:∀k,g k=a k):Bv R dc b a w:=by rw [←show g=a from funext e];exact h
theorem Bv.look{t e:TypeId}(h:Bv R dc b g w)(E:Pg R mk dc ok)(A:Tryz.prog.underlying t=some (.map 3 e)){z:Value}(B:(zeroValue e).run Tryz.prog w=.ok z w){k:Nat}(p:k<20000)(c:Bool):
 (g k=none→(Instr.lookup t (.map (some b)) (.int .i64 k) c).run Tryz.prog w=.ok (if c then .tuple #[z,.bool false] else z) w)∧∀a,g k=some a→(Instr.lookup t (.map (some b)) (.int .i64 k) c).run Tryz.prog w=.ok (if c then .tuple #[mk a,.bool true] else mk a) w:=by
 obtain ⟨D,s,I,J,u,o⟩:=h;obtain ⟨H,C,x,F,_,rfl⟩:=s;rcases Maps.fit_look c Cp A B x F (Ro p) with ⟨m,K,l⟩ | ⟨G,y,_,_,m,v,l,_⟩
 ·have j:=Maps.has_false_of_atKey l;exact ⟨fun _=>m,fun a d=>(by rw [(o k a d).1] at j;cases j)⟩
 ·obtain ⟨n,q,rfl,L⟩:=E.inv _ _ v;have j:=Maps.has_true_of_atKey l;refine ⟨fun d=>(by rw [u k p d] at j;cases j),fun a d=>?_⟩;have r:n=a:=E.inj n a ((l (dc a)).symm.trans ((o k a d).2 (dc a)));rw [m,q,r]
theorem Bv.put{t e:TypeId}(h:Bv R dc b g w)(E:Pg R mk dc ok)(F:Tryz.prog.underlying t=some (.map 3 e)){k:Nat}(d:k<20000){a:α}(B:ok a):
 ∃w',(Instr.mapUpdate t (.map (some b)) (.int .i64 k) (mk a)).run Tryz.prog w=.ok () w'∧Bv R dc b (fun x=>if x=k then some a else g x) w'∧Ab (fun k=>k=b) w w':=by
 obtain ⟨D,l,p,s,u,m⟩:=h;obtain ⟨w',C,v,A⟩:=World.ownsMap.store l Cp F (by unfold maxLen;omega) (Ro d) (E.rd a B);have n:∀x,has (D.put (kI k) (dc a)) x=true→∃k,k<20000∧x=kI k:=fun x c=>by
  by_cases o:x=kI k
  ·exact ⟨k,d,o⟩
  ·rw [Maps.has_put_other o] at c;exact p x c
 refine ⟨w',C,⟨_,(Mb v n).1,n,fun x y c=>?_,fun x c j=>?_,fun x y c=>?_⟩,(Ab.refl _ w).grown A.grown (fun k d=>.inl (by cases d;rfl))⟩
 ·dsimp only at c;split at c
  ·next q=>rw [q];exact d
  ·exact s x y c
 ·dsimp only at j;split at j
  ·cases j
  ·next q=>rw [Maps.has_put_other (fun r=>q (KD r))];exact u x c j
 ·dsimp only at c;split at c
  ·next q=> cases c;rw [q];exact ⟨Maps.has_put_same l.isMap (PR d) _,fun z=>Maps.atKey_put_same l.isMap (PR d) _ z⟩
  ·next q=> rw [Maps.has_put_other (fun r=>q (KD r))];exact ⟨(m x y c).1,fun z=>by rw [Maps.atKey_put_other (fun r=>q (KD r))];exact (m x y c).2 z⟩
theorem Bv.len{t e:TypeId}(h:Bv R dc b g w)(y:Tryz.prog.underlying t=some (.map 3 e))(m:TypeId):
 ∃n:Nat,n≤20000∧(Builtin.len_ #[t] m #[.map (some b)]).run Tryz.prog w=.ok (.int .i64 n) w∧(n=0↔∀k,g k=none):=by
 obtain ⟨D,d,l,z,q,r⟩:=h;refine ⟨Maps.size D,(Mb d l).2,d.len y m,?_⟩;obtain ⟨c,rfl,A,v⟩:=d.entries Cp;rw [Maps.size_eq];constructor
 ·intro o k;cases s:g k with
  | none=>rfl
  | some a=> have:=(r k a s).1;rw [List.length_eq_zero_iff.1 o,Maps.has_eq] at this;simp at this
 ·intro x;cases c with
  | nil=>rfl
  | cons p c=>
    have j:has (.map (p::c):DataW Unit) p.1=true:=by rw [Maps.has_eq];exact List.any_eq_true.2 ⟨p,List.mem_cons_self,WideAt.sameKey_self (v p List.mem_cons_self)⟩
    obtain ⟨k,u,e⟩:=l _ j;rw [e,q k u (x k)] at j;cases j
def EI(R:Value→Option (DataW Unit×List MemPlace))(dc:α→DataW Unit)(b r:Nat)(g:Nat→Option α)(d:Nat→Prop)(w:World):Prop:=
 ∃D left c,w.ranges Tryz.prog 3 R b r 20000 D left c∧(∀x,has D x=true→∃k,k<20000∧x=kI k)∧(∀k a,g k=some a→k<20000)∧(∀k,k<20000→g k=none→has D (kI k)=false)∧(∀k a,g k=some a→has D (kI k)=true∧∀z,D.atKey (kI k) z=dc a)∧∀k,d k↔left (kI k)=true
theorem EI.map{r}{k:Nat→Prop}(h:EI R dc b r g k w):Bv R dc b g w:=by obtain ⟨D,left,l,a,c,d,e,j,m⟩:=h;exact ⟨D,a.owns,c,d,e,j⟩
theorem EI.ltr{r}{c:Nat→Prop}(h:EI R dc b r g c w):r<w.heap.size:=by obtain ⟨D,left,d,a,_⟩:=h;exact a.lt
theorem EI.iter{r}{j:Nat→Prop}(h:EI R dc b r g j w):∃a s c d,w.heap[r]? =some (.mapIter a s c d):=by obtain ⟨D,left,m,⟨n,l,v,u,k,p,F,t,o,e,q⟩,_⟩:=h;exact ⟨_,_,_,_,e⟩
theorem EI.O{r}{j X:Nat→Prop}(h:EI R dc b r g j w)(e:Ab X w w')(p:¬X b)(t:¬X r):EI R dc b r g j w'∧w'.rangeLeft b r=w.rangeLeft b r:=by
 have x:=h.map.lt;have y:=h.ltr;obtain ⟨D,left,a,c,n⟩:=h;have d:w'.ranges Tryz.prog 3 R b r 20000 D left a:=by obtain ⟨m,l,A,z,k,s,F,v,o,u,q⟩:=c;exact ⟨m,l,A,z,k,(e.block b x p).trans s,F,v,o,(e.block r y t).trans u,q⟩
 exact ⟨⟨D,left,a,d,n⟩,by rw [c.left_eq,d.left_eq]⟩
variable {f : Array Oper} {i : List Oper} {o : Oper} {a : Act} {Q : Exit → Act → World → Prop}
theorem DJ(w:World)(d:o.guard=none)(m:Operand)(t:TypeId)(x:o.op=Op.range t m)(e:TypeId)(B:Tryz.prog.underlying t=some (.map 3 e)){R:Value→Option (DataW Unit×List MemPlace)}{dc:α→DataW Unit}(b:Nat){g:Nat→Option α}
 (v:a.eval m=.map (some b))(y:Bv R dc b g w)
 (q:∀w',EI R dc b w.heap.size g (fun k=>∃a,g k=some a) w'→Ab (fun _=>False) w w'→w'.heap.size=w.heap.size+1→wpList Tryz.prog f Q i (a.put o.dst (.pointer (some ⟨w.heap.size,0,none⟩))) w'):
 wpList Tryz.prog f Q (o::i) a w:=by
 obtain ⟨D,n,h,p,j,l⟩:=y;refine wpList_range_own w d m t x 3 e Cp B R b 20000 D v n fun w' z s A=>q w' ⟨D,_,_,z,h,p,j,l,fun k=>⟨?_,fun c=>?_⟩⟩ ((Ab.refl _ w).grown s (fun k c=>by cases c)) A
 ·rintro ⟨a,r⟩;exact (l k a r).1
 ·obtain ⟨C,u,e⟩:=h _ c;have e:=KD e;subst e;cases d:g k with
  | none=>rw [j k u d] at c;cases c
  | some a=>exact ⟨a,rfl⟩
theorem D9(w:World)(P:o.guard=none)(m:Operand)(Z:o.op=Op.next m false)(E:Pg R mk dc ok)(b r:Nat){g:Nat→Option α}{d:Nat→Prop}(U:a.eval m=.pointer (some ⟨r,0,none⟩))(h:EI R dc b r g d w)
 (M:(∀k,¬d k)→wpList Tryz.prog f Q i (a.put o.dst (.tuple #[.bool false])) w)
 (N:∀(k:Nat) (x:α) (w':World),k<20000→d k→g k=some x→ok x→EI R dc b r g (fun z=>d z∧z≠k) w'→w'.rangeLeft b r<w.rangeLeft b r→Ab (fun z=>z=r) w w'→w'.heap.size=w.heap.size→(Instr.entry (.pointer (some ⟨r,0,none⟩))).run Tryz.prog w'=.ok (.tuple #[.int .i64 k,mk x]) w'→wpList Tryz.prog f Q i (a.put o.dst (.tuple #[.bool true,.int .i64 k,mk x])) w'):
 wpList Tryz.prog f Q (o::i) a w:=by
 have a2:=h.map;obtain ⟨D,left,H,p,s,L,t,u,e⟩:=h;refine wpList_next_ranges w P m Z 3 Cp R (fun v:Value=>v) (fun v:Value=>v) (fun F _ _=>⟨F,rfl⟩) (fun v _ _=>⟨v,rfl⟩) b r 20000 D left H U p (fun _ W=>M fun k c=>?_) ?_
 ·have:=W (kI k);rw [(e k).1 c] at this;cases this
 ·rintro F v kl y w' I V X hv A C Y T a0 O;have j:=Maps.has_true_of_atKey A;obtain ⟨k,c,rfl⟩:=s kl j;obtain ⟨x',K,n,a3⟩:=Maps.keyOf_int_inv Tryz.underlying3 V;have J:x'=(k:Int):=by unfold kI at n;cases n;rfl
  subst K;subst J;obtain ⟨x,rfl,rfl,a1⟩:=E.inv v _ hv;have S:g k=some x:=by
   cases B:g k with
   | none=>rw [t k c B] at j;cases j
   | some G=>rw [E.inj x G ((A (dc x)).symm.trans ((u k G B).2 (dc x)))]
  refine N k x w' c ((e k).2 X) S a1 ⟨D,_,I,C,s,L,t,u,fun z=>?_⟩ (by rw [C.left_eq,p.left_eq];exact Y) ((Ab.refl _ w).grown T (fun k c=>.inl (by cases c;rfl))) a0 O;show (d z∧z≠k)↔_;rw [e z];by_cases l:z=k
  ·subst l;simp [WideAt.sameKey_self (PR c)]
  ·simp [l,sameKey_ne (fun q=>l (KD q))]
end
theorem WI(x i:Nat):x &&& 2 ^ i=0↔x.testBit i=false:=by
 constructor
 ·intro h;have:=congrArg (fun y=>y.testBit i) h;simpa [Nat.testBit_and,Nat.testBit_two_pow] using this
 ·intro h;apply Nat.eq_of_testBit_eq;intro j;rw [Nat.testBit_and,Nat.testBit_two_pow,Nat.zero_testBit];by_cases a:i=j
  ·subst a;simp [h]
  ·simp [a]
theorem QV{x:Nat}(h:x<18446744073709551616)(y j:Nat)(b:y<18446744073709551616):(y &&& (18446744073709551615-x)).testBit j=(y.testBit j && !x.testBit j):=by
 have e:18446744073709551615-x=2 ^ 64-(x+1):=by omega
 rw [Nat.testBit_and,e,Nat.testBit_two_pow_sub_succ (by omega:x<2 ^ 64)];by_cases a:j<64
 ·simp [a]
 ·have:y.testBit j=false:=Nat.testBit_lt_two_pow (rP (by omega:y<2 ^ 64) (Nat.pow_le_pow_right (by decide) (by omega)));simp [this]
theorem Kk{x:Nat}(h:x≠0):∃i,x.testBit i=true:=by
 apply Classical.byContradiction;intro q;exact h (Nat.eq_of_testBit_eq fun i=>by
  rw [Nat.zero_testBit];cases a:x.testBit i
  ·rfl
  ·exact absurd ⟨i,a⟩ q)
theorem UE{x i:Nat}(h:x<18446744073709551616)(a:x.testBit i=true):i<64:=by apply Classical.byContradiction;intro q;rw [Nat.testBit_lt_two_pow (rP (by omega:x<2 ^ 64) (Nat.pow_le_pow_right (by decide) (by omega)))] at a;cases a
theorem Kt{x:Nat}(f:x≠0)(h:x<18446744073709551616):Lib.ctz 64 x<64∧x.testBit (Lib.ctz 64 x)=true∧∀i,(x &&& (x-1)).testBit i=(x.testBit i && decide (i≠Lib.ctz 64 x)):=by
 obtain ⟨m,a,n⟩:=Lib.ctzFrom_spec 64 x (by omega) (by omega);have e:Lib.ctz 64 x=Lib.ctzFrom 64 x:=by simp [Lib.ctz,f]
 rw [e];generalize Lib.ctzFrom 64 x=k at*;have p:0<2 ^ k:=Nat.two_pow_pos k;have c:x-1=2 ^ k*(2*m)+(2 ^ k-1):=by rw [a,Nat.mul_add,Nat.mul_one];omega
 have b:∀i,x.testBit i=(decide (k≤i) && (2*m+1).testBit (i-k)):=fun i=>by rw [a,Nat.mul_comm,Nat.testBit_mul_two_pow]
 have o:∀i,(x-1).testBit i=if i<k then (2 ^ k-1).testBit i else (2*m).testBit (i-k):=fun i=>by rw [c,Nat.testBit_two_pow_mul_add _ (by omega)]
 refine ⟨n,by rw [b];simp,fun i=>?_⟩;rw [Nat.testBit_and,b,o];by_cases g:i<k
 ·have:¬k≤i:=by omega
  simp [this]
 ·rw [if_neg g];by_cases l:i=k
  ·subst l;simp
  ·obtain ⟨j,rfl⟩:∃j,i=k+(j+1):=⟨i-k-1,by omega⟩;have d:k+(j+1)-k=j+1:=by omega
   rw [d,Nat.testBit_succ,Nat.testBit_succ,show (2*m+1) / 2=m by omega,show 2*m / 2=m by omega];simp
theorem Ni{x:Nat}(a:x≠0):x &&& (x-1)<x:=by have:x &&& (x-1)≤x-1:=Nat.and_le_right;omega
structure Wd(g:Nat→Option Nat)(m:Nat→Prop):Prop where
 ok:∀k x,g k=some x→x≠0∧x<18446744073709551616∧k<300
 aY:∀n,m n↔∃x,g (n / 64)=some x∧x.testBit (n % 64)=true
theorem Wd.lt{g m}(h:Wd g m){n}(a:m n):n<19200:=by obtain ⟨x,b,_⟩:=(h.aY n).1 a;have:=(h.ok _ _ b).2.2;omega
theorem Wd.nil:Wd (fun _=>none) (fun _=>False):=⟨fun _ _ h=>by simp at h,fun n=>by simp⟩
theorem Wd.empty{g m}(h:Wd g m):(∀k,g k=none)↔∀n,¬m n:=by
 constructor
 ·intro q n d;obtain ⟨x,c,_⟩:=(h.aY n).1 d;rw [q] at c;cases c
 ·intro q k;cases a:g k with
  | none=>rfl
  | some x=> obtain ⟨i,b⟩:=Kk (h.ok k x a).1;have e:=UE (h.ok k x a).2.1 b;exact absurd ((h.aY (k*64+i)).2 ⟨x,by rw [show (k*64+i) / 64=k by omega];exact a,by rw [show (k*64+i) % 64=i by omega];exact b⟩) (q _)
def wd(g:Nat→Option Nat)(k:Nat):Nat:=(g k).getD 0
theorem Wd.word{g m}(h:Wd g m)(n:Nat):m n↔(wd g (n / 64)).testBit (n % 64)=true:=by
 rw [h.aY];unfold wd;cases g (n / 64) with
 | none=>simp
 | some x=>simp
theorem Wd.small{g m}(h:Wd g m)(k:Nat):wd g k<18446744073709551616:=by
 unfold wd;cases a:g k with
 | none=>simp
 | some x=>exact (h.ok k x a).2.1
theorem Wd.put{g m}(h:Wd g m){k y:Nat}(l:k<300)(e:y≠0)(j:y<18446744073709551616):Wd (fun x=>if x=k then some (wd g k ||| y) else g x) (fun n=>m n∨(n / 64=k∧y.testBit (n % 64)=true)):=by
 refine ⟨fun x z c=>?_,fun n=>?_⟩
 ·split at c
  ·next q=>
   cases c;refine ⟨fun f=>?_,?_,by omega⟩
   ·obtain ⟨i,d⟩:=Kk e;have:=congrArg (fun a=>a.testBit i) f;simp [Nat.testBit_or,d] at this
   ·have:=Nat.or_lt_two_pow (n:=64) (x:=wd g k) (y:=y) (by have:=h.small k;omega) (by omega);omega
  ·exact h.ok x z c
 ·by_cases b:n / 64=k
  ·simp only [b,if_true,true_and];rw [h.word,b];simp [Nat.testBit_or]
  ·simp only [b,if_false,false_and,or_false];exact h.aY n
def Lg:Value→Option (DataW Unit×List MemPlace)
 | .int .u64 a=>if 0≤a∧a<18446744073709551616 then some (.lit (.int .u64 a),[]) else none
 | _=>none
def JW(n:Nat):DataW Unit:=.lit (.int .u64 n)
def OS(n:Nat):Value:=.int .u64 n
theorem Lh:Pg Lg OS JW (fun n=>n<18446744073709551616):=by
 refine ⟨fun a d=>?_,fun v z c=>?_,fun a b h=>?_⟩
 ·unfold Lg OS JW;simp only;rw [if_pos ⟨by omega,by omega⟩]
 ·unfold Lg at c;split at c
  ·next a=>
   split at c
   ·next h0=>
    cases c;refine ⟨a.toNat,?_,?_,by omega⟩
    ·unfold OS;rw [Int.toNat_of_nonneg h0.1]
    ·unfold JW;rw [Int.toNat_of_nonneg h0.1]
   ·cases c
  ·cases c
 ·unfold JW at h;cases h;rfl
def A9(b:Nat)(m:Nat→Prop)(w:World):Prop:=∃g,Bv Lg JW b g w∧Wd g m
theorem A9.O{b:Nat}{m X:Nat→Prop}{w w'}(h:A9 b m w)(d:Ab X w w')(e:¬X b):A9 b m w':=by obtain ⟨g,a,c⟩:=h;exact ⟨g,a.O d e,c⟩
theorem A9.lt{b:Nat}{m:Nat→Prop}{w}(h:A9 b m w):b<w.heap.size:=by obtain ⟨g,a,c⟩:=h;exact a.lt
theorem A9.made(w:World):A9 w.heap.size (fun _=>False) (w.alloc (.map #[] 0)):=⟨_,Bv.made w,Wd.nil⟩
theorem A9.iff{b:Nat}{m m':Nat→Prop}{w}(h:A9 b m w)(e:∀n,m n↔m' n):A9 b m' w:=by rw [←show m=m' from funext fun n=>propext (e n)];exact h
theorem Wd.iff{g}{m m':Nat→Prop}(h:Wd g m)(e:∀n,m n↔m' n):Wd g m':=by rw [←show m=m' from funext fun n=>propext (e n)];exact h
theorem XH(w:World):(zeroValue 244).run Tryz.prog w=.ok (.int .u64 0) w:=by go_simp
theorem Bv.word{b g w}(h:Bv Lg JW b g w){k:Nat}(f:k<20000):(Instr.lookup 93 (.map (some b)) (.int .i64 k) false).run Tryz.prog w=.ok (.int .u64 (wd g k)) w:=by
 obtain ⟨d,e⟩:=h.look Lh Tryz.underlying93 (XH w) f false;unfold wd;cases c:g k with
 | none=>exact d c
 | some a=>exact e a c
theorem Fg(b:Nat)(m:Nat→Prop)(x:Nat)(w:World)(h:A9 b m w)(S:x<19200):
 Calls Tryz.prog 101 #[.map (some b),.int .i64 x] w fun e F=>∃r:Bool,e=.returned (.bool r)∧(r=true↔¬m x)∧A9 b (fun n=>m n∨n=x) F∧Ab (fun k=>k=b) w F:=by
 obtain ⟨g,l,f⟩:=h;have M:(Instr.lookup 93 (.map (some b)) (.int .i64 ((x:Int) / 64)) false).run Tryz.prog w.drew=.ok (.int .u64 (wd g (x / 64))) w.drew:=by have:=(l.O (Ab.drew (Ab.refl (fun _=>False) w)) (fun q=>q)).word (k:=x / 64) (by omega);rw [show (((x / 64:Nat):Nat):Int)=(x:Int) / 64 by omega] at this;exact this
 obtain ⟨a,c⟩:∃a,a=2 ^ (x % 64):=⟨_,rfl⟩;have j:a<18446744073709551616:=by have:2 ^ (x % 64)<2 ^ 64:=Nat.pow_lt_pow_right (by decide) (by omega);rw [c];omega
 have R:IntKind.u64.wrap (2 ^ (x % 64))=(a:Int):=by
  rw [IntKind.wrap_u64,c];have:((2:Int) ^ (x % 64))=((2 ^ (x % 64):Nat):Int):=by simp
  rw [this];omega
 have o:=f.word x;have p:=f.put (k:=x / 64) (y:=a) (by omega) (by rw [c];exact Nat.ne_of_gt (Nat.two_pow_pos _)) j;have s:=f.small (x / 64);obtain ⟨W,B⟩:∃W,wd g (x / 64)=W:=⟨_,rfl⟩;rw [B] at M o p s;have P:=bits_and_u64_nat W a s j;have Q:=bits_or_u64_nat W a s j;have t:=WI W (x % 64);rw [←c] at t;have u:=Aa l;have v:=Aa o;have J:=Aa p;have G:=Aa c;have z:=Aa t;have K:=Aa f;clear l o p B c t f;by_cases d:m x
 ·have A:((W &&& a:Nat):Int)≠0:=by
   have:=z.o;have i:=v.o.1 d;intro q;have q:W &&& a=0:=by omega
   rw [this.1 q] at i;cases i
  have O:(((W &&& a:Nat):Int) !=0)=true:=by simpa using A
  go_enter Tryz.func101,Tryz.ntmps101
  go_wp2_with fail
  go_region
  go_wp2_with fail
  go_ret
  exact ⟨false,rfl,by simp [d],⟨g,u.o.O (X:=fun _=>False) (by repeat (first | exact Ab.refl _ _ | refine Ab.drew ?_ | refine Ab.drewN ?_ _ | refine Ab.alloc ?_ _)) (fun q=>q),K.o.iff fun n=>⟨.inl,fun q=>q.elim id fun e=>e▸d⟩⟩,(by repeat (first | exact Ab.refl _ _ | refine Ab.drew ?_ | refine Ab.drewN ?_ _ | refine Ab.alloc ?_ _))⟩
 ·have A:(((W &&& a:Nat):Int) !=0)=false:=by
   have i:W.testBit (x % 64)=false:=by
    cases L:W.testBit (x % 64)
    ·rfl
    ·exact absurd (v.o.2 L) d
   rw [z.o.2 i];rfl
  have N:(W ||| a)<18446744073709551616:=by have:=Nat.or_lt_two_pow (n:=64) (x:=W) (y:=a) (by omega) (by omega);omega
  obtain ⟨V,E,C,D⟩:=(u.o.O (Ab.drew (Ab.refl (fun _=>False) w)) (fun q=>q)).put Lh Tryz.underlying93 (k:=x / 64) (by omega) N
  rw [show (((x / 64:Nat):Nat):Int)=(x:Int) / 64 by omega] at E
  unfold OS at E
  have I:=Aa D
  have H:=Aa C
  clear D C
  go_enter Tryz.func101,Tryz.ntmps101
  go_wp2_with fail
  go_region
  go_wp2_with fail
  go_ret
  refine ⟨true,rfl,by simp [d],⟨_,H.o,J.o.iff fun n=>?_⟩,(Ab.drew (Ab.refl _ w)).trans I.o⟩
  rw [G.o,Nat.testBit_two_pow]
  simp only [decide_eq_true_eq]
  constructor
  ·rintro (q | ⟨T,U⟩)
   ·exact .inl q
   ·exact .inr (by omega)
  ·rintro (q | rfl)
   ·exact .inl q
   ·exact .inr ⟨rfl,rfl⟩
theorem Fh(x:Nat)(w:World)(j:x<19200):
 Calls Tryz.prog 98 #[.int .i64 x] w fun e f=>∃b,e=.returned (.map (some b))∧w.heap.size≤b∧A9 b (fun n=>n=x) f∧Ab (fun _=>False) w f:=by
 have l:=@run_makeMap Tryz.prog;have d:=Aa (A9.made w);go_enter Tryz.func98,Tryz.ntmps98;go_wp2_with fail;refine (Fg _ _ x _ d.o j).mono ?_;rintro e m ⟨r,rfl,_,a,c⟩;have g:=Aa a;have i:=Aa c;clear a c d;go_wp2_with fail;go_ret;exact ⟨_,rfl,rN _,g.o.iff fun n=>by simp,((Ab.refl _ w).alloc _).thn i.o (fun k h q=>by omega)⟩
structure QR(b o f r:Nat)(go:Nat→Option Nat)(m u:Nat→Prop)(rest:Nat→Prop)(w0 w:World):Prop where
 rng:EI Lg JW o r go rest w
 fr:A9 f (fun n=>u n∧¬rest (n / 64)∧¬m n) w
 bs:A9 b (fun n=>m n∨(u n∧¬rest (n / 64))) w
 ob:Ab (fun k=>k=b) w0 w
theorem Gd(b o:Nat)(m u:Nat→Prop)(w:World)(h:A9 b m w)(k:A9 o u w)(b4:b≠o):
 Calls Tryz.prog 133 #[.map (some b),.map (some o)] w fun e w'=>∃f,e=.returned (.map (some f))∧w.heap.size≤f∧A9 f (fun n=>u n∧¬m n) w'∧A9 b (fun n=>m n∨u n) w'∧Ab (fun k=>k=b) w w':=by
 have c0:=@run_makeMap Tryz.prog;obtain ⟨go,X,a9⟩:=k;have lo:=X.lt;have lb:=h.lt;have J:Ab (fun _=>False) w (w.alloc (.map #[] 0)):=(Ab.refl _ w).alloc _;have v:=Aa (A9.made w);have t:=Aa (h.O J (fun q=>q));have B:=Aa (X.O J (fun q=>q));have C:=Aa a9;have O1:=Aa J;clear h X a9 J;go_enter Tryz.func133,Tryz.ntmps133;go_wp2_with (at_range;refine DJ _ rfl _ 93 rfl 244 Tryz.underlying93 o rfl B.o ?_;intro w2 A g U);have a8:(w.alloc (.map #[] 0)).heap.size=w.heap.size+1:=by simp
 rw [a8] at A U⊢;try go_frame
 have T0:dN (QR b o w.heap.size (w.heap.size+1) go m u (fun k=>∃a,go k=some a) w w2):=by
  refine ⟨A,(v.o.O g (fun q=>q)).iff fun n=>⟨False.elim,?_⟩,(t.o.O g (fun q=>q)).iff fun n=>⟨.inl,?_⟩,(O1.o.trans g).mono (fun _ _ q=>q.elim)⟩
  ·rintro ⟨q,r,_⟩;obtain ⟨x,V,_⟩:=(C.o.aY n).1 q;exact r ⟨x,V⟩
  ·rintro (q | ⟨q,r⟩)
   ·exact q
   ·obtain ⟨x,V,_⟩:=(C.o.aY n).1 q;exact absurd ⟨x,V⟩ r
 clear A g U v t B O1 a8;have c2:w.heap.size<w.heap.size+1:=Nat.lt_succ_self _;generalize w.heap.size+1=r at*;go_loopw [] (fun wr=>∃s:Nat→Prop,dN (QR b o w.heap.size r go m u s w wr)) (fun wr=>wr.rangeLeft o r)
 case atStart=>exact ⟨_,T0⟩
 case round=>
  clear T0;obtain ⟨s,l⟩:=hrel;go_wp2_with (at_next;refine D9 _ rfl _ rfl Lh o r rfl l.o.rng ?_ ?_);rotate_left
  ·intro k x M S F a6 W A T g U b2;unfold OS at b2;obtain ⟨d,mb,N⟩:=l.o.bs;obtain ⟨gf,mf,O⟩:=l.o.fr;have a4:b≠r:=by omega
   have a5:w.heap.size≠r:=by omega
   have Y:=mb.O g (fun q=>a4 q);have b0:=mf.O g (fun q=>a5 q);have R:=N.small k;have G:∀n,n / 64=k→(u n↔x.testBit (n % 64)=true):=fun n c=>by rw [C.o.word,c];unfold wd;rw [a6];rfl
   have E:∀n,n / 64=k→(m n↔(wd d k).testBit (n % 64)=true):=fun n c=>by have:=N.word n;rw [c] at this;rw [←this];exact ⟨.inl,fun q=>q.elim id fun q=>absurd F q.2⟩
   have b3:wd gf k=0:=by apply Classical.byContradiction;intro q;obtain ⟨i,hi⟩:=Kk q;have hl:=UE (O.small k) hi;have:=(O.word (k*64+i)).2 (by rw [show (k*64+i) / 64=k by omega,show (k*64+i) % 64=i by omega];exact hi);rw [show (k*64+i) / 64=k by omega] at this;exact this.2.1 F
   have a7:=(C.o.ok k x a6).2.2;have hl:(Instr.lookup 93 (.map (some b)) (.int .i64 k) false).run Tryz.prog M=.ok (.int .u64 (wd d k)) M:=Y.word S;have b5:=u64_andNot_nat x (wd d k) W R;obtain ⟨y,H⟩:∃y,x &&& (18446744073709551615-wd d k)=y:=⟨_,rfl⟩;have D:∀i,y.testBit i=(x.testBit i && !(wd d k).testBit i):=fun i=>by rw [←H];exact QV R x i W
   have I:y<18446744073709551616:=by rw [←H];exact Nat.lt_of_le_of_lt Nat.and_le_left W
   rw [H] at b5;have c1:=bits_or_u64_nat (wd d k) y R I;have HU:=Aa G;have HM:=Aa E;have b9:=Aa D;have a1:=Aa A;have B:=Aa g;have v:dN (∀n,(u n∧¬(s (n / 64)∧n / 64≠k)∧¬m n)↔(u n∧¬s (n / 64)∧¬m n)∨(n / 64=k∧y.testBit (n % 64)=true)):=fun n=>by
    by_cases c:n / 64=k
    ·rw [c,D,G n c,E n c];cases x.testBit (n % 64)<;>cases (wd d k).testBit (n % 64)<;>simp [F]
    ·simp [c]
   have t:dN (∀n,(m n∨(u n∧¬(s (n / 64)∧n / 64≠k)))↔(m n∨(u n∧¬s (n / 64)))∨(n / 64=k∧y.testBit (n % 64)=true)):=fun n=>by
    by_cases c:n / 64=k
    ·rw [c,D,G n c,E n c];cases x.testBit (n % 64)<;>cases (wd d k).testBit (n % 64)<;>simp [F]
    ·simp [c]
   have a2:Ab (fun k=>k=b) w M:=l.o.ob.thn g (fun j hj q=>by omega);have a0:=Aa a2;clear G E D A g H a2;by_cases p:y=0
   ·have hz:((y:Int) !=0)=false:=by rw [p];rfl
    have H3:dN (QR b o w.heap.size r go m u (fun z=>s z∧z≠k) w M):=
     ⟨a1.o,⟨gf,b0,O.iff fun n=>by rw [v.o,p];simp⟩,⟨d,Y,N.iff fun n=>by rw [t.o,p];simp⟩,a0.o⟩
    clear p;go_wp2_with fail;go_roundw
    case rel=>exact ⟨_,H3⟩
    case measure=>exact T
   ·have hz:((y:Int) !=0)=true:=by simpa using p
    have b6:wd d k ||| y<18446744073709551616:=by have:=Nat.or_lt_two_pow (n:=64) (x:=wd d k) (y:=y) (by omega) (by omega);omega
    obtain ⟨w4,b7,m4,K⟩:=Y.put Lh Tryz.underlying93 (k:=k) S b6;have a3:w.heap.size≠b:=by omega
    obtain ⟨w5,b8,m5,L⟩:=(b0.O K (fun q=>a3 q)).put Lh Tryz.underlying93 (k:=k) (a:=y) S I;unfold OS at b7 b8;have P:=a1.o.O K (fun q=>b4 q.symm) (fun q=>a4 q.symm);have Q:=P.1.O L (fun q=>by omega) (fun q=>a5 q.symm);have b1:dN (w5.rangeLeft o r<wr.rangeLeft o r):=by rw [Q.2,P.2];exact T
    have Z:=O.put (k:=k) (y:=y) a7 p I;rw [b3,Nat.zero_or] at Z;have H5:dN (QR b o w.heap.size r go m u (fun z=>s z∧z≠k) w w5):=
     ⟨Q.1,⟨_,m5,Z.iff fun n=>(v.o n).symm⟩,⟨_,m4.O L (fun q=>a3 q.symm),(N.put (k:=k) (y:=y) a7 p I).iff fun n=>(t.o n).symm⟩,(a0.o.trans K).thn L (fun j hj q=>by omega)⟩
    clear P Q Z m4 m5 K L p T;go_wp2_with fail;go_roundw
    case rel=>exact ⟨_,H5⟩
    case measure=>exact b1.o
  ·intro hd;have v:=Aa l.o.fr;have t:=Aa l.o.bs;have B:=Aa l.o.ob;clear l;go_wp2_with fail;go_ret;exact ⟨_,rfl,rN _,v.o.iff fun n=>by simp [hd],t.o.iff fun n=>by simp [hd],B.o⟩
theorem MS(b:Nat)(m:Nat→Prop)(w:World)(h:A9 b m w):
 Calls Tryz.prog 133 #[.map (some b),.map (some b)] w fun e u=>∃f,e=.returned (.map (some f))∧w.heap.size≤f∧A9 f (fun _=>False) u∧A9 b m u∧Ab (fun _=>False) w u:=by
 have W:=@run_makeMap Tryz.prog;obtain ⟨go,s,E⟩:=h;have lo:=s.lt;have t:Ab (fun _=>False) w (w.alloc (.map #[] 0)):=(Ab.refl _ w).alloc _;have g:=Aa (A9.made w);have l:=Aa (s.O t (fun q=>q));have L:=Aa E;have A:=Aa t;clear s E t;go_enter Tryz.func133,Tryz.ntmps133;go_wp2_with (at_range;refine DJ _ rfl _ 93 rfl 244 Tryz.underlying93 b rfl l.o ?_;intro S d c p);have C:(w.alloc (.map #[] 0)).heap.size=w.heap.size+1:=by simp
 rw [C] at d p⊢;try go_frame
 have B:dN (EI Lg JW b (w.heap.size+1) go (fun k=>∃a,go k=some a) S):=d;have y:=Aa (g.o.O c (fun q=>q));have z:=Aa (A.o.trans c);have Y:w.heap.size<w.heap.size+1:=Nat.lt_succ_self _;clear d c p g l A C;generalize w.heap.size+1=r at*;go_loopw [] (fun wr=>∃G:Nat→Prop,dN (EI Lg JW b r go G wr)∧dN (A9 w.heap.size (fun _=>False) wr)∧dN (Ab (fun _=>False) w wr)) (fun wr=>wr.rangeLeft b r)
 case atStart=>exact ⟨_,B,y,z⟩
 case round=>
  clear B y z;obtain ⟨G,o,g,l⟩:=hrel;go_wp2_with (at_next;refine D9 _ rfl _ rfl Lh b r rfl o.o ?_ ?_);rotate_left
  ·intro k x v P X O n d Q c p M;unfold OS at M;have N:w.heap.size≠r:=by omega
   have I:=Aa (g.o.O c (fun q=>N q));have J:dN (Ab (fun _=>False) w v):=l.o.thn c (fun j U q=>by omega);have D:wd go k=x:=by unfold wd;rw [O];rfl
   have V:(Instr.lookup 93 (.map (some b)) (.int .i64 k) false).run Tryz.prog v=.ok (.int .u64 x) v:=by rw [←D];exact d.map.word P
   have R:=u64_andNot_nat x x n n;have F:x &&& (18446744073709551615-x)=0:=Nat.eq_of_testBit_eq fun i=>by rw [QV n x i n];simp
   rw [F] at R;have Z:(((0:Nat):Int) !=0)=false:=rfl;have K:=Aa d;clear d c D F;go_wp2_with fail;go_roundw
   case rel=>exact ⟨_,K,I,J⟩
   case measure=>exact Q
  ·intro T;have H:dN (A9 b m wr):=⟨go,o.o.map,L.o⟩;clear o;go_wp2_with fail;go_ret;exact ⟨_,rfl,rN _,g.o,H.o,l.o⟩
def JL(w:World):Prop:=TabAt 0 Lib.deBruijn64tab w
theorem TU(x k a:Nat)(w:World)(h:((x:Int)==0)=false)
 (b:IntKind.u64.wrap (bits BinOp.and IntKind.u64 (x:Int) (IntKind.u64.wrap (-(x:Int)))*285870213051353865) / 288230376151711744=(a:Int))
 (f:a<64)(g:k<64)(d:w.cell? ⟨0,a,none⟩=some (.int .u8 k)):
 Calls Tryz.prog 134 #[.int .u64 x] w fun e c=>e=.returned (.int .i64 k)∧c=w:=by
 go_enter Tryz.func134,Tryz.ntmps134;go_wp2_with (simp only [b]);go_ret;exact ⟨rfl,rfl⟩
theorem Wj(x:Nat)(w:World)(f:x≠0)(d:x<18446744073709551616)(g:JL w):
 Calls Tryz.prog 134 #[.int .u64 x] w fun e j=>e=.returned (.int .i64 (Lib.ctz 64 x))∧j=w:=by
 obtain ⟨h,c⟩:=Lib.lowest_bit 64 x f d;obtain ⟨b,i⟩:=Lib.deBruijn64_at _ c;have a:=g _ b;rw [i] at a;exact TU x _ _ w (by simp;omega) (tz64_key x _ d f h) b c a
theorem JL.O{X:Nat→Prop}{w w'}(h:JL w)(c:Ab X w w')(d:¬X 0)(b:0<w.heap.size):JL w':=fun j a=>by rw [rM (c.block _ b d)];exact h j a
theorem B8{w:World}{B e d v n f}(h:w.ownsRow B e d v n f):∀k,v.ownBlock=some k→∃a,w.heap[k]? =some (.cells a e (0,0)):=by
 intro k b;rcases h.2 with ⟨rfl,_⟩ | ⟨g,i,a,rfl,_,c,_⟩
 ·cases b
 ·cases b;exact ⟨a,c⟩
theorem EI.neRow{t:Type}{R:Value→Option (DataW Unit×List MemPlace)}{l:t→DataW Unit}{b r g m w B e o v n p}(h:EI R l b r g m w)(k:w.ownsRow B e o v n p):v.ownBlock≠some b∧v.ownBlock≠some r:=by
 refine ⟨fun q=>?_,fun q=>?_⟩
 ·obtain ⟨j,i⟩:=B8 k _ q;obtain ⟨u,c,f⟩:=h.map.isMap;rw [i] at f;cases f
 ·obtain ⟨j,i⟩:=B8 k _ q;obtain ⟨a,s,c,d,f⟩:=h.iter;rw [i] at f;cases f
structure Pj(m rest:Nat→Prop)(k y:Nat)(l:List Nat):Prop where
 nd:l.Pairwise (·≠ ·)
 aY:∀n,n∈l↔m n∧¬rest (n / 64)∧¬(n / 64=k∧y.testBit (n % 64)=true)
theorem Pj.step{m f:Nat→Prop}{k y l}(h:Pj m f k y l)(w:¬f k)(x:∀i,i<64→y.testBit i=true→m (k*64+i))(s:y≠0)(t:y<18446744073709551616):Pj m f k (y &&& (y-1)) (l++[k*64+Lib.ctz 64 y]):=by
 obtain ⟨p,g,r⟩:=Kt s t;generalize Lib.ctz 64 y=c at*;have j:(k*64+c) / 64=k:=by omega
 have o:(k*64+c) % 64=c:=by omega
 refine ⟨List.pairwise_append.2 ⟨h.nd,List.pairwise_singleton _ _,fun a u b v=>?_⟩,fun n=>?_⟩
 ·rw [List.mem_singleton.1 v];rintro rfl;exact ((h.aY _).1 u).2.2 ⟨j,by rw [o];exact g⟩
 ·rw [List.mem_append,List.mem_singleton,h.aY,r];by_cases d:n / 64=k
  ·by_cases e:n % 64=c
   ·have:n=k*64+c:=by omega
    subst this;simp [e,d,w,x c p g]
   ·have:n≠k*64+c:=fun q=>e (by rw [q];exact o)
    simp [d,e,this]
  ·have:n≠k*64+c:=fun q=>d (by rw [q];exact j)
   simp [d,this]
theorem Pj.len{m c:Nat→Prop}{k y l}(h:Pj m c k y l)(a:∀n,m n→n<19200):l.length≤19200:=C8 19200 l h.nd fun x b=>a x ((h.aY x).1 b).1
theorem Df(b:Nat)(m:Nat→Prop)(w:World)(h:A9 b m w)(hT:JL w)(hg:0<w.heap.size):
 Calls Tryz.prog 100 #[.map (some b)] w fun e w'=>∃v l,e=.returned v∧AD w.heap.size w' v l∧l.Pairwise (·≠ ·)∧(∀x,x∈l↔m x)∧Ab (fun _=>False) w w':=by
 obtain ⟨i0,b6,c2,c3,c4⟩:=info_parts Tryz.infoInt;obtain ⟨go,U,a5⟩:=h;have lo:=U.lt;have Z:=Aa U;have I:=Aa a5;have b3:=Aa hT;clear U a5 hT;go_enter Tryz.func100,Tryz.ntmps100;go_wp2_with (at_range;refine DJ _ rfl _ 93 rfl 244 Tryz.underlying93 b rfl Z.o ?_;intro w2 G B hs);try go_frame
 have J:=Aa G;have O0:=Aa B;have I0:dN (AD w.heap.size w2 (.slice none 0 0) []):=World.ownsRow_nil _ _ _ _;have E:dN (([]:List Nat).Pairwise (·≠ ·)∧∀n,n∈([]:List Nat)↔m n∧¬∃a,go (n / 64)=some a):=⟨List.Pairwise.nil,fun n=>⟨fun q=>absurd q List.not_mem_nil,fun q=>by obtain ⟨x,C,_⟩:=(I.o.aY n).1 q.1;exact absurd ⟨x,C⟩ q.2⟩⟩
 clear G B hs Z;obtain ⟨r,M⟩:∃r,r=w.heap.size:=⟨_,rfl⟩;have J:dN (EI Lg JW b r go (fun k=>∃a,go k=some a) w2):=by rw [M];exact J.o
 rw [←M];have b1:=Aa M;clear M;go_loopw [3] (fun v wr=>∃(D:Nat→Prop) (l:List Nat) (d:Option Addr) (f:Nat),v=.slice d l.length f∧dN (AD w.heap.size wr (.slice d l.length f) l)∧dN (EI Lg JW b r go D wr)∧dN (l.Pairwise (·≠ ·)∧∀n,n∈l↔m n∧¬D (n / 64))∧dN (Ab (fun _=>False) w wr)) (fun _ wr=>wr.rangeLeft b r)
 case atStart=>exact ⟨_,[],none,0,rfl,I0,J,E,O0⟩
 case round=>
  clear J O0 I0 E;obtain ⟨D,l,d,f,rfl,g,p,o,s⟩:=hrel;go_wp2_with (at_next;refine D9 _ rfl _ rfl Lh b r rfl p.o ?_ ?_);rotate_left
  ·intro k x w3 hk b9 a2 c1 G R B hs b5;unfold OS at b5;have C:=I.o.ok k x a2;have c8:=C.2.2;have F:=p.o.neRow g.o;have V:dN (AD w.heap.size w3 (.slice d l.length f) l):=Ac g.o B (fun j A q=>F.2 (by rw [A,q]));have a1:=Aa G;have a0:dN (Ab (fun _=>False) w w3):=s.o.thn B (fun j A q=>by have:=b1.o;omega);have S:∀i,i<64→(m (k*64+i)↔x.testBit i=true):=fun i hi=>by rw [I.o.word,show (k*64+i) / 64=k by omega,show (k*64+i) % 64=i by omega];unfold wd;rw [a2];rfl
   have X:dN (Pj m (fun z=>D z∧z≠k) k x l):=⟨o.o.1,fun n=>by
    rw [o.o.2];by_cases L:n / 64=k
    ·have:=S (n % 64) (by omega);rw [show k*64+n % 64=n by omega] at this;simp [L,b9,this]
    ·simp [L]⟩
   have HM:=Aa S;obtain ⟨E,P⟩:∃n,wr.rangeLeft b r=n:=⟨_,rfl⟩;rw [P] at R;have u:=Aa R;have a8:=Aa P;clear G B S g p o s F R P;go_wp2_with fail;go_loopw [3,5] (fun v z O=>∃(y:Nat) (l:List Nat) (d:Option Addr) (f:Nat),v=.slice d l.length f∧z=.int .u64 y∧y<18446744073709551616∧dN (∀i,y.testBit i=true→x.testBit i=true)∧dN (Pj m (fun z=>D z∧z≠k) k y l)∧dN (AD w.heap.size O (.slice d l.length f) l)∧dN (EI Lg JW b r go (fun z=>D z∧z≠k) O)∧dN (O.rangeLeft b r<E)∧dN (Ab (fun _=>False) w O)) (fun _ z _=>(intOf z).toNat)
   case atStart=>exact ⟨x,l,d,f,rfl,rfl,c1,fun _ q=>q,X,V,a1,u,a0⟩
   case round=>
    clear V a1 X a0 u;obtain ⟨y,l,d,f,rfl,rfl,H,HY,o,g,p,u,s⟩:=hrel;by_cases t:y=0
    ·subst t;have hz:(((0:Nat):Int) !=0)=false:=rfl;go_wp2_with fail;go_roundw
     case rel=>exact ⟨_,l,d,f,rfl,g,p,⟨o.o.nd,fun n=>by rw [o.o.aY];simp⟩,s⟩
     case measure=>rw [a8.o];exact u.o
    ·have hz:((y:Int) !=0)=true:=by simpa using t
     have hc:=(Kt t H).1;have Y:=Aa (o.o.step (fun q=>q.2 rfl) (fun i hi q=>(HM.o i hi).2 (HY.o i q)) t H);have b7:=Y.o.len (fun n L=>I.o.lt L);rw [rV,List.length_singleton] at b7;have b2:=Aa (b3.o.O s.o (fun q=>q) hg);have c7:=bits_and_u64_nat y (y-1) H (by omega);have d0:IntKind.u64.wrap ((y:Int)-1)=((y-1:Nat):Int):=by rw [IntKind.wrap_u64];omega
     have b4:dN (∀i,(y &&& (y-1)).testBit i=true→x.testBit i=true):=fun i q=>by rw [(Kt t H).2.2] at q;simp only [Bool.and_eq_true] at q;exact HY.o i q.1
     have c9:=Ni t;have d1:=s.o.size;go_wp2_with fail;refine (Wj y _ t H b2.o).mono ?_;rintro e w4 ⟨rfl,T⟩;have T:=T.symm;subst T;generalize Lib.ctz 64 y=c at*;have F:=p.o.neRow g.o;go_wp2_with (at_builtin;refine wpList_append_own _ rfl _ _ 37 rfl w.heap.size 3 i0 (.int .i64 0) 1 8 Tryz.underlying37 b6 c2 c3 c4 rfl (by decide) _ _ _ rfl (g.o.alloc _) ⟨wr.heap.size,0,none⟩ 1 1 [.int .i64 ((k:Int)*64+c)] rfl rfl (A5 (by simp) _ _) (fun x C=>by simp at C;subst C;rfl) (by unfold maxLen;omega) (by omega) (by simp;omega) ?_;intro v' N a4 Q b8);have a9:dN (Ab (fun _=>False) w N):=Ab.grown (s.o.alloc _) Q (fun j A=>.inr (g.o.lt j A).1);have a3:Ab (fun j=>some j=Value.ownBlock (.slice d l.length f)) wr N:=Ab.grown ((Ab.refl _ wr).alloc _) Q (fun j A=>.inl A.symm);obtain ⟨R5,L5⟩:=p.o.O a3 (fun q=>F.1 q.symm) (fun q=>F.2 q.symm);have b0:=Aa R5;have a7:dN (N.rangeLeft b r<E):=by show _<_;rw [L5];exact u.o
     have K:AD w.heap.size N v' (l++[k*64+c]):=by unfold AD;rw [rV,List.length_singleton,List.map_append];exact a4
     obtain ⟨c5,d2,c6,rfl⟩:=Ad K;have c0:=Aq K;subst c0;have a6:=Aa K;clear a4 Q b8 a3 R5 L5 K p g u;go_wp2_with fail;go_roundw
     case rel=>exact ⟨_,_,c5,c6,rfl,rfl,by omega,b4,Y,a6,b0,a7,a9⟩
     case measure=>simp [intOf];omega
  ·intro hd;have W:=o.o;clear p o;go_wp2_with fail;go_ret;exact ⟨_,l,rfl,g.o,W.1,fun n=>by rw [W.2];simp [hd],s.o⟩
theorem mP(b o:Nat)(m u:Nat→Prop)(w:World)(h:A9 b m w)(k:A9 o u w):
 Calls Tryz.prog 105 #[.map (some b),.map (some o)] w fun e w'=>∃r:Bool,e=.returned (.bool r)∧(r=true↔∃n,m n∧u n)∧Ab (fun _=>False) w w':=by
 obtain ⟨d,C,R⟩:=h;obtain ⟨go,D,S⟩:=k;have lb:=C.lt;have lo:=D.lt;have F:=Aa C;have V:=Aa D;have M:=Aa R;have N:=Aa S;clear C D R S;go_enter Tryz.func105,Tryz.ntmps105;go_wp2_with (at_range;refine DJ _ rfl _ 93 rfl 244 Tryz.underlying93 b rfl F.o ?_;intro w2 g f P);try go_frame
 have K:=Aa f;obtain ⟨r,s⟩:∃r,r=w.heap.size:=⟨_,rfl⟩;have L:dN (EI Lg JW b r d (fun k=>∃a,d k=some a) w2):=by rw [s];exact g
 rw [←s];have Y:=Aa s;have J:dN (∀n,m n→u n→∃a,d (n / 64)=some a):=fun n A _=>by obtain ⟨x,hx,_⟩:=(M.o.aY n).1 A;exact ⟨x,hx⟩
 clear g f P F s;go_loopw [] (fun wr=>∃(t:Nat→Prop),dN (EI Lg JW b r d t wr)∧dN (∀n,m n→u n→t (n / 64))∧dN (Ab (fun _=>False) w wr)) (fun wr=>wr.rangeLeft b r)
 case atStart=>exact ⟨_,L,J,K⟩
 case round=>
  clear L K J;obtain ⟨t,W,H,I⟩:=hrel;go_wp2_with (at_next;refine D9 _ rfl _ rfl Lh b r rfl W.o ?_ ?_);rotate_left
  ·intro k x E hk a5 a2 T g a3 f P a1;unfold OS at a1;have v:dN (Ab (fun _=>False) w E):=I.o.thn f (fun j hj q=>by have:=Y.o;omega);have hl:(Instr.lookup 93 (.map (some o)) (.int .i64 k) false).run Tryz.prog E=.ok (.int .u64 (wd go k)) E:=(V.o.O v.o (fun q=>q)).word hk;have Q:=N.o.small k;have a0:=bits_and_u64_nat x (wd go k) T Q;have z:∀n,n / 64=k→((m n∧u n)↔(x &&& wd go k).testBit (n % 64)=true):=fun n A=>by
    rw [M.o.word,N.o.word,A,Nat.testBit_and];have:wd d k=x:=by unfold wd;rw [a2];rfl
    rw [this];simp
   obtain ⟨y,B⟩:∃y,x &&& wd go k=y:=⟨_,rfl⟩;have a4:y<18446744073709551616:=by rw [←B];exact Nat.lt_of_le_of_lt Nat.and_le_left T
   rw [B] at a0 z;have G:=Aa z;have X:=Aa g;clear g f z B Q;by_cases c:y=0
   ·have hz:((y:Int) !=0)=false:=by rw [c];rfl
    have U:dN (∀n,m n→u n→t (n / 64)∧n / 64≠k):=fun n l p=>⟨H.o n l p,fun q=>by have:=(G.o n q).1 ⟨l,p⟩;rw [c] at this;simp at this⟩
    clear c;go_wp2_with fail;go_roundw
    case rel=>exact ⟨_,X,U,v⟩
    case measure=>exact a3
   ·have hz:((y:Int) !=0)=true:=by simpa using c
    have Z:dN (∃n,m n∧u n):=by obtain ⟨i,O⟩:=Kk c;have hl:=UE a4 O;exact ⟨k*64+i,(G.o _ (by omega)).2 (by rw [show (k*64+i) % 64=i by omega];exact O)⟩
    clear c;go_wp2_with fail;go_ret;exact ⟨true,rfl,by simpa using Z.o,v.o⟩
  ·intro hd;go_wp2_with fail;go_ret;exact ⟨false,rfl,by simp;exact fun n l p=>hd _ (H.o n l p),I.o⟩
def Hb:Value→Option (DataW Unit×List MemPlace)
 | .map (some b)=>some (.lit (.int .i64 b),[])
 | _=>none
def Ha(b:Nat):DataW Unit:=.lit (.int .i64 b)
def GG(b:Nat):Value:=.map (some b)
theorem Dw:Pg Hb GG Ha (fun _=>True):=by
 refine ⟨fun a _=>rfl,fun v z c=>?_,fun a b h=>?_⟩
 ·unfold Hb at c;split at c
  ·next b=>cases c;exact ⟨b,rfl,rfl,trivial⟩
  ·cases c
 ·unfold Ha at h;cases h;rfl
theorem Ca(w:World):(zeroValue 93).run Tryz.prog w=.ok (.map none) w:=by go_simp
def TB:Value→Option (DataW Unit×List MemPlace)
 | .slice (some ⟨g,0,none⟩) l c=>some (.agg [.lit (.int .i64 g),.lit (.int .i64 l),.lit (.int .i64 c)],[])
 | _=>none
def TA(t:Nat×Nat×Nat):DataW Unit:=.agg [.lit (.int .i64 t.1),.lit (.int .i64 t.2.1),.lit (.int .i64 t.2.2)]
def DX(t:Nat×Nat×Nat):Value:=.slice (some ⟨t.1,0,none⟩) t.2.1 t.2.2
theorem IB:Pg TB DX TA (fun _=>True):=by
 refine ⟨fun a _=>rfl,fun v z d=>?_,fun a b h=>?_⟩
 ·unfold TB at d;split at d
  ·next g l c=>cases d;exact ⟨(g,l,c),rfl,rfl,trivial⟩
  ·cases d
 ·obtain ⟨e,f,i⟩:=a;obtain ⟨j,k,m⟩:=b;unfold TA at h;simp only [DataW.agg.injEq,List.cons.injEq,DataW.lit.injEq,Lit.int.injEq,true_and,and_true] at h;obtain ⟨q,r,s⟩:=h;have n:e=j:=by omega
  have o:f=k:=by omega
  have p:i=m:=by omega
  rw [n,o,p]
theorem Ge(w:World):(zeroValue 242).run Tryz.prog w=.ok (.slice none 0 0) w:=by go_simp
structure So where
 om:Nat→Nat
 bk:Nat→Nat→Option Nat
 fw:Nat→Option (Nat×Nat×Nat)
 rl:Nat→List Rl
def BF(P:List PFn)(v:Sv)(t i x:Nat):Prop:=
 (t=0→v.s.I i x)∧(t=1→v.s.E i x)∧(t=2→v.N i x)∧(t=3→v.s.F i x)∧(t=4→Ey P i x)
def Gf(o:So)(b:Value)(c d a:Nat):Array Value:=#[b,.int .i64 c,.int .i64 d,.int .i64 a,.map (some (o.om 0)),.map (some (o.om 1)),.map (some (o.om 2)),.map (some (o.om 3)),.map (some (o.om 5)),.map (some (o.om 4))]
def A8(P:List PFn)(a c:Nat):Prop:=(∃f i,f<P.length∧i<(Ap P f).l8.length∧c=vN f i)∨∃n k,1≤n∧n≤a∧k<4∧c=pN n k
def Nd(r:Rl)(a:Value):List Value:=.int .i64 r.f::Hk r.s a
def Hn(B:Nat)(w:World)(v:Value)(l:List Rl):Prop:=∃a:List (List Value),w.ownsRow B 208 9 v l.length a.flatten∧a.length=l.length∧∀i (h:i<a.length) (c:i<l.length),∃b,a[i]=Nd l[i] b∧AD 0 w b l[i].s.args
structure Bp(P:List PFn)(sb:Nat)(fv:Value)(mn pn cn:Nat)(o:So)(v:Sv)(w:World):Prop where
 s9:Ak sb (Gf o fv mn pn cn) 144 w
 mp:∀t,t≤4→Bv Hb Ha (o.om t) (o.bk t) w
 st:∀t i k,o.bk t i=some k→A9 k (BF P v t i) w
 dj:∀t i t' i' k,o.bk t i=some k→o.bk t' i'=some k→t=t'∧i=i'
 oj:∀t t',t≤5→t'≤5→o.om t=o.om t'→t=t'
 ne:∀t i k t',o.bk t i=some k→t'≤5→k≠o.om t'
 t4:∀t i k,o.bk t i=some k→t≤4
 d0:∀c,(t:Nat)→t=0∨t=3→((∃k,o.bk t c=some k)↔A8 P pn c)
 d1:∀n,(∃k,o.bk 1 n=some k)↔1≤n∧n≤cn
 d4:∀f,(∃k,o.bk 4 f=some k)↔f<P.length
 d2:∀c k,o.bk 2 c=some k→∃x,v.N c x
 ins:∀t i x,t≤4→BF P v t i x→∃k,o.bk t i=some k
 fm:Bv TB TA (o.om 5) o.fw w
 fr:∀c t,o.fw c=some t→Hn 0 w (DX t) (o.rl c)
 fj:∀c c' t t',o.fw c=some t→o.fw c'=some t'→t.1=t'.1→c=c'
 f0:∀c,o.fw c=none→o.rl c=[]
 fvr:∀c r,v.W c r↔r∈o.rl c
theorem Kq{P:List PFn}{v:Sv}{c x:Nat}:BF P v 2 c x↔v.N c x:=by simp [BF]
def So.own(o:So)(a k:Nat):Prop:=k=a∨(∃t,t≤5∧k=o.om t)∨(∃t i,o.bk t i=some k)∨∃c t,o.fw c=some t∧k=t.1
theorem Hn.O{B w w' v l}{X:Nat→Prop}(h:Hn B w v l)(b:Ab X w w')(o:∀k,v.ownBlock=some k→¬X k)(n:∀k a d,X k→w.heap[k]? ≠some (.cells a 3 d)):Hn B w' v l:=by obtain ⟨a,f,g,j⟩:=h;refine ⟨a,Ac f b o,g,fun i q p=>?_⟩;obtain ⟨c,e,m⟩:=j i q p;exact ⟨c,e,Av m b n⟩
theorem Bp.O{P e g l m f o v w w'}{X:Nat→Prop}(h:Bp P e g l m f o v w)(b:Ab X w w')(d:∀k,X k→¬o.own e k)(r:∀k n p,X k→w.heap[k]? ≠some (.cells n 3 p)):Bp P e g l m f o v w':=
 {h with
  s9:=h.s9.O b (fun q=>d _ q (.inl rfl))
  mp:=fun t s=>(h.mp t s).O b (fun q=>d _ q (.inr (.inl ⟨t,by omega,rfl⟩)))
  st:=fun t i k a=>(h.st t i k a).O b (fun q=>d _ q (.inr (.inr (.inl ⟨t,i,a⟩))))
  fm:=h.fm.O b (fun q=>d _ q (.inr (.inl ⟨5,by omega,rfl⟩)))
  fr:=fun c t j=>(h.fr c t j).O b (fun k a q=>d _ q (.inr (.inr (.inr ⟨c,t,j,by unfold DX at a;cases a;rfl⟩)))) r}
theorem Bp.i9{P e b c d a o v w f}(h:Bp P e b c d a o v w)(g:Ab (fun _=>False) w f):Bp P e b c d a o v f:=h.O g (fun _ q=>q.elim) (fun _ _ _ q=>q.elim)
end Go.Proofs.YtegmjgjkcdbmkaaGreatDoor

/- Part of the proof: EqG EqH EqI EqJ EqK EqL EqM EqS. -/
import Derived.Test.YtaningfhibkemaaGreatDoorG12
namespace Go.Proofs.YtaningfhibkemaaGreatDoor
open Go.Proofs.Tryz Go.Maps
open Option renaming none->Z,some->T
open Value renaming int->G,slice->Y
open IntKind renaming i64->A
def MS:Nat->Nat->List Nat->Prop
 |i,j,[]=>i<=j
 |i,j,p::a=>i<=p/\MS (p+1) j a
theorem MS.left:∀{c:List Nat} {i b j:Nat},MS i j c->b<=i->MS b j c
 |[],_,_,_,h,a=>iG a h
 |_::_,_,_,_,h,a=>⟨iG a h.1,h.2⟩
theorem MS.right:∀{c:List Nat} {i j b:Nat},MS i j c->j<=b->MS i b c
 |[],_,_,_,h,a=>iG h a
 |_::_,_,_,_,h,a=>⟨h.1,h.2.right a⟩
theorem MS.le:∀{a:List Nat} {i j:Nat},MS i j a->i+a.length<=j
 |[],_,_,h=>h
 |p::a,i,j,h=>by have:=h.2.le;have:=h.1;simp only[gU];omega
theorem MS.snoc:∀{a:List Nat} {i j:Nat},MS i j a->MS i (j+1) (a++[j])
 |[],_,_,h=>⟨h,gS _⟩
 |_::_,_,_,h=>⟨h.1,h.2.snoc⟩
inductive Dv {A:Type} (R:Nat->Nat->A->Prop):Nat->Nat->List A->Prop
 |nil {i j:Nat} (h:i<=j):Dv R i j []
 |cons {i m j:Nat} {a:A} {l:List A} (h:R i m a) (t:Dv R m j l):Dv R i j (a::l)
theorem Dv.snoc{b:Type}{R:Nat->Nat->b->Prop}{i m j:Nat}{l:List b}{a:b}(h:Dv R i m l)(e:∀c i j a,R i j a->c<=i->R c j a)(r:R m j a)(d:m<=j):Dv R i j (l++[a]):=by
 induction h with
 |nil h=>exact .cons (e _ _ _ _ r h) (.nil (gS _))
 |cons h _ f=>exact .cons h (f r d)
theorem Dv.mono{b}{R S:Nat->Nat->b->Prop}{i j l}(h:Dv R i j l)(k:∀i j a,R i j a->S i j a):Dv S i j l:=by
 induction h with
 |nil h=>exact .nil h
 |cons h _ c=>exact .cons (k _ _ _ h) c
theorem Dv.le{b}{R:Nat->Nat->b->Prop}{i j l}(h:Dv R i j l)(k:∀i j a,R i j a->i<j):i+l.length<=j:=by
 induction h with
 |nil h=>exact h
 |cons h _ c=>have:=k _ _ _ h;simp only[gU];omega
theorem Dv.low{d}{R S:Nat->Nat->d->Prop}{i j i0 j0 l}(h:Dv R i j l)(c:∀i j a,R i j a->i<j)(k:∀a b x,i0<=a->b<=j0->R a b x->S a b x)(e:i0<=i)(f:j<=j0):Dv S i j l:=by
 induction h with
 |nil h=>exact .nil h
 |cons h t g=> have q:=c _ _ _ h;have m:=t.le c;exact .cons (k _ _ _ e (by omega) h) (g (by omega) f)
def YZ(v:VS):List PT:=if v.kind=1 then[]else if v.kind=7\/v.kind=8 then v.sr::v.args else[v.sr]
def Zh(s:VS):List PT:=if s.kind=0\/s.kind=1 then[s.tg]else if s.kind=10 then[s.sr]else if s.kind=7\/s.kind=8 then s.tg::s.sr::s.args else[s.tg,s.sr]
def Cm(toks:List PT):Nat->Nat->Nat->TS->Prop
 |0,_,_,_=>False
 |d+1,i,j,.mk s b=>i<j/\j<toks.length/\
  ((b=[]/\s.kind<=10/\Z6 s/\(s.kind≠7->s.kind≠8->s.args=[])/\∃f,Zh s=f.map (Aj toks)/\MS i j f)\/
   (∃k a m,b=[((Aj toks k).l7,a)]/\(s=EK 11\/s=EK 12)/\i<k/\Dv (Cm toks d) (k+1) m a/\m<j)\/
   (∃k a m c g e,b=[((Aj toks k).l7,a),((Aj toks c).l7,g)]/\s=EK 11/\i<k/\Dv (Cm toks d) (k+1) m a/\m<c/\Dv (Cm toks d) (c+1) e g/\e<j))
theorem Cm.lt{toks d i j t}(h:Cm toks d i j t):i<j:=by
 match d,t,h with
 |d+1,.mk s a,h=>exact h.1
theorem Cm.left{toks d i n j t}(h:Cm toks d i j t)(r:n<=i):Cm toks d n j t:=by
 match d,t,h with
 |d+1,.mk s z,h=>
  obtain⟨B,p,q⟩:=h;refine⟨by omega,p,?_⟩;rcases q with⟨a,b,c,g,x,e,f⟩|⟨k,l,m,a,b,c,e⟩|⟨k,l,m,v,y,w,a,b,c,e⟩
  .exact .inl ⟨a,b,c,g,x,e,f.left r⟩
  .exact .inr (.inl ⟨k,l,m,a,b,by omega,e⟩)
  .exact .inr (.inr ⟨k,l,m,v,y,w,a,b,by omega,e⟩)
theorem Cm.up{toks:List PT}:∀{d i j:Nat} {t:TS},Cm toks d i j t->Cm toks (d+1) i j t
 |0,_,_,_,h=>h.elim
 |d+1,i,j,.mk s y,h=>by
  obtain⟨n,p,q⟩:=h;refine⟨n,p,?_⟩;rcases q with h|⟨k,l,m,a,b,c,e,f⟩|⟨k,l,m,v,x,w,a,b,c,e,f,g,h⟩
  .exact .inl h
  .exact .inr (.inl ⟨k,l,m,a,b,c,e.mono (fun _ _ _ r=>r.up),f⟩)
  .exact .inr (.inr ⟨k,l,m,v,x,w,a,b,c,e.mono (fun _ _ _ r=>r.up),f,g.mono (fun _ _ _ r=>r.up),h⟩)
theorem Cm.lower{toks:List PT}:∀{d i j:Nat} {t:TS} (e:Nat),Cm toks d i j t->j-i<=e->Cm toks e i j t
 |0,_,_,_,_,h,_=>h.elim
 |d+1,i,j,.mk s n,0,h,B=>by have:=h.1;omega
 |d+1,i,j,.mk s n,e+1,h,B=>by
  obtain⟨p,v,w⟩:=h;refine⟨p,v,?_⟩;have L:∀(a b:Nat) (l:List TS),i+1<=a->b<=j->Dv (Cm toks d) a b l->Dv (Cm toks e) a b l:=fun a b l y z r=> r.low (i0:=i+1) (j0:=j) (fun _ _ _ q=>q.lt) (fun H I x K M q=>Cm.lower e q (by omega)) y z
  rcases w with h|⟨k,l,m,a,b,c,q,f⟩|⟨k,l,m,C,F,E,a,b,c,q,f,g,h⟩
  .exact .inl h
  .exact .inr (.inl ⟨k,l,m,a,b,c,L _ _ _ (by omega) (by omega) q,f⟩)
  .have:=g.le (fun _ _ _ q=>q.lt);have:=q.le (fun _ _ _ q=>q.lt);exact .inr (.inr ⟨k,l,m,C,F,E,a,b,c,L _ _ _ (by omega) (by omega) q,f,L _ _ _ (by omega) (by omega) g,h⟩)
theorem Vf(toks n x):(Cu toks n x).1.kind≠7->(Cu toks n x).1.kind≠8->(Cu toks n x).1.args=[]:=by
 unfold Cu;split
 .intro _ _;rfl
 .split
  .unfold Fe;simp only;split<;>(intro _ _;rfl)
  .split
   .intro _ _;rfl
   .split
    .intro _ _;rfl
    .split
     .intro _ h;exact jY rfl h
     .split
      .intro h;exact jY rfl h
      .intro _ _;rfl
theorem Qp(toks n x):(AT toks n x).1.kind≠7->(AT toks n x).1.kind≠8->(AT toks n x).1.args=[]:=by
 unfold AT;split
 .intro _ _;rfl
 .split
  .intro _ _;rfl
  .split
   .intro _ _;rfl
   .exact Vf _ _ _
section
variable{N:Nat}{toks:List PT}(H:TksOk N toks)(o:N<=4000)(u:toks.length<=4001)
include H
theorem Km(p:Nat):(Aj toks p).d9.size<=N/\(Aj toks p).l7<=N:=by
 rcases jG p toks.length with q|q
 .exact H.len _ (G8 q)
 .unfold Aj;rw[iS q];exact⟨iF _,iF _⟩
theorem Ei(k:Nat)(x:PS):(AH toks k x).d9.size<=N/\(AH toks k x).l7<=N:=by
 unfold AH;split
 .exact Km H _
 .exact⟨iF _,iF _⟩
omit H in
theorem Ow:∀(f:Nat) (x:PS) (a:List PT),∃b,(DO toks f x a).1=a++b.map (Aj toks)/\MS x.next (DO toks f x a).2.next b/\(DO toks f x a).2.cR=x.cR
 |0,x,a=>⟨[],by simp[DO],gS _,rfl⟩
 |f+1,x,a=>by
  rw[DO];split
  .obtain⟨b,c,d,e⟩:=Ow f ⟨x.next+1,x.cR,x.dH⟩ (a++[Aj toks x.next]);exact⟨x.next::b,by rw[c];simp,⟨gS _,d⟩,e⟩
  .exact⟨[],by simp,gS _,rfl⟩
omit H in
theorem IQ{x}(h:(Bt toks toks.length x).2.cR=false):x.cR=false/\∃a,(Bt toks toks.length x).1=a.map (Aj toks)/\MS (x.next+1) (Bt toks toks.length x).2.next a/\x.next+2<=(Bt toks toks.length x).2.next:=by unfold Bt at h⊢;simp only at h⊢;obtain⟨a,e,c,f⟩:=Ow (toks:=toks) toks.length (Af toks toks.length 10 x) [];have b:=Dg (k:=11) (by decide) h;rw[f]at b;have d:=Dg (k:=10) (by decide) b.1;have:=c.le;rw[d.2.1]at c this;exact⟨d.1,a,by simpa using e,c.right (by rw[b.2.1];omega),by rw[b.2.1];omega⟩
theorem Qh{x:PS}:∀t,t∈(Bt toks toks.length x).1->t.d9.size<=N/\t.l7<=N:=by
 intro t a;obtain⟨c,b,_,_⟩:=Ow (toks:=toks) toks.length (Af toks toks.length 10 x) [];have e:(Bt toks toks.length x).1=c.map (Aj toks):=by unfold Bt;simpa using b
 rw[e]at a;obtain⟨p,_,rfl⟩:=jD.1 a;exact Km H p
theorem XI{x:PS}(h:(Cu toks toks.length x).2.cR=false):x.cR=false/\x.next<(Cu toks toks.length x).2.next/\(∃e,YZ (Cu toks toks.length x).1=e.map (Aj toks)/\MS x.next (Cu toks toks.length x).2.next e)/\(Cu toks toks.length x).1.sr.d9.size<=N/\(∀t,t∈(Cu toks toks.length x).1.args->t.d9.size<=N)/\x.next+(Cu toks toks.length x).1.args.length<=(Cu toks toks.length x).2.next:=by
 have a:=fun(k:Nat) (c:k≠0) {x:PS} (h:(Af toks toks.length k x).cR=false)=>Dg c h
 have p:(BO:PT).d9.size<=N:=iF _;unfold Cu at h⊢;split at h
 .rename_i c;rw[jR c];have t:=a 5 (by decide) h;simp only at t⊢;exact⟨t.1,by omega,⟨[],rfl,show x.next<=_ by omega⟩,p,by simp,by simp;omega⟩
 rename_i y;rw[jQ y];split at h
 .rename_i c;rw[jR c];unfold Fe at h⊢;simp only at h⊢;split at h
  .rename_i l;rw[jR l];have n:=a 2 (by decide) h;have i:=a 19 (by decide) n.1;have d:=a 1 (by decide) i.1;have b:=a 16 (by decide) d.1;simp only;refine⟨b.1,by omega,⟨[(Af toks toks.length 16 x).next],by simp[YZ,d.2.2.1],⟨by omega,show _<=_ by omega⟩⟩,(Ei H _ _).1,by simp,by simp;omega⟩
  .rename_i l;rw[jQ l];have d:=a 1 (by decide) h;have b:=a 16 (by decide) d.1;simp only;refine⟨b.1,by omega,⟨[(Af toks toks.length 16 x).next],by simp[YZ,d.2.2.1],⟨by omega,show _<=_ by omega⟩⟩,(Ei H _ _).1,by simp,by simp;omega⟩
 rename_i s;rw[jQ s];split at h
 .rename_i c;rw[jR c];have d:=a 1 (by decide) h;have b:=a 17 (by decide) d.1;simp only at d⊢;refine⟨b.1,by omega,⟨[(Af toks toks.length 17 x).next],by simp[YZ,d.2.2.1],⟨by omega,show _<=_ by omega⟩⟩,(Ei H _ _).1,by simp,by simp;omega⟩
 rename_i v;rw[jQ v];split at h
 .rename_i c;rw[jR c];have d:=a 1 (by decide) h;have b:=a 18 (by decide) d.1;simp only at d⊢;refine⟨b.1,by omega,⟨[(Af toks toks.length 18 x).next],by simp[YZ,d.2.2.1],⟨by omega,show _<=_ by omega⟩⟩,(Ei H _ _).1,by simp,by simp;omega⟩
 rename_i w;rw[jQ w];split at h
 .rename_i c;rw[jR c];unfold Jg at h⊢;simp only at h⊢;obtain⟨m,e,f,g,z⟩:=IQ h;have n:=a 11 (by decide) m;have i:=a 1 (by decide) n.1;have d:=a 17 (by decide) i.1;have b:=a 10 (by decide) d.1;have q:=g.le;have B:(Bt toks toks.length (Af toks toks.length 11 (Af toks toks.length 1 (Af toks toks.length 17 (Af toks toks.length 10 x))))).1.length=e.length:=by rw[f];simp
  refine⟨b.1,by omega,⟨(Af toks toks.length 17 (Af toks toks.length 10 x)).next::e,by simp[YZ,i.2.2.1,f],⟨by omega,g.left (by omega)⟩⟩,(Ei H _ _).1,fun t j=>(Qh H t j).1,by omega⟩
 rename_i r;rw[jQ r];split at h
 .rename_i c;rw[jR c];simp only at h⊢;obtain⟨m,e,f,g,z⟩:=IQ h;have b:=a 1 (by decide) m;have q:=g.le;have B:(Bt toks toks.length (Af toks toks.length 1 x)).1.length=e.length:=by rw[f];simp
  refine⟨b.1,by omega,⟨x.next::e,by simp[YZ,b.2.2.1,f],⟨by omega,g.left (by omega)⟩⟩,(Ei H _ _).1,fun t j=>(Qh H t j).1,by omega⟩
 .rename_i c;rw[jQ c];have b:=a 1 (by decide) h;simp only at b⊢;refine⟨b.1,by omega,⟨[x.next],by simp[YZ,b.2.2.1],⟨by omega,show _<=_ by omega⟩⟩,(Ei H _ _).1,by simp,by simp;omega⟩
include o u
theorem RT{x:PS}(h:(AT toks toks.length x).2.cR=false)(f:(AT toks toks.length x).2.next<toks.length):x.cR=false/\x.next<(AT toks toks.length x).2.next/\(AT toks toks.length x).1.kind<=10/\Z6 (AT toks toks.length x).1/\∃i,Zh (AT toks toks.length x).1=i.map (Aj toks)/\MS x.next (AT toks toks.length x).2.next i:=by
 have b:=fun(k:Nat) (d:k≠0) {x:PS} (h:(Af toks toks.length k x).cR=false)=>Dg d h
 have m:(BO:PT).d9.size<=4000:=iF _;have p:(BO:PT).l7<=4000:=iF _;have e:=fun(k:Nat) (x:PS)=>iG (Ei H k x).1 o
 have j:=fun(k:Nat) (x:PS)=>iG (Ei H k x).2 o
 unfold AT at h f⊢;split at h
 .rename_i d;rw[jR d];have a:=b 1 (by decide) h;have c:=b 4 (by decide) a.1;simp only at a⊢;exact⟨c.1,by omega,by omega,⟨e _ _,j _ _,m,by simp,by simp⟩,[(Af toks toks.length 4 x).next],by simp[Zh,a.2.2.1],⟨by omega,show _<=_ by omega⟩⟩
 rename_i s;rw[jQ s]at f⊢;split at h
 .rename_i d;rw[jR d];have a:=b 1 (by decide) h;have c:=b 6 (by decide) a.1;simp only at a⊢;exact⟨c.1,by omega,by omega,⟨m,p,e _ _,by simp,by simp⟩,[(Af toks toks.length 6 x).next],by simp[Zh,a.2.2.1],⟨by omega,show _<=_ by omega⟩⟩
 rename_i w;rw[jQ w]at f⊢;split at h
 .rename_i d;rw[jR d];have l:=b 1 (by decide) h;have y:=b 15 (by decide) l.1;have a:=b 1 (by decide) y.1;have c:=b 17 (by decide) a.1;simp only at l⊢;exact⟨c.1,by omega,by omega,⟨e _ _,j _ _,e _ _,by simp,by simp⟩,[(Af toks toks.length 17 x).next,(Af toks toks.length 15 (Af toks toks.length 1 (Af toks toks.length 17 x))).next],by simp[Zh,a.2.2.1,l.2.2.1],⟨by omega,by omega,show _<=_ by omega⟩⟩
 .rename_i r;rw[jQ r]at f⊢;simp only at h f⊢;have I:=QV toks toks.length (Af toks toks.length 15 (Af toks toks.length 1 x));obtain⟨z,K,⟨i,B,C⟩,E,F,L⟩:=XI H h;have a:=b 15 (by decide) z;have c:=b 1 (by decide) a.1;generalize (Cu toks toks.length (Af toks toks.length 15 (Af toks toks.length 1 x))).1=v at*;refine⟨c.1,by omega,by omega,⟨e _ _,j _ _,iG E o,fun t q=>iG (F t q) o,by simp only;omega⟩,x.next::i,?_,⟨by omega,C.left (by omega)⟩⟩;rw[iU,<-B,c.2.2.1];unfold Zh YZ;simp only;by_cases n:v.kind=1
  .simp[n]
  .rw[jQ (by omega),jQ (by omega),jQ n];by_cases g:v.kind=7\/v.kind=8
   .rw[jR g,jR g]
   .rw[jQ g,jQ g]
omit H o u in
theorem aM{p}(h:CZ (Aj toks p).kind):p<toks.length:=by
 rcases jG p toks.length with q|q
 .exact q
 .unfold Aj at h;rw[iS q]at h;simp[CZ,BO]at h
theorem TZ:∀f:Nat,
 (∀(x:PS) (m:List TS),x.next<toks.length->2*(toks.length-x.next)+1<=f->(AO toks toks.length f x m).2.cR=false->x.cR=false/\∃l,(AO toks toks.length f x m).1=m++l/\Dv (Cm toks f) x.next (AO toks toks.length f x m).2.next l)/\
 (∀(x:PS),x.next<toks.length->2*(toks.length-x.next)<=f->(Bw toks toks.length f x).2.cR=false->x.cR=false/\Cm toks f x.next (Bw toks toks.length f x).2.next (Bw toks toks.length f x).1):=by
 have b:=fun(k:Nat) (hk:k≠0) {x:PS} (h:(Af toks toks.length k x).cR=false)=>Dg hk h
 have d:=fun(k:Nat) {x:PS} (hc:x.next<toks.length)=>Ah (n:=toks.length) H.end_ k hc
 intro f;induction f with
 |zero=>exact⟨fun x m e M=>by omega,fun x e M=>by omega⟩
 |succ f t=>
  refine⟨fun x m e M h=>?_,fun x e M h=>?_⟩
  .rw[AO]at h⊢;split at h
   .rename_i y;rw[jR y];obtain⟨F,a0⟩:∃F,f=F+1:=⟨f-1,by omega⟩;have hm:x.next+1<=(Bw toks toks.length f x).2.next:=by subst a0;exact IV H.end_ F e y
    have hg:=GC H.end_ f x e;obtain⟨C,l,V,E⟩:=t.1 _ _ hg.2 (by omega) h;obtain⟨b1,b2⟩:=t.2 x e (by omega) C;exact⟨b1,(Bw toks toks.length f x).1::l,by rw[V];simp,.cons b2.up (E.mono (fun _ _ _ q=>q.up))⟩
   .rename_i y;rw[jQ y];exact⟨h,[],by simp,.nil (gS _)⟩
  .have a:=(GC H.end_ (f+1) x e).2;rw[Bw]at h a⊢;split at h
   .rename_i z;rw[jR z]at a⊢;simp only at h a⊢;have m1:=Cf (n:=toks.length) z (by decide);have L:=d 7 e;have p:=d 20 L.2;have i:=d 12 p.2;have X:=BM H.end_ f _ [] i.2;have g5:=d 13 X.2;have i1:=t.1 (Af toks toks.length 12 (Af toks toks.length 20 (Af toks toks.length 7 x))) [] i.2 (by have:=p.1;have:=i.1;omega);have U:(Af toks toks.length 13 (AO toks toks.length f (Af toks toks.length 12 (Af toks toks.length 20 (Af toks toks.length 7 x))) []).2).cR=false->x.cR=false/\x.next+2=(Af toks toks.length 20 (Af toks toks.length 7 x)).next/\(AH toks 12 (Af toks toks.length 20 (Af toks toks.length 7 x)))=Aj toks (Af toks toks.length 20 (Af toks toks.length 7 x)).next/\Dv (Cm toks f) ((Af toks toks.length 20 (Af toks toks.length 7 x)).next+1) (AO toks toks.length f (Af toks toks.length 12 (Af toks toks.length 20 (Af toks toks.length 7 x))) []).2.next (AO toks toks.length f (Af toks toks.length 12 (Af toks toks.length 20 (Af toks toks.length 7 x))) []).1/\(AO toks toks.length f (Af toks toks.length 12 (Af toks toks.length 20 (Af toks toks.length 7 x))) []).2.next+1=(Af toks toks.length 13 (AO toks toks.length f (Af toks toks.length 12 (Af toks toks.length 20 (Af toks toks.length 7 x))) []).2).next:=by intro h;have Q:=b 13 (by decide) h;obtain⟨v,l,g,c⟩:=i1 Q.1;have j:=b 12 (by decide) v;have P:=b 20 (by decide) j.1;have w:=b 7 (by decide) P.1;simp only[jO]at g;rw[g];rw[j.2.1]at c;exact⟨w.1,by omega,j.2.2.1,c,by omega⟩
    have a8:x.next+1<=(Af toks toks.length 13 (AO toks toks.length f (Af toks toks.length 12 (Af toks toks.length 20 (Af toks toks.length 7 x))) []).2).next:=by have:=p.1;have:=i.1;have:=X.1;have:=g5.1;omega
    generalize Af toks toks.length 20 (Af toks toks.length 7 x)=S at*;generalize AO toks toks.length f (Af toks toks.length 12 S) []=r at*;split at h
    .rename_i N;rw[jR N]at a⊢;simp only at h a⊢;have u1:=d 8 g5.2;have u2:=d 12 u1.2;have i2:=t.1 (Af toks toks.length 12 (Af toks toks.length 8 (Af toks toks.length 13 r.2))) [] u2.2 (by have:=u1.1;have:=u2.1;omega);have w5:=b 13 (by decide) h;obtain⟨v,a7,g,c⟩:=i2 w5.1;have R:=b 12 (by decide) v;have w2:=b 8 (by decide) R.1;obtain⟨I,f2,K,s,f5⟩:=U w2.1;simp only[jO]at g;rw[R.2.1]at c;have l1:=s.le (fun _ _ _ q=>q.lt);have l2:=c.le (fun _ _ _ q=>q.lt);refine⟨I,by omega,a,.inr (.inr ⟨S.next,r.1,r.2.next,(Af toks toks.length 8 (Af toks toks.length 13 r.2)).next,a7,_,?_,rfl,by omega,s,by omega,c,by omega⟩)⟩;rw[K,R.2.2.1,g]
    .rename_i N;rw[jQ N]at a⊢;simp only at h a⊢;obtain⟨I,f2,K,s,f5⟩:=U h;have l1:=s.le (fun _ _ _ q=>q.lt);refine⟨I,by omega,a,.inr (.inl ⟨S.next,r.1,r.2.next,?_,.inl rfl,by omega,s,by omega⟩)⟩;rw[K]
   .rename_i z;rw[jQ z]at a⊢;split at h
    .rename_i B;rw[jR B]at a⊢;simp only at h a⊢;have m1:=Cf (n:=toks.length) B (by decide);have L:=d 9 e;have p:=d 20 L.2;have i:=d 12 p.2;have Q:=b 13 (by decide) h;obtain⟨v,l,g,c⟩:=t.1 _ [] i.2 (by have:=p.1;have:=i.1;omega) Q.1;have j:=b 12 (by decide) v;have P:=b 20 (by decide) j.1;have w:=b 9 (by decide) P.1;have l2:=c.le (fun _ _ _ q=>q.lt);simp only[jO]at g;rw[j.2.1]at c;refine⟨w.1,by omega,a,.inr (.inl ⟨(Af toks toks.length 20 (Af toks toks.length 9 x)).next,l,_,?_,.inr rfl,by omega,c,by omega⟩)⟩;rw[j.2.2.1,g]
    .rename_i B;rw[jQ B]at a⊢;simp only at h a⊢;have w:=b 14 (by decide) h;obtain⟨C,V,E,a4,ps,a5,a6⟩:=RT H o u w.1 (by omega);exact⟨C,by omega,a,.inl ⟨rfl,E,a4,Qp _ _ _,ps,a5,a6.right (by omega)⟩⟩
end
theorem Dv.each{c}{R:Nat->Nat->c->Prop}{i j l}(h:Dv R i j l):∀a,a∈l->∃p q,R p q a:=by
 induction h with
 |nil _=>intro a b;cases b
 |cons h _ d=>
  intro a b;rcases jJ.1 b with rfl|b
  .exact⟨_,_,h⟩
  .exact d a b
theorem Jh{b}{R:Nat->Nat->b->Prop}{f:b->Nat}(k:∀i j a,R i j a->f a+i<=j){i j l}(h:Dv R i j l):(l.map f).sum+i<=j:=by
 induction h with
 |nil h=>simpa using h
 |cons h _ c=>have:=k _ _ _ h;simp only[iU,jC];omega
theorem Cm.fU{n:List PT}:∀{d i j:Nat} {t:TS},Cm n d i j t->Cz d t+i<=j
 |0,_,_,_,h=>h.elim
 |d+1,i,j,.mk s p,h=>by
  obtain⟨u,v,o⟩:=h;have C:∀a b l,Dv (Cm n d) a b l->(l.map (Cz d)).sum+a<=b:=fun a b l r=>Jh (fun _ _ _ q=>q.fU) r
  rw[Cz];rcases o with⟨rfl,_⟩|⟨k,l,m,rfl,_,c,e,f⟩|⟨k,l,m,w,y,x,rfl,_,c,e,f,g,h⟩
  .simp;omega
  .have:=C _ _ _ e;simp only[iU,List.map_nil,jC,List.sum_nil];omega
  .have:=C _ _ _ e;have:=C _ _ _ g;simp only[iU,List.map_nil,jC,List.sum_nil];omega
theorem Cm.tok{u:List PT}(x:u.length<=4001):∀{d i j:Nat} {t:TS},Cm u d i j t->OZ d t
 |0,_,_,_,h=>h.elim
 |d+1,i,j,.mk s B,h=>by
  obtain⟨E,F,v⟩:=h;have V:∀k,Z6 (EK k):=fun k=>⟨iF _,iF _,iF _,by simp[EK],iF _⟩
  have C:∀a b l,b<j->Dv (Cm u d) (a+1) b l->l.length<=4000/\∀t,t∈l->OZ d t:=fun a b l H r=> ⟨by have:=r.le (fun _ _ _ q=>q.lt);omega,fun t y=>by obtain⟨p,q,w⟩:=r.each t y;exact w.tok x⟩
  rcases v with⟨rfl,I,z,_⟩|⟨k,l,m,rfl,n,c,e,f⟩|⟨k,l,m,K,M,L,rfl,n,c,e,f,g,h⟩
  .exact⟨z,by omega,by simp,by simp⟩
  .refine⟨by rcases n with rfl|rfl<;>exact V _,by rcases n with rfl|rfl<;>decide,by simp,fun q o=>?_⟩;rw[iL.1 o];exact C _ _ _ (by omega) e
  .have:=g.le (fun _ _ _ q=>q.lt);refine⟨by subst n;exact V _,by subst n;decide,by simp,fun q o=>?_⟩;simp only[jJ,iR,or_false]at o;rcases o with rfl|rfl
   .exact C _ _ _ (by omega) e
   .exact C _ _ _ (by omega) g
theorem Cm.fT{l:List PT}:∀{e i j:Nat} {t:TS} {d:Nat} {U:Nat->Prop} {w:World} {c:List Value},Cm l e i j t->Ce d U w t c->Ce e U w t c
 |0,_,_,_,_,_,_,_,h,_=>h.elim
 |e+1,i,j,.mk s a,0,U,w,c,_,h=>h.elim
 |e+1,i,j,.mk s a,d+1,U,w,c,Q,h=>by
  obtain⟨n,u,o,H,I,K,L,M,N,P⟩:=h;refine⟨n,u,o,H,I,K,L,M,N,fun k b S=>?_⟩;obtain⟨sv,v,x,y,z,B,C⟩:=P k b S;refine⟨sv,v,x,y,z,B,fun m E F=>?_⟩;have g:a[k].2[m]∈a[k].2:=iA _;obtain⟨p,q,R⟩:∃p q,Cm l e p q a[k].2[m]:=by
   obtain⟨_,_,x3⟩:=Q;rcases x3 with⟨rfl,_⟩|⟨V,ts,X,rfl,_,_,r,_⟩|⟨V,ts,X,k2,a0,m2,rfl,_,_,r,_,r2,_⟩
   .simp at b
   .have f:k=0:=by simp at b;omega
    subst f;exact r.each _ g
   .have f:k=0\/k=1:=by simp at b;omega
    rcases f with rfl|rfl
    .exact r.each _ g
    .exact r2.each _ g
  exact R.fT (C m E F)
theorem Cm.flat{H:List PT}{F:Nat}:∀{e i j:Nat} {t:TS} {d:Nat} {o:List FS} {k:Nat},Cm H e i j t->Dw F d o k t->Dw F e o k t
 |0,_,_,_,_,_,_,h,_=>h.elim
 |e+1,i,j,.mk s K,0,o,k,_,h=>h.elim
 |e+1,i,j,.mk s K,d+1,o,k,Q,h=>by
  obtain⟨u,P,h⟩:=h;refine⟨u,P,?_⟩;have E:∀p c,(p,c)∈K->∀t,t∈c->∃a b,Cm H e a b t:=by
   intro p c g t n;obtain⟨_,_,x3⟩:=Q;rcases x3 with⟨rfl,_⟩|⟨U,a0,V,rfl,_,_,r,_⟩|⟨U,a0,V,k2,I,m2,rfl,_,_,r,_,X,_⟩
   .cases g
   .simp only[jJ,iR,or_false,jF]at g;rw[g.2]at n;exact r.each t n
   .simp only[jJ,iR,or_false,jF]at g;rcases g with g|g
    .rw[g.2]at n;exact r.each t n
    .rw[g.2]at n;exact X.each t n
  have M:∀(l:List Nat) (m:List TS),(∀t,t∈m->∃a b,Cm H e a b t)->CQ (fun j t=>k<j/\Dw F d o j t) l m->CQ (fun j t=>k<j/\Dw F e o j t) l m:=by
   intro l m L q;induction q with
   |nil=>exact .nil
   |cons h _ S=> obtain⟨a,b,R⟩:=L _ (jP ..);exact .cons ⟨h.1,R.flat h.2⟩ (S (fun t n=>L t (iK _ n)))
  rcases h with h|⟨p,c,f,v,w,x,y,z,B,C⟩|⟨p,c,f,v,w,x,y,z,B,C⟩|⟨p,c,N,I,f,v,w,x,y,z,B,C⟩
  .exact .inl h
  .exact .inr (.inl ⟨p,c,f,v,w,x,y,z,B,M _ _ (E p c (by rw[f];simp)) C⟩)
  .exact .inr (.inr (.inl ⟨p,c,f,v,w,x,y,z,B,M _ _ (E p c (by rw[f];simp)) C⟩))
  .exact .inr (.inr (.inr ⟨p,c,N,I,f,v,w,x,y,z,M _ _ (E p c (by rw[f];simp)) B,M _ _ (E N I (by rw[f];simp)) C⟩))
structure Lk(F:DataW Unit)(fns:List TF)(fns0:List RF):Prop where
 nm:∀s,has F (Bq s)=true↔0<=BC (fns0.map fun f=>f.name.d9) s 0
 ar:∀s,0<=BC (fns0.map fun f=>f.name.d9) s 0->JD fns (Cq F s)=((fns0.map fun f=>f.cQ.length)[(BC (fns0.map fun f=>f.name.d9) s 0).toNat]?).getD 0
def Eb(lo:Nat)(D:DataW Unit)(c:CS)(vs:List ByteArray)(a:CS):Prop:=
 c=a/\((c.cS=0/\Tidy D/\(∀s,has D (Bq s)=true↔s∈vs)/\size D=vs.length)\/(c.cS≠0/\c.l7<lo))
theorem Eb.mono{d e a c f b}(h:Eb d a c f b)(g:d<=e):Eb e a c f b:=
 ⟨h.1,h.2.imp id (fun q=>⟨q.1,by omega⟩)⟩
theorem Eb.eI{lo p e D c vs f}(h:Eb lo D c vs f)(l:lo<=p)(i:e≠0)(g j):Eb (p+1) g (Ca e p c) j (Bi e p f):=by
 obtain⟨rfl,h⟩:=h;rcases h with⟨d,_⟩|⟨d,k⟩
 .have a:Ca e p c=⟨e,p⟩:=by simp[Ca,d]
  have b:Bi e p c=⟨e,p⟩:=by simp[Bi,d]
  rw[a,b];exact⟨rfl,.inr ⟨i,by simp⟩⟩
 .have a:Ca e p c=c:=by simp[Ca,d]
  have b:Bi e p c=c:=by unfold Bi;rw[jQ (by omega)]
  rw[a,b];exact⟨rfl,.inr ⟨d,by omega⟩⟩
theorem Eb.cL{d p f c i a}(h:Eb d f c i a)(k:d<=p)(b:c.cS≠0)(e):Ca e p c=c/\Bi e p a=c:=by
 obtain⟨rfl,h⟩:=h;rcases h with⟨g,_⟩|⟨_,j⟩
 .exact jY g b
 .exact⟨by simp[Ca,b],by unfold Bi;rw[jQ (by omega)]⟩
theorem Eb.name{m a c d g}(h:Eb m a c d g)(t)(l:m<=t.l7):Eb (t.l7+1) a (CE a t c) d (DS d (Ao t) g):=by
 by_cases i:c.cS=0
 .rcases h.2 with⟨_,_,k,_⟩|⟨q,_⟩
  .have j:=(C0 d t.d9 0).1;unfold CE DS;have e:(Ao t).d9=t.d9:=rfl;rw[e];by_cases f:has a (Bq t.d9)=true
   .rw[jR f,jR (j.2 ((k _).1 f))];exact h.mono (by omega)
   .rw[jQ f,jQ (fun q=>f ((k _).2 (j.1 q)))];exact h.eI l (by decide) _ _
  .exact jY i q
 .have b:=h.cL l i 6;have n:CE a t c=c:=by unfold CE;split;rfl;exact b.1
  have o:DS d (Ao t) g=c:=by unfold DS;split;exact h.1.symm;exact b.2
  rw[n,o];rcases h.2 with⟨q,_⟩|q
  .exact jY q i
  .exact⟨rfl,.inr ⟨q.1,by omega⟩⟩
theorem Eb.decl{k d c b l}(h:Eb k d c b l)(t)(o:k<=t.l7):Eb (t.l7+1) (Iq d t) (Fg d t c) (b++[t.d9]) (Dt b (Ao t) l):=by
 by_cases a:c.cS=0
 .obtain⟨rfl,m⟩:=h;rcases m with⟨_,j,i,p⟩|⟨q,_⟩
  .have v:=(C0 b t.d9 0).1;unfold Fg Dt;simp only;rw[p];have e:(Ao t).d9=t.d9:=rfl;have B:(Ao t).pos=t.l7:=rfl;rw[e,B];by_cases g:12<=b.length
   .have w:Ca 4 t.l7 c=⟨4,t.l7⟩:=by simp[Ca,a]
    have x:Bi 4 t.l7 c=⟨4,t.l7⟩:=by simp[Bi,a]
    rw[jR g,jR g,w,x];have y:Ca 5 t.l7 ⟨4,t.l7⟩=⟨4,t.l7⟩:=by simp[Ca]
    have z:Bi 5 t.l7 ⟨4,t.l7⟩=⟨4,t.l7⟩:=by simp[Bi]
    rw[y,z];refine⟨?_,.inr ?_⟩
    .simp
    .simp
   .rw[jQ g,jQ g];by_cases f:has d (Bq t.d9)=true
    .rw[jR f,jR (v.2 ((i _).1 f))];exact Eb.eI (lo:=k) (D:=d) (vs:=b) ⟨rfl,.inl ⟨a,j,i,p⟩⟩ o (by decide) _ _
    .rw[jQ f,jQ (fun q=>f ((i _).2 (v.1 q)))];refine⟨rfl,.inl ⟨a,j.put (Gm _) _,fun s=>?_,?_⟩⟩
     .unfold Iq;by_cases n:Bq s=Bq t.d9
      .have:=Ju n;subst this;rw[has_put_same j.isMap (Gm _)];simp
      .rw[has_put_other n,i s];have:s≠t.d9:=fun q=>n (by rw[q])
       simp[this]
     .unfold Iq;rw[size_put j,jQ f,p];simp
  .exact jY a q
 .have r:=h.cL o a 4;have u:=h.cL o a 5;have C:Fg d t c=c:=by unfold Fg;simp only;split<;>split<;>simp[r.1,u.1]
  have m:Dt b (Ao t) l=c:=by have e:=h.1;subst e;unfold Dt;simp only[show(Ao t).pos=t.l7 from rfl];split<;>split<;>simp[r.2,u.2]
  rw[C,m];rcases h.2 with⟨q,_⟩|q
  .exact jY q a
  .exact⟨rfl,.inr ⟨q.1,by omega⟩⟩
theorem Eb.fun{F:DataW Unit}{j:List TF}{e:List RF}(L:Lk F j e){g:Nat}{b:DataW Unit}{c:CS}{i:List ByteArray}{d:CS}(h:Eb g b c i d)(t:PT)(k:g<=t.l7):Eb (t.l7+1) b (CE F t c) i (Ev e (Ao t) (-1) d):=by
 have f:=L.nm t.d9;unfold CE Ev;rw[show(Ao t).d9=t.d9 from rfl,show(Ao t).pos=t.l7 from rfl];by_cases a:has F (Bq t.d9)=true
 .rw[jR a,jR (f.1 a),jQ (by omega)];exact h.mono (by omega)
 .rw[jQ a,jQ (fun q=>a (f.2 q))];exact h.eI k (by decide) _ _
theorem Eb.called{F:DataW Unit}{j:List TF}{d:List RF}(L:Lk F j d){m:Nat}{g:DataW Unit}{c:CS}{n:List ByteArray}{i:CS}(h:Eb m g c n i)(t:PT)(a:Nat)(l:m<=t.l7):Eb (t.l7+1) g (EA F j t a c) n (Ev d (Ao t) a i):=by
 have e:=L.nm t.d9;unfold EA Ev;rw[show(Ao t).d9=t.d9 from rfl,show(Ao t).pos=t.l7 from rfl];by_cases b:has F (Bq t.d9)=true
 .rw[jR b,jR (e.1 b),L.ar _ (e.1 b)];by_cases k:((d.map fun f=>f.cQ.length)[(BC (d.map fun f=>f.name.d9) t.d9 0).toNat]?).getD 0=a
  .rw[jR k,jQ (by omega)];exact h.mono (by omega)
  .rw[jQ k,jR ⟨by omega,by omega⟩];exact h.eI l (by decide) _ _
 .rw[jQ b,jQ (fun q=>b (e.2 q))];exact h.eI l (by decide) _ _
section
variable{N:Nat}{f:List PT}(H:TksOk N f)
include H
theorem Qo{p q:Nat}(h:p<q)(a:q<f.length):(Aj f p).l7<(Aj f q).l7:=by have:=List.pairwise_iff_getElem.1 H.eP p q (by omega) a h;unfold Aj;rw[gV (by omega),gV a];exact this
theorem DE{p q:Nat}(h:p<=q)(a:q<f.length):(Aj f p).l7<=(Aj f q).l7:=by
 rcases jG p q with l|l
 .exact Nat.le_of_lt (Qo H l a)
 .have:p=q:=by omega
  rw[this];exact gS _
theorem Eb.to{i p j:Nat}{a b:DataW Unit}{c d:CS}{m o:List ByteArray}{e k:CS}(h:Eb (Aj f i).l7 a c m e)(s:∀l,Eb l a c m e->l<=(Aj f p).l7->Eb ((Aj f p).l7+1) b d o k)(q:i<=p)(t:p+1<=j)(r:j<f.length):Eb (Aj f j).l7 b d o k:=
 (s _ h (DE H q (by omega))).mono (Qo H (by omega) r)
theorem Eb.args{e:DataW Unit}{l:List ByteArray}:∀(b:List Nat) {i j:Nat} {c d:CS},Eb (Aj f i).l7 e c l d->MS i j b->j<f.length->Eb (Aj f j).l7 e (F8 e (b.map (Aj f)) c) l (((b.map (Aj f)).map Ao).foldl (fun c t=>DS l t c) d)
 |[],i,j,c,d,h,a,k=>h.mono (DE H a k)
 |p::b,i,j,c,d,h,a,k=>by have r:=a.2.le;have m:=h.to H (p:=p) (j:=p+1) (fun s q o=>q.name (Aj f p) o) a.1 (gS _) (by omega);exact Eb.args b m a.2 k
variable{F:DataW Unit}{n:List TF}{g:List RF}(L:Lk F n g)
include L
theorem Eb.plain{s:VS}{K:List Nat}{i j:Nat}(hk:s.kind<=10)(a0:s.kind≠7->s.kind≠8->s.args=[])(o:Zh s=K.map (Aj f))(d:MS i j K)(M:j<f.length){P:DataW Unit}{c:CS}{vs:List ByteArray}{U:CS}(h:Eb (Aj f i).l7 P c vs U):
 Eb (Aj f j).l7 (Fp F n s (P,c)).1 (Fp F n s (P,c)).2 (Dp g s (vs,U)).1 (Dp g s (vs,U)).2:=by
 obtain⟨m,v,y,a6,S⟩:=s;simp only at hk a0 o⊢;have a4:∀t:PT,[t]=K.map (Aj f)->∃p,K=[p]/\t=Aj f p:=by
  intro t e;rcases K with _|⟨p,_|⟨q,r⟩⟩
  .simp at e
  .simp only[iU,List.map_nil,List.cons.injEq,and_true]at e;exact⟨p,rfl,e⟩
  .simp at e
 have a5:∀(t u:PT) (l:List PT),t::u::l=K.map (Aj f)->∃p q r,K=p::q::r/\t=Aj f p/\u=Aj f q/\l=r.map (Aj f):=by
  intro t u l e;rcases K with _|⟨p,_|⟨q,r⟩⟩
  .simp at e
  .simp at e
  .simp only[iU,List.cons.injEq]at e;exact⟨p,q,r,rfl,e.1,e.2.1,e.2.2⟩
 unfold Zh at o;simp only at o;have T2:∀(t u:PT),(m≠0/\m≠1/\m≠10/\m≠7/\m≠8)->∃p q,K=[p,q]/\v=Aj f p/\y=Aj f q:=by
  intro t u R;rw[jQ (by omega),jQ (by omega),jQ (by omega)]at o;obtain⟨p,q,r,C,E,I,Q⟩:=a5 v y [] o;have:r=[]:=by cases r with|nil=>rfl|cons a b=>simp at Q
  subst this;exact⟨p,q,C,E,I⟩
 have V:(m≠0/\m≠1/\m≠10/\m≠7/\m≠8/\m≠4)->Eb (Aj f j).l7 P (CE P y (CE P v c)) (Dp g ⟨m,v,y,a6,S⟩ (vs,U)).1 (Dp g ⟨m,v,y,a6,S⟩ (vs,U)).2:=by intro R;obtain⟨p,q,C,E,I⟩:=T2 v y ⟨R.1,R.2.1,R.2.2.1,R.2.2.2.1,R.2.2.2.2.1⟩;subst C;have hz:=a0 (by omega) (by omega);subst hz;have a1:=d.1;have a2:=d.2.1;have B:q+1<=j:=d.2.2;have x:=h.to H (p:=p) (j:=p+1) (fun w z k=>z.name (Aj f p) k) a1 (gS _) (by omega);have N:=x.to H (p:=q) (j:=j) (fun w z k=>z.name (Aj f q) k) a2 B M;unfold Dp MA;simp only;rw[jQ (by omega),jQ (by omega),jQ (by omega),jQ (by omega),jQ (by omega)];rw[E,I];exact N
 rcases m with _|_|_|_|_|_|_|_|_|_|_|m
 .obtain⟨p,rfl,e⟩:=a4 v (by simpa using o);have B:p+1<=j:=d.2;simp only[Fp,Dp,if_true];rw[e];exact h.to H (p:=p) (fun w z k=>z.decl (Aj f p) k) d.1 B M
 .obtain⟨p,rfl,e⟩:=a4 v (by simpa using o);have B:p+1<=j:=d.2;simp only[Fp,Dp,MA];rw[e];exact h.to H (p:=p) (fun w z k=>z.name (Aj f p) k) d.1 B M
 .exact V (by omega)
 .exact V (by omega)
 .obtain⟨p,q,C,E,I⟩:=T2 v y (by omega);subst C;have hz:=a0 (by omega) (by omega);subst hz;have B:q+1<=j:=d.2.2;have x:=h.to H (p:=p) (j:=p+1) (fun w z k=>z.name (Aj f p) k) d.1 (gS _) (by have:=d.2.1;omega);have N:=x.to H (p:=q) (j:=j) (fun w z k=>z.fun L (Aj f q) k) d.2.1 B M;simp only[Fp,Dp,MA];rw[E,I];exact N
 .exact V (by omega)
 .exact V (by omega)
 .rw[jQ (by omega),jQ (by omega),jR (by omega)]at o;obtain⟨p,q,r,C,E,I,Q⟩:=a5 v y S o;subst C;have hl:=d.2.2.le;have x:=h.to H (p:=p) (j:=p+1) (fun w z k=>z.name (Aj f p) k) d.1 (gS _) (by have:=d.2.1;omega);have N:=x.to H (p:=q) (j:=q+1) (fun w z k=>z.called L (Aj f q) S.length k) d.2.1 (gS _) (by omega);have X:=Eb.args H r N d.2.2 M;simp only[Fp,Dp,MA];rw[E,I,<-Q]at*;rw[<-Q]at X;exact X
 .rw[jQ (by omega),jQ (by omega),jR (by omega)]at o;obtain⟨p,q,r,C,E,I,Q⟩:=a5 v y S o;subst C;have hl:=d.2.2.le;have x:=h.to H (p:=p) (j:=p+1) (fun w z k=>z.name (Aj f p) k) d.1 (gS _) (by have:=d.2.1;omega);have N:=x.to H (p:=q) (j:=q+1) (fun w z k=>z.name (Aj f q) k) d.2.1 (gS _) (by omega);have X:=Eb.args H r N d.2.2 M;rw[<-Q,<-E,<-I]at X;exact X
 .exact V (by omega)
 .obtain⟨p,rfl,e⟩:=a4 y (by simpa using o);have B:p+1<=j:=d.2;have x:=h.to H (p:=p) (fun w z k=>z.name (Aj f p) k) d.1 B M;rw[<-e]at x;exact x
 .omega
theorem Eb.stmt:∀{d i j:Nat} {t:TS},Cm f d i j t->∀(c:Nat) (x:DataW Unit×CS) (y:List ByteArray×CS),Eb (Aj f i).l7 x.1 x.2 y.1 y.2->Eb (Aj f j).l7 (LH F n d c t x).1 (LH F n d c t x).2 (FM g d c t y).1 (FM g d c t y).2
 |0,_,_,_,h=>h.elim
 |d+1,i,j,.mk s bl,V=>by
  intro c x y h;obtain⟨h1,E,R⟩:=V;have C:∀(a b:Nat) (l:List TS),b<f.length->Dv (Cm f d) a b l->∀(x:DataW Unit×CS) (y:List ByteArray×CS),Eb (Aj f a).l7 x.1 x.2 y.1 y.2->Eb (Aj f b).l7 (l.foldl (fun x t=>LH F n d (c+1) t x) x).1 (l.foldl (fun x t=>LH F n d (c+1) t x) x).2 (l.foldl (fun x t=>FM g d (c+1) t x) y).1 (l.foldl (fun x t=>FM g d (c+1) t x) y).2:=by
   intro a b l K r;induction r with
   |nil h=>intro x y e;exact e.mono (DE H h K)
   |cons h _ ih=>intro x y e;exact ih K _ _ (Eb.stmt h (c+1) x y e)
  have v:∀(k:Nat) (x:DataW Unit×CS) (y:List ByteArray×CS) (i:Nat),i<=k->k+1<f.length->Eb (Aj f i).l7 x.1 x.2 y.1 y.2->Eb (Aj f (k+1)).l7 x.1 (if 6<c+1 then Ca 4 (Aj f k).l7 x.2 else x.2) y.1 (if 6<c+1 then Bi 4 (Aj f k).l7 y.2 else y.2):=by
   intro k x y i X u e;split
   .exact e.to H (p:=k) (fun lo z I=>z.eI I (by decide) _ _) X (gS _) u
   .exact e.mono (DE H (by omega) u)
  rcases R with⟨rfl,u,_,S,ps,I,U⟩|⟨k,l,m,rfl,e,a0,r,hm⟩|⟨k,l,m,M,a1,m2,rfl,e,a0,r,hm,N,a3⟩
  .rw[LH,FM,jQ (by omega),jQ (by omega)];exact Eb.plain H L u S I U E h
  .have hl:=r.le (fun _ _ _ q=>q.lt);have o:s.kind=11\/s.kind=12:=by rcases e with rfl|rfl<;>simp[EK]
   rw[LH,FM,jR o,jR o];simp only[jB,jM];have w:=v k x y i (by omega) (by omega) h;have B:=C (k+1) m l (by omega) r (x.1,if 6<c+1 then Ca 4 (Aj f k).l7 x.2 else x.2) (y.1,if 6<c+1 then Bi 4 (Aj f k).l7 y.2 else y.2) w;exact B.mono (DE H (by omega) E)
  .have hl:=r.le (fun _ _ _ q=>q.lt);have a2:=N.le (fun _ _ _ q=>q.lt);have o:s.kind=11\/s.kind=12:=by rw[e];simp[EK]
   rw[LH,FM,jR o,jR o];simp only[jB,jM];have w:=v k x y i (by omega) (by omega) h;have B:=C (k+1) m l (by omega) r (x.1,if 6<c+1 then Ca 4 (Aj f k).l7 x.2 else x.2) (y.1,if 6<c+1 then Bi 4 (Aj f k).l7 y.2 else y.2) w;have P:=v M _ _ m (by omega) (by omega) B;have Q:=C (M+1) m2 a1 (by omega) N (_,_) (_,_) P;exact Q.mono (DE H (by omega) E)
end
def UL(n:Nat)(b:List FS):Prop:=∀u,u∈b->u.args.length<=n/\u.cT.length<=n/\u.other.length<=n
theorem UL.snoc{n b u}(h:UL n b)(d:u.args.length<=n/\u.cT.length<=n/\u.other.length<=n):UL n (b++[u]):=by
 intro v e;rcases iW.1 e with q|q
 .exact h v q
 .rw[iL.1 q];exact d
theorem UL.set{n b u}(h:UL n b)(i)(d:u.args.length<=n/\u.cT.length<=n/\u.other.length<=n):UL n (b.set i u):=by
 intro v e;rcases List.mem_or_eq_of_mem_set e with q|q
 .exact h v q
 .rw[q];exact d
theorem Qb(a:List Tk):∀(f d:Nat) (e:Option Nat) (b:List Tk),(DN a f d e b).1.length<=b.length+f
 |0,d,e,b=>by unfold DN;simp
 |f+1,d,e,b=>by
  unfold DN;split
  .have:=Qb a f (d+1) e (b++[tokAt a d]);simp only[gW,iM]at this;omega
  .simp
theorem Ns(a x):(Cb a x).1.length<=a.length:=by have:=Qb a a.length x.cJ x.cL [];unfold Cb CU;simpa using this
theorem XG(a x s)(h:s.args.length<=a.length):(Dd a x s).1.args.length<=a.length:=by
 unfold Dd;split
 .exact h
 .split
  .simp only;split<;>exact h
  .split
   .exact h
   .split
    .exact h
    .split
     .exact Ns _ _
     .simp only;split
      .exact Ns _ _
      .exact h
theorem RQ(a d x):(Bc a d x).1.args.length<=a.length/\(Bc a d x).1.cT.length<=a.length/\(Bc a d x).1.other.length<=a.length:=by
 unfold Bc;split
 .simp[CC]
 .split
  .simp[CC]
  .split
   .simp[CC]
   .simp only;have b:=NU a (Aw a [61] (Bo a 1 x).2) {CC d (-1)with p:=(Bo a 1 x).1};refine⟨XG _ _ _ (by simp[CC]),by rw[b.1];simp[CC],by rw[b.2];simp[CC]⟩
theorem VN{a n}(X:a.length=n)(p:(tokAt a (n-1)).sort=0):∀f:Nat,
 (∀(i:Nat) (x:St) (d:List FS) (j:List Nat),IA n x d.length->UL n d->UL n (AA a f i x d j).2.2/\(AA a f i x d j).1.length<=j.length+((AA a f i x d j).2.1.cJ-x.cJ)+1)/\
 (∀(i:Nat) (x:St) (d:List FS),IA n x d.length->x.cL=Z->UL n d->UL n (AK a f i x d).2.2):=by
 have E:=A9 a;have C:∀(L:List UInt8) (x:St),x.cJ<n->(Aw a L x).cJ<n:=fun L x h=>Ci rfl p h
 have z:(CC 0 0).args.length<=n/\(CC 0 0).cT.length<=n/\(CC 0 0).other.length<=n:=by simp[CC]
 intro f;induction f with
 |zero=>
  refine⟨fun i x d j _ h=>?_,fun i x d _ _ h=>?_⟩
  .rw[AA];exact⟨h,by simp only;omega⟩
  .rw[AK];exact h
 |succ f t=>
  refine⟨fun i x d j o h=>?_,fun i x d o s h=>?_⟩
  .rw[AA];split
   .exact⟨h,by simp only;omega⟩
   .rename_i V;have s:x.cL=Z:=by
     cases hx:x.cL with
     |none=>rfl
     |some b=>exact jY (.inl (by simp[hx])) V
    have u1:=t.2 i x d o s h;obtain⟨k,B,a3,P⟩:=(DX p f).2 i x d o s;obtain⟨F,H,b3⟩:=(DX p f).1 i _ _ (j++[(AK a f i x d).1]) k;obtain⟨Q,v⟩:=t.1 i (AK a f i x d).2.1 (AK a f i x d).2.2 (j++[(AK a f i x d).1]) k u1;refine⟨Q,?_⟩;simp only[gW,iM]at v;by_cases I:f=0
    .subst I;rw[AA];simp only[gW,iM];omega
    .cases m:(AK a f i x d).2.1.cL with
     |none=>have:=P I m;omega
     |some b=> rw[CJ _ _ _ _ _ m];simp only[gW,iM];omega
  .rw[AK];split
   .simp only;have N:=((E (AG (tokAt a x.cJ)) x).trans (E [63] _)).trans (E [123] (Aw a [63] (Aw a (AG (tokAt a x.cJ)) x)));have v:=C [63] _ (C (AG (tokAt a x.cJ)) x o.1);have R:=C [123] _ v;generalize Aw a [63] (Aw a (AG (tokAt a x.cJ)) x)=x2 at*;generalize Aw a [123] x2=u at*;have y:IA n u (d++[CC 0 0]).length:=by obtain⟨g1,g2,g3,S⟩:=N;obtain⟨h1,h2,h3,h4,U⟩:=o;have h6:=U s;refine⟨R,by omega,by omega,by simp;omega,fun e=>?_⟩;have:=S e;simp only[gW,gU,iJ];omega
    obtain⟨k,B⟩:=t.1 i u (d++[CC 0 0]) [] y (h.snoc z);obtain⟨w,p2,p3⟩:=(DX p f).1 i u (d++[CC 0 0]) [] y;generalize AA a f i u (d++[CC 0 0]) []=r at*;have m:r.1.length<=n:=by have:=w.1;simp only[iJ]at B;omega
    have K:=w.dJ (E [125] r.2.1) (C [125] _ w.1);split
    .split
     .have M:=K.dJ ((E Ef _).trans (E [123] _)) (C [123] _ (C Ef _ K.1));obtain⟨F,H⟩:=t.1 i (Aw a [123] (Aw a Ef (Aw a [125] r.2.1))) r.2.2 [] M k;obtain⟨q1,q2,q3⟩:=(DX p f).1 i (Aw a [123] (Aw a Ef (Aw a [125] r.2.1))) r.2.2 [] M;refine F.set _ ⟨by simp[CC],m,?_⟩;have:=q1.1;simp only[iJ]at H;simp only;omega
     .exact k.set _ ⟨by simp[CC],m,by simp[CC]⟩
    .exact k.set _ ⟨by simp[CC],m,by simp[CC]⟩
   .simp only;have q:=RQ a i x;rw[X]at q;exact(h.snoc z).set _ q
structure Ku(a:List PT)(d i j:Nat)(t:TF):Prop where
 w:∃kn ps kb m,i<=kn/\t.name=Aj a kn/\t.u9=ps.map (Aj a)/\MS (kn+1) kb ps/\t.l7=(Aj a kb).l7/\Dv (Cm a d) (kb+1) m t.cP/\m<j
 lt:i<j
 top:j<a.length
structure Zn(d:Nat)(fs:List FS)(i:Nat)(f:RF)(t:TF):Prop where
 name:f.name=Ao t.name
 cQ:f.cQ=t.u9.map Ao
 cT:CQ (Dw i d fs) f.cT t.cP
 t8:f.t8=[]
section
variable{N:Nat}{a:List PT}(H:TksOk N a)(c:DigOk a)(g:N<=4000)(l:a.length<=4001)
include H
include g l in
theorem S3{x:PS}(o:x.next<a.length)(h:(JU a a.length x).2.cR=false):x.cR=false/\Ku a (2*a.length+1) x.next (JU a a.length x).2.next (JU a a.length x).1:=by
 have b:=fun(k:Nat) (u:k≠0) {x:PS} (h:(Af a a.length k x).cR=false)=>Dg u h
 have d:=Gk H.end_ o;have i:=Ah (n:=a.length) H.end_ 3 o;have j:=i.trans (Ah H.end_ 1 i.2);have m:=j.trans (EH H.end_ j.2);have t:=m.trans (Ah H.end_ 12 m.2);unfold JU at h d⊢;simp only at h d⊢;have C:=b 13 (by decide) h;obtain⟨z,K,r,e⟩:=(TZ H g l (2*a.length+1)).1 _ [] t.2 (by omega) C.1;have f:=b 12 (by decide) z;obtain⟨v,y,w,p,I⟩:=IQ f.1;have s:=b 1 (by decide) v;have B:=b 3 (by decide) s.1;simp only[jO]at r;rw[f.2.1]at e;have E:=e.le (fun _ _ _ q=>q.lt);have F:=p.le;refine⟨B.1,⟨⟨(Af a a.length 3 x).next,y,(Bt a a.length (Af a a.length 1 (Af a a.length 3 x))).2.next,_,by omega,s.2.2.1,w,?_,by simp only;rw[f.2.2.1],by rw[r];exact e,by omega⟩,by omega,d.2⟩⟩;exact p.left (by omega)
include c
theorem Za{x:PS}{y:St}(k:Nat)(b:List FS)(o:Al a.length x y):Al a.length (JU a a.length x).2 (GL (a.map Ao) (2*a.length) k y b).2.1/\
 ((GL (a.map Ao) (2*a.length) k y b).2.1.cL=Z->Zn (2*a.length+1) (GL (a.map Ao) (2*a.length) k y b).2.2 k (GL (a.map Ao) (2*a.length) k y b).1 (JU a a.length x).1/\Kv b (GL (a.map Ao) (2*a.length) k y b).2.2):=by
 have E:=fun(k:Nat) (w:3<=k) (v:k<=20) {x:PS} {y:St} (h:Al a.length x y)=>IF H w v h
 have d:=E 3 (by decide) (by decide) o;obtain⟨f,m⟩:=Od H (k:=1) (so:=1) (by decide) d;have i:=E 10 (by decide) (by decide) f;obtain⟨j,n⟩:=Oe H i;simp only[Da,Nat.reduceEqDiff,if_true,if_false]at d f m i j n;have p:Al a.length (Bt a a.length (Af a a.length 1 (Af a a.length 3 x))).2 (Cb (a.map Ao) (Aw (a.map Ao) [40] (Bo (a.map Ao) 1 (Aw (a.map Ao) [102,110] y)).2)).2:=j;obtain⟨q,s⟩:=Jd H (Ye H c (2*a.length+1)).1 (f2:=2*a.length) k b p (fun _=>by omega);unfold JU GL;simp only;refine⟨q,fun e=>?_⟩;obtain⟨t,u,z,B⟩:=s e;exact⟨⟨m,n,t.mono (fun _ _ r=>r.2),rfl⟩,u⟩
end
section
variable{N:Nat}{toks:List PT}(H:TksOk N toks)(a:DigOk toks)(b:N<=4000)(c:toks.length<=4001)
include H a
structure Nc(fs:List FS)(rf:List RF)(tf:List TF):Prop where
 len:rf.length=tf.length
 each:∀i (h:i<rf.length) (h':i<tf.length),Zn (2*toks.length+1) fs i rf[i] tf[i]
omit H a in
theorem Nc.snoc{k g:List FS}{d:List RF}{m:List TF}{f:RF}{t:TF}(h:Nc (toks:=toks) k d m)(o:Kv k g)(r:Zn (2*toks.length+1) g d.length f t):Nc (toks:=toks) g (d++[f]) (m++[t]):=by
 have j:=h.len;refine⟨by simp[j],fun i n p=>?_⟩;by_cases l:i<d.length
 .rw[iQ l,iQ (by omega)];have q:=h.each i l (by omega);exact⟨q.name,q.cQ,q.cT.mono (fun _ _ z=>z.pre o),q.t8⟩
 .have e:i=d.length:=by simp at n;omega
  subst e;rw[iO (gS _),iO (by omega)];simp only[Nat.sub_self,j,iN];rw[<-j];exact r
theorem Zr:∀(l i:Nat) (x:PS) (y:St) (g:List FS) (o:List TF) (f:List RF),Al toks.length x y->f≠[]->(x.cR=false->toks.length-x.next<=l/\toks.length-x.next<=i)->(y.cL=Z->Nc (toks:=toks) g f o)->
 Al toks.length (Af toks toks.length 0 (El toks toks.length l x o).2) (Cn (toks.map Ao) (2*toks.length) i y g f).2.1/\((Cn (toks.map Ao) (2*toks.length) i y g f).2.1.cL=Z->Nc (toks:=toks) (Cn (toks.map Ao) (2*toks.length) i y g f).2.2 (Cn (toks.map Ao) (2*toks.length) i y g f).1 (El toks toks.length l x o).1):=by
 have B:∀(m:Nat) (y:St) (g:List FS) (f:List RF) (p:Nat),y.cL=T p->Cn (toks.map Ao) (2*toks.length) m y g f=(f,y,g):=by
  intro m y g f p h;cases m with
  |zero=>rw[Cn]
  |succ m=>rw[Cn,jQ (by rw[h];simp)]
 intro l;induction l with
 |zero=>
  intro i x y g o f d E v hrel;rcases d with d|⟨p,j,h⟩
  .have:=v d.1;have:=d.2.2.2;omega
  .rw[B _ _ _ _ _ h,El];refine⟨.inr ⟨p,?_,h⟩,fun e=>by rw[h]at e;cases e⟩;unfold Af;rw[jR (by rw[j.2.2];exact H.end_),jR rfl];exact j
 |succ l Q=>
  intro i x y g o f d E v hrel;rcases d with d|⟨p,j,h⟩
  .obtain⟨U,V⟩:=v d.1;have P:=d.2.2.2;obtain⟨t,N⟩:∃t,i=t+1:=⟨i-1,by omega⟩;subst N;have w:(tokAt (toks.map Ao) y.cJ).sort=0↔(Aj toks x.next).kind=0:=by rw[d.2.2.1,Bs];exact Sm _
   by_cases s:(Aj toks x.next).kind=3
   .rw[El,jR s,Cn,jR ⟨d.2.1,.inr (by rw[Ne,w];omega)⟩];obtain⟨I,K⟩:=Za H a f.length g (.inl d);have X:=LU (n:=toks.length) H.end_ P s;refine Q t _ _ _ _ _ I (by simp) (fun _=>by omega) (fun e=>?_);obtain⟨R,S⟩:=K e;exact(hrel d.2.1).snoc S R
   .rw[El,jQ s];by_cases r:(Aj toks x.next).kind=0
    .rw[Cn,jQ (fun q=>q.2.elim E (fun z=>z (w.2 r)))];refine⟨?_,hrel⟩;unfold Af;rw[jR r,jR rfl];exact .inl d
    .rw[Cn,jR ⟨d.2.1,.inr (fun z=>r (w.1 z))⟩];have u:(GL (toks.map Ao) (2*toks.length) f.length y g).2.1.cL=T (Aj toks x.next).l7:=by
      have F:=Ho H (k:=3) (by decide) (by decide) (.inl d:Al toks.length x y);simp only[Da,Nat.reduceEqDiff,if_true,if_false]at F;have L:(Aw (toks.map Ao) [102,110] y).cL=T (Aj toks x.next).l7:=by unfold Aw Fi;rw[jQ (fun z=>s (F.1 z)),d.2.2.1,Bs,d.2.1];rfl
      unfold GL;simp only;refine DF _ _ ?_;have M:=Ia (toks.map Ao) (DF (toks.map Ao) [40] (JG (toks.map Ao) 1 L));have C:=DF (toks.map Ao) [123] M;rw[CJ _ _ _ _ _ C];exact C
     rw[B _ _ _ _ _ u];refine⟨.inr ⟨_,?_,u⟩,fun e=>by simp only at e;rw[u]at e;cases e⟩;unfold Af;rw[jQ r];exact⟨rfl,by simp[It,d.1],rfl⟩
  .rw[B _ _ _ _ _ h,El,jQ (by rw[j.2.2,H.end_];decide)];refine⟨.inr ⟨p,?_,h⟩,fun e=>by rw[h]at e;cases e⟩;unfold Af;rw[jR (by rw[j.2.2];exact H.end_),jR rfl];exact j
theorem Yf:Al toks.length (Cp toks toks.length ⟨0,false,0⟩).2.2 (Cn (toks.map Ao) (2*toks.length) toks.length ⟨0,Z,0,0⟩ [] []).2.1/\((Cn (toks.map Ao) (2*toks.length) toks.length ⟨0,Z,0,0⟩ [] []).2.1.cL=Z->Nc (toks:=toks) (Cn (toks.map Ao) (2*toks.length) toks.length ⟨0,Z,0,0⟩ [] []).2.2 (Cn (toks.map Ao) (2*toks.length) toks.length ⟨0,Z,0,0⟩ [] []).1 (Cp toks toks.length ⟨0,false,0⟩).1):=by
 have h:=H.pos;obtain⟨f,p⟩:∃f,toks.length=f+1:=⟨toks.length-1,by omega⟩;have j:Al toks.length (⟨0,false,0⟩:PS) (⟨0,Z,0,0⟩:St):=.inl ⟨rfl,rfl,rfl,h⟩;obtain⟨l,s⟩:=Za H a 0 [] j;have B:=Gk (n:=toks.length) H.end_ (x:=⟨0,false,0⟩) h;have e:Cn (toks.map Ao) (2*toks.length) toks.length ⟨0,Z,0,0⟩ [] []=Cn (toks.map Ao) (2*toks.length) f (GL (toks.map Ao) (2*toks.length) 0 ⟨0,Z,0,0⟩ []).2.1 (GL (toks.map Ao) (2*toks.length) 0 ⟨0,Z,0,0⟩ []).2.2 [(GL (toks.map Ao) (2*toks.length) 0 ⟨0,Z,0,0⟩ []).1]:=by
  conv=>lhs;rw[show toks.length=f+1 from p]
  rw[Cn,jR ⟨rfl,.inl rfl⟩];simp[p]
 rw[e];unfold Cp;simp only;refine Zr H a toks.length f _ _ _ _ _ l (by simp) (fun w=>⟨by omega,?_⟩) (fun d=>?_)
 .have t:=Dg (k:=3) (by decide) (x:=(⟨0,false,0⟩:PS)) (toks:=toks);by_cases q:(Aj toks 0).kind=3
  .have:=LU (n:=toks.length) H.end_ (x:=⟨0,false,0⟩) h q;simp only at this;omega
  .exfalso;have:=(VD l w);have d:=this.2.1;have r:=Ho H (k:=3) (by decide) (by decide) j;simp only[Da,Nat.reduceEqDiff,if_true,if_false]at r;have g:(Aw (toks.map Ao) [102,110] ⟨0,Z,0,0⟩).cL=T (Aj toks 0).l7:=by unfold Aw Fi;rw[jQ (fun z=>q (r.1 z))];simp only[Bs];rfl
   have m:=Ia (toks.map Ao) (DF (toks.map Ao) [40] (JG (toks.map Ao) 1 g));have o:=DF (toks.map Ao) [123] m;unfold GL at d;simp only at d;rw[CJ _ _ _ _ _ o]at d;have v:=DF (toks.map Ao) [125] o;rw[v]at d;cases d
 .obtain⟨y,C⟩:=s d;refine⟨rfl,fun i g m=>?_⟩;have u:i=0:=by simp at g;omega
  subst u;exact y
end
theorem IL(s:ByteArray):∀(l:List TF) (k:Nat) (a:DataW Unit),IsMap a->(has (A8 l k a) (Bq s)=true↔has a (Bq s)=true\/0<=BC (l.map fun t=>t.name.d9) s k)
 |[],k,a,_=>by simp[A8,BC]
 |t::l,k,a,d=>by
  rw[A8,iU,BC];have e:t.name.d9.toList=s.toList↔s=t.name.d9:=⟨fun h=>(CA h).symm,fun h=>by rw[h]⟩;by_cases c:has a (Bq t.name.d9)=true
  .rw[jR c,IL s l (k+1) a d];by_cases b:s=t.name.d9
   .subst b;rw[jR rfl];simp[c]
   .rw[jQ (fun q=>b (e.1 q))]
  .rw[jQ c,IL s l (k+1) _ (d.put _ _)];by_cases b:s=t.name.d9
   .subst b;rw[jR rfl,has_put_same d (Gm _)];simp
   .rw[jQ (fun q=>b (e.1 q)),has_put_other (fun q=>b (Ju q))]
theorem Hr(s:ByteArray)(z:DataW Unit):∀(l:List TF) (k:Nat) (c:DataW Unit),IsMap c->(has c (Bq s)=true->(A8 l k c).atKey (Bq s) z=c.atKey (Bq s) z)/\(¬has c (Bq s)=true->0<=BC (l.map fun t=>t.name.d9) s k->(A8 l k c).atKey (Bq s) z=.lit (.int .i64 (BC (l.map fun t=>t.name.d9) s k)))
 |[],k,c,_=>by simp[A8,BC]
 |t::l,k,c,i=>by
  rw[A8,iU,BC];have m:t.name.d9.toList=s.toList↔s=t.name.d9:=⟨fun h=>(CA h).symm,fun h=>by rw[h]⟩;by_cases g:has c (Bq t.name.d9)=true
  .rw[jR g];obtain⟨a,b⟩:=Hr s z l (k+1) c i;refine⟨a,fun d f=>?_⟩;by_cases e:s=t.name.d9
   .subst e;exact jY g d
   .rw[jQ (fun q=>e (m.1 q))]at f⊢;exact b d f
  .rw[jQ g];obtain⟨a,b⟩:=Hr s z l (k+1) (c.put (Bq t.name.d9) (.lit (.int .i64 k))) (i.put _ _);by_cases e:s=t.name.d9
   .subst e;rw[jR rfl];refine⟨fun d=>jY d g,fun _ _=>?_⟩;rw[a (has_put_same i (Gm _) _),atKey_put_same i (Gm _)]
   .have j:Bq s≠Bq t.name.d9:=fun q=>e (Ju q)
    rw[jQ (fun q=>e (m.1 q))];refine⟨fun d=>?_,fun d f=>b (by rw[has_put_other j];exact d) f⟩;rw[a (by rw[has_put_other j];exact d),atKey_put_other j]
theorem aV{u a}(b:a.map (fun f=>f.name.d9)=u.map (fun t=>t.name.d9))(g:a.map (fun f=>f.cQ.length)=u.map (fun t=>t.u9.length)):Lk (A8 u 0 (.map [])) u a:=by
 have d:∀s,¬has (DataW.map []:DataW Unit) (Bq s)=true:=fun s=>by simp[has_eq]
 refine⟨fun s=>?_,fun s c=>?_⟩
 .rw[b,IL s u 0 _ isMap_empty];exact⟨fun q=>q.elim (fun z=>jY z (d s)) id,.inr⟩
 .rw[b]at c⊢;rw[g];have e:Cq (A8 u 0 (.map [])) s=(BC (u.map fun t=>t.name.d9) s 0).toNat:=by unfold Cq;rw[(Hr s _ u 0 _ isMap_empty).2 (d s) c]
  rw[e];unfold JD;rw[iV]
def Re(b:Nat)(c a:CS):Prop:=c=a/\(c.cS=0\/c.l7<b)
theorem Eb.c{b d c e a}(h:Eb b d c e a):Re b c a:=⟨h.1,h.2.imp (fun q=>q.1) (fun q=>q.2)⟩
theorem Re.start{d c b}(h:Re d c b):Eb d (.map []) c [] b:=by
 refine⟨h.1,?_⟩;by_cases a:c.cS=0
 .exact .inl ⟨a,tidy_empty,fun s=>by simp[has_eq],rfl⟩
 .exact .inr ⟨a,h.2.resolve_left a⟩
section
variable{N:Nat}{o:List PT}(H:TksOk N o)
include H
theorem Eb.eH:∀(a:List Nat) {i j:Nat} {x:DataW Unit×CS} {y:List ByteArray×CS},Eb (Aj o i).l7 x.1 x.2 y.1 y.2->MS i j a->j<o.length->Eb (Aj o j).l7 (Ts (a.map (Aj o)) x).1 (Ts (a.map (Aj o)) x).2 (CP (a.map (Aj o)) y).1 (CP (a.map (Aj o)) y).2
 |[],i,j,x,y,h,b,c=>h.mono (DE H b c)
 |p::a,i,j,x,y,h,b,c=>by have f:=b.2.le;have d:=h.to H (p:=p) (j:=p+1) (fun g q e=>q.decl (Aj o p) e) b.1 (gS _) (by omega);exact Eb.eH a (x:=(Iq x.1 (Aj o p),Fg x.1 (Aj o p) x.2)) (y:=(y.1++[(Aj o p).d9],Dt y.1 (Ao (Aj o p)) y.2)) d b.2 c
variable{F:DataW Unit}{u:List TF}{v:List RF}(L:Lk F u v)
include L
theorem Eb.stmts{d dep:Nat}:∀{a b:Nat} {c:List TS},Dv (Cm o d) a b c->b<o.length->∀(x:DataW Unit×CS) (y:List ByteArray×CS),Eb (Aj o a).l7 x.1 x.2 y.1 y.2->Eb (Aj o b).l7 (c.foldl (fun x t=>LH F u d dep t x) x).1 (c.foldl (fun x t=>LH F u d dep t x) x).2 (Gs v d dep c y).1 (Gs v d dep c y).2:=by
 intro a b c r;induction r with
 |nil h=>intro e x y f;exact f.mono (DE H h e)
 |cons h _ g=>intro e x y f;exact g e _ _ (Eb.stmt H L h dep x y f)
theorem YQ{d i j idx:Nat}{t:TF}(g:Ku o d i j t)(V:Cq F t.name.d9=idx↔BC (v.map fun f=>f.name.d9) t.name.d9 0=(idx:Int)){c r:CS}(h:Re (Aj o i).l7 c r):Re (Aj o j).l7 (Rz F u d idx t c) (EI v d idx t r).2:=by
 obtain⟨l,ps,kb,m,Q,R,S,E,g5,I,g7⟩:=g.w;have hl:=E.le;have a2:=I.le (fun _ _ _ q=>q.lt);have a0:=g.top;have N:Eb (Aj o (l+1)).l7 (.map []) (if Cq F t.name.d9=idx then(if 12<=idx then Ca 4 t.name.l7 c else c)else Ca 5 t.name.l7 (if 12<=idx then Ca 4 t.name.l7 c else c)) [] (Gb v idx t r):=by
  unfold Gb;have U:(Cq F t.name.d9=idx)=(BC (v.map fun f=>f.name.d9) t.name.d9 0=(idx:Int)):=propext V;simp only[U];refine h.start.to H (p:=l) (fun lo q k=>?_) Q (gS _) (by omega);rw[R];by_cases b:12<=idx
  .rw[jR b,jR b];have K:=q.eI (e:=4) k (by decide) (.map []) [];split
   .exact K
   .by_cases a:c.cS=0
    .have M:Ca 4 (Aj o l).l7 c=⟨4,(Aj o l).l7⟩:=by simp[Ca,a]
     rw[<-K.1,M];exact⟨by simp[Ca,Bi],.inr (by simp[Ca])⟩
    .have s:=q.cL k a 4;have n:=q.cL k a 5;have X:=q.1;rw[s.1,s.2,n.1];rw[<-X]at n;rw[n.2];exact⟨rfl,q.2.imp (fun z=>jY z.1 a) (fun z=>⟨z.1,by omega⟩)⟩
  .rw[jQ b,jQ b];split
   .exact q.mono (by omega)
   .exact q.eI k (by decide) _ _
 have C:=Eb.eH H ps (x:=(.map [],_)) (y:=([],_)) N E (by omega);rw[<-S]at C;have P:=Eb.stmts H L (dep:=1) I (by omega) _ _ (C.mono (DE H (by omega) (by omega)));unfold Rz EI Pa;simp only[show¬(6<1) by decide,if_false];exact(P.mono (DE H (by omega) a0)).c
theorem YP{d:Nat}:∀{i j:Nat} {l:List TF},Dv (Ku o d) i j l->j<o.length->∀(k:Nat) (c:CS) (x:List RF×CS),(∀m (s:m<l.length),Cq F l[m].name.d9=k+m↔BC (v.map fun f=>f.name.d9) l[m].name.d9 0=((k+m:Nat):Int))->Re (Aj o i).l7 c x.2->Re (Aj o j).l7 (GS F u d l k c) (BK v d l k x).2:=by
 intro i j l r;induction r with
 |nil h=>intro b k c x _ a;exact⟨a.1,a.2.imp id (fun q=>iI q (DE H h b))⟩
 |@cons i m j t l h _ n=> intro b k c x e a;have p:=YQ H L h (idx:=k) (by have:=e 0 (by simp);simpa using this) a;rw[GS,BK];refine n b (k+1) _ _ (fun q g=>?_) p;have:=e (q+1) (by simpa using g);simp only[jH]at this;rw[show k+1+q=k+(q+1) by omega];exact this
end
section
variable{N:Nat}{o:List PT}(H:TksOk N o)(w:N<=4000)(B:o.length<=4001)
include H w B
theorem PG:∀(m:Nat) (x:PS) (d:List TF),x.next<o.length->(Af o o.length 0 (El o o.length m x d).2).cR=false->x.cR=false/\∃f,(El o o.length m x d).1=d++f/\Dv (Ku o (2*o.length+1)) x.next (El o o.length m x d).2.next f/\(Aj o (El o o.length m x d).2.next).kind=0/\(El o o.length m x d).2.next<o.length
 |0,x,d,e,h=>by rw[El]at h⊢;obtain⟨a,b,c⟩:=Gq h;exact⟨b,[],by simp,.nil (gS _),a,e⟩
 |m+1,x,d,e,h=>by
  rw[El]at h⊢;split at h
  .rename_i g;rw[jR g];have s:=Gk (n:=o.length) H.end_ e;obtain⟨i,f,j,k,l,p⟩:=PG m _ _ s.2 h;obtain⟨q,r⟩:=S3 H w B e i;exact⟨q,(JU o o.length x).1::f,by rw[j];simp,.cons r k,l,p⟩
  .rename_i g;rw[jQ g];obtain⟨a,b,c⟩:=Gq h;exact⟨b,[],by simp,.nil (gS _),a,e⟩
theorem NI(h:(Cp o o.length ⟨0,false,0⟩).2.2.cR=false):Dv (Ku o (2*o.length+1)) 0 (o.length-1) (Cp o o.length ⟨0,false,0⟩).1/\(Cp o o.length ⟨0,false,0⟩).2.1=N/\(Aj o (o.length-1)).l7=N:=by
 have d:=H.pos;obtain⟨C,k,s,t,l⟩:=H.last;have e:(Aj o (o.length-1)).l7=N:=by unfold Aj;rw[k];exact l
 unfold Cp at h⊢;simp only at h⊢;have j:=Gk (n:=o.length) H.end_ (x:=⟨0,false,0⟩) d;obtain⟨f,E,g,b,a,p⟩:=PG H w B o.length _ _ j.2 h;obtain⟨r,i⟩:=S3 H w B (x:=⟨0,false,0⟩) d f;have c:(El o o.length o.length (JU o o.length ⟨0,false,0⟩).2 [(JU o o.length ⟨0,false,0⟩).1]).2.next=o.length-1:=by
  rcases jG (El o o.length o.length (JU o o.length ⟨0,false,0⟩).2 [(JU o o.length ⟨0,false,0⟩).1]).2.next (o.length-1)with q|q
  .have:=H.d8 _ _ q (gV (by omega));exfalso;apply this;unfold Aj at a;rw[gV (by omega)]at a;exact a
  .omega
 obtain⟨y,z,m⟩:=Gq h;rw[m,c,g];rw[c]at b;exact⟨.cons i b,e,e⟩
end
def Rd:Nat->TS->Prop
 |0,_=>False
 |d+1,.mk s b=>(b=[]/\s.kind<=10)\/(∃p a,b=[(p,a)]/\(s=EK 11\/s=EK 12)/\∀t,t∈a->Rd d t)\/∃p a f e,b=[(p,a),(f,e)]/\s=EK 11/\(∀t,t∈a->Rd d t)/\∀t,t∈e->Rd d t
theorem Cm.shp{c:List PT}:∀{d i j:Nat} {t:TS},Cm c d i j t->Rd d t
 |0,_,_,_,h=>h.elim
 |d+1,i,j,.mk s v,h=>by
  obtain⟨_,_,p⟩:=h;have C:∀a b f,Dv (Cm c d) a b f->∀t,t∈f->Rd d t:=fun a b f r t u=>by obtain⟨x,y,q⟩:=r.each t u;exact q.shp
  rcases p with⟨rfl,h,_⟩|⟨k,f,m,rfl,l,_,e,_⟩|⟨k,f,m,w,B,z,rfl,l,_,e,_,g,_⟩
  .exact .inl ⟨rfl,h⟩
  .exact .inr (.inl ⟨_,_,rfl,l,C _ _ _ e⟩)
  .exact .inr (.inr ⟨_,_,_,_,rfl,l,C _ _ _ e,C _ _ _ g⟩)
theorem SM{N:Nat}:∀(l:List PT) (k:Nat),l.Pairwise (fun a b=>a.l7<b.l7)->(∀t,t∈l->k<=t.l7/\t.l7<=N)->l.length<=N+1-k
 |[],_,_,_=>iF _
 |t::l,k,h,d=>by
  rw[List.pairwise_cons]at h;have f:=d t jP;have:=SM l (k+1) h.2 fun u e=>⟨by have:=h.1 u e;omega,(d u (iK _ e)).2⟩
  simp only[gU];omega
theorem TksOk.dC{N:Nat}{l:List PT}(h:TksOk N l):l.length<=N+1:=SM l 0 h.eP fun t a=>⟨iF _,(h.len t a).2⟩
section
variable{N:Nat}{c:List PT}(H:TksOk N c)(n:N<=4000)(o:c.length<=4001)
include H n o
theorem NK(h:List TF)(b1:Nat)(x:PS)(hP:Cp c c.length ⟨0,false,0⟩=(h,b1,x))(hx:x.cR=false):
 TV 4000 h/\(∀d U w v,DM d U w v h->DM 4000 U w v h)/\(∀t,t∈h->∀s,s∈t.cP->∃a b,Cm c 4000 a b s)/\(∀t,t∈h->t.u9.length+(t.cP.map (Cz 4000)).sum<=4000/\t.cP.length<=4000)/\h.length<=4001/\
 ∀k:List RF,k.map (fun f=>f.name.d9)=h.map (fun t=>t.name.d9)->k.map (fun f=>f.cQ.length)=h.map (fun t=>t.u9.length)->Im h 4000 b1=MW k N (BK k 4000 h 0 (k,⟨0,0⟩)).2:=by
 have hp:=H.pos;have a4:=NI H n o (by rw[hP];exact hx);rw[hP]at a4;obtain⟨a3,b0,b7⟩:=a4;simp only at a3 b0;have F:Dv (Ku c 4000) 0 (c.length-1) h:=a3.mono (fun i j t g=>⟨by obtain⟨R,S,Q,m,I,C,u,E,K,r,M⟩:=g.w;refine⟨R,S,Q,m,I,C,u,E,K,?_,M⟩;have c1:=g.top;exact r.low (i0:=0) (j0:=4000) (fun _ _ _ q=>q.lt) (fun a b z _ P q=>Cm.lower 4000 q (by omega)) (iF _) (by omega),g.lt,g.top⟩)
 have c2:=F.le (fun _ _ _ q=>q.lt);have a1:∀t,t∈h->∀s,s∈t.cP->∃a b,Cm c 4000 a b s:=by intro t l s B;obtain⟨i,j,g⟩:=F.each t l;obtain⟨R,S,Q,m,I,C,u,E,K,r,M⟩:=g.w;exact r.each s B
 have a0:∀t,t∈h->t.u9.length+(t.cP.map (Cz 4000)).sum<=4000/\t.cP.length<=4000:=by intro t l;obtain⟨i,j,g⟩:=F.each t l;obtain⟨R,S,Q,m,I,C,u,E,K,r,M⟩:=g.w;have c1:=g.top;have l1:=E.le;have l2:=Jh (f:=Cz 4000) (fun _ _ _ q=>q.fU) r;have l3:=r.le (fun _ _ _ q=>q.lt);rw[u];simp only[iT];exact⟨by omega,by omega⟩
 have hT:TV 4000 h:=by
  refine⟨by omega,by decide,fun t l=>?_⟩;obtain⟨i,j,g⟩:=F.each t l;obtain⟨R,S,Q,m,I,C,u,E,K,r,M⟩:=g.w;refine⟨by rw[C];exact iG (Km H _).1 n,fun s B=>?_,fun p a8=>?_,(a0 t l).1,(a0 t l).2⟩
  .obtain⟨a,b,hh⟩:=a1 t l s B;exact hh.tok o
  .rw[u]at a8;obtain⟨q,_,rfl⟩:=jD.1 a8;exact⟨iG (Km H _).1 n,iG (Km H _).2 n⟩
 refine⟨hT,fun d U w v b8=>?_,a1,a0,by omega,fun k a7 c0=>?_⟩
 .obtain⟨b2,h1,h2,h3,h4⟩:=b8;refine⟨b2,h1,h2,h3,fun j g g'=>?_⟩;obtain⟨av,sv,V,X,e3,b3,e4,e5,e6,e7⟩:=h4 j g g';refine⟨av,sv,V,X,e3,b3,e4,e5,e6,fun m gm b4=>?_⟩;obtain⟨p,q,hh⟩:=a1 h[j] (iA _) _ (iA gm);exact hh.fT (e7 m gm b4)
 .have L:=aV a7 c0;have b5:∀m (hm:m<h.length),Cq (A8 h 0 (.map [])) h[m].name.d9=0+m↔BC (k.map fun f=>f.name.d9) h[m].name.d9 0=((0+m:Nat):Int):=by
   intro m hm;have b6:0<=BC (h.map fun t=>t.name.d9) h[m].name.d9 0:=(C0 _ _ 0).1.2 (jD.2 ⟨h[m],iA _,rfl⟩);have e:Cq (A8 h 0 (.map [])) h[m].name.d9=(BC (h.map fun t=>t.name.d9) h[m].name.d9 0).toNat:=by unfold Cq;rw[(Hr _ _ h 0 _ isMap_empty).2 (by simp[has_eq]) b6]
   rw[e,a7];omega
  have B:=YP H L F (by omega) 0 ⟨0,0⟩ (k,⟨0,0⟩) b5 ⟨rfl,.inl rfl⟩;rw[b7]at B;unfold Im MW;rw[b0];have a5:=L.nm ⟨#[109,97,105,110]⟩;have a6:=L.ar ⟨#[109,97,105,110]⟩;obtain⟨a9,b9⟩:=B;by_cases y:0<=BC (k.map fun f=>f.name.d9) ⟨#[109,97,105,110]⟩ 0/\((k.map fun f=>f.cQ.length)[(BC (k.map fun f=>f.name.d9) ⟨#[109,97,105,110]⟩ 0).toNat]?).getD 0=0
  .have P:(has (A8 h 0 (.map [])) (Bq ⟨#[109,97,105,110]⟩) && JD h (Cq (A8 h 0 (.map [])) ⟨#[109,97,105,110]⟩)==0)=true:=by rw[Bool.and_eq_true,beq_iff_eq];exact⟨a5.2 y.1,by rw[a6 y.1];exact y.2⟩
   rw[jR P,jR y]
   exact a9
  .have P:¬(has (A8 h 0 (.map [])) (Bq ⟨#[109,97,105,110]⟩) && JD h (Cq (A8 h 0 (.map [])) ⟨#[109,97,105,110]⟩)==0)=true:=by rw[Bool.and_eq_true,beq_iff_eq];rintro⟨q1,q2⟩;have q3:=a5.1 q1;exact y ⟨q3,by rw[<-a6 q3];exact q2⟩
   rw[jQ P,jQ y,<-a9]
   rcases b9 with h0|h0
   .simp[Ca,Bi,h0]
   .by_cases a2:(GS (A8 h 0 (.map [])) h 4000 h 0 ⟨0,0⟩).cS=0
    .simp[Ca,Bi,a2]
    .have V:Ca 6 N (GS (A8 h 0 (.map [])) h 4000 h 0 ⟨0,0⟩)=GS (A8 h 0 (.map [])) h 4000 h 0 ⟨0,0⟩:=by simp[Ca,a2]
     have X:Bi 6 N (GS (A8 h 0 (.map [])) h 4000 h 0 ⟨0,0⟩)=GS (A8 h 0 (.map [])) h 4000 h 0 ⟨0,0⟩:=by unfold Bi;rw[jQ (by omega)]
     rw[V,X]
end
theorem CQ.dF{d B}{R S:d->B->Prop}{l m}(h:CQ R l m)(k:∀a b,b∈m->R a b->S a b):CQ S l m:=by
 induction h with
 |nil=>exact .nil
 |cons h _ i=>exact .cons (k _ _ (jP ..) h) (i (fun a b f=>k a b (iK _ f)))
section
variable{N:Nat}{c:List PT}(H:TksOk N c)(e:DigOk c)(g:N<=4000)(j:c.length<=4001)
include H
theorem PD:∀(m:Nat) (y:St) (a:List FS) (b:List RF),IA c.length y a.length->UL c.length a->IA c.length (Cn (c.map Ao) (2*c.length) m y a b).2.1 (Cn (c.map Ao) (2*c.length) m y a b).2.2.length/\UL c.length (Cn (c.map Ao) (2*c.length) m y a b).2.2
 |0,y,a,b,d,k=>by rw[Cn];exact⟨d,k⟩
 |m+1,y,a,b,d,k=>by
  have f:(tokAt (c.map Ao) (c.length-1)).sort=0:=by rw[Bs];simp[Ao,H.end_,CW]
  rw[Cn];split
  .have s:=(Jp f (2*c.length) b.length y a d).1;refine PD m _ _ _ s ?_;unfold GL;simp only;have E:=A9 (c.map Ao);have C:∀(L:List UInt8) (x:St),x.cJ<c.length->(Aw (c.map Ao) L x).cJ<c.length:=fun L x h=>Ci rfl f h
   have p:=(E [102,110] y).trans (EX (c.map Ao) 1 (Aw (c.map Ao) [102,110] y));have n:(Bo (c.map Ao) 1 (Aw (c.map Ao) [102,110] y)).2.cJ<c.length:=ED (q:=(Bo (c.map Ao) 1 (Aw (c.map Ao) [102,110] y)).1) rfl (by decide) f (C _ _ d.1);generalize (Bo (c.map Ao) 1 (Aw (c.map Ao) [102,110] y)).2=i at*;have r:=p.trans ((E [40] i).trans (Fm (c.map Ao) (Aw (c.map Ao) [40] i)));have o:(Cb (c.map Ao) (Aw (c.map Ao) [40] i)).2.cJ<c.length:=EY (q:=(Cb (c.map Ao) (Aw (c.map Ao) [40] i)).1) rfl f (C _ _ n);generalize (Cb (c.map Ao) (Aw (c.map Ao) [40] i)).2=l at*;have t:=d.dJ (r.trans (E [123] l)) (C [123] l o);exact((VN (by simp) f (2*c.length)).1 b.length _ a [] t k).1
  .exact⟨d,k⟩
include e g j
theorem NJ(h:List TF)(E:Nat)(x:PS)(I:Cp c c.length ⟨0,false,0⟩=(h,E,x))(k:List RF)(y:St)(F:List FS)(K:Cn (c.map Ao) (2*c.length) c.length ⟨0,Z,0,0⟩ [] []=(k,y,F)):
 (x.cR=true->y.cL=T x.dH)/\
 (x.cR=false->y.cL=Z/\TQ 4000 k F h/\TV 4000 h/\(∀d U w v,DM d U w v h->DM 4000 U w v h)/\Im h 4000 E=MW k N (BK k 4000 h 0 (k,⟨0,0⟩)).2):=by
 have hp:=H.pos;obtain⟨o,z⟩:=Yf H e;rw[I,K]at o z;simp only at o z;refine⟨fun n=>?_,fun n=>?_⟩
 .rcases o with a|⟨p,a,b⟩
  .rw[a.1]at n;cases n
  .rw[b,a.2.1]
 have M:y.cL=Z:=(VD o n).2.1;have hrel:=z M;obtain⟨P,a0,S,L,a4,R⟩:=NK H g j h E x I n
 have X:k.map (fun f=>f.name.d9)=h.map (fun t=>t.name.d9):=by
  apply jL
  .simp[hrel.len]
  .intro i l m;simp only[jE,(hrel.each i (by simpa using l) (by simpa using m)).name];rfl
 have a3:k.map (fun f=>f.cQ.length)=h.map (fun t=>t.u9.length):=by
  apply jL
  .simp[hrel.len]
  .intro i l m;simp only[jE,(hrel.each i (by simpa using l) (by simpa using m)).cQ,iT]
 have s:=PD H c.length ⟨0,Z,0,0⟩ [] [] ⟨hp,iF _,iF _,iF _,fun _=>⟨gS _,gS _,gS _⟩⟩ (fun u C=>by cases C);rw[K]at s;simp only at s;refine⟨M,⟨hrel.len,by rw[hrel.len];omega,by have:=s.1.2.2.2.1;omega,fun u C=>?_,fun i l m=>?_,by decide⟩,P,a0,R k X a3⟩
 .have:=s.2 u C;omega
 .have r:=hrel.each i l m;have B:h[i]∈h:=iA _;refine⟨r.name,r.cQ,r.cT.dF (fun a b Q q=>?_),r.t8,?_,?_⟩
  .obtain⟨p,q',V⟩:=S _ B b Q;exact V.flat q
  .rw[r.cT.length];have:=(L _ B).2;omega
  .have:=(L _ B).1;omega
end

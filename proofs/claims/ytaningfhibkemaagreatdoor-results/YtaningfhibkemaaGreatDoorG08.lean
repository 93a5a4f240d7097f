/- Part of the proof: MbE RnA RnB RnC RnD RnE. -/
import Derived.Test.YtaningfhibkemaaGreatDoorG10
namespace Go.Proofs.YtaningfhibkemaaGreatDoor
open Go.Proofs.Tryz
open Option renaming none->Z,some->T
open Value renaming int->G,slice->Y
open IntKind renaming i64->A
def vx(l:List ByteArray)(s:ByteArray):Nat:=(BC l s 0).toNat
structure Be where
 kind:Nat
 cY:Nat
 cM:Nat
 field:Nat
 cK:Nat
 args:List Nat
 next:Nat
 taken:Nat
structure PFn where
 name:ByteArray
 t8:List ByteArray
 u9:Nat
 r9:List Be
structure Bd where
 cH:List ByteArray
 r9:List Be
 pl:Nat
 ca:Nat
def AB(a:List ByteArray)(s:VS)(b:Bd):Be:=
 {kind:=s.kind,cY:=if s.kind=0 then b.cH.length else vx b.cH s.tg.d9,cM:=if s.kind=4\/s.kind=7 then vx a s.sr.d9 else vx b.cH s.sr.d9,field:=s.field,
  cK:=if s.kind=1 then b.pl+1 else if s.kind=8 then b.ca+1 else 0,args:=s.args.map fun t=>vx b.cH t.d9,next:=0,taken:=0}
def Cc(s:VS)(b:Bd):Bd:=
 {b with cH:=if s.kind=0 then b.cH++[s.tg.d9]else b.cH,pl:=if s.kind=1 then b.pl+1 else b.pl,ca:=if s.kind=8 then b.ca+1 else b.ca}
def Bd.tk(b:Bd)(i n:Nat):Bd:={b with r9:=b.r9.modify i (fun s=>{s with taken:=n})}
def Bd.nx(b:Bd)(i n:Nat):Bd:={b with r9:=b.r9.modify i (fun s=>{s with next:=n})}
mutual
def Fb:TS->Nat
 |.mk _ bl=>1+Na bl
def Na:List (Nat×List TS)->Nat
 |[]=>0
 |(_,ts)::r=>Dy ts+Na r
def Dy:List TS->Nat
 |[]=>0
 |t::ts=>Fb t+Dy ts
end
mutual
def nK(k:Nat):TS->Nat
 |.mk s bl=>(if s.kind=k then 1 else 0)+nB k bl
def nB(k:Nat):List (Nat×List TS)->Nat
 |[]=>0
 |(_,ts)::r=>nL k ts+nB k r
def nL(k:Nat):List TS->Nat
 |[]=>0
 |t::ts=>nK k t+nL k ts
end
def AN(c:List TS)(a:Nat)(b:Bd):Nat:=if c.length=0 then a else b.r9.length
def Ar(c:List ByteArray)(s:VS)(a:Nat)(b:Bd):Bd:={Cc s b with r9:=b.r9++[{AB c s b with next:=a}]}
mutual
def Dx(fn:List ByteArray):TS->Nat->Bd->Bd
 |.mk s [],a,b=>Ar fn s a b
 |.mk s [(_,ts)],a,b=>
  if s.kind=11 then(AU fn ts a (Ar fn s a b)).tk b.r9.length (AN ts a (Ar fn s a b))
  else if s.kind=12 then(AU fn ts b.r9.length (Ar fn s a b)).tk b.r9.length (AN ts b.r9.length (Ar fn s a b))
  else Ar fn s a b
 |.mk s ((_,ts)::(_,ts2)::_),a,b=>
  if s.kind=11 then
   let b2:=(AU fn ts a (Ar fn s a b)).tk b.r9.length (AN ts a (Ar fn s a b))
   (AU fn ts2 a b2).nx b.r9.length (AN ts2 a b2)
  else Ar fn s a b
def AU(fn:List ByteArray):List TS->Nat->Bd->Bd
 |[],_,b=>b
 |[t],a,b=>Dx fn t a b
 |t::t2::ts,a,b=>AU fn (t2::ts) a (Dx fn t (b.r9.length+Fb t) b)
end
def Rh(t:TF)(b a:Nat):Bd:=⟨t.u9.map (fun p=>p.d9),[],b,a⟩
def GK(b:List ByteArray)(t:TF)(c a:Nat):Bd:=AU b t.cP (Dy t.cP) (Rh t c a)
def CV(b:List ByteArray)(t:TF)(c a:Nat):PFn:=⟨t.name.d9,(GK b t c a).cH,t.u9.length,(GK b t c a).r9⟩
def Bl(a:List ByteArray):List TF->Nat->Nat->List PFn
 |[],_,_=>[]
 |t::l,c,b=>CV a t c b::Bl a l (GK a t c b).pl (GK a t c b).ca
def BU(c:List ByteArray):List TF->Nat->Nat->Nat×Nat
 |[],b,a=>(b,a)
 |t::l,b,a=>BU c l (GK c t b a).pl (GK c t b a).ca
structure Tg where
 kind:Nat
 cZ:Nat
 dE:Nat
structure Vl where
 kind:Nat
 dQ:Nat
structure Cl where
 nm:Tg
 v:Vl
def TD:Vl:=⟨0,0⟩
def Et(m:List Cl)(i:Nat):Cl:=m[i]?.getD ⟨⟨0,0,0⟩,TD⟩
structure Co where
 dF:List Cl
 ch:List UInt8
 fV:List (Tg×Tg)
 eD:List (Nat×Nat)
def Co.set(c:Co)(a:Nat)(v:Vl):Co:=
 {c with dF:=c.dF.set a ⟨(Et c.dF a).nm,v⟩,fV:=if v.kind=1 then((Et c.dF a).nm,⟨2,v.dQ,0⟩)::c.fV else if v.kind=2 then((Et c.dF a).nm,(Et c.dF v.dQ).nm)::c.fV else c.fV}
def Co.fields(c:Co)(a:Nat):Co:={c with dF:=c.dF++[⟨⟨1,a,0⟩,TD⟩,⟨⟨1,a,1⟩,TD⟩,⟨⟨1,a,2⟩,TD⟩,⟨⟨1,a,3⟩,TD⟩]}
def Co.t8(c:Co)(f n:Nat):Co:={c with dF:=c.dF++(List.range n).map fun i=>⟨⟨0,f,i⟩,TD⟩}
def Zb:List Vl->Nat->Co->Co
 |[],_,c=>c
 |v::l,a,c=>Zb l (a+1) (c.set a v)
def Co.enter(c:Co)(f n:Nat)(a:List Vl):Co:=Zb a c.dF.length (c.t8 f n)
def Rn:List UInt8->Bool×List UInt8
 |[]=>(false,[])
 |b::l=>(b==49,l)
def cB(k p q a b g:Nat)(c:Co):Option Co:=
 if k=1 then T ((c.fields b).set p ⟨2,c.dF.length⟩)
 else if k=2 then T (c.set p ⟨2,q⟩)
 else if k=3 then
  if (Et c.dF q).v.kind=2/\(Et c.dF (Et c.dF q).v.dQ).nm.kind=1/\(Et c.dF (Et c.dF q).v.dQ).nm.dE=0 then T (c.set p ⟨2,(Et c.dF q).v.dQ+a⟩)else Z
 else if k=4 then T (c.set p ⟨1,g⟩)
 else if k=5 then if (Et c.dF q).v.kind=2 then T (c.set p (Et c.dF (Et c.dF q).v.dQ).v)else Z
 else if k=6 then T (c.set p (Et c.dF q).v)
 else if k=9 then if (Et c.dF p).v.kind=2 then T (c.set (Et c.dF p).v.dQ (Et c.dF q).v)else Z
 else T c
structure Vp where
 fn:Nat
 base:Nat
 next:Nat
 answer:Nat
structure Mc where
 c:Co
 eF:List Vp
 dZ:Nat
def As(P:List PFn)(i:Nat):PFn:=P[i]?.getD ⟨⟨#[]⟩,[],0,[]⟩
def ZV(l:List Be)(i:Nat):Be:=l[i]?.getD ⟨0,0,0,0,0,[],0,0⟩
def Ma(m:Mc)(v:Vl):Mc:=
 match m.eF with
 |[]=>m
 |[_]=>⟨m.c,[],2⟩
 |f::g::r=>⟨m.c.set f.answer v,g::r,m.dZ⟩
def Mh(P:List PFn):Nat->Mc->Mc
 |0,m=>m
 |n+1,m=>
  if m.dZ=1 then
   match m.eF with
   |[]=>m
   |f::_=>if f.next<(As P f.fn).r9.length then m else Mh P n (Ma m TD)
  else m
def VZ(P:List PFn)(m:Mc)(f:Nat)(b:List Vl)(a:Nat):Mc:=
 if 40<=m.eF.length then{m with dZ:=4}
 else⟨m.c.enter f (As P f).t8.length b,⟨f,m.c.dF.length,0,a⟩::m.eF,m.dZ⟩
def Yg(b:List Cl)(a:Nat)(l:List Nat):List Vl:=l.map fun i=>(Et b (a+i)).v
def Xm(P:List PFn)(m:Mc):Mc:=
 match m.eF with
 |[]=>m
 |f::r=>
  let s:=ZV (As P f.fn).r9 f.next;let a:Mc:={m with eF:={f with next:=s.next}::r};if s.kind=7 then VZ P a s.cM (Yg m.c.dF f.base s.args) (f.base+s.cY)
  else if s.kind=8 then
   let h:=(Et m.c.dF (f.base+s.cM)).v
   if h.kind=1/\(As P h.dQ).u9=s.args.length then
    (if 40<=m.eF.length then{a with dZ:=4}
     else VZ P {a with c:={m.c with eD:=(s.cK,h.dQ)::m.c.eD}} h.dQ (Yg m.c.dF f.base s.args) (f.base+s.cY))
   else{a with dZ:=3}
  else if s.kind=10 then Ma a (Et m.c.dF (f.base+s.cM)).v
  else if s.kind=11\/s.kind=12 then
   {a with c:={m.c with ch:=(Rn m.c.ch).2},eF:={f with next:=if (Rn m.c.ch).1 then s.taken else s.next}::r}
  else
   match cB s.kind (f.base+s.cY) (f.base+s.cM) s.field s.cK s.cM m.c with
   |some c=>{a with c:=c}
   |none=>{a with dZ:=3}
def RA(P:List PFn):Nat->Mc->Mc×Nat
 |0,m=>(Mh P 41 m,0)
 |n+1,m=>if (Mh P 41 m).dZ=1 then RA P n (Xm P (Mh P 41 m))else(Mh P 41 m,n+1)
structure RS where
 c:Co
 left:Nat
 r9:Nat
 dX:Nat
 dZ:Nat
 eL:Vl
structure XF where
 t8:List ByteArray
 u9:Nat
 cP:List TS
 pl:Nat
 ca:Nat
def CK(X:List XF)(i:Nat):XF:=X[i]?.getD ⟨[],0,[],0,0⟩
def RS.one(s:RS):RS:={s with left:=s.left-1,r9:=s.r9+1}
def Ks(a:RS->Bool×RS):Nat->RS->Bool×RS
 |0,s=>(true,s)
 |n+1,s=>
  let b:RS:={s with c:={s.c with ch:=(Rn s.c.ch).2}};if (Rn s.c.ch).1=false then(false,b)
  else
   let r:=a b
   if r.1 then(true,r.2)
   else if r.2.left=0 then(true,{r.2 with dZ:=1})
   else Ks a n r.2.one
def ZB(X:List XF)(b:Nat->Nat->List TS->Nat->Nat->RS->Bool×RS)(f:Nat)(a:List Vl)(s:RS):Bool×RS:=
 if s.dX=40 then(false,{s with dZ:=4})
 else
  let r:=b f s.c.dF.length (CK X f).cP (CK X f).pl (CK X f).ca {s with c:=s.c.enter f (CK X f).t8.length a,dX:=s.dX+1,eL:=TD}
  (r.2.dZ==0,{r.2 with dX:=r.2.dX-1})
def Zc(X:List XF)(b:Nat->Nat->List TS->Nat->Nat->RS->Bool×RS)(f:Nat)(a:List Vl)(p:Nat)(s:RS):Bool×RS:=
 let r:=ZB X b f a s
 if r.1=false then(true,r.2)else(false,{r.2 with c:=r.2.c.set p r.2.eL,eL:=TD})
def bE(X:List XF)(k:List ByteArray)(b:Nat->Nat->List TS->Nat->Nat->RS->Bool×RS)(n:Nat)(f a:Nat)(t:TS)(g e:Nat)(s:RS):Bool×RS:=
 match t with
 |.mk v j=>
  let i:=(CK X f).t8;let p:=a+vx i v.tg.d9;let q:=a+vx i v.sr.d9;let d:=(j[0]?.getD (0,[])).2;let l:=(j[1]?.getD (0,[])).2;if v.kind=0 then(false,s)
  else if v.kind=11 then
   if (Rn s.c.ch).1 then b f a d g e {s with c:={s.c with ch:=(Rn s.c.ch).2}}
   else b f a l (g+nL 1 d) (e+nL 8 d) {s with c:={s.c with ch:=(Rn s.c.ch).2}}
  else if v.kind=12 then Ks (b f a d g e) n s
  else if v.kind=10 then(true,{s with eL:=(Et s.c.dF q).v})
  else if v.kind=7 then Zc X b (vx k v.sr.d9) (Yg s.c.dF a (v.args.map fun t=>vx i t.d9)) p s
  else if v.kind=8 then
   let h:=(Et s.c.dF q).v
   if h.kind=1/\(CK X h.dQ).u9=v.args.length then
    Zc X b h.dQ (Yg s.c.dF a (v.args.map fun t=>vx i t.d9)) p {s with c:={s.c with eD:=if s.dX<40 then(e+1,h.dQ)::s.c.eD else s.c.eD}}
   else(true,{s with dZ:=3})
  else
   match cB v.kind p q v.field (g+1) (vx k v.sr.d9) s.c with
   |some c=>(false,{s with c:=c})
   |none=>(true,{s with dZ:=3})
def KE(X:List XF)(a:List ByteArray):Nat->Nat->Nat->List TS->Nat->Nat->RS->Bool×RS
 |0,_,_,_,_,_,s=>(true,s)
 |_+1,_,_,[],_,_,s=>(false,s)
 |F+1,d,b,t::f,e,c,s=>
  if s.left=0 then(true,{s with dZ:=1})
  else
   let r:=bE X a (KE X a F) F d b t e c s.one
   if r.1=true\/r.2.dZ≠0 then(true,r.2)
   else KE X a F d b f (e+nK 1 t) (c+nK 8 t) r.2
structure Eo(d vars:List ByteArray)(s:VS)(u:Be)(pl ca:Nat):Prop where
 kind:u.kind=s.kind
 cY:s.kind≠0->s.kind≠10->s.kind<11->u.cY=vx vars s.tg.d9
 func:s.kind=4\/s.kind=7->u.cM=vx d s.sr.d9
 cM:s.kind=2\/s.kind=3\/s.kind=5\/s.kind=6\/s.kind=8\/s.kind=9\/s.kind=10->u.cM=vx vars s.sr.d9
 field:u.field=s.field
 l7:s.kind=1->u.cK=pl+1
 call:s.kind=8->u.cK=ca+1
 args:s.kind=7\/s.kind=8->u.args=s.args.map fun t=>vx vars t.d9
mutual
def Vx(d vars:List ByteArray)(st:List Be):TS->Nat->Nat->Nat->Nat->Prop
 |.mk s [],p,a,pl,ca=>∃u,st[p]? =T u/\Eo d vars s u pl ca/\s.kind<11/\u.next=a
 |.mk s [(_,ts)],p,a,pl,ca=>∃u,st[p]? =T u/\Eo d vars s u pl ca/\u.next=a/\((s.kind=11/\GP d vars st ts u.taken a pl ca)\/(s.kind=12/\GP d vars st ts u.taken p pl ca))
 |.mk s [(_,ts),(_,ts2)],p,a,pl,ca=>∃u,st[p]? =T u/\Eo d vars s u pl ca/\s.kind=11/\GP d vars st ts u.taken a pl ca/\GP d vars st ts2 u.next a (pl+nL 1 ts) (ca+nL 8 ts)
 |.mk _ (_::_::_::_),_,_,_,_=>False
def GP(d vars:List ByteArray)(st:List Be):List TS->Nat->Nat->Nat->Nat->Prop
 |[],p,a,_,_=>p=a
 |t::ts,p,a,pl,ca=>∃m,Vx d vars st t p m pl ca/\GP d vars st ts m a (pl+nK 1 t) (ca+nK 8 t)
end
structure PX(d:List ByteArray)(P:List PFn)(X:List XF):Prop where
 t8:∀f,(As P f).t8.length=(CK X f).t8.length
 u9:∀f,(As P f).u9=(CK X f).u9
 laid:∀f,GP d (CK X f).t8 (As P f).r9 (CK X f).cP 0 (As P f).r9.length (CK X f).pl (CK X f).ca
section
variable{P:List PFn}
theorem Qj(n:Nat){c:Co}{f:Vp}{r:List Vp}{e:Nat}(h:f.next<(As P f.fn).r9.length):Mh P n ⟨c,f::r,e⟩=⟨c,f::r,e⟩:=by
 cases n with
 |zero=>rfl
 |succ n=>
  rw[Mh];split
  .simp only[jR h]
  .rfl
theorem Wg(n:Nat){c:Co}{f:Vp}{r:List Vp}(h:f.next<(As P f.fn).r9.length):RA P (n+1) ⟨c,f::r,1⟩=RA P n (Xm P ⟨c,f::r,1⟩):=by rw[RA,Qj _ h];simp
theorem Wh{c:Co}{f:Vp}{r:List Vp}(h:f.next<(As P f.fn).r9.length):RA P 0 ⟨c,f::r,1⟩=(⟨c,f::r,1⟩,0):=by rw[RA,Qj _ h]
end
structure Vv(P:List PFn)(fi base ans a L0:Nat)(rest:List Vp)(m0:Mc)(s:RS)(r:Bool×RS):Prop where
 left:r.2.left<=s.left
 r9:r.2.r9+r.2.left=s.r9+s.left
 o:(r.1=false/\r.2.dZ=0/\r.2.dX=s.dX/\r.2.eL=TD/\RA P L0 m0=RA P r.2.left ⟨r.2.c,⟨fi,base,a,ans⟩::rest,1⟩)\/
  (r.1=true/\r.2.dZ=0/\r.2.dX=s.dX/\RA P L0 m0=RA P r.2.left (Ma ⟨r.2.c,⟨fi,base,a,ans⟩::rest,1⟩ r.2.eL))\/
  (r.1=true/\r.2.dZ≠0/\∃frs,RA P L0 m0=(⟨r.2.c,frs,r.2.dZ⟩,r.2.left))
theorem KC(c:Co)(j i a b h e:Nat)(f:List Vp)(v:Vl):Ma ⟨c,⟨j,i,a,h⟩::f,e⟩ v=Ma ⟨c,⟨j,i,b,h⟩::f,e⟩ v:=by cases f<;>rfl
theorem Vv.eX{P:List PFn}{q p o a b m n:Nat}{w:List Vp}{u v:Mc}{s j:RS}{r:Bool×RS}(h:Vv P q p o a n w v j r)(l:RA P m u=RA P n v)(z:j.left<=s.left)(B:j.r9+j.left=s.r9+s.left)(t:j.dX=s.dX)(e:r.1=true\/a=b):Vv P q p o b m w u s r:=by
 refine⟨iG h.left z,h.r9.trans B,?_⟩;rcases h.o with⟨c,f,k,y,i⟩|⟨c,f,k,i⟩|⟨c,f,x,i⟩
 .rcases e with e|e
  .rw[c]at e;cases e
  .subst e;exact .inl ⟨c,f,k.trans t,y,l.trans i⟩
 .exact .inr (.inl ⟨c,f,k.trans t,by rw[l,i,KC]⟩)
 .exact .inr (.inr ⟨c,f,x,l.trans i⟩)
def bP(d:List ByteArray)(P:List PFn)(X:List XF)(F:Nat):Prop:=∀(b c:Nat) (j:List TS) (i h:Nat) (s:RS) (p a f:Nat) (e:List Vp),
 s.left<F->s.dZ=0->s.eL=TD->s.dX=e.length+1->s.dX<=40->GP d (CK X b).t8 (As P b).r9 j p a i h->
 Vv P b c f a s.left e ⟨s.c,⟨b,c,p,f⟩::e,1⟩ s (KE X d F b c j i h s)
section
variable{d:List ByteArray}{P:List PFn}{X:List XF}(g:PX d P X)
include g
omit g in
theorem UW{F:Nat}(S:bP d P X F)(b f:Nat)(w:List TS)(v m p a j:Nat)(i:List Vp)(u:Be)(y:(As P b).r9[p]? =T u)(M:u.kind=12)(N:u.next=a)(H:GP d (CK X b).t8 (As P b).r9 w u.taken p v m):
 ∀(n:Nat) (s:RS),s.left<n->s.left<F->s.dZ=0->s.eL=TD->s.dX=i.length+1->s.dX<=40->
  Vv P b f j a (s.left+1) i ⟨s.c,⟨b,f,p,j⟩::i,1⟩ s (Ks (KE X d F b f w v m) n s)
 |0,s,h,_,_,_,_,_=>by omega
 |n+1,s,h,hF,K,L,hd,a0=>by
  have Q:p<(As P b).r9.length:=by
   rcases jG p (As P b).r9.length with q|q
   .exact q
   .rw[iS q]at y;cases y
  have a2:ZV (As P b).r9 p=u:=by unfold ZV;rw[y];rfl
  have k:RA P (s.left+1) ⟨s.c,⟨b,f,p,j⟩::i,1⟩=RA P s.left ⟨{s.c with ch:=(Rn s.c.ch).2},⟨b,f,if (Rn s.c.ch).1 then u.taken else a,j⟩::i,1⟩:=by rw[Wg _ Q];unfold Xm;simp[a2,M,N]
  unfold Ks;by_cases x:(Rn s.c.ch).1=false
  .simp only[jR x];refine⟨gS _,rfl,.inl ⟨rfl,K,rfl,L,?_⟩⟩;rw[k,x];rfl
  .have a1:(Rn s.c.ch).1=true:=by simpa using x
   simp only[jQ x];rw[a1]at k;simp only[if_true]at k;have I:=S b f w v m {s with c:={s.c with ch:=(Rn s.c.ch).2}} u.taken p j i hF K L hd a0 H;generalize KE X d F b f w v m {s with c:={s.c with ch:=(Rn s.c.ch).2}}=r at I⊢;obtain⟨z,B,R⟩:=I;simp only at z B R;rcases R with⟨o,t,E,h4,l⟩|⟨o,t,E,l⟩|⟨o,t,V,l⟩
   .simp only[o,Bool.false_eq_true,if_false];by_cases C:r.2.left=0
    .simp only[jR C];refine⟨z,B,.inr (.inr ⟨rfl,by simp,⟨b,f,p,j⟩::i,?_⟩)⟩;rw[k,l,C,Wh Q]
    .simp only[jQ C];have U:=UW S b f w v m p a j i u y M N H n r.2.one (by simp only[RS.one];omega) (by simp only[RS.one];omega) t h4 (by simp only[RS.one];omega) (by simp only[RS.one];omega);refine U.eX ?_ (by simp only[RS.one];omega) (by simp only[RS.one];omega) (by simp only[RS.one];omega) (.inr rfl);rw[k,l];have e:r.2.one.left+1=r.2.left:=by simp only[RS.one];omega
     rw[e];rfl
   .simp only[o,if_true];exact⟨z,B,.inr (.inl ⟨rfl,t,E,by rw[k,l,KC]⟩)⟩
   .simp only[o,if_true];exact⟨z,B,.inr (.inr ⟨rfl,t,V,by rw[k,l]⟩)⟩
omit g in
theorem aU{l:List ByteArray}{c:List Be}{t:TS}{p a i f:Nat}(h:Vx d l c t p a i f):p<c.length:=by
 have e:∀{u:Be},c[p]? =T u->p<c.length:=fun{u} b=>by
  rcases jG p c.length with q|q
  .exact q
  .rw[iS q]at b;cases b
 match t,h with
 |.mk v [],h=>obtain⟨u,b,_⟩:=h;exact e b
 |.mk v [(j,k)],h=>obtain⟨u,b,_⟩:=h;exact e b
 |.mk v [(j,k),(m,n)],h=>obtain⟨u,b,_⟩:=h;exact e b
end
mutual
def dS:TS->List ByteArray
 |.mk s bl=>(if s.kind=0 then[s.tg.d9]else[])++dB bl
def dB:List (Nat×List TS)->List ByteArray
 |[]=>[]
 |(_,ts)::r=>dL ts++dB r
def dL:List TS->List ByteArray
 |[]=>[]
 |t::ts=>dS t++dL ts
end
structure bJ(fn:List ByteArray)(par:List Nat)(s:VS)(vs:List ByteArray):Prop where
 decl:s.kind=0->s.tg.d9∉vs/\vs.length<12
 tg:s.kind≠0->s.kind≠10->s.tg.d9∈vs
 func:s.kind=4\/s.kind=7->s.sr.d9∈fn
 many:s.kind=7->par[vx fn s.sr.d9]?.getD 0=s.args.length
 sr:s.kind=2\/s.kind=3\/s.kind=5\/s.kind=6\/s.kind=8\/s.kind=9\/s.kind=10->s.sr.d9∈vs
 args:s.kind=7\/s.kind=8->∀t,t∈s.args->t.d9∈vs
mutual
def XW(fn:List ByteArray)(par:List Nat):TS->List ByteArray->Prop
 |.mk s [],vs=>s.kind<=10/\bJ fn par s vs
 |.mk s [(_,ts)],vs=>(s.kind=11\/s.kind=12)/\ID fn par ts vs
 |.mk s [(_,ts),(_,ts2)],vs=>s.kind=11/\ID fn par ts vs/\ID fn par ts2 (vs++dL ts)
 |.mk _ (_::_::_::_),_=>False
def ID(fn:List ByteArray)(par:List Nat):List TS->List ByteArray->Prop
 |[],_=>True
 |t::ts,vs=>XW fn par t vs/\ID fn par ts (vs++dS t)
end
theorem SX(l m:List ByteArray)(s:ByteArray)(h:s∈l):∀k,BC (l++m) s k=BC l s k:=by
 induction l with
 |nil=>cases h
 |cons a l c=>
  intro k;simp only[List.cons_append,BC];split
  .rfl
  .rename_i b;rcases jJ.1 h with q|q
   .subst q;exact jY rfl b
   .exact c q (k+1)
theorem OP{l m:List ByteArray}{s:ByteArray}(h:s∈l):vx (l++m) s=vx l s:=by unfold vx;rw[SX l m s h]
structure Zo(dn:List ByteArray)(n1 n8 sz:Nat)(b b':Bd)(L:List ByteArray->List Be->Prop):Prop where
 cH:b'.cH=b.cH++dn
 pl:b'.pl=b.pl+n1
 ca:b'.ca=b.ca+n8
 len:b'.r9.length=b.r9.length+sz
 pre:∀i,i<b.r9.length->b'.r9[i]? =b.r9[i]?
 laid:∀(more:List ByteArray) (st:List Be),(∀i,b.r9.length<=i->i<b'.r9.length->st[i]? =b'.r9[i]?)->L (b'.cH++more) st
theorem NQ{fn:List ByteArray}{par:List Nat}{s:VS}{b:Bd}(h:bJ fn par s b.cH)(a:Nat)(g:List ByteArray):Eo fn (b.cH++g) s {AB fn s b with next:=a} b.pl b.ca:=by
 refine⟨rfl,fun d e _=>?_,fun c=>?_,fun c=>?_,rfl,fun c=>?_,fun c=>?_,fun c=>?_⟩
 .simp only[AB,jQ d,OP (h.tg d e)]
 .simp only[AB,jR c]
 .simp only[AB,jQ (show¬(s.kind=4\/s.kind=7) by omega),OP (h.sr c)]
 .simp only[AB,jR c]
 .simp only[AB,jQ (show¬s.kind=1 by omega),jR c]
 .simp only[AB];exact List.map_congr_left fun t f=>(OP (h.args c t f)).symm
theorem ME{fn:List ByteArray}{s:VS}{b:Bd}(d:s.kind=11\/s.kind=12)(c:List ByteArray)(a n:Nat):Eo fn c s {AB fn s b with next:=a,taken:=n} b.pl b.ca:=
 ⟨rfl,fun _ _ _=>by omega,fun _=>by omega,fun _=>by omega,rfl,fun _=>by omega,fun _=>by omega,fun _=>by omega⟩
theorem A6(fn:List ByteArray)(s:VS)(a:Nat)(b:Bd):(Ar fn s a b).r9=b.r9++[{AB fn s b with next:=a}]:=rfl
theorem MD(fn:List ByteArray)(s:VS)(a:Nat)(b:Bd):(Ar fn s a b).r9[b.r9.length]? =T {AB fn s b with next:=a}:=by rw[A6,jS (gS _)];simp
theorem D8(fn:List ByteArray)(s:VS)(a:Nat)(b:Bd)(c:s.kind=11\/s.kind=12):(Ar fn s a b).cH=b.cH/\(Ar fn s a b).pl=b.pl/\(Ar fn s a b).ca=b.ca:=by refine⟨?_,?_,?_⟩<;>(simp only[Ar,Cc];rw[jQ (by omega)])
theorem Tz(b:Bd)(i n j:Nat):(b.tk i n).r9[j]? =if i=j then(b.r9[j]?).map (fun s=>{s with taken:=n})else b.r9[j]? :=by simp only[Bd.tk,List.getElem?_modify];split<;>simp
theorem Tr(b:Bd)(i n j:Nat):(b.nx i n).r9[j]? =if i=j then(b.r9[j]?).map (fun s=>{s with next:=n})else b.r9[j]? :=by simp only[Bd.nx,List.getElem?_modify];split<;>simp
theorem MI(b:Bd)(i n:Nat):(b.tk i n).r9.length=b.r9.length:=by simp[Bd.tk]
theorem WC(b:Bd)(i n:Nat):(b.nx i n).r9.length=b.r9.length:=by simp[Bd.nx]
section
variable{fn:List ByteArray}{par:List Nat}
mutual
theorem Jy:∀(t:TS) (a:Nat) (b:Bd),XW fn par t b.cH->Zo (dS t) (nK 1 t) (nK 8 t) (Fb t) b (Dx fn t a b) (fun vars st=>Vx fn vars st t b.r9.length a b.pl b.ca)
 |.mk s [],a,b,h=>by
  obtain⟨hk,ho⟩:=h;refine⟨?_,?_,?_,?_,?_,fun more st hst=>?_⟩
  .simp only[Dx,Ar,Cc,dS,dB,iZ];split<;>simp
  .simp only[Dx,Ar,Cc,nK,nB,iH];split<;>rfl
  .simp only[Dx,Ar,Cc,nK,nB,iH];split<;>rfl
  .simp[Dx,A6,Fb,Na]
  .intro i hi;rw[Dx,A6,jT hi]
  .have e:(Dx fn (.mk s []) a b).cH=b.cH++(if s.kind=0 then[s.tg.d9]else[]):=by simp only[Dx,Ar,Cc];split<;>simp
   refine⟨_,(hst b.r9.length (gS _) (by simp[Dx,A6])).trans (MD fn s a b),?_,by omega,rfl⟩
   rw[e,jU]
   exact NQ ho a _
 |.mk s [(p,ts)],a,b,h=>by
  obtain⟨hk,ho⟩:=h;obtain⟨e1,e2,e3⟩:=D8 fn s a b hk;have hA:=MD fn s a b;have hAl:(Ar fn s a b).r9.length=b.r9.length+1:=by simp[A6]
  have go:∀(g:Nat) (bb:Bd),AU fn ts g (Ar fn s a b)=bb->Zo (dS (.mk s [(p,ts)])) (nK 1 (.mk s [(p,ts)])) (nK 8 (.mk s [(p,ts)])) (Fb (.mk s [(p,ts)])) b (bb.tk b.r9.length (AN ts g (Ar fn s a b)))
   (fun vars st=>∃u,st[b.r9.length]? =T u/\Eo fn vars s u b.pl b.ca/\u.next=a/\GP fn vars st ts u.taken g b.pl b.ca):=by
   intro g bb hbb;have I:=DT ts g (Ar fn s a b) (by rw[e1];exact ho);rw[hbb]at I;have i4:=I.len;refine⟨?_,?_,?_,?_,?_,fun more st hst=>?_⟩
   .show bb.cH=_;rw[I.cH,e1];simp[dS,dB,show¬s.kind=0 by omega]
   .show bb.pl=_;rw[I.pl,e2];simp[nK,nB,show¬s.kind=1 by omega]
   .show bb.ca=_;rw[I.ca,e3];simp[nK,nB,show¬s.kind=8 by omega]
   .rw[MI,I.len,hAl];simp[Fb,Na];omega
   .intro i hi;rw[Tz,jQ (by omega),I.pre i (by omega),A6,jT hi]
   .rw[MI]at hst;have c0:=hst b.r9.length (gS _) (by omega);rw[Tz,jR rfl,I.pre _ (by omega),hA]at c0;refine⟨_,c0,ME hk _ _ _,rfl,?_⟩;have:=I.laid more st (fun i hi hi'=>by rw[hst i (by omega) hi',Tz,jQ (by omega)])
    rw[e2,e3]at this;exact this
  rw[Dx];rcases hk with hk|hk
  .rw[jR hk];obtain⟨g1,g2,g3,g4,g5,g6⟩:=go a _ rfl;refine⟨g1,g2,g3,g4,g5,fun more st hst=>?_⟩;obtain⟨u,q1,q2,q3,q4⟩:=g6 more st hst;exact⟨u,q1,q2,q3,.inl ⟨hk,q4⟩⟩
  .rw[jQ (by omega),jR hk];obtain⟨g1,g2,g3,g4,g5,g6⟩:=go b.r9.length _ rfl;refine⟨g1,g2,g3,g4,g5,fun more st hst=>?_⟩;obtain⟨u,q1,q2,q3,q4⟩:=g6 more st hst;exact⟨u,q1,q2,q3,.inr ⟨hk,q4⟩⟩
 |.mk s [(p,ts),(p2,ts2)],a,b,h=>by
  obtain⟨hk,ho,ho2⟩:=h;obtain⟨e1,e2,e3⟩:=D8 fn s a b (.inl hk);have hA:=MD fn s a b;have hAl:(Ar fn s a b).r9.length=b.r9.length+1:=by simp[A6]
  have I:=DT ts a (Ar fn s a b) (by rw[e1];exact ho);rw[Dx,jR hk];simp only;generalize AU fn ts a (Ar fn s a b)=bb at I⊢;have i4:=I.len;have J:=DT ts2 a (bb.tk b.r9.length (AN ts a (Ar fn s a b))) (by show ID fn par ts2 bb.cH;rw[I.cH,e1];exact ho2)
  have hJl:(bb.tk b.r9.length (AN ts a (Ar fn s a b))).r9.length=bb.r9.length:=MI _ _ _;have hJp:(bb.tk b.r9.length (AN ts a (Ar fn s a b))).pl=bb.pl:=rfl;have hJc:(bb.tk b.r9.length (AN ts a (Ar fn s a b))).ca=bb.ca:=rfl;have hJn:(bb.tk b.r9.length (AN ts a (Ar fn s a b))).cH=bb.cH:=rfl;have hJa:=fun j=>Tz bb b.r9.length (AN ts a (Ar fn s a b)) j
  generalize bb.tk b.r9.length (AN ts a (Ar fn s a b))=bt at*;generalize AU fn ts2 a bt=b3 at J⊢;have j4:=J.len;refine⟨?_,?_,?_,?_,?_,fun more st hst=>?_⟩
  .show b3.cH=_;rw[J.cH,hJn,I.cH,e1];simp[dS,dB,show¬s.kind=0 by omega]
  .show b3.pl=_;rw[J.pl,hJp,I.pl,e2];simp[nK,nB,show¬s.kind=1 by omega];omega
  .show b3.ca=_;rw[J.ca,hJc,I.ca,e3];simp[nK,nB,show¬s.kind=8 by omega];omega
  .rw[WC,J.len,hJl,I.len,hAl];simp[Fb,Na];omega
  .intro i hi;rw[Tr,jQ (by omega),J.pre i (by omega),hJa,jQ (by omega),I.pre i (by omega),A6,jT hi]
  .rw[WC]at hst;have c0:=hst b.r9.length (gS _) (by omega);rw[Tr,jR rfl,J.pre _ (by omega),hJa,jR rfl,I.pre _ (by omega),hA]at c0;refine⟨_,c0,ME (.inl hk) _ _ _,hk,?_,?_⟩
   .have:=I.laid (dL ts2++more) st (fun i hi hi'=>by rw[hst i (by omega) (by omega),Tr,jQ (by omega),J.pre i (by omega),hJa,jQ (by omega)])
    rw[e2,e3,<-jU,<-hJn,<-J.cH]at this
    exact this
   .have:=J.laid more st (fun i hi hi'=>by rw[hst i (by omega) hi',Tr,jQ (by omega)])
    rw[hJp,hJc,I.pl,I.ca,e2,e3]at this
    exact this
theorem DT:∀(ts:List TS) (a:Nat) (b:Bd),ID fn par ts b.cH->Zo (dL ts) (nL 1 ts) (nL 8 ts) (Dy ts) b (AU fn ts a b) (fun vars st=>GP fn vars st ts (AN ts a b) a b.pl b.ca)
 |[],a,b,_=>⟨by simp[AU,dL],by simp[AU,nL],by simp[AU,nL],by simp[AU,Dy],fun i _=>by rw[AU],fun more st _=>by simp only[AN,iJ,if_true];rfl⟩
 |[t],a,b,h=>by have I:=Jy t a b h.1;rw[AU];refine⟨by rw[I.cH];simp[dL],by rw[I.pl];simp[nL],by rw[I.ca];simp[nL],by rw[I.len];simp[Dy],I.pre,fun more st hst=>?_⟩;refine⟨a,?_,rfl⟩;have:=I.laid more st hst;simpa[AN]using this
 |t::t2::ts,a,b,h=>by
  have I:=Jy t (b.r9.length+Fb t) b h.1;rw[AU];generalize Dx fn t (b.r9.length+Fb t) b=b1 at I⊢;have J:=DT (t2::ts) a b1 (by rw[I.cH];exact h.2);generalize AU fn (t2::ts) a b1=b2 at J⊢;have i4:=I.len;have j4:=J.len;refine⟨by rw[J.cH,I.cH];simp[dL],by rw[J.pl,I.pl];simp[nL];omega,by rw[J.ca,I.ca];simp[nL];omega,by rw[J.len,I.len];simp[Dy];omega,fun i hi=>by rw[J.pre i (by omega),I.pre i hi],fun more st hst=>?_⟩;refine⟨b.r9.length+Fb t,?_,?_⟩
  .have:=I.laid (dL (t2::ts)++more) st (fun i hi hi'=>by rw[hst i hi (by omega),J.pre i hi']);rw[<-jU,<-J.cH]at this;simpa[AN]using this
  .have:=J.laid more st (fun i hi hi'=>hst i (by omega) hi');rw[I.pl,I.ca]at this;simp only[AN,gU,jQ (show¬ts.length+1=0 by omega)]at this;rw[i4]at this;exact this
end
end
def xfR:List TF->Nat->Nat->List XF
 |[],_,_=>[]
 |t::l,b,a=>⟨t.u9.map (fun p=>p.d9)++dL t.cP,t.u9.length,t.cP,b,a⟩::xfR l (b+nL 1 t.cP) (a+nL 8 t.cP)
def bY(a:List TF):Prop:=∀t,t∈a->ID (a.map fun f=>f.name.d9) (a.map fun f=>f.u9.length) t.cP (t.u9.map fun p=>p.d9)
theorem Mo{fn:List ByteArray}{par:List Nat}(t:TF)(b a:Nat)(h:ID fn par t.cP (t.u9.map fun p=>p.d9)):
 (CV fn t b a).t8=t.u9.map (fun p=>p.d9)++dL t.cP/\(GK fn t b a).pl=b+nL 1 t.cP/\(GK fn t b a).ca=a+nL 8 t.cP/\(CV fn t b a).r9.length=Dy t.cP/\GP fn (t.u9.map (fun p=>p.d9)++dL t.cP) (CV fn t b a).r9 t.cP 0 (CV fn t b a).r9.length b a:=by
 have I:=DT t.cP (Dy t.cP) (Rh t b a) h;have c:(CV fn t b a).r9.length=Dy t.cP:=by show(AU fn t.cP (Dy t.cP) (Rh t b a)).r9.length=_;rw[I.len];simp[Rh]
 refine⟨I.cH,I.pl,I.ca,c,?_⟩;rw[c];have:=I.laid [] (CV fn t b a).r9 (fun _ _ _=>rfl);rw[iZ,I.cH]at this;have e:AN t.cP (Dy t.cP) (Rh t b a)=0:=by
  unfold AN;cases t.cP with
  |nil=>rfl
  |cons _ _=>rfl
 rw[e]at this;exact this
def Vo(b:ByteArray):Prop:=∀x,x∈b.data.toList->97<=x.toNat
def bZ(t:PT):Prop:=t.kind=1->Vo t.d9
def TW(l:List PT):Prop:=∀t,t∈l->bZ t
theorem Mb:Vo ByteArray.empty:=fun x a=>jY a (by show¬x∈([]:List UInt8);simp)
theorem TW.snoc{l t}(h:TW l)(b:bZ t):TW (l++[t]):=by
 intro u d;rcases iW.1 d with a|a
 .exact h u a
 .rw[iL.1 a];exact b
theorem Qc{s a b}(h:∀k,a<=k->k<b->97<=bt s k):Vo (s.extract a b):=by intro x d;rw[kB,Array.mem_toList_iff,Array.mem_iff_getElem]at d;obtain⟨i,e,rfl⟩:=d;rw[Array.getElem_extract];have f:i<(s.data.extract a b).size:=e;rw[Array.size_extract]at f;have q:=h (a+i) (by omega) (by omega);unfold bt at q;rw[Array.getElem?_eq_getElem (by omega)]at q;exact q
theorem Ur{s p}(h:Kg (Utf8.decode s p).1=true):∀k,p<=k->k<p+(Utf8.decode s p).2->97<=bt s k:=by
 intro k g a;rw[J8]at h a;have b:∀r:Nat,Kg r=true->97<=r/\r<=255:=fun r q=>by unfold Kg at q;simp only[Bool.or_eq_true,Bool.and_eq_true,jN]at q;omega
 split at h
 .rename_i d;rw[jR d]at a;have:=b _ h;simp only at this a;have:k=p:=by omega
  subst this;omega
 .rename_i d;rw[jQ d]at a;split at h
  .rename_i e;rw[jR e]at a;split at h
   .rename_i f;rw[jR f]at a;simp only at a;have:k=p\/k=p+1:=by omega
    rcases this with rfl|rfl
    .omega
    .omega
   .exact jY (b _ h) (by simp)
  .split at h
   .split at h
    .have:=b _ h;simp only at this;omega
    .exact jY (b _ h) (by simp)
   .split at h
    .split at h
     .have:=b _ h;simp only at this;omega
     .exact jY (b _ h) (by simp)
    .exact jY (b _ h) (by simp)
structure IB(s:ByteArray)(p:Nat)(x:Sc):Prop where
 wd:TW x.cV
 rm:x.rem=true->x.cN=0
 lt:0<x.cN->∀k,x.start<=k->k<p->97<=bt s k
theorem IB.dT{s p x}(h:IB s p x):TW (Dj s p x).cV/\(Dj s p x).cN=0:=by
 unfold Proofs.YtaningfhibkemaaGreatDoor.Dj;split
 .rename_i a;exact⟨h.wd.snoc (fun _=>Qc (h.lt a)),rfl⟩
 .exact⟨h.wd,rfl⟩
theorem Uv(r):BZ r≠1:=by
 unfold BZ;repeat' split
 all_goals decide
theorem Va{s p x}(h:IB s p x)(a:(AQ s p (Utf8.decode s p).1 x).2.2=true):IB s (p+(Utf8.decode s p).2) (AQ s p (Utf8.decode s p).1 x).1:=by
 unfold AQ at a⊢;split at a
 .cases a
 rename_i n;rw[jQ n];split at a
 .rename_i b;rw[jR b];have q:=h.rm b;exact⟨h.wd,fun _=>q,fun r=>by simp only at r;omega⟩
 rename_i b;rw[jQ b];split at a
 .rename_i d;rw[jR d];split at a
  .cases a
  rename_i m;rw[jQ m];refine⟨h.wd,fun q=>jY q b,fun _ k j o=>?_⟩;rcases jG k p with q|q
  .simp only[Cy]at j;split at j
   .omega
   .exact h.lt (by omega) k j q
  .exact Ur d k q o
 .rename_i d;rw[jQ d];obtain⟨e,f⟩:=h.dT;unfold DR at a⊢;split at a
  .rename_i g;rw[jR g];exact⟨e,fun _=>f,fun q=>by simp only at q;omega⟩
  rename_i g;rw[jQ g];split at a
  .rename_i i;rw[jR i];exact⟨e,fun _=>f,fun q=>by simp only at q;omega⟩
  rename_i i;rw[jQ i];split at a
  .cases a
  rename_i l;rw[jQ l];exact⟨e.snoc (fun q=>jY q (Uv _)),fun _=>f,fun q=>by simp only at q;omega⟩
theorem KO(s:ByteArray):∀(f p:Nat) (x y:Sc),s.size-p<=f->IB s p x->AF s f p x=.inr y->∃q,s.size<=q/\IB s q y
 |0,p,x,y,a,h,e=>by have:=Sum.inr.inj e;subst this;exact⟨p,by omega,h⟩
 |f+1,p,x,y,a,h,e=>by
  unfold AF at e;split at e
  .rename_i d;split at e
   .rename_i b;have:=Gx s p d;exact KO s f _ _ y (by omega) (Va h b) e
   .cases e
  .have:=Sum.inr.inj e;subst this;exact⟨p,by omega,h⟩
theorem Sf{s y}(h:AF s s.size 0 ⟨[],false,0,0⟩=.inr y):TW (Av s y):=by obtain⟨q,j,a⟩:=KO s _ _ _ _ (by omega) ⟨fun _ g=>jY g (by simp),fun _=>rfl,fun q=>by simp only at q;omega⟩ h;have e:IB s s.size y:=⟨a.wd,a.rm,fun b k d i=>a.lt b k d (by omega)⟩;exact e.dT.1.snoc (fun f=>jY (show(0:Nat)=1 from f) (by decide))
section
variable{toks:List PT}{Q:ByteArray->Prop}(H:∀t,t∈toks->t.kind=1->Q t.d9)(c:Q ByteArray.empty)
include H c
theorem WQ{p:Nat}(h:(Aj toks p).kind=1):Q (Aj toks p).d9:=by
 rcases jG p toks.length with q|q
 .have e:Aj toks p=toks[p]:=by unfold Aj;rw[gV q];rfl
  rw[e]at h⊢;exact H _ (iA _) h
 .unfold Aj;rw[iS q];exact c
theorem Ih(x:PS):Q (AH toks 1 x).d9:=by
 unfold AH;split
 .rename_i h;exact WQ H c h
 .exact c
theorem Tp:∀(f:Nat) (x:PS) (a:List PT),(∀t,t∈a->Q t.d9)->∀t,t∈(DO toks f x a).1->Q t.d9
 |0,_,_,h=>h
 |f+1,x,a,h=>by
  rw[DO];split
  .rename_i b;refine Tp f _ _ (fun t d=>?_);rcases iW.1 d with q|q
   .exact h t q
   .rw[iL.1 q];exact WQ H c b
  .exact h
theorem UA(n:Nat)(x:PS):∀t,t∈(Bt toks n x).1->Q t.d9:=by unfold Bt;exact Tp H c _ _ _ (fun t a=>jY a iR)
theorem UI(n:Nat)(x:PS):Q (AT toks n x).1.tg.d9:=by
 unfold AT;split
 .exact Ih H c _
 .split
  .exact c
  .split
   .exact Ih H c _
   .exact Ih H c _
omit H c in
theorem VV:∀(a b:List TS),dL (a++b)=dL a++dL b
 |[],b=>by simp[dL]
 |t::a,b=>by simp[dL,VV a b]
theorem Lx(n:Nat):∀f:Nat,(∀(x:PS) (d:List TS),(∀s,s∈dL d->Q s)->∀s,s∈dL (AO toks n f x d).1->Q s)/\(∀(x:PS),∀s,s∈dS (Bw toks n f x).1->Q s)
 |0=>⟨fun x d h=>by rw[AO];exact h,fun x s a=>by rw[Bw]at a;simp only[dS,dB,EK,if_true,iZ,iL]at a;subst a;exact c⟩
 |f+1=>by
  obtain⟨b,e⟩:=Lx n f;have b:=fun x=>b x [] (fun s a=>jY a (by simp[dL]))
  refine⟨fun x d h=>?_,fun x s a=>?_⟩
  .rw[AO];split
   .refine(Lx n f).1 _ _ (fun s a=>?_);rw[VV]at a;rcases iW.1 a with q|q
    .exact h s q
    .simp only[dL,iZ]at q;exact e _ s q
   .exact h
  .rw[Bw]at a;split at a
   .simp only at a;split at a
    .simp only[dS,dB,EK,iZ,iW]at a;rcases a with q|q|q
     .exact jY q (by simp)
     .exact b _ s q
     .exact b _ s q
    .simp only[dS,dB,EK,iZ,iW]at a;rcases a with q|q
     .exact jY q (by simp)
     .exact b _ s q
   .split at a
    .simp only[dS,dB,EK,iZ,iW]at a;rcases a with q|q
     .exact jY q (by simp)
     .exact b _ s q
    .simp only[dS,dB,iZ]at a;split at a
     .rw[iL]at a;subst a;exact UI H c n x
     .exact jY a iR
def Vy(Q:ByteArray->Prop)(t:TF):Prop:=Q t.name.d9/\(∀p,p∈t.u9->Q p.d9)/\∀s,s∈dL t.cP->Q s
theorem V9(n:Nat)(x:PS):Vy Q (JU toks n x).1:=by unfold JU;exact⟨Ih H c _,UA H c n _,(Lx H c n _).1 _ [] (fun s a=>jY a (by simp[dL]))⟩
theorem Ta(n:Nat):∀(f:Nat) (x:PS) (a:List TF),(∀t,t∈a->Vy Q t)->∀t,t∈(El toks n f x a).1->Vy Q t
 |0,_,_,h=>by rw[El];exact h
 |f+1,x,a,h=>by
  rw[El];split
  .refine Ta n f _ _ (fun t b=>?_);rcases iW.1 b with q|q
   .exact h t q
   .rw[iL.1 q];exact V9 H c n x
  .exact h
theorem WK(n:Nat)(x:PS):∀t,t∈(Cp toks n x).1->Vy Q t:=by unfold Cp;refine Ta H c n n _ _ (fun t a=>?_);rw[iL.1 a];exact V9 H c n x
end
theorem EO{e p:Nat}{c:CS}(a:e≠0):(Bi e p c).cS≠0:=by
 unfold Bi;split
 .exact a
 .rename_i h;exact fun q=>h (.inl q)
theorem GE{a:List ByteArray}{t:Tk}{c:CS}(h:(DS a t c).cS=0):t.d9∈a/\c.cS=0:=by
 unfold DS at h;split at h
 .rename_i q;exact⟨(C0 a t.d9 0).1.1 q,h⟩
 .exact jY h (EO (by decide))
theorem Tb{a:List RF}{t:Tk}{m:Int}{c:CS}(h:(Ev a t m c).cS=0):t.d9∈a.map (fun f=>f.name.d9)/\c.cS=0/\(0<=m->((((a.map fun f=>f.cQ.length)[vx (a.map fun f=>f.name.d9) t.d9]?).getD 0:Nat):Int)=m):=by
 unfold Ev at h;split at h
 .rename_i q;split at h
  .exact jY h (EO (by decide))
  .rename_i d;refine⟨(C0 _ t.d9 0).1.1 q,h,fun b=>?_⟩;rcases Classical.em (((((a.map fun f=>f.cQ.length)[(BC (a.map fun f=>f.name.d9) t.d9 0).toNat]?).getD 0:Nat):Int)=m)with e|e
   .exact e
   .exact jY ⟨b,e⟩ d
 .exact jY h (EO (by decide))
theorem Ps{a:List ByteArray}{t:Tk}{c:CS}(h:(Dt a t c).cS=0):t.d9∉a/\a.length<12/\c.cS=0:=by
 unfold Dt at h;simp only at h;split at h
 .exact jY h (EO (by decide))
 .rename_i q;split at h
  .exact jY h (EO (by decide))
  .rename_i b;exact⟨fun m=>q ((C0 a t.d9 0).1.2 m),by omega,h⟩
theorem QY{a:List ByteArray}:∀{l:List PT} {c:CS},((l.map Ao).foldl (fun c t=>DS a t c) c).cS=0->(∀t,t∈l->t.d9∈a)/\c.cS=0
 |[],c,h=>⟨fun _ q=>(by cases q),h⟩
 |t::l,c,h=>by
  obtain⟨b,d⟩:=QY (l:=l) h;obtain⟨e,f⟩:=GE d;refine⟨fun u i=>?_,f⟩;rcases jJ.1 i with q|q
  .subst q;exact e
  .exact b u q
section
variable{rf:List RF}{g:List ByteArray}{o:List Nat}(r:rf.map (fun f=>f.name.d9)=g)(v:rf.map (fun f=>f.cQ.length)=o)
include r v
theorem UF{s:VS}{j:List ByteArray}{c:CS}(_hk:s.kind<=10)(h:(Dp rf s (j,c)).2.cS=0):c.cS=0/\(Dp rf s (j,c)).1=j++(if s.kind=0 then[s.tg.d9]else[])/\bJ g o s j:=by
 unfold Dp at h⊢;by_cases a:s.kind=0
 .simp only[jR a]at h⊢;obtain⟨f,l,w⟩:=Ps h;exact⟨w,by trivial,⟨fun _=>⟨f,l⟩,fun q=>jY a q,fun q=>by omega,fun q=>by omega,fun q=>by omega,fun q=>by omega⟩⟩
 simp only[jQ a]at h⊢;by_cases k:s.kind=10
 .simp only[jR k]at h⊢;obtain⟨f,l⟩:=GE h;exact⟨l,by simp,⟨fun q=>jY q a,fun _ q=>jY k q,fun q=>by omega,fun q=>by omega,fun _=>f,fun q=>by omega⟩⟩
 simp only[jQ k]at h⊢;unfold MA at h;by_cases f:s.kind=1
 .rw[jR f]at h;obtain⟨d,e⟩:=GE h;exact⟨e,by simp,⟨fun q=>jY q a,fun _ _=>d,fun q=>by omega,fun q=>by omega,fun q=>by omega,fun q=>by omega⟩⟩
 rw[jQ f]at h;obtain⟨m,h⟩:=QY h;by_cases t:s.kind=4
 .rw[jR t]at h;obtain⟨b,i,n⟩:=Tb h;obtain⟨d,e⟩:=GE i;rw[r]at b;exact⟨e,by simp,⟨fun q=>jY q a,fun _ _=>d,fun _=>b,fun q=>by omega,fun q=>by omega,fun _=>m⟩⟩
 rw[jQ t]at h;by_cases u:s.kind=7
 .rw[jR u]at h;obtain⟨b,i,n⟩:=Tb h;obtain⟨d,e⟩:=GE i;have p:=n (by omega);rw[r,v]at p;rw[r]at b;exact⟨e,by simp,⟨fun q=>jY q a,fun _ _=>d,fun _=>b,fun _=>by exact_mod_cast p,fun q=>by omega,fun _=>m⟩⟩
 rw[jQ u]at h;obtain⟨b,i⟩:=GE h;obtain⟨d,e⟩:=GE i;exact⟨e,by simp,⟨fun q=>jY q a,fun _ _=>d,fun q=>by omega,fun q=>by omega,fun _=>b,fun _=>m⟩⟩
theorem Xb:∀(d i:Nat) (t:TS) (a:List ByteArray) (c:CS),Rd d t->(FM rf d i t (a,c)).2.cS=0->c.cS=0/\(FM rf d i t (a,c)).1=a++dS t/\XW g o t a
 |0,_,_,_,_,h,_=>h.elim
 |d+1,i,.mk s M,a,c,h,f=>by
  have L:∀(k:List TS) (a:List ByteArray) (c:CS),(∀t,t∈k->Rd d t)->(k.foldl (fun x t=>FM rf d (i+1) t x) (a,c)).2.cS=0->c.cS=0/\(k.foldl (fun x t=>FM rf d (i+1) t x) (a,c)).1=a++dL k/\ID g o k a:=by
   intro k;induction k with
   |nil=>intro a c _ h;exact⟨h,by simp[dL],trivial⟩
   |cons t k H=> intro a c n h;simp only[jB]at h⊢;have e:FM rf d (i+1) t (a,c)=((FM rf d (i+1) t (a,c)).1,(FM rf d (i+1) t (a,c)).2):=rfl;rw[e]at h⊢;obtain⟨F,w,y⟩:=H _ _ (fun u E=>n u (iK _ E)) h;obtain⟨l,b,j⟩:=Xb d (i+1) t a c (n t jP) F;rw[b]at w y;exact⟨l,by rw[b,w];simp[dL],j,y⟩
  have B:∀{c:CS} {p:Nat},(if 6<i+1 then Bi 4 p c else c).cS=0->c.cS=0:=by
   intro c p h;split at h
   .exact jY h (EO (by decide))
   .exact h
  rcases h with⟨rfl,q⟩|⟨p,k,rfl,rfl|rfl,m⟩|⟨p,k,N,P,rfl,rfl,m,C⟩
  .rw[FM,jQ (by omega)]at f⊢;obtain⟨l,b,j⟩:=UF r v q f;exact⟨l,by rw[b];simp[dS,dB],q,j⟩
  .rw[FM,jR (by simp[EK])]at f⊢;simp only[jB,jM]at f⊢;obtain⟨l,b,j⟩:=L _ _ _ m f;exact⟨B l,by rw[b];simp[dS,dB,EK],.inl rfl,j⟩
  .rw[FM,jR (by simp[EK])]at f⊢;simp only[jB,jM]at f⊢;obtain⟨l,b,j⟩:=L _ _ _ m f;exact⟨B l,by rw[b];simp[dS,dB,EK],.inr rfl,j⟩
  .rw[FM,jR (by simp[EK])]at f⊢;simp only[jB,jM]at f⊢;obtain⟨l,b,j⟩:=L _ _ _ C f;obtain⟨I,z,K⟩:=L _ _ _ m (B l);rw[z]at b j;exact⟨B I,by rw[z,b];simp[dS,dB,EK],rfl,K,j⟩
theorem ZQ(d f:Nat):∀(b:List TS) (a:List ByteArray) (c:CS),(∀t,t∈b->Rd d t)->(Gs rf d f b (a,c)).2.cS=0->c.cS=0/\(Gs rf d f b (a,c)).1=a++dL b/\ID g o b a:=by
 intro b;unfold Gs;induction b with
 |nil=>intro a c _ h;exact⟨h,by simp[dL],trivial⟩
 |cons t b s=> intro a c j h;simp only[jB]at h⊢;have e:FM rf d f t (a,c)=((FM rf d f t (a,c)).1,(FM rf d f t (a,c)).2):=rfl;rw[e]at h⊢;obtain⟨q,k,l⟩:=s _ _ (fun u p=>j u (iK _ p)) h;obtain⟨m,i,n⟩:=Xb r v d f t a c (j t jP) q;rw[i]at k l;exact⟨m,by rw[i,k];simp[dL],n,l⟩
end
theorem QG:∀(l:List PT) (d:List ByteArray) (c:CS),(CP l (d,c)).2.cS=0->c.cS=0/\(CP l (d,c)).1=d++l.map (fun p=>p.d9)/\(d.Nodup->(d++l.map (fun p=>p.d9)).Nodup)/\(d.length<=12->d.length+l.length<=12)
 |[],d,c,h=>⟨h,by simp[CP],fun q=>by simpa using q,fun q=>by simpa using q⟩
 |t::l,d,c,h=>by
  obtain⟨f,i,j,k⟩:=QG l (d++[t.d9]) (Dt d (Ao t) c) h;obtain⟨s,w,u⟩:=Ps f;refine⟨u,?_,fun n=>?_,fun _=>?_⟩
  .show(CP l (d++[t.d9],Dt d (Ao t) c)).1=_;rw[i];simp
  .have:=j (List.nodup_append.2 ⟨n,List.nodup_cons.2 ⟨iR,List.nodup_nil⟩,fun a m b e=>by rw[iL]at e;subst e;exact fun q=>s (by subst q;exact m)⟩)
   simpa using this
  .have:=k (by simp;omega);simp at this⊢;omega
mutual
theorem NA{g:List ByteArray}{o:List Nat}:∀(t:TS) (vs:List ByteArray),XW g o t vs->(vs.Nodup->(vs++dS t).Nodup)/\(vs.length<=12->(vs++dS t).length<=12)
 |.mk s [],vs,h=>by
  obtain⟨_,ho⟩:=h;simp only[dS,dB,iZ];split
  .rename_i h0;obtain⟨h1,h2⟩:=ho.decl h0;refine⟨fun hn=>List.nodup_append.2 ⟨hn,List.nodup_cons.2 ⟨iR,List.nodup_nil⟩,fun a ha b hb=>?_⟩,fun _=>by simp;omega⟩;rw[iL]at hb;subst hb;exact fun q=>h1 (by subst q;exact ha)
  .simp
 |.mk s [(p,ts)],vs,h=>by have:=E0 ts vs h.2;have hk:=h.1;simpa[dS,dB,show¬s.kind=0 by omega]using this
 |.mk s [(p,ts),(p2,ts2)],vs,h=>by obtain⟨hk,h1,h2⟩:=h;have a:=E0 ts vs h1;have b:=E0 ts2 (vs++dL ts) h2;simp only[dS,dB,show¬s.kind=0 by omega,if_false,jO,iZ];rw[<-jU];exact⟨fun q=>b.1 (a.1 q),fun q=>b.2 (a.2 q)⟩
theorem E0{g:List ByteArray}{o:List Nat}:∀(ts:List TS) (vs:List ByteArray),ID g o ts vs->(vs.Nodup->(vs++dL ts).Nodup)/\(vs.length<=12->(vs++dL ts).length<=12)
 |[],vs,_=>by simp[dL]
 |t::ts,vs,h=>by have a:=NA t vs h.1;have b:=E0 ts (vs++dS t) h.2;simp only[dL];rw[<-jU];exact⟨fun q=>b.1 (a.1 q),fun q=>b.2 (a.2 q)⟩
end
def CY(t:TF):List ByteArray:=t.u9.map (fun p=>p.d9)++dL t.cP
def EN:ByteArray:=⟨#[109,97,105,110]⟩
structure bM(fns:List TF):Prop where
 ok:bY fns
 dC:fns.length<=12
 cH:∀i (h:i<fns.length),BC (fns.map fun f=>f.name.d9) fns[i].name.d9 0=i
 t8:∀t,t∈fns->(CY t).Nodup/\(CY t).length<=12
 main:EN∈fns.map (fun f=>f.name.d9)
 gM:(fns.map fun f=>f.u9.length)[vx (fns.map fun f=>f.name.d9) EN]?.getD 0=0
theorem W8{rf:List RF}{i:Nat}{t:TF}{c:CS}(h:(Gb rf i t c).cS=0):BC (rf.map fun f=>f.name.d9) t.name.d9 0=i/\i<12/\c.cS=0:=by
 unfold Gb at h;split at h
 .rename_i q;split at h
  .exact jY h (EO (by decide))
  .exact⟨q,by omega,h⟩
 .exact jY h (EO (by decide))
section
variable{rf:List RF}{g:List ByteArray}{o:List Nat}(r:rf.map (fun f=>f.name.d9)=g)(v:rf.map (fun f=>f.cQ.length)=o)
include r v
theorem YN{d i:Nat}{t:TF}{c:CS}(m:∀s,s∈t.cP->Rd d s)(h:(EI rf d i t c).2.cS=0):
 c.cS=0/\(EI rf d i t c).1=CY t/\ID g o t.cP (t.u9.map fun p=>p.d9)/\(CY t).Nodup/\(CY t).length<=12/\BC g t.name.d9 0=i/\i<12:=by
 unfold EI at h⊢;have e:CP t.u9 ([],Gb rf i t c)=((CP t.u9 ([],Gb rf i t c)).1,(CP t.u9 ([],Gb rf i t c)).2):=rfl;rw[e]at h⊢;obtain⟨l,b,a⟩:=ZQ r v d 1 t.cP _ _ m h;obtain⟨q,f,u,w⟩:=QG _ _ _ l;obtain⟨k,y,z⟩:=W8 q;rw[f,jO]at b a;have n:=E0 t.cP _ a;have j:=u List.nodup_nil;have x:=w (by simp);rw[jO]at j;rw[r]at k;refine⟨z,?_,a,n.1 j,n.2 (by simp at x⊢;omega),k,y⟩;rw[f,jO,b];rfl
theorem Lj{d:Nat}:∀(l:List TF) (i:Nat) (x:List RF×CS),(∀t,t∈l->∀s,s∈t.cP->Rd d s)->(BK rf d l i x).2.cS=0->
 x.2.cS=0/\(∀j (h:j<l.length),ID g o l[j].cP (l[j].u9.map fun p=>p.d9)/\(CY l[j]).Nodup/\(CY l[j]).length<=12/\BC g l[j].name.d9 0=((i+j:Nat):Int)/\i+j<12)/\
 (BK rf d l i x).1.length=x.1.length/\(∀j (h:j<(BK rf d l i x).1.length) (C:j<x.1.length),((BK rf d l i x).1[j]).name=(x.1[j]).name/\((BK rf d l i x).1[j]).cQ=(x.1[j]).cQ/\((BK rf d l i x).1[j]).cT=(x.1[j]).cT/\(j<i->((BK rf d l i x).1[j]).t8=(x.1[j]).t8)/\∀k (b:k<l.length),j=i+k->((BK rf d l i x).1[j]).t8=CY l[k])
 |[],i,x,_,h=>⟨h,fun j h=>by simp at h,rfl,fun j h C=>⟨rfl,rfl,rfl,fun _=>rfl,fun k b=>by simp at b⟩⟩
 |t::l,i,x,f,h=>by
  rw[BK]at h;obtain⟨w,y,z,B⟩:=Lj (d:=d) l (i+1) _ (fun u I=>f u (iK _ I)) h;have E:=f t jP;obtain⟨L,M,N,P,Q,R,S⟩:=YN r v (i:=i) (c:=x.2) E w;refine⟨L,fun j a=>?_,?_,fun j a F=>?_⟩
  .cases j with
   |zero=>exact⟨N,P,Q,R,S⟩
   |succ j=> obtain⟨U,V,X,q4,q5⟩:=y j (by simpa using a);exact⟨U,V,X,by rw[jH,q4];congr 1;omega,by omega⟩
  .rw[BK,z,D9]
  .have m:j<(wv x.1 i (EI rf d i t x.2).1).length:=by rw[D9];exact F
   have q:=B j a m;have K:∀(H:j<(wv x.1 i (EI rf d i t x.2).1).length),((wv x.1 i (EI rf d i t x.2).1)[j]).name=(x.1[j]).name/\((wv x.1 i (EI rf d i t x.2).1)[j]).cQ=(x.1[j]).cQ/\((wv x.1 i (EI rf d i t x.2).1)[j]).cT=(x.1[j]).cT/\(j≠i->((wv x.1 i (EI rf d i t x.2).1)[j]).t8=(x.1[j]).t8)/\(j=i->((wv x.1 i (EI rf d i t x.2).1)[j]).t8=CY t):=by
    intro H;simp only[wv,List.getElem_modify];split
    .rename_i e;exact⟨rfl,rfl,rfl,fun n=>jY e.symm n,fun _=>M⟩
    .rename_i e;exact⟨rfl,rfl,rfl,fun _=>rfl,fun n=>jY n.symm e⟩
   obtain⟨w1,w2,w3,w4,w5⟩:=K m;simp only[BK]at a⊢;refine⟨q.1.trans w1,q.2.1.trans w2,q.2.2.1.trans w3,fun a0=>(q.2.2.2.1 (by omega)).trans (w4 (by omega)),fun k b he=>?_⟩;cases k with
   |zero=>exact(q.2.2.2.1 (by omega)).trans (w5 (by omega))
   |succ k=>exact q.2.2.2.2 k (by simpa using b) (by omega)
end
theorem Jq{d:Nat}{rf:List RF}{h:List FS}{b:List TF}(a:TQ d rf h b):rf.map (fun f=>f.name.d9)=b.map (fun f=>f.name.d9)/\rf.map (fun f=>f.cQ.length)=b.map (fun f=>f.u9.length):=by
 constructor
 .apply jL
  .simp[a.len]
  .intro i c e;simp only[jE,(a.fr i (by simpa using c) (by simpa using e)).name,Ao]
 .apply jL
  .simp[a.len]
  .intro i c e;simp only[jE,(a.fr i (by simpa using c) (by simpa using e)).cQ,iT]
theorem V0{rf:List RF}{N:Nat}{c:CS}(h:(MW rf N c).cS=0):c.cS=0/\EN∈rf.map (fun f=>f.name.d9)/\(rf.map fun f=>f.cQ.length)[vx (rf.map fun f=>f.name.d9) EN]?.getD 0=0:=by
 unfold MW at h;split at h
 .rename_i q;exact⟨h,(C0 _ EN 0).1.1 q.1,q.2⟩
 .exact jY h (EO (by decide))
theorem Zw{rf:List RF}{a:List TF}{N:Nat}(l:rf.map (fun f=>f.name.d9)=a.map (fun f=>f.name.d9))(m:rf.map (fun f=>f.cQ.length)=a.map (fun f=>f.u9.length))(u:∀t,t∈a->∀s,s∈t.cP->Rd 4000 s)(h:(MW rf N (BK rf 4000 a 0 (rf,⟨0,0⟩)).2).cS=0):bM a:=by
 obtain⟨n,k,d⟩:=V0 h;obtain⟨w,b,x,y⟩:=Lj l m a 0 (rf,⟨0,0⟩) u n;rw[l]at k d;rw[m]at d;refine⟨fun t e=>?_,?_,fun i p=>?_,fun t e=>?_,k,d⟩
 .obtain⟨j,c,rfl⟩:=iP.1 e;exact(b j c).1
 .rcases jG 12 a.length with q|q
  .have:=(b 12 q).2.2.2.2;omega
  .exact q
 .have:=(b i p).2.2.2.1;simpa using this
 .obtain⟨j,c,rfl⟩:=iP.1 e;exact⟨(b j c).2.1,(b j c).2.2.1⟩
structure bO(rf:List RF)(fns:List TF)(fs:List FS):Prop where
 len:rf.length=fns.length
 name:∀i (h:i<rf.length) (h':i<fns.length),rf[i].name=Ao fns[i].name
 cQ:∀i (h:i<rf.length) (h':i<fns.length),rf[i].cQ=fns[i].u9.map Ao
 cT:∀i (h:i<rf.length) (h':i<fns.length),CQ (Dw i 4000 fs) rf[i].cT fns[i].cP
 t8:∀i (h:i<rf.length) (h':i<fns.length),rf[i].t8=CY fns[i]
theorem Ms{rf:List RF}{e:List FS}{b:List TF}(c:TQ 4000 rf e b)(m:∀t,t∈b->∀s,s∈t.cP->Rd 4000 s)(h:(BK rf 4000 b 0 (rf,⟨0,0⟩)).2.cS=0):bO (BK rf 4000 b 0 (rf,⟨0,0⟩)).1 b e:=by
 obtain⟨j,k⟩:=Jq c;obtain⟨n,p,f,d⟩:=Lj j k b 0 (rf,⟨0,0⟩) m h;simp only at f d;have l:=c.len;refine⟨by rw[f,l],fun i h a=>?_,fun i h a=>?_,fun i h a=>?_,fun i h a=>?_⟩
 .rw[(d i h (by omega)).1,(c.fr i (by omega) a).name]
 .rw[(d i h (by omega)).2.1,(c.fr i (by omega) a).cQ]
 .rw[(d i h (by omega)).2.2.1];exact(c.fr i (by omega) a).cT
 .exact(d i h (by omega)).2.2.2.2 i a (by omega)
def IC(R:Nat->Nat->Nat->Nat->Nat->Prop):List Nat->Nat->Nat->Nat->Nat->Prop
 |[],c,a,d,b=>d=c/\b=a
 |j::l,c,a,d,b=>∃f e,R j c a f e/\IC R l f e d b
theorem IC.mono{R S:Nat->Nat->Nat->Nat->Nat->Prop}(h:∀j a b c d,R j a b c d->S j a b c d):∀{l:List Nat} {a b c d:Nat},IC R l a b c d->IC S l a b c d
 |[],_,_,_,_,q=>q
 |_::_,_,_,_,_,⟨f,e,g,i⟩=>⟨f,e,h _ _ _ _ _ g,IC.mono h i⟩
def Fz:Nat->List FS->Nat->Nat->Nat->Nat->Nat->Prop
 |0,_,_,_,_,_,_=>False
 |d+1,g,i,h,f,n,l=>∃u,g[i]? =T u/\
   ((u.kind≠12/\u.kind≠13/\n=h+(if u.kind=2 then 1 else 0)/\l=f+(if u.kind=9 then 1 else 0)/\(u.kind=2->u.l7=h+1)/\(u.kind=9->u.l7=f+1))\/
    ((u.kind=12\/u.kind=13)/\∃m k,IC (fun j a b c e=>i<j/\Fz d g j a b c e) u.cT h f m k/\IC (fun j a b c e=>i<j/\Fz d g j a b c e) u.other m k n l))
theorem Fz.up:∀{d:Nat} {f:List FS} {i a b c e:Nat},Fz d f i a b c e->Fz (d+1) f i a b c e
 |0,_,_,_,_,_,_,h=>h.elim
 |d+1,f,i,a,b,c,e,h=>by
  obtain⟨u,j,h⟩:=h;refine⟨u,j,?_⟩;rcases h with h|⟨k,n,g,l,m⟩
  .exact .inl h
  .exact .inr ⟨k,n,g,l.mono (fun _ _ _ _ _ q=>⟨q.1,q.2.up⟩),m.mono (fun _ _ _ _ _ q=>⟨q.1,q.2.up⟩)⟩
theorem Fz.dV{k:Nat}:∀{d:Nat} {f g:List FS} {i a b c e:Nat},Fz d f i a b c e->k<=i->(∀j,k<=j->j<f.length->g[j]? =f[j]?)->Fz d g i a b c e
 |0,_,_,_,_,_,_,_,h,_,_=>h.elim
 |d+1,f,g,i,a,b,c,e,h,t,m=>by
  obtain⟨u,l,h⟩:=h;have s:i<f.length:=by
   rcases jG i f.length with q|q
   .exact q
   .rw[iS q]at l;cases l
  refine⟨u,by rw[m i t s];exact l,?_⟩;rcases h with h|⟨o,v,n,p,r⟩
  .exact .inl h
  .exact .inr ⟨o,v,n,p.mono (fun _ _ _ _ _ q=>⟨q.1,q.2.dV (by have:=q.1;omega) m⟩),r.mono (fun _ _ _ _ _ q=>⟨q.1,q.2.dV (by have:=q.1;omega) m⟩)⟩
theorem Fz.pre{d:Nat}{f g:List FS}{i a b c e:Nat}(h:Fz d f i a b c e)(m:Kv f g):Fz d g i a b c e:=h.dV (k:=0) (iF _) (fun j _ l=>m.2 j l)
inductive La (fs:List FS) (l:List Nat):Nat->Prop
 |root {k:Nat}:k∈l->La fs l k
 |cT {j k:Nat} {u:FS}:La fs l j->fs[j]? =T u->u.kind=12\/u.kind=13->k∈u.cT->La fs l k
 |other {j k:Nat} {u:FS}:La fs l j->fs[j]? =T u->u.kind=12\/u.kind=13->k∈u.other->La fs l k
theorem La.thru{a:List FS}{l m:List Nat}{k:Nat}(h:La a l k)(f:∀j,j∈l->La a m j):La a m k:=by
 induction h with
 |root q=>exact f _ q
 |cT _ c b d e=>exact .cT e c b d
 |other _ c b d e=>exact .other e c b d
theorem La.look{e f:List FS}{l:List Nat}{k:Nat}(h:La e l k)(g:∀(j:Nat) (u:FS),e[j]? =T u->f[j]? =T u\/(u.cT=[]/\u.other=[])):La f l k:=by
 induction h with
 |root q=>exact .root q
 |cT _ c b a d=>
  rcases g _ _ c with q|q
  .exact .cT d q b a
  .rw[q.1]at a;cases a
 |other _ c b a d=>
  rcases g _ _ c with q|q
  .exact .other d q b a
  .rw[q.2]at a;cases a
theorem La.pre{a b:List FS}{l:List Nat}{k:Nat}(h:La a l k)(c:Kv a b):La b l k:=h.look fun j u q=>.inl (by rw[c.2 j (List.getElem?_eq_some_iff.1 q).1];exact q)
theorem La.set{a r:List FS}{l:List Nat}{k:Nat}(h:La r l k)(u:FS)(c:Kv (a++[CC 0 0]) r):La (r.set a.length u) l k:=h.look fun j v q=>by
 by_cases e:j=a.length
 .have b:=c.2 a.length (by simp);rw[<-e,q,e,jS (gS _),Nat.sub_self]at b;cases b;exact .inr ⟨rfl,rfl⟩
 .rw[List.getElem?_set_ne (fun q=>e q.symm)];exact .inl q
theorem XH(a:List Tk)(x:St)(s:FS):(Dd a x s).1.kind<=9/\(Dd a x s).2.pl=x.pl+(if (Dd a x s).1.kind=2 then 1 else 0)/\(Dd a x s).2.ca=x.ca+(if (Dd a x s).1.kind=9 then 1 else 0)/\((Dd a x s).1.kind=2->(Dd a x s).1.l7=x.pl+1)/\((Dd a x s).1.kind=9->(Dd a x s).1.l7=x.ca+1):=by
 unfold Dd;split
 .simp[Aw]
 .split
  .simp only;split<;>simp[Aw,Bo]
  .split
   .simp[Aw,Bo]
   .split
    .simp[Aw,Bo]
    .split
     .simp[Aw,Bo,Cb]
     .simp only;split<;>simp[Aw,Bo,Cb]
theorem RR(a:List Tk)(b:Nat)(x:St):(Bc a b x).1.kind<=11/\(Bc a b x).2.pl=x.pl+(if (Bc a b x).1.kind=2 then 1 else 0)/\(Bc a b x).2.ca=x.ca+(if (Bc a b x).1.kind=9 then 1 else 0)/\((Bc a b x).1.kind=2->(Bc a b x).1.l7=x.pl+1)/\((Bc a b x).1.kind=9->(Bc a b x).1.l7=x.ca+1):=by
 unfold Bc;split
 .simp[Aw,Bo]
 .split
  .simp[Aw,Bo]
  .split
   .simp[Aw,Bo]
   .obtain⟨c,d,e,f,g⟩:=XH a (Aw a [61] (Bo a 1 x).2) {CC b (-1)with p:=(Bo a 1 x).1};exact⟨iG c (by decide),d,e,f,g⟩
theorem VO{g:List Tk}{n:Nat}(hz:(tokAt g (n-1)).sort=0):∀f:Nat,
 (∀(i:Nat) (x:St) (d:List FS) (m:List Nat),IA n x d.length->(x.cL=Z->2*(n-x.cJ)+1<=f)->(AA g f i x d m).2.1.cL=Z->
   ∃H,(AA g f i x d m).1=m++H/\IC (fun j a b c e=>d.length<=j/\Fz f (AA g f i x d m).2.2 j a b c e) H x.pl x.ca (AA g f i x d m).2.1.pl (AA g f i x d m).2.1.ca/\Kv d (AA g f i x d m).2.2/\∀k,d.length<=k->k<(AA g f i x d m).2.2.length->La (AA g f i x d m).2.2 H k)/\
 (∀(i:Nat) (x:St) (d:List FS),IA n x d.length->x.cL=Z->2*(n-x.cJ)<=f->(AK g f i x d).2.1.cL=Z->
   (AK g f i x d).1=d.length/\Fz f (AK g f i x d).2.2 d.length x.pl x.ca (AK g f i x d).2.1.pl (AK g f i x d).2.1.ca/\Kv d (AK g f i x d).2.2/\∀k,d.length<=k->k<(AK g f i x d).2.2.length->La (AK g f i x d).2.2 [d.length] k):=by
 have E:=A9 g;have C:∀(L:List UInt8) (x:St),x.cJ<n->(Aw g L x).cJ<n:=fun L x h=>Ci rfl hz h
 have BP:=DX (toks:=g) (n:=n) hz;intro f;induction f with
 |zero=>
  refine⟨fun i x d m h S l=>?_,fun i x d h l S _=>?_⟩
  .rw[AA]at l;have:=S l;omega
  .have:=h.1;omega
 |succ f ih=>
  refine⟨fun i x d m h S l=>?_,fun i x d h F S l=>?_⟩
  .rw[AA]at l⊢;split at l
   .rename_i hc;rw[jR hc];exact⟨[],by simp,⟨rfl,rfl⟩,Kv.refl _,fun k a b=>jY b (Nat.not_lt.2 a)⟩
   .rename_i hc;rw[jQ hc];have F:x.cL=Z:=by
     cases F:x.cL with
     |none=>rfl
     |some b=>exact jY (.inl (by simp[F])) hc
    have b8:=S F;have b7:=h.1;obtain⟨a1,a2,a3,a4⟩:=(BP f).2 i x d h F;have a8:(AK g f i x d).2.1.cL=Z:=by
     cases hq:(AK g f i x d).2.1.cL with
     |none=>rfl
     |some p=>rw[CJ _ _ _ _ _ hq]at l;simp only[hq]at l;cases l
    have a5:=a4 (by omega) a8;obtain⟨b1,b2,b3,b4⟩:=ih.2 i x d h F (by omega) a8;obtain⟨H,c1,c2,Q,c4⟩:=ih.1 i _ _ (m++[(AK g f i x d).1]) a1 (fun _=>by omega) l;refine⟨d.length::H,by rw[c1,b1];simp,⟨_,_,⟨gS _,(b2.pre Q).up⟩,c2.mono (fun _ _ _ _ _ q=>⟨by have:=q.1;omega,q.2.up⟩)⟩,b3.trans Q,fun k hk hl=>?_⟩;rcases jG k (AK g f i x d).2.2.length with q|q
    .exact((b4 k hk q).pre Q).thru fun j s=>.root (by rw[iL.1 s];exact jP)
    .exact(c4 k q hl).thru fun j s=>.root (iK _ s)
  .have hi:=h;obtain⟨h1,h2,h3,h4,h5⟩:=h;obtain⟨p1,p2,p3⟩:=h5 F;rw[AK]at l⊢;by_cases hw:AG (tokAt g x.cJ)=XR\/AG (tokAt g x.cJ)=Hm
   .rw[jR hw]at l⊢;simp only at l⊢;have B:=((E (AG (tokAt g x.cJ)) x).trans (E [63] _)).trans (E [123] (Aw g [63] (Aw g (AG (tokAt g x.cJ)) x)));have c2:=C [63] _ (C (AG (tokAt g x.cJ)) x h1);have Q:=C [123] _ c2;generalize Aw g [63] (Aw g (AG (tokAt g x.cJ)) x)=x2 at*;generalize Aw g [123] x2=M at*;have I0:IA n M (d++[CC 0 0]).length:=by obtain⟨g1,g2,g3,g4⟩:=B;refine⟨Q,by omega,by omega,by simp;omega,fun e=>?_⟩;have:=g4 e;simp only[gW,gU,iJ];omega
    have N1:=ih.1 i M (d++[CC 0 0]) [] I0 (fun e=>by have:=(B.2.2.2 e).2;omega);obtain⟨a1,a2,a3⟩:=(BP f).1 i M (d++[CC 0 0]) [] I0;generalize AA g f i M (d++[CC 0 0]) []=r at*;have w:=E [125] r.2.1;have c4:=C [125] r.2.1 a1.1;have I3:=a1.dJ w c4;generalize Aw g [125] r.2.1=o at*;have a9:∀(u:FS),(u.kind=12\/u.kind=13)->u.cT=r.1->u.other=[]->o.cL=Z->
     Fz (f+1) (r.2.2.set d.length u) d.length x.pl x.ca o.pl o.ca/\Kv d (r.2.2.set d.length u)/\∀k,d.length<=k->k<(r.2.2.set d.length u).length->La (r.2.2.set d.length u) [d.length] k:=by
     intro u hk a0 ho he;obtain⟨R,e2⟩:=w.2.2.2 he;obtain⟨H,X,n2,I,n4⟩:=N1 R;obtain⟨s1,z,s3,s4⟩:=GB d r.2.2 (CC 0 0) u I;refine⟨⟨u,z,.inr ⟨hk,o.pl,o.ca,?_,by rw[ho];exact⟨rfl,rfl⟩⟩⟩,s1,fun k a6 U=>?_⟩;rotate_left
     .rcases jG d.length k with q|q
      .refine((n4 k (by simp only[gW,iM];omega) (by simpa using U)).set u I).thru fun j s=>.cT (.root jP) z hk (by rw[a0,X];exact s)
      .exact .root (by rw[show k=d.length by omega];exact jP)
     rw[a0,X,jO,w.2.1,w.2.2.1,<-B.2.1,<-B.2.2.1];refine n2.mono (fun j a b c e q=>?_);have y:=q.1;simp only[gW,iM]at y;exact⟨by omega,q.2.dV (k:=d.length+1) (by omega) s4⟩
    by_cases a7:AG (tokAt g x.cJ)=XR
    .rw[jR a7]at l⊢;by_cases he:Bu o.cL (tokAt g o.cJ) Ef=true
     .rw[jR he]at l⊢;simp only at l⊢;have P:=(E Ef o).trans (E [123] (Aw g Ef o));have c5:=C [123] _ (C Ef o c4);generalize Aw g Ef o=x4 at*;generalize Aw g [123] x4=v at*;have I5:=I3.dJ P c5;have b6:M.cJ<=o.cJ:=iG a2 w.1;have N2:=ih.1 i v r.2.2 [] I5 (fun e=>by have:=(P.2.2.2 e).2;have:=B.1;omega);obtain⟨b1,b2,b3⟩:=(BP f).1 i v r.2.2 [] I5;have RB:∀p,v.cL=T p->(AA g f i v r.2.2 []).2.1.cL=T p:=fun p h=>by rw[CJ _ _ _ _ _ h];exact h
      generalize AA g f i v r.2.2 []=t at*;have E6:=E [125] t.2.1;generalize Aw g [125] t.2.1=x5 at*;obtain⟨R,e2⟩:=E6.2.2.2 l;obtain⟨b9,m1,m2,V,m4⟩:=N2 R;have b0:v.cL=Z:=by
       cases hq:v.cL with
       |none=>rfl
       |some p=>rw[RB p hq]at R;cases R
      obtain⟨f1,f2⟩:=P.2.2.2 b0;obtain⟨g1,g2⟩:=w.2.2.2 f1;obtain⟨H,X,n2,I,n4⟩:=N1 g1;obtain⟨s1,z,s3,s4⟩:=GB d t.2.2 (CC 0 0) {CC i (-1)with kind:=12,br:=(tokAt g x2.cJ).pos,cT:=r.1,dR:=(tokAt g x4.cJ).pos,other:=t.1} (I.trans V);have b5:=I.1;simp only[gW,iM]at b5;refine⟨by trivial,⟨_,z,.inr ⟨.inl rfl,r.2.1.pl,r.2.1.ca,?_,?_⟩⟩,s1,fun k a6 U=>?_⟩;rotate_left 2
      .rcases jG d.length k with q|q
       .rcases jG k r.2.2.length with K|K
        .exact(((n4 k (by simp only[gW,iM];omega) K).pre V).set _ (I.trans V)).thru fun j s=>.cT (.root jP) z (.inl rfl) (by show j∈r.1;rw[X];exact s)
        .exact((m4 k K (by simpa using U)).set _ (I.trans V)).thru fun j s=>.other (.root jP) z (.inl rfl) (by show j∈t.1;rw[m1];exact s)
       .exact .root (by rw[show k=d.length by omega];exact jP)
      .have N:IC (fun j a b c e=>(d++[CC 0 0]).length<=j/\Fz f r.2.2 j a b c e) r.1 M.pl M.ca r.2.1.pl r.2.1.ca:=by rw[X,jO];exact n2
       rw[B.2.1,B.2.2.1]at N;refine N.mono (fun j a b c e q=>?_);have y:=q.1;simp only[gW,iM]at y;exact⟨by omega,(q.2.pre V).dV (k:=d.length+1) (by omega) s4⟩
      .have N:IC (fun j a b c e=>r.2.2.length<=j/\Fz f t.2.2 j a b c e) t.1 v.pl v.ca t.2.1.pl t.2.1.ca:=by rw[m1,jO];exact m2
       rw[P.2.1,P.2.2.1,w.2.1,w.2.2.1,<-E6.2.1,<-E6.2.2.1]at N;refine N.mono (fun j a b c e q=>?_);have y:=q.1;exact⟨by omega,q.2.dV (k:=d.length+1) (by omega) s4⟩
     .rw[jQ he]at l⊢;simp only at l⊢;obtain⟨y,K⟩:=a9 {CC i (-1)with kind:=12,br:=(tokAt g x2.cJ).pos,cT:=r.1} (.inl rfl) rfl rfl l;exact⟨by trivial,y,K⟩
    .rw[jQ a7]at l⊢;simp only at l⊢;obtain⟨y,K⟩:=a9 {CC i (-1)with kind:=13,br:=(tokAt g x2.cJ).pos,cT:=r.1} (.inr rfl) rfl rfl l;exact⟨by trivial,y,K⟩
   .rw[jQ hw]at l⊢;simp only at l⊢;obtain⟨k1,k2,k3,k4,k5⟩:=RR g i x;obtain⟨s1,z,s3,_⟩:=GB d (d++[CC 0 0]) (CC 0 0) (Bc g i x).1 (Kv.refl _);have e:=E [59] (Bc g i x).2;exact⟨by trivial,⟨_,z,.inl ⟨by omega,by omega,by rw[e.2.1];exact k2,by rw[e.2.2.1];exact k3,k4,k5⟩⟩,s1,fun k a6 U=>.root (by simp at U;rw[show k=d.length by omega];exact jP)⟩
mutual
def FN(fs:List FS)(inn:Nat):TS->Nat->Nat->Nat->Prop
 |.mk s [],i,pl,ca=>∃u,fs[i]? =T u/\SC s u inn/\(s.kind=1->u.l7=pl+1)/\(s.kind=8->u.l7=ca+1)
 |.mk s [(_,ts)],i,pl,ca=>∃u,fs[i]? =T u/\u.dD=inn/\((s.kind=12/\u.kind=13)\/(s.kind=11/\u.kind=12))/\u.other=[]/\TK fs inn ts u.cT pl ca
 |.mk s [(_,ts),(_,ts2)],i,pl,ca=>∃u,fs[i]? =T u/\u.dD=inn/\s.kind=11/\u.kind=12/\TK fs inn ts u.cT pl ca/\TK fs inn ts2 u.other (pl+nL 1 ts) (ca+nL 8 ts)
 |.mk _ (_::_::_::_),_,_,_=>False
def TK(fs:List FS)(inn:Nat):List TS->List Nat->Nat->Nat->Prop
 |[],l,_,_=>l=[]
 |t::ts,l,pl,ca=>∃j l',l=j::l'/\FN fs inn t j pl ca/\TK fs inn ts l' (pl+nK 1 t) (ca+nK 8 t)
end
theorem Ul{k:Nat}:DB k=2↔k=1:=by
 unfold DB;repeat' split
 all_goals omega
theorem RD{k:Nat}:DB k=9↔k=8:=by
 unfold DB;repeat' split
 all_goals omega
theorem Px{P:Nat}{y:List FS}:∀(d e i m k w r:Nat) (t:TS),Dw P d y i t->Fz e y i m k w r->FN y P t i m k/\w=m+nK 1 t/\r=k+nK 8 t
 |0,_,_,_,_,_,_,_,h,_=>h.elim
 |_+1,0,_,_,_,_,_,_,_,h=>h.elim
 |d+1,e+1,i,m,k,w,r,.mk s bl,h,C=>by
  have L:∀(l:List Nat) (o:List TS) (m k w r:Nat),CQ (fun j t=>i<j/\Dw P d y j t) l o->IC (fun j a b c x=>i<j/\Fz e y j a b c x) l m k w r->TK y P o l m k/\w=m+nL 1 o/\r=k+nL 8 o:=by
   intro l o m k w r X;induction X generalizing m k with
   |nil=>intro h;exact⟨rfl,by simp[nL,h.1],by simp[nL,h.2]⟩
   |@cons j t l o hj _ ih=> rintro⟨N,E,q1,q2⟩;obtain⟨r1,r2,r3⟩:=Px d e j m k N E t hj.2 q1.2;obtain⟨Q,S,U⟩:=ih N E q2;subst r2 r3;exact⟨⟨j,l,rfl,r1,Q⟩,by rw[S];simp[nL];omega,by rw[U];simp[nL];omega⟩
  obtain⟨u,M,h⟩:=h;obtain⟨u',V,C⟩:=C;rw[M]at V;cases V;rcases h with⟨rfl,R⟩|⟨p,o,rfl,rfl,q,I,_,_,K,H⟩|⟨p,o,rfl,rfl,q,I,_,_,K,H⟩|⟨p,o,p2,a2,rfl,rfl,q,I,_,_,H,a0⟩
  .have q:=R.kind;have hf:=R.dC;have a1:u.kind≠12/\u.kind≠13:=by
    rw[q];unfold DB;repeat' split
    all_goals omega
   rcases C with⟨_,_,n,g,f,v⟩|⟨n,_⟩
   .rw[q]at n g f v;simp only[Ul,RD]at n g f v;refine⟨⟨u,M,R,f,v⟩,?_,?_⟩
    .rw[n];simp[nK,nB]
    .rw[g];simp[nK,nB]
   .omega
  .rcases C with⟨n,g,_⟩|⟨n,N,E,g,f⟩
   .omega
   .obtain⟨F,z,B⟩:=L _ _ _ _ _ _ H g;rw[K]at f;obtain⟨f,v⟩:=f;exact⟨⟨u,M,I,.inl ⟨rfl,q⟩,K,F⟩,by rw[f,z];simp[nK,nB,EK],by rw[v,B];simp[nK,nB,EK]⟩
  .rcases C with⟨n,g,_⟩|⟨n,N,E,g,f⟩
   .omega
   .obtain⟨F,z,B⟩:=L _ _ _ _ _ _ H g;rw[K]at f;obtain⟨f,v⟩:=f;exact⟨⟨u,M,I,.inr ⟨rfl,q⟩,K,F⟩,by rw[f,z];simp[nK,nB,EK],by rw[v,B];simp[nK,nB,EK]⟩
  .rcases C with⟨n,g,_⟩|⟨n,N,E,g,f⟩
   .omega
   .obtain⟨F,z,B⟩:=L _ _ _ _ _ _ H g;obtain⟨Q,S,U⟩:=L _ _ _ _ _ _ a0 f;rw[z,B]at Q;exact⟨⟨u,M,I,rfl,q,F,Q⟩,by rw[S,z];simp[nK,nB,EK];omega,by rw[U,B];simp[nK,nB,EK];omega⟩
theorem Nr{p:Nat}{m:List FS}(d e:Nat):∀(l:List Nat) (i:List TS) (g f n k:Nat),CQ (Dw p d m) l i->IC (fun j a b c x=>Fz e m j a b c x) l g f n k->TK m p i l g f/\n=g+nL 1 i/\k=f+nL 8 i:=by
 intro l i g f n k r;induction r generalizing g f with
 |nil=>intro h;exact⟨rfl,by simp[nL,h.1],by simp[nL,h.2]⟩
 |@cons j t l i s _ u=> rintro⟨q,o,z,B⟩;obtain⟨C,E,F⟩:=Px d e j g f q o t s z;obtain⟨v,w,y⟩:=u q o B;subst E F;exact⟨⟨j,l,rfl,C,v⟩,by rw[w];simp[nL];omega,by rw[y];simp[nL];omega⟩
def Ja(e:Nat)(m:List FS):List RF->Nat->Nat->Nat->Nat->Prop
 |[],h,d,i,g=>i=h/\g=d
 |f::l,h,d,i,g=>∃n k,IC (fun j a b c x=>Fz e m j a b c x) f.cT h d n k/\Ja e m l n k i g
theorem Ja.pre{e:Nat}{f g:List FS}(i:Kv f g):∀{l:List RF} {a b c d:Nat},Ja e f l a b c d->Ja e g l a b c d
 |[],_,_,_,_,h=>h
 |_::_,_,_,_,_,⟨n,j,k,m⟩=>⟨n,j,k.mono (fun _ _ _ _ _ q=>q.pre i),Ja.pre i m⟩
theorem Ja.snoc{e:Nat}{k:List FS}:∀{l:List RF} {a b c d:Nat} {f:RF} {i g:Nat},Ja e k l a b c d->IC (fun j a b c x=>Fz e k j a b c x) f.cT c d i g->Ja e k (l++[f]) a b i g
 |[],_,_,_,_,f,i,g,h,q=>by obtain⟨rfl,rfl⟩:=h;exact⟨i,g,q,rfl,rfl⟩
 |_::_,_,_,_,_,_,_,_,⟨p,m,n,o⟩,q=>⟨p,m,n,Ja.snoc o q⟩

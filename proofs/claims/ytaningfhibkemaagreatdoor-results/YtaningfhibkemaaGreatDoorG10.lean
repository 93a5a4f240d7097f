/- Part of the proof: MbE RnA RnB RnC RnD. -/
import Derived.Test.YtaningfhibkemaaGreatDoorG16
namespace Go.Proofs.YtaningfhibkemaaGreatDoor
open Go.Proofs.Tryz
def vx(l:List ByteArray)(s:ByteArray):Nat:=(Bz l s 0).toNat
structure Bb where
 kind:Nat
 cO:Nat
 cC:Nat
 field:Nat
 cA:Nat
 args:List Nat
 next:Nat
 taken:Nat
structure PFn where
 name:ByteArray
 t8:List ByteArray
 u9:Nat
 r9:List Bb
structure Bd where
 bX:List ByteArray
 r9:List Bb
 pl:Nat
 ca:Nat
def AA(a:List ByteArray)(s:VS)(b:Bd):Bb:=
 {kind:=s.kind,cO:=if s.kind=0 then b.bX.length else vx b.bX s.tg.d9,cC:=if s.kind=4\/s.kind=7 then vx a s.sr.d9 else vx b.bX s.sr.d9,field:=s.field,
  cA:=if s.kind=1 then b.pl+1 else if s.kind=8 then b.ca+1 else 0,args:=s.args.map fun t=>vx b.bX t.d9,next:=0,taken:=0}
def BS(s:VS)(b:Bd):Bd:=
 {b with bX:=if s.kind=0 then b.bX++[s.tg.d9]else b.bX,pl:=if s.kind=1 then b.pl+1 else b.pl,ca:=if s.kind=8 then b.ca+1 else b.ca}
def Bd.tk(b:Bd)(i n:Nat):Bd:={b with r9:=b.r9.modify i (fun s=>{s with taken:=n})}
def Bd.nx(b:Bd)(i n:Nat):Bd:={b with r9:=b.r9.modify i (fun s=>{s with next:=n})}
mutual
def EU:TS->Nat
 |.mk _ bl=>1+MW bl
def MW:List (Nat×List TS)->Nat
 |[]=>0
 |(_,ts)::r=>Dr ts+MW r
def Dr:List TS->Nat
 |[]=>0
 |t::ts=>EU t+Dr ts
end
mutual
def nK(k:Nat):TS->Nat
 |.mk s bl=>(if s.kind=k then 1 else 0)+nB k bl
def nB(k:Nat):List (Nat×List TS)->Nat
 |[]=>0
 |(_,ts)::r=>nL k ts+nB k r
def nL(k:Nat):List TS->Nat
 |[]=>0
 |t::ts=>nK k t+nL k ts
end
def AM(c:List TS)(a:Nat)(b:Bd):Nat:=if c.length=0 then a else b.r9.length
def Ar(c:List ByteArray)(s:VS)(a:Nat)(b:Bd):Bd:={BS s b with r9:=b.r9++[{AA c s b with next:=a}]}
mutual
def Dq(fn:List ByteArray):TS->Nat->Bd->Bd
 |.mk s [],a,b=>Ar fn s a b
 |.mk s [(_,ts)],a,b=>
  if s.kind=11 then(AT fn ts a (Ar fn s a b)).tk b.r9.length (AM ts a (Ar fn s a b))
  else if s.kind=12 then(AT fn ts b.r9.length (Ar fn s a b)).tk b.r9.length (AM ts b.r9.length (Ar fn s a b))
  else Ar fn s a b
 |.mk s ((_,ts)::(_,ts2)::_),a,b=>
  if s.kind=11 then
   let b2:=(AT fn ts a (Ar fn s a b)).tk b.r9.length (AM ts a (Ar fn s a b))
   (AT fn ts2 a b2).nx b.r9.length (AM ts2 a b2)
  else Ar fn s a b
def AT(fn:List ByteArray):List TS->Nat->Bd->Bd
 |[],_,b=>b
 |[t],a,b=>Dq fn t a b
 |t::t2::ts,a,b=>AT fn (t2::ts) a (Dq fn t (b.r9.length+EU t) b)
end
def Q8(t:TF)(b a:Nat):Bd:=⟨t.u9.map (fun p=>p.d9),[],b,a⟩
def GA(b:List ByteArray)(t:TF)(c a:Nat):Bd:=AT b t.cF (Dr t.cF) (Q8 t c a)
def CN(b:List ByteArray)(t:TF)(c a:Nat):PFn:=⟨t.name.d9,(GA b t c a).bX,t.u9.length,(GA b t c a).r9⟩
def Bi(a:List ByteArray):List TF->Nat->Nat->List PFn
 |[],_,_=>[]
 |t::l,c,b=>CN a t c b::Bi a l (GA a t c b).pl (GA a t c b).ca
def BJ(c:List ByteArray):List TF->Nat->Nat->Nat×Nat
 |[],b,a=>(b,a)
 |t::l,b,a=>BJ c l (GA c t b a).pl (GA c t b a).ca
structure Tg where
 kind:Nat
 cP:Nat
 cT:Nat
structure Vl where
 kind:Nat
 dF:Nat
structure Cl where
 nm:Tg
 v:Vl
def Tu:Vl:=⟨0,0⟩
def Ek(m:List Cl)(i:Nat):Cl:=m[i]?.getD ⟨⟨0,0,0⟩,Tu⟩
structure Co where
 cU:List Cl
 ch:List UInt8
 fK:List (Tg×Tg)
 dT:List (Nat×Nat)
def Co.set(c:Co)(a:Nat)(v:Vl):Co:=
 {c with cU:=c.cU.set a ⟨(Ek c.cU a).nm,v⟩,fK:=if v.kind=1 then((Ek c.cU a).nm,⟨2,v.dF,0⟩)::c.fK else if v.kind=2 then((Ek c.cU a).nm,(Ek c.cU v.dF).nm)::c.fK else c.fK}
def Co.fields(c:Co)(a:Nat):Co:={c with cU:=c.cU++[⟨⟨1,a,0⟩,Tu⟩,⟨⟨1,a,1⟩,Tu⟩,⟨⟨1,a,2⟩,Tu⟩,⟨⟨1,a,3⟩,Tu⟩]}
def Co.t8(c:Co)(f n:Nat):Co:={c with cU:=c.cU++(List.range n).map fun i=>⟨⟨0,f,i⟩,Tu⟩}
def Y0:List Vl->Nat->Co->Co
 |[],_,c=>c
 |v::l,a,c=>Y0 l (a+1) (c.set a v)
def Co.enter(c:Co)(f n:Nat)(a:List Vl):Co:=Y0 a c.cU.length (c.t8 f n)
def Rd:List UInt8->Bool×List UInt8
 |[]=>(false,[])
 |b::l=>(b==49,l)
def bQ(k p q a b g:Nat)(c:Co):Option Co:=
 if k=1 then some ((c.fields b).set p ⟨2,c.cU.length⟩)
 else if k=2 then some (c.set p ⟨2,q⟩)
 else if k=3 then
  if (Ek c.cU q).v.kind=2/\(Ek c.cU (Ek c.cU q).v.dF).nm.kind=1/\(Ek c.cU (Ek c.cU q).v.dF).nm.cT=0 then some (c.set p ⟨2,(Ek c.cU q).v.dF+a⟩)else none
 else if k=4 then some (c.set p ⟨1,g⟩)
 else if k=5 then if (Ek c.cU q).v.kind=2 then some (c.set p (Ek c.cU (Ek c.cU q).v.dF).v)else none
 else if k=6 then some (c.set p (Ek c.cU q).v)
 else if k=9 then if (Ek c.cU p).v.kind=2 then some (c.set (Ek c.cU p).v.dF (Ek c.cU q).v)else none
 else some c
structure Vf where
 fn:Nat
 base:Nat
 next:Nat
 answer:Nat
structure Mc where
 c:Co
 dV:List Vf
 dO:Nat
def As(P:List PFn)(i:Nat):PFn:=P[i]?.getD ⟨⟨#[]⟩,[],0,[]⟩
def ZK(l:List Bb)(i:Nat):Bb:=l[i]?.getD ⟨0,0,0,0,0,[],0,0⟩
def LS(m:Mc)(v:Vl):Mc:=
 match m.dV with
 |[]=>m
 |[_]=>⟨m.c,[],2⟩
 |f::g::r=>⟨m.c.set f.answer v,g::r,m.dO⟩
def LZ(P:List PFn):Nat->Mc->Mc
 |0,m=>m
 |n+1,m=>
  if m.dO=1 then
   match m.dV with
   |[]=>m
   |f::_=>if f.next<(As P f.fn).r9.length then m else LZ P n (LS m Tu)
  else m
def VP(P:List PFn)(m:Mc)(f:Nat)(b:List Vl)(a:Nat):Mc:=
 if 40<=m.dV.length then{m with dO:=4}
 else⟨m.c.enter f (As P f).t8.length b,⟨f,m.c.cU.length,0,a⟩::m.dV,m.dO⟩
def XW(b:List Cl)(a:Nat)(l:List Nat):List Vl:=l.map fun i=>(Ek b (a+i)).v
def Xb(P:List PFn)(m:Mc):Mc:=
 match m.dV with
 |[]=>m
 |f::r=>
  let s:=ZK (As P f.fn).r9 f.next;let a:Mc:={m with dV:={f with next:=s.next}::r};if s.kind=7 then VP P a s.cC (XW m.c.cU f.base s.args) (f.base+s.cO)
  else if s.kind=8 then
   let h:=(Ek m.c.cU (f.base+s.cC)).v
   if h.kind=1/\(As P h.dF).u9=s.args.length then
    (if 40<=m.dV.length then{a with dO:=4}
     else VP P {a with c:={m.c with dT:=(s.cA,h.dF)::m.c.dT}} h.dF (XW m.c.cU f.base s.args) (f.base+s.cO))
   else{a with dO:=3}
  else if s.kind=10 then LS a (Ek m.c.cU (f.base+s.cC)).v
  else if s.kind=11\/s.kind=12 then
   {a with c:={m.c with ch:=(Rd m.c.ch).2},dV:={f with next:=if (Rd m.c.ch).1 then s.taken else s.next}::r}
  else
   match bQ s.kind (f.base+s.cO) (f.base+s.cC) s.field s.cA s.cC m.c with
   |some c=>{a with c:=c}
   |none=>{a with dO:=3}
def Rq(P:List PFn):Nat->Mc->Mc×Nat
 |0,m=>(LZ P 41 m,0)
 |n+1,m=>if (LZ P 41 m).dO=1 then Rq P n (Xb P (LZ P 41 m))else(LZ P 41 m,n+1)
structure RS where
 c:Co
 left:Nat
 r9:Nat
 dM:Nat
 dO:Nat
 eB:Vl
structure XF where
 t8:List ByteArray
 u9:Nat
 cF:List TS
 pl:Nat
 ca:Nat
def CC(X:List XF)(i:Nat):XF:=X[i]?.getD ⟨[],0,[],0,0⟩
def RS.one(s:RS):RS:={s with left:=s.left-1,r9:=s.r9+1}
def Kj(a:RS->Bool×RS):Nat->RS->Bool×RS
 |0,s=>(true,s)
 |n+1,s=>
  let b:RS:={s with c:={s.c with ch:=(Rd s.c.ch).2}};if (Rd s.c.ch).1=false then(false,b)
  else
   let r:=a b
   if r.1 then(true,r.2)
   else if r.2.left=0 then(true,{r.2 with dO:=1})
   else Kj a n r.2.one
def Zq(X:List XF)(b:Nat->Nat->List TS->Nat->Nat->RS->Bool×RS)(f:Nat)(a:List Vl)(s:RS):Bool×RS:=
 if s.dM=40 then(false,{s with dO:=4})
 else
  let r:=b f s.c.cU.length (CC X f).cF (CC X f).pl (CC X f).ca {s with c:=s.c.enter f (CC X f).t8.length a,dM:=s.dM+1,eB:=Tu}
  (r.2.dO==0,{r.2 with dM:=r.2.dM-1})
def Y1(X:List XF)(b:Nat->Nat->List TS->Nat->Nat->RS->Bool×RS)(f:Nat)(a:List Vl)(p:Nat)(s:RS):Bool×RS:=
 let r:=Zq X b f a s
 if r.1=false then(true,r.2)else(false,{r.2 with c:=r.2.c.set p r.2.eB,eB:=Tu})
def aT(X:List XF)(k:List ByteArray)(b:Nat->Nat->List TS->Nat->Nat->RS->Bool×RS)(n:Nat)(f a:Nat)(t:TS)(g e:Nat)(s:RS):Bool×RS:=
 match t with
 |.mk v j=>
  let i:=(CC X f).t8;let p:=a+vx i v.tg.d9;let q:=a+vx i v.sr.d9;let d:=(j[0]?.getD (0,[])).2;let l:=(j[1]?.getD (0,[])).2;if v.kind=0 then(false,s)
  else if v.kind=11 then
   if (Rd s.c.ch).1 then b f a d g e {s with c:={s.c with ch:=(Rd s.c.ch).2}}
   else b f a l (g+nL 1 d) (e+nL 8 d) {s with c:={s.c with ch:=(Rd s.c.ch).2}}
  else if v.kind=12 then Kj (b f a d g e) n s
  else if v.kind=10 then(true,{s with eB:=(Ek s.c.cU q).v})
  else if v.kind=7 then Y1 X b (vx k v.sr.d9) (XW s.c.cU a (v.args.map fun t=>vx i t.d9)) p s
  else if v.kind=8 then
   let h:=(Ek s.c.cU q).v
   if h.kind=1/\(CC X h.dF).u9=v.args.length then
    Y1 X b h.dF (XW s.c.cU a (v.args.map fun t=>vx i t.d9)) p {s with c:={s.c with dT:=if s.dM<40 then(e+1,h.dF)::s.c.dT else s.c.dT}}
   else(true,{s with dO:=3})
  else
   match bQ v.kind p q v.field (g+1) (vx k v.sr.d9) s.c with
   |some c=>(false,{s with c:=c})
   |none=>(true,{s with dO:=3})
def Kv(X:List XF)(a:List ByteArray):Nat->Nat->Nat->List TS->Nat->Nat->RS->Bool×RS
 |0,_,_,_,_,_,s=>(true,s)
 |_+1,_,_,[],_,_,s=>(false,s)
 |F+1,d,b,t::f,e,c,s=>
  if s.left=0 then(true,{s with dO:=1})
  else
   let r:=aT X a (Kv X a F) F d b t e c s.one
   if r.1=true\/r.2.dO≠0 then(true,r.2)
   else Kv X a F d b f (e+nK 1 t) (c+nK 8 t) r.2
structure Eg(d vars:List ByteArray)(s:VS)(u:Bb)(pl ca:Nat):Prop where
 kind:u.kind=s.kind
 cO:s.kind≠0->s.kind≠10->s.kind<11->u.cO=vx vars s.tg.d9
 func:s.kind=4\/s.kind=7->u.cC=vx d s.sr.d9
 cC:s.kind=2\/s.kind=3\/s.kind=5\/s.kind=6\/s.kind=8\/s.kind=9\/s.kind=10->u.cC=vx vars s.sr.d9
 field:u.field=s.field
 l7:s.kind=1->u.cA=pl+1
 call:s.kind=8->u.cA=ca+1
 args:s.kind=7\/s.kind=8->u.args=s.args.map fun t=>vx vars t.d9
mutual
def Vo(d vars:List ByteArray)(st:List Bb):TS->Nat->Nat->Nat->Nat->Prop
 |.mk s [],p,a,pl,ca=>∃u,st[p]? =some u/\Eg d vars s u pl ca/\s.kind<11/\u.next=a
 |.mk s [(_,ts)],p,a,pl,ca=>∃u,st[p]? =some u/\Eg d vars s u pl ca/\u.next=a/\((s.kind=11/\GE d vars st ts u.taken a pl ca)\/(s.kind=12/\GE d vars st ts u.taken p pl ca))
 |.mk s [(_,ts),(_,ts2)],p,a,pl,ca=>∃u,st[p]? =some u/\Eg d vars s u pl ca/\s.kind=11/\GE d vars st ts u.taken a pl ca/\GE d vars st ts2 u.next a (pl+nL 1 ts) (ca+nL 8 ts)
 |.mk _ (_::_::_::_),_,_,_,_=>False
def GE(d vars:List ByteArray)(st:List Bb):List TS->Nat->Nat->Nat->Nat->Prop
 |[],p,a,_,_=>p=a
 |t::ts,p,a,pl,ca=>∃m,Vo d vars st t p m pl ca/\GE d vars st ts m a (pl+nK 1 t) (ca+nK 8 t)
end
structure PX(d:List ByteArray)(P:List PFn)(X:List XF):Prop where
 t8:∀f,(As P f).t8.length=(CC X f).t8.length
 u9:∀f,(As P f).u9=(CC X f).u9
 laid:∀f,GE d (CC X f).t8 (As P f).r9 (CC X f).cF 0 (As P f).r9.length (CC X f).pl (CC X f).ca
section
variable{P:List PFn}
theorem Qa(n:Nat){c:Co}{f:Vf}{r:List Vf}{e:Nat}(h:f.next<(As P f.fn).r9.length):LZ P n ⟨c,f::r,e⟩=⟨c,f::r,e⟩:=by
 cases n with
 |zero=>rfl
 |succ n=>
  rw[LZ];split
  .simp only[jH h]
  .rfl
theorem V4(n:Nat){c:Co}{f:Vf}{r:List Vf}(h:f.next<(As P f.fn).r9.length):Rq P (n+1) ⟨c,f::r,1⟩=Rq P n (Xb P ⟨c,f::r,1⟩):=by rw[Rq,Qa _ h];simp
theorem V5{c:Co}{f:Vf}{r:List Vf}(h:f.next<(As P f.fn).r9.length):Rq P 0 ⟨c,f::r,1⟩=(⟨c,f::r,1⟩,0):=by rw[Rq,Qa _ h]
end
structure Vm(P:List PFn)(fi base ans a L0:Nat)(rest:List Vf)(m0:Mc)(s:RS)(r:Bool×RS):Prop where
 left:r.2.left<=s.left
 r9:r.2.r9+r.2.left=s.r9+s.left
 o:(r.1=false/\r.2.dO=0/\r.2.dM=s.dM/\r.2.eB=Tu/\Rq P L0 m0=Rq P r.2.left ⟨r.2.c,⟨fi,base,a,ans⟩::rest,1⟩)\/
  (r.1=true/\r.2.dO=0/\r.2.dM=s.dM/\Rq P L0 m0=Rq P r.2.left (LS ⟨r.2.c,⟨fi,base,a,ans⟩::rest,1⟩ r.2.eB))\/
  (r.1=true/\r.2.dO≠0/\∃frs,Rq P L0 m0=(⟨r.2.c,frs,r.2.dO⟩,r.2.left))
theorem Kt(c:Co)(j i a b h e:Nat)(f:List Vf)(v:Vl):LS ⟨c,⟨j,i,a,h⟩::f,e⟩ v=LS ⟨c,⟨j,i,b,h⟩::f,e⟩ v:=by cases f<;>rfl
theorem Vm.eN{P:List PFn}{q p o a b m n:Nat}{w:List Vf}{u v:Mc}{s j:RS}{r:Bool×RS}(h:Vm P q p o a n w v j r)(l:Rq P m u=Rq P n v)(z:j.left<=s.left)(A:j.r9+j.left=s.r9+s.left)(t:j.dM=s.dM)(e:r.1=true\/a=b):Vm P q p o b m w u s r:=by
 refine⟨gW h.left z,h.r9.trans A,?_⟩;rcases h.o with⟨c,f,k,y,i⟩|⟨c,f,k,i⟩|⟨c,f,x,i⟩
 .rcases e with e|e
  .rw[c]at e;cases e
  .subst e;exact .inl ⟨c,f,k.trans t,y,l.trans i⟩
 .exact .inr (.inl ⟨c,f,k.trans t,by rw[l,i,Kt]⟩)
 .exact .inr (.inr ⟨c,f,x,l.trans i⟩)
def bE(d:List ByteArray)(P:List PFn)(X:List XF)(F:Nat):Prop:=∀(b c:Nat) (j:List TS) (i h:Nat) (s:RS) (p a f:Nat) (e:List Vf),
 s.left<F->s.dO=0->s.eB=Tu->s.dM=e.length+1->s.dM<=40->GE d (CC X b).t8 (As P b).r9 j p a i h->
 Vm P b c f a s.left e ⟨s.c,⟨b,c,p,f⟩::e,1⟩ s (Kv X d F b c j i h s)
section
variable{d:List ByteArray}{P:List PFn}{X:List XF}(g:PX d P X)
include g
omit g in
theorem UM{F:Nat}(Q:bE d P X F)(b f:Nat)(w:List TS)(v m p a j:Nat)(i:List Vf)(u:Bb)(y:(As P b).r9[p]? =some u)(K:u.kind=12)(L:u.next=a)(E:GE d (CC X b).t8 (As P b).r9 w u.taken p v m):
 ∀(n:Nat) (s:RS),s.left<n->s.left<F->s.dO=0->s.eB=Tu->s.dM=i.length+1->s.dM<=40->
  Vm P b f j a (s.left+1) i ⟨s.c,⟨b,f,p,j⟩::i,1⟩ s (Kj (Kv X d F b f w v m) n s)
 |0,s,h,_,_,_,_,_=>Z
 |n+1,s,h,hF,G,H,hd,V=>by
  have M:p<(As P b).r9.length:=by
   rcases iW p (As P b).r9.length with q|q
   .exact q
   .rw[iI q]at y;cases y
  have a0:ZK (As P b).r9 p=u:=by unfold ZK;rw[y];rfl
  have k:Rq P (s.left+1) ⟨s.c,⟨b,f,p,j⟩::i,1⟩=Rq P s.left ⟨{s.c with ch:=(Rd s.c.ch).2},⟨b,f,if (Rd s.c.ch).1 then u.taken else a,j⟩::i,1⟩:=by rw[V4 _ M];unfold Xb;simp[a0,K,L]
  unfold Kj;by_cases x:(Rd s.c.ch).1=false
  .simp only[jH x];refine⟨gI _,rfl,.inl ⟨rfl,G,rfl,H,?_⟩⟩;rw[k,x];rfl
  .have Y:(Rd s.c.ch).1=true:=by simpa using x
   simp only[jG x];rw[Y]at k;simp only[if_true]at k;have I:=Q b f w v m {s with c:={s.c with ch:=(Rd s.c.ch).2}} u.taken p j i hF G H hd V E;generalize Kv X d F b f w v m {s with c:={s.c with ch:=(Rd s.c.ch).2}}=r at I⊢;obtain⟨z,A,N⟩:=I;simp only at z A N;rcases N with⟨o,t,C,U,l⟩|⟨o,t,C,l⟩|⟨o,t,S,l⟩
   .simp only[o,Bool.false_eq_true,if_false];by_cases B:r.2.left=0
    .simp only[jH B];refine⟨z,A,.inr (.inr ⟨rfl,jY,⟨b,f,p,j⟩::i,?_⟩)⟩;rw[k,l,B,V5 M]
    .simp only[jG B];have R:=UM Q b f w v m p a j i u y K L E n r.2.one (by simp only[RS.one];omega) (by simp only[RS.one];omega) t U (by simp only[RS.one];omega) (by simp only[RS.one];omega);refine R.eN ?_ (by simp only[RS.one];omega) (by simp only[RS.one];omega) (by simp only[RS.one];omega) (.inr rfl);rw[k,l];have e:r.2.one.left+1=r.2.left:=by simp only[RS.one];omega
     rw[e];rfl
   .simp only[o,if_true];exact⟨z,A,.inr (.inl ⟨rfl,t,C,by rw[k,l,Kt]⟩)⟩
   .simp only[o,if_true];exact⟨z,A,.inr (.inr ⟨rfl,t,S,by rw[k,l]⟩)⟩
omit g in
theorem aJ{l:List ByteArray}{c:List Bb}{t:TS}{p a i f:Nat}(h:Vo d l c t p a i f):p<c.length:=by
 have e:∀{u:Bb},c[p]? =some u->p<c.length:=fun{u} b=>by
  rcases iW p c.length with q|q
  .exact q
  .rw[iI q]at b;cases b
 match t,h with
 |.mk v [],h=>obtain⟨u,b,_⟩:=h;exact e b
 |.mk v [(j,k)],h=>obtain⟨u,b,_⟩:=h;exact e b
 |.mk v [(j,k),(m,n)],h=>obtain⟨u,b,_⟩:=h;exact e b
end
mutual
def dS:TS->List ByteArray
 |.mk s bl=>(if s.kind=0 then[s.tg.d9]else[])++dB bl
def dB:List (Nat×List TS)->List ByteArray
 |[]=>[]
 |(_,ts)::r=>dL ts++dB r
def dL:List TS->List ByteArray
 |[]=>[]
 |t::ts=>dS t++dL ts
end
structure aY(fn:List ByteArray)(par:List Nat)(s:VS)(vs:List ByteArray):Prop where
 decl:s.kind=0->s.tg.d9∉vs/\vs.length<12
 tg:s.kind≠0->s.kind≠10->s.tg.d9∈vs
 func:s.kind=4\/s.kind=7->s.sr.d9∈fn
 many:s.kind=7->par[vx fn s.sr.d9]?.getD 0=s.args.length
 sr:s.kind=2\/s.kind=3\/s.kind=5\/s.kind=6\/s.kind=8\/s.kind=9\/s.kind=10->s.sr.d9∈vs
 args:s.kind=7\/s.kind=8->∀t,t∈s.args->t.d9∈vs
mutual
def XK(fn:List ByteArray)(par:List Nat):TS->List ByteArray->Prop
 |.mk s [],vs=>s.kind<=10/\aY fn par s vs
 |.mk s [(_,ts)],vs=>(s.kind=11\/s.kind=12)/\Iu fn par ts vs
 |.mk s [(_,ts),(_,ts2)],vs=>s.kind=11/\Iu fn par ts vs/\Iu fn par ts2 (vs++dL ts)
 |.mk _ (_::_::_::_),_=>False
def Iu(fn:List ByteArray)(par:List Nat):List TS->List ByteArray->Prop
 |[],_=>True
 |t::ts,vs=>XK fn par t vs/\Iu fn par ts (vs++dS t)
end
theorem SM(l m:List ByteArray)(s:ByteArray)(h:s∈l):∀k,Bz (l++m) s k=Bz l s k:=by
 induction l with
 |nil=>cases h
 |cons a l c=>
  intro k;simp only[List.cons_append,Bz];split
  .rfl
  .rename_i b;rcases iZ.1 h with q|q
   .subst q;exact jO rfl b
   .exact c q (k+1)
theorem OE{l m:List ByteArray}{s:ByteArray}(h:s∈l):vx (l++m) s=vx l s:=by unfold vx;rw[SM l m s h]
structure Zd(dn:List ByteArray)(n1 n8 sz:Nat)(b b':Bd)(L:List ByteArray->List Bb->Prop):Prop where
 bX:b'.bX=b.bX++dn
 pl:b'.pl=b.pl+n1
 ca:b'.ca=b.ca+n8
 len:b'.r9.length=b.r9.length+sz
 pre:∀i,i<b.r9.length->b'.r9[i]? =b.r9[i]?
 laid:∀(more:List ByteArray) (st:List Bb),(∀i,b.r9.length<=i->i<b'.r9.length->st[i]? =b'.r9[i]?)->L (b'.bX++more) st
theorem NE{fn:List ByteArray}{par:List Nat}{s:VS}{b:Bd}(h:aY fn par s b.bX)(a:Nat)(g:List ByteArray):Eg fn (b.bX++g) s {AA fn s b with next:=a} b.pl b.ca:=by
 refine⟨rfl,fun d e _=>?_,fun c=>?_,fun c=>?_,rfl,fun c=>?_,fun c=>?_,fun c=>?_⟩
 .simp only[AA,jG d,OE (h.tg d e)]
 .simp only[AA,jH c]
 .simp only[AA,jG (show¬(s.kind=4\/s.kind=7) by omega),OE (h.sr c)]
 .simp only[AA,jH c]
 .simp only[AA,jG (show¬s.kind=1 by omega),jH c]
 .simp only[AA];exact List.map_congr_left fun t f=>(OE (h.args c t f)).symm
theorem Mv{fn:List ByteArray}{s:VS}{b:Bd}(d:s.kind=11\/s.kind=12)(c:List ByteArray)(a n:Nat):Eg fn c s {AA fn s b with next:=a,taken:=n} b.pl b.ca:=
 ⟨rfl,fun _ _ _=>Z,fun _=>Z,fun _=>Z,rfl,fun _=>Z,fun _=>Z,fun _=>Z⟩
theorem A5(fn:List ByteArray)(s:VS)(a:Nat)(b:Bd):(Ar fn s a b).r9=b.r9++[{AA fn s b with next:=a}]:=rfl
theorem Mu(fn:List ByteArray)(s:VS)(a:Nat)(b:Bd):(Ar fn s a b).r9[b.r9.length]? =some {AA fn s b with next:=a}:=by rw[A5,jI (gI _)];simp
theorem DW(fn:List ByteArray)(s:VS)(a:Nat)(b:Bd)(c:s.kind=11\/s.kind=12):(Ar fn s a b).bX=b.bX/\(Ar fn s a b).pl=b.pl/\(Ar fn s a b).ca=b.ca:=by refine⟨?_,?_,?_⟩<;>(simp only[Ar,BS];rw[jG Z])
theorem Tp(b:Bd)(i n j:Nat):(b.tk i n).r9[j]? =if i=j then(b.r9[j]?).map (fun s=>{s with taken:=n})else b.r9[j]? :=by simp only[Bd.tk,List.getElem?_modify];split<;>simp
theorem Tf(b:Bd)(i n j:Nat):(b.nx i n).r9[j]? =if i=j then(b.r9[j]?).map (fun s=>{s with next:=n})else b.r9[j]? :=by simp only[Bd.nx,List.getElem?_modify];split<;>simp
theorem Mz(b:Bd)(i n:Nat):(b.tk i n).r9.length=b.r9.length:=by simp[Bd.tk]
theorem Wr(b:Bd)(i n:Nat):(b.nx i n).r9.length=b.r9.length:=by simp[Bd.nx]
section
variable{fn:List ByteArray}{par:List Nat}
mutual
theorem Jp:∀(t:TS) (a:Nat) (b:Bd),XK fn par t b.bX->Zd (dS t) (nK 1 t) (nK 8 t) (EU t) b (Dq fn t a b) (fun vars st=>Vo fn vars st t b.r9.length a b.pl b.ca)
 |.mk s [],a,b,h=>by
  obtain⟨hk,ho⟩:=h;refine⟨?_,?_,?_,?_,?_,fun more st hst=>?_⟩
  .simp only[Dq,Ar,BS,dS,dB,iP];split<;>simp
  .simp only[Dq,Ar,BS,nK,nB,gX];split<;>rfl
  .simp only[Dq,Ar,BS,nK,nB,gX];split<;>rfl
  .simp[Dq,A5,EU,MW]
  .intro i hi;rw[Dq,A5,jJ hi]
  .have e:(Dq fn (.mk s []) a b).bX=b.bX++(if s.kind=0 then[s.tg.d9]else[]):=by simp only[Dq,Ar,BS];split<;>simp
   refine⟨_,(hst b.r9.length (gI _) (by simp[Dq,A5])).trans (Mu fn s a b),?_,Z,rfl⟩
   rw[e,jK]
   exact NE ho a _
 |.mk s [(p,ts)],a,b,h=>by
  obtain⟨hk,ho⟩:=h;obtain⟨e1,e2,e3⟩:=DW fn s a b hk;have hA:=Mu fn s a b;have hAl:(Ar fn s a b).r9.length=b.r9.length+1:=by simp[A5]
  have go:∀(g:Nat) (bb:Bd),AT fn ts g (Ar fn s a b)=bb->Zd (dS (.mk s [(p,ts)])) (nK 1 (.mk s [(p,ts)])) (nK 8 (.mk s [(p,ts)])) (EU (.mk s [(p,ts)])) b (bb.tk b.r9.length (AM ts g (Ar fn s a b)))
   (fun vars st=>∃u,st[b.r9.length]? =some u/\Eg fn vars s u b.pl b.ca/\u.next=a/\GE fn vars st ts u.taken g b.pl b.ca):=by
   intro g bb hbb;have I:=DM ts g (Ar fn s a b) (by rw[e1];exact ho);rw[hbb]at I;have i4:=I.len;refine⟨?_,?_,?_,?_,?_,fun more st hst=>?_⟩
   .show bb.bX=_;rw[I.bX,e1];simp[dS,dB,show¬s.kind=0 by omega]
   .show bb.pl=_;rw[I.pl,e2];simp[nK,nB,show¬s.kind=1 by omega]
   .show bb.ca=_;rw[I.ca,e3];simp[nK,nB,show¬s.kind=8 by omega]
   .rw[Mz,I.len,hAl];simp[EU,MW];omega
   .intro i hi;rw[Tp,jG Z,I.pre i Z,A5,jJ hi]
   .rw[Mz]at hst;have c0:=hst b.r9.length (gI _) Z;rw[Tp,jH rfl,I.pre _ Z,hA]at c0;refine⟨_,c0,Mv hk _ _ _,rfl,?_⟩;have:=I.laid more st (fun i hi hi'=>by rw[hst i Z hi',Tp,jG Z])
    rw[e2,e3]at this;exact this
  rw[Dq];rcases hk with hk|hk
  .rw[jH hk];obtain⟨g1,g2,g3,g4,g5,g6⟩:=go a _ rfl;refine⟨g1,g2,g3,g4,g5,fun more st hst=>?_⟩;obtain⟨u,q1,q2,q3,q4⟩:=g6 more st hst;exact⟨u,q1,q2,q3,.inl ⟨hk,q4⟩⟩
  .rw[jG Z,jH hk];obtain⟨g1,g2,g3,g4,g5,g6⟩:=go b.r9.length _ rfl;refine⟨g1,g2,g3,g4,g5,fun more st hst=>?_⟩;obtain⟨u,q1,q2,q3,q4⟩:=g6 more st hst;exact⟨u,q1,q2,q3,.inr ⟨hk,q4⟩⟩
 |.mk s [(p,ts),(p2,ts2)],a,b,h=>by
  obtain⟨hk,ho,ho2⟩:=h;obtain⟨e1,e2,e3⟩:=DW fn s a b (.inl hk);have hA:=Mu fn s a b;have hAl:(Ar fn s a b).r9.length=b.r9.length+1:=by simp[A5]
  have I:=DM ts a (Ar fn s a b) (by rw[e1];exact ho);rw[Dq,jH hk];simp only;generalize AT fn ts a (Ar fn s a b)=bb at I⊢;have i4:=I.len;have J:=DM ts2 a (bb.tk b.r9.length (AM ts a (Ar fn s a b))) (by show Iu fn par ts2 bb.bX;rw[I.bX,e1];exact ho2)
  have hJl:(bb.tk b.r9.length (AM ts a (Ar fn s a b))).r9.length=bb.r9.length:=Mz _ _ _;have hJp:(bb.tk b.r9.length (AM ts a (Ar fn s a b))).pl=bb.pl:=rfl;have hJc:(bb.tk b.r9.length (AM ts a (Ar fn s a b))).ca=bb.ca:=rfl;have hJn:(bb.tk b.r9.length (AM ts a (Ar fn s a b))).bX=bb.bX:=rfl;have hJa:=fun j=>Tp bb b.r9.length (AM ts a (Ar fn s a b)) j
  generalize bb.tk b.r9.length (AM ts a (Ar fn s a b))=bt at*;generalize AT fn ts2 a bt=b3 at J⊢;have j4:=J.len;refine⟨?_,?_,?_,?_,?_,fun more st hst=>?_⟩
  .show b3.bX=_;rw[J.bX,hJn,I.bX,e1];simp[dS,dB,show¬s.kind=0 by omega]
  .show b3.pl=_;rw[J.pl,hJp,I.pl,e2];simp[nK,nB,show¬s.kind=1 by omega];omega
  .show b3.ca=_;rw[J.ca,hJc,I.ca,e3];simp[nK,nB,show¬s.kind=8 by omega];omega
  .rw[Wr,J.len,hJl,I.len,hAl];simp[EU,MW];omega
  .intro i hi;rw[Tf,jG Z,J.pre i Z,hJa,jG Z,I.pre i Z,A5,jJ hi]
  .rw[Wr]at hst;have c0:=hst b.r9.length (gI _) Z;rw[Tf,jH rfl,J.pre _ Z,hJa,jH rfl,I.pre _ Z,hA]at c0;refine⟨_,c0,Mv (.inl hk) _ _ _,hk,?_,?_⟩
   .have:=I.laid (dL ts2++more) st (fun i hi hi'=>by rw[hst i Z Z,Tf,jG Z,J.pre i Z,hJa,jG Z])
    rw[e2,e3,<-jK,<-hJn,<-J.bX]at this
    exact this
   .have:=J.laid more st (fun i hi hi'=>by rw[hst i Z hi',Tf,jG Z])
    rw[hJp,hJc,I.pl,I.ca,e2,e3]at this
    exact this
theorem DM:∀(ts:List TS) (a:Nat) (b:Bd),Iu fn par ts b.bX->Zd (dL ts) (nL 1 ts) (nL 8 ts) (Dr ts) b (AT fn ts a b) (fun vars st=>GE fn vars st ts (AM ts a b) a b.pl b.ca)
 |[],a,b,_=>⟨by simp[AT,dL],by simp[AT,nL],by simp[AT,nL],by simp[AT,Dr],fun i _=>by rw[AT],fun more st _=>by simp only[AM,gZ,if_true];rfl⟩
 |[t],a,b,h=>by have I:=Jp t a b h.1;rw[AT];refine⟨by rw[I.bX];simp[dL],by rw[I.pl];simp[nL],by rw[I.ca];simp[nL],by rw[I.len];simp[Dr],I.pre,fun more st hst=>?_⟩;refine⟨a,?_,rfl⟩;have:=I.laid more st hst;simpa[AM]using this
 |t::t2::ts,a,b,h=>by
  have I:=Jp t (b.r9.length+EU t) b h.1;rw[AT];generalize Dq fn t (b.r9.length+EU t) b=b1 at I⊢;have J:=DM (t2::ts) a b1 (by rw[I.bX];exact h.2);generalize AT fn (t2::ts) a b1=b2 at J⊢;have i4:=I.len;have j4:=J.len;refine⟨by rw[J.bX,I.bX];simp[dL],by rw[J.pl,I.pl];simp[nL];omega,by rw[J.ca,I.ca];simp[nL];omega,by rw[J.len,I.len];simp[Dr];omega,fun i hi=>by rw[J.pre i Z,I.pre i hi],fun more st hst=>?_⟩;refine⟨b.r9.length+EU t,?_,?_⟩
  .have:=I.laid (dL (t2::ts)++more) st (fun i hi hi'=>by rw[hst i hi Z,J.pre i hi']);rw[<-jK,<-J.bX]at this;simpa[AM]using this
  .have:=J.laid more st (fun i hi hi'=>hst i Z hi');rw[I.pl,I.ca]at this;simp only[AM,gK,jG (show¬ts.length+1=0 by omega)]at this;rw[i4]at this;exact this
end
end
def xfR:List TF->Nat->Nat->List XF
 |[],_,_=>[]
 |t::l,b,a=>⟨t.u9.map (fun p=>p.d9)++dL t.cF,t.u9.length,t.cF,b,a⟩::xfR l (b+nL 1 t.cF) (a+nL 8 t.cF)
def bN(a:List TF):Prop:=∀t,t∈a->Iu (a.map fun f=>f.name.d9) (a.map fun f=>f.u9.length) t.cF (t.u9.map fun p=>p.d9)
theorem Mf{fn:List ByteArray}{par:List Nat}(t:TF)(b a:Nat)(h:Iu fn par t.cF (t.u9.map fun p=>p.d9)):
 (CN fn t b a).t8=t.u9.map (fun p=>p.d9)++dL t.cF/\(GA fn t b a).pl=b+nL 1 t.cF/\(GA fn t b a).ca=a+nL 8 t.cF/\(CN fn t b a).r9.length=Dr t.cF/\GE fn (t.u9.map (fun p=>p.d9)++dL t.cF) (CN fn t b a).r9 t.cF 0 (CN fn t b a).r9.length b a:=by
 have I:=DM t.cF (Dr t.cF) (Q8 t b a) h;have c:(CN fn t b a).r9.length=Dr t.cF:=by show(AT fn t.cF (Dr t.cF) (Q8 t b a)).r9.length=_;rw[I.len];simp[Q8]
 refine⟨I.bX,I.pl,I.ca,c,?_⟩;rw[c];have:=I.laid [] (CN fn t b a).r9 (fun _ _ _=>rfl);rw[iP,I.bX]at this;have e:AM t.cF (Dr t.cF) (Q8 t b a)=0:=by
  unfold AM;cases t.cF with
  |nil=>rfl
  |cons _ _=>rfl
 rw[e]at this;exact this
def Ve(b:ByteArray):Prop:=∀x,x∈b.data.toList->97<=x.toNat
def bO(t:PT):Prop:=t.kind=1->Ve t.d9
def TK(l:List PT):Prop:=∀t,t∈l->bO t
theorem LT:Ve ByteArray.empty:=fun x a=>jO a (by show¬x∈([]:List UInt8);simp)
theorem TK.snoc{l t}(h:TK l)(b:bO t):TK (l++[t]):=by
 intro u d;rcases iM.1 d with a|a
 .exact h u a
 .rw[iB.1 a];exact b
theorem PP{s a b}(h:∀k,a<=k->k<b->97<=bt s k):Ve (s.extract a b):=by intro x d;rw[jR,Array.mem_toList_iff,Array.mem_iff_getElem]at d;obtain⟨i,e,rfl⟩:=d;rw[Array.getElem_extract];have f:i<(s.data.extract a b).size:=e;rw[Array.size_extract]at f;have q:=h (a+i) Z Z;unfold bt at q;rw[Array.getElem?_eq_getElem Z]at q;exact q
theorem Ui{s p}(h:J7 (Utf8.decode s p).1=true):∀k,p<=k->k<p+(Utf8.decode s p).2->97<=bt s k:=by
 intro k g a;rw[JW]at h a;have b:∀r:Nat,J7 r=true->97<=r/\r<=255:=fun r q=>by unfold J7 at q;simp only[Bool.or_eq_true,Bool.and_eq_true,jD]at q;omega
 split at h
 .rename_i d;rw[jH d]at a;have:=b _ h;simp only at this a;have:k=p:=Z;subst this;omega
 .rename_i d;rw[jG d]at a;split at h
  .rename_i e;rw[jH e]at a;split at h
   .rename_i f;rw[jH f]at a;simp only at a;have:k=p\/k=p+1:=Z;rcases this with rfl|rfl
    .omega
    .omega
   .exact jO (b _ h) jY
  .split at h
   .split at h
    .have:=b _ h;simp only at this;omega
    .exact jO (b _ h) jY
   .split at h
    .split at h
     .have:=b _ h;simp only at this;omega
     .exact jO (b _ h) jY
    .exact jO (b _ h) jY
structure Ir(s:ByteArray)(p:Nat)(x:Sc):Prop where
 wd:TK x.cL
 rm:x.rem=true->x.cD=0
 lt:0<x.cD->∀k,x.start<=k->k<p->97<=bt s k
theorem Ir.dH{s p x}(h:Ir s p x):TK (Dc s p x).cL/\(Dc s p x).cD=0:=by
 unfold Proofs.YtaningfhibkemaaGreatDoor.Dc;split
 .rename_i a;exact⟨h.wd.snoc (fun _=>PP (h.lt a)),rfl⟩
 .exact⟨h.wd,rfl⟩
theorem Um(r):BN r≠1:=by
 unfold BN;repeat' split
 all_goals decide
theorem UV{s p x}(h:Ir s p x)(a:(AP s p (Utf8.decode s p).1 x).2.2=true):Ir s (p+(Utf8.decode s p).2) (AP s p (Utf8.decode s p).1 x).1:=by
 unfold AP at a⊢;split at a
 .cases a
 rename_i n;rw[jG n];split at a
 .rename_i b;rw[jH b];have q:=h.rm b;exact⟨h.wd,fun _=>q,fun r=>by simp only at r;omega⟩
 rename_i b;rw[jG b];split at a
 .rename_i d;rw[jH d];split at a
  .cases a
  rename_i m;rw[jG m];refine⟨h.wd,fun q=>jO q b,fun _ k j o=>?_⟩;rcases iW k p with q|q
  .simp only[Cr]at j;split at j
   .omega
   .exact h.lt Z k j q
  .exact Ui d k q o
 .rename_i d;rw[jG d];obtain⟨e,f⟩:=h.dH;unfold DK at a⊢;split at a
  .rename_i g;rw[jH g];exact⟨e,fun _=>f,fun q=>by simp only at q;omega⟩
  rename_i g;rw[jG g];split at a
  .rename_i i;rw[jH i];exact⟨e,fun _=>f,fun q=>by simp only at q;omega⟩
  rename_i i;rw[jG i];split at a
  .cases a
  rename_i l;rw[jG l];exact⟨e.snoc (fun q=>jO q (Um _)),fun _=>f,fun q=>by simp only at q;omega⟩
theorem KE(s:ByteArray):∀(f p:Nat) (x y:Sc),s.size-p<=f->Ir s p x->AE s f p x=.inr y->∃q,s.size<=q/\Ir s q y
 |0,p,x,y,a,h,e=>by have:=Sum.inr.inj e;subst this;exact⟨p,Z,h⟩
 |f+1,p,x,y,a,h,e=>by
  unfold AE at e;split at e
  .rename_i d;split at e
   .rename_i b;have:=Gn s p d;exact KE s f _ _ y Z (UV h b) e
   .cases e
  .have:=Sum.inr.inj e;subst this;exact⟨p,Z,h⟩
theorem RX{s y}(h:AE s s.size 0 ⟨[],false,0,0⟩=.inr y):TK (Av s y):=by obtain⟨q,j,a⟩:=KE s _ _ _ _ Z ⟨fun _ g=>jO g jY,fun _=>rfl,fun q=>by simp only at q;omega⟩ h;have e:Ir s s.size y:=⟨a.wd,a.rm,fun b k d i=>a.lt b k d Z⟩;exact e.dH.1.snoc (fun f=>jO (show(0:Nat)=1 from f) T)
section
variable{toks:List PT}{Q:ByteArray->Prop}(H:∀t,t∈toks->t.kind=1->Q t.d9)(c:Q ByteArray.empty)
include H c
theorem WD{p:Nat}(h:(Aj toks p).kind=1):Q (Aj toks p).d9:=by
 rcases iW p toks.length with q|q
 .have e:Aj toks p=toks[p]:=by unfold Aj;rw[gL q];rfl
  rw[e]at h⊢;exact H _ (gQ _) h
 .unfold Aj;rw[iI q];exact c
theorem Hw(x:PS):Q (AG toks 1 x).d9:=by
 unfold AG;split
 .rename_i h;exact WD H c h
 .exact c
theorem Td:∀(f:Nat) (x:PS) (a:List PT),(∀t,t∈a->Q t.d9)->∀t,t∈(DH toks f x a).1->Q t.d9
 |0,_,_,h=>h
 |f+1,x,a,h=>by
  rw[DH];split
  .rename_i b;refine Td f _ _ (fun t d=>?_);rcases iM.1 d with q|q
   .exact h t q
   .rw[iB.1 q];exact WD H c b
  .exact h
theorem Ur(n:Nat)(x:PS):∀t,t∈(Br toks n x).1->Q t.d9:=by unfold Br;exact Td H c _ _ _ (fun t a=>jO a iH)
theorem Uy(n:Nat)(x:PS):Q (AS toks n x).1.tg.d9:=by
 unfold AS;split
 .exact Hw H c _
 .split
  .exact c
  .split
   .exact Hw H c _
   .exact Hw H c _
omit H c in
theorem VL:∀(a b:List TS),dL (a++b)=dL a++dL b
 |[],b=>by simp[dL]
 |t::a,b=>by simp[dL,VL a b]
theorem Lm(n:Nat):∀f:Nat,(∀(x:PS) (d:List TS),(∀s,s∈dL d->Q s)->∀s,s∈dL (AN toks n f x d).1->Q s)/\(∀(x:PS),∀s,s∈dS (Bu toks n f x).1->Q s)
 |0=>⟨fun x d h=>by rw[AN];exact h,fun x s a=>by rw[Bu]at a;simp only[dS,dB,EA,if_true,iP,iB]at a;subst a;exact c⟩
 |f+1=>by
  obtain⟨b,e⟩:=Lm n f;have b:=fun x=>b x [] (fun s a=>jO a (by simp[dL]))
  refine⟨fun x d h=>?_,fun x s a=>?_⟩
  .rw[AN];split
   .refine(Lm n f).1 _ _ (fun s a=>?_);rw[VL]at a;rcases iM.1 a with q|q
    .exact h s q
    .simp only[dL,iP]at q;exact e _ s q
   .exact h
  .rw[Bu]at a;split at a
   .simp only at a;split at a
    .simp only[dS,dB,EA,iP,iM]at a;rcases a with q|q|q
     .exact jO q jY
     .exact b _ s q
     .exact b _ s q
    .simp only[dS,dB,EA,iP,iM]at a;rcases a with q|q
     .exact jO q jY
     .exact b _ s q
   .split at a
    .simp only[dS,dB,EA,iP,iM]at a;rcases a with q|q
     .exact jO q jY
     .exact b _ s q
    .simp only[dS,dB,iP]at a;split at a
     .rw[iB]at a;subst a;exact Uy H c n x
     .exact jO a iH
def Vp(Q:ByteArray->Prop)(t:TF):Prop:=Q t.name.d9/\(∀p,p∈t.u9->Q p.d9)/\∀s,s∈dL t.cF->Q s
theorem VW(n:Nat)(x:PS):Vp Q (JL toks n x).1:=by unfold JL;exact⟨Hw H c _,Ur H c n _,(Lm H c n _).1 _ [] (fun s a=>jO a (by simp[dL]))⟩
theorem SR(n:Nat):∀(f:Nat) (x:PS) (a:List TF),(∀t,t∈a->Vp Q t)->∀t,t∈(Ee toks n f x a).1->Vp Q t
 |0,_,_,h=>by rw[Ee];exact h
 |f+1,x,a,h=>by
  rw[Ee];split
  .refine SR n f _ _ (fun t b=>?_);rcases iM.1 b with q|q
   .exact h t q
   .rw[iB.1 q];exact VW H c n x
  .exact h
theorem Wz(n:Nat)(x:PS):∀t,t∈(Cf toks n x).1->Vp Q t:=by unfold Cf;refine SR H c n n _ _ (fun t a=>?_);rw[iB.1 a];exact VW H c n x
end
theorem ED{e p:Nat}{c:CS}(a:e≠0):(Be e p c).cI≠0:=by
 unfold Be;split
 .exact a
 .rename_i h;exact fun q=>h (.inl q)
theorem Gv{a:List ByteArray}{t:Tk}{c:CS}(h:(DL a t c).cI=0):t.d9∈a/\c.cI=0:=by
 unfold DL at h;split at h
 .rename_i q;exact⟨(CR a t.d9 0).1.1 q,h⟩
 .exact jO h (ED T)
theorem ST{a:List RF}{t:Tk}{m:Int}{c:CS}(h:(Em a t m c).cI=0):t.d9∈a.map (fun f=>f.name.d9)/\c.cI=0/\(0<=m->((((a.map fun f=>f.cG.length)[vx (a.map fun f=>f.name.d9) t.d9]?).getD 0:Nat):Int)=m):=by
 unfold Em at h;split at h
 .rename_i q;split at h
  .exact jO h (ED T)
  .rename_i d;refine⟨(CR _ t.d9 0).1.1 q,h,fun b=>?_⟩;rcases Classical.em (((((a.map fun f=>f.cG.length)[(Bz (a.map fun f=>f.name.d9) t.d9 0).toNat]?).getD 0:Nat):Int)=m)with e|e
   .exact e
   .exact jO ⟨b,e⟩ d
 .exact jO h (ED T)
theorem Pi{a:List ByteArray}{t:Tk}{c:CS}(h:(Dk a t c).cI=0):t.d9∉a/\a.length<12/\c.cI=0:=by
 unfold Dk at h;simp only at h;split at h
 .exact jO h (ED T)
 .rename_i q;split at h
  .exact jO h (ED T)
  .rename_i b;exact⟨fun m=>q ((CR a t.d9 0).1.2 m),Z,h⟩
theorem QO{a:List ByteArray}:∀{l:List PT} {c:CS},((l.map Ao).foldl (fun c t=>DL a t c) c).cI=0->(∀t,t∈l->t.d9∈a)/\c.cI=0
 |[],c,h=>⟨fun _ q=>(by cases q),h⟩
 |t::l,c,h=>by
  obtain⟨b,d⟩:=QO (l:=l) h;obtain⟨e,f⟩:=Gv d;refine⟨fun u i=>?_,f⟩;rcases iZ.1 i with q|q
  .subst q;exact e
  .exact b u q
section
variable{rf:List RF}{g:List ByteArray}{o:List Nat}(r:rf.map (fun f=>f.name.d9)=g)(v:rf.map (fun f=>f.cG.length)=o)
include r v
theorem Uv{s:VS}{j:List ByteArray}{c:CS}(_hk:s.kind<=10)(h:(Dg rf s (j,c)).2.cI=0):c.cI=0/\(Dg rf s (j,c)).1=j++(if s.kind=0 then[s.tg.d9]else[])/\aY g o s j:=by
 unfold Dg at h⊢;by_cases a:s.kind=0
 .simp only[jH a]at h⊢;obtain⟨f,l,w⟩:=Pi h;exact⟨w,by trivial,⟨fun _=>⟨f,l⟩,fun q=>jO a q,fun q=>Z,fun q=>Z,fun q=>Z,fun q=>Z⟩⟩
 simp only[jG a]at h⊢;by_cases k:s.kind=10
 .simp only[jH k]at h⊢;obtain⟨f,l⟩:=Gv h;exact⟨l,jY,⟨fun q=>jO q a,fun _ q=>jO k q,fun q=>Z,fun q=>Z,fun _=>f,fun q=>Z⟩⟩
 simp only[jG k]at h⊢;unfold Mr at h;by_cases f:s.kind=1
 .rw[jH f]at h;obtain⟨d,e⟩:=Gv h;exact⟨e,jY,⟨fun q=>jO q a,fun _ _=>d,fun q=>Z,fun q=>Z,fun q=>Z,fun q=>Z⟩⟩
 rw[jG f]at h;obtain⟨m,h⟩:=QO h;by_cases t:s.kind=4
 .rw[jH t]at h;obtain⟨b,i,n⟩:=ST h;obtain⟨d,e⟩:=Gv i;rw[r]at b;exact⟨e,jY,⟨fun q=>jO q a,fun _ _=>d,fun _=>b,fun q=>Z,fun q=>Z,fun _=>m⟩⟩
 rw[jG t]at h;by_cases u:s.kind=7
 .rw[jH u]at h;obtain⟨b,i,n⟩:=ST h;obtain⟨d,e⟩:=Gv i;have p:=n Z;rw[r,v]at p;rw[r]at b;exact⟨e,jY,⟨fun q=>jO q a,fun _ _=>d,fun _=>b,fun _=>by exact_mod_cast p,fun q=>Z,fun _=>m⟩⟩
 rw[jG u]at h;obtain⟨b,i⟩:=Gv h;obtain⟨d,e⟩:=Gv i;exact⟨e,jY,⟨fun q=>jO q a,fun _ _=>d,fun q=>Z,fun q=>Z,fun _=>b,fun _=>m⟩⟩
theorem WS:∀(d i:Nat) (t:TS) (a:List ByteArray) (c:CS),Q0 d t->(Fy rf d i t (a,c)).2.cI=0->c.cI=0/\(Fy rf d i t (a,c)).1=a++dS t/\XK g o t a
 |0,_,_,_,_,h,_=>h.elim
 |d+1,i,.mk s I,a,c,h,f=>by
  have L:∀(k:List TS) (a:List ByteArray) (c:CS),(∀t,t∈k->Q0 d t)->(k.foldl (fun x t=>Fy rf d (i+1) t x) (a,c)).2.cI=0->c.cI=0/\(k.foldl (fun x t=>Fy rf d (i+1) t x) (a,c)).1=a++dL k/\Iu g o k a:=by
   intro k;induction k with
   |nil=>intro a c _ h;exact⟨h,by simp[dL],trivial⟩
   |cons t k F=> intro a c n h;simp only[iR]at h⊢;have e:Fy rf d (i+1) t (a,c)=((Fy rf d (i+1) t (a,c)).1,(Fy rf d (i+1) t (a,c)).2):=rfl;rw[e]at h⊢;obtain⟨E,w,y⟩:=F _ _ (fun u C=>n u (iA _ C)) h;obtain⟨l,b,j⟩:=WS d (i+1) t a c (n t jF) E;rw[b]at w y;exact⟨l,by rw[b,w];simp[dL],j,y⟩
  have B:∀{c:CS} {p:Nat},(if 6<i+1 then Be 4 p c else c).cI=0->c.cI=0:=by
   intro c p h;split at h
   .exact jO h (ED T)
   .exact h
  rcases h with⟨rfl,q⟩|⟨p,k,rfl,rfl|rfl,m⟩|⟨p,k,K,M,rfl,rfl,m,A⟩
  .rw[Fy,jG Z]at f⊢;obtain⟨l,b,j⟩:=Uv r v q f;exact⟨l,by rw[b];simp[dS,dB],q,j⟩
  .rw[Fy,jH (by simp[EA])]at f⊢;simp only[iR,jC]at f⊢;obtain⟨l,b,j⟩:=L _ _ _ m f;exact⟨B l,by rw[b];simp[dS,dB,EA],.inl rfl,j⟩
  .rw[Fy,jH (by simp[EA])]at f⊢;simp only[iR,jC]at f⊢;obtain⟨l,b,j⟩:=L _ _ _ m f;exact⟨B l,by rw[b];simp[dS,dB,EA],.inr rfl,j⟩
  .rw[Fy,jH (by simp[EA])]at f⊢;simp only[iR,jC]at f⊢;obtain⟨l,b,j⟩:=L _ _ _ A f;obtain⟨G,z,H⟩:=L _ _ _ m (B l);rw[z]at b j;exact⟨B G,by rw[z,b];simp[dS,dB,EA],rfl,H,j⟩
theorem ZF(d f:Nat):∀(b:List TS) (a:List ByteArray) (c:CS),(∀t,t∈b->Q0 d t)->(Gi rf d f b (a,c)).2.cI=0->c.cI=0/\(Gi rf d f b (a,c)).1=a++dL b/\Iu g o b a:=by
 intro b;unfold Gi;induction b with
 |nil=>intro a c _ h;exact⟨h,by simp[dL],trivial⟩
 |cons t b s=> intro a c j h;simp only[iR]at h⊢;have e:Fy rf d f t (a,c)=((Fy rf d f t (a,c)).1,(Fy rf d f t (a,c)).2):=rfl;rw[e]at h⊢;obtain⟨q,k,l⟩:=s _ _ (fun u p=>j u (iA _ p)) h;obtain⟨m,i,n⟩:=WS r v d f t a c (j t jF) q;rw[i]at k l;exact⟨m,by rw[i,k];simp[dL],n,l⟩
end
theorem Qx:∀(l:List PT) (d:List ByteArray) (c:CS),(CI l (d,c)).2.cI=0->c.cI=0/\(CI l (d,c)).1=d++l.map (fun p=>p.d9)/\(d.Nodup->(d++l.map (fun p=>p.d9)).Nodup)/\(d.length<=12->d.length+l.length<=12)
 |[],d,c,h=>⟨h,by simp[CI],fun q=>by simpa using q,fun q=>by simpa using q⟩
 |t::l,d,c,h=>by
  obtain⟨f,i,j,k⟩:=Qx l (d++[t.d9]) (Dk d (Ao t) c) h;obtain⟨s,w,u⟩:=Pi f;refine⟨u,?_,fun n=>?_,fun _=>?_⟩
  .show(CI l (d++[t.d9],Dk d (Ao t) c)).1=_;rw[i];simp
  .have:=j (List.nodup_append.2 ⟨n,List.nodup_cons.2 ⟨iH,List.nodup_nil⟩,fun a m b e=>by rw[iB]at e;subst e;exact fun q=>s (by subst q;exact m)⟩)
   simpa using this
  .have:=k jX;simp at this⊢;omega
mutual
theorem Np{g:List ByteArray}{o:List Nat}:∀(t:TS) (vs:List ByteArray),XK g o t vs->(vs.Nodup->(vs++dS t).Nodup)/\(vs.length<=12->(vs++dS t).length<=12)
 |.mk s [],vs,h=>by
  obtain⟨_,ho⟩:=h;simp only[dS,dB,iP];split
  .rename_i h0;obtain⟨h1,h2⟩:=ho.decl h0;refine⟨fun hn=>List.nodup_append.2 ⟨hn,List.nodup_cons.2 ⟨iH,List.nodup_nil⟩,fun a ha b hb=>?_⟩,fun _=>jX⟩;rw[iB]at hb;subst hb;exact fun q=>h1 (by subst q;exact ha)
  .simp
 |.mk s [(p,ts)],vs,h=>by have:=EQ ts vs h.2;have hk:=h.1;simpa[dS,dB,show¬s.kind=0 by omega]using this
 |.mk s [(p,ts),(p2,ts2)],vs,h=>by obtain⟨hk,h1,h2⟩:=h;have a:=EQ ts vs h1;have b:=EQ ts2 (vs++dL ts) h2;simp only[dS,dB,show¬s.kind=0 by omega,if_false,jE,iP];rw[<-jK];exact⟨fun q=>b.1 (a.1 q),fun q=>b.2 (a.2 q)⟩
theorem EQ{g:List ByteArray}{o:List Nat}:∀(ts:List TS) (vs:List ByteArray),Iu g o ts vs->(vs.Nodup->(vs++dL ts).Nodup)/\(vs.length<=12->(vs++dL ts).length<=12)
 |[],vs,_=>by simp[dL]
 |t::ts,vs,h=>by have a:=Np t vs h.1;have b:=EQ ts (vs++dS t) h.2;simp only[dL];rw[<-jK];exact⟨fun q=>b.1 (a.1 q),fun q=>b.2 (a.2 q)⟩
end
def CP(t:TF):List ByteArray:=t.u9.map (fun p=>p.d9)++dL t.cF
def EC:ByteArray:=⟨#[109,97,105,110]⟩
structure bB(fns:List TF):Prop where
 ok:bN fns
 cR:fns.length<=12
 bX:∀i (h:i<fns.length),Bz (fns.map fun f=>f.name.d9) fns[i].name.d9 0=i
 t8:∀t,t∈fns->(CP t).Nodup/\(CP t).length<=12
 main:EC∈fns.map (fun f=>f.name.d9)
 gC:(fns.map fun f=>f.u9.length)[vx (fns.map fun f=>f.name.d9) EC]?.getD 0=0
theorem WQ{rf:List RF}{i:Nat}{t:TF}{c:CS}(h:(FM rf i t c).cI=0):Bz (rf.map fun f=>f.name.d9) t.name.d9 0=i/\i<12/\c.cI=0:=by
 unfold FM at h;split at h
 .rename_i q;split at h
  .exact jO h (ED T)
  .exact⟨q,Z,h⟩
 .exact jO h (ED T)
section
variable{rf:List RF}{g:List ByteArray}{o:List Nat}(r:rf.map (fun f=>f.name.d9)=g)(v:rf.map (fun f=>f.cG.length)=o)
include r v
theorem YC{d i:Nat}{t:TF}{c:CS}(m:∀s,s∈t.cF->Q0 d s)(h:(Ey rf d i t c).2.cI=0):
 c.cI=0/\(Ey rf d i t c).1=CP t/\Iu g o t.cF (t.u9.map fun p=>p.d9)/\(CP t).Nodup/\(CP t).length<=12/\Bz g t.name.d9 0=i/\i<12:=by
 unfold Ey at h⊢;have e:CI t.u9 ([],FM rf i t c)=((CI t.u9 ([],FM rf i t c)).1,(CI t.u9 ([],FM rf i t c)).2):=rfl;rw[e]at h⊢;obtain⟨l,b,a⟩:=ZF r v d 1 t.cF _ _ m h;obtain⟨q,f,u,w⟩:=Qx _ _ _ l;obtain⟨k,y,z⟩:=WQ q;rw[f,jE]at b a;have n:=EQ t.cF _ a;have j:=u List.nodup_nil;have x:=w jY;rw[jE]at j;rw[r]at k;refine⟨z,?_,a,n.1 j,n.2 (by simp at x⊢;omega),k,y⟩;rw[f,jE,b];rfl
theorem La{d:Nat}:∀(l:List TF) (i:Nat) (x:List RF×CS),(∀t,t∈l->∀s,s∈t.cF->Q0 d s)->(BC rf d l i x).2.cI=0->
 x.2.cI=0/\(∀j (h:j<l.length),Iu g o l[j].cF (l[j].u9.map fun p=>p.d9)/\(CP l[j]).Nodup/\(CP l[j]).length<=12/\Bz g l[j].name.d9 0=((i+j:Nat):Int)/\i+j<12)/\
 (BC rf d l i x).1.length=x.1.length/\(∀j (h:j<(BC rf d l i x).1.length) (B:j<x.1.length),((BC rf d l i x).1[j]).name=(x.1[j]).name/\((BC rf d l i x).1[j]).cG=(x.1[j]).cG/\((BC rf d l i x).1[j]).cJ=(x.1[j]).cJ/\(j<i->((BC rf d l i x).1[j]).t8=(x.1[j]).t8)/\∀k (b:k<l.length),j=i+k->((BC rf d l i x).1[j]).t8=CP l[k])
 |[],i,x,_,h=>⟨h,fun j h=>by simp at h,rfl,fun j h B=>⟨rfl,rfl,rfl,fun _=>rfl,fun k b=>by simp at b⟩⟩
 |t::l,i,x,f,h=>by
  rw[BC]at h;obtain⟨w,y,z,A⟩:=La (d:=d) l (i+1) _ (fun u G=>f u (iA _ G)) h;have C:=f t jF;obtain⟨I,K,L,M,N,P,Q⟩:=YC r v (i:=i) (c:=x.2) C w;refine⟨I,fun j a=>?_,?_,fun j a E=>?_⟩
  .cases j with
   |zero=>exact⟨L,M,N,P,Q⟩
   |succ j=> obtain⟨R,S,U,V,q5⟩:=y j (by simpa using a);exact⟨R,S,U,by rw[iX,V];congr 1;omega,Z⟩
  .rw[BC,z,DX]
  .have m:j<(wv x.1 i (Ey rf d i t x.2).1).length:=by rw[DX];exact E
   have q:=A j a m;have H:∀(F:j<(wv x.1 i (Ey rf d i t x.2).1).length),((wv x.1 i (Ey rf d i t x.2).1)[j]).name=(x.1[j]).name/\((wv x.1 i (Ey rf d i t x.2).1)[j]).cG=(x.1[j]).cG/\((wv x.1 i (Ey rf d i t x.2).1)[j]).cJ=(x.1[j]).cJ/\(j≠i->((wv x.1 i (Ey rf d i t x.2).1)[j]).t8=(x.1[j]).t8)/\(j=i->((wv x.1 i (Ey rf d i t x.2).1)[j]).t8=CP t):=by
    intro F;simp only[wv,List.getElem_modify];split
    .rename_i e;exact⟨rfl,rfl,rfl,fun n=>jO e.symm n,fun _=>K⟩
    .rename_i e;exact⟨rfl,rfl,rfl,fun _=>rfl,fun n=>jO n.symm e⟩
   obtain⟨X,Y,w3,w4,w5⟩:=H m;simp only[BC]at a⊢;refine⟨q.1.trans X,q.2.1.trans Y,q.2.2.1.trans w3,fun a0=>(q.2.2.2.1 Z).trans (w4 Z),fun k b he=>?_⟩;cases k with
   |zero=>exact(q.2.2.2.1 Z).trans (w5 Z)
   |succ k=>exact q.2.2.2.2 k (by simpa using b) Z
end
theorem Jh{d:Nat}{rf:List RF}{h:List FS}{b:List TF}(a:TE d rf h b):rf.map (fun f=>f.name.d9)=b.map (fun f=>f.name.d9)/\rf.map (fun f=>f.cG.length)=b.map (fun f=>f.u9.length):=by
 constructor
 .apply jB
  .simp[a.len]
  .intro i c e;simp only[iU,(a.fr i (by simpa using c) (by simpa using e)).name,Ao]
 .apply jB
  .simp[a.len]
  .intro i c e;simp only[iU,(a.fr i (by simpa using c) (by simpa using e)).cG,iJ]
theorem VQ{rf:List RF}{N:Nat}{c:CS}(h:(MK rf N c).cI=0):c.cI=0/\EC∈rf.map (fun f=>f.name.d9)/\(rf.map fun f=>f.cG.length)[vx (rf.map fun f=>f.name.d9) EC]?.getD 0=0:=by
 unfold MK at h;split at h
 .rename_i q;exact⟨h,(CR _ EC 0).1.1 q.1,q.2⟩
 .exact jO h (ED T)
theorem Zl{rf:List RF}{a:List TF}{N:Nat}(l:rf.map (fun f=>f.name.d9)=a.map (fun f=>f.name.d9))(m:rf.map (fun f=>f.cG.length)=a.map (fun f=>f.u9.length))(u:∀t,t∈a->∀s,s∈t.cF->Q0 4000 s)(h:(MK rf N (BC rf 4000 a 0 (rf,⟨0,0⟩)).2).cI=0):bB a:=by
 obtain⟨n,k,d⟩:=VQ h;obtain⟨w,b,x,y⟩:=La l m a 0 (rf,⟨0,0⟩) u n;rw[l]at k d;rw[m]at d;refine⟨fun t e=>?_,?_,fun i p=>?_,fun t e=>?_,k,d⟩
 .obtain⟨j,c,rfl⟩:=iF.1 e;exact(b j c).1
 .rcases iW 12 a.length with q|q
  .have:=(b 12 q).2.2.2.2;omega
  .exact q
 .have:=(b i p).2.2.2.1;simpa using this
 .obtain⟨j,c,rfl⟩:=iF.1 e;exact⟨(b j c).2.1,(b j c).2.2.1⟩
structure bD(rf:List RF)(fns:List TF)(fs:List FS):Prop where
 len:rf.length=fns.length
 name:∀i (h:i<rf.length) (h':i<fns.length),rf[i].name=Ao fns[i].name
 cG:∀i (h:i<rf.length) (h':i<fns.length),rf[i].cG=fns[i].u9.map Ao
 cJ:∀i (h:i<rf.length) (h':i<fns.length),CJ (Dp i 4000 fs) rf[i].cJ fns[i].cF
 t8:∀i (h:i<rf.length) (h':i<fns.length),rf[i].t8=CP fns[i]
theorem Mj{rf:List RF}{e:List FS}{b:List TF}(c:TE 4000 rf e b)(m:∀t,t∈b->∀s,s∈t.cF->Q0 4000 s)(h:(BC rf 4000 b 0 (rf,⟨0,0⟩)).2.cI=0):bD (BC rf 4000 b 0 (rf,⟨0,0⟩)).1 b e:=by
 obtain⟨j,k⟩:=Jh c;obtain⟨n,p,f,d⟩:=La j k b 0 (rf,⟨0,0⟩) m h;simp only at f d;have l:=c.len;refine⟨by rw[f,l],fun i h a=>?_,fun i h a=>?_,fun i h a=>?_,fun i h a=>?_⟩
 .rw[(d i h Z).1,(c.fr i Z a).name]
 .rw[(d i h Z).2.1,(c.fr i Z a).cG]
 .rw[(d i h Z).2.2.1];exact(c.fr i Z a).cJ
 .exact(d i h Z).2.2.2.2 i a Z

/- One of the texts of the proof: RnA RnB RnC RnD RnF RuA RuB RuC RuF RuN. -/
import Derived.Test.YtegmjgjkcdbmkaaGreatDoorS11
import Derived.Lib.ItoaNum
import Derived.Sort.Walk0
import Derived.Deep.AppendSrc
set_option maxRecDepth 100000
set_option maxHeartbeats 8000000
namespace Go.Proofs.YtegmjgjkcdbmkaaGreatDoor
open Go.RowKit
def vx(l:List ByteArray)(s:ByteArray):Nat:=(CE l s 0).toNat
structure AY where
 kind:Nat
 aQ:Nat
 r9:Nat
 field:Nat
 m9:Nat
 args:List Nat
 next:Nat
 taken:Nat
structure PFn where
 name:ByteArray
 l8:List ByteArray
 i8:Nat
 b9:List AY
structure Bd where
 d9:List ByteArray
 b9:List AY
 pl:Nat
 ca:Nat
def Az(a:List ByteArray)(s:VS)(b:Bd):AY:=
 {kind:=s.kind,aQ:=if s.kind=0 then b.d9.length else vx b.d9 s.tg.a9,r9:=if s.kind=4∨s.kind=7 then vx a s.sr.a9 else vx b.d9 s.sr.a9,field:=s.field,
  m9:=if s.kind=1 then b.pl+1 else if s.kind=8 then b.ca+1 else 0,args:=s.args.map fun t=>vx b.d9 t.a9,next:=0,taken:=0}
def BC(s:VS)(b:Bd):Bd:=
 {b with d9:=if s.kind=0 then b.d9++[s.tg.a9] else b.d9,pl:=if s.kind=1 then b.pl+1 else b.pl,ca:=if s.kind=8 then b.ca+1 else b.ca}
def Bd.tk(b:Bd)(i n:Nat):Bd:={b with b9:=b.b9.modify i (fun s=>{s with taken:=n})}
def Bd.nx(b:Bd)(i n:Nat):Bd:={b with b9:=b.b9.modify i (fun s=>{s with next:=n})}
mutual
def Ez:TS→Nat
 | .mk _ bl=>1+LG bl
def LG:List (Nat×List TS)→Nat
 | []=>0
 | (_,ts)::r=>CQ ts+LG r
def CQ:List TS→Nat
 | []=>0
 | t::ts=>Ez t+CQ ts
end
mutual
def nK(k:Nat):TS→Nat
 | .mk s bl=>(if s.kind=k then 1 else 0)+nB k bl
def nB(k:Nat):List (Nat×List TS)→Nat
 | []=>0
 | (_,ts)::r=>nL k ts+nB k r
def nL(k:Nat):List TS→Nat
 | []=>0
 | t::ts=>nK k t+nL k ts
end
def AJ(c:List TS)(a:Nat)(b:Bd):Nat:=if c.length=0 then a else b.b9.length
def Am(c:List ByteArray)(s:VS)(a:Nat)(b:Bd):Bd:={BC s b with b9:=b.b9++[{Az c s b with next:=a}]}
mutual
def BP(fn:List ByteArray):TS→Nat→Bd→Bd
 | .mk s [],a,b=>Am fn s a b
 | .mk s [(_,ts)],a,b=>
   if s.kind=11 then (AP fn ts a (Am fn s a b)).tk b.b9.length (AJ ts a (Am fn s a b))
   else if s.kind=12 then (AP fn ts b.b9.length (Am fn s a b)).tk b.b9.length (AJ ts b.b9.length (Am fn s a b))
   else Am fn s a b
 | .mk s ((_,ts)::(_,ts2)::_),a,b=>
   if s.kind=11 then
    let b2:=(AP fn ts a (Am fn s a b)).tk b.b9.length (AJ ts a (Am fn s a b))
    (AP fn ts2 a b2).nx b.b9.length (AJ ts2 a b2)
   else Am fn s a b
def AP(fn:List ByteArray):List TS→Nat→Bd→Bd
 | [],_,b=>b
 | [t],a,b=>BP fn t a b
 | t::t2::ts,a,b=>AP fn (t2::ts) a (BP fn t (b.b9.length+Ez t) b)
end
def QU(t:TF)(b a:Nat):Bd:=⟨t.i8.map (fun p=>p.a9),[],b,a⟩
def EQ(b:List ByteArray)(t:TF)(c a:Nat):Bd:=AP b t.v8 (CQ t.v8) (QU t c a)
def CL(b:List ByteArray)(t:TF)(c a:Nat):PFn:=⟨t.name.a9,(EQ b t c a).d9,t.i8.length,(EQ b t c a).b9⟩
def Bu(a:List ByteArray):List TF→Nat→Nat→List PFn
 | [],_,_=>[]
 | t::l,c,b=>CL a t c b::Bu a l (EQ a t c b).pl (EQ a t c b).ca
def BB(c:List ByteArray):List TF→Nat→Nat→Nat×Nat
 | [],b,a=>(b,a)
 | t::l,b,a=>BB c l (EQ c t b a).pl (EQ c t b a).ca
structure Tg where
 kind:Nat
 aV:Nat
 aX:Nat
structure Vl where
 kind:Nat
 bG:Nat
structure Cl where
 nm:Tg
 v:Vl
def Uh:Vl:=⟨0,0⟩
def DB(m:List Cl)(i:Nat):Cl:=m[i]?.getD ⟨⟨0,0,0⟩,Uh⟩
structure Co where
 aY:List Cl
 ch:List UInt8
 cU:List (Tg×Tg)
 bN:List (Nat×Nat)
def Co.set(c:Co)(a:Nat)(v:Vl):Co:=
 {c with aY:=c.aY.set a ⟨(DB c.aY a).nm,v⟩,cU:=if v.kind=1 then ((DB c.aY a).nm,⟨2,v.bG,0⟩)::c.cU else if v.kind=2 then ((DB c.aY a).nm,(DB c.aY v.bG).nm)::c.cU else c.cU}
def Co.fields(c:Co)(a:Nat):Co:={c with aY:=c.aY++[⟨⟨1,a,0⟩,Uh⟩,⟨⟨1,a,1⟩,Uh⟩,⟨⟨1,a,2⟩,Uh⟩,⟨⟨1,a,3⟩,Uh⟩]}
def Co.l8(c:Co)(f n:Nat):Co:={c with aY:=c.aY++(List.range n).map fun i=>⟨⟨0,f,i⟩,Uh⟩}
def XZ:List Vl→Nat→Co→Co
 | [],_,c=>c
 | v::l,a,c=>XZ l (a+1) (c.set a v)
def Co.enter(c:Co)(f n:Nat)(args:List Vl):Co:=XZ args c.aY.length (c.l8 f n)
def Pv:List UInt8→Bool×List UInt8
 | []=>(false,[])
 | b::l=>(b==49,l)
def aJ(k p q a b g:Nat)(c:Co):Option Co:=
 if k=1 then some ((c.fields b).set p ⟨2,c.aY.length⟩)
 else if k=2 then some (c.set p ⟨2,q⟩)
 else if k=3 then
  if (DB c.aY q).v.kind=2∧(DB c.aY (DB c.aY q).v.bG).nm.kind=1∧(DB c.aY (DB c.aY q).v.bG).nm.aX=0 then some (c.set p ⟨2,(DB c.aY q).v.bG+a⟩) else none
 else if k=4 then some (c.set p ⟨1,g⟩)
 else if k=5 then if (DB c.aY q).v.kind=2 then some (c.set p (DB c.aY (DB c.aY q).v.bG).v) else none
 else if k=6 then some (c.set p (DB c.aY q).v)
 else if k=9 then if (DB c.aY p).v.kind=2 then some (c.set (DB c.aY p).v.bG (DB c.aY q).v) else none
 else some c
structure Ue where
 fn:Nat
 base:Nat
 next:Nat
 answer:Nat
structure Mc where
 c:Co
 bS:List Ue
 bM:Nat
def Ap(P:List PFn)(i:Nat):PFn:=P[i]?.getD ⟨⟨#[]⟩,[],0,[]⟩
def YW(l:List AY)(i:Nat):AY:=l[i]?.getD ⟨0,0,0,0,0,[],0,0⟩
def KF(m:Mc)(v:Vl):Mc:=
 match m.bS with
 | []=>m
 | [_]=>⟨m.c,[],2⟩
 | f::g::r=>⟨m.c.set f.answer v,g::r,m.bM⟩
def KO(P:List PFn):Nat→Mc→Mc
 | 0,m=>m
 | n+1,m=>
   if m.bM=1 then
    match m.bS with
    | []=>m
    | f::_=>if f.next<(Ap P f.fn).b9.length then m else KO P n (KF m Uh)
   else m
def UR(P:List PFn)(m:Mc)(f:Nat)(b:List Vl)(a:Nat):Mc:=
 if 40≤m.bS.length then {m with bM:=4}
 else ⟨m.c.enter f (Ap P f).l8.length b,⟨f,m.c.aY.length,0,a⟩::m.bS,m.bM⟩
def WH(b:List Cl)(a:Nat)(l:List Nat):List Vl:=l.map fun i=>(DB b (a+i)).v
def V5(P:List PFn)(m:Mc):Mc:=
 match m.bS with
 | []=>m
 | f::r=>
   let s:=YW (Ap P f.fn).b9 f.next;let a:Mc:={m with bS:={f with next:=s.next}::r};if s.kind=7 then UR P a s.r9 (WH m.c.aY f.base s.args) (f.base+s.aQ)
   else if s.kind=8 then
    let h:=(DB m.c.aY (f.base+s.r9)).v
    if h.kind=1∧(Ap P h.bG).i8=s.args.length then
     (if 40≤m.bS.length then {a with bM:=4}
      else UR P {a with c:={m.c with bN:=(s.m9,h.bG)::m.c.bN}} h.bG (WH m.c.aY f.base s.args) (f.base+s.aQ))
    else {a with bM:=3}
   else if s.kind=10 then KF a (DB m.c.aY (f.base+s.r9)).v
   else if s.kind=11∨s.kind=12 then
    {a with c:={m.c with ch:=(Pv m.c.ch).2},bS:={f with next:=if (Pv m.c.ch).1 then s.taken else s.next}::r}
   else
    match aJ s.kind (f.base+s.aQ) (f.base+s.r9) s.field s.m9 s.r9 m.c with
    | some c=>{a with c:=c}
    | none=>{a with bM:=3}
def PO(P:List PFn):Nat→Mc→Mc×Nat
 | 0,m=>(KO P 41 m,0)
 | n+1,m=>if (KO P 41 m).bM=1 then PO P n (V5 P (KO P 41 m)) else (KO P 41 m,n+1)
structure RS where
 c:Co
 left:Nat
 b9:Nat
 bJ:Nat
 bM:Nat
 bY:Vl
structure XF where
 l8:List ByteArray
 i8:Nat
 v8:List TS
 pl:Nat
 ca:Nat
def Da(X:List XF)(i:Nat):XF:=X[i]?.getD ⟨[],0,[],0,0⟩
def RS.one(s:RS):RS:={s with left:=s.left-1,b9:=s.b9+1}
def Jk(a:RS→Bool×RS):Nat→RS→Bool×RS
 | 0,s=>(true,s)
 | n+1,s=>
   let b:RS:={s with c:={s.c with ch:=(Pv s.c.ch).2}};if (Pv s.c.ch).1=false then (false,b)
   else
    let r:=a b
    if r.1 then (true,r.2)
    else if r.2.left=0 then (true,{r.2 with bM:=1})
    else Jk a n r.2.one
def Yx(X:List XF)(b:Nat→Nat→List TS→Nat→Nat→RS→Bool×RS)(f:Nat)(a:List Vl)(s:RS):Bool×RS:=
 if s.bJ=40 then (false,{s with bM:=4})
 else
  let r:=b f s.c.aY.length (Da X f).v8 (Da X f).pl (Da X f).ca {s with c:=s.c.enter f (Da X f).l8.length a,bJ:=s.bJ+1,bY:=Uh}
  (r.2.bM==0,{r.2 with bJ:=r.2.bJ-1})
def X7(X:List XF)(b:Nat→Nat→List TS→Nat→Nat→RS→Bool×RS)(f:Nat)(a:List Vl)(p:Nat)(s:RS):Bool×RS:=
 let r:=Yx X b f a s
 if r.1=false then (true,r.2) else (false,{r.2 with c:=r.2.c.set p r.2.bY,bY:=Uh})
def ZF(X:List XF)(k:List ByteArray)(b:Nat→Nat→List TS→Nat→Nat→RS→Bool×RS)(n:Nat)(f a:Nat)(t:TS)(g e:Nat)(s:RS):Bool×RS:=
 match t with
 | .mk v j=>
   let i:=(Da X f).l8;let p:=a+vx i v.tg.a9;let q:=a+vx i v.sr.a9;let d:=(j[0]?.getD (0,[])).2;let l:=(j[1]?.getD (0,[])).2;if v.kind=0 then (false,s)
   else if v.kind=11 then
    if (Pv s.c.ch).1 then b f a d g e {s with c:={s.c with ch:=(Pv s.c.ch).2}}
    else b f a l (g+nL 1 d) (e+nL 8 d) {s with c:={s.c with ch:=(Pv s.c.ch).2}}
   else if v.kind=12 then Jk (b f a d g e) n s
   else if v.kind=10 then (true,{s with bY:=(DB s.c.aY q).v})
   else if v.kind=7 then X7 X b (vx k v.sr.a9) (WH s.c.aY a (v.args.map fun t=>vx i t.a9)) p s
   else if v.kind=8 then
    let h:=(DB s.c.aY q).v
    if h.kind=1∧(Da X h.bG).i8=v.args.length then
     X7 X b h.bG (WH s.c.aY a (v.args.map fun t=>vx i t.a9)) p {s with c:={s.c with bN:=if s.bJ<40 then (e+1,h.bG)::s.c.bN else s.c.bN}}
    else (true,{s with bM:=3})
   else
    match aJ v.kind p q v.field (g+1) (vx k v.sr.a9) s.c with
    | some c=>(false,{s with c:=c})
    | none=>(true,{s with bM:=3})
def Jz(X:List XF)(a:List ByteArray):Nat→Nat→Nat→List TS→Nat→Nat→RS→Bool×RS
 | 0,_,_,_,_,_,s=>(true,s)
 | _+1,_,_,[],_,_,s=>(false,s)
 | F+1,d,b,t::f,e,c,s=>
   if s.left=0 then (true,{s with bM:=1})
   else
    let r:=ZF X a (Jz X a F) F d b t e c s.one
    if r.1=true∨r.2.bM≠0 then (true,r.2)
    else Jz X a F d b f (e+nK 1 t) (c+nK 8 t) r.2
structure IP(d vars:List ByteArray)(s:VS)(u:AY)(pl ca:Nat):Prop where
 kind:u.kind=s.kind
 aQ:s.kind≠0→s.kind≠10→s.kind<11→u.aQ=vx vars s.tg.a9
 func:s.kind=4∨s.kind=7→u.r9=vx d s.sr.a9
 r9:s.kind=2∨s.kind=3∨s.kind=5∨s.kind=6∨s.kind=8∨s.kind=9∨s.kind=10→u.r9=vx vars s.sr.a9
 field:u.field=s.field
 c9:s.kind=1→u.m9=pl+1
 call:s.kind=8→u.m9=ca+1
 args:s.kind=7∨s.kind=8→u.args=s.args.map fun t=>vx vars t.a9
mutual
def Um(d vars:List ByteArray)(st:List AY):TS→Nat→Nat→Nat→Nat→Prop
 | .mk s [],p,a,pl,ca=>∃u,st[p]? =some u∧IP d vars s u pl ca∧s.kind<11∧u.next=a
 | .mk s [(_,ts)],p,a,pl,ca=>∃u,st[p]? =some u∧IP d vars s u pl ca∧u.next=a∧((s.kind=11∧FJ d vars st ts u.taken a pl ca)∨(s.kind=12∧FJ d vars st ts u.taken p pl ca))
 | .mk s [(_,ts),(_,ts2)],p,a,pl,ca=>∃u,st[p]? =some u∧IP d vars s u pl ca∧s.kind=11∧FJ d vars st ts u.taken a pl ca∧FJ d vars st ts2 u.next a (pl+nL 1 ts) (ca+nL 8 ts)
 | .mk _ (_::_::_::_),_,_,_,_=>False
def FJ(d vars:List ByteArray)(st:List AY):List TS→Nat→Nat→Nat→Nat→Prop
 | [],p,a,_,_=>p=a
 | t::ts,p,a,pl,ca=>∃m,Um d vars st t p m pl ca∧FJ d vars st ts m a (pl+nK 1 t) (ca+nK 8 t)
end
structure PX(d:List ByteArray)(P:List PFn)(X:List XF):Prop where
 l8:∀f,(Ap P f).l8.length=(Da X f).l8.length
 i8:∀f,(Ap P f).i8=(Da X f).i8
 laid:∀f,FJ d (Da X f).l8 (Ap P f).b9 (Da X f).v8 0 (Ap P f).b9.length (Da X f).pl (Da X f).ca
section
variable {P : List PFn}
theorem Oa(n:Nat){c:Co}{f:Ue}{r:List Ue}{e:Nat}(h:f.next<(Ap P f.fn).b9.length):KO P n ⟨c,f::r,e⟩=⟨c,f::r,e⟩:=by
 cases n with
 | zero=>rfl
 | succ n=>
   rw [KO];split
   ·simp only [if_pos h]
   ·rfl
theorem U8(n:Nat){c:Co}{f:Ue}{r:List Ue}(h:f.next<(Ap P f.fn).b9.length):PO P (n+1) ⟨c,f::r,1⟩=PO P n (V5 P ⟨c,f::r,1⟩):=by rw [PO,Oa _ h];simp
theorem U9{c:Co}{f:Ue}{r:List Ue}(h:f.next<(Ap P f.fn).b9.length):PO P 0 ⟨c,f::r,1⟩=(⟨c,f::r,1⟩,0):=by rw [PO,Oa _ h]
end
structure Uk(P:List PFn)(fi base ans a L0:Nat)(rest:List Ue)(m0:Mc)(s:RS)(r:Bool×RS):Prop where
 left:r.2.left≤s.left
 b9:r.2.b9+r.2.left=s.b9+s.left
 o:(r.1=false∧r.2.bM=0∧r.2.bJ=s.bJ∧r.2.bY=Uh∧PO P L0 m0=PO P r.2.left ⟨r.2.c,⟨fi,base,a,ans⟩::rest,1⟩)∨
  (r.1=true∧r.2.bM=0∧r.2.bJ=s.bJ∧PO P L0 m0=PO P r.2.left (KF ⟨r.2.c,⟨fi,base,a,ans⟩::rest,1⟩ r.2.bY))∨
  (r.1=true∧r.2.bM≠0∧∃frs,PO P L0 m0=(⟨r.2.c,frs,r.2.bM⟩,r.2.left))
theorem Jx(c:Co)(j i a b h e:Nat)(f:List Ue)(v:Vl):KF ⟨c,⟨j,i,a,h⟩::f,e⟩ v=KF ⟨c,⟨j,i,b,h⟩::f,e⟩ v:=by cases f<;>rfl
theorem Uk.cC{P:List PFn}{q p o a b m n:Nat}{w:List Ue}{u v:Mc}{s j:RS}{r:Bool×RS}(h:Uk P q p o a n w v j r)(l:PO P m u=PO P n v)(z:j.left≤s.left)(A:j.b9+j.left=s.b9+s.left)(t:j.bJ=s.bJ)(e:r.1=true∨a=b):Uk P q p o b m w u s r:=by
 refine ⟨rO h.left z,h.b9.trans A,?_⟩;rcases h.o with ⟨c,f,k,y,i⟩ | ⟨c,f,k,i⟩ | ⟨c,f,x,i⟩
 ·rcases e with e | e
  ·rw [c] at e;cases e
  ·subst e;exact .inl ⟨c,f,k.trans t,y,l.trans i⟩
 ·exact .inr (.inl ⟨c,f,k.trans t,by rw [l,i,Jx]⟩)
 ·exact .inr (.inr ⟨c,f,x,l.trans i⟩)
def Z6(d:List ByteArray)(P:List PFn)(X:List XF)(F:Nat):Prop:=∀(b c:Nat) (j:List TS) (i h:Nat) (s:RS) (p a f:Nat) (e:List Ue),
 s.left<F→s.bM=0→s.bY=Uh→s.bJ=e.length+1→s.bJ≤40→FJ d (Da X b).l8 (Ap P b).b9 j p a i h→
 Uk P b c f a s.left e ⟨s.c,⟨b,c,p,f⟩::e,1⟩ s (Jz X d F b c j i h s)
section
variable {d : List ByteArray} {P : List PFn} {X : List XF} (g : PX d P X)
include g
omit g in
theorem Tz{F:Nat}(N:Z6 d P X F)(b f:Nat)(w:List TS)(v m p a j:Nat)(i:List Ue)(u:AY)(y:(Ap P b).b9[p]? =some u)(H:u.kind=12)(K:u.next=a)(D:FJ d (Da X b).l8 (Ap P b).b9 w u.taken p v m):
 ∀(n:Nat) (s:RS),s.left<n→s.left<F→s.bM=0→s.bY=Uh→s.bJ=i.length+1→s.bJ≤40→
  Uk P b f j a (s.left+1) i ⟨s.c,⟨b,f,p,j⟩::i,1⟩ s (Jk (Jz X d F b f w v m) n s)
 | 0,s,h,_,_,_,_,_=>by omega
 | n+1,s,h,hF,E,G,T,R=>by
   have L:p<(Ap P b).b9.length:=by
    rcases Nat.lt_or_ge p (Ap P b).b9.length with q | q
    ·exact q
    ·rw [List.getElem?_eq_none q] at y;cases y
   have U:YW (Ap P b).b9 p=u:=by unfold YW;rw [y];rfl
   have k:PO P (s.left+1) ⟨s.c,⟨b,f,p,j⟩::i,1⟩=PO P s.left ⟨{s.c with ch:=(Pv s.c.ch).2},⟨b,f,if (Pv s.c.ch).1 then u.taken else a,j⟩::i,1⟩:=by rw [U8 _ L];unfold V5;simp [U,H,K]
   unfold Jk;by_cases x:(Pv s.c.ch).1=false
   ·simp only [if_pos x];refine ⟨rN _,rfl,.inl ⟨rfl,E,rfl,G,?_⟩⟩;rw [k,x];rfl
   ·have S:(Pv s.c.ch).1=true:=by simpa using x
    simp only [if_neg x];rw [S] at k;simp only [if_true] at k;have I:=N b f w v m {s with c:={s.c with ch:=(Pv s.c.ch).2}} u.taken p j i hF E G T R D;generalize Jz X d F b f w v m {s with c:={s.c with ch:=(Pv s.c.ch).2}}=r at I⊢;obtain ⟨z,A,M⟩:=I;simp only at z A M;rcases M with ⟨o,t,C,Q,l⟩ | ⟨o,t,C,l⟩ | ⟨o,t,O,l⟩
    ·simp only [o,Bool.false_eq_true,if_false];by_cases B:r.2.left=0
     ·simp only [if_pos B];refine ⟨z,A,.inr (.inr ⟨rfl,by simp,⟨b,f,p,j⟩::i,?_⟩)⟩;rw [k,l,B,U9 L]
     ·simp only [if_neg B];have J:=Tz N b f w v m p a j i u y H K D n r.2.one (by simp only [RS.one];omega) (by simp only [RS.one];omega) t Q (by simp only [RS.one];omega) (by simp only [RS.one];omega);refine J.cC ?_ (by simp only [RS.one];omega) (by simp only [RS.one];omega) (by simp only [RS.one];omega) (.inr rfl);rw [k,l];have e:r.2.one.left+1=r.2.left:=by simp only [RS.one];omega
      rw [e];rfl
    ·simp only [o,if_true];exact ⟨z,A,.inr (.inl ⟨rfl,t,C,by rw [k,l,Jx]⟩)⟩
    ·simp only [o,if_true];exact ⟨z,A,.inr (.inr ⟨rfl,t,O,by rw [k,l]⟩)⟩
omit g in
theorem Zr{l:List ByteArray}{c:List AY}{t:TS}{p a i f:Nat}(h:Um d l c t p a i f):p<c.length:=by
 have e:∀{u:AY},c[p]? =some u→p<c.length:=fun {u} b=>by
  rcases Nat.lt_or_ge p c.length with q | q
  ·exact q
  ·rw [List.getElem?_eq_none q] at b;cases b
 match t,h with
 | .mk v [],h=>obtain ⟨u,b,_⟩:=h;exact e b
 | .mk v [(j,k)],h=>obtain ⟨u,b,_⟩:=h;exact e b
 | .mk v [(j,k),(m,n)],h=>obtain ⟨u,b,_⟩:=h;exact e b
def gY(P:List PFn)(c b:Nat)(a:List UInt8):Mc×Nat:=PO P b (UR P ⟨⟨[],a,[],[]⟩,[],1⟩ c [] 0)
end
mutual
def dS:TS→List ByteArray
 | .mk s bl=>(if s.kind=0 then [s.tg.a9] else [])++dB bl
def dB:List (Nat×List TS)→List ByteArray
 | []=>[]
 | (_,ts)::r=>dL ts++dB r
def dL:List TS→List ByteArray
 | []=>[]
 | t::ts=>dS t++dL ts
end
structure ZP(fn:List ByteArray)(par:List Nat)(s:VS)(vs:List ByteArray):Prop where
 decl:s.kind=0→s.tg.a9∉vs∧vs.length<12
 tg:s.kind≠0→s.kind≠10→s.tg.a9∈vs
 func:s.kind=4∨s.kind=7→s.sr.a9∈fn
 many:s.kind=7→par[vx fn s.sr.a9]?.getD 0=s.args.length
 sr:s.kind=2∨s.kind=3∨s.kind=5∨s.kind=6∨s.kind=8∨s.kind=9∨s.kind=10→s.sr.a9∈vs
 args:s.kind=7∨s.kind=8→∀t,t∈s.args→t.a9∈vs
mutual
def Yn(fn:List ByteArray)(par:List Nat):TS→List ByteArray→Prop
 | .mk s [],vs=>s.kind≤10∧ZP fn par s vs
 | .mk s [(_,ts)],vs=>(s.kind=11∨s.kind=12)∧IM fn par ts vs
 | .mk s [(_,ts),(_,ts2)],vs=>s.kind=11∧IM fn par ts vs∧IM fn par ts2 (vs++dL ts)
 | .mk _ (_::_::_::_),_=>False
def IM(fn:List ByteArray)(par:List Nat):List TS→List ByteArray→Prop
 | [],_=>True
 | t::ts,vs=>Yn fn par t vs∧IM fn par ts (vs++dS t)
end
theorem Rf(l m:List ByteArray)(s:ByteArray)(h:s∈l):∀k,CE (l++m) s k=CE l s k:=by
 induction l with
 | nil=>cases h
 | cons a l c=>
   intro k;simp only [List.cons_append,CE];split
   ·rfl
   ·rename_i b;rcases List.mem_cons.1 h with q | q
    ·subst q;exact absurd rfl b
    ·exact c q (k+1)
theorem M5{l m:List ByteArray}{s:ByteArray}(h:s∈l):vx (l++m) s=vx l s:=by unfold vx;rw [Rf l m s h]
structure Ym(dn:List ByteArray)(n1 n8 sz:Nat)(b b':Bd)(L:List ByteArray→List AY→Prop):Prop where
 d9:b'.d9=b.d9++dn
 pl:b'.pl=b.pl+n1
 ca:b'.ca=b.ca+n8
 len:b'.b9.length=b.b9.length+sz
 pre:∀i,i<b.b9.length→b'.b9[i]? =b.b9[i]?
 laid:∀(more:List ByteArray) (st:List AY),(∀i,b.b9.length≤i→i<b'.b9.length→st[i]? =b'.b9[i]?)→L (b'.d9++more) st
theorem TJ{fn:List ByteArray}{par:List Nat}{s:VS}{b:Bd}(h:ZP fn par s b.d9)(a:Nat)(g:List ByteArray):IP fn (b.d9++g) s {Az fn s b with next:=a} b.pl b.ca:=by
 refine ⟨rfl,fun d e _=>?_,fun c=>?_,fun c=>?_,rfl,fun c=>?_,fun c=>?_,fun c=>?_⟩
 ·simp only [Az,if_neg d,M5 (h.tg d e)]
 ·simp only [Az,if_pos c]
 ·simp only [Az,if_neg (show¬(s.kind=4∨s.kind=7) by omega),M5 (h.sr c)]
 ·simp only [Az,if_pos c]
 ·simp only [Az,if_neg (show¬s.kind=1 by omega),if_pos c]
 ·simp only [Az];exact List.map_congr_left fun t f=>(M5 (h.args c t f)).symm
theorem Lb{fn:List ByteArray}{s:VS}{b:Bd}(d:s.kind=11∨s.kind=12)(c:List ByteArray)(a n:Nat):IP fn c s {Az fn s b with next:=a,taken:=n} b.pl b.ca:=
 ⟨rfl,fun _ _ _=>by omega,fun _=>by omega,fun _=>by omega,rfl,fun _=>by omega,fun _=>by omega,fun _=>by omega⟩
theorem Bi(fn:List ByteArray)(s:VS)(a:Nat)(b:Bd):(Am fn s a b).b9=b.b9++[{Az fn s b with next:=a}]:=rfl
theorem La(fn:List ByteArray)(s:VS)(a:Nat)(b:Bd):(Am fn s a b).b9[b.b9.length]? =some {Az fn s b with next:=a}:=by rw [Bi,List.getElem?_append_right (rN _)];simp
theorem Ef(fn:List ByteArray)(s:VS)(a:Nat)(b:Bd)(c:s.kind=11∨s.kind=12):(Am fn s a b).d9=b.d9∧(Am fn s a b).pl=b.pl∧(Am fn s a b).ca=b.ca:=by refine ⟨?_,?_,?_⟩<;>(simp only [Am,BC];rw [if_neg (by omega)])
theorem RO(b:Bd)(i n j:Nat):(b.tk i n).b9[j]? =if i=j then (b.b9[j]?).map (fun s=>{s with taken:=n}) else b.b9[j]? :=by simp only [Bd.tk,List.getElem?_modify];split<;>simp
theorem Ry(b:Bd)(i n j:Nat):(b.nx i n).b9[j]? =if i=j then (b.b9[j]?).map (fun s=>{s with next:=n}) else b.b9[j]? :=by simp only [Bd.nx,List.getElem?_modify];split<;>simp
theorem Lf(b:Bd)(i n:Nat):(b.tk i n).b9.length=b.b9.length:=by simp [Bd.tk]
theorem Vn(b:Bd)(i n:Nat):(b.nx i n).b9.length=b.b9.length:=by simp [Bd.nx]
section
variable {fn : List ByteArray} {par : List Nat}
mutual
theorem J6:∀(t:TS) (a:Nat) (b:Bd),Yn fn par t b.d9→Ym (dS t) (nK 1 t) (nK 8 t) (Ez t) b (BP fn t a b) (fun vars st=>Um fn vars st t b.b9.length a b.pl b.ca)
 | .mk s [],a,b,h=>by
   obtain ⟨hk,ho⟩:=h;refine ⟨?_,?_,?_,?_,?_,fun more st hst=>?_⟩
   ·simp only [BP,Am,BC,dS,dB,List.append_nil];split<;>simp
   ·simp only [BP,Am,BC,nK,nB,Nat.add_zero];split<;>rfl
   ·simp only [BP,Am,BC,nK,nB,Nat.add_zero];split<;>rfl
   ·simp [BP,Bi,Ez,LG]
   ·intro i hi;rw [BP,Bi,List.getElem?_append_left hi]
   ·have e:(BP fn (.mk s []) a b).d9=b.d9++(if s.kind=0 then [s.tg.a9] else []):=by simp only [BP,Am,BC];split<;>simp
    refine ⟨_,(hst b.b9.length (rN _) (by simp [BP,Bi])).trans (La fn s a b),?_,by omega,rfl⟩
    rw [e,List.append_assoc]
    exact TJ ho a _
 | .mk s [(p,ts)],a,b,h=>by
   obtain ⟨hk,ho⟩:=h;obtain ⟨e1,e2,e3⟩:=Ef fn s a b hk;have hA:=La fn s a b;have hAl:(Am fn s a b).b9.length=b.b9.length+1:=by simp [Bi]
   have go:∀(g:Nat) (bb:Bd),AP fn ts g (Am fn s a b)=bb→Ym (dS (.mk s [(p,ts)])) (nK 1 (.mk s [(p,ts)])) (nK 8 (.mk s [(p,ts)])) (Ez (.mk s [(p,ts)])) b (bb.tk b.b9.length (AJ ts g (Am fn s a b)))
    (fun vars st=>∃u,st[b.b9.length]? =some u∧IP fn vars s u b.pl b.ca∧u.next=a∧FJ fn vars st ts u.taken g b.pl b.ca):=by
    intro g bb hbb;have I:=DI ts g (Am fn s a b) (by rw [e1];exact ho);rw [hbb] at I;have i4:=I.len;refine ⟨?_,?_,?_,?_,?_,fun more st hst=>?_⟩
    ·show bb.d9=_;rw [I.d9,e1];simp [dS,dB,show¬s.kind=0 by omega]
    ·show bb.pl=_;rw [I.pl,e2];simp [nK,nB,show¬s.kind=1 by omega]
    ·show bb.ca=_;rw [I.ca,e3];simp [nK,nB,show¬s.kind=8 by omega]
    ·rw [Lf,I.len,hAl];simp [Ez,LG];omega
    ·intro i hi;rw [RO,if_neg (by omega),I.pre i (by omega),Bi,List.getElem?_append_left hi]
    ·rw [Lf] at hst;have c0:=hst b.b9.length (rN _) (by omega);rw [RO,if_pos rfl,I.pre _ (by omega),hA] at c0;refine ⟨_,c0,Lb hk _ _ _,rfl,?_⟩;have:=I.laid more st (fun i hi hi'=>by rw [hst i (by omega) hi',RO,if_neg (by omega)])
     rw [e2,e3] at this;exact this
   rw [BP];rcases hk with hk | hk
   ·rw [if_pos hk];obtain ⟨g1,g2,g3,g4,g5,g6⟩:=go a _ rfl;refine ⟨g1,g2,g3,g4,g5,fun more st hst=>?_⟩;obtain ⟨u,q1,q2,q3,q4⟩:=g6 more st hst;exact ⟨u,q1,q2,q3,.inl ⟨hk,q4⟩⟩
   ·rw [if_neg (by omega),if_pos hk];obtain ⟨g1,g2,g3,g4,g5,g6⟩:=go b.b9.length _ rfl;refine ⟨g1,g2,g3,g4,g5,fun more st hst=>?_⟩;obtain ⟨u,q1,q2,q3,q4⟩:=g6 more st hst;exact ⟨u,q1,q2,q3,.inr ⟨hk,q4⟩⟩
 | .mk s [(p,ts),(p2,ts2)],a,b,h=>by
   obtain ⟨hk,ho,ho2⟩:=h;obtain ⟨e1,e2,e3⟩:=Ef fn s a b (.inl hk);have hA:=La fn s a b;have hAl:(Am fn s a b).b9.length=b.b9.length+1:=by simp [Bi]
   have I:=DI ts a (Am fn s a b) (by rw [e1];exact ho);rw [BP,if_pos hk];simp only;generalize AP fn ts a (Am fn s a b)=bb at I⊢;have i4:=I.len;have J:=DI ts2 a (bb.tk b.b9.length (AJ ts a (Am fn s a b))) (by show IM fn par ts2 bb.d9;rw [I.d9,e1];exact ho2)
   have hJl:(bb.tk b.b9.length (AJ ts a (Am fn s a b))).b9.length=bb.b9.length:=Lf _ _ _;have hJp:(bb.tk b.b9.length (AJ ts a (Am fn s a b))).pl=bb.pl:=rfl;have hJc:(bb.tk b.b9.length (AJ ts a (Am fn s a b))).ca=bb.ca:=rfl;have hJn:(bb.tk b.b9.length (AJ ts a (Am fn s a b))).d9=bb.d9:=rfl;have hJa:=fun j=>RO bb b.b9.length (AJ ts a (Am fn s a b)) j
   generalize bb.tk b.b9.length (AJ ts a (Am fn s a b))=bt at*;generalize AP fn ts2 a bt=b3 at J⊢;have j4:=J.len;refine ⟨?_,?_,?_,?_,?_,fun more st hst=>?_⟩
   ·show b3.d9=_;rw [J.d9,hJn,I.d9,e1];simp [dS,dB,show¬s.kind=0 by omega]
   ·show b3.pl=_;rw [J.pl,hJp,I.pl,e2];simp [nK,nB,show¬s.kind=1 by omega];omega
   ·show b3.ca=_;rw [J.ca,hJc,I.ca,e3];simp [nK,nB,show¬s.kind=8 by omega];omega
   ·rw [Vn,J.len,hJl,I.len,hAl];simp [Ez,LG];omega
   ·intro i hi;rw [Ry,if_neg (by omega),J.pre i (by omega),hJa,if_neg (by omega),I.pre i (by omega),Bi,List.getElem?_append_left hi]
   ·rw [Vn] at hst;have c0:=hst b.b9.length (rN _) (by omega);rw [Ry,if_pos rfl,J.pre _ (by omega),hJa,if_pos rfl,I.pre _ (by omega),hA] at c0;refine ⟨_,c0,Lb (.inl hk) _ _ _,hk,?_,?_⟩
    ·have:=I.laid (dL ts2++more) st (fun i hi hi'=>by rw [hst i (by omega) (by omega),Ry,if_neg (by omega),J.pre i (by omega),hJa,if_neg (by omega)])
     rw [e2,e3,←List.append_assoc,←hJn,←J.d9] at this
     exact this
    ·have:=J.laid more st (fun i hi hi'=>by rw [hst i (by omega) hi',Ry,if_neg (by omega)])
     rw [hJp,hJc,I.pl,I.ca,e2,e3] at this
     exact this
theorem DI:∀(ts:List TS) (a:Nat) (b:Bd),IM fn par ts b.d9→Ym (dL ts) (nL 1 ts) (nL 8 ts) (CQ ts) b (AP fn ts a b) (fun vars st=>FJ fn vars st ts (AJ ts a b) a b.pl b.ca)
 | [],a,b,_=>⟨by simp [AP,dL],by simp [AP,nL],by simp [AP,nL],by simp [AP,CQ],fun i _=>by rw [AP],fun more st _=>by simp only [AJ,List.length_nil,if_true];rfl⟩
 | [t],a,b,h=>by have I:=J6 t a b h.1;rw [AP];refine ⟨by rw [I.d9];simp [dL],by rw [I.pl];simp [nL],by rw [I.ca];simp [nL],by rw [I.len];simp [CQ],I.pre,fun more st hst=>?_⟩;refine ⟨a,?_,rfl⟩;have:=I.laid more st hst;simpa [AJ] using this
 | t::t2::ts,a,b,h=>by
   have I:=J6 t (b.b9.length+Ez t) b h.1;rw [AP];generalize BP fn t (b.b9.length+Ez t) b=b1 at I⊢;have J:=DI (t2::ts) a b1 (by rw [I.d9];exact h.2);generalize AP fn (t2::ts) a b1=b2 at J⊢;have i4:=I.len;have j4:=J.len;refine ⟨by rw [J.d9,I.d9];simp [dL],by rw [J.pl,I.pl];simp [nL];omega,by rw [J.ca,I.ca];simp [nL];omega,by rw [J.len,I.len];simp [CQ];omega,fun i hi=>by rw [J.pre i (by omega),I.pre i hi],fun more st hst=>?_⟩;refine ⟨b.b9.length+Ez t,?_,?_⟩
   ·have:=I.laid (dL (t2::ts)++more) st (fun i hi hi'=>by rw [hst i hi (by omega),J.pre i hi']);rw [←List.append_assoc,←J.d9] at this;simpa [AJ] using this
   ·have:=J.laid more st (fun i hi hi'=>hst i (by omega) hi');rw [I.pl,I.ca] at this;simp only [AJ,rW,if_neg (show¬ts.length+1=0 by omega)] at this;rw [i4] at this;exact this
end
end
def Yj:List TF→Nat→Nat→List XF
 | [],_,_=>[]
 | t::l,b,a=>⟨t.i8.map (fun p=>p.a9)++dL t.v8,t.i8.length,t.v8,b,a⟩::Yj l (b+nL 1 t.v8) (a+nL 8 t.v8)
def aG(a:List TF):Prop:=∀t,t∈a→IM (a.map fun f=>f.name.a9) (a.map fun f=>f.i8.length) t.v8 (t.i8.map fun p=>p.a9)
theorem KU{fn:List ByteArray}{par:List Nat}(t:TF)(b a:Nat)(h:IM fn par t.v8 (t.i8.map fun p=>p.a9)):
 (CL fn t b a).l8=t.i8.map (fun p=>p.a9)++dL t.v8∧(EQ fn t b a).pl=b+nL 1 t.v8∧(EQ fn t b a).ca=a+nL 8 t.v8∧(CL fn t b a).b9.length=CQ t.v8∧FJ fn (t.i8.map (fun p=>p.a9)++dL t.v8) (CL fn t b a).b9 t.v8 0 (CL fn t b a).b9.length b a:=by
 have I:=DI t.v8 (CQ t.v8) (QU t b a) h;have c:(CL fn t b a).b9.length=CQ t.v8:=by show (AP fn t.v8 (CQ t.v8) (QU t b a)).b9.length=_;rw [I.len];simp [QU]
 refine ⟨I.d9,I.pl,I.ca,c,?_⟩;rw [c];have:=I.laid [] (CL fn t b a).b9 (fun _ _ _=>rfl);rw [List.append_nil,I.d9] at this;have e:AJ t.v8 (CQ t.v8) (QU t b a)=0:=by
  unfold AJ;cases t.v8 with
  | nil=>rfl
  | cons _ _=>rfl
 rw [e] at this;exact this
def Pm(a b:Nat)(v:Vl):Prop:=(v.kind=0∧v.bG=0)∨(v.kind=1∧v.bG<a)∨(v.kind=2∧v.bG<b)
def Up(n i:Nat)(t:Tg):Prop:=t.kind=0∨(t.kind=1∧t.aV≤4000∧t.aX≤3∧t.aX≤i∧i+(3-t.aX)<n)
structure LJ(nf:Nat)(m:List Cl):Prop where
 nm:∀i (h:i<m.length),Up m.length i m[i].nm
 vl:∀i (h:i<m.length),Pm nf m.length m[i].v
theorem Pm.more{b n a:Nat}{v:Vl}(h:Pm b n v)(e:n≤a):Pm b a v:=by
 rcases h with h | h | ⟨c,d⟩
 ·exact .inl h
 ·exact .inr (.inl h)
 ·exact .inr (.inr ⟨c,by omega⟩)
theorem Up.more{n a i:Nat}{t:Tg}(h:Up n i t)(g:n≤a):Up a i t:=by
 rcases h with h | ⟨b,c,d,e,f⟩
 ·exact .inl h
 ·exact .inr ⟨b,c,d,e,by omega⟩
theorem gX(a n:Nat):Pm a n Uh:=.inl ⟨rfl,rfl⟩
theorem WM{m:List Cl}{i:Nat}(h:i<m.length):DB m i=m[i]:=by unfold DB;rw [rU h];rfl
theorem LJ.at_{b:Nat}{m:List Cl}(h:LJ b m){i:Nat}(a:i<m.length):Up m.length i (DB m i).nm∧Pm b m.length (DB m i).v:=by rw [WM a];exact ⟨h.nm i a,h.vl i a⟩
theorem LJ.set{b:Nat}{m:List Cl}(h:LJ b m){c:Nat}{v:Vl}(d:Pm b m.length v):LJ b (m.set c ⟨(DB m c).nm,v⟩):=by
 refine ⟨fun i a=>?_,fun i a=>?_⟩
 ·simp only [List.length_set] at a⊢;rw [List.getElem_set];split
  ·rename_i e;subst e;exact (h.at_ a).1
  ·exact h.nm i a
 ·simp only [List.length_set] at a⊢;rw [List.getElem_set];split
  ·exact d
  ·exact h.vl i a
theorem LJ.app{d:Nat}{m l:List Cl}(h:LJ d m)(c:∀i (a:i<l.length),Up (m.length+l.length) (m.length+i) l[i].nm∧l[i].v=Uh):LJ d (m++l):=by
 have e:(m++l).length=m.length+l.length:=rV;refine ⟨fun i a=>?_,fun i a=>?_⟩
 ·rw [e] at a⊢;rw [List.getElem_append];split
  ·rename_i b;exact (h.nm i b).more (by omega)
  ·rename_i f;have:=(c (i-m.length) (by omega)).1;rw [show m.length+(i-m.length)=i by omega] at this;exact this
 ·rw [e] at a⊢;rw [List.getElem_append];split
  ·rename_i b;exact (h.vl i b).more (by omega)
  ·rename_i f;rw [(c (i-m.length) (by omega)).2];exact gX _ _
structure kJ(nf:Nat)(c c':Co)(a b:Nat):Prop where
 m:LJ nf c'.aY
 lo:c.aY.length≤c'.aY.length
 hi:c'.aY.length≤c.aY.length+a
 se:c'.cU.length+c'.bN.length≤c.cU.length+c.bN.length+b
theorem kJ.refl{a:Nat}{c:Co}(h:LJ a c.aY):kJ a c c 0 0:=⟨h,rN _,rN _,rN _⟩
theorem kJ.trans{f:Nat}{c d e:Co}{a b g i:Nat}(h:kJ f c d a b)(k:kJ f d e g i):kJ f c e (a+g) (b+i):=
 ⟨k.m,rO h.lo k.lo,by have:=h.hi;have:=k.hi;omega,by have:=h.se;have:=k.se;omega⟩
theorem kJ.less{g:Nat}{c d:Co}{a b e f:Nat}(h:kJ g c d a b)(i:a≤e)(k:b≤f):kJ g c d e f:=⟨h.m,h.lo,by have:=h.hi;omega,by have:=h.se;omega⟩
theorem iK{b:Nat}{c:Co}(h:LJ b c.aY){a:Nat}{v:Vl}(d:Pm b c.aY.length v):kJ b c (c.set a v) 0 1:=by
 have e:(c.set a v).aY.length=c.aY.length:=by simp [Co.set]
 refine ⟨h.set d,by omega,by omega,?_⟩;simp only [Co.set];split
 ·simp only [rW];omega
 ·split
  ·simp only [rW];omega
  ·omega
theorem mH{d:Nat}{c:Co}(h:LJ d c.aY){p:Nat}(a:p≤4000):kJ d c (c.fields p) 4 0:=by
 have e:(c.fields p).aY.length=c.aY.length+4:=by simp [Co.fields]
 refine ⟨?_,by omega,by omega,rN _⟩;refine h.app (fun i b=>?_);simp only [rW,List.length_nil] at b⊢;match i,b with
 | 0,_=>exact ⟨.inr ⟨rfl,a,by simp,by simp,by simp⟩,rfl⟩
 | 1,_=>exact ⟨.inr ⟨rfl,a,by simp,by simp,by simp⟩,rfl⟩
 | 2,_=>exact ⟨.inr ⟨rfl,a,by simp,by simp,by simp⟩,rfl⟩
 | 3,_=>exact ⟨.inr ⟨rfl,a,by simp,by simp,by simp⟩,rfl⟩
theorem lW{a:Nat}{c:Co}(h:LJ a c.aY)(f n:Nat):kJ a c (c.l8 f n) n 0∧(c.l8 f n).aY.length=c.aY.length+n:=by
 have e:(c.l8 f n).aY.length=c.aY.length+n:=by simp [Co.l8]
 refine ⟨⟨?_,by omega,by omega,rN _⟩,e⟩;refine h.app (fun i b=>?_);rw [List.getElem_map];exact ⟨.inl rfl,rfl⟩
theorem kB{b:Nat}:∀(l:List Vl) (a:Nat) (c:Co),LJ b c.aY→(∀v,v∈l→Pm b c.aY.length v)→kJ b c (XZ l a c) 0 l.length∧(XZ l a c).aY.length=c.aY.length
 | [],a,c,h,_=>⟨kJ.refl h,rfl⟩
 | v::l,a,c,h,g=>by
   have e:=iK h (a:=a) (g v (List.mem_cons_self ..));have d:(c.set a v).aY.length=c.aY.length:=by simp [Co.set]
   have f:=kB l (a+1) (c.set a v) e.m (fun u i=>by rw [d];exact g u (rT _ i));exact ⟨(e.trans f.1).less (by omega) (by simp only [rW];omega),by rw [XZ,f.2,d]⟩
theorem nN{b:Nat}{c:Co}(h:LJ b c.aY)(f n:Nat){a:List Vl}(l:∀v,v∈a→Pm b c.aY.length v):kJ b c (c.enter f n a) n a.length∧(c.enter f n a).aY.length=c.aY.length+n:=by obtain ⟨d,e⟩:=lW h f n;obtain ⟨i,g⟩:=kB a c.aY.length (c.l8 f n) d.m (fun v k=>(l v k).more (by omega));exact ⟨(d.trans i).less (by omega) (by omega),by unfold Co.enter;rw [g,e]⟩
theorem pM{i k p q n l g:Nat}{c m:Co}(h:LJ i c.aY)(C:p<c.aY.length)(u:q<c.aY.length)(A:k=4→g<i)(z:k=3→n≤3)(B:k=1→l≤4000)(b:aJ k p q n l g c=some m):kJ i c m 4 1:=by
 have E:=h.at_ C;have e:=h.at_ u;unfold aJ at b;split at b
 ·rename_i d;cases b;have s:=mH h (B d);have D:(c.fields l).aY.length=c.aY.length+4:=by simp [Co.fields]
  have x:=iK s.m (a:=p) (v:=⟨2,c.aY.length⟩) (.inr (.inr ⟨rfl,by simp only;omega⟩));exact (s.trans x).less (by omega) (by omega)
 split at b
 ·cases b;exact (iK h (.inr (.inr ⟨rfl,u⟩))).less (by omega) (by omega)
 split at b
 ·rename_i d;split at b
  ·rename_i t;cases b;have f:(DB c.aY q).v.bG<c.aY.length:=by
    rcases e.2 with ⟨r,_⟩ | ⟨r,_⟩ | ⟨_,r⟩
    ·omega
    ·omega
    ·exact r
   have y:=(h.at_ f).1;refine (iK h (.inr (.inr ⟨rfl,?_⟩))).less (by omega) (by omega);rcases y with r | ⟨_,_,_,_,r⟩
   ·omega
   ·have:=z d;have:=t.2.2;simp only;omega
  ·cases b
 split at b
 ·rename_i d;cases b;exact (iK h (.inr (.inl ⟨rfl,A d⟩))).less (by omega) (by omega)
 split at b
 ·split at b
  ·rename_i t;cases b;have f:(DB c.aY q).v.bG<c.aY.length:=by
    rcases e.2 with ⟨r,_⟩ | ⟨r,_⟩ | ⟨_,r⟩
    ·omega
    ·omega
    ·exact r
   exact (iK h (h.at_ f).2).less (by omega) (by omega)
  ·cases b
 split at b
 ·cases b;exact (iK h e.2).less (by omega) (by omega)
 split at b
 ·split at b
  ·cases b;exact (iK h e.2).less (by omega) (by omega)
  ·cases b
 ·cases b;exact (kJ.refl h).less (by omega) (by omega)
structure aO(j:List ByteArray)(o:List Nat)(vs:List ByteArray)(s:VS):Prop where
 tg:s.kind≠0→s.kind≠10→s.tg.a9∈vs
 func:s.kind=4∨s.kind=7→s.sr.a9∈j
 many:s.kind=7→o[vx j s.sr.a9]?.getD 0=s.args.length
 sr:s.kind=2∨s.kind=3∨s.kind=5∨s.kind=6∨s.kind=8∨s.kind=9∨s.kind=10→s.sr.a9∈vs
 args:s.kind=7∨s.kind=8→∀t,t∈s.args→t.a9∈vs
 field:s.kind=3→s.field≤3
mutual
def aN(j:List ByteArray)(o:List Nat)(vs:List ByteArray):TS→Prop
 | .mk s []=>s.kind≤10∧aO j o vs s
 | .mk s [(_,ts)]=>(s.kind=11∨s.kind=12)∧Yq j o vs ts
 | .mk s [(_,ts),(_,ts2)]=>s.kind=11∧Yq j o vs ts∧Yq j o vs ts2
 | .mk _ (_::_::_::_)=>False
def Yq(j:List ByteArray)(o:List Nat)(vs:List ByteArray):List TS→Prop
 | []=>True
 | t::ts=>aN j o vs t∧Yq j o vs ts
end
structure XOk(j:List ByteArray)(o:List Nat)(X:List XF):Prop where
 len:X.length=j.length
 us:∀f,Yq j o (Da X f).l8 (Da X f).v8
 bA:∀f,(Da X f).l8.length≤12
 pm:∀f,(Da X f).i8≤(Da X f).l8.length
 bX:∀f,f<X.length→o[f]?.getD 0=(Da X f).i8
 pl:∀f,(Da X f).pl+nL 1 (Da X f).v8≤4000
 ca:∀f,(Da X f).ca+nL 8 (Da X f).v8≤4000
structure Yp(K nf:Nat)(S:RS):Prop where
 m:LJ nf S.c.aY
 ml:S.c.aY.length+20*S.left≤K
 pl:S.c.cU.length+S.c.bN.length+20*S.left≤K
 gv:Pm nf S.c.aY.length S.bY
structure XV(K nf:Nat)(S S':RS):Prop where
 inv:Yp K nf S'
 lo:S.c.aY.length≤S'.c.aY.length
 left:S'.left≤S.left
theorem O8{l:List ByteArray}{s:ByteArray}(h:s∈l):vx l s<l.length∧CE l s 0=(vx l s:Int):=by have a:=Db l s 0;have b:=a.1.2 h;unfold vx;omega
def Z4(j:List ByteArray)(o:List Nat)(X:List XF)(F:Nat):Prop:=∀(K a c:Nat) (b:List TS) (d e:Nat) (S:RS),
 Yp K j.length S→S.left<F→c+(Da X a).l8.length≤S.c.aY.length→Yq j o (Da X a).l8 b→d+nL 1 b≤4000→XV K j.length S (Jz X j F a c b d e S).2
section
variable {j : List ByteArray} {o : List Nat} {X : List XF} (w : XOk j o X)
include w
omit w in
theorem SH{F K b base g ca:Nat}{d:List TS}(l:Z4 j o X F)(i:Yq j o (Da X b).l8 d)(k:g+nL 1 d≤4000):∀(n:Nat) (S:RS),Yp K j.length S→S.left<F→base+(Da X b).l8.length≤S.c.aY.length→XV K j.length S (Jk (Jz X j F b base d g ca) n S).2
 | 0,S,h,_,_=>⟨h,rN _,rN _⟩
 | n+1,S,h,q,p=>by
   unfold Jk;simp only;split
   ·exact ⟨⟨h.m,h.ml,h.pl,h.gv⟩,rN _,rN _⟩
   ·have I:=l K b base d g ca {S with c:={S.c with ch:=(Pv S.c.ch).2}} ⟨h.m,h.ml,h.pl,h.gv⟩ q p i k;generalize Jz X j F b base d g ca {S with c:={S.c with ch:=(Pv S.c.ch).2}}=r at I⊢;obtain ⟨a,e,f⟩:=I;simp only at e f;split
    ·exact ⟨a,e,f⟩
    ·split
     ·exact ⟨⟨a.m,a.ml,a.pl,a.gv⟩,e,f⟩
     ·have s:=a.ml;have t:=a.pl;have J:=SH (K:=K) (base:=base) (ca:=ca) l i k n r.2.one ⟨a.m,by simp only [RS.one];omega,by simp only [RS.one];omega,a.gv⟩ (by simp only [RS.one];omega) (by simp only [RS.one];omega);have m:r.2.one.left≤r.2.left:=Nat.sub_le _ _;exact ⟨J.inv,rO e J.lo,rO J.left (rO m f)⟩
end
abbrev Wa:ByteArray:=⟨#[48,49,50,51,52,53,54,55,56,57]⟩
theorem RN:∀n:Nat,n<10→(Wa.extract n (n+1)).data.toList=[UInt8.ofNat (48+n)]:=by decide+kernel
theorem FN{s:ByteArray}{l:List UInt8}(h:s.data.toList=l):s=⟨l.toArray⟩:=by subst h;cases s;simp
theorem Hw:∀n:Nat,(Lib.decDigits n).length≤n+1:=by
 intro n;induction n using Nat.strongRecOn with
 | ind n a=>
   rw [Lib.decDigits];split
   ·simp
   ·have:=a (n / 10) (by omega);simp only [rV,List.length_singleton];omega
theorem TQ(r:Nat)(h:r<10)(W:World):(Instr.sliceAt 9 (.string Wa) (some (.int .i64 (r:Int))) (some (.int .i64 ((r:Int)+1))) none).run Tryz.prog W=.ok (.string (Wa.extract r (r+1))) W:=by
 have e:r=0∨r=1∨r=2∨r=3∨r=4∨r=5∨r=6∨r=7∨r=8∨r=9:=by omega
 rcases e with rfl | rfl | rfl | rfl | rfl | rfl | rfl | rfl | rfl | rfl<;>(show _=_)<;>kernel_rfl
def ZU(a b:ByteArray):Bool:=decide (a.data.toList<b.data.toList)
theorem Rz{w:World}{B:Nat}{e:TypeId}{d:Nat}{g l c n:Nat}{f:List Value}(h:w.ownsRow B e d (.slice (some ⟨g,0,none⟩) l c) n f):n≤c:=by
 rcases h.2 with ⟨a,_⟩ | ⟨k,i,j,b,_,_,m,_⟩
 ·simp at a
 ·simp only [Value.slice.injEq] at b;omega
theorem mM{a b c}(h:ZU a b=true)(k:ZU b c=true):ZU a c=true:=by unfold ZU at*;simp only [decide_eq_true_eq] at*;exact List.lt_trans h k
theorem iZ(a):ZU a a=false:=by unfold ZU;simp only [decide_eq_false_iff_not];exact List.lt_irrefl _
theorem mL{a b}(h:ZU a b=false)(c:a≠b):ZU b a=true:=by
 unfold ZU at*;simp only [decide_eq_true_eq,decide_eq_false_iff_not] at*;rcases List.le_iff_lt_or_eq.1 (List.not_lt.1 h) with q | q
 ·exact q
 ·exact absurd (ByteArray.ext (Array.toList_inj.1 q.symm)) c
def RS.hold(S:RS)(c:Nat)(v:Vl):RS:={S with c:={S.c with aY:=S.c.aY.set c ⟨(DB S.c.aY c).nm,v⟩}}
theorem D3{e p:Nat}{c:CS}(a:e≠0):(C7 e p c).aR≠0:=by
 unfold C7;split
 ·exact a
 ·rename_i h;exact fun q=>h (.inl q)
theorem Fy{a:List ByteArray}{t:Tk}{c:CS}(h:(FH a t c).aR=0):t.a9∈a∧c.aR=0:=by
 unfold FH at h;split at h
 ·rename_i q;exact ⟨(Db a t.a9 0).1.1 q,h⟩
 ·exact absurd h (D3 (by decide))
theorem Rm{a:List RF}{t:Tk}{m:Int}{c:CS}(h:(JT a t m c).aR=0):t.a9∈a.map (fun f=>f.name.a9)∧c.aR=0∧(0≤m→((((a.map fun f=>f.aZ.length)[vx (a.map fun f=>f.name.a9) t.a9]?).getD 0:Nat):Int)=m):=by
 unfold JT at h;split at h
 ·rename_i q;split at h
  ·exact absurd h (D3 (by decide))
  ·rename_i d;refine ⟨(Db _ t.a9 0).1.1 q,h,fun b=>?_⟩;rcases Classical.em (((((a.map fun f=>f.aZ.length)[(CE (a.map fun f=>f.name.a9) t.a9 0).toNat]?).getD 0:Nat):Int)=m) with e | e
   ·exact e
   ·exact absurd ⟨b,e⟩ d
 ·exact absurd h (D3 (by decide))
theorem Nv{a:List ByteArray}{t:Tk}{c:CS}(h:(EU a t c).aR=0):t.a9∉a∧a.length<12∧c.aR=0:=by
 unfold EU at h;simp only at h;split at h
 ·exact absurd h (D3 (by decide))
 ·rename_i q;split at h
  ·exact absurd h (D3 (by decide))
  ·rename_i b;exact ⟨fun m=>q ((Db a t.a9 0).1.2 m),by omega,h⟩
theorem OW{a:List ByteArray}:∀{l:List PT} {c:CS},((l.map Ai).foldl (fun c t=>FH a t c) c).aR=0→(∀t,t∈l→t.a9∈a)∧c.aR=0
 | [],c,h=>⟨fun _ q=>(by cases q),h⟩
 | t::l,c,h=>by
   obtain ⟨b,d⟩:=OW (l:=l) h;obtain ⟨e,f⟩:=Fy d;refine ⟨fun u i=>?_,f⟩;rcases List.mem_cons.1 i with q | q
   ·subst q;exact e
   ·exact b u q
section
variable {g : List RF} {o : List ByteArray} {r : List Nat} (v : g.map (fun f => f.name.a9) = o) (w : g.map (fun f => f.aZ.length) = r)
include v w
theorem Th{s:VS}{j:List ByteArray}{c:CS}(_hk:s.kind≤10)(h:(C3 g s (j,c)).2.aR=0):c.aR=0∧(C3 g s (j,c)).1=j++(if s.kind=0 then [s.tg.a9] else [])∧ZP o r s j:=by
 unfold C3 at h⊢;by_cases a:s.kind=0
 ·simp only [if_pos a] at h⊢;obtain ⟨f,l,x⟩:=Nv h;exact ⟨x,by trivial,⟨fun _=>⟨f,l⟩,fun q=>absurd a q,fun q=>by omega,fun q=>by omega,fun q=>by omega,fun q=>by omega⟩⟩
 simp only [if_neg a] at h⊢;by_cases k:s.kind=10
 ·simp only [if_pos k] at h⊢;obtain ⟨f,l⟩:=Fy h;exact ⟨l,by simp,⟨fun q=>absurd q a,fun _ q=>absurd k q,fun q=>by omega,fun q=>by omega,fun _=>f,fun q=>by omega⟩⟩
 simp only [if_neg k] at h⊢;unfold Qq at h;by_cases f:s.kind=1
 ·rw [if_pos f] at h;obtain ⟨d,e⟩:=Fy h;exact ⟨e,by simp,⟨fun q=>absurd q a,fun _ _=>d,fun q=>by omega,fun q=>by omega,fun q=>by omega,fun q=>by omega⟩⟩
 rw [if_neg f] at h;obtain ⟨m,h⟩:=OW h;by_cases t:s.kind=4
 ·rw [if_pos t] at h;obtain ⟨b,i,n⟩:=Rm h;obtain ⟨d,e⟩:=Fy i;rw [v] at b;exact ⟨e,by simp,⟨fun q=>absurd q a,fun _ _=>d,fun _=>b,fun q=>by omega,fun q=>by omega,fun _=>m⟩⟩
 rw [if_neg t] at h;by_cases u:s.kind=7
 ·rw [if_pos u] at h;obtain ⟨b,i,n⟩:=Rm h;obtain ⟨d,e⟩:=Fy i;have p:=n (by omega);rw [v,w] at p;rw [v] at b;exact ⟨e,by simp,⟨fun q=>absurd q a,fun _ _=>d,fun _=>b,fun _=>by exact_mod_cast p,fun q=>by omega,fun _=>m⟩⟩
 rw [if_neg u] at h;obtain ⟨b,i⟩:=Fy h;obtain ⟨d,e⟩:=Fy i;exact ⟨e,by simp,⟨fun q=>absurd q a,fun _ _=>d,fun q=>by omega,fun q=>by omega,fun _=>b,fun _=>m⟩⟩
theorem VM:∀(d i:Nat) (t:TS) (a:List ByteArray) (c:CS),nG d t→(Hc g d i t (a,c)).2.aR=0→c.aR=0∧(Hc g d i t (a,c)).1=a++dS t∧Yn o r t a
 | 0,_,_,_,_,h,_=>h.elim
 | d+1,i,.mk s I,a,c,h,f=>by
   have L:∀(k:List TS) (a:List ByteArray) (c:CS),(∀t,t∈k→nG d t)→(k.foldl (fun x t=>Hc g d (i+1) t x) (a,c)).2.aR=0→c.aR=0∧(k.foldl (fun x t=>Hc g d (i+1) t x) (a,c)).1=a++dL k∧IM o r k a:=by
    intro k;induction k with
    | nil=>intro a c _ h;exact ⟨h,by simp [dL],trivial⟩
    | cons t k F=> intro a c n h;simp only [List.foldl_cons] at h⊢;have e:Hc g d (i+1) t (a,c)=((Hc g d (i+1) t (a,c)).1,(Hc g d (i+1) t (a,c)).2):=rfl;rw [e] at h⊢;obtain ⟨E,y,z⟩:=F _ _ (fun u D=>n u (rT _ D)) h;obtain ⟨l,b,j⟩:=VM d (i+1) t a c (n t List.mem_cons_self) E;rw [b] at y z;exact ⟨l,by rw [b,y];simp [dL],j,z⟩
   have B:∀{c:CS} {p:Nat},(if 6<i+1 then C7 4 p c else c).aR=0→c.aR=0:=by
    intro c p h;split at h
    ·exact absurd h (D3 (by decide))
    ·exact h
   rcases h with ⟨rfl,q⟩ | ⟨p,k,rfl,rfl | rfl,m⟩ | ⟨p,k,J,K,rfl,rfl,m,C⟩
   ·rw [Hc,if_neg (by omega)] at f⊢;obtain ⟨l,b,j⟩:=Th v w q f;exact ⟨l,by rw [b];simp [dS,dB],q,j⟩
   ·rw [Hc,if_pos (by simp [Dh])] at f⊢;simp only [List.foldl_cons,List.foldl_nil] at f⊢;obtain ⟨l,b,j⟩:=L _ _ _ m f;exact ⟨B l,by rw [b];simp [dS,dB,Dh],.inl rfl,j⟩
   ·rw [Hc,if_pos (by simp [Dh])] at f⊢;simp only [List.foldl_cons,List.foldl_nil] at f⊢;obtain ⟨l,b,j⟩:=L _ _ _ m f;exact ⟨B l,by rw [b];simp [dS,dB,Dh],.inr rfl,j⟩
   ·rw [Hc,if_pos (by simp [Dh])] at f⊢;simp only [List.foldl_cons,List.foldl_nil] at f⊢;obtain ⟨l,b,j⟩:=L _ _ _ C f;obtain ⟨G,A,H⟩:=L _ _ _ m (B l);rw [A] at b j;exact ⟨B G,by rw [A,b];simp [dS,dB,Dh],rfl,H,j⟩
theorem YS(d f:Nat):∀(b:List TS) (a:List ByteArray) (c:CS),(∀t,t∈b→nG d t)→(Oz g d f b (a,c)).2.aR=0→c.aR=0∧(Oz g d f b (a,c)).1=a++dL b∧IM o r b a:=by
 intro b;unfold Oz;induction b with
 | nil=>intro a c _ h;exact ⟨h,by simp [dL],trivial⟩
 | cons t b s=> intro a c j h;simp only [List.foldl_cons] at h⊢;have e:Hc g d f t (a,c)=((Hc g d f t (a,c)).1,(Hc g d f t (a,c)).2):=rfl;rw [e] at h⊢;obtain ⟨q,k,l⟩:=s _ _ (fun u p=>j u (rT _ p)) h;obtain ⟨m,i,n⟩:=VM v w d f t a c (j t List.mem_cons_self) q;rw [i] at k l;exact ⟨m,by rw [i,k];simp [dL],n,l⟩
end
theorem OC:∀(l:List PT) (d:List ByteArray) (c:CS),(Dt l (d,c)).2.aR=0→c.aR=0∧(Dt l (d,c)).1=d++l.map (fun p=>p.a9)∧(d.Nodup→(d++l.map (fun p=>p.a9)).Nodup)∧(d.length≤12→d.length+l.length≤12)
 | [],d,c,h=>⟨h,by simp [Dt],fun q=>by simpa using q,fun q=>by simpa using q⟩
 | t::l,d,c,h=>by
   obtain ⟨f,i,j,k⟩:=OC l (d++[t.a9]) (EU d (Ai t) c) h;obtain ⟨s,x,u⟩:=Nv f;refine ⟨u,?_,fun n=>?_,fun _=>?_⟩
   ·show (Dt l (d++[t.a9],EU d (Ai t) c)).1=_;rw [i];simp
   ·have:=j (List.nodup_append.2 ⟨n,List.nodup_cons.2 ⟨List.not_mem_nil,List.nodup_nil⟩,fun a m b e=>by rw [List.mem_singleton] at e;subst e;exact fun q=>s (by subst q;exact m)⟩)
    simpa using this
   ·have:=k (by simp;omega);simp at this⊢;omega
mutual
theorem L8{o:List ByteArray}{r:List Nat}:∀(t:TS) (vs:List ByteArray),Yn o r t vs→(vs.Nodup→(vs++dS t).Nodup)∧(vs.length≤12→(vs++dS t).length≤12)
 | .mk s [],vs,h=>by
   obtain ⟨_,ho⟩:=h;simp only [dS,dB,List.append_nil];split
   ·rename_i h0;obtain ⟨h1,h2⟩:=ho.decl h0;refine ⟨fun hn=>List.nodup_append.2 ⟨hn,List.nodup_cons.2 ⟨List.not_mem_nil,List.nodup_nil⟩,fun a ha b hb=>?_⟩,fun _=>by simp;omega⟩;rw [List.mem_singleton] at hb;subst hb;exact fun q=>h1 (by subst q;exact ha)
   ·simp
 | .mk s [(p,ts)],vs,h=>by have:=Ec ts vs h.2;have hk:=h.1;simpa [dS,dB,show¬s.kind=0 by omega] using this
 | .mk s [(p,ts),(p2,ts2)],vs,h=>by obtain ⟨hk,h1,h2⟩:=h;have a:=Ec ts vs h1;have b:=Ec ts2 (vs++dL ts) h2;simp only [dS,dB,show¬s.kind=0 by omega,if_false,List.nil_append,List.append_nil];rw [←List.append_assoc];exact ⟨fun q=>b.1 (a.1 q),fun q=>b.2 (a.2 q)⟩
theorem Ec{o:List ByteArray}{r:List Nat}:∀(ts:List TS) (vs:List ByteArray),IM o r ts vs→(vs.Nodup→(vs++dL ts).Nodup)∧(vs.length≤12→(vs++dL ts).length≤12)
 | [],vs,_=>by simp [dL]
 | t::ts,vs,h=>by have a:=L8 t vs h.1;have b:=Ec ts (vs++dS t) h.2;simp only [dL];rw [←List.append_assoc];exact ⟨fun q=>b.1 (a.1 q),fun q=>b.2 (a.2 q)⟩
end
def Dx(t:TF):List ByteArray:=t.i8.map (fun p=>p.a9)++dL t.v8
def EA:ByteArray:=⟨#[109,97,105,110]⟩
structure Z0(fns:List TF):Prop where
 ok:aG fns
 bA:fns.length≤12
 d9:∀i (h:i<fns.length),CE (fns.map fun f=>f.name.a9) fns[i].name.a9 0=i
 l8:∀t,t∈fns→(Dx t).Nodup∧(Dx t).length≤12
 main:EA∈fns.map (fun f=>f.name.a9)
 dH:(fns.map fun f=>f.i8.length)[vx (fns.map fun f=>f.name.a9) EA]?.getD 0=0
theorem VK{g:List RF}{i:Nat}{t:TF}{c:CS}(h:(EK g i t c).aR=0):CE (g.map fun f=>f.name.a9) t.name.a9 0=i∧i<12∧c.aR=0:=by
 unfold EK at h;split at h
 ·rename_i q;split at h
  ·exact absurd h (D3 (by decide))
  ·exact ⟨q,by omega,h⟩
 ·exact absurd h (D3 (by decide))
section
variable {g : List RF} {o : List ByteArray} {r : List Nat} (v : g.map (fun f => f.name.a9) = o) (w : g.map (fun f => f.aZ.length) = r)
include v w
theorem Xo{d i:Nat}{t:TF}{c:CS}(m:∀s,s∈t.v8→nG d s)(h:(DZ g d i t c).2.aR=0):
 c.aR=0∧(DZ g d i t c).1=Dx t∧IM o r t.v8 (t.i8.map fun p=>p.a9)∧(Dx t).Nodup∧(Dx t).length≤12∧CE o t.name.a9 0=i∧i<12:=by
 unfold DZ at h⊢;have e:Dt t.i8 ([],EK g i t c)=((Dt t.i8 ([],EK g i t c)).1,(Dt t.i8 ([],EK g i t c)).2):=rfl;rw [e] at h⊢;obtain ⟨l,b,a⟩:=YS v w d 1 t.v8 _ _ m h;obtain ⟨q,f,u,x⟩:=OC _ _ _ l;obtain ⟨k,z,A⟩:=VK q;rw [f,List.nil_append] at b a;have n:=Ec t.v8 _ a;have j:=u List.nodup_nil;have y:=x (by simp);rw [List.nil_append] at j;rw [v] at k;refine ⟨A,?_,a,n.1 j,n.2 (by simp at y⊢;omega),k,z⟩;rw [f,List.nil_append,b];rfl
theorem RD{d:Nat}:∀(l:List TF) (i:Nat) (x:List RF×CS),(∀t,t∈l→∀s,s∈t.v8→nG d s)→(Ds g d l i x).2.aR=0→
 x.2.aR=0∧(∀j (h:j<l.length),IM o r l[j].v8 (l[j].i8.map fun p=>p.a9)∧(Dx l[j]).Nodup∧(Dx l[j]).length≤12∧CE o l[j].name.a9 0=((i+j:Nat):Int)∧i+j<12)∧
 (Ds g d l i x).1.length=x.1.length∧(∀j (h:j<(Ds g d l i x).1.length) (C:j<x.1.length),((Ds g d l i x).1[j]).name=(x.1[j]).name∧((Ds g d l i x).1[j]).aZ=(x.1[j]).aZ∧((Ds g d l i x).1[j]).bD=(x.1[j]).bD∧(j<i→((Ds g d l i x).1[j]).l8=(x.1[j]).l8)∧∀k (b:k<l.length),j=i+k→((Ds g d l i x).1[j]).l8=Dx l[k])
 | [],i,x,_,h=>⟨h,fun j h=>by simp at h,rfl,fun j h C=>⟨rfl,rfl,rfl,fun _=>rfl,fun k b=>by simp at b⟩⟩
 | t::l,i,x,f,h=>by
   rw [Ds] at h;obtain ⟨y,z,A,B⟩:=RD (d:=d) l (i+1) _ (fun u G=>f u (rT _ G)) h;have D:=f t List.mem_cons_self;obtain ⟨I,J,K,L,M,N,O⟩:=Xo v w (i:=i) (c:=x.2) D y;refine ⟨I,fun j a=>?_,?_,fun j a E=>?_⟩
   ·cases j with
    | zero=>exact ⟨K,L,M,N,O⟩
    | succ j=> obtain ⟨P,Q,R,S,q5⟩:=z j (by simpa using a);exact ⟨P,Q,R,by rw [List.getElem_cons_succ,S];congr 1;omega,by omega⟩
   ·rw [Ds,A,Mp]
   ·have m:j<(wv x.1 i (DZ g d i t x.2).1).length:=by rw [Mp];exact E
    have q:=B j a m;have H:∀(F:j<(wv x.1 i (DZ g d i t x.2).1).length),((wv x.1 i (DZ g d i t x.2).1)[j]).name=(x.1[j]).name∧((wv x.1 i (DZ g d i t x.2).1)[j]).aZ=(x.1[j]).aZ∧((wv x.1 i (DZ g d i t x.2).1)[j]).bD=(x.1[j]).bD∧(j≠i→((wv x.1 i (DZ g d i t x.2).1)[j]).l8=(x.1[j]).l8)∧(j=i→((wv x.1 i (DZ g d i t x.2).1)[j]).l8=Dx t):=by
     intro F;simp only [wv,List.getElem_modify];split
     ·rename_i e;exact ⟨rfl,rfl,rfl,fun n=>absurd e.symm n,fun _=>J⟩
     ·rename_i e;exact ⟨rfl,rfl,rfl,fun _=>rfl,fun n=>absurd n.symm e⟩
    obtain ⟨T,U,V,W,X⟩:=H m;simp only [Ds] at a⊢;refine ⟨q.1.trans T,q.2.1.trans U,q.2.2.1.trans V,fun Z=>(q.2.2.2.1 (by omega)).trans (W (by omega)),fun k b Y=>?_⟩;cases k with
    | zero=>exact (q.2.2.2.1 (by omega)).trans (X (by omega))
    | succ k=>exact q.2.2.2.2 k (by simpa using b) (by omega)
end
theorem YB{g:List RF}{N:Nat}{c:CS}(h:(Nz g N c).aR=0):c.aR=0∧EA∈g.map (fun f=>f.name.a9)∧(g.map fun f=>f.aZ.length)[vx (g.map fun f=>f.name.a9) EA]?.getD 0=0:=by
 unfold Nz at h;split at h
 ·rename_i q;exact ⟨h,(Db _ EA 0).1.1 q.1,q.2⟩
 ·exact absurd h (D3 (by decide))
theorem Yv{g:List RF}{a:List TF}{N:Nat}(l:g.map (fun f=>f.name.a9)=a.map (fun f=>f.name.a9))(m:g.map (fun f=>f.aZ.length)=a.map (fun f=>f.i8.length))(u:∀t,t∈a→∀s,s∈t.v8→nG 4000 s)(h:(Nz g N (Ds g 4000 a 0 (g,⟨0,0⟩)).2).aR=0):Z0 a:=by
 obtain ⟨n,k,d⟩:=YB h;obtain ⟨x,b,y,z⟩:=RD l m a 0 (g,⟨0,0⟩) u n;rw [l] at k d;rw [m] at d;refine ⟨fun t e=>?_,?_,fun i p=>?_,fun t e=>?_,k,d⟩
 ·obtain ⟨j,c,rfl⟩:=List.mem_iff_getElem.1 e;exact (b j c).1
 ·rcases Nat.lt_or_ge 12 a.length with q | q
  ·have:=(b 12 q).2.2.2.2;omega
  ·exact q
 ·have:=(b i p).2.2.2.1;simpa using this
 ·obtain ⟨j,c,rfl⟩:=List.mem_iff_getElem.1 e;exact ⟨(b j c).2.1,(b j c).2.2.1⟩
theorem kZ(l v):∀(a:Nat) (c:Co),XZ (l++[v]) a c=(XZ l a c).set (a+l.length) v:=by
 induction l with
 | nil=>intro a c;rfl
 | cons u l b=> intro a c;simp only [List.cons_append,XZ,b,rW];congr 1;omega
theorem nA(c:Co)(f k:Nat):{(c.l8 f k) with aY:=(c.l8 f k).aY++[⟨⟨0,f,k⟩,Uh⟩]}=c.l8 f (k+1):=by unfold Co.l8;simp only [List.range_succ,List.map_append,List.map_singleton,List.append_assoc]
def Co.t9(c:Co)(p k:Nat):Co:={c with aY:=c.aY++(List.range k).map fun i=>⟨⟨1,p,i⟩,Uh⟩}
theorem nQ(c:Co)(p k:Nat):(c.t9 p k).aY.length=c.aY.length+k:=by simp [Co.t9]
theorem mJ(c:Co)(p k:Nat):{(c.t9 p k) with aY:=(c.t9 p k).aY++[⟨⟨1,p,k⟩,Uh⟩]}=c.t9 p (k+1):=by unfold Co.t9;simp only [List.range_succ,List.map_append,List.map_singleton,List.append_assoc]
end Go.Proofs.YtegmjgjkcdbmkaaGreatDoor

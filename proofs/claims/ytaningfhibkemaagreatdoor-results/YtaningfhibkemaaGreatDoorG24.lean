/- Part of the proof: MbA MbB MbF RnT RuQ RwA RwB RwC RwD. -/
import Derived.Test.YtaningfhibkemaaGreatDoorG23
import Derived.Maps.RangeWalk
set_option maxRecDepth 100000
set_option maxHeartbeats 4000000
namespace Go.Proofs.YtaningfhibkemaaGreatDoor
open Go.Proofs.Tryz Go.RowKit Go.Maps
mutual
def aW:TS->Prop
 |.mk s bl=>s.field<=3/\bM bl
def bM:List (Nat×List TS)->Prop
 |[]=>True
 |(_,ts)::r=>TA ts/\bM r
def TA:List TS->Prop
 |[]=>True
 |t::ts=>aW t/\TA ts
end
theorem Yb(t:PT):JX t<=3:=by
 unfold JX;repeat' split
 all_goals omega
theorem YM(l:List PT)(n:Nat)(x:PS):(Cm l n x).1.field<=3:=by
 unfold Cm;split
 .exact gV _
 .split
  .unfold EX;simp only;split
   .exact Yb _
   .exact gV _
  .split
   .exact gV _
   .split
    .exact gV _
    .split
     .exact gV _
     .split
      .exact gV _
      .exact gV _
theorem Ux(l:List PT)(n:Nat)(x:PS):(AS l n x).1.field<=3:=by
 unfold AS;split
 .exact gV _
 .split
  .exact gV _
  .split
   .exact gV _
   .exact YM _ _ _
theorem Sq:∀(a b:List TS),TA a->TA b->TA (a++b)
 |[],_,_,h=>h
 |_::a,b,h,k=>⟨h.1,Sq a b h.2 k⟩
theorem Pb(l:List PT)(n:Nat):∀f:Nat,(∀(x:PS) (b:List TS),TA b->TA (AN l n f x b).1)/\(∀(x:PS),aW (Bu l n f x).1)
 |0=>⟨fun x b h=>by rw[AN];exact h,fun x=>by rw[Bu];exact⟨gV _,trivial⟩⟩
 |f+1=>by
  obtain⟨a,c⟩:=Pb l n f;refine⟨fun x b h=>?_,fun x=>?_⟩
  .rw[AN];split
   .exact a _ _ (Sq _ _ h ⟨c _,trivial⟩)
   .exact h
  .rw[Bu];split
   .simp only;split
    .exact⟨gV _,a _ [] trivial,a _ [] trivial,trivial⟩
    .exact⟨gV _,a _ [] trivial,trivial⟩
   .split
    .exact⟨gV _,a _ [] trivial,trivial⟩
    .exact⟨Ux _ _ _,trivial⟩
theorem VV(l:List PT)(n:Nat)(x:PS):TA (JL l n x).1.cF:=by unfold JL;exact(Pb l n _).1 _ [] trivial
theorem SQ(l:List PT)(n:Nat):∀(f:Nat) (x:PS) (a:List TF),(∀t,t∈a->TA t.cF)->∀t,t∈(Ee l n f x a).1->TA t.cF
 |0,_,_,h=>by rw[Ee];exact h
 |f+1,x,a,h=>by
  rw[Ee];split
  .refine SQ l n f _ _ (fun t b=>?_);rcases iM.1 b with q|q
   .exact h t q
   .rw[iB.1 q];exact VV l n x
  .exact h
theorem Wy(l:List PT)(n:Nat)(x:PS):∀t,t∈(Cf l n x).1->TA t.cF:=by unfold Cf;refine SQ l n n _ _ (fun t a=>?_);rw[iB.1 a];exact VV l n x
theorem Ox:∀(a:List TS),Dr a=(a.map EU).sum
 |[]=>rfl
 |t::a=>by simp only[Dr,iK,iS,Ox a]
theorem Cd.sz{l:List PT}:∀{d i j:Nat} {t:TS},Cd l d i j t->EU t+i<=j
 |0,_,_,_,h=>h.elim
 |d+1,i,j,.mk s v,h=>by
  obtain⟨w,x,u⟩:=h;have C:∀a b n,Dn (Cd l d) a b n->Dr n+a<=b:=fun a b n r=>by rw[Ox];exact IZ (fun _ _ _ q=>q.sz) r
  rcases u with⟨rfl,_⟩|⟨k,n,m,rfl,_,c,e,f⟩|⟨k,n,m,y,A,z,rfl,_,c,e,f,g,h⟩
  .simp only[EU,MW];omega
  .have:=C _ _ _ e;simp only[EU,MW];omega
  .have:=C _ _ _ e;have:=C _ _ _ g;simp only[EU,MW];omega
theorem Kl.sz{l:List PT}{d i j:Nat}{t:TF}(h:Kl l d i j t):Dr t.cF+i<=j:=by
 obtain⟨r,v,c,m,e,f,g,a,k,b,n⟩:=h.w;have s:=a.le;have u:Dr t.cF+(c+1)<=m:=by rw[Ox];exact IZ (fun _ _ _ q=>q.sz) b
 omega
mutual
def Z9:TS->Prop
 |.mk s bl=>(s.kind≠7->s.kind≠8->s.args=[])/\s.args.length<=4000/\s.field<=3/\bP bl
def bP:List (Nat×List TS)->Prop
 |[]=>True
 |(_,ts)::r=>YY ts/\bP r
def YY:List TS->Prop
 |[]=>True
 |t::ts=>Z9 t/\YY ts
end
theorem Sl:∀{a:List TS},(∀t,t∈a->aW t->Z9 t)->TA a->YY a
 |[],_,_=>trivial
 |t::_,h,k=>⟨h t (jF ..) k.1,Sl (fun u b=>h u (iA _ b)) k.2⟩
theorem Cd.wf{l:List PT}:∀{d i j:Nat} {t:TS},Cd l d i j t->aW t->Z9 t
 |0,_,_,_,h,_=>h.elim
 |d+1,i,j,.mk s E,h,n=>by
  obtain⟨F,G,w⟩:=h;have C:∀a b u,Dn (Cd l d) a b u->TA u->YY u:=fun a b u r=>Sl (fun t A n=>by obtain⟨x,y,q⟩:=r.each t A;exact q.wf n)
  rcases w with⟨rfl,_,B,z,_⟩|⟨k,u,m,rfl,v,c,e,f⟩|⟨k,u,m,H,K,I,rfl,v,c,e,f,g,h⟩
  .exact⟨z,B.al,n.1,trivial⟩
  .rcases v with rfl|rfl
   .exact⟨fun _ _=>rfl,gV _,n.1,C _ _ _ e n.2.1,trivial⟩
   .exact⟨fun _ _=>rfl,gV _,n.1,C _ _ _ e n.2.1,trivial⟩
  .subst v;exact⟨fun _ _=>rfl,gV _,n.1,C _ _ _ e n.2.1,C _ _ _ g n.2.2.1,trivial⟩
mutual
theorem aM(k:Nat):∀t:TS,nK k t<=EU t
 |.mk s bl=>by have:=Y5 k bl;simp only[nK,EU];split<;>omega
theorem Y5(k:Nat):∀bl:List (Nat×List TS),nB k bl<=MW bl
 |[]=>gI _
 |(_,ts)::r=>by have:=Kw k ts;have:=Y5 k r;simp only[nB,MW];omega
theorem Kw(k:Nat):∀ts:List TS,nL k ts<=Dr ts
 |[]=>gI _
 |t::ts=>by have:=aM k t;have:=Kw k ts;simp only[nL,Dr];omega
end
section
variable{N:Nat}{l:List PT}(H:TksOk N l)(o:N<=4000)(p:l.length<=4001)
include H o p
theorem WA(c:List TF)(y:Nat)(x:PS)(e:Cf l l.length ⟨0,false,0⟩=(c,y,x))(w:x.cH=false):
 (c.map fun t=>Dr t.cF).sum<=4000/\∀t,t∈c->YY t.cF:=by
 have G:=H.pos;have k:=Nv H o p (by rw[e];exact w);have h:=Wy l l.length ⟨0,false,0⟩;rw[e]at k h;obtain⟨d,_,_⟩:=k;simp only at d;refine⟨?_,fun t n=>?_⟩
 .have:=IZ (f:=fun t:TF=>Dr t.cF) (fun _ _ _ q=>q.sz) d;omega
 .obtain⟨i,j,g⟩:=d.each t n;obtain⟨K,L,I,m,z,A,B,C,E,r,F⟩:=g.w;exact Sl (fun u v s=>by obtain⟨a,b,q⟩:=r.each u v;exact q.wf s) (h t n)
end
structure TH(V F L:Nat)(par:List Nat)(s:Bb):Prop where
 kind:s.kind<=12
 tg:s.kind≠0->s.kind≠10->s.kind≠11->s.kind≠12->s.cO<V
 sr:s.kind=2\/s.kind=3\/s.kind=5\/s.kind=6\/s.kind=8\/s.kind=9\/s.kind=10->s.cC<V
 func:s.kind=4\/s.kind=7->s.cC<F
 many:s.kind=7->par[s.cC]?.getD 0=s.args.length
 args:∀a,a∈s.args->a<V
 cR:s.args.length<=4000
 field:s.field<=3
 cA:s.cA<=4000
 next:s.next<=L
 taken:s.taken<=L
 t5:s.cO<=5000
 s5:s.cC<=5000
theorem QR(l:List ByteArray)(s:ByteArray):vx l s<=l.length:=by have:=(CR l s 0).2.2;unfold vx;omega
theorem UP{fn:List ByteArray}{par:List Nat}{s:VS}{b:Bd}{a V L:Nat}(r:s.kind<=10)(h:aY fn par s b.bX)(m:s.kind≠7->s.kind≠8->s.args=[])(n:s.args.length<=4000)(o:s.field<=3)(c:b.bX.length<=V)(p:V<=12)(hF:fn.length<=12)(i:a<=L)(k:s.kind=1->b.pl+1<=4000)(j:s.kind=8->b.ca+1<=4000):TH V fn.length L par {AA fn s b with next:=a}:=by
 have u:=QR b.bX s.tg.d9;have v:=QR b.bX s.sr.d9;have w:=QR fn s.sr.d9;refine⟨by simp only[AA];omega,fun f g _ _=>?_,fun q=>?_,fun q=>?_,fun q=>?_,fun x d=>?_,by simp only[AA,iJ];exact n,o,?_,i,gV _,?_,?_⟩
 .simp only[AA]at f g⊢;rw[jG f];have:=(Io (h.tg f g)).1;omega
 .simp only[AA]at q⊢;rw[jG Z];have:=(Io (h.sr q)).1;omega
 .simp only[AA]at q⊢;rw[jH q];exact(Io (h.func q)).1
 .simp only[AA,iJ]at q⊢;rw[jH (.inr q)];exact h.many q
 .simp only[AA]at d;by_cases q:s.kind=7\/s.kind=8
  .obtain⟨t,l,rfl⟩:=iT.1 d;have:=(Io (h.args q t l)).1;omega
  .rw[m (fun e=>q (.inl e)) (fun e=>q (.inr e))]at d;simp at d
 .simp only[AA];split
  .exact k (by assumption)
  .split
   .exact j (by assumption)
   .exact gV _
 .simp only[AA];split<;>omega
 .simp only[AA];split<;>omega
theorem Tm{fn:List ByteArray}{par:List Nat}{s:VS}{b:Bd}{a V L:Nat}(l:s.kind=11\/s.kind=12)(j:s.kind≠7->s.kind≠8->s.args=[])(k:s.field<=3)(c:b.bX.length<=12)(g:a<=L):TH V fn.length L par {AA fn s b with next:=a}:=by
 have o:=QR b.bX s.tg.d9;have p:=QR b.bX s.sr.d9;have d:({AA fn s b with next:=a}:Bb).kind=s.kind:=rfl;have e:({AA fn s b with next:=a}:Bb).args=[]:=by simp only[AA];rw[j Z Z];rfl
 refine⟨by rw[d];omega,fun m n h i=>by rw[d]at h i;omega,fun q=>by rw[d]at q;omega,fun q=>by rw[d]at q;omega,fun q=>by rw[d]at q;omega,fun x f=>by rw[e]at f;simp at f,by rw[e];simp,k,?_,g,gV _,?_,?_⟩
 .simp only[AA];rw[jG Z,jG Z];exact gV _
 .simp only[AA];rw[jG Z];omega
 .simp only[AA];rw[jG Z];omega
theorem IE{l:List Bb}{i:Nat}{f:Bb->Bb}{s:Bb}(h:s∈l.modify i f):s∈l\/∃u,u∈l/\s=f u:=by
 obtain⟨j,a,rfl⟩:=iF.1 h;rw[List.getElem_modify];split
 .exact .inr ⟨_,gQ _,rfl⟩
 .exact .inl (gQ _)
section
variable{fn:List ByteArray}{par:List Nat}{V L:Nat}(c:V<=12)(hF:fn.length<=12)
theorem Sb{b:Bd}{i n:Nat}(a:n<=L)(h:∀s,s∈b.r9->TH V fn.length L par s):∀s,s∈(b.tk i n).r9->TH V fn.length L par s:=by
 intro s d;rcases IE d with q|⟨u,q,rfl⟩
 .exact h s q
 .have k:=h u q;exact⟨k.kind,k.tg,k.sr,k.func,k.many,k.args,k.cR,k.field,k.cA,k.next,a,k.t5,k.s5⟩
theorem ZI{b:Bd}{i n:Nat}(a:n<=L)(h:∀s,s∈b.r9->TH V fn.length L par s):∀s,s∈(b.nx i n).r9->TH V fn.length L par s:=by
 intro s d;rcases IE d with q|⟨u,q,rfl⟩
 .exact h s q
 .have k:=h u q;exact⟨k.kind,k.tg,k.sr,k.func,k.many,k.args,k.cR,k.field,k.cA,a,k.taken,k.t5,k.s5⟩
theorem W8{b:Bd}{s:VS}{a:Nat}(h:∀s,s∈b.r9->TH V fn.length L par s)(k:TH V fn.length L par {AA fn s b with next:=a}):∀u,u∈(Ar fn s a b).r9->TH V fn.length L par u:=by
 intro u d;rw[A5]at d;rcases iM.1 d with q|q
 .exact h u q
 .rw[iB.1 q];exact k
theorem Jn{ts:List TS}{a n:Nat}{b:Bd}(d:a<=n)(e:b.r9.length<=n):AM ts a b<=n:=by unfold AM;split<;>omega
include c hF
mutual
theorem PH:∀(t:TS) (a:Nat) (b:Bd),XK fn par t b.bX->Z9 t->(b.bX++dS t).length<=V->a<=L->b.r9.length+EU t<=L->b.pl+nK 1 t<=4000->b.ca+nK 8 t<=4000->(∀s,s∈b.r9->TH V fn.length L par s)->∀s,s∈(Dq fn t a b).r9->TH V fn.length L par s
 |.mk s [],a,b,ho,hw,hn,ha,hl,hp,hc,h=>by
  have hn':b.bX.length<=V:=by rw[gM]at hn;omega
  simp only[nK,nB]at hp hc;rw[Dq];exact W8 h (UP ho.1 ho.2 hw.1 hw.2.1 hw.2.2.1 hn' c hF ha (fun q=>by rw[jH q]at hp;omega) (fun q=>by rw[jH q]at hc;omega))
 |.mk s [(_,ts)],a,b,ho,hw,hn,ha,hl,hp,hc,h=>by
  have hn':b.bX.length<=V:=by rw[gM]at hn;omega
  have hab:=DW fn s a b ho.1;have hlen:(Ar fn s a b).r9.length=b.r9.length+1:=by rw[A5];simp
  have hA:=W8 h (Tm (V:=V) (L:=L) (par:=par) (a:=a) ho.1 hw.1 hw.2.2.1 Z ha);simp only[nK,nB]at hp hc;simp only[EU,MW]at hl;have hn2:(((Ar fn s a b).bX)++dL ts).length<=V:=by rw[hab.1];have hk:=ho.1;simp only[dS,dB,iP,gM]at hn;rw[jG Z]at hn;simpa using hn
  have hko:Iu fn par ts (Ar fn s a b).bX:=by rw[hab.1];exact ho.2
  have I:=fun a' ha'=>GR ts a' (Ar fn s a b) hko hw.2.2.2.1 hn2 ha' Z (by rw[hab.2.1];omega) (by rw[hab.2.2];omega) hA
  rw[Dq];split
  .exact Sb (Jn ha Z) (I a ha)
  .split
   .exact Sb (Jn Z Z) (I _ Z)
   .exact hA
 |.mk s [(_,ts),(_,ts2)],a,b,ho,hw,hn,ha,hl,hp,hc,h=>by
  have hn':b.bX.length<=V:=by rw[gM]at hn;omega
  have hab:=DW fn s a b (.inl ho.1);have hlen:(Ar fn s a b).r9.length=b.r9.length+1:=by rw[A5];simp
  have hA:=W8 h (Tm (V:=V) (L:=L) (par:=par) (a:=a) (.inl ho.1) hw.1 hw.2.2.1 Z ha);simp only[nK,nB]at hp hc;simp only[EU,MW]at hl;simp only[dS,dB,iP,gM]at hn;rw[jG (by have:=ho.1;omega)]at hn;simp only[gZ]at hn;have hko:Iu fn par ts (Ar fn s a b).bX:=by rw[hab.1];exact ho.2.1
  have L1:=DM ts a (Ar fn s a b) hko;have I:=GR ts a (Ar fn s a b) hko hw.2.2.2.1 (by rw[hab.1,gM];omega) ha Z (by rw[hab.2.1];omega) (by rw[hab.2.2];omega) hA;have I2:=Sb (i:=b.r9.length) (Jn (ts:=ts) (b:=Ar fn s a b) ha Z) I;rw[Dq,jH ho.1];simp only;have e1:((AT fn ts a (Ar fn s a b)).tk b.r9.length (AM ts a (Ar fn s a b))).bX=b.bX++dL ts:=by show(AT fn ts a (Ar fn s a b)).bX=_;rw[L1.bX,hab.1]
  have e2:((AT fn ts a (Ar fn s a b)).tk b.r9.length (AM ts a (Ar fn s a b))).r9.length=b.r9.length+1+Dr ts:=by rw[Mz,L1.len,hlen]
  have e3:((AT fn ts a (Ar fn s a b)).tk b.r9.length (AM ts a (Ar fn s a b))).pl=b.pl+nL 1 ts:=by show(AT fn ts a (Ar fn s a b)).pl=_;rw[L1.pl,hab.2.1]
  have e4:((AT fn ts a (Ar fn s a b)).tk b.r9.length (AM ts a (Ar fn s a b))).ca=b.ca+nL 8 ts:=by show(AT fn ts a (Ar fn s a b)).ca=_;rw[L1.ca,hab.2.2]
  refine ZI (Jn ha Z) (GR ts2 a _ (by rw[e1];exact ho.2.2) hw.2.2.2.2.1 (by rw[e1];simp only[gM];omega) ha Z Z Z I2)
 |.mk _ (_::_::_::_),_,_,ho,_,_,_,_,_,_,_=>ho.elim
theorem GR:∀(ts:List TS) (a:Nat) (b:Bd),Iu fn par ts b.bX->YY ts->(b.bX++dL ts).length<=V->a<=L->b.r9.length+Dr ts<=L->b.pl+nL 1 ts<=4000->b.ca+nL 8 ts<=4000->(∀s,s∈b.r9->TH V fn.length L par s)->∀s,s∈(AT fn ts a b).r9->TH V fn.length L par s
 |[],_,_,_,_,_,_,_,_,_,h=>by have _h1:=c;have _h2:=hF;rw[AT];exact h
 |[t],a,b,ho,hw,hn,ha,hl,hp,hc,h=>by simp only[dL,iP]at hn;simp only[Dr,nL,gX]at hl hp hc;rw[AT];exact PH t a b ho.1 hw.1 hn ha hl hp hc h
 |t::t2::ts,a,b,ho,hw,hn,ha,hl,hp,hc,h=>by
  rw[dL,<-jK]at hn;have hz:Dr (t::t2::ts)=EU t+Dr (t2::ts):=rfl;have h1:nL 1 (t::t2::ts)=nK 1 t+nL 1 (t2::ts):=rfl;have h8:nL 8 (t::t2::ts)=nK 8 t+nL 8 (t2::ts):=rfl;have L1:=Jp t (b.r9.length+EU t) b ho.1;have hn1:(b.bX++dS t).length<=V:=by rw[gM]at hn;omega
  have I:=PH t (b.r9.length+EU t) b ho.1 hw.1 hn1 Z Z Z Z h;rw[AT];exact GR (t2::ts) a _ (by rw[L1.bX];exact ho.2) hw.2 (by rw[L1.bX];exact hn) ha (by rw[L1.len];omega) (by rw[L1.pl];omega) (by rw[L1.ca];omega) I
end
end
def Hx(P:List PFn)(i j:Nat):ByteArray:=(As P i).t8[j]?.getD ⟨#[]⟩
def IN(P:List PFn)(t:Tg):List UInt8:=
 if t.kind=1 then Lib.decDigits t.cP++[46]++Lib.decDigits t.cT
 else if t.kind=2 then 64::(As P t.cP).name.data.toList
 else(As P t.cP).name.data.toList++[46]++(Hx P t.cP t.cT).data.toList
def Lh(P:List PFn)(t:Tg):Prop:=(t.kind=0/\t.cP<P.length/\t.cT<(As P t.cP).t8.length)\/(t.kind=1/\t.cP<=4000/\t.cT<=3)\/(t.kind=2/\t.cP<P.length/\t.cT=0)
structure PnOk(P:List PFn):Prop where
 name:∀i,(As P i).name.size<=4000
 t8:∀i j,(Hx P i j).size<=4000
def VN(n:Nat):ByteArray:=⟨(Lib.decDigits n).toArray⟩
def ItOk(w:World):Prop:=∀(n:Nat) (a:World),n<=4000->O kD w a->Calls prog 149 #[.int .i64 n] a fun e b=>e=.returned (.string (VN n))/\O kD a b
theorem Up(B:Nat)(K:Value)(q u n:Nat)(P:List PFn)(t:Tg)(w:World)(i:Bv B w K P)(k:NR P)(g:PnOk P)(ht:Lh P t)(p:ItOk w)(h0:0<P.length):
 Calls prog 135 #[.agg #[K,.int .i64 q,.int .i64 u,.int .i64 n],.agg #[.int .i64 t.kind,.int .i64 t.cP,.int .i64 t.cT]] w fun e w'=>e=.returned (.string ⟨(IN P t).toArray⟩)/\O kD w w':=by
 obtain⟨z,x,rfl,b4⟩:=i.form h0;have a9:=k.cR;rcases ht with⟨b,h,C⟩|⟨b,h,C⟩|⟨b,h,_⟩
 .have Q:((t.kind:Int)==1)=false:=by simp[b]
  have k2:((t.kind:Int)==2)=false:=by simp[b]
  obtain⟨vv,sv,c,d,j⟩:=i.get h;rw[<-Ti h]at c d j;obtain⟨va,vl,vc,rfl⟩:=Ad d;have a5:=Ag d;subst a5;obtain⟨f,rfl⟩:=Ap d Z;have b5:=(d.lt f rfl).2;obtain⟨sa,sc,rfl,_⟩:=j.form;have I:=d.cellAt t.cT Z;rw[iL,gL C]at I;simp only[Option.map_some]at I;have y:=c 0 T;have Y:=c 1 T;have f2:=c 2 T;have f3:=c 3 T;simp only[Oo,gF,gG,gX]at y Y f2 f3;have a3:=g.name t.cP;have a4:=g.t8 t.cP t.cT;have b0:=k.t8 t.cP;have A:Hx P t.cP t.cT=(As P t.cP).t8[t.cT]:=by unfold Hx;rw[gL C];rfl
  have l:D ((As P t.cP).name++{data:=#[46]}++(As P t.cP).t8[t.cT]=⟨(IN P t).toArray⟩):=GK (by unfold IN;rw[jG Z,jG Z,A];simp)
  rw[A]at a4;generalize (⟨(IN P t).toArray⟩:ByteArray)=G at*;generalize (As P t.cP).t8[t.cT]=vt at*;generalize (As P t.cP).name=r at*;have a2:(t.cP:Int)<(P.length:Int):=Z;have b3:(t.cT:Int)<((As P t.cP).t8.length:Int):=Z;have M:¬(9223372036854775807<r.size+1):=Z;have a0:¬(9223372036854775807<r.size+1+vt.size):=Z;have g1:f≠w.heap.size:=Z;have g2:f≠w.heap.size+1:=Z;have g3:f≠w.heap.size+1+1:=Z;have g4:f<w.heap.size+1:=Z;have g5:f<w.heap.size+1+1:=Z;clear c d j i k g p A b;go_enter func135,ntmps135;go_wp2_with fail;go_region;go_wp2_with fail;go_ret;exact⟨congrArg (fun s=>Ending.returned (Value.string s)) l.o,jV⟩
 .have Q:((t.kind:Int)==1)=true:=by simp[b]
  have a7:(VN t.cP).size<=4001:=by have:=Ja t.cP;simp only[VN,ByteArray.size,List.size_toArray];omega
  have a8:(VN t.cT).size<=4:=by have:=Ja t.cT;simp only[VN,ByteArray.size,List.size_toArray];omega
  have l:D (VN t.cP++{data:=#[46]}++VN t.cT=⟨(IN P t).toArray⟩):=GK (by unfold IN VN;rw[jH b];simp)
  have a1:t.cT<=4000:=Z;have F:=J p;generalize (⟨(IN P t).toArray⟩:ByteArray)=G at*;have M:¬(9223372036854775807<(VN t.cP).size+1):=Z;have a0:¬(9223372036854775807<(VN t.cP).size+1+(VN t.cT).size):=Z;clear i k g p b;go_enter func135,ntmps135;go_wp2_with fail;have o:=W.new (w.alloc (.cells #[.slice (some ⟨z,0,none⟩) P.length x,.int .i64 q,.int .i64 u,.int .i64 n] 66)) #[.int .i64 t.kind,.int .i64 t.cP,.int .i64 t.cT] 238;have N:(w.alloc (.cells #[.slice (some ⟨z,0,none⟩) P.length x,.int .i64 q,.int .i64 u,.int .i64 n] 66)).heap.size=w.heap.size+1:=jY;rw[N]at o;have L:=((O.refl kD w).alloc (.cells #[.slice (some ⟨z,0,none⟩) P.length x,.int .i64 q,.int .i64 u,.int .i64 n] 66)).alloc (.cells #[.int .i64 t.kind,.int .i64 t.cP,.int .i64 t.cT] 238);have v:=J L;generalize World.alloc (World.alloc w _) _=U at*;obtain⟨V,H⟩:=o.e2 1 2;have lb:=Ae o;simp only[gH,gF,gG]at V H;have R:=True.intro;clear o N L;go_region_law(first
   |(go_simp;go_at_call 149;have _t:=R;refine(F.o _ _ Z (v.o.trans ?_)).mono ?_;exact jV;rintro e S ⟨rfl,m⟩;have E:=J (O.trans (X:=kD) (a:=U) jV m);have a6:S.cell? ⟨w.heap.size+1,2,none⟩=some (.int .i64 t.cT):=(gJ (E.o.block _ lb id)).trans H;clear m R;dsimp only)
   |(go_simp;go_at_call 149;refine(F.o _ _ a1 (v.o.trans (E.o.trans ?_))).mono ?_;exact jV;rintro e w8 ⟨rfl,m⟩;have o8:=J (O.trans (X:=kD) (a:=S) jV m);clear m;dsimp only))
  all_goals
   go_wp2_with fail;go_ret;exact⟨congrArg (fun s=>Ending.returned (Value.string s)) l.o,(v.o.trans E.o).trans o8.o⟩
 .have Q:((t.kind:Int)==1)=false:=by simp[b]
  have k2:((t.kind:Int)==2)=true:=by simp[b]
  obtain⟨vv,sv,c,d,j⟩:=i.get h;rw[<-Ti h]at c d j;have y:=c 0 T;simp only[Oo,gF,gX]at y;have a3:=g.name t.cP;have l:D ((⟨#[64]⟩:ByteArray)++(As P t.cP).name=⟨(IN P t).toArray⟩):=GK (by unfold IN;rw[jG Z,jH b];simp)
  generalize (⟨(IN P t).toArray⟩:ByteArray)=G at*;generalize (As P t.cP).name=r at*;have a2:(t.cP:Int)<(P.length:Int):=Z;have M:¬(9223372036854775807<1+r.size):=Z;clear c d j i k g p b;go_enter func135,ntmps135;go_wp2_with fail;first|go_quiet(fail)|skip
  go_wp2_with fail;go_ret;exact⟨congrArg (fun s=>Ending.returned (Value.string s)) l.o,jV⟩
def YX:Prop:=∀(B g c:Nat) (l:List ByteArray) (d:World),Au B d (.slice (some ⟨g,0,none⟩) l.length c) l->l.length<=1000000->Calls prog 137 #[.slice (some ⟨g,0,none⟩) l.length c] d fun e h=>e=.returned (.tuple #[])/\∃f,Au B h (.slice (some ⟨g,0,none⟩) l.length c) f/\f.Perm l/\f.Pairwise (fun a b=>GC b a=false)/\O (fun k=>k=g) d h
theorem Lh.ok{P t}(h:Lh P t)(a:NR P):Z8 t:=by
 have b:=a.cR;have c:=a.t8 t.cP;unfold Z8;rcases h with h|h|h
 .omega
 .omega
 .omega
theorem YK{P t}(a:NR P)(b:PnOk P)(h:Lh P t):(⟨(IN P t).toArray⟩:ByteArray).size<=20000:=by
 have c:(As P t.cP).name.data.toList.length<=4000:=gW (Nat.le_of_eq Array.length_toList) (b.name t.cP);have d:(Hx P t.cP t.cT).data.toList.length<=4000:=gW (Nat.le_of_eq Array.length_toList) (b.t8 t.cP t.cT);have e:=Ja t.cP;have f:=Ja t.cT;have g:=a.cR;have i:=a.t8 t.cP;show(IN P t).toArray.size<=20000;rw[List.size_toArray];unfold IN;rcases h with h|h|h
 .rw[jG Z,jG Z];simp only[gM,gK,gZ];omega
 .rw[jH Z];simp only[gM,gK,gZ];omega
 .rw[jG Z,jH Z];simp only[gK];omega
theorem SH:∀(n:Nat) (x:UInt8),x∈Lib.decDigits n->48<=x.toNat/\x.toNat<=57:=by
 intro n;induction n using Nat.strongRecOn with
 |_ n c=>
  intro x a;have b:∀d:Nat,d<10->(UInt8.ofNat (48+d)).toNat=48+d:=T;rw[Lib.decDigits]at a;split at a
  .rename_i h;rw[iB]at a;subst a;rw[b n h];omega
  .rename_i h;rcases iM.1 a with q|q
   .exact c (n / 10) Z x q
   .rw[iB]at q;subst q;rw[b (n % 10) Z];omega
def Zn(l:List UInt8):Nat:=l.foldl (fun a d=>10*a+(d.toNat-48)) 0
theorem SK:∀n:Nat,Zn (Lib.decDigits n)=n:=by
 intro n;induction n using Nat.strongRecOn with
 |_ n b=>
  have a:∀d:Nat,d<10->(UInt8.ofNat (48+d)).toNat=48+d:=T;rw[Lib.decDigits];split
  .rename_i h;simp only[Zn,iR,jC];rw[a n h];omega
  .rename_i h;have e:=b (n / 10) Z;unfold Zn at e⊢;rw[List.foldl_append,e];simp only[iR,jC];rw[a (n % 10) Z];omega
theorem SI{a b}(h:Lib.decDigits a=Lib.decDigits b):a=b:=by rw[<-SK a,<-SK b,h]
theorem VM(n):∃x l,Lib.decDigits n=x::l/\48<=x.toNat/\x.toNat<=57:=by
 cases h:Lib.decDigits n with
 |nil=>
  rw[Lib.decDigits]at h;split at h
  .cases h
  .exact jO h jY
 |cons x l=>exact⟨x,l,rfl,SH n x (by rw[h];simp)⟩
theorem Rh{c:UInt8}:∀{a e b d:List UInt8},c∉a->c∉e->a++[c]++b=e++[c]++d->a=e/\b=d
 |[],[],b,d,_,_,h=>by simpa using h
 |[],y::e,b,d,_,g,h=>by simp at h;exact jO h.1 (fun q=>g (by simp[q]))
 |x::a,[],b,d,f,_,h=>by simp at h;exact jO h.1 (fun q=>f (by simp[q]))
 |x::a,y::e,b,d,f,g,h=>by simp only[List.cons_append,List.cons.injEq]at h;obtain⟨i,j⟩:=Rh (fun q=>f (iA _ q)) (fun q=>g (iA _ q)) h.2;exact⟨by rw[h.1,i],j⟩
theorem S8{b}(h:Ve b){c}(a:c.toNat<97):c∉b.data.toList:=fun q=>by have:=h c q;omega
theorem SJ(n){c}(a:c.toNat<48\/57<c.toNat):c∉Lib.decDigits n:=fun q=>by have:=SH n c q;omega
theorem Lp{a b:ByteArray}(h:a.data.toList=b.data.toList):a=b:=by cases a;cases b;simp only at h;have:=Array.toList_inj.1 h;subst this;rfl
structure NmP(P:List PFn):Prop where
 nl:∀i,Ve (As P i).name
 vl:∀i j,Ve (Hx P i j)
 inj:∀i j,i<P.length->j<P.length->(As P i).name=(As P j).name->i=j
 fU:∀i,(As P i).t8.Nodup
theorem QJ{P}(h:NmP P)(t):∃x l,IN P t=x::l/\(t.kind=1->48<=x.toNat/\x.toNat<=57)/\(t.kind=2->x=64)/\(t.kind≠1->t.kind≠2->x.toNat=46\/97<=x.toNat):=by
 unfold IN;split
 .rename_i c;obtain⟨x,l,e,f⟩:=VM t.cP;exact⟨x,l++[46]++Lib.decDigits t.cT,by rw[e];simp,fun _=>f,fun q=>Z,fun q=>jO c q⟩
 .rename_i b;split
  .rename_i a;exact⟨64,_,rfl,fun q=>jO q b,fun _=>rfl,fun _ q=>jO a q⟩
  .rename_i a;cases d:(As P t.cP).name.data.toList with
   |nil=>exact⟨46,_,rfl,fun q=>jO q b,fun q=>jO q a,fun _ _=>.inl rfl⟩
   |cons x l=>exact⟨x,_,rfl,fun q=>jO q b,fun q=>jO q a,fun _ _=>.inr (h.nl t.cP x (by rw[d];simp))⟩
theorem Wq{l:List ByteArray}(h:l.Nodup){i j:Nat}(a:i<l.length)(b:j<l.length)(e:l[i]=l[j]):i=j:=by
 have c:=List.pairwise_iff_getElem.1 h;rcases Nat.lt_trichotomy i j with q|q|q
 .exact jO e (c i j a b q)
 .exact q
 .exact jO e.symm (c j i b a q)
theorem YJ{P}(h:NmP P){s t}(L:Lh P s)(M:Lh P t)(e:IN P s=IN P t):s=t:=by
 obtain⟨x,l,p,A,B,C⟩:=QJ h s;obtain⟨y,m,q,E,F,G⟩:=QJ h t;rw[p,q]at e;have H:x=y:=by simpa using(List.cons.inj e).1
 subst H;have e:IN P s=IN P t:=by rw[p,q];exact e
 have N:(64:UInt8).toNat=64:=T;rcases L with⟨a,f,c⟩|⟨a,f,c⟩|⟨a,f,c⟩<;>rcases M with⟨b,g,d⟩|⟨b,g,d⟩|⟨b,g,d⟩
 .unfold IN at e;rw[jG Z,jG Z,jG Z,jG Z]at e;obtain⟨j,k⟩:=Rh (S8 (h.nl _) T) (S8 (h.nl _) T) e;have i:=h.inj _ _ f g (Lp j);obtain⟨u,o,r⟩:=s;obtain⟨w,z,v⟩:=t;simp only at*;subst i a b;have n:=Lp k;unfold Hx at n;rw[gL c,gL d]at n;have:=Wq (h.fU o) c d n;subst this;rfl
 .have:=C Z Z;have:=E b;omega
 .have:=C Z Z;have:=F b;subst this;omega
 .have:=G Z Z;have:=A a;omega
 .unfold IN at e;rw[jH a,jH b]at e;obtain⟨j,k⟩:=Rh (SJ _ T) (SJ _ T) e;have I:=SI j;have K:=SI k;obtain⟨u,o,r⟩:=s;obtain⟨w,z,v⟩:=t;simp only at*;subst I K a b;rfl
 .have:=A a;have:=F b;subst this;omega
 .have:=G Z Z;have:=B a;subst this;omega
 .have:=E b;have:=B a;subst this;omega
 .unfold IN at e;rw[jG Z,jH a,jG Z,jH b]at e;have i:=h.inj _ _ f g (Lp (List.cons.inj e).2);obtain⟨u,o,r⟩:=s;obtain⟨w,z,v⟩:=t;simp only at*;subst i a b c d;rfl
theorem Zx{a b:List UInt8}(h:(⟨a.toArray⟩:ByteArray)=⟨b.toArray⟩):a=b:=by have:=congrArg (fun x:ByteArray=>x.data.toList) h;simpa using this
theorem G8:∀{l:List ByteArray},l.Pairwise (fun a b=>GC b a=false)->l.Nodup->l.Pairwise (fun a b=>GC a b=true)
 |[],_,_=>List.Pairwise.nil
 |x::l,h,c=>by rw[List.pairwise_cons]at h;rw[List.nodup_cons]at c;refine List.Pairwise.cons (fun b d=>Nn (h.1 b d) (fun q=>c.1 (q▸d))) (G8 h.2 c.2)
theorem Ha:∀{a b:List ByteArray},a.Pairwise (fun a b=>GC a b=true)->b.Pairwise (fun a b=>GC a b=true)->(∀x,x∈a↔x∈b)->a=b
 |[],[],_,_,_=>rfl
 |[],y::b,_,_,h=>jO ((h y).2 jY) iH
 |x::a,[],_,_,h=>jO ((h x).1 jY) iH
 |x::a,y::b,c,d,h=>by
  rw[List.pairwise_cons]at c d;have f:x=y:=by
   rcases iZ.1 ((h x).1 jY)with q|q
   .exact q
   .rcases iZ.1 ((h y).2 jY)with r|r
    .exact r.symm
    .have g:=d.1 x q;have i:=c.1 y r;have:=Hm g i;rw[Fe]at this;cases this
  subst f;rw[Ha c.2 d.2 (fun z=>?_)];have e:=h z;simp only[iZ]at e;constructor
  .intro q;rcases e.1 (.inr q)with r|r
   .subst r;have:=c.1 z q;rw[Fe]at this;cases this
   .exact r
  .intro q;rcases e.2 (.inr q)with r|r
   .subst r;have:=d.1 z q;rw[Fe]at this;cases this
   .exact r
structure GoodP(c:List TF):Prop where
 dK:bB c
 sum:(c.map fun t=>Dr t.cF).sum<=4000
 wf:∀t,t∈c->YY t.cF
 eZ:∀t,t∈c->Vp (fun b=>Ve b/\b.size<=4000) t
def fnN(c:List TF):List ByteArray:=c.map fun f=>f.name.d9
def paN(c:List TF):List Nat:=c.map fun f=>f.u9.length
def sK(k:Nat)(l:List TF)(i:Nat):Nat:=((l.take i).map fun t=>nL k t.cF).sum
theorem Qk{fn:List ByteArray}{par:List Nat}:∀(l:List TF) (b a i:Nat) (h:i<l.length),(∀t,t∈l->Iu fn par t.cF (t.u9.map fun p=>p.d9))->(Bi fn l b a)[i]? =some (CN fn l[i] (b+sK 1 l i) (a+sK 8 l i))
 |[],_,_,i,h,_=>by simp at h
 |t::l,b,a,0,_,_=>by simp[Bi,sK]
 |t::l,b,a,i+1,h,d=>by obtain⟨_,e,f,_⟩:=Mf (fn:=fn) (par:=par) t b a (d t (jF ..));have I:=Qk (fn:=fn) (par:=par) l (b+nL 1 t.cF) (a+nL 8 t.cF) i (by simpa using h) (fun t g=>d t (iA _ g));rw[Bi,e,f,gG,I];simp only[sK,iY,iK,iS,iX,Nat.add_assoc]
theorem DU{fn:List ByteArray}:∀(l:List TF) (b a:Nat),(Bi fn l b a).length=l.length
 |[],_,_=>rfl
 |t::l,b,a=>by rw[Bi,gK,DU l,gK]
theorem XA:∀(l:List TF) (b a i:Nat) (h:i<l.length),(xfR l b a)[i]? =some ⟨CP l[i],l[i].u9.length,l[i].cF,b+sK 1 l i,a+sK 8 l i⟩
 |[],_,_,i,h=>by simp at h
 |t::l,b,a,0,_=>by simp[xfR,sK,CP]
 |t::l,b,a,i+1,h=>by have I:=XA l (b+nL 1 t.cF) (a+nL 8 t.cF) i (by simpa using h);rw[xfR,gG,I];simp only[sK,iY,iK,iS,iX,Nat.add_assoc]
theorem Ld:∀(l:List TF) (b a:Nat),(xfR l b a).length=l.length
 |[],_,_=>rfl
 |t::l,b,a=>by rw[xfR,gK,Ld l,gK]
theorem Qz(k:Nat):∀(l:List TF) (i:Nat) (h:i<l.length),sK k l i+nL k l[i].cF<=(l.map fun t=>Dr t.cF).sum
 |[],i,h=>by simp at h
 |t::l,0,_=>by have:=Kw k t.cF;simp only[sK,List.take_zero,List.map_nil,List.sum_nil,iD,iK,iS];omega
 |t::l,i+1,h=>by have I:=Qz k l i (by simpa using h);have:=Kw k t.cF;simp only[sK,iY,iK,iS,iX]at I⊢;omega
theorem Ta{f:TF->Nat}:∀{l:List TF} {t:TF},t∈l->f t<=(l.map f).sum
 |[],_,h=>by simp at h
 |a::l,t,h=>by
  simp only[iK,iS];rcases iZ.1 h with rfl|q
  .omega
  .have:=Ta (f:=f) q;omega
section
variable{c:List TF}(G:GoodP c)
include G
theorem GoodP.fL{t:TF}(h:t∈c):Dr t.cF<=4000:=gW (Ta (f:=fun t=>Dr t.cF) h) G.sum
theorem GoodP.pf(i:Nat)(h:i<c.length):As (Bi (fnN c) c 0 0) i=CN (fnN c) c[i] (sK 1 c i) (sK 8 c i):=by unfold As;rw[Qk (fn:=fnN c) (par:=paN c) c 0 0 i h G.dK.ok,iO,iO];rfl
omit G in
theorem Hp(c:List TF)(i:Nat)(h:¬i<c.length):As (Bi (fnN c) c 0 0) i=⟨⟨#[]⟩,[],0,[]⟩:=by unfold As;rw[iI (by rw[DU];omega)];rfl
omit G in
theorem Fm(c:List TF)(i:Nat)(h:i<c.length):CC (xfR c 0 0) i=⟨CP c[i],c[i].u9.length,c[i].cF,sK 1 c i,sK 8 c i⟩:=by unfold CC;rw[XA c 0 0 i h,iO,iO];rfl
omit G in
theorem Hy(c:List TF)(i:Nat)(h:¬i<c.length):CC (xfR c 0 0) i=⟨[],0,[],0,0⟩:=by unfold CC;rw[iI (by rw[Ld];omega)];rfl
theorem GoodP.one(i:Nat)(h:i<c.length):(As (Bi (fnN c) c 0 0) i).name=c[i].name.d9/\(As (Bi (fnN c) c 0 0) i).t8=CP c[i]/\(As (Bi (fnN c) c 0 0) i).u9=c[i].u9.length/\(As (Bi (fnN c) c 0 0) i).r9.length=Dr c[i].cF:=by rw[G.pf i h];obtain⟨a,_,_,b,_⟩:=Mf (fn:=fnN c) (par:=paN c) c[i] (sK 1 c i) (sK 8 c i) (G.dK.ok _ (gQ _));exact⟨rfl,a,rfl,b⟩
theorem GoodP.fH:NR (Bi (fnN c) c 0 0):=by
 have x:=DU (fn:=fnN c) c 0 0;have k:=G.dK.cR;refine⟨Z,fun i=>?_,fun i=>?_,fun i=>?_,fun i w s b=>?_⟩
 .by_cases h:i<c.length
  .rw[(G.one i h).2.1];exact(G.dK.t8 _ (gQ _)).2
  .rw[Hp c i h];exact gV _
 .by_cases h:i<c.length
  .rw[(G.one i h).2.1,(G.one i h).2.2.1];simp[CP]
  .rw[Hp c i h];exact gI _
 .by_cases h:i<c.length
  .rw[(G.one i h).2.2.2];have:=G.fL (gQ h);omega
  .rw[Hp c i h];exact gV _
 .have h:i<c.length:=Z;have d:c[i]∈c:=gQ _;obtain⟨z,e,A,g⟩:=G.one i h;have m:=G.dK.t8 _ d;have t:=Qz 1 c i h;have u:=Qz 8 c i h;have y:=G.sum;have l:s∈(AT (fnN c) c[i].cF (Dr c[i].cF) (Q8 c[i] (sK 1 c i) (sK 8 c i))).r9:=by rw[G.pf i h]at b;exact b
  have K:=GR (fn:=fnN c) (par:=paN c) (V:=(CP c[i]).length) (L:=Dr c[i].cF) m.2 (by unfold fnN;rw[iJ];exact k) c[i].cF (Dr c[i].cF) (Q8 c[i] (sK 1 c i) (sK 8 c i)) (G.dK.ok _ d) (G.wf _ d) (gI _) (gI _) (by simp[Q8]) (by show sK 1 c i+_<=4000;omega) (by show sK 8 c i+_<=4000;omega) (fun s b=>by simp[Q8]at b) s l;have v:(fnN c).length=c.length:=by unfold fnN;rw[iJ]
  refine⟨K.kind,fun n o p r=>by rw[e];exact K.tg n o p r,fun q=>by rw[e];exact K.sr q,fun q=>by have:=K.func q;omega,fun q=>?_,fun a j=>by rw[e];exact K.args a j,K.cR,K.field,K.cA,by rw[g];exact K.next,by rw[g];exact K.taken,K.t5,K.s5⟩;have f:s.cC<c.length:=by have:=K.func (.inr q);omega
  rw[(G.one _ f).2.2.1,<-K.many q];unfold paN;rw[iL,gL f];rfl
theorem GoodP.var{i:Nat}(h:i<c.length){s:ByteArray}(b:s∈CP c[i]):Ve s/\s.size<=4000:=by
 obtain⟨_,d,e⟩:=G.eZ _ (gQ h);rcases iM.1 b with q|q
 .obtain⟨p,a,rfl⟩:=iT.1 q;exact d p a
 .exact e s q
theorem GoodP.vn(i j:Nat):Ve (Hx (Bi (fnN c) c 0 0) i j)/\(Hx (Bi (fnN c) c 0 0) i j).size<=4000:=by
 have z:Ve (⟨#[]⟩:ByteArray)/\(⟨#[]⟩:ByteArray).size<=4000:=⟨LT,T⟩;unfold Hx;by_cases h:i<c.length
 .rw[(G.one i h).2.1];by_cases a:j<(CP c[i]).length
  .rw[gL a];exact G.var h (gQ _)
  .rw[iI Z];exact z
 .rw[Hp c i h];simp only[List.getElem?_nil,Option.getD_none];exact z
theorem GoodP.nm(i:Nat):Ve (As (Bi (fnN c) c 0 0) i).name/\(As (Bi (fnN c) c 0 0) i).name.size<=4000:=by
 by_cases h:i<c.length
 .rw[(G.one i h).1];exact(G.eZ _ (gQ h)).1
 .rw[Hp c i h];exact⟨LT,T⟩
theorem GoodP.fQ:PnOk (Bi (fnN c) c 0 0):=⟨fun i=>(G.nm i).2,fun i j=>(G.vn i j).2⟩
theorem GoodP.fW:NmP (Bi (fnN c) c 0 0):=by
 refine⟨fun i=>(G.nm i).1,fun i j=>(G.vn i j).1,fun i j a b e=>?_,fun i=>?_⟩
 .rw[DU]at a b;rw[(G.one i a).1,(G.one j b).1]at e;have d:=G.dK.bX i a;have f:=G.dK.bX j b;rw[e,f]at d;omega
 .by_cases h:i<c.length
  .rw[(G.one i h).2.1];exact(G.dK.t8 _ (gQ _)).1
  .rw[Hp c i h];exact List.nodup_nil
theorem GoodP.fR{d:Nat}(b:∀t,t∈c->∀s,s∈t.cF->OK d s):XM d c:=by
 refine⟨G.dK.cR,G.dK.bX,fun t h=>(G.eZ t h).1.2,fun t h p a=>((G.eZ t h).2.1 p a).2,fun t h=>?_,fun t h=>?_,b,G.dK.ok,fun t h=>G.fL h,?_,?_⟩
 .exact(List.nodup_append.1 (G.dK.t8 t h).1).1
 .have:=(G.dK.t8 t h).2;simp only[CP,gM,iJ]at this;omega
 .refine gW ?_ G.sum;have:∀l:List TF,(l.map fun t=>nL 1 t.cF).sum<=(l.map fun t=>Dr t.cF).sum:=by
   intro l;induction l with
   |nil=>exact gI _
   |cons t l e=>have:=Kw 1 t.cF;simp only[iK,iS];omega
  exact this c
 .refine gW ?_ G.sum;have:∀l:List TF,(l.map fun t=>nL 8 t.cF).sum<=(l.map fun t=>Dr t.cF).sum:=by
   intro l;induction l with
   |nil=>exact gI _
   |cons t l e=>have:=Kw 8 t.cF;simp only[iK,iS];omega
  exact this c
end
mutual
theorem ZM{fn:List ByteArray}{par:List Nat}{vs':List ByteArray}:∀(t:TS) (vs:List ByteArray),XK fn par t vs->Z9 t->(∀s,s∈vs++dS t->s∈vs')->bG fn par vs' t
 |.mk s [],vs,h,hw,hs=>by
  have hv:∀s,s∈vs->s∈vs':=fun s q=>hs s (List.mem_append_left _ q)
  exact⟨h.1,fun a b=>hv _ (h.2.tg a b),h.2.func,h.2.many,fun q=>hv _ (h.2.sr q),fun q t ht=>hv _ (h.2.args q t ht),fun _=>hw.2.2.1⟩
 |.mk s [(_,ts)],vs,h,hw,hs=>by
  refine⟨h.1,MD ts vs h.2 hw.2.2.2.1 (fun u hu=>hs u ?_)⟩;simp only[dS,dB,iP];rcases iM.1 hu with q|q
  .exact List.mem_append_left _ q
  .exact jT _ (jT _ q)
 |.mk s [(_,ts),(_,ts2)],vs,h,hw,hs=>by
  have h1:∀u,u∈vs++dL ts->u∈vs':=fun u hu=>hs u (by
   simp only[dS,dB,iP];rcases iM.1 hu with q|q
   .exact List.mem_append_left _ q
   .exact jT _ (jT _ (List.mem_append_left _ q)))
  refine⟨h.1,MD ts vs h.2.1 hw.2.2.2.1 h1,MD ts2 (vs++dL ts) h.2.2 hw.2.2.2.2.1 (fun u hu=>?_)⟩;rcases iM.1 hu with q|q
  .exact h1 u q
  .refine hs u ?_;simp only[dS,dB,iP];exact jT _ (jT _ (jT _ q))
 |.mk _ (_::_::_::_),_,h,_,_=>h.elim
theorem MD{fn:List ByteArray}{par:List Nat}{vs':List ByteArray}:∀(ts:List TS) (vs:List ByteArray),Iu fn par ts vs->YY ts->(∀s,s∈vs++dL ts->s∈vs')->XT fn par vs' ts
 |[],_,_,_,_=>trivial
 |t::ts,vs,h,hw,hs=>by
  refine⟨ZM t vs h.1 hw.1 (fun u hu=>hs u ?_),MD ts (vs++dS t) h.2 hw.2 (fun u hu=>hs u ?_)⟩
  .rw[dL];rcases iM.1 hu with q|q
   .exact List.mem_append_left _ q
   .exact jT _ (List.mem_append_left _ q)
  .rw[dL,<-jK];exact hu
end
theorem GoodP.fM{c:List TF}(G:GoodP c):XOk (fnN c) (paN c) (xfR c 0 0):=by
 have b:=G.sum;refine⟨by rw[Ld];unfold fnN;rw[iJ],fun f=>?_,fun f=>?_,fun f=>?_,fun f a=>?_,fun f=>?_,fun f=>?_⟩
 .by_cases h:f<c.length
  .rw[Fm c f h];exact MD _ _ (G.dK.ok _ (gQ _)) (G.wf _ (gQ _)) (fun s q=>q)
  .rw[Hy c f h];trivial
 .by_cases h:f<c.length
  .rw[Fm c f h];exact(G.dK.t8 _ (gQ _)).2
  .rw[Hy c f h];exact gV _
 .by_cases h:f<c.length
  .rw[Fm c f h];simp[CP]
  .rw[Hy c f h];exact gI _
 .rw[Ld]at a;rw[Fm c f a];unfold paN;rw[iL,gL a];rfl
 .by_cases h:f<c.length
  .rw[Fm c f h];have:=Qz 1 c f h;simp only;omega
  .rw[Hy c f h];exact gV _
 .by_cases h:f<c.length
  .rw[Fm c f h];have:=Qz 8 c f h;simp only;omega
  .rw[Hy c f h];exact gV _
theorem Tz.len{d:List FS}{g:Nat}:∀{a:List TS} {l:List Nat} {c b:Nat},Tz d g a l c b->l.length=a.length
 |[],l,_,_,h=>by have e:l=[]:=h;rw[e];rfl
 |t::a,l,c,b,h=>by obtain⟨j,i,e,_,f⟩:=h;rw[e,gK,gK,f.len]
theorem Pq{c F}(m x b a)(h:x.cB≠none):(Ce c F m x b a).2.1.cB≠none:=by
 cases m with
 |zero=>exact h
 |succ m=> rw[Ce,jG (fun q=>h q.1)];exact h
theorem SO{d}(l:(tokAt d (d.length-1)).sort=0)(k x f)(r:Iq d.length x f.length)(p:(GB d (2*d.length) k x f).2.1.cB=none):
 It (fun j a b c e=>Fp (2*d.length) (GB d (2*d.length) k x f).2.2 j a b c e) (GB d (2*d.length) k x f).1.cJ x.pl x.ca (GB d (2*d.length) k x f).2.1.pl (GB d (2*d.length) k x f).2.1.ca/\Km f (GB d (2*d.length) k x f).2.2/\∀j,f.length<=j->j<(GB d (2*d.length) k x f).2.2.length->KV (GB d (2*d.length) k x f).2.2 (GB d (2*d.length) k x f).1.cJ j:=by
 have E:=A8 d;have C:∀(L:List UInt8) (x:St),x.bZ<d.length->(Aw d L x).bZ<d.length:=fun L x h=>Cb rfl l h
 unfold GB at p⊢;simp only at p⊢;have y:=(E [102,110] x).trans (EN d 1 (Aw d [102,110] x));have v:(Bm d 1 (Aw d [102,110] x)).2.bZ<d.length:=Ev (q:=(Bm d 1 (Aw d [102,110] x)).1) rfl T l (C _ _ r.1);generalize Bm d 1 (Aw d [102,110] x)=g at*;have z:=y.trans ((E [40] g.2).trans (Fb d (Aw d [40] g.2)));have w:(BQ d (Aw d [40] g.2)).2.bZ<d.length:=EO (q:=(BQ d (Aw d [40] g.2)).1) rfl l (C _ _ v);generalize BQ d (Aw d [40] g.2)=m at*;have i:=z.trans (E [123] m.2);have s:=r.cY i (C [123] m.2 w);have o:=E [125] (Az d (2*d.length) k (Aw d [123] m.2) f []).2.1;have A:=(o.2.2.2 p).1;obtain⟨G,t,u,B,F⟩:=(VD (n:=d.length) l (2*d.length)).1 k (Aw d [123] m.2) f [] s (fun q=>by have:=(i.2.2.2 q).2;have:=s.1;omega) A;rw[jE]at t;rw[t,o.2.1,o.2.2.1];rw[i.2.1,i.2.2.1]at u;exact⟨u.mono (fun _ _ _ _ _ q=>q.2),B,F⟩
theorem Pt{a:List Tk}(g:(tokAt a (a.length-1)).sort=0):∀(m:Nat) (x:St) (b:List FS) (c:List RF),Iq a.length x b.length->IS (2*a.length) b c 0 0 x.pl x.ca->(Ce a (2*a.length) m x b c).2.1.cB=none->
 IS (2*a.length) (Ce a (2*a.length) m x b c).2.2 (Ce a (2*a.length) m x b c).1 0 0 (Ce a (2*a.length) m x b c).2.1.pl (Ce a (2*a.length) m x b c).2.1.ca
 |0,x,b,c,_,e,_=>e
 |m+1,x,b,c,h,e,d=>by
  rw[Ce]at d⊢;split at d
  .rename_i f;rw[jH f];have k:(GB a (2*a.length) c.length x b).2.1.cB=none:=Classical.byContradiction (fun q=>Pq m _ _ _ q d);obtain⟨i,j,_⟩:=SO g c.length x b h k;exact Pt g m _ _ _ (Jg g _ _ x b h).1 ((e.pre j).snoc i) d
  .rename_i f;rw[jG f];exact e
def OP(a:List FS)(b:List RF):Prop:=∀k,k<a.length->∃f,f∈b/\KV a f.cJ k
theorem Pr{b:List Tk}(h:(tokAt b (b.length-1)).sort=0):∀(m:Nat) (x:St) (a:List FS) (c:List RF),Iq b.length x a.length->OP a c->(Ce b (2*b.length) m x a c).2.1.cB=none->OP (Ce b (2*b.length) m x a c).2.2 (Ce b (2*b.length) m x a c).1
 |0,x,a,c,_,e,_=>e
 |m+1,x,a,c,i,e,d=>by
  rw[Ce]at d⊢;split at d
  .rename_i g;rw[jH g];have n:(GB b (2*b.length) c.length x a).2.1.cB=none:=Classical.byContradiction (fun q=>Pq m _ _ _ q d);obtain⟨_,j,l⟩:=SO h c.length x a i n;refine Pr h m _ _ _ (Jg h _ _ x a i).1 (fun k p=>?_) d;rcases iW k a.length with q|q
   .obtain⟨f,o,r⟩:=e k q;exact⟨f,List.mem_append_left _ o,r.pre j⟩
   .exact⟨_,jT _ (iB.2 rfl),l k q p⟩
  .rename_i g;rw[jG g];exact e
theorem Te{e:Nat}{g:List FS}:∀(l:List RF) (a:List TF) (k c b o d:Nat),l.length=a.length->(∀j (h:j<l.length) (m:j<a.length),CJ (Dp (k+j) 4000 g) l[j].cJ a[j].cF)->IS e g l c b o d->
 ∀i (h:i<l.length) (m:i<a.length),Tz g (k+i) a[i].cF l[i].cJ (c+sK 1 a i) (b+sK 8 a i)
 |[],_,_,_,_,_,_,_,_,_,i,h,_=>by simp at h
 |f::l,[],_,_,_,_,_,n,_,_,_,_,_=>by simp at n
 |f::l,t::a,k,c,b,o,d,n,r,u,i,h,m=>by
  obtain⟨x,s,v,w⟩:=u;have p:=r 0 jY jY;simp only[iD,gX]at p;obtain⟨z,A,B⟩:=Ni 4000 e f.cJ t.cF c b x s p v;subst A B;cases i with
  |zero=>simpa[sK]using z
  |succ i=>
   have I:=Te l a (k+1) (c+nL 1 t.cF) (b+nL 8 t.cF) o d (by simpa using n) (fun j q y=>by have:=r (j+1) (by simpa using q) (by simpa using y);simp only[iX]at this;rw[show k+1+j=k+(j+1) by omega];exact this) w i (by simpa using h) (by simpa using m)
   rw[show k+1+i=k+(i+1) by omega]at I;simp only[iX,sK,iY,iK,iS]at I⊢;rw[<-Nat.add_assoc c,<-Nat.add_assoc b];exact I
theorem Qb{e:Nat}{p:List FS}:∀(l:List RF) (a:List TF) (k i c m d:Nat),l.length=a.length->(∀j (h:j<l.length) (x:j<a.length),CJ (Dp (k+j) 4000 p) l[j].cJ a[j].cF)->IS e p l i c m d->m=i+(a.map fun t=>nL 1 t.cF).sum/\d=c+(a.map fun t=>nL 8 t.cF).sum
 |[],[],_,_,_,_,_,_,_,g=>⟨g.1,g.2⟩
 |[],_::_,_,_,_,_,_,b,_,_=>by simp at b
 |_::_,[],_,_,_,_,_,b,_,_=>by simp at b
 |f::l,t::a,k,i,c,m,d,b,r,g=>by
  obtain⟨s,o,u,v⟩:=g;have n:=r 0 jY jY;simp only[iD,gX]at n;obtain⟨_,y,z⟩:=Ni 4000 e f.cJ t.cF i c s o n u;have I:=Qb l a (k+1) s o m d (by simpa using b) (fun j q w=>by have:=r (j+1) (by simpa using q) (by simpa using w);simp only[iX]at this;rw[show k+1+j=k+(j+1) by omega];exact this) v
  simp only[iK,iS];omega
theorem Qs{a c b}(f:TE 4000 a c b)(k:∀t,t∈b->∀s,s∈t.cF->Q0 4000 s)(h:(BC a 4000 b 0 (a,⟨0,0⟩)).2.cI=0)(i)(g:i<(BC a 4000 b 0 (a,⟨0,0⟩)).1.length)(j:i<a.length):(BC a 4000 b 0 (a,⟨0,0⟩)).1[i].cJ=a[i].cJ:=by obtain⟨d,e⟩:=Jh f;obtain⟨m,n,o,l⟩:=La d e b 0 (a,⟨0,0⟩) k h;exact(l i g j).2.2.1
theorem ZG{b:List RF}{k:List FS}{a:List TF}{e p c:Nat}(G:GoodP a)(d:TE 4000 b k a)(l:∀t,t∈a->∀s,s∈t.cF->Q0 4000 s)(h:(BC b 4000 a 0 (b,⟨0,0⟩)).2.cI=0)(w:IS e k b 0 0 p c):RuS (fnN a) (paN a) (xfR a 0 0) (BC b 4000 a 0 (b,⟨0,0⟩)).1 k:=by
 have R:=Mj d l h;have o:=Qs d l h;have r:=d.len;have N:=Te b a 0 0 0 p c r (fun j q x=>by rw[iO];exact(d.fr j q x).cJ) w;generalize (BC b 4000 a 0 (b,⟨0,0⟩)).1=A at*;have v:=R.len;have z:=G.dK.cR;refine⟨⟨?_,Z,fun i=>?_,fun i j=>?_,fun i u=>?_,G.fM.cR⟩,G.fM,fun f g=>?_,fun f g=>?_,fun f g=>?_,d.fP⟩
 .apply jB
  .simp[fnN,v]
  .intro i m n;simp only[iU,fnN];rw[R.name i (by simpa using m) (by simpa[fnN]using n)];rfl
 .unfold VU fnN;rw[iL];by_cases q:i<a.length
  .rw[gL q];exact(G.eZ _ (gQ q)).1.2
  .rw[iI Z];decide
 .unfold aU;by_cases q:i<a.length
  .rw[Fm a i q];simp only;by_cases y:j<(CP a[i]).length
   .rw[gL y];exact(G.var q (gQ _)).2
   .rw[iI Z];decide
  .rw[Hy a i q];simp only[List.getElem?_nil,Option.getD_none];decide
 .rw[R.t8 i u Z,Fm a i Z]
 .rw[Fm a f Z,o f g Z];have:=N f Z Z;simpa using this
 .rw[Fm a f Z];have:=G.fL (gQ (show f<a.length by omega));simp only;omega
 .rw[R.cG f g Z,iJ,Fm a f Z]
def XC(M:Nat)(u:FS):Prop:=u.p.d9.size<=M/\u.q.d9.size<=M/\∀t,t∈u.args->t.d9.size<=M
def ON(M:Nat)(a:List FS):Prop:=∀u,u∈a->XC M u
section
variable{toks:List Tk}{M:Nat}(d:∀i,(tokAt toks i).d9.size<=M)
theorem aV(M a:Nat)(b:Int):XC M (Cv a b):=⟨gV _,gV _,fun _ q=>(iH q).elim⟩
include d
theorem V0(k:Nat)(x:St):(Bm toks k x).1.d9.size<=M:=by
 unfold Bm De;split
 .exact d _
 .exact gV _
theorem Wl:∀(f c:Nat) (b:Option Nat) (a:List Tk),(∀t,t∈a->t.d9.size<=M)->∀t,t∈(DG toks f c b a).1->t.d9.size<=M
 |0,c,b,a,h=>by unfold DG;exact h
 |f+1,c,b,a,h=>by
  unfold DG;split
  .exact Wl f (c+1) b _ fun t e=>(iM.1 e).elim (h t) fun q=>by rw[iB.1 q];exact d _
  .exact h
theorem Yp(x:St):∀t,t∈(BQ toks x).1->t.d9.size<=M:=by unfold BQ CM;exact Wl d _ _ _ _ fun _ q=>(iH q).elim
theorem ZN(x:St)(s:FS)(h:XC M s):XC M (C0 toks x s).1:=by
 have G:=fun k y=>V0 d k y
 have L:=fun y=>Yp d y
 obtain⟨a,c,b⟩:=h;unfold C0;split
 .exact⟨a,c,b⟩
 .split
  .simp only;split
   .exact⟨a,G _ _,b⟩
   .exact⟨a,G _ _,b⟩
  .split
   .exact⟨a,G _ _,b⟩
   .split
    .exact⟨a,G _ _,b⟩
    .split
     .exact⟨a,G _ _,L _⟩
     .simp only;split
      .exact⟨a,G _ _,L _⟩
      .exact⟨a,G _ _,b⟩
theorem Wx(a:Nat)(x:St):XC M (Ba toks a x).1:=by
 have G:=fun k y=>V0 d k y
 have N:∀t:Tk,t∈([]:List Tk)->t.d9.size<=M:=fun _ q=>(iH q).elim
 unfold Ba;split
 .exact⟨G _ _,gV _,N⟩
 .split
  .exact⟨gV _,G _ _,N⟩
  .split
   .exact⟨G _ _,G _ _,N⟩
   .exact ZN d _ _ ⟨G _ _,gV _,N⟩
omit d in
theorem ON.set{a:List FS}(h:ON M a)(i:Nat){u:FS}(b:XC M u):ON M (a.set i u):=fun v c=>(List.mem_or_eq_of_mem_set c).elim (h v) fun q=>by rw[q];exact b
omit d in
theorem ON.snoc{a:List FS}(h:ON M a):ON M (a++[Cv 0 0]):=fun v b=>(iM.1 b).elim (h v) fun q=>by rw[iB.1 q];exact aV _ _ _
theorem Zj:∀f:Nat,(∀(e:Nat) (x:St) (g:List FS) (n:List Nat),ON M g->ON M (Az toks f e x g n).2.2)/\(∀(e:Nat) (x:St) (g:List FS),ON M g->ON M (AJ toks f e x g).2.2):=by
 intro f;induction f with
 |zero=>exact⟨fun e x g n h=>by rw[Az];exact h,fun e x g h=>by rw[AJ];exact h⟩
 |succ f i=>
  have j:∀(e k:Nat) (b c:Int) (l m:List Nat),XC M {Cv e (-1)with kind:=k,br:=b,cJ:=l,dG:=c,other:=m}:=fun _ _ _ _ _ _=>⟨gV _,gV _,fun _ q=>(iH q).elim⟩
  refine⟨fun e x g n h=>?_,fun e x g h=>?_⟩
  .rw[Az];split
   .exact h
   .exact i.1 _ _ _ _ (i.2 _ _ _ h)
  .rw[AJ];split
   .simp only;have a:=i.1 e (Aw toks [123] (Aw toks [63] (Aw toks (AF (tokAt toks x.bZ)) x))) (g++[Cv 0 0]) [] h.snoc;split
    .split
     .exact(i.1 e _ _ [] a).set _ (j _ _ _ _ _ _)
     .exact a.set _ (j _ _ _ _ _ _)
    .exact a.set _ (j _ _ _ _ _ _)
   .exact h.snoc.set _ (Wx d _ _)
theorem VX(F:Nat):∀(m:Nat) (x:St) (a:List FS) (b:List RF),ON M a->ON M (Ce toks F m x a b).2.2
 |0,x,a,b,h=>h
 |m+1,x,a,b,h=>by
  rw[Ce];split
  .exact VX F m _ _ _ ((Zj d F).1 _ _ _ _ h)
  .exact h
end

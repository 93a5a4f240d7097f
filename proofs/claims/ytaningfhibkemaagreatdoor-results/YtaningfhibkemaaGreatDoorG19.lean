/- Part of the proof: MbA MbB MbC MbF RnT RuQ RwA RwB RwC RwD RwE. -/
import Derived.Test.YtaningfhibkemaaGreatDoorG20
import Derived.Test.YtaningfhibkemaaGreatDoorG18
import Derived.Maps.RangeWalk
import Derived.Sort.OwnSorted
set_option maxRecDepth 100000
set_option maxHeartbeats 4000000
namespace Go.Proofs.YtaningfhibkemaaGreatDoor
open Go.Proofs.Tryz Go.RowKit Go.Maps Go.Sort
open Option renaming none->Z,some->T
open Value renaming int->G,slice->Y
open IntKind renaming i64->A
mutual
def bH:TS->Prop
 |.mk s bl=>s.field<=3/\bX bl
def bX:List (Nat×List TS)->Prop
 |[]=>True
 |(_,ts)::r=>TL ts/\bX r
def TL:List TS->Prop
 |[]=>True
 |t::ts=>bH t/\TL ts
end
theorem Ym(t:PT):J9 t<=3:=by
 unfold J9;repeat' split
 all_goals omega
theorem YX(l:List PT)(n:Nat)(x:PS):(Cu l n x).1.field<=3:=by
 unfold Cu;split
 .exact iF _
 .split
  .unfold Fe;simp only;split
   .exact Ym _
   .exact iF _
  .split
   .exact iF _
   .split
    .exact iF _
    .split
     .exact iF _
     .split
      .exact iF _
      .exact iF _
theorem UH(l:List PT)(n:Nat)(x:PS):(AT l n x).1.field<=3:=by
 unfold AT;split
 .exact iF _
 .split
  .exact iF _
  .split
   .exact iF _
   .exact YX _ _ _
theorem SI:∀(a b:List TS),TL a->TL b->TL (a++b)
 |[],_,_,h=>h
 |_::a,b,h,k=>⟨h.1,SI a b h.2 k⟩
theorem Pl(l:List PT)(n:Nat):∀f:Nat,(∀(x:PS) (b:List TS),TL b->TL (AO l n f x b).1)/\(∀(x:PS),bH (Bw l n f x).1)
 |0=>⟨fun x b h=>by rw[AO];exact h,fun x=>by rw[Bw];exact⟨iF _,trivial⟩⟩
 |f+1=>by
  obtain⟨a,c⟩:=Pl l n f;refine⟨fun x b h=>?_,fun x=>?_⟩
  .rw[AO];split
   .exact a _ _ (SI _ _ h ⟨c _,trivial⟩)
   .exact h
  .rw[Bw];split
   .simp only;split
    .exact⟨iF _,a _ [] trivial,a _ [] trivial,trivial⟩
    .exact⟨iF _,a _ [] trivial,trivial⟩
   .split
    .exact⟨iF _,a _ [] trivial,trivial⟩
    .exact⟨UH _ _ _,trivial⟩
theorem V8(l:List PT)(n:Nat)(x:PS):TL (JU l n x).1.cP:=by unfold JU;exact(Pl l n _).1 _ [] trivial
theorem S8(l:List PT)(n:Nat):∀(f:Nat) (x:PS) (a:List TF),(∀t,t∈a->TL t.cP)->∀t,t∈(El l n f x a).1->TL t.cP
 |0,_,_,h=>by rw[El];exact h
 |f+1,x,a,h=>by
  rw[El];split
  .refine S8 l n f _ _ (fun t b=>?_);rcases iW.1 b with q|q
   .exact h t q
   .rw[iL.1 q];exact V8 l n x
  .exact h
theorem WJ(l:List PT)(n:Nat)(x:PS):∀t,t∈(Cp l n x).1->TL t.cP:=by unfold Cp;refine S8 l n n _ _ (fun t a=>?_);rw[iL.1 a];exact V8 l n x
theorem OG:∀(a:List TS),Dy a=(a.map Fb).sum
 |[]=>rfl
 |t::a=>by simp only[Dy,iU,jC,OG a]
theorem Cm.sz{l:List PT}:∀{d i j:Nat} {t:TS},Cm l d i j t->Fb t+i<=j
 |0,_,_,_,h=>h.elim
 |d+1,i,j,.mk s v,h=>by
  obtain⟨w,x,u⟩:=h;have C:∀a b n,Dv (Cm l d) a b n->Dy n+a<=b:=fun a b n r=>by rw[OG];exact Jh (fun _ _ _ q=>q.sz) r
  rcases u with⟨rfl,_⟩|⟨k,n,m,rfl,_,c,e,f⟩|⟨k,n,m,y,B,z,rfl,_,c,e,f,g,h⟩
  .simp only[Fb,Na];omega
  .have:=C _ _ _ e;simp only[Fb,Na];omega
  .have:=C _ _ _ e;have:=C _ _ _ g;simp only[Fb,Na];omega
theorem Ku.sz{l:List PT}{d i j:Nat}{t:TF}(h:Ku l d i j t):Dy t.cP+i<=j:=by
 obtain⟨r,v,c,m,e,f,g,a,k,b,n⟩:=h.w;have s:=a.le;have u:Dy t.cP+(c+1)<=m:=by rw[OG];exact Jh (fun _ _ _ q=>q.sz) b
 omega
mutual
def aK:TS->Prop
 |.mk s bl=>(s.kind≠7->s.kind≠8->s.args=[])/\s.args.length<=4000/\s.field<=3/\cA bl
def cA:List (Nat×List TS)->Prop
 |[]=>True
 |(_,ts)::r=>Y9 ts/\cA r
def Y9:List TS->Prop
 |[]=>True
 |t::ts=>aK t/\Y9 ts
end
theorem Sx:∀{a:List TS},(∀t,t∈a->bH t->aK t)->TL a->Y9 a
 |[],_,_=>trivial
 |t::_,h,k=>⟨h t (jP ..) k.1,Sx (fun u b=>h u (iK _ b)) k.2⟩
theorem Cm.wf{l:List PT}:∀{d i j:Nat} {t:TS},Cm l d i j t->bH t->aK t
 |0,_,_,_,h,_=>h.elim
 |d+1,i,j,.mk s F,h,n=>by
  obtain⟨H,I,w⟩:=h;have C:∀a b u,Dv (Cm l d) a b u->TL u->Y9 u:=fun a b u r=>Sx (fun t B n=>by obtain⟨x,y,q⟩:=r.each t B;exact q.wf n)
  rcases w with⟨rfl,_,E,z,_⟩|⟨k,u,m,rfl,v,c,e,f⟩|⟨k,u,m,K,M,L,rfl,v,c,e,f,g,h⟩
  .exact⟨z,E.al,n.1,trivial⟩
  .rcases v with rfl|rfl
   .exact⟨fun _ _=>rfl,iF _,n.1,C _ _ _ e n.2.1,trivial⟩
   .exact⟨fun _ _=>rfl,iF _,n.1,C _ _ _ e n.2.1,trivial⟩
  .subst v;exact⟨fun _ _=>rfl,iF _,n.1,C _ _ _ e n.2.1,C _ _ _ g n.2.2.1,trivial⟩
mutual
theorem aX(k:Nat):∀t:TS,nK k t<=Fb t
 |.mk s bl=>by have:=Zg k bl;simp only[nK,Fb];split<;>omega
theorem Zg(k:Nat):∀bl:List (Nat×List TS),nB k bl<=Na bl
 |[]=>gS _
 |(_,ts)::r=>by have:=KF k ts;have:=Zg k r;simp only[nB,Na];omega
theorem KF(k:Nat):∀ts:List TS,nL k ts<=Dy ts
 |[]=>gS _
 |t::ts=>by have:=aX k t;have:=KF k ts;simp only[nL,Dy];omega
end
section
variable{N:Nat}{l:List PT}(H:TksOk N l)(o:N<=4000)(p:l.length<=4001)
include H o p
theorem WM(c:List TF)(y:Nat)(x:PS)(e:Cp l l.length ⟨0,false,0⟩=(c,y,x))(w:x.cR=false):
 (c.map fun t=>Dy t.cP).sum<=4000/\∀t,t∈c->Y9 t.cP:=by
 have K:=H.pos;have k:=NI H o p (by rw[e];exact w);have h:=WJ l l.length ⟨0,false,0⟩;rw[e]at k h;obtain⟨d,_,_⟩:=k;simp only at d;refine⟨?_,fun t n=>?_⟩
 .have:=Jh (f:=fun t:TF=>Dy t.cP) (fun _ _ _ q=>q.sz) d;omega
 .obtain⟨i,j,g⟩:=d.each t n;obtain⟨M,N,L,m,z,B,C,E,F,r,I⟩:=g.w;exact Sx (fun u v s=>by obtain⟨a,b,q⟩:=r.each u v;exact q.wf s) (h t n)
end
structure TT(V F L:Nat)(par:List Nat)(s:Be):Prop where
 kind:s.kind<=12
 tg:s.kind≠0->s.kind≠10->s.kind≠11->s.kind≠12->s.cY<V
 sr:s.kind=2\/s.kind=3\/s.kind=5\/s.kind=6\/s.kind=8\/s.kind=9\/s.kind=10->s.cM<V
 func:s.kind=4\/s.kind=7->s.cM<F
 many:s.kind=7->par[s.cM]?.getD 0=s.args.length
 args:∀a,a∈s.args->a<V
 dC:s.args.length<=4000
 field:s.field<=3
 cK:s.cK<=4000
 next:s.next<=L
 taken:s.taken<=L
 t5:s.cY<=5000
 s5:s.cM<=5000
theorem Q0(l:List ByteArray)(s:ByteArray):vx l s<=l.length:=by have:=(C0 l s 0).2.2;unfold vx;omega
theorem UZ{fn:List ByteArray}{par:List Nat}{s:VS}{b:Bd}{a V L:Nat}(r:s.kind<=10)(h:bJ fn par s b.cH)(m:s.kind≠7->s.kind≠8->s.args=[])(n:s.args.length<=4000)(o:s.field<=3)(c:b.cH.length<=V)(p:V<=12)(hF:fn.length<=12)(i:a<=L)(k:s.kind=1->b.pl+1<=4000)(j:s.kind=8->b.ca+1<=4000):TT V fn.length L par {AB fn s b with next:=a}:=by
 have u:=Q0 b.cH s.tg.d9;have v:=Q0 b.cH s.sr.d9;have w:=Q0 fn s.sr.d9;refine⟨by simp only[AB];omega,fun f g _ _=>?_,fun q=>?_,fun q=>?_,fun q=>?_,fun x d=>?_,by simp only[AB,iT];exact n,o,?_,i,iF _,?_,?_⟩
 .simp only[AB]at f g⊢;rw[jQ f];have:=(Iy (h.tg f g)).1;omega
 .simp only[AB]at q⊢;rw[jQ (by omega)];have:=(Iy (h.sr q)).1;omega
 .simp only[AB]at q⊢;rw[jR q];exact(Iy (h.func q)).1
 .simp only[AB,iT]at q⊢;rw[jR (.inr q)];exact h.many q
 .simp only[AB]at d;by_cases q:s.kind=7\/s.kind=8
  .obtain⟨t,l,rfl⟩:=jD.1 d;have:=(Iy (h.args q t l)).1;omega
  .rw[m (fun e=>q (.inl e)) (fun e=>q (.inr e))]at d;simp at d
 .simp only[AB];split
  .exact k (by assumption)
  .split
   .exact j (by assumption)
   .exact iF _
 .simp only[AB];split<;>omega
 .simp only[AB];split<;>omega
theorem Tx{fn:List ByteArray}{par:List Nat}{s:VS}{b:Bd}{a V L:Nat}(l:s.kind=11\/s.kind=12)(j:s.kind≠7->s.kind≠8->s.args=[])(k:s.field<=3)(c:b.cH.length<=12)(g:a<=L):TT V fn.length L par {AB fn s b with next:=a}:=by
 have o:=Q0 b.cH s.tg.d9;have p:=Q0 b.cH s.sr.d9;have d:({AB fn s b with next:=a}:Be).kind=s.kind:=rfl;have e:({AB fn s b with next:=a}:Be).args=[]:=by simp only[AB];rw[j (by omega) (by omega)];rfl
 refine⟨by rw[d];omega,fun m n h i=>by rw[d]at h i;omega,fun q=>by rw[d]at q;omega,fun q=>by rw[d]at q;omega,fun q=>by rw[d]at q;omega,fun x f=>by rw[e]at f;simp at f,by rw[e];simp,k,?_,g,iF _,?_,?_⟩
 .simp only[AB];rw[jQ (by omega),jQ (by omega)];exact iF _
 .simp only[AB];rw[jQ (by omega)];omega
 .simp only[AB];rw[jQ (by omega)];omega
theorem IP{l:List Be}{i:Nat}{f:Be->Be}{s:Be}(h:s∈l.modify i f):s∈l\/∃u,u∈l/\s=f u:=by
 obtain⟨j,a,rfl⟩:=iP.1 h;rw[List.getElem_modify];split
 .exact .inr ⟨_,iA _,rfl⟩
 .exact .inl (iA _)
section
variable{fn:List ByteArray}{par:List Nat}{V L:Nat}(c:V<=12)(hF:fn.length<=12)
theorem Sl{b:Bd}{i n:Nat}(a:n<=L)(h:∀s,s∈b.r9->TT V fn.length L par s):∀s,s∈(b.tk i n).r9->TT V fn.length L par s:=by
 intro s d;rcases IP d with q|⟨u,q,rfl⟩
 .exact h s q
 .have k:=h u q;exact⟨k.kind,k.tg,k.sr,k.func,k.many,k.args,k.dC,k.field,k.cK,k.next,a,k.t5,k.s5⟩
theorem ZT{b:Bd}{i n:Nat}(a:n<=L)(h:∀s,s∈b.r9->TT V fn.length L par s):∀s,s∈(b.nx i n).r9->TT V fn.length L par s:=by
 intro s d;rcases IP d with q|⟨u,q,rfl⟩
 .exact h s q
 .have k:=h u q;exact⟨k.kind,k.tg,k.sr,k.func,k.many,k.args,k.dC,k.field,k.cK,a,k.taken,k.t5,k.s5⟩
theorem Xk{b:Bd}{s:VS}{a:Nat}(h:∀s,s∈b.r9->TT V fn.length L par s)(k:TT V fn.length L par {AB fn s b with next:=a}):∀u,u∈(Ar fn s a b).r9->TT V fn.length L par u:=by
 intro u d;rw[A6]at d;rcases iW.1 d with q|q
 .exact h u q
 .rw[iL.1 q];exact k
theorem Jw{ts:List TS}{a n:Nat}{b:Bd}(d:a<=n)(e:b.r9.length<=n):AN ts a b<=n:=by unfold AN;split<;>omega
include c hF
mutual
theorem PU:∀(t:TS) (a:Nat) (b:Bd),XW fn par t b.cH->aK t->(b.cH++dS t).length<=V->a<=L->b.r9.length+Fb t<=L->b.pl+nK 1 t<=4000->b.ca+nK 8 t<=4000->(∀s,s∈b.r9->TT V fn.length L par s)->∀s,s∈(Dx fn t a b).r9->TT V fn.length L par s
 |.mk s [],a,b,ho,hw,hn,ha,hl,hp,hc,h=>by
  have hn':b.cH.length<=V:=by rw[gW]at hn;omega
  simp only[nK,nB]at hp hc;rw[Dx];exact Xk h (UZ ho.1 ho.2 hw.1 hw.2.1 hw.2.2.1 hn' c hF ha (fun q=>by rw[jR q]at hp;omega) (fun q=>by rw[jR q]at hc;omega))
 |.mk s [(_,ts)],a,b,ho,hw,hn,ha,hl,hp,hc,h=>by
  have hn':b.cH.length<=V:=by rw[gW]at hn;omega
  have hab:=D8 fn s a b ho.1;have hlen:(Ar fn s a b).r9.length=b.r9.length+1:=by rw[A6];simp
  have hA:=Xk h (Tx (V:=V) (L:=L) (par:=par) (a:=a) ho.1 hw.1 hw.2.2.1 (by omega) ha);simp only[nK,nB]at hp hc;simp only[Fb,Na]at hl;have hn2:(((Ar fn s a b).cH)++dL ts).length<=V:=by rw[hab.1];have hk:=ho.1;simp only[dS,dB,iZ,gW]at hn;rw[jQ (by omega)]at hn;simpa using hn
  have hko:ID fn par ts (Ar fn s a b).cH:=by rw[hab.1];exact ho.2
  have I:=fun a' ha'=>G6 ts a' (Ar fn s a b) hko hw.2.2.2.1 hn2 ha' (by omega) (by rw[hab.2.1];omega) (by rw[hab.2.2];omega) hA
  rw[Dx];split
  .exact Sl (Jw ha (by omega)) (I a ha)
  .split
   .exact Sl (Jw (by omega) (by omega)) (I _ (by omega))
   .exact hA
 |.mk s [(_,ts),(_,ts2)],a,b,ho,hw,hn,ha,hl,hp,hc,h=>by
  have hn':b.cH.length<=V:=by rw[gW]at hn;omega
  have hab:=D8 fn s a b (.inl ho.1);have hlen:(Ar fn s a b).r9.length=b.r9.length+1:=by rw[A6];simp
  have hA:=Xk h (Tx (V:=V) (L:=L) (par:=par) (a:=a) (.inl ho.1) hw.1 hw.2.2.1 (by omega) ha);simp only[nK,nB]at hp hc;simp only[Fb,Na]at hl;simp only[dS,dB,iZ,gW]at hn;rw[jQ (by have:=ho.1;omega)]at hn;simp only[iJ]at hn;have hko:ID fn par ts (Ar fn s a b).cH:=by rw[hab.1];exact ho.2.1
  have L1:=DT ts a (Ar fn s a b) hko;have I:=G6 ts a (Ar fn s a b) hko hw.2.2.2.1 (by rw[hab.1,gW];omega) ha (by omega) (by rw[hab.2.1];omega) (by rw[hab.2.2];omega) hA;have I2:=Sl (i:=b.r9.length) (Jw (ts:=ts) (b:=Ar fn s a b) ha (by omega)) I;rw[Dx,jR ho.1];simp only;have e1:((AU fn ts a (Ar fn s a b)).tk b.r9.length (AN ts a (Ar fn s a b))).cH=b.cH++dL ts:=by show(AU fn ts a (Ar fn s a b)).cH=_;rw[L1.cH,hab.1]
  have e2:((AU fn ts a (Ar fn s a b)).tk b.r9.length (AN ts a (Ar fn s a b))).r9.length=b.r9.length+1+Dy ts:=by rw[MI,L1.len,hlen]
  have e3:((AU fn ts a (Ar fn s a b)).tk b.r9.length (AN ts a (Ar fn s a b))).pl=b.pl+nL 1 ts:=by show(AU fn ts a (Ar fn s a b)).pl=_;rw[L1.pl,hab.2.1]
  have e4:((AU fn ts a (Ar fn s a b)).tk b.r9.length (AN ts a (Ar fn s a b))).ca=b.ca+nL 8 ts:=by show(AU fn ts a (Ar fn s a b)).ca=_;rw[L1.ca,hab.2.2]
  refine ZT (Jw ha (by omega)) (G6 ts2 a _ (by rw[e1];exact ho.2.2) hw.2.2.2.2.1 (by rw[e1];simp only[gW];omega) ha (by omega) (by omega) (by omega) I2)
 |.mk _ (_::_::_::_),_,_,ho,_,_,_,_,_,_,_=>ho.elim
theorem G6:∀(ts:List TS) (a:Nat) (b:Bd),ID fn par ts b.cH->Y9 ts->(b.cH++dL ts).length<=V->a<=L->b.r9.length+Dy ts<=L->b.pl+nL 1 ts<=4000->b.ca+nL 8 ts<=4000->(∀s,s∈b.r9->TT V fn.length L par s)->∀s,s∈(AU fn ts a b).r9->TT V fn.length L par s
 |[],_,_,_,_,_,_,_,_,_,h=>by have _h1:=c;have _h2:=hF;rw[AU];exact h
 |[t],a,b,ho,hw,hn,ha,hl,hp,hc,h=>by simp only[dL,iZ]at hn;simp only[Dy,nL,iH]at hl hp hc;rw[AU];exact PU t a b ho.1 hw.1 hn ha hl hp hc h
 |t::t2::ts,a,b,ho,hw,hn,ha,hl,hp,hc,h=>by
  rw[dL,<-jU]at hn;have hz:Dy (t::t2::ts)=Fb t+Dy (t2::ts):=rfl;have h1:nL 1 (t::t2::ts)=nK 1 t+nL 1 (t2::ts):=rfl;have h8:nL 8 (t::t2::ts)=nK 8 t+nL 8 (t2::ts):=rfl;have L1:=Jy t (b.r9.length+Fb t) b ho.1;have hn1:(b.cH++dS t).length<=V:=by rw[gW]at hn;omega
  have I:=PU t (b.r9.length+Fb t) b ho.1 hw.1 hn1 (by omega) (by omega) (by omega) (by omega) h;rw[AU];exact G6 (t2::ts) a _ (by rw[L1.cH];exact ho.2) hw.2 (by rw[L1.cH];exact hn) ha (by rw[L1.len];omega) (by rw[L1.pl];omega) (by rw[L1.ca];omega) I
end
end
def Ii(P:List PFn)(i j:Nat):ByteArray:=(As P i).t8[j]?.getD ⟨#[]⟩
def IX(P:List PFn)(t:Tg):List UInt8:=
 if t.kind=1 then Lib.decDigits t.cZ++[46]++Lib.decDigits t.dE
 else if t.kind=2 then 64::(As P t.cZ).name.data.toList
 else(As P t.cZ).name.data.toList++[46]++(Ii P t.cZ t.dE).data.toList
def Lt(P:List PFn)(t:Tg):Prop:=(t.kind=0/\t.cZ<P.length/\t.dE<(As P t.cZ).t8.length)\/(t.kind=1/\t.cZ<=4000/\t.dE<=3)\/(t.kind=2/\t.cZ<P.length/\t.dE=0)
structure PnOk(P:List PFn):Prop where
 name:∀i,(As P i).name.size<=4000
 t8:∀i j,(Ii P i j).size<=4000
def VX(n:Nat):ByteArray:=⟨(Lib.decDigits n).toArray⟩
def ItOk(w:World):Prop:=∀(n:Nat) (a:World),n<=4000->O kJ w a->Calls prog 149 #[G A n] a fun e b=>e=.returned (.string (VX n))/\O kJ a b
theorem Uy(B:Nat)(M:Value)(q u n:Nat)(P:List PFn)(t:Tg)(w:World)(i:Bx B w M P)(k:Oa P)(g:PnOk P)(ht:Lt P t)(p:ItOk w)(h0:0<P.length):
 Calls prog 135 #[.agg #[M,G A q,G A u,G A n],.agg #[G A t.kind,G A t.cZ,G A t.dE]] w fun e w'=>e=.returned (.string ⟨(IX P t).toArray⟩)/\O kJ w w':=by
 obtain⟨z,x,rfl,b4⟩:=i.form h0;have a9:=k.dC;rcases ht with⟨b,h,E⟩|⟨b,h,E⟩|⟨b,h,_⟩
 .have S:((t.kind:Int)==1)=false:=by simp[b]
  have k2:((t.kind:Int)==2)=false:=by simp[b]
  obtain⟨vv,sv,c,d,j⟩:=i.get h;rw[<-Tu h]at c d j;obtain⟨va,vl,vc,rfl⟩:=Ad d;have a5:=Ag d;subst a5;obtain⟨f,rfl⟩:=Ap d (by omega);have b5:=(d.lt f rfl).2;obtain⟨sa,sc,rfl,_⟩:=j.form;have L:=d.cellAt t.dE (by omega);rw[iV,gV E]at L;simp only[Option.map_some]at L;have y:=c 0 (by decide);have f1:=c 1 (by decide);have f2:=c 2 (by decide);have f3:=c 3 (by decide);simp only[OA,gP,gQ,iH]at y f1 f2 f3;have a3:=g.name t.cZ;have a4:=g.t8 t.cZ t.dE;have b0:=k.t8 t.cZ;have C:Ii P t.cZ t.dE=(As P t.cZ).t8[t.dE]:=by unfold Ii;rw[gV E];rfl
  have l:D ((As P t.cZ).name++{data:=#[46]}++(As P t.cZ).t8[t.dE]=⟨(IX P t).toArray⟩):=GU (by unfold IX;rw[jQ (by omega),jQ (by omega),C];simp)
  rw[C]at a4;generalize (⟨(IX P t).toArray⟩:ByteArray)=I at*;generalize (As P t.cZ).t8[t.dE]=vt at*;generalize (As P t.cZ).name=r at*;have a2:(t.cZ:Int)<(P.length:Int):=by omega
  have b3:(t.dE:Int)<((As P t.cZ).t8.length:Int):=by omega
  have Q:¬(9223372036854775807<r.size+1):=by omega
  have a0:¬(9223372036854775807<r.size+1+vt.size):=by omega
  have g1:f≠w.heap.size:=by omega
  have g2:f≠w.heap.size+1:=by omega
  have g3:f≠w.heap.size+1+1:=by omega
  have g4:f<w.heap.size+1:=by omega
  have g5:f<w.heap.size+1+1:=by omega
  clear c d j i k g p C b;go_enter func135,ntmps135;go_wp2_with fail;go_region;go_wp2_with fail;go_ret;exact⟨congrArg (fun s=>Ending.returned (Value.string s)) l.o,(by repeat first|exact BI _ _|apply BG|apply BH|apply BE)⟩
 .have S:((t.kind:Int)==1)=true:=by simp[b]
  have a7:(VX t.cZ).size<=4001:=by have:=Jj t.cZ;simp only[VX,ByteArray.size,List.size_toArray];omega
  have a8:(VX t.dE).size<=4:=by have:=Jj t.dE;simp only[VX,ByteArray.size,List.size_toArray];omega
  have l:D (VX t.cZ++{data:=#[46]}++VX t.dE=⟨(IX P t).toArray⟩):=GU (by unfold IX VX;rw[jR b];simp)
  have a1:t.dE<=4000:=by omega
  have H:=J p;generalize (⟨(IX P t).toArray⟩:ByteArray)=I at*;have Q:¬(9223372036854775807<(VX t.cZ).size+1):=by omega
  have a0:¬(9223372036854775807<(VX t.cZ).size+1+(VX t.dE).size):=by omega
  clear i k g p b;go_enter func135,ntmps135;go_wp2_with fail;have o:=W.new (w.alloc (.cells #[Y (T ⟨z,0,Z⟩) P.length x,G A q,G A u,G A n] 66)) #[G A t.kind,G A t.cZ,G A t.dE] 238;have R:(w.alloc (.cells #[Y (T ⟨z,0,Z⟩) P.length x,G A q,G A u,G A n] 66)).heap.size=w.heap.size+1:=by simp
  rw[R]at o;have N:=((O.refl kJ w).alloc (.cells #[Y (T ⟨z,0,Z⟩) P.length x,G A q,G A u,G A n] 66)).alloc (.cells #[G A t.kind,G A t.cZ,G A t.dE] 238);have v:=J N;generalize World.alloc (World.alloc w _) _=W0 at*;obtain⟨b1,K⟩:=o.e2 1 2;have lb:=Ae o;simp only[gR,gP,gQ]at b1 K;have U:=True.intro;clear o R N;go_region_law(first
   |(go_simp;go_at_call 149;have _t:=U;refine(H.o _ _ (by omega) (v.o.trans ?_)).mono ?_;exact(by repeat first|exact BI _ _|apply BG|apply BH|apply BE);rintro e V ⟨rfl,m⟩;have F:=J (O.trans (X:=kJ) (a:=W0) (by repeat first|exact BI _ _|apply BG|apply BH|apply BE) m);have a6:V.cell? ⟨w.heap.size+1,2,Z⟩=T (G A t.dE):=(gT (F.o.block _ lb id)).trans K;clear m U;dsimp only)
   |(go_simp;go_at_call 149;refine(H.o _ _ a1 (v.o.trans (F.o.trans ?_))).mono ?_;exact(by repeat first|exact BI _ _|apply BG|apply BH|apply BE);rintro e w8 ⟨rfl,m⟩;have o8:=J (O.trans (X:=kJ) (a:=V) (by repeat first|exact BI _ _|apply BG|apply BH|apply BE) m);clear m;dsimp only))
  all_goals
   go_wp2_with fail;go_ret;exact⟨congrArg (fun s=>Ending.returned (Value.string s)) l.o,(v.o.trans F.o).trans o8.o⟩
 .have S:((t.kind:Int)==1)=false:=by simp[b]
  have k2:((t.kind:Int)==2)=true:=by simp[b]
  obtain⟨vv,sv,c,d,j⟩:=i.get h;rw[<-Tu h]at c d j;have y:=c 0 (by decide);simp only[OA,gP,iH]at y;have a3:=g.name t.cZ;have l:D ((⟨#[64]⟩:ByteArray)++(As P t.cZ).name=⟨(IX P t).toArray⟩):=GU (by unfold IX;rw[jQ (by omega),jR b];simp)
  generalize (⟨(IX P t).toArray⟩:ByteArray)=I at*;generalize (As P t.cZ).name=r at*;have a2:(t.cZ:Int)<(P.length:Int):=by omega
  have Q:¬(9223372036854775807<1+r.size):=by omega
  clear c d j i k g p b;go_enter func135,ntmps135;go_wp2_with fail;first|go_quiet(fail)|skip
  go_wp2_with fail;go_ret;exact⟨congrArg (fun s=>Ending.returned (Value.string s)) l.o,(by repeat first|exact BI _ _|apply BG|apply BH|apply BE)⟩
def Y8:Prop:=∀(B g c:Nat) (l:List ByteArray) (d:World),Au B d (Y (T ⟨g,0,Z⟩) l.length c) l->l.length<=1000000->Calls prog 137 #[Y (T ⟨g,0,Z⟩) l.length c] d fun e h=>e=.returned (.tuple #[])/\∃f,Au B h (Y (T ⟨g,0,Z⟩) l.length c) f/\f.Perm l/\f.Pairwise (fun a b=>GM b a=false)/\O (fun k=>k=g) d h
theorem Lt.ok{P t}(h:Lt P t)(a:Oa P):aJ t:=by
 have b:=a.dC;have c:=a.t8 t.cZ;unfold aJ;rcases h with h|h|h
 .omega
 .omega
 .omega
theorem YV{P t}(a:Oa P)(b:PnOk P)(h:Lt P t):(⟨(IX P t).toArray⟩:ByteArray).size<=20000:=by
 have c:(As P t.cZ).name.data.toList.length<=4000:=iG (Nat.le_of_eq Array.length_toList) (b.name t.cZ);have d:(Ii P t.cZ t.dE).data.toList.length<=4000:=iG (Nat.le_of_eq Array.length_toList) (b.t8 t.cZ t.dE);have e:=Jj t.cZ;have f:=Jj t.dE;have g:=a.dC;have i:=a.t8 t.cZ;show(IX P t).toArray.size<=20000;rw[List.size_toArray];unfold IX;rcases h with h|h|h
 .rw[jQ (by omega),jQ (by omega)];simp only[gW,gU,iJ];omega
 .rw[jR (by omega)];simp only[gW,gU,iJ];omega
 .rw[jQ (by omega),jR (by omega)];simp only[gU];omega
theorem SQ:∀(n:Nat) (x:UInt8),x∈Lib.decDigits n->48<=x.toNat/\x.toNat<=57:=by
 intro n;induction n using Nat.strongRecOn with
 |_ n c=>
  intro x a;have b:∀d:Nat,d<10->(UInt8.ofNat (48+d)).toNat=48+d:=by decide
  rw[Lib.decDigits]at a;split at a
  .rename_i h;rw[iL]at a;subst a;rw[b n h];omega
  .rename_i h;rcases iW.1 a with q|q
   .exact c (n / 10) (by omega) x q
   .rw[iL]at q;subst q;rw[b (n % 10) (by omega)];omega
def Zy(l:List UInt8):Nat:=l.foldl (fun a d=>10*a+(d.toNat-48)) 0
theorem SU:∀n:Nat,Zy (Lib.decDigits n)=n:=by
 intro n;induction n using Nat.strongRecOn with
 |_ n b=>
  have a:∀d:Nat,d<10->(UInt8.ofNat (48+d)).toNat=48+d:=by decide
  rw[Lib.decDigits];split
  .rename_i h;simp only[Zy,jB,jM];rw[a n h];omega
  .rename_i h;have e:=b (n / 10) (by omega);unfold Zy at e⊢;rw[List.foldl_append,e];simp only[jB,jM];rw[a (n % 10) (by omega)];omega
theorem SR{a b}(h:Lib.decDigits a=Lib.decDigits b):a=b:=by rw[<-SU a,<-SU b,h]
theorem VW(n):∃x l,Lib.decDigits n=x::l/\48<=x.toNat/\x.toNat<=57:=by
 cases h:Lib.decDigits n with
 |nil=>
  rw[Lib.decDigits]at h;split at h
  .cases h
  .exact jY h (by simp)
 |cons x l=>exact⟨x,l,rfl,SQ n x (by rw[h];simp)⟩
theorem Rr{c:UInt8}:∀{a e b d:List UInt8},c∉a->c∉e->a++[c]++b=e++[c]++d->a=e/\b=d
 |[],[],b,d,_,_,h=>by simpa using h
 |[],y::e,b,d,_,g,h=>by simp at h;exact jY h.1 (fun q=>g (by simp[q]))
 |x::a,[],b,d,f,_,h=>by simp at h;exact jY h.1 (fun q=>f (by simp[q]))
 |x::a,y::e,b,d,f,g,h=>by simp only[List.cons_append,List.cons.injEq]at h;obtain⟨i,j⟩:=Rr (fun q=>f (iK _ q)) (fun q=>g (iK _ q)) h.2;exact⟨by rw[h.1,i],j⟩
theorem Tj{b}(h:Vo b){c}(a:c.toNat<97):c∉b.data.toList:=fun q=>by have:=h c q;omega
theorem ST(n){c}(a:c.toNat<48\/57<c.toNat):c∉Lib.decDigits n:=fun q=>by have:=SQ n c q;omega
theorem LA{a b:ByteArray}(h:a.data.toList=b.data.toList):a=b:=by cases a;cases b;simp only at h;have:=Array.toList_inj.1 h;subst this;rfl
structure NmP(P:List PFn):Prop where
 nl:∀i,Vo (As P i).name
 vl:∀i j,Vo (Ii P i j)
 inj:∀i j,i<P.length->j<P.length->(As P i).name=(As P j).name->i=j
 gE:∀i,(As P i).t8.Nodup
theorem QT{P}(h:NmP P)(t):∃x l,IX P t=x::l/\(t.kind=1->48<=x.toNat/\x.toNat<=57)/\(t.kind=2->x=64)/\(t.kind≠1->t.kind≠2->x.toNat=46\/97<=x.toNat):=by
 unfold IX;split
 .rename_i c;obtain⟨x,l,e,f⟩:=VW t.cZ;exact⟨x,l++[46]++Lib.decDigits t.dE,by rw[e];simp,fun _=>f,fun q=>by omega,fun q=>jY c q⟩
 .rename_i b;split
  .rename_i a;exact⟨64,_,rfl,fun q=>jY q b,fun _=>rfl,fun _ q=>jY a q⟩
  .rename_i a;cases d:(As P t.cZ).name.data.toList with
   |nil=>exact⟨46,_,rfl,fun q=>jY q b,fun q=>jY q a,fun _ _=>.inl rfl⟩
   |cons x l=>exact⟨x,_,rfl,fun q=>jY q b,fun q=>jY q a,fun _ _=>.inr (h.nl t.cZ x (by rw[d];simp))⟩
theorem WB{l:List ByteArray}(h:l.Nodup){i j:Nat}(a:i<l.length)(b:j<l.length)(e:l[i]=l[j]):i=j:=by
 have c:=List.pairwise_iff_getElem.1 h;rcases Nat.lt_trichotomy i j with q|q|q
 .exact jY e (c i j a b q)
 .exact q
 .exact jY e.symm (c j i b a q)
theorem YU{P}(h:NmP P){s t}(N:Lt P s)(Q:Lt P t)(e:IX P s=IX P t):s=t:=by
 obtain⟨x,l,p,B,C,E⟩:=QT h s;obtain⟨y,m,q,F,H,I⟩:=QT h t;rw[p,q]at e;have K:x=y:=by simpa using(List.cons.inj e).1
 subst K;have e:IX P s=IX P t:=by rw[p,q];exact e
 have R:(64:UInt8).toNat=64:=by decide
 rcases N with⟨a,f,c⟩|⟨a,f,c⟩|⟨a,f,c⟩<;>rcases Q with⟨b,g,d⟩|⟨b,g,d⟩|⟨b,g,d⟩
 .unfold IX at e;rw[jQ (by omega),jQ (by omega),jQ (by omega),jQ (by omega)]at e;obtain⟨j,k⟩:=Rr (Tj (h.nl _) (by decide)) (Tj (h.nl _) (by decide)) e;have i:=h.inj _ _ f g (LA j);obtain⟨u,o,r⟩:=s;obtain⟨w,z,v⟩:=t;simp only at*;subst i a b;have n:=LA k;unfold Ii at n;rw[gV c,gV d]at n;have:=WB (h.gE o) c d n;subst this;rfl
 .have:=E (by omega) (by omega);have:=F b;omega
 .have:=E (by omega) (by omega);have:=H b;subst this;omega
 .have:=I (by omega) (by omega);have:=B a;omega
 .unfold IX at e;rw[jR a,jR b]at e;obtain⟨j,k⟩:=Rr (ST _ (by decide)) (ST _ (by decide)) e;have L:=SR j;have M:=SR k;obtain⟨u,o,r⟩:=s;obtain⟨w,z,v⟩:=t;simp only at*;subst L M a b;rfl
 .have:=B a;have:=H b;subst this;omega
 .have:=I (by omega) (by omega);have:=C a;subst this;omega
 .have:=F b;have:=C a;subst this;omega
 .unfold IX at e;rw[jQ (by omega),jR a,jQ (by omega),jR b]at e;have i:=h.inj _ _ f g (LA (List.cons.inj e).2);obtain⟨u,o,r⟩:=s;obtain⟨w,z,v⟩:=t;simp only at*;subst i a b c d;rfl
theorem ZI{a b:List UInt8}(h:(⟨a.toArray⟩:ByteArray)=⟨b.toArray⟩):a=b:=by have:=congrArg (fun x:ByteArray=>x.data.toList) h;simpa using this
theorem Hi:∀{l:List ByteArray},l.Pairwise (fun a b=>GM b a=false)->l.Nodup->l.Pairwise (fun a b=>GM a b=true)
 |[],_,_=>List.Pairwise.nil
 |x::l,h,c=>by rw[List.pairwise_cons]at h;rw[List.nodup_cons]at c;refine List.Pairwise.cons (fun b d=>Ny (h.1 b d) (fun q=>c.1 (q▸d))) (Hi h.2 c.2)
theorem Hj:∀{a b:List ByteArray},a.Pairwise (fun a b=>GM a b=true)->b.Pairwise (fun a b=>GM a b=true)->(∀x,x∈a↔x∈b)->a=b
 |[],[],_,_,_=>rfl
 |[],y::b,_,_,h=>jY ((h y).2 (by simp)) iR
 |x::a,[],_,_,h=>jY ((h x).1 (by simp)) iR
 |x::a,y::b,c,d,h=>by
  rw[List.pairwise_cons]at c d;have f:x=y:=by
   rcases jJ.1 ((h x).1 (by simp))with q|q
   .exact q
   .rcases jJ.1 ((h y).2 (by simp))with r|r
    .exact r.symm
    .have g:=d.1 x q;have i:=c.1 y r;have:=Hv g i;rw[Fo]at this;cases this
  subst f;rw[Hj c.2 d.2 (fun z=>?_)];have e:=h z;simp only[jJ]at e;constructor
  .intro q;rcases e.1 (.inr q)with r|r
   .subst r;have:=c.1 z q;rw[Fo]at this;cases this
   .exact r
  .intro q;rcases e.2 (.inr q)with r|r
   .subst r;have:=d.1 z q;rw[Fo]at this;cases this
   .exact r
structure GoodP(c:List TF):Prop where
 dW:bM c
 sum:(c.map fun t=>Dy t.cP).sum<=4000
 wf:∀t,t∈c->Y9 t.cP
 fJ:∀t,t∈c->Vy (fun b=>Vo b/\b.size<=4000) t
def fnN(c:List TF):List ByteArray:=c.map fun f=>f.name.d9
def paN(c:List TF):List Nat:=c.map fun f=>f.u9.length
def sK(k:Nat)(l:List TF)(i:Nat):Nat:=((l.take i).map fun t=>nL k t.cP).sum
theorem Qt{fn:List ByteArray}{par:List Nat}:∀(l:List TF) (b a i:Nat) (h:i<l.length),(∀t,t∈l->ID fn par t.cP (t.u9.map fun p=>p.d9))->(Bl fn l b a)[i]? =T (CV fn l[i] (b+sK 1 l i) (a+sK 8 l i))
 |[],_,_,i,h,_=>by simp at h
 |t::l,b,a,0,_,_=>by simp[Bl,sK]
 |t::l,b,a,i+1,h,d=>by obtain⟨_,e,f,_⟩:=Mo (fn:=fn) (par:=par) t b a (d t (jP ..));have I:=Qt (fn:=fn) (par:=par) l (b+nL 1 t.cP) (a+nL 8 t.cP) i (by simpa using h) (fun t j=>d t (iK _ j));rw[Bl,e,f,gQ,I];simp only[sK,jI,iU,jC,jH,Nat.add_assoc]
theorem D6{fn:List ByteArray}:∀(l:List TF) (b a:Nat),(Bl fn l b a).length=l.length
 |[],_,_=>rfl
 |t::l,b,a=>by rw[Bl,gU,D6 l,gU]
theorem XM:∀(l:List TF) (b a i:Nat) (h:i<l.length),(xfR l b a)[i]? =T ⟨CY l[i],l[i].u9.length,l[i].cP,b+sK 1 l i,a+sK 8 l i⟩
 |[],_,_,i,h=>by simp at h
 |t::l,b,a,0,_=>by simp[xfR,sK,CY]
 |t::l,b,a,i+1,h=>by have I:=XM l (b+nL 1 t.cP) (a+nL 8 t.cP) i (by simpa using h);rw[xfR,gQ,I];simp only[sK,jI,iU,jC,jH,Nat.add_assoc]
theorem Ln:∀(l:List TF) (b a:Nat),(xfR l b a).length=l.length
 |[],_,_=>rfl
 |t::l,b,a=>by rw[xfR,gU,Ln l,gU]
theorem QI(k:Nat):∀(l:List TF) (i:Nat) (h:i<l.length),sK k l i+nL k l[i].cP<=(l.map fun t=>Dy t.cP).sum
 |[],i,h=>by simp at h
 |t::l,0,_=>by have:=KF k t.cP;simp only[sK,List.take_zero,List.map_nil,List.sum_nil,iN,iU,jC];omega
 |t::l,i+1,h=>by have I:=QI k l i (by simpa using h);have:=KF k t.cP;simp only[sK,jI,iU,jC,jH]at I⊢;omega
theorem Tl{f:TF->Nat}:∀{l:List TF} {t:TF},t∈l->f t<=(l.map f).sum
 |[],_,h=>by simp at h
 |a::l,t,h=>by
  simp only[iU,jC];rcases jJ.1 h with rfl|q
  .omega
  .have:=Tl (f:=f) q;omega
section
variable{c:List TF}(g:GoodP c)
include g
theorem GoodP.fW{t:TF}(h:t∈c):Dy t.cP<=4000:=iG (Tl (f:=fun t=>Dy t.cP) h) g.sum
theorem GoodP.pf(i:Nat)(h:i<c.length):As (Bl (fnN c) c 0 0) i=CV (fnN c) c[i] (sK 1 c i) (sK 8 c i):=by unfold As;rw[Qt (fn:=fnN c) (par:=paN c) c 0 0 i h g.dW.ok,iY,iY];rfl
omit g in
theorem Hy(c:List TF)(i:Nat)(h:¬i<c.length):As (Bl (fnN c) c 0 0) i=⟨⟨#[]⟩,[],0,[]⟩:=by unfold As;rw[iS (by rw[D6];omega)];rfl
omit g in
theorem Fw(c:List TF)(i:Nat)(h:i<c.length):CK (xfR c 0 0) i=⟨CY c[i],c[i].u9.length,c[i].cP,sK 1 c i,sK 8 c i⟩:=by unfold CK;rw[XM c 0 0 i h,iY,iY];rfl
omit g in
theorem Ij(c:List TF)(i:Nat)(h:¬i<c.length):CK (xfR c 0 0) i=⟨[],0,[],0,0⟩:=by unfold CK;rw[iS (by rw[Ln];omega)];rfl
theorem GoodP.one(i:Nat)(h:i<c.length):(As (Bl (fnN c) c 0 0) i).name=c[i].name.d9/\(As (Bl (fnN c) c 0 0) i).t8=CY c[i]/\(As (Bl (fnN c) c 0 0) i).u9=c[i].u9.length/\(As (Bl (fnN c) c 0 0) i).r9.length=Dy c[i].cP:=by rw[g.pf i h];obtain⟨a,_,_,b,_⟩:=Mo (fn:=fnN c) (par:=paN c) c[i] (sK 1 c i) (sK 8 c i) (g.dW.ok _ (iA _));exact⟨rfl,a,rfl,b⟩
theorem GoodP.fS:Oa (Bl (fnN c) c 0 0):=by
 have y:=D6 (fn:=fnN c) c 0 0;have l:=g.dW.dC;refine⟨by omega,fun i=>?_,fun i=>?_,fun i=>?_,fun i x s b=>?_⟩
 .by_cases h:i<c.length
  .rw[(g.one i h).2.1];exact(g.dW.t8 _ (iA _)).2
  .rw[Hy c i h];exact iF _
 .by_cases h:i<c.length
  .rw[(g.one i h).2.1,(g.one i h).2.2.1];simp[CY]
  .rw[Hy c i h];exact gS _
 .by_cases h:i<c.length
  .rw[(g.one i h).2.2.2];have:=g.fW (iA h);omega
  .rw[Hy c i h];exact iF _
 .have h:i<c.length:=by omega
  have d:c[i]∈c:=iA _;obtain⟨B,e,C,j⟩:=g.one i h;have n:=g.dW.t8 _ d;have u:=QI 1 c i h;have v:=QI 8 c i h;have z:=g.sum;have m:s∈(AU (fnN c) c[i].cP (Dy c[i].cP) (Rh c[i] (sK 1 c i) (sK 8 c i))).r9:=by rw[g.pf i h]at b;exact b
  have K:=G6 (fn:=fnN c) (par:=paN c) (V:=(CY c[i]).length) (L:=Dy c[i].cP) n.2 (by unfold fnN;rw[iT];exact l) c[i].cP (Dy c[i].cP) (Rh c[i] (sK 1 c i) (sK 8 c i)) (g.dW.ok _ d) (g.wf _ d) (gS _) (gS _) (by simp[Rh]) (by show sK 1 c i+_<=4000;omega) (by show sK 8 c i+_<=4000;omega) (fun s b=>by simp[Rh]at b) s m;have w:(fnN c).length=c.length:=by unfold fnN;rw[iT]
  refine⟨K.kind,fun o p r t=>by rw[e];exact K.tg o p r t,fun q=>by rw[e];exact K.sr q,fun q=>by have:=K.func q;omega,fun q=>?_,fun a k=>by rw[e];exact K.args a k,K.dC,K.field,K.cK,by rw[j];exact K.next,by rw[j];exact K.taken,K.t5,K.s5⟩;have f:s.cM<c.length:=by have:=K.func (.inr q);omega
  rw[(g.one _ f).2.2.1,<-K.many q];unfold paN;rw[iV,gV f];rfl
theorem GoodP.var{i:Nat}(h:i<c.length){s:ByteArray}(b:s∈CY c[i]):Vo s/\s.size<=4000:=by
 obtain⟨_,d,e⟩:=g.fJ _ (iA h);rcases iW.1 b with q|q
 .obtain⟨p,a,rfl⟩:=jD.1 q;exact d p a
 .exact e s q
theorem GoodP.vn(i j:Nat):Vo (Ii (Bl (fnN c) c 0 0) i j)/\(Ii (Bl (fnN c) c 0 0) i j).size<=4000:=by
 have z:Vo (⟨#[]⟩:ByteArray)/\(⟨#[]⟩:ByteArray).size<=4000:=⟨Mb,by decide⟩;unfold Ii;by_cases h:i<c.length
 .rw[(g.one i h).2.1];by_cases a:j<(CY c[i]).length
  .rw[gV a];exact g.var h (iA _)
  .rw[iS (by omega)];exact z
 .rw[Hy c i h];simp only[List.getElem?_nil,Option.getD_none];exact z
theorem GoodP.nm(i:Nat):Vo (As (Bl (fnN c) c 0 0) i).name/\(As (Bl (fnN c) c 0 0) i).name.size<=4000:=by
 by_cases h:i<c.length
 .rw[(g.one i h).1];exact(g.fJ _ (iA h)).1
 .rw[Hy c i h];exact⟨Mb,by decide⟩
theorem GoodP.gA:PnOk (Bl (fnN c) c 0 0):=⟨fun i=>(g.nm i).2,fun i j=>(g.vn i j).2⟩
theorem GoodP.gG:NmP (Bl (fnN c) c 0 0):=by
 refine⟨fun i=>(g.nm i).1,fun i j=>(g.vn i j).1,fun i j a b e=>?_,fun i=>?_⟩
 .rw[D6]at a b;rw[(g.one i a).1,(g.one j b).1]at e;have d:=g.dW.cH i a;have f:=g.dW.cH j b;rw[e,f]at d;omega
 .by_cases h:i<c.length
  .rw[(g.one i h).2.1];exact(g.dW.t8 _ (iA _)).1
  .rw[Hy c i h];exact List.nodup_nil
theorem GoodP.gB{d:Nat}(b:∀t,t∈c->∀s,s∈t.cP->OZ d s):XY d c:=by
 refine⟨g.dW.dC,g.dW.cH,fun t h=>(g.fJ t h).1.2,fun t h p a=>((g.fJ t h).2.1 p a).2,fun t h=>?_,fun t h=>?_,b,g.dW.ok,fun t h=>g.fW h,?_,?_⟩
 .exact(List.nodup_append.1 (g.dW.t8 t h).1).1
 .have:=(g.dW.t8 t h).2;simp only[CY,gW,iT]at this;omega
 .refine iG ?_ g.sum;have:∀l:List TF,(l.map fun t=>nL 1 t.cP).sum<=(l.map fun t=>Dy t.cP).sum:=by
   intro l;induction l with
   |nil=>exact gS _
   |cons t l e=>have:=KF 1 t.cP;simp only[iU,jC];omega
  exact this c
 .refine iG ?_ g.sum;have:∀l:List TF,(l.map fun t=>nL 8 t.cP).sum<=(l.map fun t=>Dy t.cP).sum:=by
   intro l;induction l with
   |nil=>exact gS _
   |cons t l e=>have:=KF 8 t.cP;simp only[iU,jC];omega
  exact this c
end
mutual
theorem ZX{fn:List ByteArray}{par:List Nat}{vs':List ByteArray}:∀(t:TS) (vs:List ByteArray),XW fn par t vs->aK t->(∀s,s∈vs++dS t->s∈vs')->bR fn par vs' t
 |.mk s [],vs,h,hw,hs=>by
  have hv:∀s,s∈vs->s∈vs':=fun s q=>hs s (List.mem_append_left _ q)
  exact⟨h.1,fun a b=>hv _ (h.2.tg a b),h.2.func,h.2.many,fun q=>hv _ (h.2.sr q),fun q t ht=>hv _ (h.2.args q t ht),fun _=>hw.2.2.1⟩
 |.mk s [(_,ts)],vs,h,hw,hs=>by
  refine⟨h.1,MO ts vs h.2 hw.2.2.2.1 (fun u hu=>hs u ?_)⟩;simp only[dS,dB,iZ];rcases iW.1 hu with q|q
  .exact List.mem_append_left _ q
  .exact kD _ (kD _ q)
 |.mk s [(_,ts),(_,ts2)],vs,h,hw,hs=>by
  have h1:∀u,u∈vs++dL ts->u∈vs':=fun u hu=>hs u (by
   simp only[dS,dB,iZ];rcases iW.1 hu with q|q
   .exact List.mem_append_left _ q
   .exact kD _ (kD _ (List.mem_append_left _ q)))
  refine⟨h.1,MO ts vs h.2.1 hw.2.2.2.1 h1,MO ts2 (vs++dL ts) h.2.2 hw.2.2.2.2.1 (fun u hu=>?_)⟩;rcases iW.1 hu with q|q
  .exact h1 u q
  .refine hs u ?_;simp only[dS,dB,iZ];exact kD _ (kD _ (kD _ q))
 |.mk _ (_::_::_::_),_,h,_,_=>h.elim
theorem MO{fn:List ByteArray}{par:List Nat}{vs':List ByteArray}:∀(ts:List TS) (vs:List ByteArray),ID fn par ts vs->Y9 ts->(∀s,s∈vs++dL ts->s∈vs')->Yd fn par vs' ts
 |[],_,_,_,_=>trivial
 |t::ts,vs,h,hw,hs=>by
  refine⟨ZX t vs h.1 hw.1 (fun u hu=>hs u ?_),MO ts (vs++dS t) h.2 hw.2 (fun u hu=>hs u ?_)⟩
  .rw[dL];rcases iW.1 hu with q|q
   .exact List.mem_append_left _ q
   .exact kD _ (List.mem_append_left _ q)
  .rw[dL,<-jU];exact hu
end
theorem GoodP.fX{c:List TF}(g:GoodP c):XOk (fnN c) (paN c) (xfR c 0 0):=by
 have b:=g.sum;refine⟨by rw[Ln];unfold fnN;rw[iT],fun f=>?_,fun f=>?_,fun f=>?_,fun f a=>?_,fun f=>?_,fun f=>?_⟩
 .by_cases h:f<c.length
  .rw[Fw c f h];exact MO _ _ (g.dW.ok _ (iA _)) (g.wf _ (iA _)) (fun s q=>q)
  .rw[Ij c f h];trivial
 .by_cases h:f<c.length
  .rw[Fw c f h];exact(g.dW.t8 _ (iA _)).2
  .rw[Ij c f h];exact iF _
 .by_cases h:f<c.length
  .rw[Fw c f h];simp[CY]
  .rw[Ij c f h];exact gS _
 .rw[Ln]at a;rw[Fw c f a];unfold paN;rw[iV,gV a];rfl
 .by_cases h:f<c.length
  .rw[Fw c f h];have:=QI 1 c f h;simp only;omega
  .rw[Ij c f h];exact iF _
 .by_cases h:f<c.length
  .rw[Fw c f h];have:=QI 8 c f h;simp only;omega
  .rw[Ij c f h];exact iF _
theorem TK.len{d:List FS}{g:Nat}:∀{a:List TS} {l:List Nat} {c b:Nat},TK d g a l c b->l.length=a.length
 |[],l,_,_,h=>by have e:l=[]:=h;rw[e];rfl
 |t::a,l,c,b,h=>by obtain⟨j,i,e,_,f⟩:=h;rw[e,gU,gU,f.len]
theorem Pz{c F}(m x b a)(h:x.cL≠Z):(Cn c F m x b a).2.1.cL≠Z:=by
 cases m with
 |zero=>exact h
 |succ m=> rw[Cn,jQ (fun q=>h q.1)];exact h
theorem SZ{d}(l:(tokAt d (d.length-1)).sort=0)(k x f)(r:IA d.length x f.length)(p:(GL d (2*d.length) k x f).2.1.cL=Z):
 IC (fun j a b c e=>Fz (2*d.length) (GL d (2*d.length) k x f).2.2 j a b c e) (GL d (2*d.length) k x f).1.cT x.pl x.ca (GL d (2*d.length) k x f).2.1.pl (GL d (2*d.length) k x f).2.1.ca/\Kv f (GL d (2*d.length) k x f).2.2/\∀j,f.length<=j->j<(GL d (2*d.length) k x f).2.2.length->La (GL d (2*d.length) k x f).2.2 (GL d (2*d.length) k x f).1.cT j:=by
 have E:=A9 d;have C:∀(L:List UInt8) (x:St),x.cJ<d.length->(Aw d L x).cJ<d.length:=fun L x h=>Ci rfl l h
 unfold GL at p⊢;simp only at p⊢;have y:=(E [102,110] x).trans (EX d 1 (Aw d [102,110] x));have v:(Bo d 1 (Aw d [102,110] x)).2.cJ<d.length:=ED (q:=(Bo d 1 (Aw d [102,110] x)).1) rfl (by decide) l (C _ _ r.1);generalize Bo d 1 (Aw d [102,110] x)=g at*;have z:=y.trans ((E [40] g.2).trans (Fm d (Aw d [40] g.2)));have w:(Cb d (Aw d [40] g.2)).2.cJ<d.length:=EY (q:=(Cb d (Aw d [40] g.2)).1) rfl l (C _ _ v);generalize Cb d (Aw d [40] g.2)=m at*;have i:=z.trans (E [123] m.2);have s:=r.dJ i (C [123] m.2 w);have o:=E [125] (AA d (2*d.length) k (Aw d [123] m.2) f []).2.1;have B:=(o.2.2.2 p).1;obtain⟨I,t,u,F,H⟩:=(VO (n:=d.length) l (2*d.length)).1 k (Aw d [123] m.2) f [] s (fun q=>by have:=(i.2.2.2 q).2;have:=s.1;omega) B;rw[jO]at t;rw[t,o.2.1,o.2.2.1];rw[i.2.1,i.2.2.1]at u;exact⟨u.mono (fun _ _ _ _ _ q=>q.2),F,H⟩
theorem PE{a:List Tk}(g:(tokAt a (a.length-1)).sort=0):∀(m:Nat) (x:St) (b:List FS) (c:List RF),IA a.length x b.length->Ja (2*a.length) b c 0 0 x.pl x.ca->(Cn a (2*a.length) m x b c).2.1.cL=Z->
 Ja (2*a.length) (Cn a (2*a.length) m x b c).2.2 (Cn a (2*a.length) m x b c).1 0 0 (Cn a (2*a.length) m x b c).2.1.pl (Cn a (2*a.length) m x b c).2.1.ca
 |0,x,b,c,_,e,_=>e
 |m+1,x,b,c,h,e,d=>by
  rw[Cn]at d⊢;split at d
  .rename_i f;rw[jR f];have k:(GL a (2*a.length) c.length x b).2.1.cL=Z:=Classical.byContradiction (fun q=>Pz m _ _ _ q d);obtain⟨i,j,_⟩:=SZ g c.length x b h k;exact PE g m _ _ _ (Jp g _ _ x b h).1 ((e.pre j).snoc i) d
  .rename_i f;rw[jQ f];exact e
def Pc(a:List FS)(b:List RF):Prop:=∀k,k<a.length->∃f,f∈b/\La a f.cT k
theorem PC{b:List Tk}(h:(tokAt b (b.length-1)).sort=0):∀(m:Nat) (x:St) (a:List FS) (c:List RF),IA b.length x a.length->Pc a c->(Cn b (2*b.length) m x a c).2.1.cL=Z->Pc (Cn b (2*b.length) m x a c).2.2 (Cn b (2*b.length) m x a c).1
 |0,x,a,c,_,e,_=>e
 |m+1,x,a,c,i,e,d=>by
  rw[Cn]at d⊢;split at d
  .rename_i g;rw[jR g];have n:(GL b (2*b.length) c.length x a).2.1.cL=Z:=Classical.byContradiction (fun q=>Pz m _ _ _ q d);obtain⟨_,j,l⟩:=SZ h c.length x a i n;refine PC h m _ _ _ (Jp h _ _ x a i).1 (fun k p=>?_) d;rcases jG k a.length with q|q
   .obtain⟨f,o,r⟩:=e k q;exact⟨f,List.mem_append_left _ o,r.pre j⟩
   .exact⟨_,kD _ (iL.2 rfl),l k q p⟩
  .rename_i g;rw[jQ g];exact e
theorem Tq{e:Nat}{g:List FS}:∀(l:List RF) (a:List TF) (k c b o d:Nat),l.length=a.length->(∀j (h:j<l.length) (m:j<a.length),CQ (Dw (k+j) 4000 g) l[j].cT a[j].cP)->Ja e g l c b o d->
 ∀i (h:i<l.length) (m:i<a.length),TK g (k+i) a[i].cP l[i].cT (c+sK 1 a i) (b+sK 8 a i)
 |[],_,_,_,_,_,_,_,_,_,i,h,_=>by simp at h
 |f::l,[],_,_,_,_,_,n,_,_,_,_,_=>by simp at n
 |f::l,t::a,k,c,b,o,d,n,r,u,i,h,m=>by
  obtain⟨x,s,v,w⟩:=u;have p:=r 0 (by simp) (by simp);simp only[iN,iH]at p;obtain⟨z,B,C⟩:=Nr 4000 e f.cT t.cP c b x s p v;subst B C;cases i with
  |zero=>simpa[sK]using z
  |succ i=>
   have I:=Tq l a (k+1) (c+nL 1 t.cP) (b+nL 8 t.cP) o d (by simpa using n) (fun j q y=>by have:=r (j+1) (by simpa using q) (by simpa using y);simp only[jH]at this;rw[show k+1+j=k+(j+1) by omega];exact this) w i (by simpa using h) (by simpa using m)
   rw[show k+1+i=k+(i+1) by omega]at I;simp only[jH,sK,jI,iU,jC]at I⊢;rw[<-Nat.add_assoc c,<-Nat.add_assoc b];exact I
theorem Qk{e:Nat}{p:List FS}:∀(l:List RF) (a:List TF) (k i c m d:Nat),l.length=a.length->(∀j (h:j<l.length) (x:j<a.length),CQ (Dw (k+j) 4000 p) l[j].cT a[j].cP)->Ja e p l i c m d->m=i+(a.map fun t=>nL 1 t.cP).sum/\d=c+(a.map fun t=>nL 8 t.cP).sum
 |[],[],_,_,_,_,_,_,_,g=>⟨g.1,g.2⟩
 |[],_::_,_,_,_,_,_,b,_,_=>by simp at b
 |_::_,[],_,_,_,_,_,b,_,_=>by simp at b
 |f::l,t::a,k,i,c,m,d,b,r,g=>by
  obtain⟨s,o,u,v⟩:=g;have n:=r 0 (by simp) (by simp);simp only[iN,iH]at n;obtain⟨_,y,z⟩:=Nr 4000 e f.cT t.cP i c s o n u;have I:=Qk l a (k+1) s o m d (by simpa using b) (fun j q w=>by have:=r (j+1) (by simpa using q) (by simpa using w);simp only[jH]at this;rw[show k+1+j=k+(j+1) by omega];exact this) v
  simp only[iU,jC];omega
theorem QB{a c b}(f:TQ 4000 a c b)(k:∀t,t∈b->∀s,s∈t.cP->Rd 4000 s)(h:(BK a 4000 b 0 (a,⟨0,0⟩)).2.cS=0)(i)(g:i<(BK a 4000 b 0 (a,⟨0,0⟩)).1.length)(j:i<a.length):(BK a 4000 b 0 (a,⟨0,0⟩)).1[i].cT=a[i].cT:=by obtain⟨d,e⟩:=Jq f;obtain⟨m,n,o,l⟩:=Lj d e b 0 (a,⟨0,0⟩) k h;exact(l i g j).2.2.1
theorem ZR{b:List RF}{l:List FS}{a:List TF}{e p c:Nat}(d:GoodP a)(g:TQ 4000 b l a)(m:∀t,t∈a->∀s,s∈t.cP->Rd 4000 s)(h:(BK b 4000 a 0 (b,⟨0,0⟩)).2.cS=0)(x:Ja e l b 0 0 p c):RuS (fnN a) (paN a) (xfR a 0 0) (BK b 4000 a 0 (b,⟨0,0⟩)).1 l:=by
 have R:=Ms g m h;have r:=QB g m h;have u:=g.len;have N:=Tq b a 0 0 0 p c u (fun j q y=>by rw[iY];exact(g.fr j q y).cT) x;generalize (BK b 4000 a 0 (b,⟨0,0⟩)).1=C at*;have w:=R.len;have B:=d.dW.dC;refine⟨⟨?_,by omega,fun i=>?_,fun i j=>?_,fun i v=>?_,d.fX.dC⟩,d.fX,fun f k=>?_,fun f k=>?_,fun f k=>?_,g.fZ⟩
 .apply jL
  .simp[fnN,w]
  .intro i n o;simp only[jE,fnN];rw[R.name i (by simpa using n) (by simpa[fnN]using o)];rfl
 .unfold V7 fnN;rw[iV];by_cases q:i<a.length
  .rw[gV q];exact(d.fJ _ (iA q)).1.2
  .rw[iS (by omega)];decide
 .unfold bF;by_cases q:i<a.length
  .rw[Fw a i q];simp only;by_cases z:j<(CY a[i]).length
   .rw[gV z];exact(d.var q (iA _)).2
   .rw[iS (by omega)];decide
  .rw[Ij a i q];simp only[List.getElem?_nil,Option.getD_none];decide
 .rw[R.t8 i v (by omega),Fw a i (by omega)]
 .rw[Fw a f (by omega),r f k (by omega)];have:=N f (by omega) (by omega);simpa using this
 .rw[Fw a f (by omega)];have:=d.fW (iA (show f<a.length by omega));simp only;omega
 .rw[R.cQ f k (by omega),iT,Fw a f (by omega)]
def XO(M:Nat)(u:FS):Prop:=u.p.d9.size<=M/\u.q.d9.size<=M/\∀t,t∈u.args->t.d9.size<=M
def Pb(M:Nat)(a:List FS):Prop:=∀u,u∈a->XO M u
section
variable{toks:List Tk}{M:Nat}(d:∀i,(tokAt toks i).d9.size<=M)
theorem bG(M a:Nat)(b:Int):XO M (CC a b):=⟨iF _,iF _,fun _ q=>(iR q).elim⟩
include d
theorem Wf(k:Nat)(x:St):(Bo toks k x).1.d9.size<=M:=by
 unfold Bo Dl;split
 .exact d _
 .exact iF _
theorem Wv:∀(f c:Nat) (b:Option Nat) (a:List Tk),(∀t,t∈a->t.d9.size<=M)->∀t,t∈(DN toks f c b a).1->t.d9.size<=M
 |0,c,b,a,h=>by unfold DN;exact h
 |f+1,c,b,a,h=>by
  unfold DN;split
  .exact Wv f (c+1) b _ fun t e=>(iW.1 e).elim (h t) fun q=>by rw[iL.1 q];exact d _
  .exact h
theorem YA(x:St):∀t,t∈(Cb toks x).1->t.d9.size<=M:=by unfold Cb CU;exact Wv d _ _ _ _ fun _ q=>(iR q).elim
theorem ZY(x:St)(s:FS)(h:XO M s):XO M (Dd toks x s).1:=by
 have b:=fun k y=>Wf d k y
 have L:=fun y=>YA d y
 obtain⟨a,e,c⟩:=h;unfold Dd;split
 .exact⟨a,e,c⟩
 .split
  .simp only;split
   .exact⟨a,b _ _,c⟩
   .exact⟨a,b _ _,c⟩
  .split
   .exact⟨a,b _ _,c⟩
   .split
    .exact⟨a,b _ _,c⟩
    .split
     .exact⟨a,b _ _,L _⟩
     .simp only;split
      .exact⟨a,b _ _,L _⟩
      .exact⟨a,b _ _,c⟩
theorem WI(b:Nat)(x:St):XO M (Bc toks b x).1:=by
 have a:=fun k y=>Wf d k y
 have N:∀t:Tk,t∈([]:List Tk)->t.d9.size<=M:=fun _ q=>(iR q).elim
 unfold Bc;split
 .exact⟨a _ _,iF _,N⟩
 .split
  .exact⟨iF _,a _ _,N⟩
  .split
   .exact⟨a _ _,a _ _,N⟩
   .exact ZY d _ _ ⟨a _ _,iF _,N⟩
omit d in
theorem Pb.set{a:List FS}(h:Pb M a)(i:Nat){u:FS}(b:XO M u):Pb M (a.set i u):=fun v c=>(List.mem_or_eq_of_mem_set c).elim (h v) fun q=>by rw[q];exact b
omit d in
theorem Pb.snoc{a:List FS}(h:Pb M a):Pb M (a++[CC 0 0]):=fun v b=>(iW.1 b).elim (h v) fun q=>by rw[iL.1 q];exact bG _ _ _
theorem Zu:∀f:Nat,(∀(e:Nat) (x:St) (g:List FS) (n:List Nat),Pb M g->Pb M (AA toks f e x g n).2.2)/\(∀(e:Nat) (x:St) (g:List FS),Pb M g->Pb M (AK toks f e x g).2.2):=by
 intro f;induction f with
 |zero=>exact⟨fun e x g n h=>by rw[AA];exact h,fun e x g h=>by rw[AK];exact h⟩
 |succ f i=>
  have j:∀(e k:Nat) (b c:Int) (l m:List Nat),XO M {CC e (-1)with kind:=k,br:=b,cT:=l,dR:=c,other:=m}:=fun _ _ _ _ _ _=>⟨iF _,iF _,fun _ q=>(iR q).elim⟩
  refine⟨fun e x g n h=>?_,fun e x g h=>?_⟩
  .rw[AA];split
   .exact h
   .exact i.1 _ _ _ _ (i.2 _ _ _ h)
  .rw[AK];split
   .simp only;have a:=i.1 e (Aw toks [123] (Aw toks [63] (Aw toks (AG (tokAt toks x.cJ)) x))) (g++[CC 0 0]) [] h.snoc;split
    .split
     .exact(i.1 e _ _ [] a).set _ (j _ _ _ _ _ _)
     .exact a.set _ (j _ _ _ _ _ _)
    .exact a.set _ (j _ _ _ _ _ _)
   .exact h.snoc.set _ (WI d _ _)
theorem Wa(F:Nat):∀(m:Nat) (x:St) (a:List FS) (b:List RF),Pb M a->Pb M (Cn toks F m x a b).2.2
 |0,x,a,b,h=>h
 |m+1,x,a,b,h=>by
  rw[Cn];split
  .exact Wa F m _ _ _ ((Zu d F).1 _ _ _ _ h)
  .exact h
end
theorem Rx{B w e d}(h:Cw B w e d)(f:0<d.length):B<=w.heap.size:=by obtain⟨_,b,_⟩:=h;obtain⟨a,l,c,rfl⟩:=Ad b;obtain⟨g,rfl⟩:=Ap b f;have:=b.lt g rfl;omega
def bQ(b:List RF)(a:List TF):Prop:=∀i (h:i<b.length) (c:i<a.length),b[i].cQ=a[i].u9.map Ao
theorem Ss(F a0)(hF:Cj F a0)(s)(hm:s.size<=maxLen):
 (∃f p:Nat,f≠0/\(∀w,Below F a0 w->F<=w.heap.size->Calls prog 13 #[.string s] w fun e r=>e=.returned (.tuple #[Y Z 0 0,Vt,G A f,G A p])/\Below w.heap.size w r)/\
   (∀w,Calls prog 9 #[.string s] w fun e r=>e=.returned (.tuple #[.pointer Z,Y Z 0 0,G A f,G A p])/\Below w.heap.size w r))\/
 (∃(d:List TF) (m:List RF) (C:List FS) (z:Nat),GoodP d/\(∀t,t∈d->∀u,u∈t.cP->OZ 4000 u)/\(RuS (fnN d) (paN d) (xfR d 0 0) m C/\Pc C m/\Pb 4000 C/\bQ m d)/\
   (∀w,Below F a0 w->F<=w.heap.size->Calls prog 13 #[.string s] w fun e r=>∃(g n H:Nat) (a:Option Addr) (l c:Nat) (U:Nat->Prop),e=.returned (.tuple #[Y (T ⟨g,0,Z⟩) n H,.agg #[Y a l c,G A z],G A 0,G A 0])/\DM 4000 U r (Y a l c) d/\(∀k,U k->k<r.heap.size)/\Below w.heap.size w r)/\
   (∀w,Calls prog 9 #[.string s] w fun e r=>∃(pb B g n H:Nat) (U:Nat->Prop) (fv sv:Value) (p0 c0:Nat),e=.returned (.tuple #[.pointer (T ⟨pb,0,Z⟩),Y (T ⟨g,0,Z⟩) n H,G A 0,G A 0])/\Pe pb B U fv sv m C p0 c0 r/\w.heap.size<=pb/\w.heap.size<=B/\B<=r.heap.size/\Below w.heap.size w r/\p0=(d.map fun t=>nL 1 t.cP).sum/\c0=(d.map fun t=>nL 8 t.cP).sum)):=by
 by_cases h4:4000<s.size
 .refine .inl ⟨1,0,by decide,fun w _ _=>Nt s h4 hm w,fun w=>(YL s h4 hm w).mono ?_⟩;rintro e r ⟨rfl,rfl⟩;exact⟨rfl,Below.refl _ _⟩
 have v:s.size<=4000:=by omega
 cases P:AF s s.size 0 x0 with
 |inl p=>
  have hl:BD s s.size 0 []=.inl p:=by rw[KD];have h':AF s s.size 0 ⟨[],false,0,0⟩=.inl p:=P;rw[h'];rfl
  refine .inl ⟨2,p,by decide,fun w _ _=>JK s p v P w,fun w=>(He s v w 0 [] (fun l h=>by rw[hl]at h;cases h)).mono ?_⟩;intro e r o;unfold Mr at o;rw[hl]at o;exact o
 |inr y=>
  have K:=PR v P;have hz:=K.ok.end_;obtain⟨d,z,x,L⟩:∃a b c,Cp (Av s y) (Av s y).length ⟨0,false,0⟩=(a,b,c):=⟨_,_,_,rfl⟩;obtain⟨m,yy,C,hR⟩:∃a b c,Cn ((Av s y).map Ao) (2*(Av s y).length) (Av s y).length ⟨0,Z,0,0⟩ [] []=(a,b,c):=⟨_,_,_,rfl⟩;obtain⟨p1,p2⟩:=NJ K.ok K.gF v K.len d z x L m yy C hR
  have X:K6 s ((Dj s s.size y).cV.map Ao)=(m,yy,C):=by unfold K6;rw[UO,K.dQ];exact hR
  cases V:x.cR with
  |true=>
   have b2:=p1 V;refine .inl ⟨3,x.dH,by decide,fun w hG I=>Hc F a0 hF s y v P d z x L V w hG I hz,fun w=>(He s v w 0 [] (fun l h=>by rw[K.lex]at h;cases h;rw[X];intro q;simp only at q;rw[b2]at q;cases q)).mono ?_⟩
   intro e r o;unfold Mr at o;rw[K.lex]at o;simp only[X,b2]at o;exact o
  |false=>
   obtain⟨q1,E,q3,q4,q5⟩:=p2 V;have a1:∀t,t∈d->∀u,u∈t.cP->Rd 4000 u:=fun t ht u hu=>by obtain⟨_,_,q⟩:=(NK K.ok v K.len d z x L V).2.2.1 t ht u hu;exact q.shp
   have hA:UN s ((Dj s s.size y).cV.map Ao) 4000 d=BK m 4000 d 0 (m,⟨0,0⟩):=by unfold UN;rw[X]
   have hC:WR s ((Dj s s.size y).cV.map Ao) 4000 d=Im d 4000 z:=by unfold WR;rw[hA,X];exact q5.symm
   have rd:∀w,Calls prog 9 #[.string s] w fun e r=>Iw w s ((Dj s s.size y).cV.map Ao) (BK m 4000 d 0 (m,⟨0,0⟩)).1 C yy (Im d 4000 z) e r:=by
    intro w;refine(He s v w 4000 d (fun l h=>by rw[K.lex]at h;cases h;rw[X];intro _;exact E)).mono ?_
    intro e r o;unfold Mr at o;rw[K.lex]at o;simp only[X,q1,hA,hC]at o;exact o
   by_cases R:(Im d 4000 z).cS=0
   .right;have a2:=V0 (rf:=m) (N:=s.size) (c:=(BK m 4000 d 0 (m,⟨0,0⟩)).2) (by rw[<-q5];exact R);have a8:bM d:=Zw (Jq E).1 (Jq E).2 a1 (N:=s.size) (by rw[<-q5];exact R);obtain⟨s1,s2⟩:=WM K.ok v K.len d z x L V
    have b8:=Sf (s:=s) (y:=y) P;have a7:GoodP d:=⟨a8,s1,s2,by have:=WK (toks:=Av s y) (Q:=fun b=>Vo b/\b.size<=4000) (fun t ht S=>⟨b8 t ht S,iG (K.ok.len t ht).1 v⟩) ⟨Mb,by decide⟩ (Av s y).length ⟨0,false,0⟩;rw[L]at this;exact this⟩
    have b3:(tokAt ((Av s y).map Ao) (((Av s y).map Ao).length-1)).sort=0:=by rw[iT,Bs];simp[Ao,K.ok.end_,CW]
    have a3:=PE b3 (Av s y).length ⟨0,Z,0,0⟩ [] [] ⟨by rw[iT];exact K.ok.pos,iF _,iF _,iF _,fun _=>⟨gS _,gS _,gS _⟩⟩ ⟨rfl,rfl⟩;rw[iT,hR]at a3;have a9:=PC b3 (Av s y).length ⟨0,Z,0,0⟩ [] [] ⟨by rw[iT];exact K.ok.pos,iF _,iF _,iF _,fun _=>⟨gS _,gS _,gS _⟩⟩ (fun k S=>jY S (Nat.not_lt_zero k));rw[iT,hR]at a9;have a6:=Qk m d 0 0 0 _ _ E.len (fun j a b=>by rw[iY];exact(E.fr j a b).cT) (a3 q1);rw[iY,iY]at a6;have a5:=ZR a7 E a1 a2.1 (a3 q1);have b4:=QB E a1 a2.1;have b9:Pb 4000 C:=by
     have:=Wa (toks:=(Av s y).map Ao) (M:=4000) (fun i=>by rw[Bs];exact iG (Km K.ok _).1 v) (2*(Av s y).length) (Av s y).length ⟨0,Z,0,0⟩ [] [] (fun _ q=>(iR q).elim)
     rw[hR]at this;exact this
    have c1:=a5.h.eN;have b5:Pc C (BK m 4000 d 0 (m,⟨0,0⟩)).1:=fun k S=>by
     obtain⟨f,hf,hr⟩:=a9 q1 k S;obtain⟨i,hi,rfl⟩:=iP.1 hf;have b1:i<(BK m 4000 d 0 (m,⟨0,0⟩)).1.length:=by rw[(Ms E a1 a2.1).len,<-E.len];exact hi
     exact⟨_,iA b1,by rw[b4 i b1 hi];exact hr⟩
    refine⟨d,_,C,z,a7,fun t ht=>(q3.each t ht).2.1,⟨a5,b5,b9,(Ms E a1 a2.1).cQ⟩,fun w hG I=>?_,fun w=>?_⟩
    .refine(KL F a0 hF s y v P d z x L V w hG I hz 4000 q4 q3 _ rfl R).mono ?_;rintro e r ⟨g,H,a,l,c,U,rfl,_,_,a4,hu,hb⟩;exact⟨g,_,H,a,l,c,U,rfl,a4,fun k S=>(hu k S).2,hb⟩
    .refine(rd w).mono ?_;intro e r o;unfold Iw at o;rw[jR R]at o;obtain⟨pb,B,g,H,U,fv,sv,rfl,_,_,a4,b6,b0,I,b7,hb⟩:=o;have h0:0<(BK m 4000 d 0 (m,⟨0,0⟩)).1.length:=by have h1:=a5.h.eN;have h2:=a8.main;have h3:0<(fnN d).length:=List.length_pos_of_mem h2;omega
     exact⟨pb,B,g,_,H,U,fv,sv,_,_,rfl,⟨a4,b0,b7⟩,b6,I,Rx b0 h0,hb,a6.1,a6.2⟩
   .refine .inl ⟨_,_,R,fun w hG I=>JI F a0 hF s y v P d z x L V w hG I hz 4000 q4 q3 _ rfl R,fun w=>(rd w).mono ?_⟩;intro e r o;unfold Iw at o;rw[jQ R]at o;exact o
theorem O.grow{X:Nat->Prop}(w b):O X w (grow w b):=
 ⟨rfl,rfl,rfl,by simp,fun k a _=>heap_grow_old _ _ a⟩
theorem aT(w)(a:Lib.TabIs prog w "internal/strconv.uint64pow10" .u64 Lib.pow10Tab):ItOk w:=by
 intro n b i f;have h:Lib.TabIs prog b "internal/strconv.uint64pow10" .u64 Lib.pow10Tab:=by
  unfold Lib.TabIs World.var? at a⊢;cases c:Tryz.prog.globalNamed "internal/strconv.uint64pow10" with
  |none=>rw[c]at a;cases a
  |some g=>
   rw[c]at a;simp only[Option.bind_some]at a⊢;have d:g<w.heap.size:=by
    rcases jG g w.heap.size with q|q
    .exact q
    .rw[Array.getElem?_eq_none q]at a;cases a
   rw[f.block g d id];exact a
 refine(Tryz.strconv_Itoa (n:Int) (by omega) (by omega) b h).mono ?_;rintro e l ⟨rfl,k,j,rfl⟩;refine⟨?_,((O.refl _ b).drewN k).trans (O.grow _ _)⟩;have:Lib.itoa (n:Int)=Lib.decDigits n:=by unfold Lib.itoa;simp
 rw[this];rfl
theorem ZU:Y8:=by
 intro B g c l i M U;obtain⟨V,L⟩:=M;rcases L with⟨q,_⟩|⟨S,Q,R,q,H,o,j,m,C,E⟩
 .cases q
 cases q;have P:(l.map (fun b=>b.data.toList)).map encStr=l.map Value.string:=by rw[List.map_map];exact List.map_congr_left (fun b _=>by simp[encStr])
 have f:(l.map (fun b=>b.data.toList)).length=l.length:=by simp
 have F:Holds encStr i g 0 (l.map (fun b=>b.data.toList)).toArray:=holds_of_block o (by rw[f,P];simpa using E);have I:g<i.heap.size:=lt_of_block o;have t:=Tryz.slices_Sort_string g 0 c (l.map (fun b=>b.data.toList)) i F I (by rw[f];omega);rw[f]at t;refine t.mono ?_;rintro e X ⟨rfl,n,u,rfl⟩;obtain⟨d,r⟩:∃d,(l.map (fun b=>b.data.toList)).mergeSort (fun x y=>decide (x<=y))=d:=⟨_,rfl⟩;have p:d.Perm (l.map (fun b=>b.data.toList)):=by rw[<-r];exact List.mergeSort_perm _ _
 have N:d.Pairwise (fun x y=>decide (x<=y)=true):=by rw[<-r];exact List.pairwise_mergeSort (fun a b c j m=>by simp only[jN]at*;exact List.le_trans j m) (fun a b=>by simp only[Bool.or_eq_true,jN];exact List.le_total a b) _
 rw[r];refine⟨rfl,d.map (fun s=>⟨s.toArray⟩),?_,?_,?_,O.grown (O.refl _ i) (grownBy_sorted _) (fun k K=>by cases K;exact .inl rfl)⟩
 .have h:=ownsRow_sorted (w:=i) (base:=B) (n:=n) (os:=u) (ts:=d) (ss:=l.map (fun b=>b.data.toList)) p.length_eq H o (by rw[f];exact j) m C;rw[f]at h;unfold Au;have v:(d.map (fun s=>(⟨s.toArray⟩:ByteArray))).length=l.length:=by rw[iT,p.length_eq,f]
  have z:(d.map (fun s=>(⟨s.toArray⟩:ByteArray))).map Value.string=d.map encStr:=by rw[List.map_map];rfl
  rw[v,z];exact h
 .have h:=p.map (fun s=>(⟨s.toArray⟩:ByteArray));rw[List.map_map]at h;have e:l.map ((fun s=>(⟨s.toArray⟩:ByteArray)) ∘ fun b=>b.data.toList)=l:=by
   conv=>rhs;rw[<-List.map_id l]
   exact List.map_congr_left (fun b _=>by simp)
  rw[e]at h;exact h
 .rw[List.pairwise_map];refine N.imp (fun{a b} h=>?_);simp only[jN]at h;unfold GM;simp only[decide_eq_false_iff_not];exact h

/- Part of the proof: LsA LsB LsC LsD LsE LsF LsG LsH LsV LsX LsY. -/
import Derived.Test.YtaningfhibkemaaGreatDoorG28
import Derived.Laws.BytesArg
set_option maxRecDepth 100000
set_option maxHeartbeats 2000000
namespace Go.Proofs.YtaningfhibkemaaGreatDoor
open Go.Proofs.Tryz Go.RowKit
open Option renaming none->Z,some->T
open Value renaming int->G,slice->Y
open IntKind renaming i64->A
mutual
def Ov:TS->Nat->Nat->List (VS×Nat×Nat)
 |.mk s [],pl,ca=>[(s,pl,ca)]
 |.mk _ [(_,ts)],pl,ca=>MR ts pl ca
 |.mk _ ((_,ts)::(_,ts2)::_),pl,ca=>MR ts pl ca++MR ts2 (pl+nL 1 ts) (ca+nL 8 ts)
def MR:List TS->Nat->Nat->List (VS×Nat×Nat)
 |[],_,_=>[]
 |t::ts,pl,ca=>Ov t pl ca++MR ts (pl+nK 1 t) (ca+nK 8 t)
end
structure bI(d:List FS)(m:Nat)(x:VS×Nat×Nat)(u:FS):Prop where
 sc:SC x.1 u m
 pl:x.1.kind=1->u.l7=x.2.1+1
 ca:x.1.kind=8->u.l7=x.2.2+1
section
variable{d:List FS}{m:Nat}
mutual
theorem aS:∀(t:TS) (i pl ca:Nat),FN d m t i pl ca->∀x,x∈Ov t pl ca->∃(j:Nat) (u:FS),d[j]? =T u/\bI d m x u
 |.mk s [],i,pl,ca,h,x,hx=>by obtain⟨u,h1,h2,h3,h4⟩:=h;rw[Ov,iL]at hx;subst hx;exact⟨i,u,h1,h2,h3,h4⟩
 |.mk s [(_,ts)],i,pl,ca,h,x,hx=>by obtain⟨u,_,_,_,_,h5⟩:=h;rw[Ov]at hx;exact LV ts _ pl ca h5 x hx
 |.mk s [(_,ts),(_,ts2)],i,pl,ca,h,x,hx=>by
  obtain⟨u,_,_,_,_,h5,h6⟩:=h;rw[Ov]at hx;rcases iW.1 hx with q|q
  .exact LV ts _ pl ca h5 x q
  .exact LV ts2 _ _ _ h6 x q
 |.mk _ (_::_::_::_),_,_,_,h,_,_=>h.elim
theorem LV:∀(ts:List TS) (l:List Nat) (pl ca:Nat),TK d m ts l pl ca->∀x,x∈MR ts pl ca->∃(j:Nat) (u:FS),d[j]? =T u/\bI d m x u
 |[],_,_,_,_,x,hx=>by rw[MR]at hx;cases hx
 |t::ts,l,pl,ca,h,x,hx=>by
  obtain⟨j,l',_,h1,h2⟩:=h;rw[MR]at hx;rcases iW.1 hx with q|q
  .exact aS t j pl ca h1 x q
  .exact LV ts l' _ _ h2 x q
end
theorem GZ:∀(f:List TS) (l:List Nat) (e a:Nat),TK d m f l e a->∀k,k∈l->∃t p c,FN d m t k p c/\∀x,x∈Ov t p c->x∈MR f e a
 |[],_,_,_,h,k,b=>by have h:_=[]:=h;rw[h]at b;cases b
 |t::f,l,e,a,h,k,b=>by
  obtain⟨j,s,rfl,o,r⟩:=h;rw[MR];rcases jJ.1 b with rfl|q
  .exact⟨t,e,a,o,fun x g=>List.mem_append_left _ g⟩
  .obtain⟨u,p,c,i,n⟩:=GZ f s _ _ r k q;exact⟨u,p,c,i,fun x g=>kD _ (n x g)⟩
theorem Zi{I:List TS}{l:List Nat}{H C:Nat}(h:TK d m I l H C){k:Nat}(P:La d l k):∃t p c,FN d m t k p c/\∀x,x∈Ov t p c->x∈MR I H C:=by
 induction P with
 |root q=>exact GZ I l H C h _ q
 |@cT j k u _ f N g F=>
  obtain⟨t,p,c,a,b⟩:=F;match t,a,b with
  |.mk s [],a,_=>
   obtain⟨B,e,w,_⟩:=a;rw[f]at e;cases e;have:=w.kind;have:=w.dC;have:DB s.kind<=11:=by
    unfold DB;repeat' split
    all_goals omega
   omega
  |.mk s [(_,z)],a,b=> obtain⟨B,e,_,_,_,E⟩:=a;rw[f]at e;cases e;obtain⟨y,v,i,o,r⟩:=GZ z _ p c E _ g;exact⟨y,v,i,o,fun x n=>b x (by rw[Ov];exact r x n)⟩
  |.mk s [(_,z),(_,K)],a,b=> obtain⟨B,e,_,_,_,E,_⟩:=a;rw[f]at e;cases e;obtain⟨y,v,i,o,r⟩:=GZ z _ p c E _ g;exact⟨y,v,i,o,fun x n=>b x (by rw[Ov];exact List.mem_append_left _ (r x n))⟩
  |.mk _ (_::_::_::_),a,_=>exact a.elim
 |@other j k u _ f N g F=>
  obtain⟨t,p,c,a,b⟩:=F;match t,a,b with
  |.mk s [],a,_=>
   obtain⟨B,e,w,_⟩:=a;rw[f]at e;cases e;have:=w.kind;have:=w.dC;have:DB s.kind<=11:=by
    unfold DB;repeat' split
    all_goals omega
   omega
  |.mk s [(_,z)],a,_=> obtain⟨B,e,_,_,L,_⟩:=a;rw[f]at e;cases e;rw[L]at g;cases g
  |.mk s [(_,z),(_,K)],a,b=> obtain⟨B,e,_,_,_,_,M⟩:=a;rw[f]at e;cases e;obtain⟨y,v,i,o,r⟩:=GZ K _ _ _ M _ g;exact⟨y,v,i,o,fun x n=>b x (by rw[Ov];exact kD _ (r x n))⟩
  |.mk _ (_::_::_::_),a,_=>exact a.elim
end
theorem Zx{fn:List ByteArray}{par:List Nat}{X:List XF}{j:List RF}{d:List FS}(S:RuS fn par X j d)(C:Pc d j){k:Nat}{u:FS}(h:d[k]? =T u):(u.kind=12\/u.kind=13)\/∃f x,f<j.length/\x∈MR (CK X f).cP (CK X f).pl (CK X f).ca/\bI d f x u:=by
 obtain⟨g,q,r⟩:=C k (List.getElem?_eq_some_iff.1 h).1;obtain⟨f,l,rfl⟩:=iP.1 q;obtain⟨t,p,c,a,i⟩:=Zi (S.cT f l) r;match t,a,i with
 |.mk s [],a,i=> obtain⟨n,e,v,b,o⟩:=a;rw[h]at e;cases e;exact .inr ⟨f,(s,p,c),l,i _ (by rw[Ov];exact iL.2 rfl),v,b,o⟩
 |.mk s [(_,w)],a,_=> obtain⟨n,e,_,b,_⟩:=a;rw[h]at e;cases e;omega
 |.mk s [(_,w),(_,y)],a,_=> obtain⟨n,e,_,_,b,_⟩:=a;rw[h]at e;cases e;exact .inl (.inl b)
 |.mk _ (_::_::_::_),a,_=>exact a.elim
structure Pf(fn V:List ByteArray)(xs:List (VS×Nat×Nat))(l:List Be):Prop where
 of:∀u,u∈l->(u.kind=11\/u.kind=12)\/∃x,x∈xs/\Eo fn V x.1 u x.2.1 x.2.2
 back:∀x,x∈xs->∃u,u∈l/\Eo fn V x.1 u x.2.1 x.2.2
theorem Eo.upd{fn V s u e c}(h:Eo fn V s u e c)(a b:Nat):Eo fn V s {u with next:=a,taken:=b} e c:=⟨h.kind,h.cY,h.func,h.cM,h.field,h.l7,h.call,h.args⟩
theorem YC{l:List Be}{i:Nat}{f:Be->Be}{t:Be}(h:t∈l):t∈l.modify i f\/f t∈l.modify i f:=by
 obtain⟨j,b,e⟩:=iP.1 h;by_cases a:i=j
 .refine .inr (iP.2 ⟨j,by simpa using b,?_⟩);rw[List.getElem_modify,jR a,e]
 .refine .inl (iP.2 ⟨j,by simpa using b,?_⟩);rw[List.getElem_modify,jQ a,e]
theorem Pf.mod{fn V g l}(h:Pf fn V g l)(i:Nat){f:Be->Be}(c:∀u,∃a b,f u={u with next:=a,taken:=b}):Pf fn V g (l.modify i f):=by
 refine⟨fun u j=>?_,fun x k=>?_⟩
 .rcases IP j with q|⟨v,q,rfl⟩
  .exact h.of u q
  .obtain⟨a,b,e⟩:=c v;rw[e];rcases h.of v q with r|⟨x,n,o⟩
   .exact .inl r
   .exact .inr ⟨x,n,o.upd a b⟩
 .obtain⟨u,q,r⟩:=h.back x k;rcases YC (i:=i) (f:=f) q with z|z
  .exact⟨u,z,r⟩
  .obtain⟨a,b,e⟩:=c u;exact⟨_,z,by rw[e];exact r.upd a b⟩
theorem Pf.snoc{fn V a l u}(h:Pf fn V a l)(b:u.kind=11\/u.kind=12):Pf fn V a (l++[u]):=by
 refine⟨fun v c=>?_,fun x e=>?_⟩
 .rcases iW.1 c with q|q
  .exact h.of v q
  .rw[iL.1 q];exact .inl b
 .obtain⟨v,q,r⟩:=h.back x e;exact⟨v,List.mem_append_left _ q,r⟩
theorem Pf.one{fn V b l u}{x:VS×Nat×Nat}(h:Pf fn V b l)(a:Eo fn V x.1 u x.2.1 x.2.2):Pf fn V (b++[x]) (l++[u]):=by
 refine⟨fun v c=>?_,fun y e=>?_⟩
 .rcases iW.1 c with q|q
  .rcases h.of v q with r|⟨y,i,j⟩
   .exact .inl r
   .exact .inr ⟨y,List.mem_append_left _ i,j⟩
  .rw[iL.1 q];exact .inr ⟨x,kD _ (iL.2 rfl),a⟩
 .rcases iW.1 e with q|q
  .obtain⟨v,f,g⟩:=h.back y q;exact⟨v,List.mem_append_left _ f,g⟩
  .rw[iL.1 q];exact⟨u,kD _ (iL.2 rfl),a⟩
section
variable{fn:List ByteArray}{par:List Nat}{V:List ByteArray}
mutual
theorem Td:∀(t:TS) (a:Nat) (b:Bd) (xs),XW fn par t b.cH->(∃more,V=b.cH++dS t++more)->Pf fn V xs b.r9->Pf fn V (xs++Ov t b.pl b.ca) (Dx fn t a b).r9
 |.mk s [],a,b,xs,ho,hV,h=>by obtain⟨more,rfl⟩:=hV;rw[Dx,Ov,A6];refine h.one (x:=(s,b.pl,b.ca)) ?_;rw[jU];exact NQ ho.2 a _
 |.mk s [(_,ts)],a,b,xs,ho,hV,h=>by
  obtain⟨hk,ho⟩:=ho;obtain⟨n1,n2,n3⟩:=D8 fn s a b hk;have h1:Pf fn V xs (Ar fn s a b).r9:=by rw[A6];exact h.snoc hk
  have hV':∃more,V=(Ar fn s a b).cH++dL ts++more:=by obtain⟨more,rfl⟩:=hV;rw[n1];exact⟨more,by simp only[dS,dB,show¬s.kind=0 by omega,if_false,jO,iZ]⟩
  rw[Dx,Ov];have I:=fun a'=>Jx ts a' (Ar fn s a b) xs (by rw[n1];exact ho) hV' h1
  rw[n2,n3]at I;split
  .exact(I _).mod _ fun u=>⟨u.next,_,rfl⟩
  .split
   .exact(I _).mod _ fun u=>⟨u.next,_,rfl⟩
   .omega
 |.mk s [(_,ts),(_,ts2)],a,b,xs,ho,hV,h=>by
  obtain⟨hk,ho,ho2⟩:=ho;obtain⟨n1,n2,n3⟩:=D8 fn s a b (.inl hk);have h1:Pf fn V xs (Ar fn s a b).r9:=by rw[A6];exact h.snoc (.inl hk)
  obtain⟨more,hV⟩:=hV;have e:V=(Ar fn s a b).cH++dL ts++(dL ts2++more):=by rw[hV,n1];simp only[dS,dB,show¬s.kind=0 by omega,if_false,jO,iZ,jU]
  have I:=Jx ts a (Ar fn s a b) xs (by rw[n1];exact ho) ⟨_,e⟩ h1;have R:=DT (fn:=fn) (par:=par) ts a (Ar fn s a b) (by rw[n1];exact ho);rw[Dx,Ov,jR hk];simp only;have I2:=Jx ts2 a ((AU fn ts a (Ar fn s a b)).tk b.r9.length (AN ts a (Ar fn s a b))) _ (by
   show ID fn par ts2 (AU fn ts a (Ar fn s a b)).cH;rw[R.cH,n1];exact ho2) ⟨more,by
   show V=(AU fn ts a (Ar fn s a b)).cH++_++_;rw[R.cH,jU _ (dL ts2)];exact e⟩ (I.mod _ fun u=>⟨u.next,_,rfl⟩)
  have e1:((AU fn ts a (Ar fn s a b)).tk b.r9.length (AN ts a (Ar fn s a b))).pl=b.pl+nL 1 ts:=by show(AU fn ts a (Ar fn s a b)).pl=_;rw[R.pl,n2]
  have e2:((AU fn ts a (Ar fn s a b)).tk b.r9.length (AN ts a (Ar fn s a b))).ca=b.ca+nL 8 ts:=by show(AU fn ts a (Ar fn s a b)).ca=_;rw[R.ca,n3]
  rw[e1,e2,n2,n3]at I2;rw[<-jU];exact I2.mod _ fun u=>⟨_,u.taken,rfl⟩
 |.mk _ (_::_::_::_),_,_,_,ho,_,_=>ho.elim
theorem Jx:∀(ts:List TS) (a:Nat) (b:Bd) (xs),ID fn par ts b.cH->(∃more,V=b.cH++dL ts++more)->Pf fn V xs b.r9->Pf fn V (xs++MR ts b.pl b.ca) (AU fn ts a b).r9
 |[],a,b,xs,_,_,h=>by rw[AU,MR,iZ];exact h
 |[t],a,b,xs,ho,hV,h=>by rw[AU,MR,MR,iZ];exact Td t a b xs ho.1 (by obtain⟨more,e⟩:=hV;exact⟨more,by rw[e];simp only[dL,iZ]⟩) h
 |t::t2::ts,a,b,xs,ho,hV,h=>by obtain⟨more,e⟩:=hV;have I:=Td t (b.r9.length+Fb t) b xs ho.1 ⟨dL (t2::ts)++more,by rw[e];simp only[dL,jU]⟩ h;have R:=Jy (fn:=fn) (par:=par) t (b.r9.length+Fb t) b ho.1;rw[AU,MR,<-jU];have I2:=Jx (t2::ts) a (Dx fn t (b.r9.length+Fb t) b) _ (by rw[R.cH];exact ho.2) ⟨more,by rw[e,R.cH];simp only[dL,jU]⟩ I;rw[R.pl,R.ca]at I2;exact I2
end
end
theorem YJ{fn:List ByteArray}{par:List Nat}(t:TF)(b a:Nat)(c:ID fn par t.cP (t.u9.map fun p=>p.d9)):Pf fn (CV fn t b a).t8 (MR t.cP b a) (CV fn t b a).r9:=by have R:=DT (fn:=fn) (par:=par) t.cP (Dy t.cP) (Rh t b a) c;have:=Jx (V:=(CV fn t b a).t8) t.cP (Dy t.cP) (Rh t b a) [] c ⟨[],by rw[iZ];exact R.cH⟩ ⟨fun u e=>(by cases e),fun x f=>(by cases f)⟩;rw[jO]at this;exact this
theorem MP{l:List ByteArray}{s:ByteArray}(h:s∈l)(z:ByteArray):l[vx l s]?.getD z=s:=by
 have m:∀(l:List ByteArray) (k:Nat),s∈l->l[(BC l s k).toNat-k]?.getD z=s/\(k:Int)<=BC l s k:=by
  intro l;induction l with
  |nil=>intro k h;cases h
  |cons a l g=>
   intro k h;rw[BC];split
   .rename_i e;have:=CA e;subst this;refine⟨?_,Int.le_refl _⟩;rw[Int.toNat_natCast,Nat.sub_self];rfl
   .rename_i e;rcases jJ.1 h with q|q
    .subst q;exact jY rfl e
    .obtain⟨f,n⟩:=g (k+1) q;refine⟨?_,by omega⟩;have b:(BC l s (k+1)).toNat-k=((BC l s (k+1)).toNat-(k+1))+1:=by omega
     rw[b,gQ];exact f
 have:=(m l 0 h).1;rw[Nat.sub_zero]at this;exact this
mutual
theorem ZJ{fn:List ByteArray}{par:List Nat}{vs:List ByteArray}:∀(t:TS) (pl ca:Nat),bR fn par vs t->∀x,x∈Ov t pl ca->x.1.kind<=10/\bS fn par vs x.1
 |.mk s [],pl,ca,h,x,hx=>by rw[Ov,iL]at hx;subst hx;exact h
 |.mk s [(_,ts)],pl,ca,h,x,hx=>by rw[Ov]at hx;exact Me ts pl ca h.2 x hx
 |.mk s [(_,ts),(_,ts2)],pl,ca,h,x,hx=>by
  rw[Ov]at hx;rcases iW.1 hx with q|q
  .exact Me ts pl ca h.2.1 x q
  .exact Me ts2 _ _ h.2.2 x q
 |.mk _ (_::_::_::_),_,_,h,_,_=>h.elim
theorem Me{fn:List ByteArray}{par:List Nat}{vs:List ByteArray}:∀(ts:List TS) (pl ca:Nat),Yd fn par vs ts->∀x,x∈MR ts pl ca->x.1.kind<=10/\bS fn par vs x.1
 |[],_,_,_,x,hx=>by rw[MR]at hx;cases hx
 |t::ts,pl,ca,h,x,hx=>by
  rw[MR]at hx;rcases iW.1 hx with q|q
  .exact ZJ t pl ca h.1 x q
  .exact Me ts _ _ h.2 x q
end
structure MxR(P:List PFn)(u:FS)(r:Rl):Prop where
 rl:LZ P r
 kind:u.kind=DB r.s.kind
 dC:r.s.kind<=10
 dD:u.dD=r.f
 p:r.s.kind≠0->r.s.kind≠10->Ii P r.f r.s.cY=u.p.d9
 q:r.s.kind=2\/r.s.kind=3\/r.s.kind=5\/r.s.kind=6\/r.s.kind=8\/r.s.kind=9\/r.s.kind=10->Ii P r.f r.s.cM=u.q.d9
 g:r.s.kind=4\/r.s.kind=7->CR P r.s.cM=u.q.d9
 args:r.s.kind=7\/r.s.kind=8->u.args.map (fun t=>t.d9)=r.s.args.map (Ii P r.f)
 field:r.s.kind=3->u.field=r.s.field
 pl:r.s.kind=1\/r.s.kind=8->u.l7=r.s.cK
section
variable{c:List TF}(d:GoodP c){j:List RF}{i:List FS}(S:RuS (fnN c) (paN c) (xfR c 0 0) j i)
include d
theorem Zf{f:Nat}(m:f<c.length){x:VS×Nat×Nat}(B:x∈MR c[f].cP (sK 1 c f) (sK 8 c f)){u:FS}(a:bI i f x u){s:Be}(y:s∈(As (Bl (fnN c) c 0 0) f).r9)(e:Eo (fnN c) (CY c[f]) x.1 s x.2.1 x.2.2):MxR (Bl (fnN c) c 0 0) u ⟨f,s⟩:=by
 have r:=d.fX.us f;rw[Fw c f m]at r;obtain⟨F,l⟩:=Me _ _ _ r x B;obtain⟨H,C,_,_⟩:=d.one f m;have n:∀b,b∈CY c[f]->Ii (Bl (fnN c) c 0 0) f (vx (CY c[f]) b)=b:=fun b v=>by unfold Ii;rw[C];exact MP v _
 have g:s.kind=x.1.kind:=e.kind;have E:∀t:PT,(Ao t).d9=t.d9:=fun _=>rfl
 refine⟨⟨by show f<_;rw[D6];exact m,y⟩,by rw[a.sc.kind];show _=DB s.kind;rw[g],by show s.kind<=10;omega,a.sc.dD,fun h k=>?_,fun q=>?_,fun q=>?_,fun q=>?_,fun q=>?_,fun q=>?_⟩
 .change s.kind≠0 at h;change s.kind≠10 at k;rw[g]at h k;show Ii _ f s.cY=_;rw[e.cY h k (by omega),n _ (l.tg h k),a.sc.p];rfl
 .change s.kind=2\/s.kind=3\/s.kind=5\/s.kind=6\/s.kind=8\/s.kind=9\/s.kind=10 at q;rw[g]at q;show Ii _ f s.cM=_;rw[e.cM q,n _ (l.sr q),a.sc.q];rfl
 .change s.kind=4\/s.kind=7 at q;rw[g]at q;show CR _ s.cM=_;have p:=l.func q;rw[e.func q,a.sc.q];have o:=(Iy p).1;have w:vx (fnN c) x.1.sr.d9<c.length:=by simpa[fnN]using o
  unfold CR;rw[(d.one _ w).1];have:=MP p ByteArray.empty;rw[gV o]at this;simp only[Option.getD_some,fnN,jE]at this;exact this
 .change s.kind=7\/s.kind=8 at q;rw[g]at q;show _=s.args.map (Ii _ f);rw[e.args q,a.sc.args,List.map_map,List.map_map];exact List.map_congr_left fun t z=>(n _ (l.args q t z)).symm
 .change s.kind=3 at q;rw[g]at q;show _=s.field;rw[e.field,a.sc.field q]
 .change s.kind=1\/s.kind=8 at q;rw[g]at q;show _=s.cK;rcases q with q|q
  .rw[e.l7 q,a.pl q]
  .rw[e.call q,a.ca q]
theorem QM{f:Nat}(a:f<c.length):Pf (fnN c) (CY c[f]) (MR c[f].cP (sK 1 c f) (sK 8 c f)) (As (Bl (fnN c) c 0 0) f).r9:=by have:=YJ (fn:=fnN c) (par:=paN c) c[f] (sK 1 c f) (sK 8 c f) (d.dW.ok _ (iA a));rw[<-(d.one f a).2.1,d.pf f a];exact this
include S
theorem YD(C:Pc i j){k:Nat}{u:FS}(g:i[k]? =T u):(u.kind=12\/u.kind=13)\/∃r,MxR (Bl (fnN c) c 0 0) u r:=by
 rcases Zx S C g with q|⟨f,x,m,b,l⟩
 .exact .inl q
 .have a:f<c.length:=by have:=S.h.eN;simp only[fnN,iT]at this;omega
  rw[Fw c f a]at b
  obtain⟨s,h,e⟩:=(QM d a).back x b
  exact .inr ⟨_,Zf d a b l h e⟩
theorem YE{r:Rl}(b:LZ (Bl (fnN c) c 0 0) r):(r.s.kind=11\/r.s.kind=12)\/∃(k:Nat) (u:FS),i[k]? =T u/\MxR (Bl (fnN c) c 0 0) u r:=by
 have a:r.f<c.length:=by have:=b.1;rw[D6]at this;exact this
 rcases(QM d a).of r.s b.2 with q|⟨x,f,g⟩
 .exact .inl q
 .have l:r.f<j.length:=by have:=S.h.eN;simp only[fnN,iT]at this;omega
  have e:=S.cT r.f l
  rw[Fw c r.f a]at e
  obtain⟨k,u,h,m⟩:=LV _ _ _ _ e x f
  exact .inr ⟨k,u,h,Zf d a f m b.2 g⟩
end
def Yv(P:List PFn)(o:Nat):List Nat:=((List.range P.length).flatMap fun f=>(List.range (As P f).t8.length).map (vN f))++(List.range o).flatMap fun n=>(List.range 4).map (pN (n+1))
def Iv(P:List PFn)(o:Nat):List ByteArray:=(Yv P o).map (Cd P)
theorem Oq{P:List PFn}{o c:Nat}:c∈Yv P o↔AM P o c:=by
 unfold Yv AM;simp only[iW,List.mem_flatMap,jD,List.mem_range];constructor
 .rintro(⟨f,b,v,a,rfl⟩|⟨n,b,k,a,rfl⟩)
  .exact .inl ⟨f,v,b,a,rfl⟩
  .exact .inr ⟨n+1,k,by omega,by omega,a,rfl⟩
 .rintro(⟨f,v,b,a,rfl⟩|⟨n,k,b,a,d,rfl⟩)
  .exact .inl ⟨f,b,v,a,rfl⟩
  .exact .inr ⟨n-1,by omega,k,d,by rw[show n-1+1=n by omega]⟩
def Oo(l:List ByteArray)(s:ByteArray):Bool:=l.any fun a=>a.toList==s.toList
theorem Gl{l:List ByteArray}{s:ByteArray}:Oo l s=true↔s∈l:=by
 unfold Oo;rw[List.any_eq_true];constructor
 .rintro⟨a,b,e⟩;rw[<-CA (beq_iff_eq.1 e)];exact b
 .exact fun h=>⟨s,h,by simp⟩
structure Ls where
 cells:List (List ByteArray)
 ents:List (List ByteArray)
 more:Bool
def Yb(l:List ByteArray):Prop:=l.Pairwise (fun a b=>GM a b=true)
def Vr(P:List PFn)(o c:Nat):Int:=BC (Iv P o) (Cd P c) 0
def Ip(P:List PFn)(o:Nat)(s:Ls)(c:Nat):List ByteArray:=if Vr P o c<0 then[]else s.cells[(Vr P o c).toNat]?.getD []
def Jk(s:Ls)(n:Nat):List ByteArray:=s.ents[n-1]?.getD []
def OF(P:List PFn)(o:Nat)(s:Ls):Sy:=⟨fun c t=>Ez P o t/\Cd P t∈Ip P o s c,fun a b=>∀x,x∈Ip P o s a->x∈Ip P o s b,fun n g=>CR P g∈Jk s n⟩
structure Ra(P:List PFn)(o y:Nat)(s:Ls):Prop where
 cl:s.cells.length=(Iv P o).length
 cs:∀l,l∈s.cells->Yb l
 ci:∀(i:Nat) (l:List ByteArray) (c:Nat),s.cells[i]? =T l->(Yv P o)[i]? =T c->∀x,x∈l->∃t,(least P).I c t/\x=Cd P t
 el:s.ents.length=y
 es:∀l,l∈s.ents->Yb l
 ei:∀(i:Nat) (l:List ByteArray),s.ents[i]? =T l->∀x,x∈l->∃g,(least P).E (i+1) g/\x=CR P g
def XS(P:List PFn)(s:Ls):Nat:=(List.range (s.cells.length*16400)).countP fun i=>!Oo (s.cells[i / 16400]?.getD []) (Cd P (i % 16400))
theorem ZW{t u:Nat}(h:Q6 t=Q6 u):t=u:=by have a:(Dz t).1=(Dz u).1:=congrArg Tg.kind h;have b:(Dz t).2.1=(Dz u).2.1:=congrArg Tg.cZ h;have c:(Dz t).2.2=(Dz u).2.2:=congrArg Tg.dE h;unfold Dz at a b c;by_cases d:t<144<;>by_cases e:t<156<;>by_cases f:u<144<;>by_cases g:u<156<;>simp only[d,e,f,g,if_true,if_false]at a b c<;>omega
theorem Si{l:List (List ByteArray)}{i j:Nat}{v w:List ByteArray}(h:(l.set i v)[j]? =T w):(j=i/\w=v)\/l[j]? =T w:=by
 rw[List.getElem?_set]at h;split at h
 .rename_i e;split at h
  .cases h;exact .inl ⟨e.symm,rfl⟩
  .cases h
 .exact .inr h
theorem Ot{l:List (List ByteArray)}{i:Nat}{v w:List ByteArray}(h:w∈l.set i v):w=v\/w∈l:=by
 obtain⟨j,a⟩:=List.mem_iff_getElem?.1 h;rcases Si a with q|q
 .exact .inl q.2
 .exact .inr (List.mem_of_getElem? q)
theorem Xu{P:List PFn}{o:Nat}{s d:Ls}(i:d.cells=s.cells)(j:∀n x,x∈Jk s n->x∈Jk d n):(OF P o s).le (OF P o d):=by
 have e:∀c,Ip P o d c=Ip P o s c:=fun c=>by unfold Ip;rw[i]
 exact⟨fun c t h=>⟨h.1,by rw[e];exact h.2⟩,fun a b h x f=>by rw[e]at f⊢;exact h x f,fun n g h=>j n _ h⟩
structure FC(P:List PFn)(o y:Nat)(s s':Ls)(R:Sy->Prop):Prop where
 inv:Ra P o y s'
 eu:∀n x,x∈Jk s n->x∈Jk s' n
 lf:XS P s'<=XS P s
 stop:s'.more=false->s.more=false/\s'.cells=s.cells/\R (OF P o s')
 go:s'.more=true->s.more=true\/XS P s'<XS P s
section
variable{P:List PFn}{o y:Nat}{s z C:Ls}{R B:Sy->Prop}
theorem FC.rf(h:Ra P o y s):FC P o y s s (fun _=>True):=⟨h,fun _ _ q=>q,gS _,fun q=>⟨q,rfl,trivial⟩,fun q=>.inl q⟩
theorem FC.to(h:FC P o y s z R)(f:z.cells=s.cells->R (OF P o z)->B (OF P o z)):FC P o y s z B:=⟨h.inv,h.eu,h.lf,fun q=>⟨(h.stop q).1,(h.stop q).2.1,f (h.stop q).2.1 (h.stop q).2.2⟩,h.go⟩
theorem FC.then(h:FC P o y s z R)(k:FC P o y z C B)(l:∀S c:Sy,S.le c->R S->R c):FC P o y s C (fun S=>R S/\B S):=by
 refine⟨k.inv,fun n x q=>k.eu n x (h.eu n x q),iG k.lf h.lf,fun q=>?_,fun q=>?_⟩
 .obtain⟨e,d,f⟩:=k.stop q;obtain⟨g,i,j⟩:=h.stop e;exact⟨g,d.trans i,l _ _ (Xu d k.eu) j,f⟩
 .rcases k.go q with a|a
  .exact(h.go a).imp id fun b=>Nat.lt_of_le_of_lt k.lf b
  .exact .inr (iI a h.lf)
end
section
variable{P:List PFn}{E o y:Nat}(N:NmP P)(p:AnHy P E o y){s:Ls}
include p
theorem Zj{t:Nat}(h:Ez P o t):t<16400:=by
 rcases h with q|⟨g,a,rfl⟩
 .exact q.lt p.ok.dC p.ok.ok.t8 p.ok.lp
 .have:=p.ok.dC;unfold fN;omega
include N
theorem Ft{t u:Nat}(a:Ez P o t)(b:Ez P o u)(e:Cd P t=Cd P u):t=u:=
 ZW (YU N (Su p.ok.dC p.ok.ok.t8 p.pn a) (Su p.ok.dC p.ok.ok.t8 p.pn b) (ZI e))
theorem LC{c:Nat}(h:AM P o c):∃i,Vr P o c=((i:Nat):Int)/\i<(Iv P o).length/\(Yv P o)[i]? =T c:=by
 have e:Cd P c∈Iv P o:=jD.2 ⟨c,Oq.2 h,rfl⟩;obtain⟨a,f⟩:=Iy e;refine⟨vx (Iv P o) (Cd P c),f,a,?_⟩;have d:vx (Iv P o) (Cd P c)<(Yv P o).length:=by simpa[Iv]using a
 have b:=MP e ByteArray.empty;rw[gV a]at b;simp only[Option.getD_some,Iv,jE]at b;rw[gV d];have g:=Oq.1 (iA d);rw[Ft N p (.inl g) (.inl h) b]
theorem VP{g:Nat}(h:g<P.length):Vr P o (fN g)= -1:=by refine SY (fun q=>?_) 0;obtain⟨c,a,e⟩:=jD.1 q;have a:=Oq.1 a;have:=Ft N p (.inl a) (.inr ⟨g,h,rfl⟩) e;have b:=a.isC p.ok.dC p.ok.ok.t8;have:=p.ok.dC;unfold PK fN at*;omega
theorem Rj(h:Ra P o y s){c:Nat}(g:AM P o c){x:ByteArray}(a:x∈Ip P o s c):∃t,(least P).I c t/\x=Cd P t:=by
 obtain⟨i,d,e,f⟩:=LC N p g;unfold Ip at a;rw[d,jQ (by omega),Int.toNat_natCast]at a;have b:i<s.cells.length:=by rw[h.cl];exact e
 rw[gV b]at a;exact h.ci i _ c (gV b) f x a
theorem Zv{g:Nat}(h:g<P.length):Ip P o s (fN g)=[]:=by unfold Ip;rw[VP N p h,jR (by decide)]
def aW(s:Ls)(i:Nat)(x:ByteArray):Ls:=if Oo (s.cells[i]?.getD []) x=true then s else⟨s.cells.set i (Dn (s.cells[i]?.getD []) x),s.ents,true⟩
theorem ZE(h:Ra P o y s){c t i:Nat}(w:AM P o c)(H:Vr P o c=((i:Nat):Int))(n:(least P).I c t):FC P o y s (aW s i (Cd P t)) (fun S=>S.I c t):=by
 obtain⟨a,L,v,m⟩:=LC N p w;obtain rfl:a=i:=by omega
 have b:a<s.cells.length:=by rw[h.cl];exact v
 have r:=(Du p.ok n).2;have F:∀s:Ls,Ip P o s c=s.cells[a]?.getD []:=fun s=>by unfold Ip;rw[H,jQ (by omega),Int.toNat_natCast]
 unfold aW;split
 .rename_i q;exact(FC.rf h).to fun _ _=>⟨r,by rw[F];exact Gl.1 q⟩
 .rename_i q;rw[gV b]at q⊢;simp only[Option.getD_some]at q⊢;have u:XS P ⟨s.cells.set a (Dn s.cells[a] (Cd P t)),s.ents,true⟩<XS P s:=by
   unfold XS;simp only[jV];have M:=Zj p r;refine Hq _ (fun x _ f=>?_) ⟨a*16400+t,?_,?_,?_⟩
   .simp only[Bool.not_eq_true']at f⊢;rw[<-Bool.not_eq_true,Gl]at f⊢;intro k;refine f ?_;rw[List.getElem?_set];split
    .rename_i e;rw[<-e,gV b]at k;exact(EG _ _ _).2 (.inr k)
    .exact k
   .rw[List.mem_range];have:(a+1)*16400<=s.cells.length*16400:=Nat.mul_le_mul_right _ b;omega
   .rw[show(a*16400+t) / 16400=a by omega,show(a*16400+t) % 16400=t by omega,gV b];simpa using q
   .rw[show(a*16400+t) / 16400=a by omega,show(a*16400+t) % 16400=t by omega,List.getElem?_set_self b];simp only[Option.getD_some,Bool.not_eq_false',Gl];exact(EG _ _ _).2 (.inl rfl)
  refine⟨⟨by simp only[jV];exact h.cl,fun l K=>?_,fun j l d I g x f=>?_,h.el,h.es,h.ei⟩,fun _ _ q=>q,Nat.le_of_lt u,fun q=>(by cases q),fun _=>.inr u⟩
  .rcases Ot K with rfl|q
   .exact FU _ _ (h.cs _ (iA b))
   .exact h.cs l q
  .rcases Si I with⟨rfl,rfl⟩|q
   .rw[m]at g;cases g;rcases(EG _ _ _).1 f with rfl|q
    .exact⟨t,n,rfl⟩
    .exact h.ci j _ _ (gV b) m x q
   .exact h.ci j l d q g x f
omit N in
theorem ZA(h:Ra P o y s){n g:Nat}(c:(least P).E n g):FC P o y s ⟨s.cells,s.ents.set (n-1) (Dn (Jk s n) (CR P g)),s.more⟩ (fun S=>S.E n g):=by
 obtain⟨⟨r,t⟩,u⟩:=Hu p.ok c;have b:n-1<s.ents.length:=by rw[h.el];omega
 have d:Jk s n=s.ents[n-1]:=by unfold Jk;rw[gV b];rfl
 have f:∀m,Jk ⟨s.cells,s.ents.set (n-1) (Dn (Jk s n) (CR P g)),s.more⟩ m=if n-1=m-1 then Dn (Jk s n) (CR P g)else Jk s m:=fun m=>by
  unfold Jk;simp only;rw[List.getElem?_set];split
  .rfl
  .rfl
 refine⟨⟨h.cl,h.cs,h.ci,by simp only[jV];exact h.el,fun l k=>?_,fun j l i x a=>?_⟩,fun m x a=>?_,gS _,fun q=>⟨q,rfl,?_⟩,fun q=>.inl q⟩
 .rcases Ot k with rfl|q
  .rw[d];exact FU _ _ (h.es _ (iA b))
  .exact h.es l q
 .rcases Si i with⟨rfl,rfl⟩|q
  .rcases(EG _ _ _).1 a with rfl|q
   .exact⟨g,by rw[show n-1+1=n by omega];exact c,rfl⟩
   .rw[d]at q;exact h.ei _ _ (gV b) x q
  .exact h.ei j l q x a
 .rw[f];split
  .rename_i e;refine(EG _ _ _).2 (.inr ?_);unfold Jk at a⊢;rw[e];exact a
  .exact a
 .show CR P g∈Jk _ n;rw[f,jR rfl];exact(EG _ _ _).2 (.inl rfl)
omit N p in
theorem ZG(h:∀r,LZ P r->KY P r (OF P o s)/\(AS r->∀t,(OF P o s).I r.at t->Dk P r t (OF P o s))):(least P).le (OF P o s):=
 PV ⟨fun _ _ _ hF a=>⟨a.1,hF _ a.2⟩,fun r b=>(h r b).1,fun r t b c a=>(h r b).2 c t a⟩
theorem Th(g:Ra P o y s)(h:(least P).le (OF P o s)){c:Nat}(n:AM P o c){l:List ByteArray}(r:XQ (Cd P) ((least P).I c) l):l=Ip P o s c:=by
 obtain⟨i,K,j,d,f⟩:=r;have u:∀x,x∈l↔∃t,(least P).I c t/\x=Cd P t:=fun x=>by rw[f.mem_iff,jD];exact⟨fun⟨t,a,b⟩=>⟨t,(d t).1 a,b.symm⟩,fun⟨t,a,b⟩=>⟨t,(d t).2 a,b.symm⟩⟩
 have v:l.Nodup:=by rw[f.nodup_iff];refine List.pairwise_map.2 ((List.Pairwise.and_mem.1 j).imp ?_);rintro a b ⟨k,m,w⟩ e;exact w (Ft N p (Du p.ok ((d a).1 k)).2 (Du p.ok ((d b).1 m)).2 e)
 have H:Yb (Ip P o s c):=by
  unfold Ip;split
  .exact List.Pairwise.nil
  .rcases F:s.cells[(Vr P o c).toNat]? with _|q
   .exact List.Pairwise.nil
   .exact g.cs q (List.mem_of_getElem? F)
 refine Hj (Hi i v) H fun x=>?_
 rw[u];exact⟨fun⟨t,a,b⟩=>by rw[b];exact(h.i c t a).2,fun I=>Rj N p g n I⟩
theorem ZH(f:Ra P o y s)(h:(least P).le (OF P o s)){n:Nat}(L:1<=n)(M:n<=y){l:List ByteArray}(v:XQ (CR P) ((least P).E n) l):l=Jk s n:=by
 obtain⟨I,Q,K,c,m⟩:=v;have w:∀x,x∈l↔∃t,(least P).E n t/\x=CR P t:=fun x=>by rw[m.mem_iff,jD];exact⟨fun⟨t,a,b⟩=>⟨t,(c t).1 a,b.symm⟩,fun⟨t,a,b⟩=>⟨t,(c t).2 a,b.symm⟩⟩
 have F:l.Nodup:=by rw[m.nodup_iff];refine List.pairwise_map.2 ((List.Pairwise.and_mem.1 K).imp ?_);rintro a b ⟨r,u,H⟩ e;exact H (N.inj a b (Hu p.ok ((c a).1 r)).2 (Hu p.ok ((c b).1 u)).2 e)
 have d:n-1<s.ents.length:=by rw[f.el];omega
 have j:Jk s n=s.ents[n-1]:=by unfold Jk;rw[gV d];rfl
 refine Hj (Hi I F) (by rw[j];exact f.es _ (iA d)) fun x=>?_
 rw[w];refine⟨fun⟨t,a,b⟩=>by rw[b];exact h.e n t a,fun k=>?_⟩;rw[j]at k;obtain⟨g,i,q⟩:=f.ei _ _ (gV d) x k;rw[show n-1+1=n by omega]at i;exact⟨g,i,q⟩
end
theorem Sn{l:List ByteArray}(h:Yb l){i j:Nat}(a:i<j)(b:j<l.length):GM (l[i]'(by omega)) l[j]=true:=List.pairwise_iff_getElem.1 h i j (by omega) b a
theorem Yz(a b:ByteArray):Op.bytesLess a.toList b.toList=GM a b:=by unfold GM;rw[bytesLess_eq,Lib.toList_data,Lib.toList_data]
theorem Hk{B w g c}{l:List ByteArray}(h:Au B w (Y (T ⟨g,0,Z⟩) l.length c) l)(k:Nat)(a:k<l.length):w.cell? ⟨g,k,Z⟩=T (.string l[k]):=by have:=h.cellAt k (by simpa using a);rw[this];simp[a]
theorem Uj(B v l s w)(h:Au B w v l)(hl:l.length<=1000000)(K:Yb l):
 Calls prog 133 #[v,.string s] w fun e w'=>e=.returned (.bool (Oo l s))/\w'=w:=by
 obtain⟨va,vl,vc,rfl⟩:=Ad h;have S:=Ag h;subst S;obtain⟨V,F⟩:∃V,Oo l s=V:=⟨_,rfl⟩;rw[F];obtain⟨x,o,E⟩:=Ax F h K;clear F h K;go_enter func133,ntmps133;go_wp2;go_loopw[5,6] (fun a b wr=>∃d f:Nat,d<=f/\f<=l.length/\a=G A d/\b=G A f/\wr=w/\D (∀i (q:i<l.length),i<d->GM l[i] s=true)/\D (∀i (q:i<l.length),f<=i->GM l[i] s=false)) (fun a b _=>(intOf b).toNat-(intOf a).toNat)
 case atStart=>exact⟨0,l.length,by omega,by omega,rfl,rfl,rfl,fun i q k=>by omega,fun i q k=>by omega⟩
 case round=>
  obtain⟨d,f,h1,Q,rfl,rfl,rfl,r,p⟩:=hrel;by_cases a0:d<f
  .have tl:decide ((d:Int)<(f:Int))=true:=by simp;omega
   obtain⟨m,H⟩:∃m,(d+f) / 2=m:=⟨_,rfl⟩;have e1:((d:Int)+(f:Int)).tdiv 2=(m:Int):=by rw[<-H];rfl
   have L:m<l.length:=by omega
   have a1:d<=m:=by omega
   have a2:m<f:=by omega
   obtain⟨g,rfl⟩:=Ap o.o (by omega);have c:=Hk o.o m L;have U:=(o.o.lt g rfl).2;have y:=Yz l[m] s;cases n:GM l[m] s with
   |true=>
    rw[n]at y;have P:D (∀i (q:i<l.length),i<m+1->GM l[i] s=true):=fun i q k=>by
     rcases jG i m with z|z
     .exact Hv (Sn E.o z L) n
     .obtain rfl:i=m:=by omega
      exact n
    generalize l[m]=a at c y;clear n r H;go_wp2;go_round
    case rel=>exact⟨m+1,f,by omega,Q,by go_num,rfl,by trivial,P,p⟩
    case measure=>simp[intOf];omega
   |false=>
    rw[n]at y;have N:D (∀i (q:i<l.length),m<=i->GM l[i] s=false):=fun i q k=>by
     rcases jG m i with z|z
     .cases t:GM l[i] s with
      |false=>rfl
      |true=> have:=Hv (Sn E.o z q) t;rw[n]at this;cases this
     .obtain rfl:i=m:=by omega
      exact n
    generalize l[m]=a at c y;clear n p H;go_wp2;go_round
    case rel=>exact⟨d,m,by omega,by omega,rfl,rfl,by trivial,r,N⟩
    case measure=>simp[intOf];omega
  .have tl:decide ((d:Int)<(f:Int))=false:=by simp;omega
   obtain rfl:d=f:=by omega
   have C:∀j (q:j<l.length),l[j]=s->j=d:=fun j q e=>by
    rcases jG j d with z|z
    .have:=r.o j q z;rw[e,Fo]at this;cases this
    .rcases jG d j with M|M
     .have:=Sn E.o M q;rw[e,p.o d (by omega) (gS _)]at this;cases this
     .omega
   by_cases R:d<l.length
   .have X:decide ((d:Int)<(l.length:Int))=true:=by simp;omega
    obtain⟨g,rfl⟩:=Ap o.o (by omega);have c:=Hk o.o d R;have U:=(o.o.lt g rfl).2;have u:(l[d].toList==s.toList)=V:=by
     rw[<-x.o];cases t:(l[d].toList==s.toList)with
     |true=>exact(Gl.2 (by rw[<-CA (beq_iff_eq.1 t)];exact iA _)).symm
     |false=>
      cases I:Oo l s with
      |false=>rfl
      |true=> obtain⟨j,q,e⟩:=iP.1 (Gl.1 I);obtain rfl:=C j q e;rw[e]at t;simp at t
    generalize l[d]=a at c u;clear C r p x;go_wp2;go_ret;exact⟨by first|rfl|rw[u]|(rw[<-u]),rfl⟩
   .have X:decide ((d:Int)<(l.length:Int))=false:=by simp;omega
    have u:V=false:=by
     rw[<-x.o];cases I:Oo l s with
     |false=>rfl
     |true=> obtain⟨j,q,e⟩:=iP.1 (Gl.1 I);have:=C j q e;omega
    subst u;clear C r p x;go_wp2;go_ret;exact⟨rfl,rfl⟩
def Em(B:Nat)(w:World)(v:Value)(a:List (List ByteArray)):Prop:=∃b:List Value,b.length=a.length/\w.ownsRow B 51 1 v a.length b/\∀i (h:i<b.length) (c:i<a.length),Au B w b[i] a[i]
theorem Em.s9{B w b v a}(h:Em B w v a)(k:O kJ w b):Em B b v a:=by obtain⟨g,e,f,d⟩:=h;exact⟨g,e,Ac f k (fun _ _ q=>q),fun i h c=>Ac (d i h c) k (fun _ _ q=>q)⟩
theorem Em.get{B w a c f}(h:Em B w (Y a f.length c) f){i:Nat}(o:i<f.length):∃g b d,a=T ⟨g,0,Z⟩/\w.cell? ⟨g,i,Z⟩=T (Y b f[i].length d)/\w.frozen? ⟨g,i,Z⟩=false/\B<=g/\g<w.heap.size/\Au B w (Y b f[i].length d) f[i]:=by obtain⟨p,e,j,m⟩:=h;obtain⟨g,rfl⟩:=Ap j (by omega);have k:=m i (by omega) o;obtain⟨b,l,d,q⟩:=Ad k;rw[q]at k;have:=Ag k;subst this;have n:=j.cellAt i (by omega);refine⟨g,b,d,rfl,?_,j.frozenAt i,(j.lt g rfl).1,(j.lt g rfl).2,k⟩;rw[n,gV (by omega),q]
structure Gt(B sb pb:Nat)(nv cv ev:Value)(nm:List ByteArray)(s:Ls)(w:World):Prop where
 bx:W sb #[.pointer (T ⟨pb,0,Z⟩),nv,cv,ev,.bool s.more] 88 w
 nr:Au B w nv nm
 nl:nm.length<=20000
 cl:Em B w cv s.cells
 en:Em B w ev s.ents
 sb:B<=sb
 ne:∀g h,cv.ownBlock=T g->ev.ownBlock=T h->g≠h
 ln:s.cells.length=nm.length
 sh:∀l,l∈s.cells->l.length<=20000/\Yb l
theorem Gt.s9{B f e d a b c s w g}(h:Gt B f e d a b c s w)(k:O kJ w g):Gt B f e d a b c s g:=
 ⟨h.bx.d8 k id,Ac h.nr k (fun _ _ q=>q),h.nl,h.cl.s9 k,h.en.s9 k,h.sb,h.ne,h.ln,h.sh⟩
theorem Em.form{B w v d}(h:Em B w v d):∃a c,v=Y a d.length c:=by obtain⟨f,e,b,_⟩:=h;obtain⟨a,l,c,rfl⟩:=Ad b;have:=Ag b;subst this;exact⟨a,c,rfl⟩
def Z8(a:List ByteArray)(b:List (List ByteArray))(x:ByteArray):List ByteArray:=if BC a x 0<0 then[]else b[(BC a x 0).toNat]?.getD []
theorem JA(B u I:Nat)(H z C:Value)(c:List ByteArray)(s:Ls)(w:World)(h:Gt B u I H z C c s w)(x:ByteArray):
 Calls prog 29 #[.pointer (T ⟨u,0,Z⟩),.string x] w fun e y=>(∃v,e=.returned v/\Au B w v (Z8 c s.cells x))/\y=w:=by
 obtain⟨N,P,rfl⟩:=h.cl.form;obtain⟨Q,R,rfl⟩:=h.en.form;obtain⟨V,nl,X,rfl⟩:=Ad h.nr;obtain⟨K,L⟩:=h.bx.e2 1 2;have S:=Ae h.bx;simp only[gR,gP,gQ]at K L;have m:=J (GW B _ c x w h.nr h.nl);have o:=J h;unfold Z8;have F:=(C0 c x 0).2;obtain⟨i,q⟩:∃i,BC c x 0=i:=⟨_,rfl⟩;rw[q]at m F⊢;obtain⟨l,a⟩:∃l,(if i<0 then[]else s.cells[i.toNat]?.getD [])=l:=⟨_,rfl⟩;rw[a];have f:=J a;clear h q a;go_enter func29,ntmps29;go_wp2_with fail;refine m.o.mono ?_;rintro e y ⟨rfl,k⟩;have k:=k.symm;subst k;by_cases j:i<0
 .have M:decide (i<0)=true:=by simp;omega
  have a:=f.o;rw[jR j]at a;subst a;go_wp2_with fail;go_ret;exact⟨⟨_,rfl,iB _ _ _ _⟩,rfl⟩
 .have M:decide (i<0)=false:=by simp;omega
  have a:=f.o;rw[jQ j]at a;obtain⟨n,rfl⟩:∃n:Nat,i=(n:Int):=⟨i.toNat,by omega⟩;have r:n<s.cells.length:=by rw[o.o.ln];omega
  rw[Int.toNat_natCast,gV r,Option.getD_some]at a;obtain⟨g,b,d,rfl,E,_,_,U,t⟩:=o.o.cl.get r;have p:=J t;have tn:(n:Int)<(s.cells.length:Int):=by omega
  clear t j f;rw[a]at E p;clear a;go_wp2_with fail;go_ret;exact⟨⟨_,rfl,p.o⟩,rfl⟩
def Ea(c:Nat)(a b:Value)(w d:World):Prop:=O (fun k=>k=c\/a.ownBlock=T k\/b.ownBlock=T k) w d
theorem Gt.own{B i n m f g l s w}(h:Gt B i n m f g l s w){k:Nat}(j:k=i\/f.ownBlock=T k\/g.ownBlock=T k):B<=k/\∃a t b,w.heap[k]? =T (.cells a t b)/\(t=88\/t=51):=by
 rcases j with rfl|q|q
 .exact⟨h.sb,_,_,_,h.bx,.inl rfl⟩
 .obtain⟨o,_,e,_⟩:=h.cl;obtain⟨c,a,b,d⟩:=CB e q;exact⟨c,_,_,_,d,.inr rfl⟩
 .obtain⟨o,_,e,_⟩:=h.en;obtain⟨c,a,b,d⟩:=CB e q;exact⟨c,_,_,_,d,.inr rfl⟩
theorem Gt.str{B a d p o b c n s w f v}{l:List ByteArray}(h:Gt B d p o b c n s w)(j:Ea d b c w f)(q:Au a w v l):Au a f v l:=Ai q j (fun k r y i z=>by
 obtain⟨_,u,t,x,g,m⟩:=h.own i;rw[g]at z;cases z;rcases m with e|e
 .exact jY e (by decide)
 .exact jY e (by decide))
theorem Gt.low{B c j i a b g s w d}(h:Gt B c j i a b g s w)(e:B<=w.heap.size)(f:Ea c a b w d):Below B w d:=f.dI e (fun _ q=>(h.own q).1)
theorem Gt.set{B I H F p r t E s w g}(h:Gt B I H F (Y (T ⟨g,0,Z⟩) p r) t E s w)(i:Nat)(u:Value)(L:List ByteArray)(X:Au B w u L)(Q:L.length<=20000/\Yb L):
 Gt B I H F (Y (T ⟨g,0,Z⟩) p r) t E ⟨s.cells.set i L,s.ents,s.more⟩ (w.setCell ⟨g,i,Z⟩ u)/\O (fun k=>k=g) w (w.setCell ⟨g,i,Z⟩ u)/\B<=g:=by
 have d:O (fun k=>k=g) w (w.setCell ⟨g,i,Z⟩ u):=(O.refl _ w).t9 i u;have x:=h.cl;obtain⟨a,c,e⟩:=x.form;cases e;obtain⟨us,K,C,R⟩:=x;obtain⟨P,cs,fz,y⟩:=CB C (k:=g) rfl;have f:∀{v l},Au B w v l->Au B (w.setCell ⟨g,i,Z⟩ u) v l:=fun{v l} q=>Ai q d (fun k ds f2 o z=>by subst o;rw[y]at z;cases z)
 refine⟨⟨h.bx.d8 d (fun q=>?_),f h.nr,h.nl,⟨us.set i u,by simp[K],?_,fun j m b=>?_⟩,?_,h.sb,h.ne,by simp only[jV];exact h.ln,fun l U=>?_⟩,d,P⟩
 .have n:=h.bx;unfold W at n;rw[q,y]at n;cases n
 .have:=(C.stored i u).1;simpa using this
 .simp only[jV]at m b;rw[List.getElem_set,List.getElem_set];split
  .exact f X
  .exact f (R j (by omega) b)
 .obtain⟨N,M,V,S⟩:=h.en;exact⟨N,M,Ac V d (fun k o q=>h.ne g k rfl o q.symm),fun j m b=>f (S j m b)⟩
 .rcases Ot U with rfl|q
  .exact Q
  .exact h.sh l q
theorem Gt.flag{B a p o d f n s w}(h:Gt B a p o d f n s w):Gt B a p o d f n ⟨s.cells,s.ents,true⟩ (w.setCell ⟨a,4,Z⟩ (.bool true))/\O (fun k=>k=a) w (w.setCell ⟨a,4,Z⟩ (.bool true)):=by
 have b:O (fun k=>k=a) w (w.setCell ⟨a,4,Z⟩ (.bool true)):=(O.refl _ w).t9 4 _;have r:∀{v c},Em B w v c->Em B (w.setCell ⟨a,4,Z⟩ (.bool true)) v c:=fun{v c} q=>by obtain⟨t,e,m,l⟩:=q;exact⟨t,e,Ac m b (Am m h.bx (by decide)),fun j g i=>Ac (l j g i) b (Am (l j g i) h.bx (by decide))⟩
 exact⟨⟨h.bx.set 4 _,Ac h.nr b (Am h.nr h.bx (by decide)),h.nl,r h.cl,r h.en,h.sb,h.ne,h.ln,h.sh⟩,b⟩
theorem Yx(B c E:Nat)(nv R S:Value)(C:List ByteArray)(s:Ls)(w:World)(h:Gt B c E nv R S C s w)(hB:B<=w.heap.size)(i:Nat)(x:ByteArray)(z:i<s.cells.length)(I:(Dn (s.cells[i]?.getD []) x).length<=20000):
 Calls prog 101 #[.pointer (T ⟨c,0,Z⟩),G A i,.string x] w fun e w'=>e=.returned (.tuple #[])/\Gt B c E nv R S C (aW s i x) w'/\Ea c R S w w':=by
 obtain⟨ca,l,rfl⟩:=h.cl.form;obtain⟨m,n,rfl⟩:=h.en.form;obtain⟨na,nl,nc,rfl⟩:=Ad h.nr;obtain⟨g,b,d,rfl,U,a5,b0,M,hs⟩:=h.cl.get z;have q2:=h.bx.cell 2;have lb:=Ae h.bx;simp only[gR,gP,gQ]at q2;have tn:(i:Int)<(s.cells.length:Int):=by omega
 have t0:decide ((i:Int)<0)=false:=by simp
 have a0:=h.sh _ (iA z);have HH:=J h;have N:=J hs;rw[gV z,Option.getD_some]at I;obtain⟨V,y⟩:∃V,aW s i x=V:=⟨_,rfl⟩;rw[y];unfold aW at y;rw[gV z,Option.getD_some]at y;have v:=J y;have HI:=J z;clear h hs y;generalize a9:s.cells[i]=L at U N a0 v I;have H:=J a0;have a7:=J I;clear a9 I;have F:=J (Uj B _ L x w N.o (by have:=H.o.1;omega) H.o.2);obtain⟨r,hr⟩:∃r,Oo L x=r:=⟨_,rfl⟩;rw[hr]at F v;have Q:D (r=true->V=s):=fun q=>by rw[<-v.o,jR q]
 have P:D (r=false->(⟨s.cells.set i (Dn L x),s.ents,true⟩:Ls)=V):=fun q=>by rw[<-v.o,jQ (by rw[q];decide)]
 clear hr a0 v;go_enter func101,ntmps101;go_wp2_with fail;refine F.o.mono ?_;rintro e w' ⟨rfl,hw⟩;have hw:=hw.symm;subst hw;cases r with
 |true=> have hv:=Q.o rfl;subst hv;clear Q P F;go_wp2_with fail;go_end0;exact⟨rfl,HH.o,O.refl _ _⟩
 |false=>
  have a8:=J (P.o rfl);clear Q P F;have a4:D (∀(f:World) (o:Option Addr) (t p:Nat),Au w.heap.size f (Y o t p) (Dn L x)->O kJ w f->Gt B c E (Y na nl nc) (Y (T ⟨g,0,Z⟩) s.cells.length l) (Y m s.ents.length n) C ⟨s.cells.set i (Dn L x),s.ents,s.more⟩ (f.setCell ⟨g,i,Z⟩ (Y o t p))/\Ea c (Y (T ⟨g,0,Z⟩) s.cells.length l) (Y m s.ents.length n) w (f.setCell ⟨g,i,Z⟩ (Y o t p))):=fun f o t p h8 j=>by obtain⟨a1,a2,a3⟩:=(HH.o.s9 j).set i (Y o t p) (Dn L x) (Aq h8 hB) ⟨a7.o,FU _ _ H.o.2⟩;exact⟨a1,(j.mono fun _ _ q=>q.elim).trans (a2.mono fun k _ q=>.inr (.inl (by rw[q];rfl)))⟩
  have BX:D (∀f,O kJ w f->f.cell? ⟨g,i,Z⟩=T (Y b L.length d)/\f.frozen? ⟨g,i,Z⟩=false/\f.cell? ⟨c,2,Z⟩=T (Y (T ⟨g,0,Z⟩) s.cells.length l)/\g<f.heap.size/\c<f.heap.size):=fun f j=>⟨(gT (j.block g M id)).trans U,(gY (j.block g M id)).trans a5,(gT (j.block c lb id)).trans q2,iI M j.size,iI lb j.size⟩
  go_upto_region 3 with fail;go_cut[] (fun wx=>D (Gt B c E (Y na nl nc) (Y (T ⟨g,0,Z⟩) s.cells.length l) (Y m s.ents.length n) C ⟨s.cells.set i (Dn L x),s.ents,s.more⟩ wx)/\D (Ea c (Y (T ⟨g,0,Z⟩) s.cells.length l) (Y m s.ents.length n) w wx))
  case first=>
   go_region_law(go_simp;go_at_call 70;refine(LY B (Y b L.length d) L x _ (Ac N.o (by repeat first|exact BI _ _|apply BG|apply BH|apply BE) (fun _ _ q=>q)) (by have:=H.o.1;omega)).mono ?_;rintro e f ⟨v8,rfl,K,a6⟩;obtain⟨o,t,p,rfl⟩:=Ad K;have j:=J (O.trans (X:=kJ) (a:=w) (by repeat first|exact BI _ _|apply BG|apply BH|apply BE) a6);obtain⟨k1,k2,k3,k4,k5⟩:=BX.o f j.o;have K:=J K;clear a6;dsimp only);all_goals
    go_wp2_with fail;go_meet
    case rel=> obtain⟨f1,f2⟩:=a4.o _ _ _ _ (Aq K.o (by simp)) j.o;exact⟨f1,f2⟩
  case rest=>
  obtain⟨u,F2⟩:=hcut;have b3:=Ae u.o.bx;have b4:=u.o.bx.cell 4;have z4:=u.o.bx.frozen 4;simp only[gR,gP,gQ]at b4;obtain⟨b1,b2⟩:=u.o.flag;have R1:D (Gt B c E (Y na nl nc) (Y (T ⟨g,0,Z⟩) s.cells.length l) (Y m s.ents.length n) C V (wc.setCell ⟨c,4,Z⟩ (.bool true))/\Ea c (Y (T ⟨g,0,Z⟩) s.cells.length l) (Y m s.ents.length n) w (wc.setCell ⟨c,4,Z⟩ (.bool true))):=by rw[<-a8.o];exact⟨b1,F2.o.trans (b2.mono fun k _ q=>.inl q)⟩
  clear b1 b2 u F2 a4 BX U a5 q2 lb M;go_wp2_with fail;go_end0;exact⟨rfl,R1.o.1,R1.o.2⟩
theorem Wq(a:Nat)(x:ByteArray)(w:World):Calls prog 101 #[.pointer (T ⟨a,0,Z⟩),G A (-1),.string x] w fun e b=>e=.returned (.tuple #[])/\b=w:=by go_enter func101,ntmps101;go_wp2_with fail;refine gZ (v:=.tuple #[]) (by simp[results,results101,go_sem]) rfl ⟨rfl,rfl⟩
theorem Kj:∀(l m:List ByteArray),l.Nodup->(∀x,x∈l->x∈m)->l.length<=m.length
 |[],_,_,_=>iF _
 |a::l,m,b,c=>by
  rw[List.nodup_cons]at b;obtain⟨g,h,rfl⟩:=List.append_of_mem (c a jP);have:=Kj l (g++h) b.2 fun x e=>by
   rcases iW.1 (c x (iK _ e))with q|q
   .exact List.mem_append_left _ q
   .rcases jJ.1 q with rfl|q
    .exact jY e b.1
    .exact kD _ q
  simp only[gW,gU]at this⊢;omega
theorem Yb.nodup{l:List ByteArray}(h:Yb l):l.Nodup:=h.imp fun{a b} q e=>by rw[e,Fo]at q;cases q
theorem Ra.short{P:List PFn}{o d f:Nat}(n:AnHy P o d f){s:Ls}(h:Ra P d f s){l:List ByteArray}(a:l∈s.cells):l.length<=16400:=by
 obtain⟨i,c,rfl⟩:=iP.1 a;have e:i<(Yv P d).length:=by have:=h.cl;simp only[Iv,iT]at this;omega
 have:=Kj _ ((List.range 16400).map (Cd P)) (h.cs _ a).nodup fun x g=>by obtain⟨t,b,rfl⟩:=h.ci i _ _ (gV c) (gV e) x g;exact jD.2 ⟨t,List.mem_range.2 (Zj n (Du n.ok b).2),rfl⟩
 simpa using this
structure Rb(P:List PFn)(d f B sb pb:Nat)(nv cv ev:Value)(s:Ls)(w:World):Prop where
 m:Gt B sb pb nv cv ev (Iv P d) s w
 i:Ra P d f s
 b:B<=w.heap.size
theorem Rb.s9{P d f B g e c a b s w i}(h:Rb P d f B g e c a b s w)(k:O kJ w i):Rb P d f B g e c a b s i:=⟨h.m.s9 k,h.i,iG h.b k.size⟩
def GQ(P:List PFn)(d f B e i:Nat)(h a b:Value)(s:Ls)(w g:World)(R:Sy->Prop):Prop:=∃c,Rb P d f B e i h a b c g/\FC P d f s c R/\Ea e a b w g
theorem Ea.trans{c a b w e g}(h:Ea c a b w e)(k:Ea c a b e g):Ea c a b w g:=O.trans h k
theorem Ea.of{e b c w a}(h:O kJ w a):Ea e b c w a:=h.mono fun _ _ q=>q.elim
section
variable{P:List PFn}{o d f:Nat}(N:NmP P)(n:AnHy P o d f)
include N n
theorem Ze(B b m:Nat)(l g j:Value)(s:Ls)(w:World)(h:Rb P d f B b m l g j s w){c t i:Nat}(q:AM P d c)(y:Vr P d c=((i:Nat):Int))(z:(least P).I c t):
 Calls prog 101 #[.pointer (T ⟨b,0,Z⟩),G A i,.string (Cd P t)] w fun e u=>e=.returned (.tuple #[])/\GQ P d f B b m l g j s w u (fun S=>S.I c t):=by
 obtain⟨a,C,x,_⟩:=LC N n q;obtain rfl:a=i:=by omega
 have k:a<s.cells.length:=by rw[h.i.cl];exact x
 have E:=h.i.short n (iA k);refine(Yx B b m l g j (Iv P d) s w h.m h.b a (Cd P t) k (by rw[gV k,Option.getD_some];have:=PW (Cd P t) s.cells[a];omega)).mono ?_
 rintro e u ⟨rfl,v,p⟩;have r:=ZE N n h.i q y z;exact⟨rfl,_,⟨v,r.inv,iG h.b p.size⟩,r,p⟩
theorem Li(B a m:Nat)(C g j:Value)(s:Ls)(w:World)(h:Rb P d f B a m C g j s w){c t:Nat}(x y:ByteArray)(I:x=Cd P c)(K:y=Cd P t)(v:AM P d c)(H:(least P).I c t):
 Calls prog 59 #[.pointer (T ⟨a,0,Z⟩),.string x,.string y] w fun e E=>e=.returned (.tuple #[])/\GQ P d f B a m C g j s w E (fun S=>S.I c t):=by
 subst I K;obtain⟨i,k,_⟩:=LC N n v;obtain⟨R,V,U,rfl⟩:=Ad h.m.nr;have L:=h.m.bx.cell 1;have Q:=Ae h.m.bx;simp only[gR,gP,gQ]at L;have b:=J (GW B _ (Iv P d) (Cd P c) w h.m.nr h.m.nl);have z:BC (Iv P d) (Cd P c) 0=(i:Int):=k;rw[z]at b;have p:=J (Ze N n B a m _ g j s w h v k H);obtain⟨X,r⟩:∃X,Cd P c=X:=⟨_,rfl⟩;obtain⟨M,u⟩:∃X,Cd P t=X:=⟨_,rfl⟩;rw[r]at b⊢;rw[u]at p⊢;clear h N n k z r u;go_enter func59,ntmps59;go_wp2_with fail;refine b.o.mono ?_;rintro e E ⟨rfl,l⟩;have l:=l.symm;subst l;go_wp2_with fail;refine p.o.mono ?_;rintro e w2 ⟨rfl,q⟩;have F:=J q;clear q;go_wp2_with fail;go_end0;exact⟨rfl,F.o⟩
omit N n in
theorem Zt(s:Ls)(a:Nat):Z8 (Iv P d) s.cells (Cd P a)=Ip P d s a:=rfl
theorem GT(B p K:Nat)(nv v C:Value)(s:Ls)(w:World)(h:Rb P d f B p K nv v C s w){a b:Nat}(x y:ByteArray)(hx:x=Cd P a)(hy:y=Cd P b)(ha:Ez P d a)(hb:Ez P d b)(hF:AM P d a->AM P d b->(least P).F a b):
 Calls prog 60 #[.pointer (T ⟨p,0,Z⟩),.string x,.string y] w fun e w'=>e=.returned (.tuple #[])/\GQ P d f B p K nv v C s w w' (fun S=>AM P d b->S.F a b):=by
 subst hx hy;have l:=J (JA B p K nv v C (Iv P d) s w h.m (Cd P a));obtain⟨na,nl,nc,rfl⟩:=Ad h.m.nr;have q1:=h.m.bx.cell 1;have lb:=Ae h.m.bx;simp only[gR,gP,gQ]at q1;have HF:=J (GW B _ (Iv P d) (Cd P b) w h.m.nr h.m.nl);have HH:=J h;have a2:D (∀z,z∈Ip P d s a->AM P d a/\∃t,(least P).I a t/\z=Cd P t):=fun z r=>by
  rcases ha with q|⟨g,hg,rfl⟩
  .exact⟨q,Rj N n h.i q r⟩
  .rw[Zv N n hg]at r;cases r
 have a5:D ((Ip P d s a).length<=16400):=by
  unfold Ip;split
  .exact iF _
  .rcases hq:s.cells[(Vr P d a).toNat]? with _|q
   .exact iF _
   .exact h.i.short n (List.mem_of_getElem? hq)
 have a4:D ((∃i:Nat,Vr P d b=(i:Int)/\AM P d b)\/(Vr P d b= -1/\¬AM P d b)):=by
  rcases hb with q|⟨g,hg,rfl⟩
  .obtain⟨i,F,_⟩:=LC N n q;exact .inl ⟨i,F,q⟩
  .refine .inr ⟨VP N n hg,fun q=>?_⟩;have:=q.isC n.ok.dC n.ok.ok.t8;have:=n.ok.dC;unfold PK fN at*;omega
 obtain⟨HN,HY,a7⟩:=Ax N n hF;rw[Zt]at l;obtain⟨L,hL⟩:∃L,Ip P d s a=L:=⟨_,rfl⟩;rw[hL]at l a2 a5;have a8:=J hL;obtain⟨j,hj⟩:∃j,BC (Iv P d) (Cd P b) 0=j:=⟨_,rfl⟩;have a3:Vr P d b=j:=hj;rw[a3]at a4;rw[hj]at HF;have HJ:=J a3;obtain⟨X,hX⟩:∃X,Cd P a=X:=⟨_,rfl⟩;obtain⟨b4,hZ⟩:∃X,Cd P b=X:=⟨_,rfl⟩;rw[hX]at l⊢;rw[hZ]at HF⊢;clear h N n hF ha hb hL hj a3 hX hZ;go_enter func60,ntmps60;go_wp2_with fail;refine l.o.mono ?_;rintro e w' ⟨⟨lv,rfl,a1⟩,m⟩;have m:=m.symm;subst m;obtain⟨la,ll,lc,rfl⟩:=Ad a1;have b1:=Ag a1;subst b1;have HR:=J a1;clear a1 l;go_wp2_with fail;refine HF.o.mono ?_;rintro e w' ⟨rfl,m⟩;have m:=m.symm;subst m;clear HF q1 lb;go_wp2_with fail;go_loopw[8] (fun i wr=>∃(k:Nat) (u:Ls),k<=L.length/\i=G A k/\D (Rb P d f B p K (Y na nl nc) v C u wr)/\D (FC P d f s u (fun S=>AM P d b->∀t,Ez P d t->Cd P t∈L.take k->S.I b t))/\D (Ea p v C w wr)) (fun i _=>L.length-(intOf i).toNat)
 case atStart=>exact⟨0,s,by omega,rfl,HH,(FC.rf HH.o.i).to (fun _ _ _ t _ q=>by rw[List.take_zero]at q;cases q),O.refl _ _⟩
 case round=>
  obtain⟨k,u,hk,rfl,Q,R,l⟩:=hrel;have b5:=a5.o;by_cases a6:k<L.length
  .have tk:decide ((k:Int)<(L.length:Int))=true:=by simp;omega
   have V:=HH.o.m.str l.o HR.o;obtain⟨g,rfl⟩:=Ap V (by omega);have c:=Hk V k a6;have lg:=(V.lt g rfl).2;obtain⟨ca,t,I,r⟩:=a2.o L[k] (iA _);rw[r]at c;obtain⟨HZ,HT,b2⟩:=Ax r I ca;rcases a4.o with⟨i,a0,H⟩|⟨a0,H⟩
   .have M:=J (Ze HN.o HY.o B p K _ v C u wr Q.o H (HJ.o.trans a0) ((Ew P).flow _ _ _ (a7.o ca H) I));obtain⟨U,hU⟩:∃X,Cd P t=X:=⟨_,rfl⟩;rw[hU]at c M;subst a0;clear r I ca H V hU;go_wp2_with fail;refine M.o.mono ?_;rintro e w2 ⟨rfl,s2,g1,g2,g3⟩;have P2:=J g1;have O2:=J (l.o.trans g3);have N2:D (FC P d f s s2 (fun S=>AM P d b->∀t,Ez P d t->Cd P t∈L.take (k+1)->S.I b t)):=by
     refine(R.o.then g2 (fun S b3 a9 q E t F h2=>a9.i _ _ (q E t F h2))).to fun _ q E t' F h2=>?_
     rw[iX a6]at h2;rcases iW.1 h2 with z|z
     .exact q.1 E t' F z
     .rw[iL,HZ.o]at z;rw[Ft HN.o HY.o F (Du HY.o.ok HT.o).2 z];exact q.2
    clear g1 g2 g3 Q R l c lg;go_wp2_with fail;go_roundw
    case rel=>exact⟨k+1,s2,by omega,by go_num,P2,N2,O2⟩
    case measure=>simp[intOf];omega
   .have M:=J (Wq p (Cd P t) wr);obtain⟨U,hU⟩:∃X,Cd P t=X:=⟨_,rfl⟩;rw[hU]at c M;subst a0;have N2:D (FC P d f s u (fun S=>AM P d b->∀t,Ez P d t->Cd P t∈L.take (k+1)->S.I b t)):=R.o.to fun _ _ E=>jY E H
    clear r I ca H V hU;go_wp2_with fail;refine M.o.mono ?_;rintro e w' ⟨rfl,m⟩;have m:=m.symm;subst m;go_wp2_with fail;go_roundw
    case rel=>exact⟨k+1,u,by omega,by go_num,Q,N2,l⟩
    case measure=>simp[intOf];omega
  .have tk:decide ((k:Int)<(L.length:Int))=false:=by simp;omega
   have R1:D (GQ P d f B p K (Y na nl nc) v C s w wr (fun S=>AM P d b->S.F a b)):=by
    refine⟨u,Q.o,R.o.to fun b0 q E x hx=>?_,l.o⟩;have e:Ip P d u a=L:=by rw[<-a8.o];unfold Ip;rw[b0]
    rw[e]at hx;obtain⟨_,t,I,rfl⟩:=a2.o x hx;exact(q E t (Du HY.o.ok I).2 (by rw[List.take_of_length_le (by omega)];exact hx)).2
   clear Q R l;go_wp2_with fail;go_end0;exact⟨rfl,R1.o⟩
end
theorem Pe.low{i B n u o}{U:Nat->Prop}{r x v p w m}(h:Pe i B U r x v p u o w)(C:w.heap.size<=n)(c:Below n w m):Pe i B U r x v p u o m:=by
 have s:O (fun k=>w.heap.size<=k) w m:=⟨c.os,c.tape,c.output,c.size,fun k d _=>c.block k (by omega)⟩;have e:∀(k:Nat) (a:Array Value) (t:TypeId) (b:Nat×Nat),w.heap.size<=k->w.heap[k]? =T (.cells a t b)->False:=fun k a t b z y=>by have:=Ae y;omega
 refine⟨?_,h.fn.d8 s (fun k d q=>?_) (fun k a t b j l=>(e k a t b j l).elim),h.st.d8 s (fun k d q=>?_) (fun k a t b j l=>(e k a t b j l).elim)⟩
 .have:=h.pr;unfold Cg at this⊢;rw[c.block i (by have:=Ae this;omega)];exact this
 .obtain⟨a,g,_⟩:=h.fn;obtain⟨_,_,_,f⟩:=CB g d;exact e _ _ _ _ q f
 .obtain⟨a,g,_⟩:=h.st;obtain⟨_,_,_,f⟩:=CB g d;exact e _ _ _ _ q f
abbrev XT(t:Tk):Array Value:=#[.string t.d9,G A t.pos,G A t.sort]
structure K8(P:List PFn)(pn cn B sb pb:Nat)(nv cv ev:Value)(w0:World)(s:Ls)(w:World):Prop where
 p:Rb P pn cn B sb pb nv cv ev s w
 low:Below B w0 w
theorem K8.s9{P f a B g e d b c j s w i}(h:K8 P f a B g e d b c j s w)(k:O kJ w i):K8 P f a B g e d b c j s i:=⟨h.p.s9 k,h.low.trans (k.dI h.p.b (fun _ q=>q.elim))⟩
theorem K8.next{P g d B c f e a b l s j w i}(h:K8 P g d B c f e a b l s w)(k:Rb P g d B c f e a b j i)(o:Ea c a b w i):K8 P g d B c f e a b l j i:=⟨k,h.low.trans (h.p.m.low h.p.b o)⟩
structure XN(pb Bp B:Nat)(U:Nat->Prop)(fv sv:Value)(rf:List RF)(fs:List FS)(pl ca:Nat)(w0:World):Prop where
 rp:Pe pb Bp U fv sv rf fs pl ca w0
 b:w0.heap.size<=B
 rn:rf.length<=4001
 fn:fs.length<=4001
 nz:∀f,f∈rf->f.name.d9.size<=4000
theorem XN.at{e a B f b}{U:Nat->Prop}{d i g c j w}(h:XN e a B U d i g c f b j)(k:Below B j w):Pe e a U d i g c f b w:=h.rp.low h.b k
theorem Hw{P:List PFn}{pn cn B S R X pl ca:Nat}{nv cv ev:Value}{U:Nat->Prop}{fv sv:Value}{i:List RF}{fs:List FS}{V:World}(E:XN R X B U fv sv i fs pl ca V){s:Ls}{w:World}(h:K8 P pn cn B S R nv cv ev V s w)(u:FS)(L F Q:Value)(a5:∃a l c,L=Y a l c)(a6:∃a l c,F=Y a l c)(a8:∃a l c,Q=Y a l c)(t:Tk)(N:u.dD<i.length)(ht:t.d9.size<=4000):
 Calls prog 58 #[.pointer (T ⟨S,0,Z⟩),.agg (Br u L F Q),.agg (XT t)] w fun e w'=>e=.returned (.string (i[u.dD].name.d9++⟨#[46]⟩++t.d9))/\O kJ w w':=by
 obtain⟨n,y,q,rfl⟩:=a5;obtain⟨o,z,r,rfl⟩:=a6;obtain⟨p,C,v,rfl⟩:=a8;have hz:=E.nz _ (iA N);have j:=J (((O.refl kJ w).alloc (.cells (Br u (Y n y q) (Y o z r) (Y p C v)) 92)).alloc (.cells (XT t) 49));have k:=J ((W.new w (Br u (Y n y q) (Y o z r) (Y p C v)) 92).alloc (.cells (XT t) 49));have m:D (W (w.heap.size+1) (XT t) 49 ((w.alloc (.cells (Br u (Y n y q) (Y o z r) (Y p C v)) 92)).alloc (.cells (XT t) 49))):=by have:=W.new (w.alloc (.cells (Br u (Y n y q) (Y o z r) (Y p C v)) 92)) (XT t) 49;simp only[World.size_alloc]at this;exact this
 have d:=J (h.s9 j.o);have b:=J (E.at d.o.low);obtain⟨nm,H⟩:∃x,i[u.dD].name.d9=x:=⟨_,rfl⟩;rw[H]at hz⊢;have a4:=J H;clear h E H;unfold Br at*;go_enter func58,ntmps58;go_upto_region 1 with fail;generalize (w.alloc _).alloc _=b0 at j k m d b⊢;have s0:=d.o.p.m.bx.cell 0;have b3:=Ae d.o.p.m.bx;have I:=b.o.pr;have f0:=Ak I 0;have lp:=Ae I;have a9:=k.o.cell 14;have b1:=Ae k.o;have y0:=m.o.cell 0;have b2:=Ae m.o;obtain⟨cs,f,_⟩:=b.o.fn;obtain⟨ga,gl,gc,rfl⟩:=Ad f;have a7:=Ag f;subst a7;obtain⟨g,rfl⟩:=Ap f (by omega);have lg:=(f.lt g rfl).2;obtain⟨tv,F,vv,M,_⟩:=b.o.fn.get N;have K:=M 0 (by decide);rw[iH]at K;simp only[ER,gR,gP,gQ]at s0 f0 a9 y0 K;rw[a4.o]at K;have ti:(u.dD:Int)<(i.length:Int):=by omega
 have a0:=j;clear M f k m d b I j;go_quiet((fail));have O1:=J (a0.o.drewN nq);go_wp2_with fail;go_ret;exact⟨rfl,O1.o⟩
def Ui(a:List RF)(f v:ByteArray):Bool:=decide (0<=BC (a.map fun x=>x.name.d9) f 0) && decide (0<=BC ((a[(BC (a.map fun x=>x.name.d9) f 0).toNat]?.map fun x=>x.t8).getD []) v 0)
theorem Wj{L u n H B:Nat}{nv N P z:Value}{U:Nat->Prop}{C M:Value}{a:List RF}{V:List FS}{w:World}(c:Pe u n U C M a V H B w)(a1:a.length<=4001)(s:∀f,f∈a->f.t8.length<=20000)(l:W L #[.pointer (T ⟨u,0,Z⟩),nv,N,P,z] 88 w)(f v:ByteArray):
 Calls prog 27 #[.pointer (T ⟨L,0,Z⟩),.string f,.string v] w fun e m=>e=.returned (.bool (Ui a f v))/\m=w:=by
 have o:=J (DP n u H B C M a f w c.pr c.fn a1);have s0:=l.cell 0;have ls:=Ae l;have Q:=Ak c.pr 0;have lp:=Ae c.pr;simp only[gR,gP]at s0 Q;obtain⟨I,q2,K⟩:=C0 (a.map fun x=>x.name.d9) f 0;have d:D (Ui a f v=(decide (0<=BC (a.map fun x=>x.name.d9) f 0) && decide (0<=BC ((a[(BC (a.map fun x=>x.name.d9) f 0).toNat]?.map fun x=>x.t8).getD []) v 0))):=rfl;obtain⟨R,p⟩:∃R,Ui a f v=R:=⟨_,rfl⟩;rw[p]at d⊢;rw[iT]at K;obtain⟨i,r⟩:∃i,BC (a.map fun x=>x.name.d9) f 0=i:=⟨_,rfl⟩;rw[r]at o d q2 K;by_cases a3:0<=i
 .obtain⟨g,rfl⟩:∃g:Nat,i=g:=⟨i.toNat,by omega⟩;have q:g<a.length:=by omega
  obtain⟨rs,h,_⟩:=c.fn;obtain⟨ga,gl,gc,rfl⟩:=Ad h;have a0:=Ag h;subst a0;obtain⟨S,rfl⟩:=Ap h (by omega);have lg:=(h.lt S rfl).2;obtain⟨tv,z,vv,E,a2,X,t⟩:=c.fn.get q;obtain⟨v1,v2,v3,rfl⟩:=Ad t;have n6:=E 6 (by decide);simp only[ER,gR,gP,gQ]at n6;have y:=J (GW n _ a[g].t8 v w t (s _ (iA q)));have k:R=decide (0<=BC a[g].t8 v 0):=by rw[d.o,Int.toNat_natCast,gV q];simp
  obtain⟨j,F⟩:∃j,BC a[g].t8 v 0=j:=⟨_,rfl⟩;rw[F]at y k;have tg:decide ((0:Int)<=(g:Int))=true:=by simp
  clear l s p I r E a2 X t h c d F;subst k;go_enter func27,ntmps27;go_wp2_with fail;refine o.o.mono ?_;rintro e m ⟨rfl,b⟩;have b:=b.symm;subst b;go_wp2_with fail;refine y.o.mono ?_;rintro e m ⟨rfl,b⟩;have b:=b.symm;subst b;go_wp2_with fail;go_ret;exact⟨rfl,rfl⟩
 .obtain rfl:i= -1:=by omega
  have k:R=false:=by rw[d.o];rfl
  clear l s p I r c d;subst k;go_enter func27,ntmps27;go_wp2_with fail;refine o.o.mono ?_;rintro e m ⟨rfl,b⟩;have b:=b.symm;subst b;go_wp2_with fail;go_ret;exact⟨rfl,rfl⟩
structure LsK(P:List PFn)(m d j:Nat)(a:List RF)(b:List FS):Prop where
 nm:NmP P
 hy:AnHy P m d j
 len:a.length=P.length
 name:∀f (h:f<a.length),a[f].name.d9=CR P f
 tkl:∀f (h:f<a.length),a[f].cQ.length=(As P f).u9
 tkt:∀f (h:f<a.length) i (h':i<a[f].cQ.length),a[f].cQ[i].d9=Ii P f i
 dC:b.length<=4001
 z:Pb 4000 b
 dD:∀(k:Nat) (u:FS),b[k]? =T u->u.dD<a.length
 rule:∀(k:Nat) (u:FS),b[k]? =T u->(u.kind=12\/u.kind=13)\/∃r,MxR P u r
 stmt:∀r,LZ P r->(r.s.kind=11\/r.s.kind=12)\/∃(k:Nat) (u:FS),b[k]? =T u/\MxR P u r
theorem Lm{P:List PFn}{m d j:Nat}(c:AnHy P m d j){f v:Nat}(g:f<P.length)(h:v<(As P f).t8.length):CR P f++⟨#[46]⟩++Ii P f v=Cd P (vN f v):=by
 have:=c.ok.dC;have:=c.ok.ok.t8 f;have e:Q6 (vN f v)=⟨0,f,v⟩:=by unfold Q6 Dz vN;rw[jR (by omega)];simp only;rw[show(f*12+v) / 12=f by omega,show(f*12+v) % 12=v by omega]
 unfold Cd IX CR;rw[e];simp only[show¬(0:Nat)=1 by omega,show¬(0:Nat)=2 by omega,if_false];apply ByteArray.ext;apply Array.ext';simp
def YF(a:List RF)(u:FS)(t:Tk):ByteArray:=(a[u.dD]?.map fun f=>f.name.d9).getD ByteArray.empty++⟨#[46]⟩++t.d9
theorem Mg{a:List RF}{u:FS}{t:Tk}(h:u.dD<a.length):a[u.dD].name.d9++⟨#[46]⟩++t.d9=YF a u t:=by unfold YF;rw[gV h];rfl
section
variable{P:List PFn}{m d j:Nat}{a:List RF}{b:List FS}(K:LsK P m d j a b){u:FS}{r:Rl}(M:MxR P u r)
include K M
theorem LsK.st:aI P (As P r.f) r.s:=K.hy.ok.ok.ok r.f M.rl.1 r.s M.rl.2
theorem LsK.ix:u.dD<a.length:=by rw[K.len,M.dD];exact M.rl.1
theorem LsK.nmOf{v:Nat}{t:Tk}(e:v<(As P r.f).t8.length)(c:Ii P r.f v=t.d9):YF a u t=Cd P (vN r.f v):=by rw[<-Mg (K.ix M),K.name _ (K.ix M),M.dD,<-c];exact Lm K.hy M.rl.1 e
theorem LsK.tgx(c:r.s.kind≠0)(e:r.s.kind≠10):YF a u u.p=Cd P r.tg/\AM P d r.tg:=by have:=M.dC;have f:=(K.st M).tg c e (by omega) (by omega);exact⟨K.nmOf M f (M.p c e),Bm M.rl.1 f⟩
theorem LsK.srx(h:r.s.kind=2\/r.s.kind=3\/r.s.kind=5\/r.s.kind=6\/r.s.kind=8\/r.s.kind=9\/r.s.kind=10):YF a u u.q=Cd P r.sr/\AM P d r.sr:=by have c:=(K.st M).sr h;exact⟨K.nmOf M c (M.q h),Bm M.rl.1 c⟩
theorem LsK.arx(h:r.s.kind=7\/r.s.kind=8):u.args.length=r.s.args.length/\∀i (f:i<u.args.length) (c:i<r.s.args.length),YF a u u.args[i]=Cd P (vN r.f r.s.args[i])/\AM P d (vN r.f r.s.args[i]):=by
 have e:=M.args h;have k:u.args.length=r.s.args.length:=by have:=congrArg List.length e;simpa using this
 refine⟨k,fun i f c=>?_⟩;have g:=(K.st M).args _ (iA c);refine⟨K.nmOf M g ?_,Bm M.rl.1 g⟩;have:=congrArg (fun l=>l[i]?) e;simp only[iV,gV f,gV c,Option.map_some,gX]at this;exact this.symm
omit M in
theorem LsK.pax{g i:Nat}(c:g<a.length)(h:i<a[g].cQ.length):a[g].name.d9++⟨#[46]⟩++a[g].cQ[i].d9=Cd P (vN g i)/\AM P d (vN g i):=by
 have e:g<P.length:=by rw[<-K.len];exact c
 have f:i<(As P g).t8.length:=by have:=K.tkl g c;have:=K.hy.ok.ok.eH g;omega
 rw[K.name g c,K.tkt g c i h];exact⟨Lm K.hy e f,Bm e f⟩
end
theorem ZF{l:List TF}(q:GoodP l){a:List RF}{b:List FS}(S:RuS (fnN l) (paN l) (xfR l 0 0) a b)(C:Pc b a)(F:Pb 4000 b)(y:bQ a l):LsK (Bl (fnN l) l 0 0) (vx (fnN l) EN) (BU (fnN l) l 0 0).1 (BU (fnN l) l 0 0).2 a b:=by
 have I:a.length=l.length:=by have:=S.h.eN;simp only[fnN,iT]at this;omega
 refine⟨q.gG,q.anHy,by rw[D6];exact I,fun f h=>?_,fun f h=>?_,fun f h i z=>?_,S.fZ,F,fun k u v=>?_,fun k u v=>YD q S C v,fun r x=>YE q S x⟩
 .have n:f<l.length:=by omega
  unfold CR;rw[(q.one f n).1];have:=S.h.name h;rw[this];unfold V7 fnN;rw[iV,gV n];rfl
 .have n:f<l.length:=by omega
  rw[y f h n,iT,(q.one f n).2.2.1]
 .have n:f<l.length:=by omega
  have e:=y f h n;have B:i<l[f].u9.length:=by rw[e,iT]at z;exact z
  unfold Ii;rw[(q.one f n).2.1];unfold CY;rw[jT (by rw[iT];exact B),iV,gV B];simp only[e,jE,Option.map_some,Option.getD_some];rfl
 .obtain⟨g,H,x⟩:=C k (List.getElem?_eq_some_iff.1 v).1;obtain⟨f,n,rfl⟩:=iP.1 H;obtain⟨t,p,c,o,_⟩:=Zi (S.cT f n) x;match t,o with
  |.mk s [],o=> obtain⟨E,e,K,_⟩:=o;rw[v]at e;cases e;rw[K.dD];exact n
  |.mk s [(_,L)],o=> obtain⟨E,e,w,_⟩:=o;rw[v]at e;cases e;rw[w];exact n
  |.mk s [(_,L),(_,M)],o=> obtain⟨E,e,w,_⟩:=o;rw[v]at e;cases e;rw[w];exact n
  |.mk _ (_::_::_::_),o=>exact o.elim
theorem Wy(a:Nat)(p:a<=100000)(w:World):
 Calls prog 104 #[G A a] w fun e h=>∃x:ByteArray,e=.returned (.string x)/\x.size<=a+1/\O kJ w h:=by
 go_enter func104,ntmps104;go_wp2_with fail;go_loopw[0,3] (fun i v wr=>∃(n:Nat) (x:ByteArray),n<=a/\i=G A n/\v=.string x/\x.size+n<=a+1/\D (O kJ w wr)) (fun i _ _=>(intOf i).toNat)
 case atStart=>exact⟨a,_,by omega,rfl,rfl,by show 1+a<=a+1;omega,O.refl _ _⟩
 case round=>
  obtain⟨n,x,o,rfl,rfl,s,b⟩:=hrel;by_cases m:0<n
  .have g:decide ((0:Int)<(n:Int))=true:=by simp;omega
   have r:(n:Int).tmod 10=((n % 10:Nat):Int):=by rw[Int.tmod_eq_emod_of_nonneg (by omega)];omega
   have q:(n:Int).tdiv 10=((n / 10:Nat):Int):=by rw[Int.tdiv_eq_ediv_of_nonneg (by omega)];omega
   go_wp2_with fail;have f:=run_convert_bytes_arg (P:=prog) (wr.alloc (.cells #[.int .u8 (65+(n:Int) % 10)] 5)) 179 5 rfl rfl wr.heap.size 0 1 1 [65+(n:Int) % 10] rfl (fun i l=>by
    obtain rfl:i=0:=by omega
    exact(W.new wr #[.int .u8 (65+(n:Int) % 10)] 5).cell 0) 9 rfl
   rw[f];obtain⟨y,c⟩:∃y,strOfNums [65+(n:Int) % 10]=y:=⟨_,rfl⟩;rw[c];have t:y.size=1:=by rw[<-c];rfl
   have d:=J (b.o.alloc (.cells #[.int .u8 (65+(n:Int) % 10)] 5));generalize wr.alloc (.cells #[.int .u8 (65+(n:Int) % 10)] 5)=j at d⊢;clear f c b;have k:¬(9223372036854775807<x.size+y.size):=by omega
   go_wp2_with fail;go_roundw
   case rel=>exact⟨n / 10,x++y,by omega,by go_num,rfl,by rw[ByteArray.size_append];omega,d⟩
   case measure=>simp[intOf];omega
  .have g:decide ((0:Int)<(n:Int))=false:=by simp;omega
   go_wp2_with fail;go_ret;exact⟨x,rfl,by omega,b.o⟩
theorem US(B C:Nat)(r s:Value)(l:List ByteArray)(w:World)(j:Au B w r l)(m:Au C w s l)(M:l.length<=20000):
 Calls prog 65 #[r,s] w fun e n=>e=.returned (.bool true)/\O kJ w n:=by
 obtain⟨z,E,F,rfl⟩:=Ad j;have v:=Ag j;subst v;obtain⟨H,I,K,rfl⟩:=Ad m;have x:=Ag m;subst x;have t:=J j;have u:=J m;have R:decide ((l.length:Int)=(l.length:Int))=true:=by simp
 have Q:((l.length:Int)==(l.length:Int))=true:=by simp
 clear j m;go_enter func65,ntmps65;go_wp2_with fail;go_loopw[5] (fun i wr=>∃k:Nat,k<=l.length/\i=G A k/\D (O kJ w wr)) (fun i _=>l.length-(intOf i).toNat)
 case atStart=>exact⟨0,by omega,rfl,O.refl _ _⟩
 case round=>
  obtain⟨k,L,rfl,a⟩:=hrel;by_cases p:k<l.length
  .have y:decide ((k:Int)<(l.length:Int))=true:=by simp;omega
   have b:=Ac t.o a.o (fun _ _ q=>q);have f:=Ac u.o a.o (fun _ _ q=>q);obtain⟨g,rfl⟩:=Ap b (by omega);obtain⟨h,rfl⟩:=Ap f (by omega);have c:=Hk b k p;have d:=Hk f k p;have N:=(b.lt g rfl).2;have P:=(f.lt h rfl).2;obtain⟨X,o⟩:∃X,l[k]=X:=⟨_,rfl⟩;rw[o]at c d;have S:(X.toList==X.toList)=true:=by simp
   clear b f o;go_upto_region 6 with fail;go_region_held3(fun n=>n.cell? ⟨g,k,Z⟩=T (.string X)/\n.cell? ⟨h,k,Z⟩=T (.string X)) (go_keep) (fail);go_wp2_with fail;go_roundw
   case rel=>exact⟨k+1,by omega,by go_num,a.o.drew⟩
   case measure=>simp[intOf];omega
  .have y:decide ((k:Int)<(l.length:Int))=false:=by simp;omega
   go_wp2_with fail;go_ret;exact⟨rfl,a.o⟩

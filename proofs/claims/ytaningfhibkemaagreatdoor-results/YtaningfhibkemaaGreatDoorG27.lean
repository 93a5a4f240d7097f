/- Part of the proof: LsA LsB LsC LsD LsE LsF. -/
import Derived.Test.YtaningfhibkemaaGreatDoorG26
import Derived.Test.YtaningfhibkemaaGreatDoorG37
set_option maxRecDepth 100000
set_option maxHeartbeats 2000000
namespace Go.Proofs.YtaningfhibkemaaGreatDoor
open Go.Proofs.Tryz Go.RowKit
mutual
def Oi:TS->Nat->Nat->List (VS×Nat×Nat)
 |.mk s [],pl,ca=>[(s,pl,ca)]
 |.mk _ [(_,ts)],pl,ca=>MG ts pl ca
 |.mk _ ((_,ts)::(_,ts2)::_),pl,ca=>MG ts pl ca++MG ts2 (pl+nL 1 ts) (ca+nL 8 ts)
def MG:List TS->Nat->Nat->List (VS×Nat×Nat)
 |[],_,_=>[]
 |t::ts,pl,ca=>Oi t pl ca++MG ts (pl+nK 1 t) (ca+nK 8 t)
end
structure aX(d:List FS)(m:Nat)(x:VS×Nat×Nat)(u:FS):Prop where
 sc:SC x.1 u m
 pl:x.1.kind=1->u.l7=x.2.1+1
 ca:x.1.kind=8->u.l7=x.2.2+1
section
variable{d:List FS}{m:Nat}
mutual
theorem aH:∀(t:TS) (i pl ca:Nat),FN d m t i pl ca->∀x,x∈Oi t pl ca->∃(j:Nat) (u:FS),d[j]? =some u/\aX d m x u
 |.mk s [],i,pl,ca,h,x,hx=>by obtain⟨u,h1,h2,h3,h4⟩:=h;rw[Oi,iB]at hx;subst hx;exact⟨i,u,h1,h2,h3,h4⟩
 |.mk s [(_,ts)],i,pl,ca,h,x,hx=>by obtain⟨u,_,_,_,_,h5⟩:=h;rw[Oi]at hx;exact LM ts _ pl ca h5 x hx
 |.mk s [(_,ts),(_,ts2)],i,pl,ca,h,x,hx=>by
  obtain⟨u,_,_,_,_,h5,h6⟩:=h;rw[Oi]at hx;rcases iM.1 hx with q|q
  .exact LM ts _ pl ca h5 x q
  .exact LM ts2 _ _ _ h6 x q
 |.mk _ (_::_::_::_),_,_,_,h,_,_=>h.elim
theorem LM:∀(ts:List TS) (l:List Nat) (pl ca:Nat),Tz d m ts l pl ca->∀x,x∈MG ts pl ca->∃(j:Nat) (u:FS),d[j]? =some u/\aX d m x u
 |[],_,_,_,_,x,hx=>by rw[MG]at hx;cases hx
 |t::ts,l,pl,ca,h,x,hx=>by
  obtain⟨j,l',_,h1,h2⟩:=h;rw[MG]at hx;rcases iM.1 hx with q|q
  .exact aH t j pl ca h1 x q
  .exact LM ts l' _ _ h2 x q
end
theorem GP:∀(f:List TS) (l:List Nat) (e a:Nat),Tz d m f l e a->∀k,k∈l->∃t p c,FN d m t k p c/\∀x,x∈Oi t p c->x∈MG f e a
 |[],_,_,_,h,k,b=>by have h:_=[]:=h;rw[h]at b;cases b
 |t::f,l,e,a,h,k,b=>by
  obtain⟨j,s,rfl,o,r⟩:=h;rw[MG];rcases iZ.1 b with rfl|q
  .exact⟨t,e,a,o,fun x g=>List.mem_append_left _ g⟩
  .obtain⟨u,p,c,i,n⟩:=GP f s _ _ r k q;exact⟨u,p,c,i,fun x g=>jT _ (n x g)⟩
theorem Y7{G:List TS}{l:List Nat}{F B:Nat}(h:Tz d m G l F B){k:Nat}(M:KV d l k):∃t p c,FN d m t k p c/\∀x,x∈Oi t p c->x∈MG G F B:=by
 induction M with
 |root q=>exact GP G l F B h _ q
 |@cJ j k u _ f L g E=>
  obtain⟨t,p,c,a,b⟩:=E;match t,a,b with
  |.mk s [],a,_=>
   obtain⟨A,e,w,_⟩:=a;rw[f]at e;cases e;have:=w.kind;have:=w.cR;have:Du s.kind<=11:=by
    unfold Du;repeat' split
    all_goals omega
   omega
  |.mk s [(_,z)],a,b=> obtain⟨A,e,_,_,_,C⟩:=a;rw[f]at e;cases e;obtain⟨y,v,i,o,r⟩:=GP z _ p c C _ g;exact⟨y,v,i,o,fun x n=>b x (by rw[Oi];exact r x n)⟩
  |.mk s [(_,z),(_,H)],a,b=> obtain⟨A,e,_,_,_,C,_⟩:=a;rw[f]at e;cases e;obtain⟨y,v,i,o,r⟩:=GP z _ p c C _ g;exact⟨y,v,i,o,fun x n=>b x (by rw[Oi];exact List.mem_append_left _ (r x n))⟩
  |.mk _ (_::_::_::_),a,_=>exact a.elim
 |@other j k u _ f L g E=>
  obtain⟨t,p,c,a,b⟩:=E;match t,a,b with
  |.mk s [],a,_=>
   obtain⟨A,e,w,_⟩:=a;rw[f]at e;cases e;have:=w.kind;have:=w.cR;have:Du s.kind<=11:=by
    unfold Du;repeat' split
    all_goals omega
   omega
  |.mk s [(_,z)],a,_=> obtain⟨A,e,_,_,I,_⟩:=a;rw[f]at e;cases e;rw[I]at g;cases g
  |.mk s [(_,z),(_,H)],a,b=> obtain⟨A,e,_,_,_,_,K⟩:=a;rw[f]at e;cases e;obtain⟨y,v,i,o,r⟩:=GP H _ _ _ K _ g;exact⟨y,v,i,o,fun x n=>b x (by rw[Oi];exact jT _ (r x n))⟩
  |.mk _ (_::_::_::_),a,_=>exact a.elim
end
theorem Zm{fn:List ByteArray}{par:List Nat}{X:List XF}{j:List RF}{d:List FS}(S:RuS fn par X j d)(C:OP d j){k:Nat}{u:FS}(h:d[k]? =some u):(u.kind=12\/u.kind=13)\/∃f x,f<j.length/\x∈MG (CC X f).cF (CC X f).pl (CC X f).ca/\aX d f x u:=by
 obtain⟨g,q,r⟩:=C k (List.getElem?_eq_some_iff.1 h).1;obtain⟨f,l,rfl⟩:=iF.1 q;obtain⟨t,p,c,a,i⟩:=Y7 (S.cJ f l) r;match t,a,i with
 |.mk s [],a,i=> obtain⟨n,e,v,b,o⟩:=a;rw[h]at e;cases e;exact .inr ⟨f,(s,p,c),l,i _ (by rw[Oi];exact iB.2 rfl),v,b,o⟩
 |.mk s [(_,w)],a,_=> obtain⟨n,e,_,b,_⟩:=a;rw[h]at e;cases e;omega
 |.mk s [(_,w),(_,y)],a,_=> obtain⟨n,e,_,_,b,_⟩:=a;rw[h]at e;cases e;exact .inl (.inl b)
 |.mk _ (_::_::_::_),a,_=>exact a.elim
structure OT(fn V:List ByteArray)(xs:List (VS×Nat×Nat))(l:List Bb):Prop where
 of:∀u,u∈l->(u.kind=11\/u.kind=12)\/∃x,x∈xs/\Eg fn V x.1 u x.2.1 x.2.2
 back:∀x,x∈xs->∃u,u∈l/\Eg fn V x.1 u x.2.1 x.2.2
theorem Eg.upd{fn V s u e c}(h:Eg fn V s u e c)(a b:Nat):Eg fn V s {u with next:=a,taken:=b} e c:=⟨h.kind,h.cO,h.func,h.cC,h.field,h.l7,h.call,h.args⟩
theorem Yr{l:List Bb}{i:Nat}{f:Bb->Bb}{t:Bb}(h:t∈l):t∈l.modify i f\/f t∈l.modify i f:=by
 obtain⟨j,b,e⟩:=iF.1 h;by_cases a:i=j
 .refine .inr (iF.2 ⟨j,by simpa using b,?_⟩);rw[List.getElem_modify,jH a,e]
 .refine .inl (iF.2 ⟨j,by simpa using b,?_⟩);rw[List.getElem_modify,jG a,e]
theorem OT.mod{fn V g l}(h:OT fn V g l)(i:Nat){f:Bb->Bb}(c:∀u,∃a b,f u={u with next:=a,taken:=b}):OT fn V g (l.modify i f):=by
 refine⟨fun u j=>?_,fun x k=>?_⟩
 .rcases IE j with q|⟨v,q,rfl⟩
  .exact h.of u q
  .obtain⟨a,b,e⟩:=c v;rw[e];rcases h.of v q with r|⟨x,n,o⟩
   .exact .inl r
   .exact .inr ⟨x,n,o.upd a b⟩
 .obtain⟨u,q,r⟩:=h.back x k;rcases Yr (i:=i) (f:=f) q with z|z
  .exact⟨u,z,r⟩
  .obtain⟨a,b,e⟩:=c u;exact⟨_,z,by rw[e];exact r.upd a b⟩
theorem OT.snoc{fn V a l u}(h:OT fn V a l)(b:u.kind=11\/u.kind=12):OT fn V a (l++[u]):=by
 refine⟨fun v c=>?_,fun x e=>?_⟩
 .rcases iM.1 c with q|q
  .exact h.of v q
  .rw[iB.1 q];exact .inl b
 .obtain⟨v,q,r⟩:=h.back x e;exact⟨v,List.mem_append_left _ q,r⟩
theorem OT.one{fn V b l u}{x:VS×Nat×Nat}(h:OT fn V b l)(a:Eg fn V x.1 u x.2.1 x.2.2):OT fn V (b++[x]) (l++[u]):=by
 refine⟨fun v c=>?_,fun y e=>?_⟩
 .rcases iM.1 c with q|q
  .rcases h.of v q with r|⟨y,i,j⟩
   .exact .inl r
   .exact .inr ⟨y,List.mem_append_left _ i,j⟩
  .rw[iB.1 q];exact .inr ⟨x,jT _ (iB.2 rfl),a⟩
 .rcases iM.1 e with q|q
  .obtain⟨v,f,g⟩:=h.back y q;exact⟨v,List.mem_append_left _ f,g⟩
  .rw[iB.1 q];exact⟨u,jT _ (iB.2 rfl),a⟩
section
variable{fn:List ByteArray}{par:List Nat}{V:List ByteArray}
mutual
theorem SV:∀(t:TS) (a:Nat) (b:Bd) (xs),XK fn par t b.bX->(∃more,V=b.bX++dS t++more)->OT fn V xs b.r9->OT fn V (xs++Oi t b.pl b.ca) (Dq fn t a b).r9
 |.mk s [],a,b,xs,ho,hV,h=>by obtain⟨more,rfl⟩:=hV;rw[Dq,Oi,A5];refine h.one (x:=(s,b.pl,b.ca)) ?_;rw[jK];exact NE ho.2 a _
 |.mk s [(_,ts)],a,b,xs,ho,hV,h=>by
  obtain⟨hk,ho⟩:=ho;obtain⟨n1,n2,n3⟩:=DW fn s a b hk;have h1:OT fn V xs (Ar fn s a b).r9:=by rw[A5];exact h.snoc hk
  have hV':∃more,V=(Ar fn s a b).bX++dL ts++more:=by obtain⟨more,rfl⟩:=hV;rw[n1];exact⟨more,by simp only[dS,dB,show¬s.kind=0 by omega,if_false,jE,iP]⟩
  rw[Dq,Oi];have I:=fun a'=>Jo ts a' (Ar fn s a b) xs (by rw[n1];exact ho) hV' h1
  rw[n2,n3]at I;split
  .exact(I _).mod _ fun u=>⟨u.next,_,rfl⟩
  .split
   .exact(I _).mod _ fun u=>⟨u.next,_,rfl⟩
   .omega
 |.mk s [(_,ts),(_,ts2)],a,b,xs,ho,hV,h=>by
  obtain⟨hk,ho,ho2⟩:=ho;obtain⟨n1,n2,n3⟩:=DW fn s a b (.inl hk);have h1:OT fn V xs (Ar fn s a b).r9:=by rw[A5];exact h.snoc (.inl hk)
  obtain⟨more,hV⟩:=hV;have e:V=(Ar fn s a b).bX++dL ts++(dL ts2++more):=by rw[hV,n1];simp only[dS,dB,show¬s.kind=0 by omega,if_false,jE,iP,jK]
  have I:=Jo ts a (Ar fn s a b) xs (by rw[n1];exact ho) ⟨_,e⟩ h1;have R:=DM (fn:=fn) (par:=par) ts a (Ar fn s a b) (by rw[n1];exact ho);rw[Dq,Oi,jH hk];simp only;have I2:=Jo ts2 a ((AT fn ts a (Ar fn s a b)).tk b.r9.length (AM ts a (Ar fn s a b))) _ (by
   show Iu fn par ts2 (AT fn ts a (Ar fn s a b)).bX;rw[R.bX,n1];exact ho2) ⟨more,by
   show V=(AT fn ts a (Ar fn s a b)).bX++_++_;rw[R.bX,jK _ (dL ts2)];exact e⟩ (I.mod _ fun u=>⟨u.next,_,rfl⟩)
  have e1:((AT fn ts a (Ar fn s a b)).tk b.r9.length (AM ts a (Ar fn s a b))).pl=b.pl+nL 1 ts:=by show(AT fn ts a (Ar fn s a b)).pl=_;rw[R.pl,n2]
  have e2:((AT fn ts a (Ar fn s a b)).tk b.r9.length (AM ts a (Ar fn s a b))).ca=b.ca+nL 8 ts:=by show(AT fn ts a (Ar fn s a b)).ca=_;rw[R.ca,n3]
  rw[e1,e2,n2,n3]at I2;rw[<-jK];exact I2.mod _ fun u=>⟨_,u.taken,rfl⟩
 |.mk _ (_::_::_::_),_,_,_,ho,_,_=>ho.elim
theorem Jo:∀(ts:List TS) (a:Nat) (b:Bd) (xs),Iu fn par ts b.bX->(∃more,V=b.bX++dL ts++more)->OT fn V xs b.r9->OT fn V (xs++MG ts b.pl b.ca) (AT fn ts a b).r9
 |[],a,b,xs,_,_,h=>by rw[AT,MG,iP];exact h
 |[t],a,b,xs,ho,hV,h=>by rw[AT,MG,MG,iP];exact SV t a b xs ho.1 (by obtain⟨more,e⟩:=hV;exact⟨more,by rw[e];simp only[dL,iP]⟩) h
 |t::t2::ts,a,b,xs,ho,hV,h=>by obtain⟨more,e⟩:=hV;have I:=SV t (b.r9.length+EU t) b xs ho.1 ⟨dL (t2::ts)++more,by rw[e];simp only[dL,jK]⟩ h;have R:=Jp (fn:=fn) (par:=par) t (b.r9.length+EU t) b ho.1;rw[AT,MG,<-jK];have I2:=Jo (t2::ts) a (Dq fn t (b.r9.length+EU t) b) _ (by rw[R.bX];exact ho.2) ⟨more,by rw[e,R.bX];simp only[dL,jK]⟩ I;rw[R.pl,R.ca]at I2;exact I2
end
end
theorem Yy{fn:List ByteArray}{par:List Nat}(t:TF)(b a:Nat)(c:Iu fn par t.cF (t.u9.map fun p=>p.d9)):OT fn (CN fn t b a).t8 (MG t.cF b a) (CN fn t b a).r9:=by have R:=DM (fn:=fn) (par:=par) t.cF (Dr t.cF) (Q8 t b a) c;have:=Jo (V:=(CN fn t b a).t8) t.cF (Dr t.cF) (Q8 t b a) [] c ⟨[],by rw[iP];exact R.bX⟩ ⟨fun u e=>(by cases e),fun x f=>(by cases f)⟩;rw[jE]at this;exact this
theorem ME{l:List ByteArray}{s:ByteArray}(h:s∈l)(z:ByteArray):l[vx l s]?.getD z=s:=by
 have j:∀(l:List ByteArray) (k:Nat),s∈l->l[(Bz l s k).toNat-k]?.getD z=s/\(k:Int)<=Bz l s k:=by
  intro l;induction l with
  |nil=>intro k h;cases h
  |cons a l g=>
   intro k h;rw[Bz];split
   .rename_i e;have:=Ct e;subst this;refine⟨?_,Int.le_refl _⟩;rw[Int.toNat_natCast,Nat.sub_self];rfl
   .rename_i e;rcases iZ.1 h with q|q
    .subst q;exact jO rfl e
    .obtain⟨f,m⟩:=g (k+1) q;refine⟨?_,Z⟩;have b:(Bz l s (k+1)).toNat-k=((Bz l s (k+1)).toNat-(k+1))+1:=Z;rw[b,gG];exact f
 have:=(j l 0 h).1;rw[Nat.sub_zero]at this;exact this
mutual
theorem Zy{fn:List ByteArray}{par:List Nat}{vs:List ByteArray}:∀(t:TS) (pl ca:Nat),bG fn par vs t->∀x,x∈Oi t pl ca->x.1.kind<=10/\bH fn par vs x.1
 |.mk s [],pl,ca,h,x,hx=>by rw[Oi,iB]at hx;subst hx;exact h
 |.mk s [(_,ts)],pl,ca,h,x,hx=>by rw[Oi]at hx;exact LV ts pl ca h.2 x hx
 |.mk s [(_,ts),(_,ts2)],pl,ca,h,x,hx=>by
  rw[Oi]at hx;rcases iM.1 hx with q|q
  .exact LV ts pl ca h.2.1 x q
  .exact LV ts2 _ _ h.2.2 x q
 |.mk _ (_::_::_::_),_,_,h,_,_=>h.elim
theorem LV{fn:List ByteArray}{par:List Nat}{vs:List ByteArray}:∀(ts:List TS) (pl ca:Nat),XT fn par vs ts->∀x,x∈MG ts pl ca->x.1.kind<=10/\bH fn par vs x.1
 |[],_,_,_,x,hx=>by rw[MG]at hx;cases hx
 |t::ts,pl,ca,h,x,hx=>by
  rw[MG]at hx;rcases iM.1 hx with q|q
  .exact Zy t pl ca h.1 x q
  .exact LV ts _ _ h.2 x q
end
structure MxR(P:List PFn)(u:FS)(r:Rl):Prop where
 rl:LP P r
 kind:u.kind=Du r.s.kind
 cR:r.s.kind<=10
 cS:u.cS=r.f
 p:r.s.kind≠0->r.s.kind≠10->Hx P r.f r.s.cO=u.p.d9
 q:r.s.kind=2\/r.s.kind=3\/r.s.kind=5\/r.s.kind=6\/r.s.kind=8\/r.s.kind=9\/r.s.kind=10->Hx P r.f r.s.cC=u.q.d9
 g:r.s.kind=4\/r.s.kind=7->CK P r.s.cC=u.q.d9
 args:r.s.kind=7\/r.s.kind=8->u.args.map (fun t=>t.d9)=r.s.args.map (Hx P r.f)
 field:r.s.kind=3->u.field=r.s.field
 pl:r.s.kind=1\/r.s.kind=8->u.l7=r.s.cA
section
variable{c:List TF}(G:GoodP c){i:List RF}{d:List FS}(S:RuS (fnN c) (paN c) (xfR c 0 0) i d)
include G
theorem Y4{f:Nat}(l:f<c.length){x:VS×Nat×Nat}(z:x∈MG c[f].cF (sK 1 c f) (sK 8 c f)){u:FS}(a:aX d f x u){s:Bb}(w:s∈(As (Bi (fnN c) c 0 0) f).r9)(e:Eg (fnN c) (CP c[f]) x.1 s x.2.1 x.2.2):MxR (Bi (fnN c) c 0 0) u ⟨f,s⟩:=by
 have p:=G.fM.us f;rw[Fm c f l]at p;obtain⟨C,k⟩:=LV _ _ _ p x z;obtain⟨E,A,_,_⟩:=G.one f l;have m:∀b,b∈CP c[f]->Hx (Bi (fnN c) c 0 0) f (vx (CP c[f]) b)=b:=fun b r=>by unfold Hx;rw[A];exact ME r _
 have g:s.kind=x.1.kind:=e.kind;have B:∀t:PT,(Ao t).d9=t.d9:=fun _=>rfl
 refine⟨⟨by show f<_;rw[DU];exact l,w⟩,by rw[a.sc.kind];show _=Du s.kind;rw[g],by show s.kind<=10;omega,a.sc.cS,fun h j=>?_,fun q=>?_,fun q=>?_,fun q=>?_,fun q=>?_,fun q=>?_⟩
 .change s.kind≠0 at h;change s.kind≠10 at j;rw[g]at h j;show Hx _ f s.cO=_;rw[e.cO h j Z,m _ (k.tg h j),a.sc.p];rfl
 .change s.kind=2\/s.kind=3\/s.kind=5\/s.kind=6\/s.kind=8\/s.kind=9\/s.kind=10 at q;rw[g]at q;show Hx _ f s.cC=_;rw[e.cC q,m _ (k.sr q),a.sc.q];rfl
 .change s.kind=4\/s.kind=7 at q;rw[g]at q;show CK _ s.cC=_;have o:=k.func q;rw[e.func q,a.sc.q];have n:=(Io o).1;have v:vx (fnN c) x.1.sr.d9<c.length:=by simpa[fnN]using n
  unfold CK;rw[(G.one _ v).1];have:=ME o ByteArray.empty;rw[gL n]at this;simp only[Option.getD_some,fnN,iU]at this;exact this
 .change s.kind=7\/s.kind=8 at q;rw[g]at q;show _=s.args.map (Hx _ f);rw[e.args q,a.sc.args,List.map_map,List.map_map];exact List.map_congr_left fun t y=>(m _ (k.args q t y)).symm
 .change s.kind=3 at q;rw[g]at q;show _=s.field;rw[e.field,a.sc.field q]
 .change s.kind=1\/s.kind=8 at q;rw[g]at q;show _=s.cA;rcases q with q|q
  .rw[e.l7 q,a.pl q]
  .rw[e.call q,a.ca q]
theorem QD{f:Nat}(a:f<c.length):OT (fnN c) (CP c[f]) (MG c[f].cF (sK 1 c f) (sK 8 c f)) (As (Bi (fnN c) c 0 0) f).r9:=by have:=Yy (fn:=fnN c) (par:=paN c) c[f] (sK 1 c f) (sK 8 c f) (G.dK.ok _ (gQ a));rw[<-(G.one f a).2.1,G.pf f a];exact this
include S
theorem Ys(C:OP d i){k:Nat}{u:FS}(g:d[k]? =some u):(u.kind=12\/u.kind=13)\/∃r,MxR (Bi (fnN c) c 0 0) u r:=by
 rcases Zm S C g with q|⟨f,x,l,b,j⟩
 .exact .inl q
 .have a:f<c.length:=by have:=S.h.eD;simp only[fnN,iJ]at this;omega
  rw[Fm c f a]at b
  obtain⟨s,h,e⟩:=(QD G a).back x b
  exact .inr ⟨_,Y4 G a b j h e⟩
theorem Yt{r:Rl}(b:LP (Bi (fnN c) c 0 0) r):(r.s.kind=11\/r.s.kind=12)\/∃(k:Nat) (u:FS),d[k]? =some u/\MxR (Bi (fnN c) c 0 0) u r:=by
 have a:r.f<c.length:=by have:=b.1;rw[DU]at this;exact this
 rcases(QD G a).of r.s b.2 with q|⟨x,f,g⟩
 .exact .inl q
 .have j:r.f<i.length:=by have:=S.h.eD;simp only[fnN,iJ]at this;omega
  have e:=S.cJ r.f j
  rw[Fm c r.f a]at e
  obtain⟨k,u,h,l⟩:=LM _ _ _ _ e x f
  exact .inr ⟨k,u,h,Y4 G a f l b.2 g⟩
end
def Yk(P:List PFn)(o:Nat):List Nat:=((List.range P.length).flatMap fun f=>(List.range (As P f).t8.length).map (vN f))++(List.range o).flatMap fun n=>(List.range 4).map (pN (n+1))
def Ik(P:List PFn)(o:Nat):List ByteArray:=(Yk P o).map (BU P)
theorem Oe{P:List PFn}{o c:Nat}:c∈Yk P o↔AK P o c:=by
 unfold Yk AK;simp only[iM,List.mem_flatMap,iT,List.mem_range];constructor
 .rintro(⟨f,b,v,a,rfl⟩|⟨n,b,k,a,rfl⟩)
  .exact .inl ⟨f,v,b,a,rfl⟩
  .exact .inr ⟨n+1,k,Z,Z,a,rfl⟩
 .rintro(⟨f,v,b,a,rfl⟩|⟨n,k,b,a,d,rfl⟩)
  .exact .inl ⟨f,b,v,a,rfl⟩
  .exact .inr ⟨n-1,Z,k,d,by rw[show n-1+1=n by omega]⟩
def Od(l:List ByteArray)(s:ByteArray):Bool:=l.any fun a=>a.toList==s.toList
theorem Gc{l:List ByteArray}{s:ByteArray}:Od l s=true↔s∈l:=by
 unfold Od;rw[List.any_eq_true];constructor
 .rintro⟨a,b,e⟩;rw[<-Ct (beq_iff_eq.1 e)];exact b
 .exact fun h=>⟨s,h,jY⟩
structure Ls where
 cells:List (List ByteArray)
 ents:List (List ByteArray)
 more:Bool
def XR(l:List ByteArray):Prop:=l.Pairwise (fun a b=>GC a b=true)
def Vh(P:List PFn)(o c:Nat):Int:=Bz (Ik P o) (BU P c) 0
def Ie(P:List PFn)(o:Nat)(s:Ls)(c:Nat):List ByteArray:=if Vh P o c<0 then[]else s.cells[(Vh P o c).toNat]?.getD []
def Jb(s:Ls)(n:Nat):List ByteArray:=s.ents[n-1]?.getD []
def Ow(P:List PFn)(o:Nat)(s:Ls):Sy:=⟨fun c t=>Er P o t/\BU P t∈Ie P o s c,fun a b=>∀x,x∈Ie P o s a->x∈Ie P o s b,fun n g=>CK P g∈Jb s n⟩
structure QX(P:List PFn)(o p:Nat)(s:Ls):Prop where
 cl:s.cells.length=(Ik P o).length
 cs:∀l,l∈s.cells->XR l
 ci:∀(i:Nat) (l:List ByteArray) (c:Nat),s.cells[i]? =some l->(Yk P o)[i]? =some c->∀x,x∈l->∃t,(least P).I c t/\x=BU P t
 el:s.ents.length=p
 es:∀l,l∈s.ents->XR l
 ei:∀(i:Nat) (l:List ByteArray),s.ents[i]? =some l->∀x,x∈l->∃g,(least P).E (i+1) g/\x=CK P g
def XG(P:List PFn)(s:Ls):Nat:=(List.range (s.cells.length*16400)).countP fun i=>!Od (s.cells[i / 16400]?.getD []) (BU P (i % 16400))
theorem ZL{t u:Nat}(h:QT t=QT u):t=u:=by have a:(Ds t).1=(Ds u).1:=congrArg Tg.kind h;have b:(Ds t).2.1=(Ds u).2.1:=congrArg Tg.cP h;have c:(Ds t).2.2=(Ds u).2.2:=congrArg Tg.cT h;unfold Ds at a b c;by_cases d:t<144<;>by_cases e:t<156<;>by_cases f:u<144<;>by_cases g:u<156<;>simp only[d,e,f,g,if_true,if_false]at a b c<;>omega
theorem R3{l:List (List ByteArray)}{i j:Nat}{v w:List ByteArray}(h:(l.set i v)[j]? =some w):(j=i/\w=v)\/l[j]? =some w:=by
 rw[List.getElem?_set]at h;split at h
 .rename_i e;split at h
  .cases h;exact .inl ⟨e.symm,rfl⟩
  .cases h
 .exact .inr h
theorem Og{l:List (List ByteArray)}{i:Nat}{v w:List ByteArray}(h:w∈l.set i v):w=v\/w∈l:=by
 obtain⟨j,a⟩:=List.mem_iff_getElem?.1 h;rcases R3 a with q|q
 .exact .inl q.2
 .exact .inr (List.mem_of_getElem? q)
theorem Xg{P:List PFn}{o:Nat}{s d:Ls}(i:d.cells=s.cells)(j:∀n x,x∈Jb s n->x∈Jb d n):(Ow P o s).le (Ow P o d):=by
 have e:∀c,Ie P o d c=Ie P o s c:=fun c=>by unfold Ie;rw[i]
 exact⟨fun c t h=>⟨h.1,by rw[e];exact h.2⟩,fun a b h x f=>by rw[e]at f⊢;exact h x f,fun n g h=>j n _ h⟩
structure Fq(P:List PFn)(o p:Nat)(s s':Ls)(R:Sy->Prop):Prop where
 inv:QX P o p s'
 eu:∀n x,x∈Jb s n->x∈Jb s' n
 lf:XG P s'<=XG P s
 stop:s'.more=false->s.more=false/\s'.cells=s.cells/\R (Ow P o s')
 go:s'.more=true->s.more=true\/XG P s'<XG P s
section
variable{P:List PFn}{o p:Nat}{s y A:Ls}{R z:Sy->Prop}
theorem Fq.rf(h:QX P o p s):Fq P o p s s (fun _=>True):=⟨h,fun _ _ q=>q,gI _,fun q=>⟨q,rfl,trivial⟩,fun q=>.inl q⟩
theorem Fq.to(h:Fq P o p s y R)(f:y.cells=s.cells->R (Ow P o y)->z (Ow P o y)):Fq P o p s y z:=⟨h.inv,h.eu,h.lf,fun q=>⟨(h.stop q).1,(h.stop q).2.1,f (h.stop q).2.1 (h.stop q).2.2⟩,h.go⟩
theorem Fq.then(h:Fq P o p s y R)(k:Fq P o p y A z)(l:∀S c:Sy,S.le c->R S->R c):Fq P o p s A (fun S=>R S/\z S):=by
 refine⟨k.inv,fun n x q=>k.eu n x (h.eu n x q),gW k.lf h.lf,fun q=>?_,fun q=>?_⟩
 .obtain⟨e,d,f⟩:=k.stop q;obtain⟨g,i,j⟩:=h.stop e;exact⟨g,d.trans i,l _ _ (Xg d k.eu) j,f⟩
 .rcases k.go q with a|a
  .exact(h.go a).imp id fun b=>Nat.lt_of_le_of_lt k.lf b
  .exact .inr (gY a h.lf)
end
section
variable{P:List PFn}{B o p:Nat}(N:NmP P)(Y:AnHy P B o p){s:Ls}
include Y
theorem Y8{t:Nat}(h:Er P o t):t<16400:=by
 rcases h with q|⟨g,a,rfl⟩
 .exact q.lt Y.ok.cR Y.ok.ok.t8 Y.ok.lp
 .have:=Y.ok.cR;unfold fN;omega
include N
theorem Fi{t u:Nat}(a:Er P o t)(b:Er P o u)(e:BU P t=BU P u):t=u:=
 ZL (YJ N (Sj Y.ok.cR Y.ok.ok.t8 Y.pn a) (Sj Y.ok.cR Y.ok.ok.t8 Y.pn b) (Zx e))
theorem Lr{c:Nat}(h:AK P o c):∃i,Vh P o c=((i:Nat):Int)/\i<(Ik P o).length/\(Yk P o)[i]? =some c:=by
 have e:BU P c∈Ik P o:=iT.2 ⟨c,Oe.2 h,rfl⟩;obtain⟨a,f⟩:=Io e;refine⟨vx (Ik P o) (BU P c),f,a,?_⟩;have d:vx (Ik P o) (BU P c)<(Yk P o).length:=by simpa[Ik]using a
 have b:=ME e ByteArray.empty;rw[gL a]at b;simp only[Option.getD_some,Ik,iU]at b;rw[gL d];have g:=Oe.1 (gQ d);rw[Fi N Y (.inl g) (.inl h) b]
theorem VE{g:Nat}(h:g<P.length):Vh P o (fN g)= -1:=by refine SN (fun q=>?_) 0;obtain⟨c,a,e⟩:=iT.1 q;have a:=Oe.1 a;have:=Fi N Y (.inl a) (.inr ⟨g,h,rfl⟩) e;have b:=a.isC Y.ok.cR Y.ok.ok.t8;have:=Y.ok.cR;unfold Py fN at*;omega
theorem Ra(h:QX P o p s){c:Nat}(g:AK P o c){x:ByteArray}(a:x∈Ie P o s c):∃t,(least P).I c t/\x=BU P t:=by
 obtain⟨i,d,e,f⟩:=Lr N Y g;unfold Ie at a;rw[d,jG Z,Int.toNat_natCast]at a;have b:i<s.cells.length:=by rw[h.cl];exact e
 rw[gL b]at a;exact h.ci i _ c (gL b) f x a
theorem Zk{g:Nat}(h:g<P.length):Ie P o s (fN g)=[]:=by unfold Ie;rw[VE N Y h,jH T]
def aL(s:Ls)(i:Nat)(x:ByteArray):Ls:=if Od (s.cells[i]?.getD []) x=true then s else⟨s.cells.set i (Df (s.cells[i]?.getD []) x),s.ents,true⟩
theorem Zt(h:QX P o p s){c t i:Nat}(w:AK P o c)(E:Vh P o c=((i:Nat):Int))(n:(least P).I c t):Fq P o p s (aL s i (BU P t)) (fun S=>S.I c t):=by
 obtain⟨a,H,v,m⟩:=Lr N Y w;obtain rfl:a=i:=Z;have b:a<s.cells.length:=by rw[h.cl];exact v
 have r:=(Dl Y.ok n).2;have C:∀s:Ls,Ie P o s c=s.cells[a]?.getD []:=fun s=>by unfold Ie;rw[E,jG Z,Int.toNat_natCast]
 unfold aL;split
 .rename_i q;exact(Fq.rf h).to fun _ _=>⟨r,by rw[C];exact Gc.1 q⟩
 .rename_i q;rw[gL b]at q⊢;simp only[Option.getD_some]at q⊢;have u:XG P ⟨s.cells.set a (Df s.cells[a] (BU P t)),s.ents,true⟩<XG P s:=by
   unfold XG;simp only[jL];have I:=Y8 Y r;refine Hh _ (fun x _ f=>?_) ⟨a*16400+t,?_,?_,?_⟩
   .simp only[Bool.not_eq_true']at f⊢;rw[<-Bool.not_eq_true,Gc]at f⊢;intro k;refine f ?_;rw[List.getElem?_set];split
    .rename_i e;rw[<-e,gL b]at k;exact(Ew _ _ _).2 (.inr k)
    .exact k
   .rw[List.mem_range];have:(a+1)*16400<=s.cells.length*16400:=Nat.mul_le_mul_right _ b;omega
   .rw[show(a*16400+t) / 16400=a by omega,show(a*16400+t) % 16400=t by omega,gL b];simpa using q
   .rw[show(a*16400+t) / 16400=a by omega,show(a*16400+t) % 16400=t by omega,List.getElem?_set_self b];simp only[Option.getD_some,Bool.not_eq_false',Gc];exact(Ew _ _ _).2 (.inl rfl)
  refine⟨⟨by simp only[jL];exact h.cl,fun l G=>?_,fun j l d F g x f=>?_,h.el,h.es,h.ei⟩,fun _ _ q=>q,Nat.le_of_lt u,fun q=>(by cases q),fun _=>.inr u⟩
  .rcases Og G with rfl|q
   .exact FE _ _ (h.cs _ (gQ b))
   .exact h.cs l q
  .rcases R3 F with⟨rfl,rfl⟩|q
   .rw[m]at g;cases g;rcases(Ew _ _ _).1 f with rfl|q
    .exact⟨t,n,rfl⟩
    .exact h.ci j _ _ (gL b) m x q
   .exact h.ci j l d q g x f
omit N in
theorem Zp(h:QX P o p s){n g:Nat}(c:(least P).E n g):Fq P o p s ⟨s.cells,s.ents.set (n-1) (Df (Jb s n) (CK P g)),s.more⟩ (fun S=>S.E n g):=by
 obtain⟨⟨r,t⟩,u⟩:=Hl Y.ok c;have b:n-1<s.ents.length:=by rw[h.el];omega
 have d:Jb s n=s.ents[n-1]:=by unfold Jb;rw[gL b];rfl
 have f:∀m,Jb ⟨s.cells,s.ents.set (n-1) (Df (Jb s n) (CK P g)),s.more⟩ m=if n-1=m-1 then Df (Jb s n) (CK P g)else Jb s m:=fun m=>by
  unfold Jb;simp only;rw[List.getElem?_set];split
  .rfl
  .rfl
 refine⟨⟨h.cl,h.cs,h.ci,by simp only[jL];exact h.el,fun l k=>?_,fun j l i x a=>?_⟩,fun m x a=>?_,gI _,fun q=>⟨q,rfl,?_⟩,fun q=>.inl q⟩
 .rcases Og k with rfl|q
  .rw[d];exact FE _ _ (h.es _ (gQ b))
  .exact h.es l q
 .rcases R3 i with⟨rfl,rfl⟩|q
  .rcases(Ew _ _ _).1 a with rfl|q
   .exact⟨g,by rw[show n-1+1=n by omega];exact c,rfl⟩
   .rw[d]at q;exact h.ei _ _ (gL b) x q
  .exact h.ei j l q x a
 .rw[f];split
  .rename_i e;refine(Ew _ _ _).2 (.inr ?_);unfold Jb at a⊢;rw[e];exact a
  .exact a
 .show CK P g∈Jb _ n;rw[f,jH rfl];exact(Ew _ _ _).2 (.inl rfl)
omit N Y in
theorem Zv(h:∀r,LP P r->KL P r (Ow P o s)/\(AR r->∀t,(Ow P o s).I r.at t->Dd P r t (Ow P o s))):(least P).le (Ow P o s):=
 PI ⟨fun _ _ _ hF a=>⟨a.1,hF _ a.2⟩,fun r b=>(h r b).1,fun r t b c a=>(h r b).2 c t a⟩
theorem SZ(g:QX P o p s)(h:(least P).le (Ow P o s)){c:Nat}(n:AK P o c){l:List ByteArray}(r:XD (BU P) ((least P).I c) l):l=Ie P o s c:=by
 obtain⟨i,G,j,d,f⟩:=r;have u:∀x,x∈l↔∃t,(least P).I c t/\x=BU P t:=fun x=>by rw[f.mem_iff,iT];exact⟨fun⟨t,a,b⟩=>⟨t,(d t).1 a,b.symm⟩,fun⟨t,a,b⟩=>⟨t,(d t).2 a,b.symm⟩⟩
 have v:l.Nodup:=by rw[f.nodup_iff];refine List.pairwise_map.2 ((List.Pairwise.and_mem.1 j).imp ?_);rintro a b ⟨k,m,w⟩ e;exact w (Fi N Y (Dl Y.ok ((d a).1 k)).2 (Dl Y.ok ((d b).1 m)).2 e)
 have E:XR (Ie P o s c):=by
  unfold Ie;split
  .exact List.Pairwise.nil
  .rcases C:s.cells[(Vh P o c).toNat]? with _|q
   .exact List.Pairwise.nil
   .exact g.cs q (List.mem_of_getElem? C)
 refine Ha (G8 i v) E fun x=>?_
 rw[u];exact⟨fun⟨t,a,b⟩=>by rw[b];exact(h.i c t a).2,fun F=>Ra N Y g n F⟩
theorem Zw(f:QX P o p s)(h:(least P).le (Ow P o s)){n:Nat}(H:1<=n)(I:n<=p){l:List ByteArray}(v:XD (CK P) ((least P).E n) l):l=Jb s n:=by
 obtain⟨F,K,G,c,m⟩:=v;have w:∀x,x∈l↔∃t,(least P).E n t/\x=CK P t:=fun x=>by rw[m.mem_iff,iT];exact⟨fun⟨t,a,b⟩=>⟨t,(c t).1 a,b.symm⟩,fun⟨t,a,b⟩=>⟨t,(c t).2 a,b.symm⟩⟩
 have C:l.Nodup:=by rw[m.nodup_iff];refine List.pairwise_map.2 ((List.Pairwise.and_mem.1 G).imp ?_);rintro a b ⟨r,u,E⟩ e;exact E (N.inj a b (Hl Y.ok ((c a).1 r)).2 (Hl Y.ok ((c b).1 u)).2 e)
 have d:n-1<s.ents.length:=by rw[f.el];omega
 have j:Jb s n=s.ents[n-1]:=by unfold Jb;rw[gL d];rfl
 refine Ha (G8 F C) (by rw[j];exact f.es _ (gQ d)) fun x=>?_
 rw[w];refine⟨fun⟨t,a,b⟩=>by rw[b];exact h.e n t a,fun k=>?_⟩;rw[j]at k;obtain⟨g,i,q⟩:=f.ei _ _ (gL d) x k;rw[show n-1+1=n by omega]at i;exact⟨g,i,q⟩
end
theorem Se{l:List ByteArray}(h:XR l){i j:Nat}(a:i<j)(b:j<l.length):GC (l[i]'Z) l[j]=true:=List.pairwise_iff_getElem.1 h i j Z b a
theorem Yo(a b:ByteArray):Op.bytesLess a.toList b.toList=GC a b:=by unfold GC;rw[bytesLess_eq,Lib.toList_data,Lib.toList_data]
theorem Hb{B w g c}{l:List ByteArray}(h:Au B w (.slice (some ⟨g,0,none⟩) l.length c) l)(k:Nat)(a:k<l.length):w.cell? ⟨g,k,none⟩=some (.string l[k]):=by have:=h.cellAt k (by simpa using a);rw[this];simp[a]
theorem Ua(B v l s w)(h:Au B w v l)(hl:l.length<=1000000)(H:XR l):
 Calls prog 133 #[v,.string s] w fun e X=>e=.returned (.bool (Od l s))/\X=w:=by
 obtain⟨va,vl,vc,rfl⟩:=Ad h;have Q:=Ag h;subst Q;obtain⟨V,E⟩:∃V,Od l s=V:=⟨_,rfl⟩;rw[E];have x:=J E;have o:=J h;have C:=J H;clear E h H;go_enter func133,ntmps133;go_wp2;go_loopw[5,6] (fun a b wr=>∃d f:Nat,d<=f/\f<=l.length/\a=.int .i64 d/\b=.int .i64 f/\wr=w/\D (∀i (q:i<l.length),i<d->GC l[i] s=true)/\D (∀i (q:i<l.length),f<=i->GC l[i] s=false)) (fun a b _=>(intOf b).toNat-(intOf a).toNat)
 case atStart=>exact⟨0,l.length,Z,Z,rfl,rfl,rfl,fun i q k=>Z,fun i q k=>Z⟩
 case round=>
  obtain⟨d,f,h1,N,rfl,rfl,rfl,r,p⟩:=hrel;by_cases a0:d<f
  .have U:decide ((d:Int)<(f:Int))=true:=jX;obtain⟨m,F⟩:∃m,(d+f) / 2=m:=⟨_,rfl⟩;have Y:((d:Int)+(f:Int)).tdiv 2=(m:Int):=by rw[<-F];rfl
   have I:m<l.length:=Z;have a1:d<=m:=Z;have a2:m<f:=Z;obtain⟨g,rfl⟩:=Ap o.o Z;have c:=Hb o.o m I;have R:=(o.o.lt g rfl).2;have y:=Yo l[m] s;cases n:GC l[m] s with
   |true=>
    rw[n]at y;have M:D (∀i (q:i<l.length),i<m+1->GC l[i] s=true):=fun i q k=>by
     rcases iW i m with z|z
     .exact Hm (Se C.o z I) n
     .obtain rfl:i=m:=Z;exact n
    generalize l[m]=a at c y;clear n r F;go_wp2;go_round
    case rel=>exact⟨m+1,f,Z,N,by go_num,rfl,by trivial,M,p⟩
    case measure=>simp[intOf];omega
   |false=>
    rw[n]at y;have L:D (∀i (q:i<l.length),m<=i->GC l[i] s=false):=fun i q k=>by
     rcases iW m i with z|z
     .cases t:GC l[i] s with
      |false=>rfl
      |true=> have:=Hm (Se C.o z q) t;rw[n]at this;cases this
     .obtain rfl:i=m:=Z;exact n
    generalize l[m]=a at c y;clear n p F;go_wp2;go_round
    case rel=>exact⟨d,m,Z,Z,rfl,rfl,by trivial,r,L⟩
    case measure=>simp[intOf];omega
  .have U:decide ((d:Int)<(f:Int))=false:=jX;obtain rfl:d=f:=Z;have A:∀j (q:j<l.length),l[j]=s->j=d:=fun j q e=>by
    rcases iW j d with z|z
    .have:=r.o j q z;rw[e,Fe]at this;cases this
    .rcases iW d j with K|K
     .have:=Se C.o K q;rw[e,p.o d Z (gI _)]at this;cases this
     .omega
   by_cases P:d<l.length
   .have S:decide ((d:Int)<(l.length:Int))=true:=jX;obtain⟨g,rfl⟩:=Ap o.o Z;have c:=Hb o.o d P;have R:=(o.o.lt g rfl).2;have u:(l[d].toList==s.toList)=V:=by
     rw[<-x.o];cases t:(l[d].toList==s.toList)with
     |true=>exact(Gc.2 (by rw[<-Ct (beq_iff_eq.1 t)];exact gQ _)).symm
     |false=>
      cases G:Od l s with
      |false=>rfl
      |true=> obtain⟨j,q,e⟩:=iF.1 (Gc.1 G);obtain rfl:=A j q e;rw[e]at t;simp at t
    generalize l[d]=a at c u;clear A r p x;go_wp2;go_ret;exact⟨by first|rfl|rw[u]|(rw[<-u]),rfl⟩
   .have S:decide ((d:Int)<(l.length:Int))=false:=jX;have u:V=false:=by
     rw[<-x.o];cases G:Od l s with
     |false=>rfl
     |true=> obtain⟨j,q,e⟩:=iF.1 (Gc.1 G);have:=A j q e;omega
    subst u;clear A r p x;go_wp2;go_ret;exact⟨rfl,rfl⟩
def Ef(B:Nat)(w:World)(v:Value)(a:List (List ByteArray)):Prop:=∃b:List Value,b.length=a.length/\w.ownsRow B 51 1 v a.length b/\∀i (h:i<b.length) (c:i<a.length),Au B w b[i] a[i]
theorem Ef.s9{B w b v a}(h:Ef B w v a)(k:O kD w b):Ef B b v a:=by obtain⟨g,e,f,d⟩:=h;exact⟨g,e,Ac f k (fun _ _ q=>q),fun i h c=>Ac (d i h c) k (fun _ _ q=>q)⟩
theorem Ef.get{B w a c f}(h:Ef B w (.slice a f.length c) f){i:Nat}(o:i<f.length):∃g b d,a=some ⟨g,0,none⟩/\w.cell? ⟨g,i,none⟩=some (.slice b f[i].length d)/\w.frozen? ⟨g,i,none⟩=false/\B<=g/\g<w.heap.size/\Au B w (.slice b f[i].length d) f[i]:=by obtain⟨p,e,j,m⟩:=h;obtain⟨g,rfl⟩:=Ap j Z;have k:=m i Z o;obtain⟨b,l,d,q⟩:=Ad k;rw[q]at k;have:=Ag k;subst this;have n:=j.cellAt i Z;refine⟨g,b,d,rfl,?_,j.frozenAt i,(j.lt g rfl).1,(j.lt g rfl).2,k⟩;rw[n,gL Z,q]
structure Gj(B sb pb:Nat)(nv cv ev:Value)(nm:List ByteArray)(s:Ls)(w:World):Prop where
 bx:W sb #[.pointer (some ⟨pb,0,none⟩),nv,cv,ev,.bool s.more] 88 w
 nr:Au B w nv nm
 nl:nm.length<=20000
 cl:Ef B w cv s.cells
 en:Ef B w ev s.ents
 sb:B<=sb
 ne:∀g h,cv.ownBlock=some g->ev.ownBlock=some h->g≠h
 ln:s.cells.length=nm.length
 sh:∀l,l∈s.cells->l.length<=20000/\XR l
theorem Gj.s9{B f e d a b c s w g}(h:Gj B f e d a b c s w)(k:O kD w g):Gj B f e d a b c s g:=
 ⟨h.bx.d8 k id,Ac h.nr k (fun _ _ q=>q),h.nl,h.cl.s9 k,h.en.s9 k,h.sb,h.ne,h.ln,h.sh⟩
theorem Ef.form{B w v d}(h:Ef B w v d):∃a c,v=.slice a d.length c:=by obtain⟨f,e,b,_⟩:=h;obtain⟨a,l,c,rfl⟩:=Ad b;have:=Ag b;subst this;exact⟨a,c,rfl⟩
def ZV(a:List ByteArray)(b:List (List ByteArray))(x:ByteArray):List ByteArray:=if Bz a x 0<0 then[]else b[(Bz a x 0).toNat]?.getD []
theorem Jr(B t G:Nat)(F y z:Value)(c:List ByteArray)(s:Ls)(w:World)(h:Gj B t G F y z c s w)(x:ByteArray):
 Calls prog 29 #[.pointer (some ⟨t,0,none⟩),.string x] w fun e u=>(∃v,e=.returned v/\Au B w v (ZV c s.cells x))/\u=w:=by
 obtain⟨L,M,rfl⟩:=h.cl.form;obtain⟨N,P,rfl⟩:=h.en.form;obtain⟨S,V,U,rfl⟩:=Ad h.nr;obtain⟨H,I⟩:=h.bx.e2 1 2;have Q:=Ae h.bx;simp only[gH,gF,gG]at H I;have l:=J (GL B _ c x w h.nr h.nl);have m:=J h;unfold ZV;have E:=(CR c x 0).2;obtain⟨i,p⟩:∃i,Bz c x 0=i:=⟨_,rfl⟩;rw[p]at l E⊢;obtain⟨A,a⟩:∃A,(if i<0 then[]else s.cells[i.toNat]?.getD [])=A:=⟨_,rfl⟩;rw[a];have f:=J a;clear h p a;go_enter func29,ntmps29;go_wp2_with fail;refine l.o.mono ?_;rintro e u ⟨rfl,k⟩;have k:=k.symm;subst k;by_cases j:i<0
 .have K:decide (i<0)=true:=jX;have a:=f.o;rw[jH j]at a;subst a;go_wp2_with fail;go_ret;exact⟨⟨_,rfl,gR _ _ _ _⟩,rfl⟩
 .have K:decide (i<0)=false:=jX;have a:=f.o;rw[jG j]at a;obtain⟨n,rfl⟩:∃n:Nat,i=(n:Int):=⟨i.toNat,Z⟩;have q:n<s.cells.length:=by rw[m.o.ln];omega
  rw[Int.toNat_natCast,gL q,Option.getD_some]at a;obtain⟨g,b,d,rfl,C,_,_,R,r⟩:=m.o.cl.get q;have o:=J r;have X:(n:Int)<(s.cells.length:Int):=Z;clear r j f;rw[a]at C o;clear a;go_wp2_with fail;go_ret;exact⟨⟨_,rfl,o.o⟩,rfl⟩
def DY(c:Nat)(a b:Value)(w d:World):Prop:=O (fun k=>k=c\/a.ownBlock=some k\/b.ownBlock=some k) w d
theorem Gj.own{B i n m f g l s w}(h:Gj B i n m f g l s w){k:Nat}(j:k=i\/f.ownBlock=some k\/g.ownBlock=some k):B<=k/\∃a t b,w.heap[k]? =some (.cells a t b)/\(t=88\/t=51):=by
 rcases j with rfl|q|q
 .exact⟨h.sb,_,_,_,h.bx,.inl rfl⟩
 .obtain⟨o,_,e,_⟩:=h.cl;obtain⟨c,a,b,d⟩:=Cu e q;exact⟨c,_,_,_,d,.inr rfl⟩
 .obtain⟨o,_,e,_⟩:=h.en;obtain⟨c,a,b,d⟩:=Cu e q;exact⟨c,_,_,_,d,.inr rfl⟩
theorem Gj.str{B a d p o b c n s w f v}{l:List ByteArray}(h:Gj B d p o b c n s w)(j:DY d b c w f)(q:Au a w v l):Au a f v l:=Ai q j (fun k r y i z=>by
 obtain⟨_,u,t,x,g,m⟩:=h.own i;rw[g]at z;cases z;rcases m with e|e
 .exact jO e T
 .exact jO e T)
theorem Gj.low{B c j i a b g s w d}(h:Gj B c j i a b g s w)(e:B<=w.heap.size)(f:DY c a b w d):Below B w d:=f.cX e (fun _ q=>(h.own q).1)
theorem Gj.set{B G F E p r t C s w g}(h:Gj B G F E (.slice (some ⟨g,0,none⟩) p r) t C s w)(i:Nat)(u:Value)(L:List ByteArray)(U:Au B w u L)(N:L.length<=20000/\XR L):
 Gj B G F E (.slice (some ⟨g,0,none⟩) p r) t C ⟨s.cells.set i L,s.ents,s.more⟩ (w.setCell ⟨g,i,none⟩ u)/\O (fun k=>k=g) w (w.setCell ⟨g,i,none⟩ u)/\B<=g:=by
 have d:O (fun k=>k=g) w (w.setCell ⟨g,i,none⟩ u):=(O.refl _ w).t9 i u;have x:=h.cl;obtain⟨a,c,e⟩:=x.form;cases e;obtain⟨V,H,A,P⟩:=x;obtain⟨M,X,fz,y⟩:=Cu A (k:=g) rfl;have f:∀{v l},Au B w v l->Au B (w.setCell ⟨g,i,none⟩ u) v l:=fun{v l} q=>Ai q d (fun k Y f2 o z=>by subst o;rw[y]at z;cases z)
 refine⟨⟨h.bx.d8 d (fun q=>?_),f h.nr,h.nl,⟨V.set i u,by simp[H],?_,fun j m b=>?_⟩,?_,h.sb,h.ne,by simp only[jL];exact h.ln,fun l R=>?_⟩,d,M⟩
 .have n:=h.bx;unfold W at n;rw[q,y]at n;cases n
 .have:=(A.stored i u).1;simpa using this
 .simp only[jL]at m b;rw[List.getElem_set,List.getElem_set];split
  .exact f U
  .exact f (P j Z b)
 .obtain⟨K,I,S,Q⟩:=h.en;exact⟨K,I,Ac S d (fun k o q=>h.ne g k rfl o q.symm),fun j m b=>f (Q j m b)⟩
 .rcases Og R with rfl|q
  .exact N
  .exact h.sh l q
theorem Gj.flag{B a p o d f n s w}(h:Gj B a p o d f n s w):Gj B a p o d f n ⟨s.cells,s.ents,true⟩ (w.setCell ⟨a,4,none⟩ (.bool true))/\O (fun k=>k=a) w (w.setCell ⟨a,4,none⟩ (.bool true)):=by
 have b:O (fun k=>k=a) w (w.setCell ⟨a,4,none⟩ (.bool true)):=(O.refl _ w).t9 4 _;have r:∀{v c},Ef B w v c->Ef B (w.setCell ⟨a,4,none⟩ (.bool true)) v c:=fun{v c} q=>by obtain⟨t,e,m,l⟩:=q;exact⟨t,e,Ac m b (Am m h.bx T),fun j g i=>Ac (l j g i) b (Am (l j g i) h.bx T)⟩
 exact⟨⟨h.bx.set 4 _,Ac h.nr b (Am h.nr h.bx T),h.nl,r h.cl,r h.en,h.sb,h.ne,h.ln,h.sh⟩,b⟩
theorem Ym(B c C:Nat)(nv P Q:Value)(A:List ByteArray)(s:Ls)(w:World)(h:Gj B c C nv P Q A s w)(hB:B<=w.heap.size)(i:Nat)(x:ByteArray)(z:i<s.cells.length)(G:(Df (s.cells[i]?.getD []) x).length<=20000):
 Calls prog 101 #[.pointer (some ⟨c,0,none⟩),.int .i64 i,.string x] w fun e w'=>e=.returned (.tuple #[])/\Gj B c C nv P Q A (aL s i x) w'/\DY c P Q w w':=by
 obtain⟨ca,l,rfl⟩:=h.cl.form;obtain⟨m,n,rfl⟩:=h.en.form;obtain⟨na,nl,nc,rfl⟩:=Ad h.nr;obtain⟨g,b,d,rfl,R,a4,a9,I,hs⟩:=h.cl.get z;have q2:=h.bx.cell 2;have Y:=Ae h.bx;simp only[gH,gF,gG]at q2;have tn:(i:Int)<(s.cells.length:Int):=Z;have t0:decide ((i:Int)<0)=false:=jY;have S:=h.sh _ (gQ z);have HH:=J h;have K:=J hs;rw[gL z,Option.getD_some]at G;obtain⟨V,y⟩:∃V,aL s i x=V:=⟨_,rfl⟩;rw[y];unfold aL at y;rw[gL z,Option.getD_some]at y;have v:=J y;have HI:=J z;clear h hs y;generalize a8:s.cells[i]=L at R K S v G;have F:=J S;have a6:=J G;clear a8 G;have E:=J (Ua B _ L x w K.o (by have:=F.o.1;omega) F.o.2);obtain⟨r,hr⟩:∃r,Od L x=r:=⟨_,rfl⟩;rw[hr]at E v;have N:D (r=true->V=s):=fun q=>by rw[<-v.o,jH q]
 have M:D (r=false->(⟨s.cells.set i (Df L x),s.ents,true⟩:Ls)=V):=fun q=>by rw[<-v.o,jG (by rw[q];decide)]
 clear hr S v;go_enter func101,ntmps101;go_wp2_with fail;refine E.o.mono ?_;rintro e w' ⟨rfl,U⟩;have U:=U.symm;subst U;cases r with
 |true=> have hv:=N.o rfl;subst hv;clear N M E;go_wp2_with fail;go_end0;exact⟨rfl,HH.o,O.refl _ _⟩
 |false=>
  have a7:=J (M.o rfl);clear N M E;have a0:D (∀(f:World) (o:Option Addr) (t p:Nat),Au w.heap.size f (.slice o t p) (Df L x)->O kD w f->Gj B c C (.slice na nl nc) (.slice (some ⟨g,0,none⟩) s.cells.length l) (.slice m s.ents.length n) A ⟨s.cells.set i (Df L x),s.ents,s.more⟩ (f.setCell ⟨g,i,none⟩ (.slice o t p))/\DY c (.slice (some ⟨g,0,none⟩) s.cells.length l) (.slice m s.ents.length n) w (f.setCell ⟨g,i,none⟩ (.slice o t p))):=fun f o t p h8 j=>by obtain⟨a1,a2,a3⟩:=(HH.o.s9 j).set i (.slice o t p) (Df L x) (Aq h8 hB) ⟨a6.o,FE _ _ F.o.2⟩;exact⟨a1,(j.mono fun _ _ q=>q.elim).trans (a2.mono fun k _ q=>.inr (.inl (by rw[q];rfl)))⟩
  have BX:D (∀f,O kD w f->f.cell? ⟨g,i,none⟩=some (.slice b L.length d)/\f.frozen? ⟨g,i,none⟩=false/\f.cell? ⟨c,2,none⟩=some (.slice (some ⟨g,0,none⟩) s.cells.length l)/\g<f.heap.size/\c<f.heap.size):=fun f j=>⟨(gJ (j.block g I id)).trans R,(gO (j.block g I id)).trans a4,(gJ (j.block c Y id)).trans q2,gY I j.size,gY Y j.size⟩
  go_upto_region 3 with fail;go_cut[] (fun wx=>D (Gj B c C (.slice na nl nc) (.slice (some ⟨g,0,none⟩) s.cells.length l) (.slice m s.ents.length n) A ⟨s.cells.set i (Df L x),s.ents,s.more⟩ wx)/\D (DY c (.slice (some ⟨g,0,none⟩) s.cells.length l) (.slice m s.ents.length n) w wx))
  case first=>
   go_region_law(go_simp;go_at_call 70;refine(LO B (.slice b L.length d) L x _ (Ac K.o jV (fun _ _ q=>q)) (by have:=F.o.1;omega)).mono ?_;rintro e f ⟨v8,rfl,H,a5⟩;obtain⟨o,t,p,rfl⟩:=Ad H;have j:=J (O.trans (X:=kD) (a:=w) jV a5);obtain⟨k1,k2,k3,k4,k5⟩:=BX.o f j.o;have H:=J H;clear a5;dsimp only);all_goals
    go_wp2_with fail;go_meet
    case rel=> obtain⟨f1,f2⟩:=a0.o _ _ _ _ (Aq H.o jY) j.o;exact⟨f1,f2⟩
  case rest=>
  obtain⟨u,F2⟩:=hcut;have b0:=Ae u.o.bx;have b4:=u.o.bx.cell 4;have z4:=u.o.bx.frozen 4;simp only[gH,gF,gG]at b4;obtain⟨b1,b2⟩:=u.o.flag;have R1:D (Gj B c C (.slice na nl nc) (.slice (some ⟨g,0,none⟩) s.cells.length l) (.slice m s.ents.length n) A V (wc.setCell ⟨c,4,none⟩ (.bool true))/\DY c (.slice (some ⟨g,0,none⟩) s.cells.length l) (.slice m s.ents.length n) w (wc.setCell ⟨c,4,none⟩ (.bool true))):=by rw[<-a7.o];exact⟨b1,F2.o.trans (b2.mono fun k _ q=>.inl q)⟩
  clear b1 b2 u F2 a0 BX R a4 q2 Y I;go_wp2_with fail;go_end0;exact⟨rfl,R1.o.1,R1.o.2⟩
theorem Wg(a:Nat)(x:ByteArray)(w:World):Calls prog 101 #[.pointer (some ⟨a,0,none⟩),.int .i64 (-1),.string x] w fun e b=>e=.returned (.tuple #[])/\b=w:=by go_enter func101,ntmps101;go_wp2_with fail;refine gP (v:=.tuple #[]) (by simp[results,results101,go_sem]) rfl ⟨rfl,rfl⟩
theorem Ka:∀(l m:List ByteArray),l.Nodup->(∀x,x∈l->x∈m)->l.length<=m.length
 |[],_,_,_=>gV _
 |a::l,m,b,c=>by
  rw[List.nodup_cons]at b;obtain⟨g,h,rfl⟩:=List.append_of_mem (c a jF);have:=Ka l (g++h) b.2 fun x e=>by
   rcases iM.1 (c x (iA _ e))with q|q
   .exact List.mem_append_left _ q
   .rcases iZ.1 q with rfl|q
    .exact jO e b.1
    .exact jT _ q
  simp only[gM,gK]at this⊢;omega
theorem XR.nodup{l:List ByteArray}(h:XR l):l.Nodup:=h.imp fun{a b} q e=>by rw[e,Fe]at q;cases q
theorem QX.short{P:List PFn}{n d f:Nat}(Y:AnHy P n d f){s:Ls}(h:QX P d f s){l:List ByteArray}(a:l∈s.cells):l.length<=16400:=by
 obtain⟨i,c,rfl⟩:=iF.1 a;have e:i<(Yk P d).length:=by have:=h.cl;simp only[Ik,iJ]at this;omega
 have:=Ka _ ((List.range 16400).map (BU P)) (h.cs _ a).nodup fun x g=>by obtain⟨t,b,rfl⟩:=h.ci i _ _ (gL c) (gL e) x g;exact iT.2 ⟨t,List.mem_range.2 (Y8 Y (Dl Y.ok b).2),rfl⟩
 simpa using this
structure QY(P:List PFn)(d f B sb pb:Nat)(nv cv ev:Value)(s:Ls)(w:World):Prop where
 m:Gj B sb pb nv cv ev (Ik P d) s w
 i:QX P d f s
 b:B<=w.heap.size
theorem QY.s9{P d f B g e c a b s w i}(h:QY P d f B g e c a b s w)(k:O kD w i):QY P d f B g e c a b s i:=⟨h.m.s9 k,h.i,gW h.b k.size⟩
def GG(P:List PFn)(d f B e i:Nat)(h a b:Value)(s:Ls)(w g:World)(R:Sy->Prop):Prop:=∃c,QY P d f B e i h a b c g/\Fq P d f s c R/\DY e a b w g
theorem DY.trans{c a b w e g}(h:DY c a b w e)(k:DY c a b e g):DY c a b w g:=O.trans h k
theorem DY.of{e b c w a}(h:O kD w a):DY e b c w a:=h.mono fun _ _ q=>q.elim
section
variable{P:List PFn}{n d f:Nat}(N:NmP P)(Y:AnHy P n d f)
include N Y
theorem Y3(B b m:Nat)(l g j:Value)(s:Ls)(w:World)(h:QY P d f B b m l g j s w){c t i:Nat}(p:AK P d c)(x:Vh P d c=((i:Nat):Int))(y:(least P).I c t):
 Calls prog 101 #[.pointer (some ⟨b,0,none⟩),.int .i64 i,.string (BU P t)] w fun e r=>e=.returned (.tuple #[])/\GG P d f B b m l g j s w r (fun S=>S.I c t):=by
 obtain⟨a,z,v,_⟩:=Lr N Y p;obtain rfl:a=i:=Z;have k:a<s.cells.length:=by rw[h.i.cl];exact v
 have A:=h.i.short Y (gQ k);refine(Ym B b m l g j (Ik P d) s w h.m h.b a (BU P t) k (by rw[gL k,Option.getD_some];have:=PJ (BU P t) s.cells[a];omega)).mono ?_
 rintro e r ⟨rfl,u,o⟩;have q:=Zt N Y h.i p x y;exact⟨rfl,_,⟨u,q.inv,gW h.b o.size⟩,q,o⟩
theorem K9(B a m:Nat)(z g j:Value)(s:Ls)(w:World)(h:QY P d f B a m z g j s w){c t:Nat}(x y:ByteArray)(F:x=BU P c)(G:y=BU P t)(u:AK P d c)(E:(least P).I c t):
 Calls prog 59 #[.pointer (some ⟨a,0,none⟩),.string x,.string y] w fun e A=>e=.returned (.tuple #[])/\GG P d f B a m z g j s w A (fun S=>S.I c t):=by
 subst F G;obtain⟨i,k,_⟩:=Lr N Y u;obtain⟨L,Q,M,rfl⟩:=Ad h.m.nr;have H:=h.m.bx.cell 1;have K:=Ae h.m.bx;simp only[gH,gF,gG]at H;have b:=J (GL B _ (Ik P d) (BU P c) w h.m.nr h.m.nl);have v:Bz (Ik P d) (BU P c) 0=(i:Int):=k;rw[v]at b;have o:=J (Y3 N Y B a m _ g j s w h u k E);obtain⟨X,q⟩:∃X,BU P c=X:=⟨_,rfl⟩;obtain⟨I,r⟩:∃X,BU P t=X:=⟨_,rfl⟩;rw[q]at b⊢;rw[r]at o⊢;clear h N Y k v q r;go_enter func59,ntmps59;go_wp2_with fail;refine b.o.mono ?_;rintro e A ⟨rfl,l⟩;have l:=l.symm;subst l;go_wp2_with fail;refine o.o.mono ?_;rintro e R ⟨rfl,p⟩;have C:=J p;clear p;go_wp2_with fail;go_end0;exact⟨rfl,C.o⟩
omit N Y in
theorem Zi(s:Ls)(a:Nat):ZV (Ik P d) s.cells (BU P a)=Ie P d s a:=rfl
theorem GJ(B o G:Nat)(nv u v:Value)(s:Ls)(w:World)(h:QY P d f B o G nv u v s w){a b:Nat}(x y:ByteArray)(R:x=BU P a)(hy:y=BU P b)(ha:Er P d a)(hb:Er P d b)(hF:AK P d a->AK P d b->(least P).F a b):
 Calls prog 60 #[.pointer (some ⟨o,0,none⟩),.string x,.string y] w fun e w'=>e=.returned (.tuple #[])/\GG P d f B o G nv u v s w w' (fun S=>AK P d b->S.F a b):=by
 subst R hy;have l:=J (Jr B o G nv u v (Ik P d) s w h.m (BU P a));obtain⟨na,nl,nc,rfl⟩:=Ad h.m.nr;have q1:=h.m.bx.cell 1;have lb:=Ae h.m.bx;simp only[gH,gF,gG]at q1;have V:=J (GL B _ (Ik P d) (BU P b) w h.m.nr h.m.nl);have HH:=J h;have a2:D (∀z,z∈Ie P d s a->AK P d a/\∃t,(least P).I a t/\z=BU P t):=fun z p=>by
  rcases ha with q|⟨g,hg,rfl⟩
  .exact⟨q,Ra N Y h.i q p⟩
  .rw[Zk N Y hg]at p;cases p
 have a5:D ((Ie P d s a).length<=16400):=by
  unfold Ie;split
  .exact gV _
  .rcases hq:s.cells[(Vh P d a).toNat]? with _|q
   .exact gV _
   .exact h.i.short Y (List.mem_of_getElem? hq)
 have a4:D ((∃i:Nat,Vh P d b=(i:Int)/\AK P d b)\/(Vh P d b= -1/\¬AK P d b)):=by
  rcases hb with q|⟨g,hg,rfl⟩
  .obtain⟨i,C,_⟩:=Lr N Y q;exact .inl ⟨i,C,q⟩
  .refine .inr ⟨VE N Y hg,fun q=>?_⟩;have:=q.isC Y.ok.cR Y.ok.ok.t8;have:=Y.ok.cR;unfold Py fN at*;omega
 have HN:=J N;have HY:=J Y;have a7:=J hF;rw[Zi]at l;obtain⟨L,hL⟩:∃L,Ie P d s a=L:=⟨_,rfl⟩;rw[hL]at l a2 a5;have a8:=J hL;obtain⟨j,hj⟩:∃j,Bz (Ik P d) (BU P b) 0=j:=⟨_,rfl⟩;have a3:Vh P d b=j:=hj;rw[a3]at a4;rw[hj]at V;have HJ:=J a3;obtain⟨X,hX⟩:∃X,BU P a=X:=⟨_,rfl⟩;obtain⟨b4,hZ⟩:∃X,BU P b=X:=⟨_,rfl⟩;rw[hX]at l⊢;rw[hZ]at V⊢;clear h N Y hF ha hb hL hj a3 hX hZ;go_enter func60,ntmps60;go_wp2_with fail;refine l.o.mono ?_;rintro e w' ⟨⟨lv,rfl,a1⟩,m⟩;have m:=m.symm;subst m;obtain⟨la,ll,lc,rfl⟩:=Ad a1;have b1:=Ag a1;subst b1;have HR:=J a1;clear a1 l;go_wp2_with fail;refine V.o.mono ?_;rintro e w' ⟨rfl,m⟩;have m:=m.symm;subst m;clear V q1 lb;go_wp2_with fail;go_loopw[8] (fun i wr=>∃(k:Nat) (r:Ls),k<=L.length/\i=.int .i64 k/\D (QY P d f B o G (.slice na nl nc) u v r wr)/\D (Fq P d f s r (fun S=>AK P d b->∀t,Er P d t->BU P t∈L.take k->S.I b t))/\D (DY o u v w wr)) (fun i _=>L.length-(intOf i).toNat)
 case atStart=>exact⟨0,s,Z,rfl,HH,(Fq.rf HH.o.i).to (fun _ _ _ t _ q=>by rw[List.take_zero]at q;cases q),O.refl _ _⟩
 case round=>
  obtain⟨k,r,hk,rfl,I,K,l⟩:=hrel;have b5:=a5.o;by_cases a6:k<L.length
  .have tk:decide ((k:Int)<(L.length:Int))=true:=jX;have M:=HH.o.m.str l.o HR.o;obtain⟨g,rfl⟩:=Ap M Z;have c:=Hb M k a6;have lg:=(M.lt g rfl).2;obtain⟨ca,t,F,p⟩:=a2.o L[k] (gQ _);rw[p]at c;have HZ:=J p;have HT:=J F;have b2:=J ca;rcases a4.o with⟨i,a0,E⟩|⟨a0,E⟩
   .have H:=J (Y3 HN.o HY.o B o G _ u v r wr I.o E (HJ.o.trans a0) ((En P).flow _ _ _ (a7.o ca E) F));obtain⟨U,Q⟩:∃X,BU P t=X:=⟨_,rfl⟩;rw[Q]at c H;subst a0;clear p F ca E M Q;go_wp2_with fail;refine H.o.mono ?_;rintro e w2 ⟨rfl,s2,g1,g2,g3⟩;have P2:=J g1;have O2:=J (l.o.trans g3);have N2:D (Fq P d f s s2 (fun S=>AK P d b->∀t,Er P d t->BU P t∈L.take (k+1)->S.I b t)):=by
     refine(K.o.then g2 (fun S b3 a9 q A t C h2=>a9.i _ _ (q A t C h2))).to fun _ q A t' C h2=>?_
     rw[iN a6]at h2;rcases iM.1 h2 with z|z
     .exact q.1 A t' C z
     .rw[iB,HZ.o]at z;rw[Fi HN.o HY.o C (Dl HY.o.ok HT.o).2 z];exact q.2
    clear g1 g2 g3 I K l c lg;go_wp2_with fail;go_roundw
    case rel=>exact⟨k+1,s2,Z,by go_num,P2,N2,O2⟩
    case measure=>simp[intOf];omega
   .have H:=J (Wg o (BU P t) wr);obtain⟨U,Q⟩:∃X,BU P t=X:=⟨_,rfl⟩;rw[Q]at c H;subst a0;have N2:D (Fq P d f s r (fun S=>AK P d b->∀t,Er P d t->BU P t∈L.take (k+1)->S.I b t)):=K.o.to fun _ _ A=>jO A E
    clear p F ca E M Q;go_wp2_with fail;refine H.o.mono ?_;rintro e w' ⟨rfl,m⟩;have m:=m.symm;subst m;go_wp2_with fail;go_roundw
    case rel=>exact⟨k+1,r,Z,by go_num,I,N2,l⟩
    case measure=>simp[intOf];omega
  .have tk:decide ((k:Int)<(L.length:Int))=false:=jX;have R1:D (GG P d f B o G (.slice na nl nc) u v s w wr (fun S=>AK P d b->S.F a b)):=by
    refine⟨r,I.o,K.o.to fun b0 q A x R=>?_,l.o⟩;have e:Ie P d r a=L:=by rw[<-a8.o];unfold Ie;rw[b0]
    rw[e]at R;obtain⟨_,t,F,rfl⟩:=a2.o x R;exact(q A t (Dl HY.o.ok F).2 (by rw[List.take_of_length_le Z];exact R)).2
   clear I K l;go_wp2_with fail;go_end0;exact⟨rfl,R1.o⟩
end

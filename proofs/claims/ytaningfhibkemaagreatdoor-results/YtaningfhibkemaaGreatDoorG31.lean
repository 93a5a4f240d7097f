/- Part of the proof: AnQ AnR AnS AnT. -/
import Derived.Test.YtaningfhibkemaaGreatDoorG30
import Derived.WideKeyEntry
set_option maxRecDepth 100000
set_option maxHeartbeats 4000000
namespace Go.Proofs.YtaningfhibkemaaGreatDoor
open Go.RowKit Go.Maps Go.Proofs.Tryz
theorem IT.get{w g n m}{l:List Rl}(h:IT 0 w (.slice (some ⟨g,0,none⟩) n m) l){i:Nat}(r:i<l.length):
 ∃a,(∀j,j<9->w.cell? ⟨g,i*9+j,none⟩=(YD l[i] a)[j]?)/\Ax 0 w a l[i].s.args:=by
 obtain⟨c,k,u,f⟩:=h;have s:=Ag k;subst s;have d:i<c.length:=Z;have p:∀x,x∈c->x.length=9:=by intro x t;obtain⟨j,b,rfl⟩:=iF.1 t;obtain⟨_,e,_⟩:=f j b Z;rw[e];rfl
 obtain⟨a,e,o⟩:=f i d r;refine⟨a,fun j b=>?_,o⟩;have q:=k.cellAt (i*9+j) Z;rw[q,Cw p d b,e]
theorem RC(P u F K z C o v w)(A:AnOk P z C)(h:D6 P u F K z C o v w)(c nb:Nat)(m:Nat->Prop)(hs:Bl nb m w)(hn:¬o.own u nb)(g4:v.s.le (least P))(hm:∀t,m t->v.s.I c t)(hW:∀r,v.W c r->LP P r/\AR r/\r.at=c)(hl:(o.rl c).length<=100000)(hc:AK P z c):
 Calls prog 87 #[.pointer (some ⟨u,0,none⟩),.int .i64 c,.map (some nb)] w fun e w'=>e=.returned (.tuple #[])/\Nx P u F K z C o v w w' (fun v'=>(∀b t,v.s.F c b->m t->v'.s.I b t)/\∀r t,v.W c r->m t->Dd P r t v'.s):=by
 obtain⟨kf,g3⟩:=(h.r.d0 c 3 (.inr rfl)).2 hc;have lc:c<16400:=hc.lt A.cR A.ok.t8 A.lp;have p7:=h.r.bY.cell 7;have e7:=Ae h.r.bY;simp only[G7,gH,gF,gG]at p7;have l3:=((h.r.mp 3 Z).look Ea underlying67 (Ci w) (k:=c) Z false).2 kf g3;have g8:=(h.r.st 3 c kf g3).iff (m':=v.s.F c) fun n=>by simp[Ca]
 unfold GY at l3;have k4:=hs.lt;have HA:=J A;have H:=J h;have B:=J g8;have i1:=J hs;have d1:=J g4;have HM:=J hm;have HW:=J hW;have f2:=J hn;clear h g8 hs g4 hm hW hn A;go_enter func87,ntmps87;go_wp2_with fail;refine(DS kf (v.s.F c) w B.o H.o.tb H.o.tl).mono ?_;rintro e w1 ⟨nv,l,rfl,U,a5,a1,d⟩;obtain⟨na,nl,nc,rfl⟩:=Ad U;have e5:=Ag U;subst e5;have c9:=J (H.o.s9 d);have h8:=J (Aq U (gV _));have i2:=J (i1.o.d8 d id);have j5:l.length<=19200:=DJ 19200 l a5 fun x hx=>by obtain⟨_,_,e8⟩:=B.o;exact e8.lt ((a1 x).1 hx)
 have f0:=J a1;have j9:=d.size;have f3:=J d;have SW:D (D7 P u F K z C o o v w1 w1):=⟨c9.o.r,fun _ q=>.inl q,rfl,O.refl _ _⟩;clear U a5 a1 d B p7 l3 e7;go_wp2_with fail;go_loopw[21] (fun i wr=>∃(k:Nat) (d:So) (y:Sv),k<=l.length/\i=.int .i64 k/\D (D7 P u F K z C o d y w1 wr)/\D (v.up y/\(∀X,BH P X v->BH P X y)/\∀j b t,j<k->l[j]? =some b->m t->y.s.I b t)) (fun i _=>l.length-(intOf i).toNat)
 case atStart=>exact⟨0,o,v,Z,rfl,SW,⟨.rf _,fun _ q=>q,fun j a _ q=>Z⟩⟩
 case round=>
  clear SW;obtain⟨k,d,y,hk,rfl,V,HQ⟩:=hrel;have a3:=c9.o.next V.o;have j2:¬d.own u nb:=fun q=>(V.o.ow _ q).elim f2.o fun q=>Z
  have b9:=i2.o.d8 V.o.on f2.o;by_cases a0:k<l.length
  .have a8:=c9.o.r.ints h8.o V.o.on;obtain⟨gl,rfl⟩:=Ap a8 Z;have a4:=a8.cellAt k Z;rw[iL,gL a0]at a4;simp only[Option.map_some]at a4;have j3:=(a8.lt gl rfl).2;have hF:=(f0.o l[k]).1 (gQ _);have d8:=d1.o.f _ _ hF;have d9:=(Yn HA.o d8).2;have k2:=d9.lt HA.o.cR HA.o.ok.t8 HA.o.lp;obtain⟨kb,e2⟩:=(a3.r.d0 l[k] 0 (.inl rfl)).2 d9;have j0:nb≠kb:=fun q=>j2 (q▸.inr (.inr (.inl ⟨0,_,e2⟩)))
   have e3:(k:Int)<(l.length:Int):=Z;have e1:k+1<=l.length:=a0;have HG:=J (gL a0);have h1:=J d8;have h7:=J e2;have a2:=J a3;have a7:=J b9;clear a8 hF d8 d9 e2 a3 b9;generalize l[k]=x at*;go_wp2_with fail;refine(Jj P u F K z C d y wr x kb nb m a2.o.r h7.o a7.o Z j0).mono ?_;rintro e w2 ⟨rfl,f,s2⟩;have S:=J (V.o.trans s2);have L:D (v.up (y.give x m)/\(∀X,BH P X v->BH P X (y.give x m))/\∀j b t,j<k+1->l[j]? =some b->m t->(y.give x m).s.I b t):=⟨HQ.o.1.tr (Sv.give_up _ _ _),fun X q=>(HQ.o.2.1 X q).give fun t I=>(En P).flow c x t h1.o (d1.o.i c t (HM.o t I)),fun j b t N G I=>by
    by_cases e:j=k
    .subst e;rw[HG.o]at G;cases G;exact .inr ⟨rfl,I⟩
    .exact .inl (HQ.o.2.2 j b t Z G I)⟩
   clear s2 HQ V;go_wp2_with fail;go_roundw
   case rel=>exact⟨k+1,f,_,e1,by go_num,S,L⟩
   case measure=>simp[intOf];omega
  .have e:k=l.length:=Z;subst e;have e3:decide ((l.length:Int)<(l.length:Int))=false:=jY;have a2:=J a3;have a7:=J b9;clear a3 b9;go_wp2_with fail;refine(DS nb m wr a7.o a2.o.tb a2.o.tl).mono ?_;rintro e w2 ⟨nv,s,rfl,U,a5,a1,f⟩;obtain⟨k5,k7,k6,rfl⟩:=Ad U;have e5:=Ag U;subst e5;have j6:s.length<=19200:=DJ 19200 s a5 fun x hx=>by obtain⟨_,_,e8⟩:=a7.o;exact e8.lt ((a1 x).1 hx)
   have Y:=J (a2.o.s9 f);have h9:=J (Aq U (gV _));have f1:=J a1;have k0:=f.size;have i3:=J f;have e6:d.rl=o.rl:=congrArg Prod.fst V.o.rl;have j7:(d.rl c).length<=100000:=by rw[e6];exact hl
   have g2:=Y.o.r.fwAt c;obtain⟨fa,fl,fc,e0,i6⟩:∃a l cc,JM d c=.slice a l cc/\l=(d.rl c).length:=by obtain⟨cs,q,_⟩:=g2;obtain⟨a,l,cc,e⟩:=Ad q;rw[e]at q;exact⟨a,l,cc,e,Ag q⟩
   subst i6;have lk:(Instr.lookup 118 (.map (some (d.om 5))) (.int .i64 c) false).run prog w2=.ok (.slice fa (d.rl c).length fc) w2:=by
    rw[<-e0];have q:=Y.o.r.fm.look W7 underlying118 (QB w2) (k:=c) Z false;unfold JM;cases hq:d.fw c with
    |none=>exact q.1 hq
    |some t=>exact q.2 t hq
   have p8:=Y.o.r.bY.cell 8;have e7:=Ae Y.o.r.bY;simp only[G7,gH,gF,gG]at p8;have SW:D (D7 P u F K z C d d y w2 w2):=⟨Y.o.r,fun _ q=>.inl q,rfl,O.refl _ _⟩;have f4:=J e6;have h2:=J e0;clear U a5 a1 f e6 e0 g2;go_wp2_with fail;go_loopw[39] (fun i wr=>∃(k:Nat) (f:So) (E:Sv),k<=(d.rl c).length/\i=.int .i64 k/\D (D7 P u F K z C d f E w2 wr)/\D (y.up E/\(∀X,BH P X y->BH P X E)/\∀j r t,j<k->(d.rl c)[j]? =some r->m t->Dd P r t E.s)) (fun i _=>(d.rl c).length-(intOf i).toNat)
   case atStart=>exact⟨0,d,y,Z,rfl,SW,⟨.rf _,fun _ q=>q,fun j a _ q=>Z⟩⟩
   case round=>
    clear SW p8 lk e7;obtain⟨k,f,E,hk,rfl,S,L⟩:=hrel;have d6:=Y.o.next S.o;by_cases a0:k<(d.rl c).length
    .have a6:=d6.r.fwAt c;have q1:f.rl=d.rl:=congrArg Prod.fst S.o.rl;have q2:f.fw=d.fw:=congrArg Prod.snd S.o.rl;have q3:JM f c=JM d c:=by unfold JM;rw[q2]
     rw[q1,q3,h2.o]at a6;obtain⟨g,rfl⟩:∃g,fa=some ⟨g,0,none⟩:=by obtain⟨cs,q,_⟩:=a6;exact Ap q Z
     have lg:g<wr.heap.size:=by obtain⟨cs,q,_⟩:=a6;exact(q.lt g rfl).2
     obtain⟨av,M,hI⟩:=a6.get a0;have c0:=M 0 Z;have c1:=M 1 Z;have c2:=M 2 Z;have c3:=M 3 Z;have c4:=M 4 Z;have c5:=M 5 Z;have c6:=M 6 Z;have c7:=M 7 Z;have c8:=M 8 Z;simp only[YD,Ki,gF,gG,gX]at c0 c1 c2 c3 c4 c5 c6 c7 c8;have hv:v.W c (d.rl c)[k]:=(H.o.r.fvr c _).2 (by rw[<-f4.o];exact gQ _);have g7:=HW.o _ hv;have HG:=J (gL a0);have e3:(k:Int)<((d.rl c).length:Int):=Z;have e1:k+1<=(d.rl c).length:=a0;obtain⟨aa,al,ac,rfl⟩:=Ad hI;have i5:=Ag hI;subst i5;have HI:=J hI;have d3:=J g7;have e9:=J d6;clear a6 M hI hv g7 d6 q1 q2 q3;generalize (d.rl c)[k]=r at*;have o5:O kD wr (wr.alloc (.cells (KC r (.slice aa r.s.args.length ac)) 192)):=(O.refl _ wr).alloc _;have g1:=W.new wr (KC r (.slice aa r.s.args.length ac)) 192;have d7:=e9.o.s9 o5;have f7:=Ac HI.o o5 (fun _ _ q=>q);have g0:=Ac (Y.o.r.ints h9.o S.o.on) o5 (fun _ _ q=>q);have j1:¬f.own u wr.heap.size:=fun q=>by have:=e9.o.r.ownLt q;omega
     have j8:(wr.alloc (.cells (KC r (.slice aa r.s.args.length ac)) 192)).heap.size=wr.heap.size+1:=jY;go_upto_block 4 with fail;generalize wr.alloc (.cells (KC r (.slice aa r.s.args.length ac)) 192)=W5 at*;have f5:D (D7 P u F K z C f f E W5 W5):=⟨d7.r,fun _ q=>.inl q,rfl,O.refl _ _⟩;have d0:=J d7;have h4:=J f7;have i0:=J g0;have g9:=J g1;have i4:=J o5;clear c0 c1 c2 c3 c4 c5 c6 c7 c8 d7 f7 g0 g1 o5 lg;generalize wr.heap.size=rb at*;go_wp2_with fail;go_loopw[45] (fun i wi=>∃(p:Nat) (o3:So) (Q:Sv),p<=s.length/\i=.int .i64 p/\D (D7 P u F K z C f o3 Q W5 wi)/\D (E.up Q/\(∀X,BH P X E->BH P X Q)/\∀j t,j<p->s[j]? =some t->Dd P r t Q.s)) (fun i _=>s.length-(intOf i).toNat)
     case atStart=>exact⟨0,f,E,Z,rfl,f5,⟨.rf _,fun _ q=>q,fun j a q=>Z⟩⟩
     case round=>
      clear f5;obtain⟨p,o3,Q,j4,rfl,B,R⟩:=hrel;have f6:=d0.o.next B.o;by_cases e4:p<s.length
      .have a9:=d0.o.r.ints i0.o B.o.on;have f8:=d0.o.r.ints h4.o B.o.on;have d5:=g9.o.d8 B.o.on j1;obtain⟨gl,rfl⟩:=Ap a9 Z;have a4:=a9.cellAt p Z;rw[iL,gL e4]at a4;simp only[Option.map_some]at a4;have j3:=(a9.lt gl rfl).2;have g5:=(f1.o s[p]).1 (gQ _);have f9:(least P).I r.at s[p]:=by rw[d3.o.2.2];exact d1.o.i _ _ (HM.o _ g5)
       have h3:=J (gL e4);have i9:(p:Int)<(s.length:Int):=Z;have i8:p+1<=s.length:=e4;obtain⟨b0,b1,b2,b3,b4,b5,b6,b7,b8⟩:=d5.e9 0 1 2 3 4 5 6 7 8;have k1:=Ae d5;simp only[gH,gF,gG]at b0 b1 b2 b3 b4 b5 b6 b7 b8;have h0:=J f6;have h5:=J f8;have h6:=J f9;clear a9 f8 d5 f6 g5 f9;generalize s[p]=x at*;go_wp2_with fail;refine(Ro P u F K z C o3 Q wr HA.o h0.o r x (.slice aa r.s.args.length ac) h5.o d3.o.1 d3.o.2.1 h6.o).mono ?_;rintro e w7 ⟨rfl,o7,v7,s7,u7,i7,q7⟩;have d4:=J (B.o.trans s7);have d2:D (E.up v7/\(∀X,BH P X E->BH P X v7)/\∀j t,j<p+1->s[j]? =some t->Dd P r t v7.s):=⟨R.o.1.tr u7,fun X q=>i7 X (R.o.2.1 X q),fun j t N G=>by
        by_cases e:j=p
        .subst e;rw[h3.o]at G;cases G;exact q7
        .exact(R.o.2.2 j t Z G).up u7.le.s⟩
       clear s7 u7 i7 q7 R B;go_wp2_with fail;go_roundw
       case rel=>exact⟨p+1,o7,v7,i8,by go_num,d4,d2⟩
       case measure=>simp[intOf];omega
      .have e:p=s.length:=Z;subst e;have i9:decide ((s.length:Int)<(s.length:Int))=false:=jY;have d4:=J ((S.o.s9 i4.o).trans B.o);have d2:D (y.up Q/\(∀X,BH P X y->BH P X Q)/\∀j r t,j<k+1->(d.rl c)[j]? =some r->m t->Dd P r t Q.s):=⟨L.o.1.tr R.o.1,fun X q=>R.o.2.1 X (L.o.2.1 X q),fun j r' t N G I=>by
        by_cases e:j=k
        .subst e;rw[HG.o]at G;cases G;obtain⟨i,hi,e⟩:=iF.1 ((f1.o t).2 I);exact R.o.2.2 i t hi (by rw[gL hi,e])
        .exact(L.o.2.2 j r' t Z G I).up R.o.1.le.s⟩
       clear L S R B;go_wp2_with fail;go_roundw
       case rel=>exact⟨k+1,o3,Q,e1,by go_num,d4,d2⟩
       case measure=>simp[intOf];omega
    .have e:k=(d.rl c).length:=Z;subst e;have e3:decide (((d.rl c).length:Int)<((d.rl c).length:Int))=false:=jY;have HX:D (Nx P u F K z C o v w wr (fun v'=>(∀b t,v.s.F c b->m t->v'.s.I b t)/\∀r t,v.W c r->m t->Dd P r t v'.s)):=by
      have t1:=(V.o.s9 i3.o).trans S.o;refine⟨f,E,⟨t1.r,fun j N=>(t1.ow j N).imp id fun q=>gW f3.o.size q,t1.rl,(f3.o.mono (fun _ _ q=>q.elim)).trans t1.on⟩,HQ.o.1.tr L.o.1,fun X q=>L.o.2.1 X (HQ.o.2.1 X q),fun b t hF I=>?_,fun r t hr I=>?_⟩
      .obtain⟨j,N,e⟩:=iF.1 ((f0.o b).2 hF);exact L.o.1.le.s.i _ _ (HQ.o.2.2 j b t N (by rw[gL N,e]) I)
      .have g6:=(H.o.r.fvr c r).1 hr;rw[<-f4.o]at g6;obtain⟨j,N,e⟩:=iF.1 g6;exact L.o.2.2 j r t N (by rw[gL N,e]) I
     go_wp2_with fail;go_end0;exact⟨rfl,HX.o⟩
structure Gk(P:List PFn)(g:Nat)(m:Value)(n p l:Nat)(o o':So)(v':Sv)(w w':World):Prop where
 e:D6 P g m n p l o' v' w'
 ow:∀k,o'.own g k->o.own g k\/w.heap.size<=k
 on:O (o.own g) w w'
section
variable{P:List PFn}{g:Nat}{m:Value}{n p l:Nat}{o x y:So}{v A B:Sv}{w s w2:World}
theorem Gk.rf(h:D6 P g m n p l o v w):Gk P g m n p l o o v w w:=⟨h,fun _ q=>.inl q,O.refl _ _⟩
theorem Gk.more(h:Gk P g m n p l o x A w s)(r:BE P g m n p l y B w2)(b:∀k,y.own g k->x.own g k\/s.heap.size<=k)(a:O (x.own g) s w2):Gk P g m n p l o y B w w2:=
 ⟨h.e.nxt r b a,fun k c=>(b k c).elim (h.ow k) fun q=>.inr (gW h.on.size q),h.on.thn a fun j d q=>(h.ow j q).elim id fun r=>jO r Z⟩
theorem Gk.s9(h:Gk P g m n p l o x A w s)(k:O kD s w2):Gk P g m n p l o x A w w2:=⟨h.e.s9 k,h.ow,h.on.dA k⟩
structure Ph(P:List PFn)(o:So)(v:Sv)(D:Rl->Prop)(cnt:Nat):Prop where
 raw:v.raw
 ok:BH P (fun _ _=>False) v
 w:∀a q,v.W a q->LP P q/\AR q/\q.at=a
 d:∀r,D r->KL P r v.s/\(AR r->v.W r.at r)
 len:∀c,(o.rl c).length<=cnt
theorem Ph.next{o i v j d e r}(h:Ph P o v d e)(k:bL P g m n p l o i v j w s r)(u:LP P r){E:Rl->Prop}(t:∀q,E q->d q\/q=r):Ph P i j E (e+1):=by
 refine⟨k.raw h.raw,k.ok _ h.raw h.ok,fun a q b=>?_,fun q b=>?_,fun c=>gW (k.len c) (Nat.succ_le_succ (h.len c))⟩
 .rcases k.w2 a q b with z|⟨C,F,G⟩
  .exact h.w a q z
  .rw[G];exact⟨u,C,F.symm⟩
 .rcases t q b with z|rfl
  .exact⟨(h.d q z).1.up k.le,fun f=>k.w1 _ _ ((h.d q z).2 f)⟩
  .exact⟨k.beg,k.fol⟩
structure Ze(P:List PFn)(o:So)(v:Sv):Prop where
 ok:BH P (fun _ _=>False) v
 w:∀a q,v.W a q->LP P q/\AR q/\q.at=a
 b:∀r,LP P r->KL P r v.s/\(AR r->v.W r.at r)
 len:∀c,(o.rl c).length<=100000
theorem Ze.later{o i v d}(h:Ze P o v)(u:v.took.up d)(k:BH P (fun _ _=>False) d)(b:i.rl=o.rl):Ze P i d:=
 ⟨k,fun a q e=>h.w a q (by have:=u.le.w;rw[this]at e;exact e),fun r b=>⟨(h.b r b).1.up u.le.s,fun f=>by rw[u.le.w];exact(h.b r b).2 f⟩,fun c=>by rw[b];exact h.len c⟩
theorem D6.d8(h:D6 P g m n p l o v w){X:Nat->Prop}(c:O X w s)(f:∀k,X k->¬o.own g k)(d:∀k a t b,X k->w.heap[k]? ≠some (.cells a t b))(e:¬X 0):D6 P g m n p l o v s:=
 ⟨h.r.d8 c f (fun k a b q=>d k a _ b q),h.pl.d8 c (fun k a t b q r=>jO r (d k a t b q)),h.tb.d8 c e h.tl,gY h.tl c.size,h.tn⟩
theorem D6.took(h:D6 P g m n p l o v w){a}(r:w.heap.size<=a)(j:BK IK IJ a (fun _=>none) s)(f:W g (G7 (o.tk a) m n p l) 120 s)(c:O (fun k=>k=g) w s):D6 P g m n p l (o.tk a) v.took s/\∀k,(o.tk a).own g k->o.own g k\/k=a:=by
 have d:∀k,(o.tk a).own g k->o.own g k\/k=a:=fun k b=>by
  rcases b with q|⟨t,u,q⟩|⟨t,i,q⟩|q
  .exact .inl (.inl q)
  .by_cases e:t=2
   .rw[e,So.tk_2]at q;exact .inr q
   .rw[So.tk_om e]at q;exact .inl (.inr (.inl ⟨t,u,q⟩))
  .exact .inl (.inr (.inr (.inl ⟨t,i,(So.tk_bk q).2⟩)))
  .exact .inl (.inr (.inr (.inr q)))
 exact⟨h.nxt (h.r.took r j f c) (fun k b=>(d k b).imp id fun q=>Z) (c.mono fun k _ q=>.inl q),d⟩
end
theorem Ze.done{P:List PFn}{g:Nat}{m:Value}{n p l:Nat}{o:So}{v:Sv}{w:World}(h:Ze P o v)(k:BE P g m n p l o v w)(b:∀c,o.bk 2 c=none):v.s.le (least P)/\(least P).le v.s:=by refine h.ok.done (fun c t q=>?_) (fun r a=>(h.b r a).1) (fun r a=>(h.b r a).2);obtain⟨d,e⟩:=k.ins 2 c t Z (Ly.2 q);rw[b c]at e;cases e
theorem UQ(P d fv F E C o v w)(A:AnOk P E C)(h:D6 P d fv F E C o v w)(h0:Ph P o v (fun _=>False) 0):
 Calls prog 41 #[.pointer (some ⟨d,0,none⟩)] w fun e w'=>e=.returned (.tuple #[])/\∃o' v',Gk P d fv F E C o o' v' w w'/\v'.s.le (least P)/\(least P).le v'.s:=by
 obtain⟨N,fl,I,k0,j9⟩:∃a l c,fv=.slice a l c/\l=P.length:=by obtain⟨cs,q,_⟩:=h.pl;obtain⟨a,l,c,e⟩:=Ad q;rw[e]at q;exact⟨a,l,c,e,Ag q⟩
 subst j9;subst k0;have l4:=A.cR;have p0:=h.r.bY.cell 0;have b2:=Ae h.r.bY;simp only[G7,gH,gF]at p0;have V:=J A;have B0:D (Gk P d (.slice N P.length I) F E C o o v w w):=Gk.rf h;have H0:=J h0;clear h A h0;go_enter func41,ntmps41;go_wp2_with fail;go_loopw[14] (fun i wr=>∃(k:Nat) (M:So) (U:Sv),k<=P.length/\i=.int .i64 k/\D (Gk P d (.slice N P.length I) F E C o M U w wr)/\D (Ph P M U (fun r=>LP P r/\r.f<k) (k*4001))) (fun i _=>P.length-(intOf i).toNat)
 case atStart=>exact⟨0,o,v,Z,rfl,B0,⟨H0.o.raw,H0.o.ok,H0.o.w,fun r q=>Z,fun c=>by have:=H0.o.len c;omega⟩⟩
 case round=>
  clear B0 H0 p0 b2;obtain⟨k,M,U,hk,rfl,p,y⟩:=hrel;by_cases a3:k<P.length
  .obtain⟨gf,rfl⟩:∃g,N=some ⟨g,0,none⟩:=by obtain⟨cs,q,_⟩:=p.o.e.pl;exact Ap q Z
   have l2:gf<wr.heap.size:=by obtain⟨cs,q,_⟩:=p.o.e.pl;exact(q.lt gf rfl).2
   obtain⟨vv,sv,f3,_,b1⟩:=p.o.e.pl.get a3
   obtain⟨sa,sc,rfl,d3⟩:=b1.form
   have c3:=f3 3 Z
   simp only[Oo,gF,gG]at c3
   have d1:As P k=P[k]:=by unfold As;rw[gL a3];rfl
   rw[<-d1]at c3 b1 d3
   have p0:=p.o.e.r.bY.cell 0
   have b2:=Ae p.o.e.r.bY
   simp only[G7,gH,gF]at p0
   have l7:=V.o.ok.many k
   have k4:(k:Int)<(P.length:Int):=Z
   have k3:k+1<=P.length:=a3
   have l3:=J d1
   have B1:D (Gk P d (.slice (some ⟨gf,0,none⟩) P.length I) F E C o M U w wr):=p.o
   have Q1:D (Ph P M U (fun r=>LP P r/\(r.f<k\/(r.f=k/\∃j,j<0/\(As P k).r9[j]? =some r.s))) (k*4001+0)):=⟨y.o.raw,y.o.ok,y.o.w,fun r q=>by
    rcases q with⟨q1,q2|⟨_,j,q2,_⟩⟩
    .exact y.o.d r ⟨q1,q2⟩
    .omega,fun c=>y.o.len c⟩
   have j5:=J b1
   have S1:D (Gk P d (.slice (some ⟨gf,0,none⟩) P.length I) F E C M M U wr wr):=Gk.rf p.o.e
   have j3:=J d3
   clear f3 d1 p y b1 d3
   go_wp2_with fail
   clear p0 b2 c3 l2
   go_loopw[27] (fun i wi=>∃(j:Nat) (b:So) (f:Sv),j<=(As P k).r9.length/\i=.int .i64 j/\D (Gk P d (.slice (some ⟨gf,0,none⟩) P.length I) F E C M b f wr wi)/\D (Ph P b f (fun r=>LP P r/\(r.f<k\/(r.f=k/\∃i,i<j/\(As P k).r9[i]? =some r.s))) (k*4001+j))) (fun i _=>(As P k).r9.length-(intOf i).toNat)
   case atStart=>exact⟨0,M,U,Z,rfl,S1,Q1⟩
   case round=>
    obtain⟨j,b,f,hj,rfl,a1,a0⟩:=hrel;by_cases b9:j<(As P k).r9.length
    .obtain⟨gs,rfl,i0⟩:=j3.o Z;have h4:=j5.o.d8 a1.o.on S1.o.e.r.noPlan;have m6:gs<wr.heap.size:=gY i0 a1.o.on.size;obtain⟨av,X,hI⟩:=h4.get b9;have c0:=X 0 Z;have c1:=X 1 Z;have c2:=X 2 Z;have c3:=X 3 Z;have c4:=X 4 Z;have c5:=X 5 Z;have c6:=X 6 Z;have c7:=X 7 Z;simp only[Ki,gF,gG,gX]at c0 c1 c2 c3 c4 c5 c6 c7;have f9:(As P k).r9[j]∈(As P k).r9:=gQ _;have HG:=J (gL b9);have k2:(j:Int)<((As P k).r9.length:Int):=Z;have k1:j+1<=(As P k).r9.length:=b9;obtain⟨aa,al,ac,rfl⟩:=Ad hI;have j7:=Ag hI;subst j7;have HI:=J hI;have e1:=J f9;clear h4 X hI f9 S1 Q1 i0;generalize (As P k).r9[j]=s at*;have o5:O kD wr (wr.alloc (.cells (Ki s (.slice aa s.args.length ac)).toArray 189)):=(O.refl _ wr).alloc _;have e6:=a1.o.s9 o5;have f1:=Ac HI.o o5 (fun _ _ q=>q);have d6:=J e6;have i1:=J f1;clear e6 f1 o5;go_wp2_with fail;refine(TM P d _ F E C b f _ V.o d6.o.e ⟨k,s⟩ (.slice aa s.args.length ac) i1.o ⟨a3,e1.o⟩ (fun c=>by have:=a0.o.len c;omega)).mono ?_;rintro e w6 ⟨rfl,o6,v6,b6⟩;have b7:=J (d6.o.more b6.so b6.ow b6.on);have b5:D (Ph P o6 v6 (fun r=>LP P r/\(r.f<k\/(r.f=k/\∃i,i<j+1/\(As P k).r9[i]? =some r.s))) (k*4001+(j+1))):=a0.o.next b6 ⟨a3,e1.o⟩ fun q hq=>by
      rcases hq with⟨q1,q2|⟨q2,i,q3,q4⟩⟩
      .exact .inl ⟨q1,.inl q2⟩
      .by_cases e:i=j
       .subst e;rw[HG.o]at q4;refine .inr ?_;obtain⟨qf,qs⟩:=q;simp only[gN]at q2 q4;rw[q2,q4]
       .exact .inl ⟨q1,.inr ⟨q2,i,Z,q4⟩⟩
     clear b6;go_wp2_with fail;go_roundw
     case rel=>exact⟨j+1,o6,v6,k1,by go_num,b7,b5⟩
     case measure=>simp[intOf];omega
    .have e:j=(As P k).r9.length:=Z;subst e;have k2:decide (((As P k).r9.length:Int)<((As P k).r9.length:Int))=false:=jY;have b7:=J (B1.o.more a1.o.e.r a1.o.ow a1.o.on);have b5:D (Ph P b f (fun r=>LP P r/\r.f<k+1) ((k+1)*4001)):=⟨a0.o.raw,a0.o.ok,a0.o.w,fun r Y=>by
      refine a0.o.d r ⟨Y.1,?_⟩;by_cases e:r.f=k
      .refine .inr ⟨e,?_⟩;have:=Y.1.2;rw[e]at this;obtain⟨i,hi,e2⟩:=iF.1 this;exact⟨i,hi,by rw[gL hi,e2]⟩
      .exact .inl (by have:=Y.2;omega),fun c=>by have:=a0.o.len c;omega⟩
     clear a1 a0 S1 Q1;go_wp2_with fail;go_roundw
     case rel=>exact⟨k+1,b,f,k3,by go_num,b7,b5⟩
     case measure=>simp[intOf];omega
  .have e:k=P.length:=Z;subst e;have k4:decide ((P.length:Int)<(P.length:Int))=false:=jY;have Q2:D (Ze P M U):=⟨y.o.ok,y.o.w,fun r Y=>y.o.d r ⟨Y,Y.1⟩,fun c=>by have:=y.o.len c;omega⟩;have B2:D (Gk P d (.slice N P.length I) F E C o M U w wr):=p.o;obtain⟨mf,g0⟩:=Oh;obtain⟨L,hJ⟩:∃L:Nat->World->Prop,L=fun n wz=>∃(b:So) (f:Sv),D (Gk P d (.slice N P.length I) F E C o b f w wz)/\D (Ze P b f)/\D (f.left 16400 n):=⟨_,rfl⟩
   have d7:D (∃n,L n wr):=⟨_,by rw[hJ];exact⟨M,U,B2,Q2,rfl⟩⟩;have HJ:=J hJ;have e0:=J g0;clear y p Q2 B2 hJ g0;go_wp2_with fail;go_loopw[] (fun wz=>∃n,L n wz) (fun wz=>mf (fun n=>L n wz))
   case atStart=>exact d7.o
   case round=>
    clear d7;obtain⟨n0,g1⟩:=hrel;have g2:=(e0.o (fun n=>L n wr) n0 g1).1;obtain⟨nn,c9⟩:∃nn,nn=mf (fun n=>L n wr):=⟨_,rfl⟩;have g3:L nn wr:=by rw[c9];exact g2
    rw[HJ.o]at g3;obtain⟨b,f,H,y,HL⟩:=g3;have i7:=J c9;clear g1 g2 c9 n0;have hR:=H.o.e.r;have p6:=hR.bY.cell 6;have f6:=hR.bY.frozen 6;have b2:=Ae hR.bY;simp only[G7,gH,gF,gG]at p6;have a9:=hR.mp 2 Z;obtain⟨ln,l6,k5,a8⟩:=a9.len underlying67 3;have m7:=a9.lt;by_cases hz:ln=0
    .subst hz;have HD:=J (y.o.done hR (a8.1 rfl));clear hR a9 a8 HL;go_wp2_with fail;go_end0;exact⟨rfl,b,f,H.o,HD.o⟩
    .have l5:0<ln:=Z;have hv:∃c t,c<16400/\t<16400/\f.N c t:=by
      apply Classical.byContradiction;intro q;refine hz (a8.2 fun c=>?_);cases hq:b.bk 2 c with
      |none=>rfl
      |some x=> obtain⟨t,ht⟩:=hR.d2 c x hq;have hi:=Dl V.o (y.o.ok.le.i _ _ (y.o.ok.np c t ht));exact jO ⟨c,t,hi.1.lt V.o.cR V.o.ok.t8 V.o.lp,hi.2.lt V.o,ht⟩ q
     have a4:=@run_makeMap prog;have HV:=J hv;clear hz a8 hv hR a9;go_upto_region 12 with fail;have h5:(wr.setCell ⟨d,6,none⟩ (.map (some wr.heap.size))).heap.size=wr.heap.size:=jY;have f2:W d (G7 (b.tk wr.heap.size) (.slice N P.length I) F E C) 120 ((wr.setCell ⟨d,6,none⟩ (.map (some wr.heap.size))).alloc (.map #[] 0)):=(H.o.e.r.bY.set 6 (.map (some wr.heap.size))).alloc _;have f8:BK IK IJ wr.heap.size (fun _=>none) ((wr.setCell ⟨d,6,none⟩ (.map (some wr.heap.size))).alloc (.map #[] 0)):=by have q:=BK.made (R:=IK) (dc:=IJ) (wr.setCell ⟨d,6,none⟩ (.map (some wr.heap.size)));rw[h5]at q;exact q
     have a5:O (fun k=>k=d) wr ((wr.setCell ⟨d,6,none⟩ (.map (some wr.heap.size))).alloc (.map #[] 0)):=((O.refl _ wr).t9 6 _).alloc _;have l0:((wr.setCell ⟨d,6,none⟩ (.map (some wr.heap.size))).alloc (.map #[] 0)).heap.size=wr.heap.size+1:=jY;obtain⟨e8,g7⟩:=H.o.e.took (gI _) f8 f2 a5;have g6:=H.o.e.r.outk (gI wr.heap.size);clear f2 f8 h5;generalize (wr.setCell ⟨d,6,none⟩ (.map (some wr.heap.size))).alloc (.map #[] 0)=Q at*;have k8:b.om 2≠d:=by obtain⟨_,_,e⟩:=(H.o.e.r.mp 2 Z).isMap;exact(H.o.e.r.dI e).1
     have d9:=J ((H.o.e.r.mp 2 Z).d8 a5 k8);have h3:∀c x,b.bk 2 c=some x->Bl x (f.N c) Q/\x<wr.heap.size:=fun c x hx=>by have q:=H.o.e.r.st 2 c x hx;obtain⟨_,_,e⟩:=q.isMap;exact⟨(q.d8 a5 (H.o.e.r.dI e).1).iff fun t=>Ly,q.lt⟩
     have j4:=J h3;have a7:=J e8;have e4:=J g7;have e3:=J g6;have i8:=J a5;have m8:b.om 2<Q.heap.size:=Z;clear h3 e8 g7 g6 a5 p6 f6 k5 a4;go_wp2_with(at_range;refine Eu _ rfl _ 67 rfl 69 underlying67 (b.om 2) rfl d9.o ?_;intro w3 a2 d0 g9);try go_frame
     obtain⟨G,g8⟩:∃G,G=Q.heap.size:=⟨_,rfl⟩;rw[<-g8]at a2 g9⊢;have R0:=J a2;have g4:¬(b.tk wr.heap.size).own d G:=fun q=>by have:=a7.o.r.ownLt q;omega
     have S0:D (D7 P d (.slice N P.length I) F E C (b.tk wr.heap.size) (b.tk wr.heap.size) f.took Q w3):=⟨(a7.o.s9 d0).r,fun _ q=>.inl q,rfl,d0.mono fun _ _ q=>q.elim⟩;have K0:D (f.took.up f.took/\BH P (fun a t=>(∃x,b.bk 2 a=some x)/\f.N a t) f.took):=⟨.rf _,y.o.ok.took.kept fun c t q=>⟨H.o.e.r.ins 2 c t Z (Ly.2 q),q⟩⟩;have e5:=J g4;have l8:Q.heap.size<=G:=Z;have l9:G<=Q.heap.size:=Z;have m3:wr.heap.size<Q.heap.size:=Z;have m4:Q.heap.size<=wr.heap.size+1:=Z;clear a2 d0 g4 d9 g8 l0 g9;generalize h8:wr=wz at*;have j6:=J h8;clear h8;go_loopw[] (fun wi=>∃(b3:Nat->Prop) (S:So) (K:Sv),D (FG IK IJ (b.om 2) G (b.bk 2) b3 wi)/\D (D7 P d (.slice N P.length I) F E C (b.tk wz.heap.size) S K Q wi)/\D (f.took.up K/\BH P (fun a t=>b3 a/\f.N a t) K)/\D (¬S.own d G)) (fun wi=>wi.rangeLeft (b.om 2) G)
     case atStart=>exact⟨_,_,_,R0,S0,K0,e5⟩
     case round=>
      clear R0 S0 K0 e5;obtain⟨b3,S,K,HR,p,HK,b4⟩:=hrel;go_wp2_with(at_next;refine EK _ rfl _ rfl Ea (b.om 2) G rfl HR.o ?_ ?_);rotate_left
      .intro k x w4 hk m1 b8 a2 k6 b0 m2 j8;unfold GY at j8;obtain⟨_,_,_,_,f5⟩:=HR.o.iter;have l1:0≠G:=by have:=a7.o.tl;omega
       have e9:=a7.o.next p.o;have f0:=e9.d8 b0 (fun z q=>by rw[q];exact b4.o) (fun z cs t fz q r=>by rw[q,f5]at r;cases r) (fun q=>l1 q);obtain⟨h1,m5⟩:=j4.o k x b8;have d4:=e3.o.1 k x b8;have h9:¬S.own d x:=fun q=>(p.o.ow _ q).elim d4 fun q=>Z
       have h2:=(h1.d8 p.o.on d4).d8 b0 (fun q=>Z);obtain⟨t0,h6⟩:=H.o.e.r.d2 k x b8;have f4:=(Dl V.o (y.o.ok.le.i _ _ (y.o.ok.np k t0 h6))).1;have a6:S.rl=b.rl:=congrArg Prod.fst p.o.rl;have m0:G<w4.heap.size:=a2.ltr;have c8:∀t,f.N k t->K.s.I k t:=fun t ht=>HK.o.1.le.s.i _ _ (y.o.ok.np k t ht)
       have h7:∀r,K.W k r->LP P r/\AR r/\r.at=k:=fun r Y=>y.o.w k r (by have:=HK.o.1.le.w;rw[this]at Y;exact Y)
       have d5:=J (RC P d (.slice N P.length I) F E C S K w4 V.o f0 k x (f.N k) h2 h9 HK.o.2.le c8 h7 (by rw[a6];exact y.o.len k) f4);have j1:=J a2;have i9:=J b0;have i4:=J c8;have k9:¬S.own d (b.om 2):=fun q=>(p.o.ow _ q).elim e3.o.2 fun q=>Z
       clear e9 f0 h1 d4 h9 h2 h6 f4 a6 h7 a2 b0 c8 f5;go_wp2_with fail;refine d5.o.mono ?_;rintro e w5 ⟨rfl,o5,v5,s5,u5,i5,q5⟩;have d2:=j1.o.d8 s5.on k9 b4.o;have j0:=J d2.1;have k7:w5.rangeLeft (b.om 2) G<wr.rangeLeft (b.om 2) G:=by rw[d2.2];exact k6
       have j2:D (D7 P d (.slice N P.length I) F E C (b.tk wz.heap.size) o5 v5 Q w5):=⟨s5.r,fun j hj=>(s5.ow j hj).elim (p.o.ow j) fun q=>.inr (by have:=p.o.on.size;omega),s5.rl.trans p.o.rl,(p.o.on.thn i9.o fun j hj q=>Z).thn s5.on fun j hj q=>(p.o.ow j q).elim id fun q=>Z⟩;have i2:D (f.took.up v5/\BH P (fun a t=>(b3 a/\a≠k)/\f.N a t) v5):=by
        refine⟨HK.o.1.tr u5,BH.passed (c:=k) (m:=f.N k) (v:=K) ((i5 _ HK.o.2).kept fun a t q=>?_) u5 i4.o q5.1 q5.2⟩;by_cases e:a=k
        .subst e;exact .inr ⟨rfl,q.2⟩
        .exact .inl ⟨⟨q.1,e⟩,q.2⟩
       have i6:D (¬o5.own d G):=fun q=>(s5.ow _ q).elim b4.o fun q=>Z
       clear s5 u5 i5 q5 d2 d5;go_wp2_with fail;go_roundw
       case rel=>exact⟨_,_,_,j0,j2,i2,i6⟩
       case measure=>exact k7
      .intro hd;have g5:BH P (fun _ _=>False) K:=HK.o.2.kept fun a t q=>hd a q.1
       have a6:S.rl=b.rl:=congrArg Prod.fst p.o.rl;obtain⟨mm,a4⟩:∃mm,K.left 16400 mm:=⟨_,rfl⟩;have f7:mm<nn:=Sv.left_lt (B:=16400) (v:=f) (u:=K) (x:=f.took) ⟨rfl,fun _ _ q=>q⟩ HK.o.1 HV.o (fun c t q=>y.o.ok.np c t q) HL.o a4;have e7:Gk P d (.slice N P.length I) F E C o S K w wr:=H.o.more p.o.r (fun j hj=>(p.o.ow j hj).elim (fun q=>(e4.o j q).imp id fun q=>Z) fun q=>.inr Z) (((i8.o.mono fun j _ q=>by rw[q];exact .inl rfl).thn p.o.on fun j hj q=>(e4.o j q).elim id fun q=>Z));have d8:D (L mm wr):=by rw[HJ.o];exact⟨S,K,e7,y.o.later HK.o.1 g5 a6,a4⟩
       have i3:D (mf (fun n=>L n wr)<mf (fun n=>L n wz)):=by have:=(e0.o (fun n=>L n wr) mm d8.o).2;rw[<-i7.o];exact Nat.lt_of_le_of_lt this f7
       clear g5 a6 a4 f7 e7;go_wp2_with fail;go_roundw
       case rel=>exact⟨mm,d8.o⟩
       case measure=>rw[j6.o];exact i3.o
section
variable{α:Type}{R:Value->Option (DataW Unit×List MemPlace)}{mk:α->Value}{d:α->DataW Unit}{ok:α->Prop}{b:Nat}{g:Nat->Option α}{w f:World}
theorem BK.block(h:BK R d b g w)(e:f.heap[b]? =w.heap[b]?):BK R d b g f:=by obtain⟨a,⟨i,c,k,r⟩,j⟩:=h;exact⟨a,⟨i,c,by rw[e];exact k,r⟩,j⟩
theorem BK.entry{t e:TypeId}(h:BK R d b g w)(E:QV R mk d ok)(A:Tryz.prog.underlying t=some (.map 3 e)){z:Value}(K:∀u:World,(zeroValue e).run prog u=.ok z u){k:Nat}(G:k<20000)(M:g k=none):
 ∃(n:Array MapEntry) (i:Nat),w.heap[b]? =some (.map n i)/\
  (∀m:World,m.heap[b]? =some (.map n i)->(Instr.mapEntry t (.map (some b)) (.int .i64 k)).run prog m=.ok (.tuple #[z,goInt i]) (ChangeMaps.setBlock m b (.map (n.push ⟨.int .i64 k,z,i⟩) (i+1))))/\
  (∀(m:World) (p:Value),m.heap[b]? =some (.map (n.push ⟨.int .i64 k,z,i⟩) (i+1))->(Instr.entryStore t (.map (some b)) (goInt i) p).run prog m=.ok () (ChangeMaps.setBlock m b (.map (n.push ⟨.int .i64 k,p,i⟩) (i+1))))/\
  ∀(a:α),ok a->∀m:World,m.heap[b]? =some (.map (n.push ⟨.int .i64 k,mk a,i⟩) (i+1))->BK R d b (fun x=>if x=k then some a else g x) m:=by
 have P:=(h.look E A (K w) G true).1 M;have S:=fun(a:α) (s:ok a)=>h.put E A G s
 obtain⟨a0,⟨n,i,v,F,hs,rfl⟩,B⟩:=h;have y:=SU G;obtain⟨X,Y,_⟩:=F.stamped;have I:∀m:World,(Instr.findKey 3 (.int .i64 k) n.toList).run prog m=.ok none m:=fun m=>by
  rcases CV.find m y n.toList F.keys with⟨r,_⟩|⟨j,H,r,C,B⟩
  .exact r
  .exfalso;rcases CV.find w y n.toList F.keys with⟨_,q⟩|⟨j',e',V,q2,q3⟩
   .exact q H (List.mem_of_getElem? C) B
   .simp[Instr.lookup,run_underlying A,MapKept.run_getObj_map v,CV.check w _ y,V,Result.andThen]at P
 refine⟨n,i,v,fun m o=>?_,fun m p o=>?_,fun a s m o=>?_⟩
 .simp[Instr.mapEntry,run_underlying A,MapKept.run_getObj_map o,CV.check m false y,I m,K,MapKept.run_setObj_map _ o,Result.andThen,ChangeMaps.setBlock]
 .have N:(n.push ⟨.int .i64 k,z,i⟩).findIdx? (fun e=>((e.born:Nat):Int)==((i:Nat):Int))=some n.size:=by rw[WideElems.findIdx_arr];exact WideElems.findIdx_born (l:=(n.push ⟨.int .i64 k,z,i⟩).toList) (j:=n.size) (e0:=⟨.int .i64 k,z,i⟩) (by simp only[Array.toList_push,jP,iK,List.map_nil];refine List.nodup_append.2 ⟨Y,jY,fun a s c L e1=>?_⟩;simp only[iB]at L;obtain⟨x,U,rfl⟩:=iT.1 s;have:=X x U;omega) jY
  have Q:(n.push ⟨.int .i64 k,z,i⟩).modify n.size (fun e=>{e with val:=p})=n.push ⟨.int .i64 k,p,i⟩:=by apply Array.ext';rw[Array.toList_modify,Array.toList_push,Array.toList_push,<-Array.length_toList,WideElems.modify_last]
  simp[Instr.entryStore,MapKept.run_getObj_map o,asInt,asIntOf,goInt,N,Q,MapKept.run_setObj_map _ o,Result.andThen,ChangeMaps.setBlock]
 .obtain⟨f,r,C,_⟩:=S a s;have B:(Instr.mapUpdate t (.map (some b)) (.int .i64 k) (mk a)).run prog w=.ok () (ChangeMaps.setBlock w b (.map (n.push ⟨.int .i64 k,mk a,i⟩) (i+1))):=by simp[Instr.mapUpdate,run_underlying A,MapKept.run_getObj_map v,CV.check w false y,I w,MapKept.run_setObj_map _ v,Result.andThen,ChangeMaps.setBlock]
  rw[B]at r;cases r;refine C.block ?_;rw[o];exact(ChangeMaps.heap_setBlock_same v _).symm
end

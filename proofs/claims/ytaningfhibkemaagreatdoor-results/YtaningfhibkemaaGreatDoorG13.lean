/- Part of the proof: ChE ChF RdK3 RdL0. -/
import Derived.Test.YtaningfhibkemaaGreatDoorG11
import Derived.Test.YtaningfhibkemaaGreatDoorG12
set_option maxRecDepth 100000
set_option maxHeartbeats 8000000
namespace Go.Proofs.YtaningfhibkemaaGreatDoor
open Go.RowKit Go.Proofs.Tryz
def wv(a:List RF)(b:Nat)(c:List ByteArray):List RF:=a.modify b (fun f=>{f with t8:=c})
theorem DX(a b c):(wv a b c).length=a.length:=by simp[wv]
theorem Tw{a b c}(h:b<(wv a b c).length):((wv a b c)[b]).t8=c:=by simp[wv]
theorem Tv{a b c}(h:b<(wv a b c).length)(s):(wv a b c).set b (PV (wv a b c)[b] s)=wv a b (c++[s]):=by
 apply jB
 .simp[wv]
 .intro i e f;by_cases d:b=i
  .subst d;simp[wv,PV]
  .simp[wv,d,List.getElem_set_ne d]
theorem Xy(a b c):(wv a b c).map (fun f=>f.name.d9)=a.map (fun f=>f.name.d9):=by
 apply jB
 .simp[wv]
 .intro i d e;simp only[wv,iU,List.getElem_modify];split<;>rfl
theorem Xz(a b c):(wv a b c).map (fun f=>f.cG.length)=a.map (fun f=>f.cG.length):=by
 apply jB
 .simp[wv]
 .intro i d e;simp only[wv,iU,List.getElem_modify];split<;>rfl
theorem ZP(a b d t m c):Em (wv a b d) t m c=Em a t m c:=by unfold Em;rw[Xy,Xz]
theorem ZQ(a d e b u c):Mq (wv a d e) b u c=Mq a b u c:=by unfold Mq;simp only[ZP]
def Mr(a:List RF)(b:List ByteArray)(s:VS)(c:CS):CS:=
 if s.kind=1 then c else
 (s.args.map Ao).foldl (fun c t=>DL b t c) (if s.kind=4 then Em a (Ao s.sr) (-1) c else if s.kind=7 then Em a (Ao s.sr) s.args.length c else DL b (Ao s.sr) c)
theorem WZ{a d s u i}(h:SC s u i)(c):Mq a d u c=Mr a d s c:=by
 have b:=h.kind;have j:=h.cR
 have e:u.kind=2↔s.kind=1:=by rw[b];unfold Du;repeat' split
                              all_goals omega
 have f:u.kind=6↔s.kind=4:=by rw[b];unfold Du;repeat' split
                              all_goals omega
 have g:u.kind=8↔s.kind=7:=by rw[b];unfold Du;repeat' split
                              all_goals omega
 unfold Mq Mr;simp only[e,f,g,h.q,h.args,iJ]
def Dg(a:List RF)(s:VS)(x:List ByteArray×CS):List ByteArray×CS:=
 if s.kind=0 then(x.1++[s.tg.d9],Dk x.1 (Ao s.tg) x.2)
 else if s.kind=10 then(x.1,DL x.1 (Ao s.sr) x.2)
 else(x.1,Mr a x.1 s (DL x.1 (Ao s.tg) x.2))
def Fy(a:List RF):Nat->Nat->TS->List ByteArray×CS->List ByteArray×CS
 |0,_,_,x=>x
 |d+1,b,.mk s c,x=>
  if s.kind=11\/s.kind=12 then c.foldl (fun x q=>q.2.foldl (fun x t=>Fy a d (b+1) t x) (x.1,if 6<b+1 then Be 4 q.1 x.2 else x.2)) x
  else Dg a s x
def Gi(a:List RF)(d b:Nat)(c:List TS)(x:List ByteArray×CS):List ByteArray×CS:=c.foldl (fun x t=>Fy a d b t x) x
theorem Mn(a:List RF):∀(d b:Nat) (t:TS) (x:List ByteArray×CS),(Fy a d b t x).1.length<=x.1.length+Cs d t
 |0,_,_,x=>by simp[Fy]
 |d+1,b,.mk s i,x=>by
  rw[Fy];split
  .have h:∀(b:Nat) (c:List TS) (x:List ByteArray×CS),(c.foldl (fun x t=>Fy a d b t x) x).1.length<=x.1.length+(c.map (Cs d)).sum:=by
    intro b c;induction c with
    |nil=>intro x;simp
    |cons t c e=> intro x;have f:=Mn a d b t x;have g:=e (Fy a d b t x);simp only[iR,iK,iS];omega
   have:∀(l:List (Nat×List TS)) (x:List ByteArray×CS),(l.foldl (fun x q=>q.2.foldl (fun x t=>Fy a d (b+1) t x) (x.1,if 6<b+1 then Be 4 q.1 x.2 else x.2)) x).1.length<=x.1.length+(l.map (fun q=>(q.2.map (Cs d)).sum)).sum:=by
    intro l;induction l with
    |nil=>intro x;simp
    |cons q l e=> intro x;have f:=h (b+1) q.2 (x.1,if 6<b+1 then Be 4 q.1 x.2 else x.2);have g:=e (q.2.foldl (fun x t=>Fy a d (b+1) t x) (x.1,if 6<b+1 then Be 4 q.1 x.2 else x.2));simp only[iR,iK,iS]at f g⊢;omega
   have:=this i x
   simp only[Cs]
   omega
  .unfold Dg;split
   .simp[Cs]
   .split<;>simp
theorem Fh(a:List RF)(d b:Nat):∀(c:List TS) (x:List ByteArray×CS),(Gi a d b c x).1.length<=x.1.length+(c.map (Cs d)).sum
 |[],x=>by simp[Gi]
 |t::c,x=>by have f:=Mn a d b t x;have e:=Fh a d b c (Fy a d b t x);simp only[Gi,iR,iK,iS]at e⊢;omega
theorem WR(a:List RF)(d c:Nat)(b:List TS)(k:Nat)(h:k<b.length)(x:List ByteArray×CS):Gi a d c (b.drop k) x=Gi a d c (b.drop (k+1)) (Fy a d c b[k] x):=by unfold Gi;rw[gT h];rfl
theorem W.c15{b t w}{c d k l m q s u x B e f g i j:Value}(h:W b #[c,d,k,l,m,q,s,u,x,B,e,f,g,i,j] t w):w.cell? ⟨b,0,none⟩=some c/\w.cell? ⟨b,1,none⟩=some d/\w.cell? ⟨b,2,none⟩=some k/\w.cell? ⟨b,3,none⟩=some l/\w.cell? ⟨b,4,none⟩=some m/\w.cell? ⟨b,5,none⟩=some q/\w.cell? ⟨b,6,none⟩=some s/\w.cell? ⟨b,7,none⟩=some u/\w.cell? ⟨b,8,none⟩=some x/\w.cell? ⟨b,9,none⟩=some B/\w.cell? ⟨b,10,none⟩=some e/\w.cell? ⟨b,11,none⟩=some f/\w.cell? ⟨b,12,none⟩=some g/\w.cell? ⟨b,13,none⟩=some i/\w.cell? ⟨b,14,none⟩=some j/\b<w.heap.size:=⟨h.cell 0,h.cell 1,h.cell 2,h.cell 3,h.cell 4,h.cell 5,h.cell 6,h.cell 7,h.cell 8,h.cell 9,h.cell 10,h.cell 11,h.cell 12,h.cell 13,h.cell 14,Ae h⟩
theorem Bx.get{B}{U:Nat->Prop}{w g l c n}(h:Bx B U w (.slice (some ⟨g,0,none⟩) l c) n){i}(R:i<n.length):
 ∃r v y,(∀j,j<15->w.cell? ⟨g,i*15+j,none⟩=(Bo n[i] r v y)[j]?)/\CE B w r n[i].args/\Ax B w v n[i].cJ/\Ax B w y n[i].other:=by
 obtain⟨d,m,X,k⟩:=h;have S:=Ag m;subst S;have f:i<d.length:=Z;have s:∀x,x∈d->x.length=15:=by intro x V;obtain⟨j,b,rfl⟩:=iF.1 V;exact(k j b Z).length
 obtain⟨r,v,y,e,q,t,u,_⟩:=k i f R;refine⟨r,v,y,fun j b=>?_,q,t,u⟩;have Q:=m.cellAt (i*15+j) Z;rw[Q,Cw s f b,e];simp
structure YW(z o B C A:Nat)(U:Nat->Prop)(p E:Value)(a:List RF)(n:List FS)(G:Nat)(L:Array Value)(F:Value)(l:List Nat)(r:Value)(H:List Tk)(v:Value)(I:List Nat)(y:Value)(K:List Nat)(c:CS)(w w':World):Prop where
 k:RK z o B C A U p E a n c w'
 bY:W G L 92 w'
 dQ:Ax B w' F l
 fE:CE B w' r H
 dU:Ax B w' v I
 eC:Ax B w' y K
 fr:DP o B p w w'
section
variable{z o B C A:Nat}{U:Nat->Prop}{p E:Value}{a P:List RF}{n:List FS}{G:Nat}{L:Array Value}{F:Value}{l:List Nat}{r:Value}{H:List Tk}{v:Value}{I:List Nat}{y:Value}{K:List Nat}{c N:CS}{w M w2:World}
theorem YW.call(h:YW z o B C A U p E a n G L F l r H v I y K c w M)(f:RK z o B C A U p E P n N w2)(b:DP o B p M w2)(d:G≠o)(e:p.ownBlock≠some G):YW z o B C A U p E P n G L F l r H v I y K N w w2:=
 ⟨f,b.bY h.bY d e T,b.row h.dQ h.k.wr h.k.fn T T T,b.row h.fE h.k.wr h.k.fn T T T,b.row h.dU h.k.wr h.k.fn T T T,b.row h.eC h.k.wr h.k.fn T T T,h.fr.trans b⟩
theorem YW.s9(h:YW z o B C A U p E a n G L F l r H v I y K c w M)(b:O kD M w2):YW z o B C A U p E a n G L F l r H v I y K c w w2:=
 ⟨h.k.s9 b,h.bY.d8 b id,Ac h.dQ b (fun _ _ q=>q),Ac h.fE b (fun _ _ q=>q),Ac h.dU b (fun _ _ q=>q),Ac h.eC b (fun _ _ q=>q),h.fr.trans (DP.cM b)⟩
end
def QW(d:Nat):Prop:=∀(z o B C A f b:Nat) (U:Nat->Prop) (p E F:Value) (a:List RF) (n:List FS) (l:List Nat) (g:List TS) (h:List ByteArray) (c:CS) (w:World),
 RK z o B C A U p E (wv a f h) n c w->Ax B w F l->CJ (Dp f d n) l g->f<a.length->a.length<=4001->n.length<=4001->h.length+(g.map (Cs d)).sum<=4001->l.length<=4001->(∀u,u∈n->u.args.length<=4001/\u.cJ.length<=4001/\u.other.length<=4001)->b+d<=9000->
 Calls prog 22 #[.pointer (some ⟨z,0,none⟩),.pointer (some ⟨o,0,none⟩),F,.int .i64 b] w fun e i=>e=.returned (.tuple #[])/\RK z o B C A U p E (wv a f (Gi a d b g (h,c)).1) n (Gi a d b g (h,c)).2 i/\DP o B p w i
theorem VK(d:Nat)(a:List TS)(k:Nat)(h:k<a.length):((a.drop k).map (Cs d)).sum=Cs d a[k]+((a.drop (k+1)).map (Cs d)).sum:=by rw[gT h,iK,iS]
theorem Nl(d)(ih:∀G,d=G+1->QW G):QW d:=by
 intro pb L B pl ca f0 g U fv sv lv m H l ts vs c w K g9 i1 a9 hn c2 g3 hl k0 m0;obtain⟨la,ll,lc,rfl⟩:=Ad g9;have k9:=Ag g9;subst k9;obtain⟨fa,fl,fc,rfl⟩:∃a l c,fv=.slice a l c:=by obtain⟨_,h,_⟩:=K.fn;exact Ad h
 obtain⟨sa,sl,sc,rfl⟩:∃a l c,sv=.slice a l c:=by obtain⟨_,h,_⟩:=K.st;exact Ad h
 have l1:sl=H.length:=by obtain⟨_,h,_⟩:=K.st;exact Ag h
 subst l1;have i4:=i1.length;generalize hV:Gi m d g ts (vs,c)=V;have HV:D (Gi m d g (ts.drop 0) (vs,c)=V):=hV;have HK:=J K;have HL:=J g9;have k7:=J i1;have a8:=J k0;have i7:D (vs.length+((ts.drop 0).map (Cs d)).sum<=4001):=g3;have IH:=J ih;have f6:∀d2,f0<(wv m f0 d2).length:=fun d2=>by rw[DX];exact a9
 have h2:∀d2,(wv m f0 d2).length<=4001:=fun d2=>by rw[DX];exact hn
 clear hV K g9 i1 g3 k0 ih;go_enter func22,ntmps22;go_wp2;go_loopw[8] (fun i wr=>∃(k:Nat) (d2:List ByteArray) (c':CS),k<=l.length/\i=.int .i64 k/\D (RK pb L B pl ca U (.slice fa fl fc) (.slice sa H.length sc) (wv m f0 d2) H c' wr)/\D (Ax B wr (.slice la l.length lc) l)/\D (DP L B (.slice fa fl fc) w wr)/\D (d2.length+((ts.drop k).map (Cs d)).sum<=4001)/\D (Gi m d g (ts.drop k) (d2,c')=V)) (fun i _=>l.length-(intOf i).toNat)
 case atStart=>exact⟨0,vs,c,Z,rfl,HK,HL,DP.refl _ _ _ _,i7,HV⟩
 case round=>
  clear HK HL i7 HV;obtain⟨k,o,F,hk,rfl,HK,HL,HF,HN,HC⟩:=hrel;by_cases j9:k<l.length
  .have i3:k<ts.length:=Z;have i5:=WR m d g ts k i3 (o,F);rw[HC.o]at i5;have g3:=VK d ts k i3;have h9:=HN.o;rw[g3]at h9;have hF:=k7.o.get k j9 i3;generalize ts[k]=t at*;obtain⟨gl,rfl⟩:=Ap HL.o Z;have h8:=HL.o.cellAt k Z;rw[iL,gL j9]at h8;simp only[Option.map_some]at h8;have l4:=(HL.o.lt gl rfl).2;generalize l[k]=j at*;obtain⟨G,j6⟩:∃G,d=G+1:=by
    cases d with
    |zero=>exact hF.elim
    |succ G=>exact⟨G,rfl⟩
   have k6:=IH.o G j6;subst j6;obtain⟨s,bl⟩:=t;obtain⟨u,hu,hF⟩:=hF;have hj:j<H.length:=by
    rcases iW j H.length with q|q
    .exact q
    .rw[iI q]at hu;cases hu
   have i2:H[j]=u:=by rw[gL hj]at hu;simpa using hu
   have f4:=a8.o u (by rw[<-i2];exact gQ _);obtain⟨gs,rfl⟩:∃gs,sa=some ⟨gs,0,none⟩:=by obtain⟨_,h,_⟩:=HK.o.st;exact Ap h Z
   have l5:gs<wr.heap.size:=by obtain⟨_,h,_⟩:=HK.o.st;exact(h.lt gs rfl).2
   obtain⟨av,bv,ov,hc,g1,g2,g5⟩:=HK.o.st.get hj;rw[i2]at hc g1 g2 g5;obtain⟨aa,al,ac,rfl⟩:=Ad g1;have c6:=Ag g1;subst c6;obtain⟨ba,l8,bc,rfl⟩:=Ad g2;have d1:=Ag g2;subst d1;obtain⟨oa,ol,oc,rfl⟩:=Ad g5;have l0:=Ag g5;subst l0;have e0:=hc 0 Z;have e1:=hc 1 Z;have e2:=hc 2 Z;have e3:=hc 3 Z;have e4:=hc 4 Z;have e5:=hc 5 Z;have e6:=hc 6 Z;have e7:=hc 7 Z;have e8:=hc 8 Z;have e9:=hc 9 Z;have j0:=hc 10 Z;have j1:=hc 11 Z;have j2:=hc 12 Z;have j3:=hc 13 Z;have j4:=hc 14 Z;simp only[Bo,gH,gF,gG,gX]at e0 e1 e2 e3 e4 e5 e6 e7 e8 e9 j0 j1 j2 j3 j4;have p1:=HK.o.pr.bY.cell 1;simp at p1;have lp:=Ae HK.o.pr;have lw:=Ae HK.o.wr;have a3:wr.heap.size≠L:=Z;have a2:Value.ownBlock (.slice fa fl fc)≠some wr.heap.size:=fun q=>by obtain⟨_,h,_⟩:=HK.o.fn;have:=(h.lt _ q).2;omega
   have k8:(k:Int)<(l.length:Int):=Z;have m1:(j:Int)<(H.length:Int):=Z;have S0:D (YW pb L B pl ca U (.slice fa fl fc) (.slice (some ⟨gs,0,none⟩) H.length sc) (wv m f0 o) H wr.heap.size (Bo u (.slice aa u.args.length ac) (.slice ba u.cJ.length bc) (.slice oa u.other.length oc)) (.slice (some ⟨gl,0,none⟩) l.length lc) l (.slice aa u.args.length ac) u.args (.slice ba u.cJ.length bc) u.cJ (.slice oa u.other.length oc) u.other F w (wr.alloc (.cells (Bo u (.slice aa u.args.length ac) (.slice ba u.cJ.length bc) (.slice oa u.other.length oc)) 92))):=by have ho:=(O.refl kD wr).alloc (.cells (Bo u (.slice aa u.args.length ac) (.slice ba u.cJ.length bc) (.slice oa u.other.length oc)) 92);exact⟨HK.o.s9 ho,W.new _ _ _,Ac HL.o ho (fun _ _ q=>q),Ac g1 ho (fun _ _ q=>q),Ac g2 ho (fun _ _ q=>q),Ac g5 ho (fun _ _ q=>q),HF.o.trans (DP.cM ho)⟩
   have i9:=J i5.symm;have h5:=J h9;have f8:=J hF;have c0:=J k6;clear hc g1 g2 g5 i5 g3 h9 hF HK HL HF HN HC hu i2 k6;have l7:=J i4;clear i4;go_wp2_with fail;go_region;have z:D (YW pb L B pl ca U (.slice fa fl fc) (.slice (some ⟨gs,0,none⟩) H.length sc) (wv m f0 o) H wr.heap.size #[.int .i64 u.kind,.string u.p.d9,.int .i64 u.p.pos,.int .i64 u.p.sort,.string u.q.d9,.int .i64 u.q.pos,.int .i64 u.q.sort,.int .i64 u.field,.slice aa u.args.length ac,.int .i64 u.l7,.slice ba u.cJ.length bc,.slice oa u.other.length oc,.int .i64 u.br,.int .i64 u.dG,.int .i64 u.cS] (.slice (some ⟨gl,0,none⟩) l.length lc) l (.slice aa u.args.length ac) u.args (.slice ba u.cJ.length bc) u.cJ (.slice oa u.other.length oc) u.other F w ((wr.alloc (.cells #[.int .i64 u.kind,.string u.p.d9,.int .i64 u.p.pos,.int .i64 u.p.sort,.string u.q.d9,.int .i64 u.q.pos,.int .i64 u.q.sort,.int .i64 u.field,.slice aa u.args.length ac,.int .i64 u.l7,.slice ba u.cJ.length bc,.slice oa u.other.length oc,.int .i64 u.br,.int .i64 u.dG,.int .i64 u.cS] 92)).drew)):=S0.o.s9 ((O.refl _ _).drew);generalize (wr.alloc (.cells #[.int .i64 u.kind,.string u.p.d9,.int .i64 u.p.pos,.int .i64 u.p.sort,.string u.q.d9,.int .i64 u.q.pos,.int .i64 u.q.sort,.int .i64 u.field,.slice aa u.args.length ac,.int .i64 u.l7,.slice ba u.cJ.length bc,.slice oa u.other.length oc,.int .i64 u.br,.int .i64 u.dG,.int .i64 u.cS] 92)).drew=W0 at z⊢;generalize l9:wr.heap.size=sb at*;obtain⟨Q,R,b2,b3,b4,b5,b6,b7,b8,b9,S,X,I,N,Y,a1⟩:=z.o.bY.c15;clear e0 e1 e2 e3 e4 e5 e6 e7 e8 e9 j0 j1 j2 j3 j4 S0 h8 p1 l4 l5 lp lw;obtain⟨a,b,a0⟩:∃a b,Fy m (G+1) g (.mk s bl) (o,F)=(a,b):=⟨_,_,rfl⟩;have i6:=Mn m (G+1) g (.mk s bl) (o,F);have c9:D (a.length+((ts.drop (k+1)).map (Cs (G+1))).sum<=4001):=by have h1:=h5.o;rw[a0]at i6;simp only at i6;show _<=_;omega
   have d0:D (Gi m (G+1) g (ts.drop (k+1)) (a,b)=V):=by rw[<-a0];exact i9.o
   have g8:D (o.length+Cs (G+1) (.mk s bl)<=4001):=by have:=h5.o;show _<=_;omega
   have c8:=J a0;have l3:=z.o.k;have k5:((wv m f0 o)[f0]'(f6 o)).t8=o:=Tw (f6 o);have f1:=J k5;have h3:o.length<=4001:=by have:=g8.o;omega
   clear a0 i6 i9 h5 l3 k5;rcases f8.o with⟨d1,g6⟩|⟨p,a4,d1,hs,hk,f2,d6,d7,g4,c6⟩|⟨p,a4,d1,hs,hk,f2,d6,d7,g4,c6⟩|⟨p,a4,p2,h4,d1,hs,hk,f2,d6,d7,c6,j5⟩
   .subst d1;have f2:=g6.cS;subst f2;have f3:=g6.kind;have i0:=g6.cR;have g7:=J g6;have l6:=J f3;clear f8 g6;by_cases h0:s.kind=0
    .have c7:u.kind=1:=by rw[f3,h0];rfl
     have k1:((u.kind:Int)==1)=true:=by simp[c7]
     have a0:a=o++[u.p.d9]/\b=Dk o u.p F:=by have:=c8.o;rw[Fy,jG Z,Dg,jH h0]at this;simp only[iV]at this;rw[g7.o.p];exact⟨this.1.symm,this.2.symm⟩
     obtain⟨rfl,rfl⟩:=a0;clear f3 c7 i0 h0;go_wp2_with(go_at_call 21;refine(Jy pb L B pl ca u.cS U _ _ (wv m u.cS o) H F u.p _ z.o.k (f6 _) (h2 _) (by rw[f1.o];exact h3)).mono ?_;rw[Tv,f1.o];rintro e w2 ⟨rfl,f,n⟩);have C:=J (z.o.call f n a3 a2);clear f n z;go_wp2_with fail;exact⟨⟨k+1,_,_,Z,by go_num,C.o.k,C.o.dQ,C.o.fr,c9.o,d0.o⟩,by simp[intOf];omega⟩
    by_cases f9:s.kind=10
    .have c7:u.kind=11:=by rw[f3,f9];rfl
     have k1:((u.kind:Int)==1)=false:=by simp[c7]
     have k2:((u.kind:Int)==12)=false:=by simp[c7]
     have k3:((u.kind:Int)==13)=false:=by simp[c7]
     have k4:((u.kind:Int)==11)=true:=by simp[c7]
     have a0:a=o/\b=DL o u.q F:=by have:=c8.o;rw[Fy,jG Z,Dg,jG h0,jH f9]at this;simp only[iV]at this;rw[g7.o.q];exact⟨this.1.symm,this.2.symm⟩
     obtain⟨rfl,rfl⟩:=a0;clear f3 c7 i0 h0 f9;go_wp2_with(go_at_call 56;refine(C7 pb L B pl ca u.cS U _ _ (wv m u.cS a) H F u.q _ z.o.k (f6 _) (h2 _) (by rw[f1.o];exact h3)).mono ?_;rw[f1.o];rintro e w2 ⟨rfl,f,n⟩);have C:=J (z.o.call f n a3 a2);clear f n z;go_wp2_with fail;exact⟨⟨k+1,_,_,Z,by go_num,C.o.k,C.o.dQ,C.o.fr,c9.o,d0.o⟩,by simp[intOf];omega⟩
    .have c7:2<=u.kind/\u.kind<=10:=by rw[f3];unfold Du;repeat' split
                                       all_goals omega
     have k1:((u.kind:Int)==1)=false:=jX
     have k2:((u.kind:Int)==12)=false:=jX
     have k3:((u.kind:Int)==13)=false:=jX
     have k4:((u.kind:Int)==11)=false:=jX
     have a0:a=o/\b=Mq (wv m u.cS o) o u (DL o u.p F):=by have:=c8.o;rw[Fy,jG Z,Dg,jG h0,jG f9]at this;simp only[iV]at this;rw[ZQ,WZ g7.o,g7.o.p];exact⟨this.1.symm,this.2.symm⟩
     obtain⟨rfl,rfl⟩:=a0
     clear f3 c7 i0 h0 f9
     go_wp2_with fail
     refine(C7 pb L B pl ca u.cS U _ _ (wv m u.cS a) H F u.p _ z.o.k (f6 _) (h2 _) (by rw[f1.o];exact h3)).mono ?_
     rw[f1.o]
     rintro e w2 ⟨rfl,f,n⟩
     have M:=J (z.o.call f n a3 a2)
     clear f n z Q R b2 b3 b4 b5 b6 b7 b8 b9 S X I N Y a1
     obtain⟨Q,R,b2,b3,b4,b5,b6,b7,b8,b9,S,X,I,N,Y,a1⟩:=M.o.bY.c15
     go_wp2_with fail
     refine(RY pb L B pl ca U (.slice fa fl fc) (.slice (some ⟨gs,0,none⟩) H.length sc) (wv m u.cS a) H (DL a u.p F) u (.slice aa u.args.length ac) (.slice ba u.cJ.length bc) (.slice oa u.other.length oc) a _ M.o.k M.o.fE ⟨_,_,_,rfl⟩ ⟨_,_,_,rfl⟩ (f6 _) (h2 _) f1.o h3 f4.1).mono ?_
     rintro e w3 ⟨rfl,j8,j7⟩
     have C:=J (M.o.call j8 j7 a3 a2)
     clear j8 j7 M
     go_wp2_with fail
     exact⟨⟨k+1,_,_,Z,by go_num,C.o.k,C.o.dQ,C.o.fr,c9.o,d0.o⟩,by simp[intOf];omega⟩
   .subst f2;subst d1;subst hs;have k1:((u.kind:Int)==1)=false:=by simp[hk]
    have k2:((u.kind:Int)==12)=false:=by simp[hk]
    have k3:((u.kind:Int)==13)=true:=by simp[hk]
    have d3:=J (c6.mono (fun _ _ r=>r.2));have d4:D (CJ (Dp u.cS G H) u.other []):=by rw[g4];exact .nil
    have a7:D (((g:Int)+1)=((g+1:Nat):Int)):=by show _=_;omega
    have f7:=g8.o;simp only[Cs,iK,List.map_nil,iS,List.sum_nil]at f7;have d5:=J d6;have f5:=J d7;have i8:=J hk;clear f8 c6 g4 hk d6 d7;have d8:=f4.2.1;have d9:=f4.2.2;have P:=iW 6 (g+1);rcases P with P|P
    .have g0:decide ((6:Int)<(g:Int)+1)=true:=jX;obtain⟨x1,y1,E⟩:∃x y,Gi m G (g+1) a4 (o,(Be 4 p F))=(x,y):=⟨_,_,rfl⟩;have a5:=Fh m G (g+1) a4 (o,(Be 4 p F));rw[E]at a5;simp only at a5;obtain⟨x2,y2,v⟩:∃x y,Gi m G (g+1) [] (x1,y1)=(x,y):=⟨_,_,rfl⟩;have a0:x2=a/\y2=b:=by have:=c8.o;rw[Fy,jH (by simp[EA])]at this;simp only[iR,jC,P,if_true]at this;unfold Gi at E v;rw[E]at this;simp only[jC,iV]at this v;exact⟨v.1.symm.trans this.1,v.2.symm.trans this.2⟩
     obtain⟨rfl,rfl⟩:=a0;have c3:=J E;have c4:=J v;clear E v P;rw[d5.o]at I;have h7:decide ((0:Int)<=u.dG)=false:=by rw[f5.o];simp
     go_wp2_with fail;refine(Ch L 4 p F _ z.o.k.wr).mono ?_;rintro e w2 ⟨rfl,c5,a6⟩;have M:=J (z.o.call (z.o.k.add c5 a6) (DP.cV a6) a3 a2);clear c5 a6 z Q R b2 b3 b4 b5 b6 b7 b8 b9 S X I N Y a1;obtain⟨Q,R,b2,b3,b4,b5,b6,b7,b8,b9,S,X,I,N,Y,a1⟩:=M.o.bY.c15;go_wp2_with fail;rw[a7.o];refine(c0.o pb L B pl ca u.cS (g+1) U _ _ _ m H u.cJ a4 o (Be 4 p F) _ M.o.k M.o.dU d3.o a9 hn c2 Z d8 a8.o Z).mono ?_;rintro e w4 ⟨rfl,f,n⟩;rw[c3.o]at f;have A:=J (M.o.call f n a3 a2);clear f n M Q R b2 b3 b4 b5 b6 b7 b8 b9 S X I N Y a1;obtain⟨Q,R,b2,b3,b4,b5,b6,b7,b8,b9,S,X,I,N,Y,a1⟩:=A.o.bY.c15;go_wp2_with fail;rw[a7.o];refine(c0.o pb L B pl ca u.cS (g+1) U _ _ _ m H u.other [] x1 y1 _ A.o.k A.o.eC d4.o a9 hn c2 (by simp only[List.map_nil,List.sum_nil];omega) d9 a8.o Z).mono ?_;rintro e w6 ⟨rfl,f,n⟩;rw[c4.o]at f;have C:=J (A.o.call f n a3 a2);clear f n A;go_wp2_with fail;exact⟨⟨k+1,_,_,Z,by go_num,C.o.k,C.o.dQ,C.o.fr,c9.o,d0.o⟩,by simp[intOf];omega⟩
    .have g0:decide ((6:Int)<(g:Int)+1)=false:=jX;obtain⟨x1,y1,E⟩:∃x y,Gi m G (g+1) a4 (o,F)=(x,y):=⟨_,_,rfl⟩;have a5:=Fh m G (g+1) a4 (o,F);rw[E]at a5;simp only at a5;obtain⟨x2,y2,v⟩:∃x y,Gi m G (g+1) [] (x1,y1)=(x,y):=⟨_,_,rfl⟩;have a0:x2=a/\y2=b:=by have:=c8.o;rw[Fy,jH (by simp[EA])]at this;simp only[iR,jC,Nat.not_lt.2 P,if_false]at this;unfold Gi at E v;rw[E]at this;simp only[jC,iV]at this v;exact⟨v.1.symm.trans this.1,v.2.symm.trans this.2⟩
     obtain⟨rfl,rfl⟩:=a0;have c3:=J E;have c4:=J v;clear E v P;rw[d5.o]at I;go_wp2_with fail;rw[a7.o];refine(c0.o pb L B pl ca u.cS (g+1) U _ _ _ m H u.cJ a4 o F _ z.o.k z.o.dU d3.o a9 hn c2 Z d8 a8.o Z).mono ?_;rintro e w4 ⟨rfl,f,n⟩;rw[c3.o]at f;have A:=J (z.o.call f n a3 a2);clear f n z Q R b2 b3 b4 b5 b6 b7 b8 b9 S X I N Y a1;obtain⟨Q,R,b2,b3,b4,b5,b6,b7,b8,b9,S,X,I,N,Y,a1⟩:=A.o.bY.c15;go_wp2_with fail;rw[a7.o];refine(c0.o pb L B pl ca u.cS (g+1) U _ _ _ m H u.other [] x1 y1 _ A.o.k A.o.eC d4.o a9 hn c2 (by simp only[List.map_nil,List.sum_nil];omega) d9 a8.o Z).mono ?_;rintro e w6 ⟨rfl,f,n⟩;rw[c4.o]at f;have C:=J (A.o.call f n a3 a2);clear f n A;go_wp2_with fail;exact⟨⟨k+1,_,_,Z,by go_num,C.o.k,C.o.dQ,C.o.fr,c9.o,d0.o⟩,by simp[intOf];omega⟩
   .subst f2;subst d1;subst hs;have k1:((u.kind:Int)==1)=false:=by simp[hk]
    have k2:((u.kind:Int)==12)=true:=by simp[hk]
    have d3:=J (c6.mono (fun _ _ r=>r.2));have d4:D (CJ (Dp u.cS G H) u.other []):=by rw[g4];exact .nil
    have a7:D (((g:Int)+1)=((g+1:Nat):Int)):=by show _=_;omega
    have f7:=g8.o;simp only[Cs,iK,List.map_nil,iS,List.sum_nil]at f7;have d5:=J d6;have f5:=J d7;have i8:=J hk;clear f8 c6 g4 hk d6 d7;have d8:=f4.2.1;have d9:=f4.2.2;have P:=iW 6 (g+1);rcases P with P|P
    .have g0:decide ((6:Int)<(g:Int)+1)=true:=jX;obtain⟨x1,y1,E⟩:∃x y,Gi m G (g+1) a4 (o,(Be 4 p F))=(x,y):=⟨_,_,rfl⟩;have a5:=Fh m G (g+1) a4 (o,(Be 4 p F));rw[E]at a5;simp only at a5;obtain⟨x2,y2,v⟩:∃x y,Gi m G (g+1) [] (x1,y1)=(x,y):=⟨_,_,rfl⟩;have a0:x2=a/\y2=b:=by have:=c8.o;rw[Fy,jH (by simp[EA])]at this;simp only[iR,jC,P,if_true]at this;unfold Gi at E v;rw[E]at this;simp only[jC,iV]at this v;exact⟨v.1.symm.trans this.1,v.2.symm.trans this.2⟩
     obtain⟨rfl,rfl⟩:=a0;have c3:=J E;have c4:=J v;clear E v P;rw[d5.o]at I;have h7:decide ((0:Int)<=u.dG)=false:=by rw[f5.o];simp
     go_wp2_with fail;refine(Ch L 4 p F _ z.o.k.wr).mono ?_;rintro e w2 ⟨rfl,c5,a6⟩;have M:=J (z.o.call (z.o.k.add c5 a6) (DP.cV a6) a3 a2);clear c5 a6 z Q R b2 b3 b4 b5 b6 b7 b8 b9 S X I N Y a1;obtain⟨Q,R,b2,b3,b4,b5,b6,b7,b8,b9,S,X,I,N,Y,a1⟩:=M.o.bY.c15;go_wp2_with fail;rw[a7.o];refine(c0.o pb L B pl ca u.cS (g+1) U _ _ _ m H u.cJ a4 o (Be 4 p F) _ M.o.k M.o.dU d3.o a9 hn c2 Z d8 a8.o Z).mono ?_;rintro e w4 ⟨rfl,f,n⟩;rw[c3.o]at f;have A:=J (M.o.call f n a3 a2);clear f n M Q R b2 b3 b4 b5 b6 b7 b8 b9 S X I N Y a1;obtain⟨Q,R,b2,b3,b4,b5,b6,b7,b8,b9,S,X,I,N,Y,a1⟩:=A.o.bY.c15;go_wp2_with fail;rw[a7.o];refine(c0.o pb L B pl ca u.cS (g+1) U _ _ _ m H u.other [] x1 y1 _ A.o.k A.o.eC d4.o a9 hn c2 (by simp only[List.map_nil,List.sum_nil];omega) d9 a8.o Z).mono ?_;rintro e w6 ⟨rfl,f,n⟩;rw[c4.o]at f;have C:=J (A.o.call f n a3 a2);clear f n A;go_wp2_with fail;exact⟨⟨k+1,_,_,Z,by go_num,C.o.k,C.o.dQ,C.o.fr,c9.o,d0.o⟩,by simp[intOf];omega⟩
    .have g0:decide ((6:Int)<(g:Int)+1)=false:=jX;obtain⟨x1,y1,E⟩:∃x y,Gi m G (g+1) a4 (o,F)=(x,y):=⟨_,_,rfl⟩;have a5:=Fh m G (g+1) a4 (o,F);rw[E]at a5;simp only at a5;obtain⟨x2,y2,v⟩:∃x y,Gi m G (g+1) [] (x1,y1)=(x,y):=⟨_,_,rfl⟩;have a0:x2=a/\y2=b:=by have:=c8.o;rw[Fy,jH (by simp[EA])]at this;simp only[iR,jC,Nat.not_lt.2 P,if_false]at this;unfold Gi at E v;rw[E]at this;simp only[jC,iV]at this v;exact⟨v.1.symm.trans this.1,v.2.symm.trans this.2⟩
     obtain⟨rfl,rfl⟩:=a0;have c3:=J E;have c4:=J v;clear E v P;rw[d5.o]at I;go_wp2_with fail;rw[a7.o];refine(c0.o pb L B pl ca u.cS (g+1) U _ _ _ m H u.cJ a4 o F _ z.o.k z.o.dU d3.o a9 hn c2 Z d8 a8.o Z).mono ?_;rintro e w4 ⟨rfl,f,n⟩;rw[c3.o]at f;have A:=J (z.o.call f n a3 a2);clear f n z Q R b2 b3 b4 b5 b6 b7 b8 b9 S X I N Y a1;obtain⟨Q,R,b2,b3,b4,b5,b6,b7,b8,b9,S,X,I,N,Y,a1⟩:=A.o.bY.c15;go_wp2_with fail;rw[a7.o];refine(c0.o pb L B pl ca u.cS (g+1) U _ _ _ m H u.other [] x1 y1 _ A.o.k A.o.eC d4.o a9 hn c2 (by simp only[List.map_nil,List.sum_nil];omega) d9 a8.o Z).mono ?_;rintro e w6 ⟨rfl,f,n⟩;rw[c4.o]at f;have C:=J (A.o.call f n a3 a2);clear f n A;go_wp2_with fail;exact⟨⟨k+1,_,_,Z,by go_num,C.o.k,C.o.dQ,C.o.fr,c9.o,d0.o⟩,by simp[intOf];omega⟩
   .subst f2;subst d1;subst hs;have k1:((u.kind:Int)==1)=false:=by simp[hk]
    have k2:((u.kind:Int)==12)=true:=by simp[hk]
    have d3:=J (c6.mono (fun _ _ r=>r.2));have d4:=J (j5.mono (fun _ _ r=>r.2));have a7:D (((g:Int)+1)=((g+1:Nat):Int)):=by show _=_;omega
    have f7:=g8.o;simp only[Cs,iK,List.map_nil,iS,List.sum_nil]at f7;have d5:=J d6;have f5:=J d7;have i8:=J hk;clear f8 c6 j5 hk d6 d7;have d8:=f4.2.1;have d9:=f4.2.2;have P:=iW 6 (g+1);rcases P with P|P
    .have g0:decide ((6:Int)<(g:Int)+1)=true:=jX;obtain⟨x1,y1,E⟩:∃x y,Gi m G (g+1) a4 (o,(Be 4 p F))=(x,y):=⟨_,_,rfl⟩;have a5:=Fh m G (g+1) a4 (o,(Be 4 p F));rw[E]at a5;simp only at a5;obtain⟨x2,y2,v⟩:∃x y,Gi m G (g+1) h4 (x1,(Be 4 p2 y1))=(x,y):=⟨_,_,rfl⟩;have a0:x2=a/\y2=b:=by have:=c8.o;rw[Fy,jH (by simp[EA])]at this;simp only[iR,jC,P,if_true]at this;unfold Gi at E v;rw[E]at this;dsimp only at this;rw[v]at this;simpa using this
     obtain⟨rfl,rfl⟩:=a0;have c3:=J E;have c4:=J v;clear E v P;rw[d5.o]at I;have h7:decide ((0:Int)<=u.dG)=true:=by rw[f5.o];simp
     go_wp2_with fail;refine(Ch L 4 p F _ z.o.k.wr).mono ?_;rintro e w2 ⟨rfl,c5,a6⟩;have M:=J (z.o.call (z.o.k.add c5 a6) (DP.cV a6) a3 a2);clear c5 a6 z Q R b2 b3 b4 b5 b6 b7 b8 b9 S X I N Y a1;obtain⟨Q,R,b2,b3,b4,b5,b6,b7,b8,b9,S,X,I,N,Y,a1⟩:=M.o.bY.c15;go_wp2_with fail;rw[a7.o];refine(c0.o pb L B pl ca u.cS (g+1) U _ _ _ m H u.cJ a4 o (Be 4 p F) _ M.o.k M.o.dU d3.o a9 hn c2 Z d8 a8.o Z).mono ?_;rintro e w4 ⟨rfl,f,n⟩;rw[c3.o]at f;have A:=J (M.o.call f n a3 a2);clear f n M Q R b2 b3 b4 b5 b6 b7 b8 b9 S X I N Y a1;obtain⟨Q,R,b2,b3,b4,b5,b6,b7,b8,b9,S,X,I,N,Y,a1⟩:=A.o.bY.c15;rw[f5.o]at N h7;go_wp2_with fail;refine(Ch L 4 p2 y1 _ A.o.k.wr).mono ?_;rintro e w5 ⟨rfl,c5,a6⟩;have S5:=J (A.o.call (A.o.k.add c5 a6) (DP.cV a6) a3 a2);clear c5 a6 A Q R b2 b3 b4 b5 b6 b7 b8 b9 S X I N Y a1;obtain⟨Q,R,b2,b3,b4,b5,b6,b7,b8,b9,S,X,I,N,Y,a1⟩:=S5.o.bY.c15;go_wp2_with fail;rw[a7.o];refine(c0.o pb L B pl ca u.cS (g+1) U _ _ _ m H u.other h4 x1 (Be 4 p2 y1) _ S5.o.k S5.o.eC d4.o a9 hn c2 Z d9 a8.o Z).mono ?_;rintro e w6 ⟨rfl,f,n⟩;rw[c4.o]at f;have C:=J (S5.o.call f n a3 a2);clear f n S5;go_wp2_with fail;exact⟨⟨k+1,_,_,Z,by go_num,C.o.k,C.o.dQ,C.o.fr,c9.o,d0.o⟩,by simp[intOf];omega⟩
    .have g0:decide ((6:Int)<(g:Int)+1)=false:=jX;obtain⟨x1,y1,E⟩:∃x y,Gi m G (g+1) a4 (o,F)=(x,y):=⟨_,_,rfl⟩;have a5:=Fh m G (g+1) a4 (o,F);rw[E]at a5;simp only at a5;obtain⟨x2,y2,v⟩:∃x y,Gi m G (g+1) h4 (x1,y1)=(x,y):=⟨_,_,rfl⟩;have a0:x2=a/\y2=b:=by have:=c8.o;rw[Fy,jH (by simp[EA])]at this;simp only[iR,jC,Nat.not_lt.2 P,if_false]at this;unfold Gi at E v;rw[E]at this;dsimp only at this;rw[v]at this;simpa using this
     obtain⟨rfl,rfl⟩:=a0;have c3:=J E;have c4:=J v;clear E v P;rw[d5.o]at I;go_wp2_with fail;rw[a7.o];refine(c0.o pb L B pl ca u.cS (g+1) U _ _ _ m H u.cJ a4 o F _ z.o.k z.o.dU d3.o a9 hn c2 Z d8 a8.o Z).mono ?_;rintro e w4 ⟨rfl,f,n⟩;rw[c3.o]at f;have A:=J (z.o.call f n a3 a2);clear f n z Q R b2 b3 b4 b5 b6 b7 b8 b9 S X I N Y a1;obtain⟨Q,R,b2,b3,b4,b5,b6,b7,b8,b9,S,X,I,N,Y,a1⟩:=A.o.bY.c15;go_wp2_with fail;rw[a7.o];refine(c0.o pb L B pl ca u.cS (g+1) U _ _ _ m H u.other h4 x1 y1 _ A.o.k A.o.eC d4.o a9 hn c2 Z d9 a8.o Z).mono ?_;rintro e w6 ⟨rfl,f,n⟩;rw[c4.o]at f;have C:=J (A.o.call f n a3 a2);clear f n A;go_wp2_with fail;exact⟨⟨k+1,_,_,Z,by go_num,C.o.k,C.o.dQ,C.o.fr,c9.o,d0.o⟩,by simp[intOf];omega⟩
  .have e:k=l.length:=Z;have l2:V=(o,F):=by have:=HC.o;rw[e,i4,jM]at this;exact this.symm
   subst l2;have k8:decide ((k:Int)<(l.length:Int))=false:=jX;clear HC;go_wp2;go_end0;exact⟨rfl,HK.o,HF.o⟩
theorem Wk:∀d,QW d:=by
 intro d;induction d with
 |zero=>exact Nl 0 (fun a h=>Z)
 |succ d b=>exact Nl (d+1) (fun a h=>by have:a=d:=by omega
                                        subst this;exact b)
theorem Mk(R:Act->World->Prop)(b a g n o B)(U:Nat->Prop)(E s f c l m w){F x2 x3 x4 x5 x6 x7 x8 x9 G X a9 c0 d1 e2 e4 e5 m2 m3 m4 m5 m6 m7 m8 m9 n0 n1 n2 n3 n4 n5 n6 n7 n8 e6 e7 e8 e9 f0 f2 f3 f4 f5 f6 f7 f8 f9 g0 g1 g2 g3 g4 g5 g6 g7 g8 g9 h0 h1 h2 h3 h4 h5 h6 h7 h8 h9 i1 i2 i3 i4 i5 i6 i7 i8 i9 j0 j1 j2 j3 j4 j5 j6 j7 j8 j9 k0 k1 k2 k3 k4 k5 k6 k7 k8 k9 l0 l1 l2 H I K L M N P Q S V Y a0 a1 a2 a3 a4 a5 a6 a7 a8 b0 b1 b2 b3 b4 b5 b6 b7 b8 b9 c1 c2 c3 c4 c5 c6 c7 c8 c9 d0 d2 d3 d4 d5 d6 d7 d8 d9 e0 e1 e3}
 (e:AI b a g n o f.bZ f.cB w)(y:AO g n o E w)(d:BZ a s (.slice l c.length m) f.pl f.ca w)(l8:Bx B U w (.slice l c.length m) c)(hB:B<=w.heap.size)(p7:c.length<=8004)
 (t:∀wc n9 o0 o1 o2 o3 o4 o5 o6 o7 o8 o9 p0 p2 p3 p4 p5 p6,Z0 b a g n o B U E s (.slice l c.length m) f c w wc->R {tmps:=#[.pointer (some ⟨b,0,none⟩),F,x2,x3,x4,x5,x6,x7,x8,x9,G,X,a9,c0,d1,e2,e4,e5,n9,o0,o1,o2,o3,o4,o5,o6,o7,o8,o9,p0,p2,p3,p4,p5,p6,e6,e7,e8,e9,f0,f2,f3,f4,f5,f6,f7,f8,f9,g0,g1,g2,g3,g4,g5,g6,g7,g8,g9,h0,h1,h2,h3,h4,h5,h6,h7,h8,h9,i1,i2,i3,i4,i5,i6,i7,i8,i9,j0,j1,j2,j3,j4,j5,j6,j7,j8,j9,k0,k1,k2,k3,k4,k5,k6,k7,k8,k9,l0,l1,l2,H,I,K,L,M,N,P,Q,S,V,Y,a0,a1,a2,a3,a4,a5,a6,a7,a8,b0,b1,b2,b3,b4,b5,b6,b7,b8,b9,c1,c2,c3,c4,c5,c6,c7,c8,c9,d0,d2,d3,d4,d5,d6,d7,d8,d9,e0,e1,e3],defers:=[]} wc):
 Code.wp prog (.region 2 #[⟨some 18,.move (.tmp 0),141, "text.go:286",#[],none⟩,⟨some 19,.nilCheck (.tmp 18),0, "text.go:286",#[⟨0,.data⟩],none⟩,⟨some 20,.fieldAddr 143 (.tmp 19) 3,0, "text.go:286",#[⟨1,.data⟩],none⟩,⟨some 21,.load 37 (.tmp 20),37, "text.go:286",#[⟨2,.data⟩],none⟩,⟨some 22,.move (.tmp 0),141, "text.go:286",#[],none⟩,⟨some 23,.nilCheck (.tmp 22),0, "text.go:286",#[⟨4,.data⟩],none⟩,⟨some 24,.fieldAddr 143 (.tmp 23) 3,0, "text.go:286",#[⟨5,.data⟩],none⟩,⟨some 25,.load 37 (.tmp 24),37, "text.go:286",#[⟨6,.data⟩],none⟩,⟨some 26,.nilCheck (.tmp 25),0, "text.go:286",#[⟨7,.data⟩],none⟩,⟨some 27,.fieldAddr 47 (.tmp 26) 1,0, "text.go:286",#[⟨8,.data⟩],none⟩,⟨some 28,.load 45 (.tmp 27),45, "text.go:286",#[⟨9,.data⟩],none⟩,⟨some 29,.build 92 #[],92, "text.go:286",#[],none⟩,⟨some 30,.buildSlice 45 1 #[(0,.tmp 29)],45, "text.go:286",#[⟨11,.data⟩],none⟩,⟨some 31,.call ⟨.builtin .append,#[.tmp 28,.tmp 30],#[45,45]⟩,45, "text.go:286",#[⟨10,.data⟩,⟨12,.data⟩],none⟩,⟨some 32,.nilCheck (.tmp 21),0, "text.go:286",#[⟨3,.data⟩,⟨0,.phase⟩,⟨1,.phase⟩,⟨2,.phase⟩,⟨3,.phase⟩,⟨4,.phase⟩,⟨5,.phase⟩,⟨6,.phase⟩,⟨7,.phase⟩,⟨8,.phase⟩,⟨9,.phase⟩,⟨10,.phase⟩,⟨11,.phase⟩,⟨12,.phase⟩,⟨13,.phase⟩],none⟩,⟨some 33,.fieldAddr 47 (.tmp 32) 1,0, "text.go:286",#[⟨14,.data⟩,⟨0,.phase⟩,⟨1,.phase⟩,⟨2,.phase⟩,⟨3,.phase⟩,⟨4,.phase⟩,⟨5,.phase⟩,⟨6,.phase⟩,⟨7,.phase⟩,⟨8,.phase⟩,⟨9,.phase⟩,⟨10,.phase⟩,⟨11,.phase⟩,⟨12,.phase⟩,⟨13,.phase⟩],none⟩,⟨none,.store 45 (.tmp 33) (.tmp 31),0, "text.go:286",#[⟨15,.data⟩,⟨13,.data⟩,⟨13,.chain⟩,⟨0,.phase⟩,⟨1,.phase⟩,⟨2,.phase⟩,⟨3,.phase⟩,⟨4,.phase⟩,⟨5,.phase⟩,⟨6,.phase⟩,⟨7,.phase⟩,⟨8,.phase⟩,⟨9,.phase⟩,⟨10,.phase⟩,⟨11,.phase⟩,⟨12,.phase⟩,⟨13,.phase⟩],none⟩] true) (L4 R) {tmps:=#[.pointer (some ⟨b,0,none⟩),F,x2,x3,x4,x5,x6,x7,x8,x9,G,X,a9,c0,d1,e2,e4,e5,m2,m3,m4,m5,m6,m7,m8,m9,n0,n1,n2,n3,n4,n5,n6,n7,n8,e6,e7,e8,e9,f0,f2,f3,f4,f5,f6,f7,f8,f9,g0,g1,g2,g3,g4,g5,g6,g7,g8,g9,h0,h1,h2,h3,h4,h5,h6,h7,h8,h9,i1,i2,i3,i4,i5,i6,i7,i8,i9,j0,j1,j2,j3,j4,j5,j6,j7,j8,j9,k0,k1,k2,k3,k4,k5,k6,k7,k8,k9,l0,l1,l2,H,I,K,L,M,N,P,Q,S,V,Y,a0,a1,a2,a3,a4,a5,a6,a7,a8,b0,b1,b2,b3,b4,b5,b6,b7,b8,b9,c1,c2,c3,c4,c5,c6,c7,c8,c9,d0,d2,d3,d4,d5,d6,d7,d8,d9,e0,e1,e3],defers:=[]} w:=by
 obtain⟨i0,hi,l9,m0,m1⟩:=info_parts Tryz.infoSt;obtain⟨cs,j,u,x⟩:=l8;have C:=e.bY.cell 3;have A:=d.bY.cell 1;have f1:=d.bY.frozen 1;simp at C A;have lr:=Ae e;have z:=Ae d;have p8:a≠b:=d.bY.ne e.bY T;have l4:=J (Am j e T);have r:=J (Am j d T);have HR:=J e;have l6:=J y;have HP:=J d;have l5:=J x;have l3:=J u;have HQ:=J t;clear e y d x u t;go_region_law(refine AB rfl _ _ 45 rfl B 92 i0 (.agg zS) 15 184 underlying45 hi l9 m0 m1 rfl T _ _ _ rfl (j.alloc _) ⟨w.heap.size,0,none⟩ 1 1 zS.toList rfl rfl (AC rfl _ _) ZR T jZ Z jX ?_;intro v' p v i l7;have q1:p.cell? ⟨a,1,none⟩=some (.slice l c.length m):=(gJ (i.block a jX (fun h=>r.o a h.symm rfl))).trans (by rw[<-A];exact gJ (gS _ _ _ z));have q2:p.frozen? ⟨a,1,none⟩=false:=(gO (i.block a jX (fun h=>r.o a h.symm rfl))).trans (by rw[<-f1];exact gO (gS _ _ _ z));have q3:p.cell? ⟨b,3,none⟩=some (.pointer (some ⟨a,0,none⟩)):=(gJ (i.block b jX (fun h=>l4.o b h.symm rfl))).trans (by rw[<-C];exact gJ (gS _ _ _ lr));obtain⟨va,vl,vc,rfl⟩:=Ad v);all_goals
  exact HQ.o _ _ _ _ _ _ _ _ _ _ _ _ _ _ _ _ _ _ (US HR.o l6.o HP.o j l3.o l5.o (((O.refl _ _).alloc _).drew) v i (fun k hk=>(l7 k hk).imp id (fun q=>by simp at q;omega)))
abbrev RowQ:=TypeId×Nat×Value×Nat×List Value
def RowQ.ok(B:Nat)(w:World)(q:RowQ):Prop:=(q.1=3\/q.1=49)/\w.ownsRow B q.1 q.2.1 q.2.2.1 q.2.2.2.1 q.2.2.2.2
theorem RowQ.ok.d8{B:Nat}{w N:World}{X:Nat->Prop}{q:RowQ}(h:q.ok B w)(f:O X w N)(d:∀(k:Nat) (a:Array Value) (t:TypeId) (b:Nat×Nat),X k->w.heap[k]? =some (.cells a t b)->t≠3/\t≠49):q.ok B N:=
 ⟨h.1,Ai h.2 f (fun k a b c e=>h.1.elim (d k a _ b c e).1 (d k a _ b c e).2)⟩
theorem Ln{w b a t}(h:W b a t w)(g:t≠3/\t≠49)(k c u d)(f:k=b)(e:w.heap[k]? =some (.cells c u d)):u≠3/\u≠49:=by subst f;unfold W at h;rw[e]at h;simp only[gN,gU]at h;rw[h.2.1];exact g
structure SG(y C K g n E B:Nat)(U:Nat->Prop)(j:List Tk)(H M sv:Value)(x:St)(A:List FS)(I:Array Value)(L:List RowQ)(G w:World):Prop where
 s:SF y C K g n E B U j H sv x A I w
 f:Fo y C M sv G w
 b:G.heap.size<=K
 c:x.bZ<n
 z:(tokAt j (n-1)).sort=0
 r:∀q∈L,RowQ.ok B w q
 m:B<=G.heap.size
section
variable{y C K g n E B:Nat}{U:Nat->Prop}{j:List Tk}{H M sv:Value}{x:St}{A:List FS}{I:Array Value}{L:List RowQ}{G w N:World}
theorem SG.quiet(h:SG y C K g n E B U j H M sv x A I L G w)(a:O kD w N):SG y C K g n E B U j H M sv x A I L G N:=
 ⟨h.s.quiet a,h.f.trans (Fo.cV (a.mono (fun _ _ q=>q.elim))),h.b,h.c,h.z,fun q b=>(h.r q b).d8 a (fun _ _ _ _ q=>q.elim),h.m⟩
theorem SG.cK(h:SG y C K g n E B U j H M sv x A I L G w)(i u):SG y C K g n E B U j H M sv x A (I.setIfInBounds i u) L G (w.setCell ⟨K,i,none⟩ u):=
 ⟨h.s.cK i u,h.f.cE i u h.b,h.b,h.c,h.z,fun q a=>(h.r q a).d8 ((O.refl _ _).t9 i u) (Ln h.s.sx T),h.m⟩
theorem SG.cast{a}(h:SG y C K g n E B U j H M sv x A I L G w)(e:I=a):SG y C K g n E B U j H M sv x A a L G w:=e▸h
theorem SG.one{q}(h:SG y C K g n E B U j H M sv x A I (q::L) G w):SG y C K g n E B U j H M sv x A I [q] G w:=
 ⟨h.s,h.f,h.b,h.c,h.z,fun p a=>h.r p (by rw[iB.1 a];exact .head _),h.m⟩
theorem SG.next(h:SG y C K g n E B U j H M sv x A I L G w)(v l)(a:v.toList=l):
 Calls prog 97 #[.pointer (some ⟨y,0,none⟩),.string v] w fun e N=>e=.returned (.bool (Bs x.cB (tokAt j x.bZ) l))/\D (SG y C K g n E B U j H M sv x A I L G N):=
 (Rz y C g n E x.bZ x.cB j v l a w h.s.rd h.s.tk h.c).mono (fun _ _ q=>⟨q.1,h.quiet q.2⟩)
theorem SG.dE(h:SG y C K g n E B U j H M sv x A I L G w)(v l)(b:v.toList=l):
 Calls prog 51 #[.pointer (some ⟨y,0,none⟩),.string v] w fun e N=>∃a,D (Aw j l x=a)/\e=.returned (.tuple #[])/\D (SG y C K g n E B U j H M sv a A I L G N):=
 (Jc y C g n E x.bZ x.cB j v l b w h.s.rd h.s.tk h.c).mono (fun _ _ q=>⟨_,rfl,q.1,h.s.dE rfl q.2.2 q.2.1,h.f.tr q.2.2,h.b,Cb rfl h.z h.c,h.z,fun p c=>(h.r p c).d8 q.2.2 (Ln h.s.rd.bY T),h.m⟩)
theorem SG.get(h:SG y C K g n E B U j H M sv x A I L G w)(k:Nat)(b:k≠0):
 Calls prog 52 #[.pointer (some ⟨y,0,none⟩),.int .i64 k] w fun e N=>∃q a,D (Bm j k x=(q,a))/\e=.returned (JN q)/\D (SG y C K g n E B U j H M sv a A I L G N):=
 (K6 y C g n E x.bZ k x.cB j w h.s.rd h.s.tk h.c).mono (fun _ _ q=>⟨_,_,rfl,q.1,h.s.get rfl q.2.2 q.2.1,h.f.tr q.2.2,h.b,Ev rfl b h.z h.c,h.z,fun p c=>(h.r p c).d8 q.2.2 (Ln h.s.rd.bY T),h.m⟩)
theorem SG.value(h:SG y C K g n E B U j H M sv x A I L G w)(s)(u:s.args=[])(F:x.pl<=4001)(v:x.ca<=4001):
 Calls prog 132 #[.pointer (some ⟨y,0,none⟩),.agg (Bo s AW AW AW)] w fun e N=>∃b r a l c,D (C0 j x s=(b,r))/\e=.returned (.agg (Bo b (.slice a l c) AW AW))/\
  D (SG y C K g n E B U j H M sv r A I ((49,3,.slice a l c,b.args.length,Bc b.args)::L) G N)/\D (∀k,Value.ownBlock (.slice a l c)=some k->G.heap.size<=k):=by
 refine(Va y C g n E j H sv x s w h.s.rd h.s.tk h.s.pr h.c h.z u F v).mono ?_;rintro e N ⟨R,rfl,i,P,Q,z,f⟩;obtain⟨a,l,c,rfl⟩:=Ad i;have S:=h.f.d8.size;refine⟨_,_,a,l,c,rfl,rfl,⟨h.s.value P Q z f,h.f.trans (Fo.cV f),h.b,QM h.z x s h.c,h.z,?_,h.m⟩,fun k d=>by have:=(i.lt k d).1;omega⟩;intro q m;rcases iZ.1 m with rfl|m
 .exact⟨.inr rfl,Aq i (by have:=h.m;omega)⟩
 .exact(h.r q m).d8 f (fun k o t p d=>d.elim (Ln h.s.rd.bY T k o t p) (Ln h.s.pr.bY T k o t p))
theorem SG.block{f inn:Nat}(h:SG y C K g n E B U j H M sv x A I L G w)(ih:∀k,k<=f->Iv k)(hi:Iq n x A.length)(hf:x.cB=none->2*(n-x.bZ)<=f):
 Calls prog 54 #[.pointer (some ⟨y,0,none⟩),.int .i64 inn] w fun e N=>∃p o x' v r s t F P Q m,D ((tokAt j x.bZ).pos=p/\(Az j f inn (Aw j [123] x) A []).1=o/\Aw j [125] (Az j f inn (Aw j [123] x) A []).2.1=x'/\(Az j f inn (Aw j [123] x) A []).2.2=v)/\
  e=.returned (.tuple #[.int .i64 p,.slice r s t])/\D (SG y C K g n E B m j H M (.slice F P Q) x' v I ((3,1,.slice r s t,o.length,o.map fun i:Nat=>Value.int .i64 (i:Int))::L) G N)/\
  D ((∀k,U k->m k)/\(∀k,m k->U k\/G.heap.size<=k)/\∀k,Value.ownBlock (.slice r s t)=some k->G.heap.size<=k)/\D (Iq n x' v.length/\A.length<=v.length/\(x'.cB=none->x.bZ+1<=x'.bZ)):=by
 have a1:(Aw j [123] x).bZ<n:=Cb rfl h.z h.c;have Y:=A8 j [123] x;obtain⟨X,q2,q3⟩:=(DQ h.z f).1 inn (Aw j [123] x) A [] (hi.cY Y a1);have g2:=A8 j [125] (Az j f inn (Aw j [123] x) A []).2.1;have a6:=h.f.d8.size;have a5:K<w.heap.size:=Ae h.s.sx;have hm:=h.m;have hn:=h.s.dP;refine(M5 f ih y C g n E B inn (fun k=>U k/\k<w.heap.size) j H sv x A w h.s.rd h.s.tk h.s.pr h.s.st.below (fun k b=>b.2) Z h.z hi hf).mono ?_;rintro e N ⟨a4,bv,m,a7,a3,a8,rfl,V,hr,u,hp,a0,z⟩;obtain⟨r,s,t,rfl⟩:=Ad V;obtain⟨F,P,Q,rfl⟩:∃a l c,a4=.slice a l c:=by obtain⟨_,q,_⟩:=a0;exact Ad q
 refine⟨_,_,_,_,r,s,t,F,P,Q,fun k=>m k\/U k,⟨rfl,rfl,rfl,rfl⟩,rfl,⟨⟨hr,u,hp,h.s.sx.d8 z.d8 ?_,a0.more (fun _=>.inl),?_⟩,h.f.trans z,h.b,Cb rfl h.z X.1,h.z,?_,hm⟩,⟨fun k=>.inr,fun k q=>q.elim (fun q=>(a3 k q).imp (fun q=>q.1) (fun q=>Z)) .inl,fun k b=>by have:=(V.lt k b).1;omega⟩,X.cY g2 (Cb rfl h.z X.1),q3,fun e=>by have:=g2.2.2.2 e;have:=Y.1;omega⟩
 .rintro(q|q|q)
  .exact hn.2.2.1 q
  .exact hn.2.2.2.2.1 q
  .exact h.s.nb _ q rfl
 .intro k b;rcases z.own k b with q|q
  .exact h.s.nb k q
  .omega
 .intro q d;rcases iZ.1 d with rfl|d
  .exact⟨.inl rfl,Aq V Z⟩
  .obtain⟨_,a2,_⟩:=h.s.st;have d:=h.r q d;refine⟨d.1,Ai d.2 z.d8 (fun k R S b=>?_)⟩;have u:q.1≠143/\q.1≠47/\q.1≠92:=by rcases d.1 with e|e<;>rw[e]<;>decide
   rcases b with b|b|b
   .exact CT h.s.rd.bY (Ne.symm u.1) k R S b
   .exact CT h.s.pr.bY (Ne.symm u.2.1) k R S b
   .exact Gr a2 (Ne.symm u.2.2) k R S b
structure SE(y C K g n E B:Nat)(U V:Nat->Prop)(j:List Tk)(H M sv:Value)(x:St)(A:List FS)(I:Array Value)(L:List RowQ)(G w:World)(i:Nat)(S:FS)(av bv ov:Value):Prop where
 g:SG y C K g n E B V j H M sv x A I L G w
 u:(∀k,U k->V k)/\∀k,V k->U k\/G.heap.size<=k
 l:i<A.length
 a:CE B w av S.args
 d:Ax B w bv S.cJ
 e:Ax B w ov S.other
 o:∀k,(av.ownBlock=some k\/bv.ownBlock=some k\/ov.ownBlock=some k)->G.heap.size<=k
theorem SE.post{V:Nat->Prop}{i d l c S a b e r}(h:SE y C K g n E B U V j H M (.slice (some ⟨d,0,none⟩) l c) x A I L G w i S a b e)(t:r=(i,x,A.set i S)):
 Sg y C g n E B U j H M G r (.returned (.int .i64 i)) (Mg w d (i*15) (Bo S a b e).toList).drew:=by
 subst t;have F:=(h.g.s.st.more (U':=fun k=>V k\/(a.ownBlock=some k\/b.ownBlock=some k\/e.ownBlock=some k)) (fun _=>.inl)).put h.l ⟨a,b,e,rfl,h.a,h.d,h.e,fun _=>.inr⟩;have m:=L8 w d (i*15) (Bo S a b e).toList;obtain⟨u,v,P⟩:=h.g.s.dZ d rfl;have s:g≠d:=by obtain⟨_,q,_⟩:=h.g.s.st;obtain⟨z,p⟩:=DN q;exact h.g.s.tk.ne p T
 have f:∀o:World,O kD o o.drew:=fun o=>(O.refl _ o).drew
 exact⟨_,_,fun k q=>.inl (h.u.1 k q),fun k q=>q.elim (h.u.2 k) (fun q=>.inr (h.o k q)),rfl,(h.g.s.rd.d8 m (fun q=>u q.symm)).d8 (f _) id,(h.g.s.tk.d8 m s).d8 (f _) id,(h.g.s.pr.bY.d8 m (fun q=>v q.symm)).d8 (f _) id,F.d8 (f _) (fun _ _ q=>q) (fun _ _ _ _ q=>q.elim),(h.g.f.put rfl m).drew⟩
end
theorem Ke(w a o s b c d):Mg w a o (Bo s b c d).toList=((((((((((((((w.setCell ⟨a,o,none⟩ (.int .i64 s.kind)).setCell ⟨a,o+1,none⟩ (.string s.p.d9)).setCell ⟨a,o+2,none⟩ (.int .i64 s.p.pos)).setCell ⟨a,o+3,none⟩ (.int .i64 s.p.sort)).setCell ⟨a,o+4,none⟩ (.string s.q.d9)).setCell ⟨a,o+5,none⟩ (.int .i64 s.q.pos)).setCell ⟨a,o+6,none⟩ (.int .i64 s.q.sort)).setCell ⟨a,o+7,none⟩ (.int .i64 s.field)).setCell ⟨a,o+8,none⟩ b).setCell ⟨a,o+9,none⟩ (.int .i64 s.l7)).setCell ⟨a,o+10,none⟩ c).setCell ⟨a,o+11,none⟩ d).setCell ⟨a,o+12,none⟩ (.int .i64 s.br)).setCell ⟨a,o+13,none⟩ (.int .i64 s.dG)).setCell ⟨a,o+14,none⟩ (.int .i64 s.cS):=rfl
theorem W.c7{b a t w}(h:W b a t w):w.cell? ⟨b,0,none⟩=a[0]? /\w.cell? ⟨b,1,none⟩=a[1]? /\w.cell? ⟨b,2,none⟩=a[2]? /\w.cell? ⟨b,3,none⟩=a[3]? /\w.cell? ⟨b,4,none⟩=a[4]? /\w.cell? ⟨b,5,none⟩=a[5]? /\w.cell? ⟨b,6,none⟩=a[6]? /\∀i,w.frozen? ⟨b,i,none⟩=false:=
 ⟨h.cell 0,h.cell 1,h.cell 2,h.cell 3,h.cell 4,h.cell 5,h.cell 6,h.frozen⟩
theorem ZH(I:Array Value)(a:I.size=15)(b c i k m n o p q r d e f g h:Value):((((((((((((((I.setIfInBounds 0 b).setIfInBounds 1 c).setIfInBounds 2 i).setIfInBounds 3 k).setIfInBounds 4 m).setIfInBounds 5 n).setIfInBounds 6 o).setIfInBounds 7 p).setIfInBounds 8 q).setIfInBounds 9 r).setIfInBounds 10 d).setIfInBounds 11 e).setIfInBounds 12 f).setIfInBounds 13 g).setIfInBounds 14 h=#[b,c,i,k,m,n,o,p,q,r,d,e,f,g,h]:=by obtain⟨l⟩:=I;simp only[List.size_toArray]at a;rcases l with _|⟨s,_|⟨t,_|⟨F,_|⟨L,_|⟨P,_|⟨Q,_|⟨R,_|⟨S,_|⟨U,_|⟨V,_|⟨u,_|⟨v,_|⟨w,_|⟨x,_|⟨z,_|⟨B,l⟩⟩⟩⟩⟩⟩⟩⟩⟩⟩⟩⟩⟩⟩⟩⟩<;>first|(simp at a;done)|(simp at a;omega)|simp
def NS(f:Nat)(b:List UInt8->Prop):Prop:=∀(y C g n E B a:Nat) (U:Nat->Prop) (j:List Tk) (H sv:Value) (x:St) (A:List FS) (w:World),AI y C g n E x.bZ x.cB w->AO g n E j w->BZ C H sv x.pl x.ca w->Bx B U w sv A->B<=w.heap.size->(tokAt j (n-1)).sort=0->Iq n x A.length->x.cB=none->2*(n-x.bZ)<=f->b (AF (tokAt j x.bZ))->
 Calls prog 99 #[.pointer (some ⟨y,0,none⟩),.int .i64 a] w fun e N=>Sg y C g n E B U j H sv w (AJ j f a x A) e N

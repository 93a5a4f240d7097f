/- Part of the proof: LexA LexB2 LexB3 LexB4 LexC LexD LexE RdA TrK TrL TrM. -/
import Derived.Test.YtaningfhibkemaaGreatDoorG01
import Derived.Test.YtaningfhibkemaaGreatDoorG05
set_option maxRecDepth 100000
set_option maxHeartbeats 2000000
namespace Go.Proofs.YtaningfhibkemaaGreatDoor
open Go.RowKit Go.Proofs.Tryz
theorem Mt(P V)(hF:Cc P V)(f)(ih:∀k,k<=f->He P V k):He P V (f+1):=by
 intro b g n K j i w S hG hB l ht M hz a4 hf;have a:=J (KU.start l ht);have HG:=J hG;have IH:=J ih;have HZ:=J hz;have HF:=J hF;by_cases L:(Aj i j.next).kind=7
 .have Y:=J L;clear l ht hz hG ih hF a4;obtain⟨r,l⟩:∃r,Bu i n (f+1) j=r:=⟨_,rfl⟩;rw[l];have a3:=J l;have b1:=J L;clear l L;go_enter func154,ntmps154;go_wp2_with fail;refine(AZ b g n K j i _ a.o.pa a.o.pt M).mono ?_;rw[Y.o];rintro e w0 ⟨rfl,z⟩;have p:=J (a.o.quiet z);clear z a;have a:=p;clear p;have a9:=a.o.d8.size;have a7:=Ae a.o.cN;go_wp2_with fail;refine(Rg P V f IH.o b g n K j i _ S (O.keeps HG.o a.o.d8 hB S) Z a.o.pa a.o.pt M HZ.o b1.o hf).mono ?_;rw[a3.o];rintro e w1 ⟨d,U,s,av,bv,rfl,N,hU,o,m⟩;obtain⟨⟨t,x,u,rfl⟩,⟨ba,bl,bc,rfl⟩⟩:=N.eH;have c:=J (a.o.call o m);have a2:=J N;have HU:=J hU;have b0:=m.size;clear N hU o m a;obtain⟨A,B,C,E,F,G,H,I⟩:=c.o.cN.e8 0 1 2 3 4 5 6 7;have qf:=c.o.cN.frozen;have ql:=Ae c.o.cN;simp only[gH,gF,gG]at A B C E F G H I;unfold EW;go_wp2;refine gP (v:=.agg (EW s (.slice t x u) (.slice ba bl bc))) (by simp[results,results154,go_sem,EW,A,B,C,E,F,G,H,I]) rfl ?_;have a0:b≠w.heap.size:=by have:=c.o.bl;omega
  refine⟨d,U,s,_,_,rfl,?_,?_,?_,?_⟩
  .refine a2.o.d8 (X:=fun k=>k=w.heap.size) ?_ (fun k h=>by have:=(HU.o k h).1;omega);iterate 8 refine O.t9 ?_ _ _
   exact O.refl _ _
  .intro k h;simp only[World.size_setCell];have:=HU.o k h;omega
  .refine W.d8 (X:=fun k=>k=w.heap.size) c.o.pa ?_ a0;iterate 8 refine O.t9 ?_ _ _
   exact O.refl _ _
  .iterate 8 refine O.cE ?_ _ _ (gI _)
   exact c.o.d8
 .by_cases R:(Aj i j.next).kind=9
  .have Y:=J R;clear l ht hz hG ih hF a4;obtain⟨r,l⟩:∃r,Bu i n (f+1) j=r:=⟨_,rfl⟩;rw[l];have a3:=J l;have b2:=J R;clear l R L;go_enter func154,ntmps154;go_wp2_with fail;refine(AZ b g n K j i _ a.o.pa a.o.pt M).mono ?_;rw[Y.o];rintro e w0 ⟨rfl,z⟩;have p:=J (a.o.quiet z);clear z a;have a:=p;clear p;have a9:=a.o.d8.size;have a7:=Ae a.o.cN;go_wp2_with fail;refine(RP P V f IH.o b g n K j i _ S (O.keeps HG.o a.o.d8 hB S) Z a.o.pa a.o.pt M HZ.o b2.o hf).mono ?_;rw[a3.o];rintro e w1 ⟨d,U,s,av,bv,rfl,N,hU,o,m⟩;obtain⟨⟨t,x,u,rfl⟩,⟨ba,bl,bc,rfl⟩⟩:=N.eH;have c:=J (a.o.call o m);have a2:=J N;have HU:=J hU;have b0:=m.size;clear N hU o m a;obtain⟨A,B,C,E,F,G,H,I⟩:=c.o.cN.e8 0 1 2 3 4 5 6 7;have qf:=c.o.cN.frozen;have ql:=Ae c.o.cN;simp only[gH,gF,gG]at A B C E F G H I;unfold EW;go_wp2;refine gP (v:=.agg (EW s (.slice t x u) (.slice ba bl bc))) (by simp[results,results154,go_sem,EW,A,B,C,E,F,G,H,I]) rfl ?_;have a0:b≠w.heap.size:=by have:=c.o.bl;omega
   refine⟨d,U,s,_,_,rfl,?_,?_,?_,?_⟩
   .refine a2.o.d8 (X:=fun k=>k=w.heap.size) ?_ (fun k h=>by have:=(HU.o k h).1;omega);iterate 8 refine O.t9 ?_ _ _
    exact O.refl _ _
   .intro k h;simp only[World.size_setCell];have:=HU.o k h;omega
   .refine W.d8 (X:=fun k=>k=w.heap.size) c.o.pa ?_ a0;iterate 8 refine O.t9 ?_ _ _
    exact O.refl _ _
   .iterate 8 refine O.cE ?_ _ _ (gI _)
    exact c.o.d8
  .obtain⟨s1,x1,h1⟩:∃s y,AS i n j=(s,y):=⟨_,_,rfl⟩;obtain⟨x2,h2⟩:∃y,Af i n 14 x1=y:=⟨_,rfl⟩;have hv:Bu i n (f+1) j=(.mk s1 [],x2):=by rw[Bu,jG L,jG R,h1];simp only[h2]
   rw[hv];have g1:=Kz hz M;rw[h1]at g1;have b3:=g1.2;obtain⟨kk,a5⟩:∃k,(Aj i j.next).kind=k:=⟨_,rfl⟩;rw[a5]at L R;have Y:=J a5;have j7:((kk:Int)==7)=false:=jX;have j9:((kk:Int)==9)=false:=jX;have X1:=J h1;have X2:=J h2;clear l ht hz hG ih hF a4 h1 h2 hv a5 L R g1;go_enter func154,ntmps154;go_wp2_with fail;refine(AZ b g n K j i _ a.o.pa a.o.pt M).mono ?_;rw[Y.o];rintro e w0 ⟨rfl,z⟩;have p:=J (a.o.quiet z);clear z a;have a:=p;clear p;have a9:=a.o.d8.size;have a7:=Ae a.o.cN;go_wp2_with fail;refine(Uw P V HF.o b g n K j i _ S (O.keeps HG.o a.o.d8 hB S) Z a.o.pa a.o.pt M HZ.o).mono ?_;rw[X1.o];rintro e w1 ⟨av,rfl,a6,o,m⟩;obtain⟨t,x,u,rfl⟩:=Ad a6;have hA:=(O.refl kD w1).alloc (.cells (GD s1 (.slice t x u)) 230);have c:=J ((a.o.call o m).quiet hA);have L1:=J (W.new w1 (GD s1 (.slice t x u)) 230);have O1:=J (Ac a6 hA (fun _ _ q=>q));have b0:=m.size;have b5:b<w1.heap.size:=Ae o;clear a6 o m a hA;unfold GD at c L1 O1⊢;go_wp2_with fail;refine(AH b g n K 14 x1 i _ c.o.pa c.o.pt b3).mono ?_;rw[X2.o];rintro e w2 ⟨rfl,a8,a1⟩;have Q:=J (c.o.call a8 a1);have L2:=J (L1.o.d8 a1 Z);have O2:=J (Ac O1.o a1 (fun k h=>by have:=(O1.o.lt k h).1;have:=c.o.bl;omega));have b4:=a1.size;simp at b4;clear a8 a1 c L1 O1;obtain⟨m0,m1,m2,m3,m4,m5,m6,m7⟩:=L2.o.e8 0 1 2 3 4 5 6 7;simp only[gH,gF,gG]at m0 m1 m2 m3 m4 m5 m6 m7;obtain⟨A,B,C,E,F,G,H,I⟩:=Q.o.cN.e8 0 1 2 3 4 5 6 7;have qf:=Q.o.cN.frozen;have ql:=Ae Q.o.cN;simp only[gH,gF,gG]at A B C E F G H I;go_wp2;refine gP (v:=.agg (EW s1 (.slice t x u) (.slice none 0 0))) (by simp[results,results154,go_sem,EW,A,B,C,E,F,G,H,I]) rfl ?_;have a0:b≠w.heap.size:=by have:=Q.o.bl;omega
   refine⟨1,fun k=>Value.ownBlock (.slice t x u)=some k,s1,_,_,rfl,?_,?_,?_,?_⟩
   .refine BW.d8 (X:=fun k=>k=w.heap.size) (w:=w2) (BW.flat (Aq O2.o (gV _)) (fun k h=>h)) ?_ (fun k h=>by have:=(O2.o.lt k h).1;omega);iterate 8 refine O.t9 ?_ _ _
    exact O.refl _ _
   .intro k h;simp only[World.size_setCell];have:=O2.o.lt k h;omega
   .refine W.d8 (X:=fun k=>k=w.heap.size) Q.o.pa ?_ a0;iterate 8 refine O.t9 ?_ _ _
    exact O.refl _ _
   .iterate 8 refine O.cE ?_ _ _ (gI _)
    exact Q.o.d8
theorem FO(a:Nat)(c:World)(hF:Cc a c):∀f,∀k,k<=f->He a c k
 |0,k,d=>by intro b g n i x m w _ _ _ _ _ j _ _ l;omega
 |f+1,k,d=>by
  by_cases h:k<=f
  .exact FO a c hF f k h
  .have e:k=f+1:=Z;subst e;exact Mt a c hF f (FO a c hF f)
structure TF where
 name:PT
 u9:List PT
 l7:Nat
 cF:List TS
def JL(a:List PT)(n:Nat)(x:PS):TF×PS:=
 let b:=Af a n 3 x
 let c:=Af a n 1 b
 let y:=Br a n c
 let r:=AN a n (2*n+1) (Af a n 12 y.2) []
 (⟨AG a 1 b,y.1,(AG a 12 y.2).l7,r.1⟩,Af a n 13 r.2)
def MN(t:TF)(a b:Value):Array Value:=#[.string t.name.d9,.int .i64 t.name.l7,a,.int .i64 t.l7,b]
def Ia(d:Nat)(U:Nat->Prop)(w:World)(t:TF)(c:List Value):Prop:=∃a b,c=(MN t a b).toList/\w.ownsRow 0 126 2 a t.u9.length (BI t.u9)/\(∀k,a.ownBlock=some k->U k)/\CU d U w b t.cF
theorem Ia.d8{d}{U:Nat->Prop}{w f t c}{X:Nat->Prop}(h:Ia d U w t c)(b:O X w f)(e:∀k,U k->¬X k):Ia d U f t c:=by obtain⟨g,sv,i,j,a,l⟩:=h;exact⟨g,sv,i,Ac j b (fun k m=>e k (a k m)),a,l.d8 b e⟩
theorem Ia.more{d}{U U':Nat->Prop}{w t c}(h:Ia d U w t c)(a:∀k,U k->U' k):Ia d U' w t c:=by obtain⟨b,l,e,f,g,i⟩:=h;exact⟨b,l,e,f,fun k j=>a k (g k j),i.more a⟩
theorem Ia.dR{d e}{U:Nat->Prop}{w t c}(h:Ia d U w t c)(j:d<=e):Ia e U w t c:=by obtain⟨a,k,b,f,g,i⟩:=h;exact⟨a,k,b,f,g,i.dR j⟩
def aF(b g n m:Nat)(w:World)(r:TF×PS)(e:Ending)(f:World):Prop:=
 ∃(d:Nat) (U:Nat->Prop) (a:Option Addr) (l c:Nat) (h:Option Addr) (j i:Nat),e=.returned (.agg (MN r.1 (.slice a l c) (.slice h j i)))/\Ia d U f r.1 (MN r.1 (.slice a l c) (.slice h j i)).toList/\(∀k,U k->w.heap.size<=k/\k<f.heap.size)/\AX b g n m r.2 f/\O (fun k=>k=b) w f
theorem Gb{g n}(a:(Aj g (n-1)).kind=0){x}(h:x.next<n):IQ n x (JL g n x).2:=by have b:=Ah a 3 h;have c:=b.trans (Ah a 1 b.2);have d:=c.trans (Ex a c.2);have e:=d.trans (Ah a 12 d.2);have f:=e.trans (BD a (2*n+1) _ [] e.2);exact f.trans (Ah a 13 f.2)
theorem LL{b n}(a:(Aj b (n-1)).kind=0){x}(j:x.next<n)(k:(Aj b x.next).kind=3):x.next+1<=(JL b n x).2.next:=by have h:=Ah a 3 j;have e:=BY (n:=n) k Z;have c:=Ah a 1 h.2;have d:=c.trans (Ex a c.2);have f:=d.trans (Ah a 12 d.2);have g:=f.trans (BD a (2*n+1) _ [] f.2);have i:=g.trans (Ah a 13 g.2);have:=i.1;unfold JL;simp only;omega
abbrev aG:Array Value:=#[.string {data:=#[]},.int .i64 0,.slice none 0 0,.int .i64 0,.slice none 0 0]
theorem Ji(i E)(hF:Cc i E)(b g n h o d w)(hb:i<=b)(hG:Below i E w)(hB:i<=w.heap.size)(C:AX b g n h o w)(r:AY g n h d w)(a9:o.next<n)(s:(Aj d (n-1)).kind=0):
 Calls prog 112 #[.pointer (some ⟨b,0,none⟩)] w fun e w'=>aF b g n h w (JL d n o) e w':=by
 have lr:=Ae C;have lg:=r.lt;have Q:=r.ne C T;obtain⟨F,j⟩:∃y,Af d n 3 o=y:=⟨_,rfl⟩;obtain⟨x2,p⟩:∃y,Af d n 1 F=y:=⟨_,rfl⟩;obtain⟨f,U⟩:∃y,AG d 1 F=y:=⟨_,rfl⟩;obtain⟨l3,t,z⟩:∃l y,Br d n x2=(l,y):=⟨_,_,rfl⟩;obtain⟨p4,V⟩:∃y,(AG d 12 t).l7=y:=⟨_,rfl⟩;obtain⟨l4,y4,M⟩:∃l y,AN d n (2*n+1) (Af d n 12 t) []=(l,y):=⟨_,_,rfl⟩;obtain⟨x5,N⟩:∃y,Af d n 13 y4=y:=⟨_,rfl⟩;have hv:JL d n o=(⟨f,l3,p4,l4⟩,x5):=by simp only[JL,j,p,U,z,V,M,N]
 rw[hv];have b5:F.next<n:=by rw[<-j];exact AU s a9
 have b6:x2.next<n:=by rw[<-p];exact AU s b5
 have d6:t.next<n:=by have:=Uq s b6;rw[z]at this;exact this
 have IH:=J (FO i E hF (2*n+1));have HG:=J hG;have HZ:=J s;have X1:=J j;have X2:=J p;have K2:=J U;have X3:=J z;have K4:=J V;have X4:=J M;have X5:=J N;clear j p U z V M N hv s hG hF;go_enter func112,ntmps112;go_wp2_with fail;refine(AH b g n h 3 o d _ (W.alloc C _) (r.d8 ((O.refl kD _).alloc _) id) a9).mono ?_;rw[X1.o];rintro e w2 ⟨rfl,b8,A⟩;have a0:=J ((W.new w aG 132).d8 A Z);have a2:=J (((O.refl (fun k=>k=b) w).alloc (.cells aG 132)).trans A);have K:=J ((r.d8 ((O.refl kD _).alloc (.cells aG 132)) id).d8 A Q);have a4:=J b8;clear b8 A C r;go_wp2_with fail;refine(Cy b g n h F d _ a4.o K.o b5).mono ?_;rw[X2.o,K2.o];rintro e w3 ⟨rfl,S,B⟩;have G:=J (a0.o.d8 B Z);have a3:=J (a2.o.trans B);have L:=J (K.o.d8 B Q);have a5:=J S;have e1:=Ae G.o;have e4:=Ae S;clear S B a0 a2 K a4;unfold J9;go_wp2_with fail;refine(J8 b g n h x2 d _ (W.alloc a5.o _) (L.o.d8 ((O.refl kD _).alloc _) id) b6 HZ.o).mono ?_;rw[X3.o];rintro e w4 ⟨v,rfl,R,b9,q⟩;obtain⟨Y,vl,vc,rfl⟩:=Ad R;have H:=J ((W.new w3 #[.string f.d9,.int .i64 f.l7] 126).d8 q Z);have u:=J ((G.o.alloc (.cells #[.string f.d9,.int .i64 f.l7] 126)).d8 q Z);have I:=J ((a3.o.alloc (.cells #[.string f.d9,.int .i64 f.l7] 126)).trans q);have c7:=J ((L.o.d8 ((O.refl kD _).alloc (.cells #[.string f.d9,.int .i64 f.l7] 126)) id).d8 q Q);have c5:=J b9;have x:=J R;obtain⟨n0,n1⟩:=H.o.e2 0 1;obtain⟨b0,b1,b2,b3,b4⟩:=u.o.e5 0 1 2 3 4;have bf:=u.o.frozen;simp only[gH,gF,gG]at n0 n1 b0 b1 b2 b3 b4;have e2:=Ae H.o;have e3:=Ae u.o;have d9:=I.o.size;have d7:2*(n-(Af d n 12 t).next)+1<=2*n+1:=Z;clear b9 q R G a3 L a5;go_wp2_with fail;go_region_with(go_at_call 142;refine(F8 i E (2*n+1) IH.o b g n h t d _ hb (O.keeps HG.o (I.o.dA jV) hB hb) jX (W.d8 (X:=kD) c5.o jV id) (c7.o.d8 (X:=kD) jV id) d6 HZ.o d7).mono ?_;rw[K4.o,X4.o];simp only;rw[X5.o];rintro e w5 ⟨d5,U5,e5,rfl,P,a8,c0,b7⟩;have c9:=P;obtain⟨d8,c1,_⟩:=c9;obtain⟨wa,wl,c2,rfl⟩:=Ad c1;have m:=O.trans (X:=fun k=>k=b) (a:=w4) jV b7;have c3:=J (H.o.d8 m Z);have a1:=J (u.o.d8 m Z);have a7:=J (Ac x.o m (fun k c=>by have:=(x.o.lt k c).1;simp at this;omega));obtain⟨m0,m1⟩:=c3.o.e2 0 1;obtain⟨d0,d1,d2,d3,d4⟩:=a1.o.e5 0 1 2 3 4;have df:=a1.o.frozen;simp only[gH,gF,gG]at m0 m1 d0 d1 d2 d3 d4;have c8:=J P;have a6:=J a8;have c4:=J (I.o.trans m);have c6:=J c0;have e0:=m.size;clear P a8 c0 b7 m c1);all_goals
  go_wp2;refine gP (v:=.agg (MN ⟨f,l3,p4,l4⟩ (.slice Y vl vc) (.slice wa wl c2))) (by simp[results,results112,go_sem,MN,d0,d1,d2,d3,d4]) rfl ?_;refine⟨d5,fun k=>U5 k\/Value.ownBlock (.slice Y vl vc)=some k,Y,vl,vc,wa,wl,c2,rfl,?_,?_,?_,?_⟩
  .refine Ia.d8 (X:=fun k=>k=w.heap.size) (w:=w5) ⟨_,_,rfl,Aq a7.o (gV _),fun k c=>.inr c,c8.o.more (fun k c=>.inl c)⟩ ?_ ?_
   .iterate 5 refine O.t9 ?_ _ _
    exact O.refl _ _
   .intro k c;rcases c with c|c
    .have:=(a6.o k c).1;simp at this;omega
    .have:=(x.o.lt k c).1;simp at this;omega
  .intro k c;simp only[World.size_setCell];rcases c with c|c
   .have:=a6.o k c;simp at this;omega
   .have j:=(x.o.lt k c).1;have p:=(a7.o.lt k c).2;simp at j;omega
  .refine W.d8 (X:=fun k=>k=w.heap.size) c6.o ?_ Z;iterate 5 refine O.t9 ?_ _ _
   exact O.refl _ _
  .iterate 5 refine O.cE ?_ _ _ (gI _)
   exact c4.o
theorem Tryz.infoTF:(Tryz.prog.info? 132).map (fun i=>(i.zero,i.size,i.bytes))=some (some (.agg aG),5,80):=jW
def Ee(b:List PT)(n:Nat):Nat->PS->List TF->List TF×PS
 |0,x,a=>(a,x)
 |f+1,x,a=>if (Aj b x.next).kind=3 then Ee b n f (JL b n x).2 (a++[(JL b n x).1])else(a,x)
def Cf(a:List PT)(n:Nat)(x:PS):List TF×Nat×PS:=
 let r:=Ee a n n (JL a n x).2 [(JL a n x).1]
 (r.1,(AG a 0 r.2).l7,Af a n 0 r.2)
def DF(d:Nat)(U:Nat->Prop)(w:World)(c:Value)(b:List TF):Prop:=∃a:List (List Value),w.ownsRow 0 132 5 c b.length a.flatten/\a.length=b.length/\(∀k,c.ownBlock=some k->U k)/\∀j (g:j<b.length) (e:j<a.length),Ia d U w b[j] a[j]
def aO(b g n h:Nat)(w:World)(r:List TF×Nat×PS)(e:Ending)(f:World):Prop:=
 ∃(d:Nat) (U:Nat->Prop) (a:Option Addr) (l c:Nat),e=.returned (.agg #[.slice a l c,.int .i64 r.2.1])/\DF d U f (.slice a l c) r.1/\(∀k,U k->w.heap.size<=k/\k<f.heap.size)/\AX b g n h r.2.2 f/\O (fun k=>k=b) w f
structure FW(lo lb d:Nat)(U:Nat->Prop)(w:World)(sv:Value)(acc:List TF)(css:List (List Value)):Prop where
 row:w.ownsRow lo 132 5 sv acc.length css.flatten
 len:css.length=acc.length
 dY:∀j (g:j<acc.length) (g':j<css.length),Ia d U w acc[j] css[j]
 u:∀k,U k->lo<=k/\k<w.heap.size/\k≠lb
 apart:∀k,sv.ownBlock=some k->¬U k/\k≠lb
theorem FW.d8{e c d}{U:Nat->Prop}{w m sv f i}{X:Nat->Prop}(h:FW e c d U w sv f i)(b:O X w m)(l:∀k,e<=k->k<w.heap.size->k≠c->¬X k):FW e c d U m sv f i:=
 ⟨Ac h.row b (fun k a=>l k (h.row.lt k a).1 (h.row.lt k a).2 (h.apart k a).2),h.len,fun j g n=>(h.dY j g n).d8 b (fun k a=>l k (h.u k a).1 (h.u k a).2.1 (h.u k a).2.2),fun k a=>⟨(h.u k a).1,gY (h.u k a).2.1 b.size,(h.u k a).2.2⟩,h.apart⟩
theorem FW.push{n b d x}{U p:Nat->Prop}{w v l i o u f r t c}(h:FW n b d U w i f r)(M:b<w.heap.size)(H:Ia x p w t c)(g:∀k,p k->n<=k/\k<w.heap.size/\k≠b/\¬i.ownBlock=some k)(E:O kD w v)
 (G:l.ownsRow n 132 5 o (f.length+1) (r.flatten++c))(F:v.grownBy l i.ownBlock)(B:∀k,o.ownBlock=some k->i.ownBlock=some k\/w.heap.size<=k):
 FW n b (max d x) (fun k=>U k\/p k) (l.setCell ⟨b,0,none⟩ u) o (f++[t]) (r++[c]):=by
 have s:O (fun k=>i.ownBlock=some k) w l:=O.grown (E.mono (fun _ _ q=>q.elim)) F (fun k a=>.inl a);have m:=(O.refl (fun k=>k=b) l).t9 0 u;have A:=h.len;have y:∀k,o.ownBlock=some k->k≠b:=fun k a=>by
  rcases B k a with e|e
  .exact(h.apart k e).2
  .omega
 refine⟨?_,by simp[A],?_,?_,?_⟩
 .have:=Ac G m y;simpa using this
 .intro j C I;by_cases z:j<f.length
  .rw[iG z,iG Z];exact((((h.dY j z Z).d8 s (fun k a q=>(h.apart k q).1 a)).d8 m (fun k a=>(h.u k a).2.2)).more (fun k a=>.inl a)).dR (Nat.le_max_left _ _)
  .have e:j=f.length:=by simp at C;omega
   subst e;rw[iE Z,iE Z];simp only[Nat.sub_self,A,iD];exact(((H.d8 s (fun k a=>(g k a).2.2.2)).d8 m (fun k a=>(g k a).2.2.1)).more (fun k a=>.inr a)).dR (Nat.le_max_right _ _)
 .intro k a;have K:=s.size;have L:=m.size;rcases a with a|a
  .have:=h.u k a;exact⟨this.1,Z,this.2.2⟩
  .have:=g k a;exact⟨this.1,Z,this.2.2.1⟩
 .intro k a;refine⟨fun q=>?_,y k a⟩;rcases B k a with e|e
  .rcases q with q|q
   .exact(h.apart k e).1 q
   .exact(g k q).2.2.2 e
  .rcases q with q|q
   .have:=(h.u k q).2.1;omega
   .have:=(g k q).2.1;omega
theorem Yd(t a d l f c e):∀u∈(MN t (.slice a l c) (.slice d f e)).toList,u.oneCell'=true:=by intro u b;simp[MN]at b;rcases b with rfl|rfl|rfl|rfl|rfl<;>rfl
theorem Yw{w:World}(a:Array Value)(b:a.size=5):(w.alloc (.cells a 132)).ownsRow w.heap.size 132 5 (.slice (some ⟨w.heap.size,0,none⟩) 1 1) 1 a.toList:=
 ⟨by simpa using b,.inr ⟨w.heap.size,1,a,rfl,gI _,heap_alloc_new w _,gI _,jZ,by simpa using b,by rw[List.take_of_length_le jX]⟩⟩
theorem KA(R b2)(hF:Cc R b2)(b g n r x0 i w)(hb:R<=b)(hG:Below R b2 w)(hB:R<=w.heap.size)(hr:AX b g n r x0 w)(ht:AY g n r i w)(d9:x0.next<n)(hz:(Aj i (n-1)).kind=0):
 Calls prog 75 #[.pointer (some ⟨b,0,none⟩)] w fun e w'=>aO b g n r w (Cf i n x0) e w':=by
 obtain⟨i0,hi,f5,f6,f7⟩:=info_parts Tryz.infoTF;have lr:=Ae hr;have lg:=ht.lt;have hn:=ht.2.2.1;have e0:=ht.ne hr T;have s:=Gb hz d9;obtain⟨Q,x1,F⟩:∃t y,JL i n x0=(t,y):=⟨_,_,rfl⟩;rw[F]at s;have f3:=s.2;obtain⟨l2,x2,h2⟩:∃l y,Ee i n n x1 [Q]=(l,y):=⟨_,_,rfl⟩;have hv:Cf i n x0=(l2,(AG i 0 x2).l7,Af i n 0 x2):=by simp only[Cf,F,h2]
 rw[hv];have HG:=J hG;have HZ:=J hz;have HF:=J hF;have X1:=J F;have X2:=J h2;clear F h2 hv hz hG hF s;go_enter func75,ntmps75;go_wp2_with fail;refine(Ji R b2 HF.o b g n r x0 i _ hb (O.keeps HG.o ((O.refl (fun k=>k=b) w).alloc _) hB hb) jX (W.alloc hr _) (ht.d8 ((O.refl kD _).alloc _) id) d9 HZ.o).mono ?_;rw[X1.o];rintro e m ⟨d2,U2,fa,fl,fc,b5,b7,b6,rfl,e3,d7,c1,a4⟩;have f8:=a4.size;simp at f8;have c3:D (W w.heap.size #[.slice none 0 0,.int .i64 0] 60 m):=(W.new w _ _).d8 a4 Z;have c4:=J (((O.refl (fun k=>k=b) w).alloc _).trans a4);have c8:=J ((ht.d8 ((O.refl kD _).alloc (.cells #[.slice none 0 0,.int .i64 0] 60)) id).d8 a4 e0);have c5:=J c1;have c7:=J e3;have b3:=J d7;have g6:=Ae c1;clear c1 a4 hr ht e3 d7;unfold MN;go_wp2_with fail;go_loopw[] (fun wr=>∃(x:PS) (f d:Nat) (U:Nat->Prop) (sv:Value) (N:List TF) (b4:List (List Value)),x.next<n/\N.length<=x.next+1/\n-x.next<=f/\D (AX b g n r x wr)/\D (AY g n r i wr)/\D (W w.heap.size #[.slice none 0 0,.int .i64 0] 60 wr)/\D (W (m.heap.size+1) #[sv,.int .i64 0] 60 wr)/\D (FW (w.heap.size+1) (m.heap.size+1) d U wr sv N b4)/\D (O (fun k=>k=b) w wr)/\D (Ee i n f x N=(l2,x2))) (fun wr=>n-Mb b wr)
 case atStart=>
  refine⟨x1,n,d2,U2,.slice (some ⟨m.heap.size,0,none⟩) 1 1,[Q],[(MN Q (.slice fa fl fc) (.slice b5 b7 b6)).toList],f3,jY,Z,W.alloc (W.alloc c5.o _) _,c8.o.d8 (((O.refl kD _).alloc _).alloc _) id,W.alloc (W.alloc c3.o _) _,?_,?_,(c4.o.alloc _).alloc _,X2⟩
  .refine J ?_;have:=W.new (m.alloc (.cells #[.string Q.name.d9,.int .i64 Q.name.l7,.slice fa fl fc,.int .i64 Q.l7,.slice b5 b7 b6] 132)) #[.slice (some ⟨m.heap.size,0,none⟩) 1 1,.int .i64 0] 60;simpa using this
  .refine J ⟨?_,rfl,?_,?_,?_⟩
   .have:=(Yw (w:=m) (MN Q (.slice fa fl fc) (.slice b5 b7 b6)) rfl).alloc (.cells #[.slice (some ⟨m.heap.size,0,none⟩) 1 1,.int .i64 0] 60);exact Aq (by simpa[MN]using this) Z
   .intro j s g2;have e:j=0:=by simp at s;omega
    subst e;exact c7.o.d8 (((O.refl kD _).alloc _).alloc _) (fun _ _ q=>q)
   .intro k c;have:=b3.o k c;simp at this⊢;omega
   .intro k c;simp[Value.ownBlock]at c;refine⟨fun q=>?_,Z⟩;have:=b3.o k q;omega
 case round=>
  clear c5 c8 c3 c4 X2 c7 b3;obtain⟨x,f,d,U,sv,N,b4,hx,f9,hf,P,Y,a7,hC,a8,hO,HC⟩:=hrel;have e5:=J (ER P.o);by_cases a1:(Aj i x.next).kind=3
  .obtain⟨f2,rfl⟩:∃f2,f=f2+1:=⟨f-1,Z⟩;obtain⟨t3,x3,h3⟩:∃t y,JL i n x=(t,y):=⟨_,_,rfl⟩;have d5:Ee i n f2 x3 (N++[t3])=(l2,x2):=by have:=HC.o;rw[Ee,jH a1,h3]at this;exact this
   have f4:x.next+1<=x3.next/\x3.next<n:=by have s:=Gb (n:=n) HZ.o hx;have g2:=LL HZ.o hx a1;rw[h3]at s g2;exact⟨g2,s.2⟩
   have X3:=J h3;have e4:=J d5;have HK:=J a1;clear HC h3 d5 a1;go_wp2_with fail;refine(AZ b g n r x i _ P.o Y.o hx).mono ?_;rw[HK.o];rintro e wk ⟨rfl,o⟩;have R1:=J (W.d8 P.o o id);have T1:=J (Y.o.d8 o id);have A1:=J (a7.o.d8 o id);have M:=J (hC.o.d8 o id);have E:=J (a8.o.d8 o (fun _ _ _ _ q=>q));have V:=J (hO.o.dA o);clear P Y a7 hC a8 hO o;obtain⟨A,C,B,rfl⟩:=Ad E.o.row;have c0:=M.o.cell 0;have cf:=M.o.frozen 0;have lc:=Ae M.o;have g7:=Ae R1.o;have g5:=V.o.size;simp only[gH,gF]at c0;have NC:=J (fun k (c:Value.ownBlock (.slice A C B)=some k)=>(⟨(E.o.row.lt k c).1,(E.o.apart k c).2⟩:w.heap.size+1<=k/\k≠m.heap.size+1));go_wp2_with fail;go_region_law(first
    |(refine AB rfl _ _ 58 rfl (w.heap.size+1) 132 i0 (.agg aG) 5 80 underlying58 hi f5 f6 f7 rfl T _ _ _ rfl (S.o.row.alloc _) ⟨w4.heap.size,0,none⟩ 1 1 (MN t3 (.slice aa al ac) (.slice ba bl bc)).toList rfl rfl (AC rfl _ _) (Yd _ _ _ _ _ _ _) T jZ Z jX ?_;intro v' L b9 a0 e1;have q1:L.cell? ⟨m.heap.size+1,0,none⟩=some (.slice A C B):=(gJ (a0.block (m.heap.size+1) jX (fun h=>(NC.o _ h.symm).2 rfl))).trans (by rw[<-d3];exact gJ (gS _ _ _ c2));have q2:L.frozen? ⟨m.heap.size+1,0,none⟩=false:=(gO (a0.block (m.heap.size+1) jX (fun h=>(NC.o _ h.symm).2 rfl))).trans (by rw[<-e6];exact gO (gS _ _ _ c2));obtain⟨H,K,I,rfl⟩:=Ad b9)
    |(go_simp;go_at_call 112;refine(Ji R b2 HF.o b g n r x i _ hb (O.keeps HG.o (V.o.dA jV) hB hb) jX (W.d8 (X:=kD) R1.o jV id) (T1.o.d8 (X:=kD) jV id) hx HZ.o).mono ?_;rw[X3.o];rintro e w4 ⟨d4,U4,aa,al,ac,ba,bl,bc,rfl,e2,d8,a6,G⟩;have a5:=O.trans (X:=fun k=>k=b) (a:=wk) jV G;have S:=J (E.o.d8 a5 (fun k h _ _=>Z));have z:=J (M.o.d8 a5 Z);have d3:=z.o.cell 0;have e6:=z.o.frozen 0;have c2:=Ae z.o;simp only[gH,gF]at d3;have g4:=a5.size;have c6:=J e2;have c9:=J d8;have R4:=J a6;have O5:=J a5;clear e2 d8 a6 G a5;unfold MN;dsimp only))
   all_goals
    have a2:O (fun k=>Value.ownBlock (.slice A C B)=some k) w4 L:=O.grown ((O.refl _ _).alloc _) a0 (fun k c=>.inl c);have a9:=(O.refl (fun k=>k=m.heap.size+1) L).t9 0 (.slice H K I);have b8:∀j,j<w.heap.size+1->¬Value.ownBlock (.slice A C B)=some j:=fun j hj q=>by have:=(NC.o j q).1;omega
    have hP:=FW.push (u:=.slice H K I) S.o c2 c6.o (fun k c=>by have F:=c9.o k c;simp only[World.size_drew]at F;exact⟨Z,F.2,Z,fun q=>by have:=(E.o.row.lt k q).2;omega⟩) ((O.refl _ _).alloc _) b9 a0 (fun k c=>(e1 k c).imp id (fun q=>by simp at q;omega));have d6:AX b g n r x3 (L.setCell ⟨m.heap.size+1,0,none⟩ (.slice H K I)):=(R4.o.d8 a2 (b8 b Z)).d8 a9 Z;have f1:AY g n r i (L.setCell ⟨m.heap.size+1,0,none⟩ (.slice H K I)):=((T1.o.d8 O5.o e0).d8 a2 (b8 g Z)).d8 a9 Z;have e7:=((A1.o.d8 O5.o Z).d8 a2 (b8 w.heap.size Z)).d8 a9 Z;have e8:W (m.heap.size+1) #[.slice H K I,.int .i64 0] 60 (L.setCell ⟨m.heap.size+1,0,none⟩ (.slice H K I)):=by have:=(z.o.d8 a2 (fun q=>(NC.o _ q).2 rfl)).set 0 (.slice H K I);simpa using this
    have f0:O (fun k=>k=b) w (L.setCell ⟨m.heap.size+1,0,none⟩ (.slice H K I)):=(O.grown ((V.o.trans O5.o).alloc _) a0 (fun k c=>.inr (by have:=(NC.o k c).1;omega))).cE 0 _ Z;have e9:=ER d6;clear b9 a0 e1 q1 q2 c6 c9 S z R4 a2 a9;go_wp2_with fail;go_roundw
    case rel=>exact⟨x3,f2,_,_,_,N++[t3],_,f4.2,jX,Z,d6,f1,e7,e8,hP,f0,e4⟩
    case measure=>rw[e9,e5.o];omega
  .have hv:(N,x)=(l2,x2):=by
    rw[<-HC.o];cases f with
    |zero=>rfl
    |succ f=>rw[Ee,jG a1]
   simp only[iV]at hv
   obtain⟨rfl,rfl⟩:=hv
   have g3:(((Aj i x.next).kind:Int)==3)=false:=jX
   clear HC a1
   go_wp2_with fail
   refine(AZ b g n r x i _ P.o Y.o hx).mono ?_
   rintro e wk ⟨rfl,o⟩
   have R1:=J (W.d8 P.o o id)
   have T1:=J (Y.o.d8 o id)
   have A1:=J (a7.o.d8 o id)
   have M:=J (hC.o.d8 o id)
   have E:=J (a8.o.d8 o (fun _ _ _ _ q=>q))
   have V:=J (hO.o.dA o)
   clear P Y a7 hC a8 hO o
   go_wp2_with fail
   refine(AH b g n r 0 x i _ R1.o T1.o hx).mono ?_
   rintro e w4 ⟨rfl,a6,G⟩
   have A4:=J (A1.o.d8 G Z)
   have z:=J (M.o.d8 G Z)
   have S:=J (E.o.d8 G (fun k h _ _=>Z))
   have O4:=J (V.o.trans G)
   have R4:=J a6
   clear R1 T1 A1 M E V a6 G
   obtain⟨A,C,B,rfl⟩:=Ad S.o.row
   obtain⟨b0,b1⟩:=A4.o.e2 0 1
   have bf:=A4.o.frozen
   obtain⟨d0,d1⟩:=z.o.e2 0 1
   have df:=z.o.frozen
   have lB:=Ae A4.o
   have lC:=Ae z.o
   simp only[gH,gF,gG]at b0 b1 d0 d1
   obtain⟨t,k1⟩:∃y,AG i 0 x=y:=⟨_,rfl⟩
   rw[k1]
   have K1:=J k1
   clear k1
   unfold WC
   have g0:=Tryz.placeOf
   go_wp2
   refine gP (v:=.agg #[.slice A C B,.int .i64 t.l7]) (by simp[results,results75,go_sem,b0,b1]) rfl ?_
   have hs:=(((O.refl (fun k=>k=w.heap.size\/k=m.heap.size+1) w4).setCell (p:=⟨m.heap.size+1,1,none⟩) (.inl (.inr rfl)) (.int .i64 t.l7)).setCell (p:=⟨w.heap.size,0,none⟩) (.inl (.inl rfl)) (.slice A C B)).setCell (p:=⟨w.heap.size,1,none⟩) (.inl (.inl rfl)) (.int .i64 t.l7)
   have a3:=S.o.d8 hs (fun k F _ h3=>Z)
   refine⟨d,fun k=>U k\/Value.ownBlock (.slice A C B)=some k,A,C,B,by rw[K1.o],⟨b4,Aq a3.row (gV _),a3.len,fun k c=>.inr c,fun j s g2=>(a3.dY j s g2).more (fun k c=>.inl c)⟩,?_,R4.o.d8 hs Z,((O4.o.cE 1 _ Z).cE 0 _ (gI _)).cE 1 _ (gI _)⟩
   intro k c
   rcases c with c|c
   .have:=a3.u k c;exact⟨Z,this.2.1⟩
   .have:=a3.row.lt k c;exact⟨Z,this.2⟩
theorem Mm{a b}(h:a=b):Ending.returned (.bool a)=.returned (.bool b):=by rw[h]
def Gy(c:Int):Bool:=(decide (97<=c) && decide (c<=122))||(decide (224<=c) && decide (c<=255) && (c !=247))
def G6(c:Int):Bool:=c==40||c==41||c==123||c==125||c==59||c==61||c==38||c==42||c==64||c==46||c==63
theorem Bw(c w):
 Calls prog 46 #[.int .i64 c] w fun e a=>e=.returned (.bool (Gy c))/\a=w:=by
 go_enter func46,ntmps46;go_wp2;all_goals
  go_ret;exact⟨Mm (by rw[Bool.eq_iff_iff];simp[Gy];omega),rfl⟩
theorem CZ(c w):
 Calls prog 47 #[.int .i64 c] w fun e a=>e=.returned (.bool (G6 c))/\a=w:=by
 go_enter func47,ntmps47;go_wp2;all_goals
  go_ret;refine⟨Mm ?_,rfl⟩;first
   |(unfold G6;rfl)
   |(simp[G6, *];done)
def Vi(l:List UInt8):Bool:=l==[102,110]||l==[118,97,114]||l==[110,101,119]||l==[114,101,116,117,114,110]||l==[105,102]||l==[101,108,115,101]||l==[119,104,105,108,101]
theorem GQ(s w):
 Calls prog 50 #[.string s] w fun e a=>e=.returned (.bool (Vi s.toList))/\a=w:=by
 go_enter func50,ntmps50;go_wp2;all_goals
  go_ret;refine⟨Mm ?_,rfl⟩;first
   |(unfold Vi;rfl)
   |(simp[Vi, *];done)
theorem Re(s:ByteArray)(i:Nat)(d:i<s.size)(_hs:s.size<=4000)(b:bt s i<128)(w:World):
 Calls prog 45 #[.string s,.int .i64 i] w fun e f=>e=.returned (.tuple #[.int .i64 (A6 s i).1,.int .i64 (A6 s i).2])/\f=w:=by
 have c:A6 s i=(bt s i,1):=by simp only[A6,jH b]
 have a:=EB s i d;rw[c];clear c;rw[a]at b⊢;clear a;go_enter func45,ntmps45;go_wp2;go_ret2;exact⟨rfl,rfl⟩
theorem VI(s:ByteArray)(i:Nat)(f:i<s.size)(_hs:s.size<=4000)(d:128<=bt s i)(a:bt s i<194\/245<=bt s i)(w:World):
 Calls prog 45 #[.string s,.int .i64 i] w fun e h=>e=.returned (.tuple #[.int .i64 (A6 s i).1,.int .i64 (A6 s i).2])/\h=w:=by
 have c:A6 s i=(0,0):=by simp only[A6];rw[jG Z,jG Z,jG Z,jG Z]
 have b:=EB s i f;have g:=Pd s i;rw[c];clear c;rw[b]at d a g;clear b;rcases a with a|a
 all_goals
  go_enter func45,ntmps45;go_wp2;go_ret2;exact⟨rfl,rfl⟩
theorem VJ(s i)(x:i<s.size)(Q:s.size<=4000)(n:194<=bt s i)(o:bt s i<224)(w):
 Calls prog 45 #[.string s,.int .i64 i] w fun e B=>e=.returned (.tuple #[.int .i64 (A6 s i).1,.int .i64 (A6 s i).2])/\B=w:=by
 have r:A6 s i=Ej s i 2 128 (bt s i-192):=by simp only[A6];rw[jG Z,jH ⟨n,o⟩]
 have h:=EB s i x;rw[r];clear r;by_cases z:s.size<i+2
 .rw[Iy z];rw[h]at n o;clear h;go_enter func45,ntmps45;go_wp2;go_ret2;exact⟨rfl,rfl⟩
 .generalize d:Ej s i 2 128 (bt s i-192)=v;have f:D (Ej s i 2 128 (s[i].toNat-192)=v):=by rw[<-h];exact d
  clear d;rw[h]at n o;clear h;have F:decide ((s[i].toNat:Int)<128)=false:=jX;have G:decide ((s[i].toNat:Int)<224)=true:=jX;have H:decide ((s.size:Int)<(i:Int)+2)=false:=jX;go_enter func45,ntmps45;go_wp2;go_loop[6,9,10] (fun c k _=>∃m a:Nat,m<=1/\k=.int .i64 (m+1:Nat)/\c=.int .i64 a/\BB s i (s[i].toNat-192) m=some a) (fun _ k _=>2-(intOf k).toNat)
  case atStart=>exact⟨0,_,Z,rfl,by go_num,rfl⟩
  case round=>
   obtain⟨m,a,M,rfl,rfl,b⟩:=hrel;have u:=Lz Z Z b;unfold Lv at u;by_cases L:m+1<2
   .have y:i+(m+1)<s.size:=Z;have j:=EB s (i+(m+1)) y;have P:s[i+(m+1)].toNat<256:=UInt8.toNat_lt _;by_cases g:bt s (i+1+m)<128\/191<bt s (i+1+m)
    .have d:v=(0,0):=by rw[<-f.o,JT (FI (JV b g) Z)]
     subst d;clear f b;rw[show i+1+m=i+(m+1) from Z,j]at g;clear j;rcases g with g|g
     all_goals
      go_wp2;go_ret2;exact⟨rfl,rfl⟩
    .have t:D (BB s i (s[i].toNat-192) (m+1)=some (a*64+s[i+(m+1)].toNat-128)):=by have:=El b Z Z;rw[show i+1+m=i+(m+1) from Z,j]at this;exact this
     rw[show i+1+m=i+(m+1) from Z,j]at g
     have C:128<=s[i+(m+1)].toNat:=Z
     have E:s[i+(m+1)].toNat<=191:=Z
     clear g j b f
     go_wp2
     go_round
     case rel=>exact⟨m+1,_,Z,by go_num,by go_num,t.o⟩
     case measure=>simp[intOf];omega
   .have A:m=2-1:=Z;subst A;by_cases l:a<128\/1114111<a\/(55296<=a/\a<57344)
    .have d:v=(0,0):=by rw[<-f.o,Lu b l]
     subst d;clear f b;rcases l with q|q|⟨q,N⟩
     all_goals
      go_wp2;go_ret2;exact⟨rfl,rfl⟩
    .have d:v=(a,2):=by rw[<-f.o,KY Z b l]
     subst d;have I:128<=a:=Z;have K:a<=1114111:=Z;have p:a<55296\/57344<=a:=Z;clear f b l;rcases p with p|p
     all_goals
      go_wp2;go_ret2;exact⟨rfl,rfl⟩
theorem Rf(s i)(x:i<s.size)(R:s.size<=4000)(n:224<=bt s i)(o:bt s i<240)(w):
 Calls prog 45 #[.string s,.int .i64 i] w fun e B=>e=.returned (.tuple #[.int .i64 (A6 s i).1,.int .i64 (A6 s i).2])/\B=w:=by
 have r:A6 s i=Ej s i 3 2048 (bt s i-224):=by simp only[A6];rw[jG Z,jG Z,jH ⟨n,o⟩]
 have h:=EB s i x;rw[r];clear r;by_cases z:s.size<i+3
 .rw[Iy z];rw[h]at n o;clear h;go_enter func45,ntmps45;go_wp2;go_ret2;exact⟨rfl,rfl⟩
 .generalize d:Ej s i 3 2048 (bt s i-224)=v;have f:D (Ej s i 3 2048 (s[i].toNat-224)=v):=by rw[<-h];exact d
  clear d;rw[h]at n o;clear h;have F:decide ((s[i].toNat:Int)<128)=false:=jX;have G:decide ((s[i].toNat:Int)<224)=false:=jX;have H:decide ((s[i].toNat:Int)<240)=true:=jX;have I:decide ((s.size:Int)<(i:Int)+3)=false:=jX;go_enter func45,ntmps45;go_wp2;go_loop[6,9,10] (fun c k _=>∃m a:Nat,m<=2/\k=.int .i64 (m+1:Nat)/\c=.int .i64 a/\BB s i (s[i].toNat-224) m=some a) (fun _ k _=>3-(intOf k).toNat)
  case atStart=>exact⟨0,_,Z,rfl,by go_num,rfl⟩
  case round=>
   obtain⟨m,a,N,rfl,rfl,b⟩:=hrel;have u:=Lz Z Z b;unfold Lv at u;by_cases M:m+1<3
   .have y:i+(m+1)<s.size:=Z;have j:=EB s (i+(m+1)) y;have Q:s[i+(m+1)].toNat<256:=UInt8.toNat_lt _;by_cases g:bt s (i+1+m)<128\/191<bt s (i+1+m)
    .have d:v=(0,0):=by rw[<-f.o,JT (FI (JV b g) Z)]
     subst d;clear f b;rw[show i+1+m=i+(m+1) from Z,j]at g;clear j;rcases g with g|g
     all_goals
      go_wp2;go_ret2;exact⟨rfl,rfl⟩
    .have t:D (BB s i (s[i].toNat-224) (m+1)=some (a*64+s[i+(m+1)].toNat-128)):=by have:=El b Z Z;rw[show i+1+m=i+(m+1) from Z,j]at this;exact this
     rw[show i+1+m=i+(m+1) from Z,j]at g
     have C:128<=s[i+(m+1)].toNat:=Z
     have E:s[i+(m+1)].toNat<=191:=Z
     clear g j b f
     go_wp2
     go_round
     case rel=>exact⟨m+1,_,Z,by go_num,by go_num,t.o⟩
     case measure=>simp[intOf];omega
   .have A:m=3-1:=Z;subst A;by_cases l:a<2048\/1114111<a\/(55296<=a/\a<57344)
    .have d:v=(0,0):=by rw[<-f.o,Lu b l]
     subst d;clear f b;rcases l with q|q|⟨q,P⟩
     all_goals
      go_wp2;go_ret2;exact⟨rfl,rfl⟩
    .have d:v=(a,3):=by rw[<-f.o,KY Z b l]
     subst d;have K:2048<=a:=Z;have L:a<=1114111:=Z;have p:a<55296\/57344<=a:=Z;clear f b l;rcases p with p|p
     all_goals
      go_wp2;go_ret2;exact⟨rfl,rfl⟩
theorem TT(s i)(x:i<s.size)(S:s.size<=4000)(n:240<=bt s i)(o:bt s i<245)(w):
 Calls prog 45 #[.string s,.int .i64 i] w fun e B=>e=.returned (.tuple #[.int .i64 (A6 s i).1,.int .i64 (A6 s i).2])/\B=w:=by
 have r:A6 s i=Ej s i 4 65536 (bt s i-240):=by simp only[A6];rw[jG Z,jG Z,jG Z,jH ⟨n,o⟩]
 have h:=EB s i x;rw[r];clear r;by_cases z:s.size<i+4
 .rw[Iy z];rw[h]at n o;clear h;go_enter func45,ntmps45;go_wp2;go_ret2;exact⟨rfl,rfl⟩
 .generalize d:Ej s i 4 65536 (bt s i-240)=v;have f:D (Ej s i 4 65536 (s[i].toNat-240)=v):=by rw[<-h];exact d
  clear d;rw[h]at n o;clear h;have F:decide ((s[i].toNat:Int)<128)=false:=jX;have G:decide ((s[i].toNat:Int)<224)=false:=jX;have H:decide ((s[i].toNat:Int)<240)=false:=jX;have I:decide ((s[i].toNat:Int)<245)=true:=jX;have K:decide ((s.size:Int)<(i:Int)+4)=false:=jX;go_enter func45,ntmps45;go_wp2;go_loop[6,9,10] (fun c k _=>∃m a:Nat,m<=3/\k=.int .i64 (m+1:Nat)/\c=.int .i64 a/\BB s i (s[i].toNat-240) m=some a) (fun _ k _=>4-(intOf k).toNat)
  case atStart=>exact⟨0,_,Z,rfl,by go_num,rfl⟩
  case round=>
   obtain⟨m,a,P,rfl,rfl,b⟩:=hrel;have u:=Lz Z Z b;unfold Lv at u;by_cases N:m+1<4
   .have y:i+(m+1)<s.size:=Z;have j:=EB s (i+(m+1)) y;have R:s[i+(m+1)].toNat<256:=UInt8.toNat_lt _;by_cases g:bt s (i+1+m)<128\/191<bt s (i+1+m)
    .have d:v=(0,0):=by rw[<-f.o,JT (FI (JV b g) Z)]
     subst d;clear f b;rw[show i+1+m=i+(m+1) from Z,j]at g;clear j;rcases g with g|g
     all_goals
      go_wp2;go_ret2;exact⟨rfl,rfl⟩
    .have t:D (BB s i (s[i].toNat-240) (m+1)=some (a*64+s[i+(m+1)].toNat-128)):=by have:=El b Z Z;rw[show i+1+m=i+(m+1) from Z,j]at this;exact this
     rw[show i+1+m=i+(m+1) from Z,j]at g
     have C:128<=s[i+(m+1)].toNat:=Z
     have E:s[i+(m+1)].toNat<=191:=Z
     clear g j b f
     go_wp2
     go_round
     case rel=>exact⟨m+1,_,Z,by go_num,by go_num,t.o⟩
     case measure=>simp[intOf];omega
   .have A:m=4-1:=Z;subst A;by_cases l:a<65536\/1114111<a\/(55296<=a/\a<57344)
    .have d:v=(0,0):=by rw[<-f.o,Lu b l]
     subst d;clear f b;rcases l with q|q|⟨q,Q⟩
     all_goals
      go_wp2;go_ret2;exact⟨rfl,rfl⟩
    .have d:v=(a,4):=by rw[<-f.o,KY Z b l]
     subst d;have L:65536<=a:=Z;have M:a<=1114111:=Z;have p:a<55296\/57344<=a:=Z;clear f b l;rcases p with p|p
     .omega
     .go_wp2;go_ret2;exact⟨rfl,rfl⟩
theorem BM(s:ByteArray)(i:Nat)(a:i<s.size)(b:s.size<=4000)(w:World):
 Calls prog 45 #[.string s,.int .i64 i] w fun e h=>e=.returned (.tuple #[.int .i64 (A6 s i).1,.int .i64 (A6 s i).2])/\h=w:=by
 by_cases c:bt s i<128
 .exact Re s i a b c w
 .by_cases d:bt s i<194\/245<=bt s i
  .exact VI s i a b Z d w
  .by_cases f:bt s i<224
   .exact VJ s i a b Z f w
   .by_cases g:bt s i<240
    .exact Rf s i a b Z g w
    .exact TT s i a b Z Z w
def FQ(s:ByteArray):Nat->Nat->Nat×Bool
 |0,i=>(i,true)
 |f+1,i=>if i<s.size/\bt s i≠10 then(if (A6 s i).2=0 then(i,false)else FQ s f (i+(A6 s i).2))else(i,true)
theorem KZ{s f i}(h:¬(i<s.size/\bt s i≠10)):FQ s f i=(i,true):=by
 cases f with
 |zero=>rfl
 |succ f=>simp only[FQ,jG h]
theorem SD{s f i}(c:s.size-i<=f)(h:i<s.size)(a:bt s i≠10)(b:(A6 s i).2=0):FQ s f i=(i,false):=by
 cases f with
 |zero=>omega
 |succ f=>simp only[FQ,jH (And.intro h a),jH b]
theorem N8{s f i}(d:s.size-i<=f)(h:i<s.size)(b:bt s i≠10)(c:(A6 s i).2≠0):∃a,s.size-(i+(A6 s i).2)<=a/\FQ s f i=FQ s a (i+(A6 s i).2):=by
 cases f with
 |zero=>omega
 |succ f=>exact⟨f,Z,by simp only[FQ,jH (And.intro h b),jG c]⟩
theorem Ko(s:ByteArray)(i d:Nat)(A:i<=s.size)(t:s.size<=4000)(y:s.size-i<=d)(w:World):
 Calls prog 48 #[.string s,.int .i64 i] w fun e m=>e=.returned (.tuple #[.int .i64 (FQ s d i).1,.bool (FQ s d i).2])/\m=w:=by
 generalize b:FQ s d i=v;have n:D (FQ s d i=v):=b;clear b;go_enter func48,ntmps48;go_wp2;go_loop[1,6,7] (fun j _ _=>∃k f:Nat,k<=s.size/\j=.int .i64 k/\s.size-k<=f/\FQ s f k=v) (fun j _ _=>s.size-(intOf j).toNat)
 case atStart=>exact⟨i,d,A,rfl,y,n.o⟩
 case round=>
  obtain⟨k,f,C,rfl,q,p⟩:=hrel;have a:D (FQ s f k=v):=p;clear p n;by_cases g:k<s.size
  .have h:=EB s k g;by_cases c:bt s k=10
   .have b:v=(k,true):=by rw[<-a.o,KZ Z]
    subst b;clear a;have x:(((s[k].toNat:Nat):Int) !=10)=false:=by rw[h]at c;simp;omega
    clear h c;go_wp2;go_ret2;exact⟨rfl,rfl⟩
   .have x:(((s[k].toNat:Nat):Int) !=10)=true:=by rw[h]at c;simp;omega
    have E:=EY s k g;by_cases l:(A6 s k).2=0
    .have b:v=(k,false):=by rw[<-a.o,SD q g c l]
     subst b;have B:(((A6 s k).2:Int)==0)=true:=by simp[l]
     clear a h c l;go_wp2_with(go_at_call 45;refine(BM _ _ ?_ ?_ _).mono ?_;exact g;exact t;rintro e m ⟨rfl,rfl⟩);go_ret2;exact⟨rfl,rfl⟩
    .obtain⟨o,z,r⟩:=N8 q g c l;have u:D (FQ s o (k+(A6 s k).2)=v):=by rw[<-r];exact a.o
     have B:(((A6 s k).2:Int)==0)=false:=by simp[l]
     clear a h c r;go_wp2_with(go_at_call 45;refine(BM _ _ ?_ ?_ _).mono ?_;exact g;exact t;rintro e m ⟨rfl,rfl⟩);go_round
     case rel=>exact⟨k+(A6 s k).2,o,Z,by go_num,z,u.o⟩
     case measure=>simp[intOf];omega
  .have b:v=(k,true):=by rw[<-a.o,KZ Z]
   subst b;clear a;go_wp2;go_ret2;exact⟨rfl,rfl⟩
def Dt(s:ByteArray):Nat->Nat->Nat->Nat×Nat
 |0,i,k=>(i,k)
 |f+1,i,k=>if i<s.size/\(A6 s i).2≠0/\Gy (A6 s i).1=true then Dt s f (i+(A6 s i).2) (k+1)else(i,k)
theorem JI{s f i k}(h:¬(i<s.size/\(A6 s i).2≠0/\Gy (A6 s i).1=true)):Dt s f i k=(i,k):=by
 cases f with
 |zero=>rfl
 |succ f=>simp only[Dt,jG h]
theorem OH{s f i k}(d:s.size-i<=f)(h:i<s.size)(c:(A6 s i).2≠0)(b:Gy (A6 s i).1=true):∃a,s.size-(i+(A6 s i).2)<=a/\Dt s f i k=Dt s a (i+(A6 s i).2) (k+1):=by
 cases f with
 |zero=>omega
 |succ f=>exact⟨f,Z,by simp only[Dt];rw[jH ⟨h,c,b⟩]⟩
theorem IP(s:ByteArray):∀(f i k:Nat),i<=s.size->i<=(Dt s f i k).1/\(Dt s f i k).1<=s.size/\k<=(Dt s f i k).2/\(Dt s f i k).2+i<=k+(Dt s f i k).1
 |0,i,k,h=>by simp only[Dt];omega
 |f+1,i,k,h=>by
  simp only[Dt];split
  .rename_i a;have b:=EY s i a.1;have c:=IP s f (i+(A6 s i).2) (k+1) Z;have d:=a.2.1;omega
  .simp only;omega
theorem Lx(s:ByteArray):∀(f i:Nat),i<=s.size->i<=(FQ s f i).1/\(FQ s f i).1<=s.size
 |0,i,h=>by simp only[FQ];omega
 |f+1,i,h=>by
  simp only[FQ];split
  .rename_i a;have b:=EY s i a.1;split
   .simp only;omega
   .have c:=Lx s f (i+(A6 s i).2) Z;omega
  .simp only;omega
theorem MF(s:ByteArray)(i d:Nat)(B:i<=s.size)(o:s.size<=4000)(y:s.size-i<=d)(w:World):
 Calls prog 49 #[.string s,.int .i64 i] w fun e c=>e=.returned (.tuple #[.int .i64 (Dt s d i 0).1,.int .i64 (Dt s d i 0).2])/\c=w:=by
 generalize b:Dt s d i 0=v;have p:D (Dt s d i 0=v):=b;clear b;go_enter func49,ntmps49;go_wp2;go_loop[1,6,7,8,9] (fun j m _ _ _=>∃k f q:Nat,k<=s.size/\q<=k/\j=.int .i64 k/\m=.int .i64 q/\s.size-k<=f/\Dt s f k q=v) (fun j _ _ _ _=>s.size-(intOf j).toNat)
 case atStart=>exact⟨i,d,0,B,gV _,rfl,rfl,y,p.o⟩
 case round=>
  obtain⟨k,f,q,E,H,rfl,rfl,z,t⟩:=hrel;have a:D (Dt s f k q=v):=t;clear t p;by_cases g:k<s.size
  .have G:=EY s k g;by_cases n:(A6 s k).2=0
   .have b:v=(k,q):=by rw[<-a.o,JI Z]
    subst b;have C:(((A6 s k).2:Int)==0)=true:=by simp[n]
    clear a n;go_wp2_with(first|(go_at_call 45;refine(BM _ _ ?_ ?_ _).mono ?_;exact g;exact o;rintro e c ⟨rfl,rfl⟩)|(go_at_call 46;refine(Bw _ _).mono ?_;rintro e c ⟨rfl,rfl⟩));go_ret2;exact⟨rfl,rfl⟩
   .have C:(((A6 s k).2:Int)==0)=false:=by simp[n]
    by_cases l:Gy (A6 s k).1=true
    .obtain⟨r,A,u⟩:=OH (k:=q) z g n l;have x:D (Dt s r (k+(A6 s k).2) (q+1)=v):=by rw[<-u];exact a.o
     clear a u;go_wp2_with(first|(go_at_call 45;refine(BM _ _ ?_ ?_ _).mono ?_;exact g;exact o;rintro e c ⟨rfl,rfl⟩)|(go_at_call 46;refine(Bw _ _).mono ?_;rintro e c ⟨rfl,rfl⟩));go_round
     case rel=>exact⟨k+(A6 s k).2,r,q+1,Z,Z,by go_num,by go_num,A,x.o⟩
     case measure=>simp[intOf];omega
    .have b:v=(k,q):=by rw[<-a.o,JI (fun h=>l h.2.2)]
     subst b;have F:Gy (A6 s k).1=false:=by simpa using l
     clear a l;go_wp2_with(first|(go_at_call 45;refine(BM _ _ ?_ ?_ _).mono ?_;exact g;exact o;rintro e c ⟨rfl,rfl⟩)|(go_at_call 46;refine(Bw _ _).mono ?_;rintro e c ⟨rfl,rfl⟩));go_ret2;exact⟨rfl,rfl⟩
  .have b:v=(k,q):=by rw[<-a.o,JI Z]
   subst b;clear a;go_wp2;go_ret2;exact⟨rfl,rfl⟩
structure Tk where
 d9:ByteArray
 pos:Nat
 sort:Nat
def Cz(t:Tk):List Value:=[.string t.d9,.int .i64 t.pos,.int .i64 t.sort]
def Bc(l:List Tk):List Value:=l.flatMap Cz
theorem Da(l t):Bc (l++[t])=Bc l++Cz t:=by simp[Bc]
def A9(s:ByteArray)(i:Nat):Nat ⊕ (Option Tk×Nat):=
 if (A6 s i).2=0 then .inl i
 else if (A6 s i).1=32\/(A6 s i).1=9\/(A6 s i).1=10 then .inr (none,i+1)
 else if (A6 s i).1=35 then(if (FQ s s.size i).2=true then .inr (none,(FQ s s.size i).1)else .inl (FQ s s.size i).1)
 else if Gy (A6 s i).1=true then
  (if Vi (s.extract i (Dt s s.size i 0).1).toList=true then .inr (some ⟨s.extract i (Dt s s.size i 0).1,i,2⟩,(Dt s s.size i 0).1)
   else if 8<(Dt s s.size i 0).2 then .inl i else .inr (some ⟨s.extract i (Dt s s.size i 0).1,i,1⟩,(Dt s s.size i 0).1))
 else if 48<=(A6 s i).1/\(A6 s i).1<=51 then .inr (some ⟨s.extract i (i+1),i,3⟩,i+1)
 else if G6 (A6 s i).1=true then .inr (some ⟨s.extract i (i+1),i,4⟩,i+1)
 else .inl i
theorem TU{s i}(h:i<s.size)(d:(A6 s i).2≠0)(b:bt s i≠10):i<(FQ s s.size i).1:=by obtain⟨a,_,c⟩:=N8 (f:=s.size) Z h b d;have e:=EY s i h;have:=Lx s a (i+(A6 s i).2) Z;rw[c];omega
theorem NN{s i}(h:i<s.size)(d:(A6 s i).2≠0)(c:Gy (A6 s i).1=true):i<(Dt s s.size i 0).1:=by obtain⟨a,_,b⟩:=OH (f:=s.size) (k:=0) Z h d c;have e:=EY s i h;have:=IP s a (i+(A6 s i).2) (0+1) Z;rw[b];omega
theorem I4{s i}(a:(A6 s i).2≠0)(b:(A6 s i).1<128):bt s i=(A6 s i).1/\(A6 s i).2=1:=by
 unfold A6 at a b⊢;split
 .exact⟨rfl,rfl⟩
 .rename_i g;rw[jG g]at a b;split
  .rename_i d;rw[jH d]at a b;rcases Hg s i 2 128 (bt s i-192)with h|⟨c,h,_⟩<;>rw[h]at a b<;>simp only at a b<;>omega
  .rename_i d;rw[jG d]at a b;split
   .rename_i e;rw[jH e]at a b;rcases Hg s i 3 2048 (bt s i-224)with h|⟨c,h,_⟩<;>rw[h]at a b<;>simp only at a b<;>omega
   .rename_i e;rw[jG e]at a b;split
    .rename_i f;rw[jH f]at a b;rcases Hg s i 4 65536 (bt s i-240)with h|⟨c,h,_⟩<;>rw[h]at a b<;>simp only at a b<;>omega
    .rename_i f;rw[jG f]at a;simp only at a;omega
theorem GS{s i j t}(a:i<s.size)(h:A9 s i=.inr (t,j)):i<j/\j<=s.size:=by
 unfold A9 at h;split at h
 .cases h
 .rename_i b;have g:=EY s i a;split at h
  .simp only[Sum.inr.injEq,iV]at h;omega
  .split at h
   .rename_i f;have k:=I4 b Z;split at h
    .simp only[Sum.inr.injEq,iV]at h;have c:=TU a b Z;have d:=Lx s s.size i Z;omega
    .cases h
   .split at h
    .rename_i e;have c:=NN a b e;have d:=IP s s.size i 0 Z;split at h
     .simp only[Sum.inr.injEq,iV]at h;omega
     .split at h
      .cases h
      .simp only[Sum.inr.injEq,iV]at h;omega
    .split at h
     .simp only[Sum.inr.injEq,iV]at h;omega
     .split at h
      .simp only[Sum.inr.injEq,iV]at h;omega
      .cases h
def BA(s:ByteArray):Nat->Nat->List Tk->Nat ⊕ List Tk
 |0,_,a=>.inr a
 |f+1,i,a=>if i<s.size then
   (match A9 s i with
   |.inl p=>.inl p
   |.inr (t,j)=>BA s f j (a++t.toList))else .inr a
theorem Gp{s f i a}(h:¬i<s.size):BA s f i a=.inr a:=by
 cases f with
 |zero=>rfl
 |succ f=>simp only[BA,jG h]
theorem Dv{s f i p a}(c:s.size-i<=f)(h:i<s.size)(b:A9 s i=.inl p):BA s f i a=.inl p:=by
 cases f with
 |zero=>omega
 |succ f=>simp only[BA,jH h,b]
theorem CH{s f i j acc t}(d:s.size-i<=f)(h:i<s.size)(b:A9 s i=.inr (t,j)):
 ∃a,s.size-j<=a/\BA s f i acc=BA s a j (acc++t.toList):=by
 have c:=GS h b;cases f with
 |zero=>omega
 |succ f=>exact⟨f,Z,by simp only[BA,jH h,b]⟩
structure FS where
 kind:Nat
 p:Tk
 q:Tk
 field:Nat
 args:List Tk
 l7:Nat
 cJ:List Nat
 other:List Nat
 br:Int
 dG:Int
 cS:Nat
def F7:Option Nat->Int
 |none=> -1
 |some b=>b
def My:Tk:=⟨ByteArray.empty,0,0⟩
def tokAt(l:List Tk)(i:Nat):Tk:=l[i]?.getD My
def AI(e d g n b:Nat)(c:Nat)(a:Option Nat)(w:World):Prop:=
 w.heap[e]? =some (.cells #[.slice (some ⟨g,0,none⟩) n b,.int .i64 c,.int .i64 (F7 a),.pointer (some ⟨d,0,none⟩)] 143 (0,0))
def AO(g n b:Nat)(a:List Tk)(w:World):Prop:=w.ownsRow 0 49 3 (.slice (some ⟨g,0,none⟩) n b) n (Bc a)/\n=a.length/\n<=4001
theorem KG{l i}(h:i<l.length):(Bc l)[i*3]? =some (.string (tokAt l i).d9)/\(Bc l)[i*3+1]? =some (.int .i64 (tokAt l i).pos)/\(Bc l)[i*3+2]? =some (.int .i64 (tokAt l i).sort):=by
 induction l generalizing i with
 |nil=>simp at h
 |cons t l a=>
  cases i with
  |zero=>simp[Bc,Cz,tokAt]
  |succ i=>
   have:=a (i:=i) (by simpa using h);simp only[Bc,List.flatMap_cons,tokAt,gG]at this⊢;have e:∀j,(Cz t++List.flatMap Cz l)[(i+1)*3+j]? =(List.flatMap Cz l)[i*3+j]? :=by intro j;rw[jI (by simp[Cz];omega)];congr 1;simp[Cz];omega
   exact⟨by rw[show(i+1)*3=(i+1)*3+0 from rfl,e];exact this.1,by rw[e];exact this.2.1,by rw[e];exact this.2.2⟩
theorem AO.cells{g n c a w}(h:AO g n c a w){i}(d:i<n):
 w.cell? ⟨g,i*3,none⟩=some (.string (tokAt a i).d9)/\w.cell? ⟨g,i*3+1,none⟩=some (.int .i64 (tokAt a i).pos)/\w.cell? ⟨g,i*3+2,none⟩=some (.int .i64 (tokAt a i).sort):=by
 have e:=h.2.1;have b:=KG (l:=a) (i:=i) Z;exact⟨by rw[h.1.cellAt _ Z];exact b.1,by rw[h.1.cellAt _ Z];exact b.2.1,by rw[h.1.cellAt _ Z];exact b.2.2⟩

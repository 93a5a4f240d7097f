/- Part of the proof: LexA LexB2 LexB3 LexB4 LexC LexD LexE RdA RdB TrJ TrK TrL TrM. -/
import Derived.Test.YtaningfhibkemaaGreatDoorG01
import Derived.Test.YtaningfhibkemaaGreatDoorG04
set_option maxRecDepth 100000
set_option maxHeartbeats 2000000
namespace Go.Proofs.YtaningfhibkemaaGreatDoor
open Go.RowKit Go.Proofs.Tryz
open Option renaming none->Z,some->T
open Value renaming int->G,slice->Y
open IntKind renaming i64->A
theorem NE{w:World}(a c:Value):(w.alloc (.cells #[a,c] 130)).ownsRow w.heap.size 130 2 (Y (T ⟨w.heap.size,0,Z⟩) 1 1) 1 [a,c]:=
 ⟨rfl,.inr ⟨w.heap.size,1,#[a,c],rfl,gS _,heap_alloc_new w _,gS _,by unfold maxLen;omega,rfl,rfl⟩⟩
theorem Tryz.infoTB:(Tryz.prog.info? 130).map (fun i=>(i.zero,i.size,i.bytes))=T (T (.agg #[G A 0,Y Z 0 0]),2,32):=by kernel_rfl
theorem Rq(K a6 f)(ih:∀k,k<=f->Hn K a6 k)(b g n o x c w)(hb:K<=b)(hG:Below K a6 w)(hB:K<=w.heap.size)(m:AY b g n o x w)(ht:AZ g n o c w)(b3:x.next<n)(z:(Aj c (n-1)).kind=0)(a:(Aj c x.next).kind=7)(hf:2*(n-x.next)<=f+1):
 Calls prog 171 #[.pointer (T ⟨b,0,Z⟩)] w fun e w'=>Xe b g n o w (Bw c n (f+1) x) e w':=by
 obtain⟨x1,L⟩:∃y,Af c n 7 x=y:=⟨_,rfl⟩;obtain⟨x2,h2⟩:∃y,Af c n 20 x1=y:=⟨_,rfl⟩;obtain⟨p,hp⟩:∃y,(AH c 12 x2).l7=y:=⟨_,rfl⟩;obtain⟨l3,y3,h3⟩:∃l y,AO c n f (Af c n 12 x2) []=(l,y):=⟨_,_,rfl⟩;obtain⟨F,h4⟩:∃y,Af c n 13 y3=y:=⟨_,rfl⟩;have e1:=Cf (n:=n) a (by omega);rw[L]at e1;have b4:x1.next<n:=by rw[<-L];exact AV z b3
 have V:=Ah z 20 b4;rw[h2]at V;have b5:=V.2;have g3:=Ah z 12 b5;have c4:2*(n-(Af c n 12 x2).next)+1<=f:=by have:=V.1;have:=g3.1;omega
 have g4:=BM z f (Af c n 12 x2) [] g3.2;rw[h3]at g4;have g5:=Ah z 13 g4.2;rw[h4]at g5;have a9:=g5.2;have e8:x.next+1<=F.next:=by have:=V.1;have:=g3.1;have:=g4.1;have:=g5.1;omega
 have lg:=ht.lt;obtain⟨H,HG,IH,HZ,X1,X2,XP,X3⟩:=En (K9.start m ht) hG ih z L h2 hp h3;have X4:=J h4;by_cases h8:(Aj c F.next).kind=8
 .obtain⟨x4,k4⟩:∃y,Af c n 8 F=y:=⟨_,rfl⟩;obtain⟨p2,b7⟩:∃y,(AH c 12 x4).l7=y:=⟨_,rfl⟩;obtain⟨l5,y5,h5⟩:∃l y,AO c n f (Af c n 12 x4) []=(l,y):=⟨_,_,rfl⟩;obtain⟨x6,h6⟩:∃y,Af c n 13 y5=y:=⟨_,rfl⟩;have hv:Bw c n (f+1) x=(.mk (EK 11) [(p,l3),(p2,l5)],x6):=by rw[Bw,jR a];simp only[L,h2,hp,h3,h4,jR h8,k4,b7,h5,h6]
  rw[hv];have g6:=Ah z 8 a9;rw[k4]at g6;have c3:=g6.2;have g7:=Ah z 12 c3;have d6:2*(n-(Af c n 12 x4).next)+1<=f:=by have:=g6.1;have:=g7.1;omega
  have d4:(((Aj c F.next).kind:Int)==8)=true:=by simp[h8]
  obtain⟨K4,d2,X5,X6⟩:=Ba k4 b7 h5 h6;obtain⟨i0,hi,e0,e2,e4⟩:=info_parts Tryz.infoTB;clear L h2 hp h3 h4 hv m ht z a hG ih V g3 e1 g4 g5 h8 k4 b7 h5 h6 g6 g7;go_enter func171,ntmps171;go_wp2_with fail;refine(AI b g n o 7 x c _ H.o.pa H.o.pt b3).mono ?_;rw[X1.o];rintro e w1 ⟨rfl,m,s⟩;have C:=J (H.o.call m s);clear m s H;go_wp2_with fail;refine(AI b g n o 20 x1 c _ C.o.pa C.o.pt b4).mono ?_;rw[X2.o];rintro e w2 ⟨rfl,m,s⟩;have j:=J (C.o.call m s);clear m s C;have e3:=j.o.d8.size;have d8:=Ae j.o.cX;go_wp2_with fail;refine(Gi K a6 f IH.o b g n o x2 c _ hb (O.keeps HG.o j.o.d8 hB hb) (by omega) j.o.pa j.o.pt b5 HZ.o c4).mono ?_;rw[XP.o,X3.o];simp only;rw[X4.o];rintro e B ⟨d,U,sv,rfl,N,hU,a4,P⟩;have a1:=N;obtain⟨d3,a5,_⟩:=a1;obtain⟨Q,S,R,rfl⟩:=Ad a5;have M:=(O.refl kJ B).alloc (.cells #[G A p,Y Q S R] 130);obtain⟨E,HT,I,HR⟩:=Ba ((j.o.call a4 P).quiet M) (N.d8 M (fun _ _ q=>q)) hU (NE (w:=B) (G A p) (Y Q S R));have e5:=P.size;clear N hU a4 P a5 j M;go_wp2_with fail;refine(A5 b g n o F c _ E.o.pa E.o.pt a9).mono ?_;rintro e wk ⟨rfl,t⟩;obtain⟨r,a8,a7⟩:=Ax (E.o.quiet t) (HT.o.d8 t (fun _ _ q=>q)) (Ac HR.o t (fun _ _ q=>q));have b8:=t.size;simp at b8;clear t E HT HR;go_wp2_with fail;refine(AI b g n o 8 F c _ r.o.pa r.o.pt a9).mono ?_;rw[K4.o];rintro e w4 ⟨rfl,c6,a2⟩;have F4:=J (r.o.call c6 a2);have e7:=r.o.bl;have c1:=J (a8.o.d8 a2 (fun k a=>by have:=(I.o k a).1;omega));have c0:=J (Ac a7.o a2 (fun k a=>by simp[Value.ownBlock]at a;omega));have f0:=a2.size;clear c6 a2 r a8 a7;go_wp2_with fail;refine(Gi K a6 f IH.o b g n o x4 c _ hb (O.keeps HG.o F4.o.d8 hB hb) (by omega) F4.o.pa F4.o.pt c3 HZ.o d6).mono ?_;rw[d2.o,X5.o];simp only;rw[X6.o];rintro e w5 ⟨d5,U5,f3,rfl,b2,c2,c7,a3⟩;have a1:=b2;obtain⟨e6,c8,_⟩:=a1;obtain⟨wa,wl,b9,rfl⟩:=Ad c8;obtain⟨F5,d0,b1,d1,c9⟩:=BB (F4.o.call c7 a3) b2 c2 (c1.o.d8 a3 (fun k a=>by have:=(I.o k a).1;omega)) (Ac c0.o a3 (fun k a=>by simp[Value.ownBlock]at a;omega));have f1:=a3.size;clear b2 c2 c7 a3 c8 F4 c1 c0;have d9:=c9.o;go_wp2_with(at_builtin;refine jA _ rfl _ _ 228 rfl B.heap.size 130 i0 (.agg #[G A 0,Y Z 0 0]) 2 32 underlying228 hi e0 e2 e4 rfl (by decide) _ _ _ rfl (d9.alloc _) ⟨w5.heap.size,0,Z⟩ 1 1 [G A p2,Y wa wl b9] rfl rfl (AD rfl _ _) (fun u hu=>by simp at hu;rcases hu with rfl|rfl<;>rfl) (by unfold maxLen;omega) (by omega) (by simp;omega) ?_;intro v' w6 b0 d7 e9;obtain⟨ya,yl,yc,rfl⟩:=Ad b0;have c5:(w5.alloc (.cells #[G A p2,Y wa wl b9] 130)).grownBy w6 (T B.heap.size):=d7;have a0:O (fun k=>k=B.heap.size) w5 w6:=O.grown ((O.refl _ _).alloc _) c5 (fun k a=>.inl (kA a).symm);have F6:=J (K9.mk (W.d8 F5.o.pa a0 (by omega)) (F5.o.pt.d8 a0 (by omega)) (F5.o.cX.d8 a0 (by omega)) (O.grown (F5.o.d8.alloc _) c5 (fun k a=>.inr (by have:=kA a;omega))) F5.o.bl);obtain⟨q0,q1,q2,q3,q4,q5,q6,q7⟩:=F6.o.cX.e8 0 1 2 3 4 5 6 7;have qf:=F6.o.cX.frozen;have ql:=Ae F6.o.cX;simp only[gR,gP,gQ]at q0 q1 q2 q3 q4 q5 q6 q7);refine gZ (v:=.agg (Fc (EK 11) (Y Z 0 0) (Y ya yl yc))) (by simp[results,results171,go_sem,Fc,EK,BO,q0,q1,q2,q3,q4,q5,q6,q7];try rfl) rfl ?_;have b6:b≠w.heap.size:=by omega
  have f2:=a0.size;have T1:=d1.o.d8 a0 (fun k a=>by have:=(I.o k a).2;omega);have T2:=d0.o.d8 a0 (fun k a=>by have:=(b1.o k a).1;omega);refine⟨max d d5+1,fun k=>U k\/U5 k\/Value.ownBlock (Y ya yl yc)=T k,EK 11,_,_,rfl,?_,?_,?_,?_⟩
  .refine Ce.d8 (X:=fun k=>k=w.heap.size) (w:=w6) ?_ ?_ ?_
   .refine Ce.blocks (svs:=[Y Q S R,Y wa wl b9]) rfl (Aq b0 (iF _)) (fun k a=>.inr (.inr a)) ?_;intro i h h';have e:i=0\/i=1:=by simp at h;omega
    rcases e with rfl|rfl
    .exact(T1.more (fun k a=>.inl a)).eC (Nat.le_max_left _ _)
    .exact(T2.more (fun k a=>.inr (.inl a))).eC (Nat.le_max_right _ _)
   .iterate 8 refine O.t9 ?_ _ _
    exact O.refl _ _
   .intro k a;rcases a with a|a|a
    .have:=(I.o k a).1;omega
    .have:=(b1.o k a).1;omega
    .have:=(b0.lt k a).1;omega
  .intro k a;simp only[World.size_setCell];rcases a with a|a|a
   .have:=I.o k a;omega
   .have:=b1.o k a;omega
   .have:=b0.lt k a;omega
  .refine W.d8 (X:=fun k=>k=w.heap.size) F6.o.pa ?_ b6;iterate 8 refine O.t9 ?_ _ _
   exact O.refl _ _
  .iterate 8 refine O.cO ?_ _ _ (gS _)
   exact F6.o.d8
 .have hv:Bw c n (f+1) x=(.mk (EK 11) [(p,l3)],F):=by rw[Bw,jR a];simp only[L,h2,hp,h3,h4,jQ h8]
  rw[hv]
  have d4:(((Aj c F.next).kind:Int)==8)=false:=by simp;omega
  clear L h2 hp h3 h4 hv m ht z a hG ih V g3 e1 g4 g5 h8
  go_enter func171,ntmps171
  go_wp2_with fail
  refine(AI b g n o 7 x c _ H.o.pa H.o.pt b3).mono ?_
  rw[X1.o]
  rintro e w1 ⟨rfl,m,s⟩
  have C:=J (H.o.call m s)
  clear m s H
  go_wp2_with fail
  refine(AI b g n o 20 x1 c _ C.o.pa C.o.pt b4).mono ?_
  rw[X2.o]
  rintro e w2 ⟨rfl,m,s⟩
  have j:=J (C.o.call m s)
  clear m s C
  have e3:=j.o.d8.size
  have d8:=Ae j.o.cX
  go_wp2_with fail
  refine(Gi K a6 f IH.o b g n o x2 c _ hb (O.keeps HG.o j.o.d8 hB hb) (by omega) j.o.pa j.o.pt b5 HZ.o c4).mono ?_
  rw[XP.o,X3.o]
  simp only
  rw[X4.o]
  rintro e B ⟨d,U,sv,rfl,N,hU,a4,P⟩
  have a1:=N
  obtain⟨d3,a5,_⟩:=a1
  obtain⟨Q,S,R,rfl⟩:=Ad a5
  have M:=(O.refl kJ B).alloc (.cells #[G A p,Y Q S R] 130)
  obtain⟨E,HT,I,HR⟩:=Ba ((j.o.call a4 P).quiet M) (N.d8 M (fun _ _ q=>q)) hU (NE (w:=B) (G A p) (Y Q S R))
  have e5:=P.size
  clear N hU a4 P a5 j M
  go_wp2_with fail
  refine(A5 b g n o F c _ E.o.pa E.o.pt a9).mono ?_
  rintro e wk ⟨rfl,t⟩
  obtain⟨r,a8,a7⟩:=Ax (E.o.quiet t) (HT.o.d8 t (fun _ _ q=>q)) (Ac HR.o t (fun _ _ q=>q))
  have b8:=t.size
  simp at b8
  clear t E HT HR
  obtain⟨q0,q1,q2,q3,q4,q5,q6,q7⟩:=r.o.cX.e8 0 1 2 3 4 5 6 7
  have qf:=r.o.cX.frozen
  have ql:=Ae r.o.cX
  simp only[gR,gP,gQ]at q0 q1 q2 q3 q4 q5 q6 q7
  go_wp2
  refine gZ (v:=.agg (Fc (EK 11) (Y Z 0 0) (Y (T ⟨B.heap.size,0,Z⟩) 1 1))) (by simp[results,results171,go_sem,Fc,EK,BO,q0,q1,q2,q3,q4,q5,q6,q7];try rfl) rfl ?_
  have b6:b≠w.heap.size:=by have:=r.o.bl;omega
  refine⟨d+1,fun k=>U k\/k=B.heap.size,EK 11,_,_,rfl,?_,?_,?_,?_⟩
  .refine Ce.d8 (X:=fun k=>k=w.heap.size) (w:=wk) ?_ ?_ (fun k a=>by rcases a with a|a;have:=(I.o k a).1;omega;omega)
   .refine Ce.blocks (svs:=[Y Q S R]) rfl (Aq a7.o (iF _)) (fun k a=>.inr (by simp[Value.ownBlock]at a;omega)) ?_;intro i h h';have e:i=0:=by simp at h;omega
    subst e;exact a8.o.more (fun k a=>.inl a)
   .iterate 8 refine O.t9 ?_ _ _
    exact O.refl _ _
  .intro k a
   simp only[World.size_setCell];rcases a with a|a
   .have:=I.o k a;omega
   .omega
  .refine W.d8 (X:=fun k=>k=w.heap.size) r.o.pa ?_ b6
   iterate 8 refine O.t9 ?_ _ _
   exact O.refl _ _
  .iterate 8 refine O.cO ?_ _ _ (gS _)
   exact r.o.d8
theorem MC(R a0)(hF:Cj R a0)(f)(ih:∀k,k<=f->Hn R a0 k):Hn R a0 (f+1):=by
 intro b g n M j i w hb hG hB l ht P hz a5 hf;obtain⟨a,HG,IH,HZ,HF⟩:=BB (K9.start l ht) hG ih hz hF;by_cases N:(Aj i j.next).kind=7
 .have HK:=J N;clear l ht hz hG ih hF a5;obtain⟨r,l⟩:∃r,Bw i n (f+1) j=r:=⟨_,rfl⟩;rw[l];have a4:=J l;have b2:=J N;clear l N;go_enter func154,ntmps154;go_wp2_with fail;refine(A5 b g n M j i _ a.o.pa a.o.pt P).mono ?_;rw[HK.o];rintro e w0 ⟨rfl,z⟩;have p:=J (a.o.quiet z);clear z a;have a:=p;clear p;have b0:=a.o.d8.size;have a8:=Ae a.o.cX;go_wp2_with fail;refine(Rq R a0 f IH.o b g n M j i _ hb (O.keeps HG.o a.o.d8 hB hb) (by omega) a.o.pa a.o.pt P HZ.o b2.o hf).mono ?_;rw[a4.o];rintro e w1 ⟨d,U,s,av,bv,rfl,Q,hU,o,m⟩;obtain⟨⟨t,x,u,rfl⟩,⟨ba,bl,bc,rfl⟩⟩:=Q.eR;obtain⟨c,a3,HU⟩:=Ax (a.o.call o m) Q hU;have b1:=m.size;clear Q hU o m a;obtain⟨B,C,E,F,H,I,K,L⟩:=c.o.cX.e8 0 1 2 3 4 5 6 7;have qf:=c.o.cX.frozen;have ql:=Ae c.o.cX;simp only[gR,gP,gQ]at B C E F H I K L;unfold Fc;go_wp2;refine gZ (v:=.agg (Fc s (Y t x u) (Y ba bl bc))) (by simp[results,results154,go_sem,Fc,B,C,E,F,H,I,K,L]) rfl ?_;have a1:b≠w.heap.size:=by have:=c.o.bl;omega
  refine⟨d,U,s,_,_,rfl,?_,?_,?_,?_⟩
  .refine a3.o.d8 (X:=fun k=>k=w.heap.size) ?_ (fun k h=>by have:=(HU.o k h).1;omega);iterate 8 refine O.t9 ?_ _ _
   exact O.refl _ _
  .intro k h;simp only[World.size_setCell];have:=HU.o k h;omega
  .refine W.d8 (X:=fun k=>k=w.heap.size) c.o.pa ?_ a1;iterate 8 refine O.t9 ?_ _ _
   exact O.refl _ _
  .iterate 8 refine O.cO ?_ _ _ (gS _)
   exact c.o.d8
 .by_cases V:(Aj i j.next).kind=9
  .have HK:=J V;clear l ht hz hG ih hF a5;obtain⟨r,l⟩:∃r,Bw i n (f+1) j=r:=⟨_,rfl⟩;rw[l];have a4:=J l;have b3:=J V;clear l V N;go_enter func154,ntmps154;go_wp2_with fail;refine(A5 b g n M j i _ a.o.pa a.o.pt P).mono ?_;rw[HK.o];rintro e w0 ⟨rfl,z⟩;have p:=J (a.o.quiet z);clear z a;have a:=p;clear p;have b0:=a.o.d8.size;have a8:=Ae a.o.cX;go_wp2_with fail;refine(R8 R a0 f IH.o b g n M j i _ hb (O.keeps HG.o a.o.d8 hB hb) (by omega) a.o.pa a.o.pt P HZ.o b3.o hf).mono ?_;rw[a4.o];rintro e w1 ⟨d,U,s,av,bv,rfl,Q,hU,o,m⟩;obtain⟨⟨t,x,u,rfl⟩,⟨ba,bl,bc,rfl⟩⟩:=Q.eR;obtain⟨c,a3,HU⟩:=Ax (a.o.call o m) Q hU;have b1:=m.size;clear Q hU o m a;obtain⟨B,C,E,F,H,I,K,L⟩:=c.o.cX.e8 0 1 2 3 4 5 6 7;have qf:=c.o.cX.frozen;have ql:=Ae c.o.cX;simp only[gR,gP,gQ]at B C E F H I K L;unfold Fc;go_wp2;refine gZ (v:=.agg (Fc s (Y t x u) (Y ba bl bc))) (by simp[results,results154,go_sem,Fc,B,C,E,F,H,I,K,L]) rfl ?_;have a1:b≠w.heap.size:=by have:=c.o.bl;omega
   refine⟨d,U,s,_,_,rfl,?_,?_,?_,?_⟩
   .refine a3.o.d8 (X:=fun k=>k=w.heap.size) ?_ (fun k h=>by have:=(HU.o k h).1;omega);iterate 8 refine O.t9 ?_ _ _
    exact O.refl _ _
   .intro k h;simp only[World.size_setCell];have:=HU.o k h;omega
   .refine W.d8 (X:=fun k=>k=w.heap.size) c.o.pa ?_ a1;iterate 8 refine O.t9 ?_ _ _
    exact O.refl _ _
   .iterate 8 refine O.cO ?_ _ _ (gS _)
    exact c.o.d8
  .obtain⟨s1,x1,h1⟩:∃s y,AT i n j=(s,y):=⟨_,_,rfl⟩;obtain⟨x2,h2⟩:∃y,Af i n 14 x1=y:=⟨_,rfl⟩;have hv:Bw i n (f+1) j=(.mk s1 [],x2):=by rw[Bw,jQ N,jQ V,h1];simp only[h2]
   rw[hv];have g1:=KI hz P;rw[h1]at g1;have b4:=g1.2;obtain⟨kk,a6⟩:∃k,(Aj i j.next).kind=k:=⟨_,rfl⟩;rw[a6]at N V;have HK:=J a6;have j7:((kk:Int)==7)=false:=by simp;omega
   have j9:((kk:Int)==9)=false:=by simp;omega
   have X1:=J h1;have X2:=J h2;clear l ht hz hG ih hF a5 h1 h2 hv a6 N V g1;go_enter func154,ntmps154;go_wp2_with fail;refine(A5 b g n M j i _ a.o.pa a.o.pt P).mono ?_;rw[HK.o];rintro e w0 ⟨rfl,z⟩;have p:=J (a.o.quiet z);clear z a;have a:=p;clear p;have b0:=a.o.d8.size;have a8:=Ae a.o.cX;go_wp2_with fail;refine(UG R a0 HF.o b g n M j i _ hb (O.keeps HG.o a.o.d8 hB hb) (by omega) a.o.pa a.o.pt P HZ.o).mono ?_;rw[X1.o];rintro e w1 ⟨av,rfl,a7,o,m⟩;obtain⟨t,x,u,rfl⟩:=Ad a7;have hA:=(O.refl kJ w1).alloc (.cells (GO s1 (Y t x u)) 230);obtain⟨c,L1,O1⟩:=Ax ((a.o.call o m).quiet hA) (W.new w1 (GO s1 (Y t x u)) 230) (Ac a7 hA (fun _ _ q=>q));have b1:=m.size;have b6:b<w1.heap.size:=Ae o;clear a7 o m a hA;unfold GO at c L1 O1⊢;go_wp2_with fail;refine(AI b g n M 14 x1 i _ c.o.pa c.o.pt b4).mono ?_;rw[X2.o];rintro e w2 ⟨rfl,a9,a2⟩;obtain⟨S,L2,O2⟩:=Ax (c.o.call a9 a2) (L1.o.d8 a2 (by omega)) (Ac O1.o a2 (fun k h=>by have:=(O1.o.lt k h).1;have:=c.o.bl;omega));have b5:=a2.size;simp at b5;clear a9 a2 c L1 O1;obtain⟨m0,m1,m2,m3,m4,m5,m6,m7⟩:=L2.o.e8 0 1 2 3 4 5 6 7;simp only[gR,gP,gQ]at m0 m1 m2 m3 m4 m5 m6 m7;obtain⟨B,C,E,F,H,I,K,L⟩:=S.o.cX.e8 0 1 2 3 4 5 6 7;have qf:=S.o.cX.frozen;have ql:=Ae S.o.cX;simp only[gR,gP,gQ]at B C E F H I K L;go_wp2;refine gZ (v:=.agg (Fc s1 (Y t x u) (Y Z 0 0))) (by simp[results,results154,go_sem,Fc,B,C,E,F,H,I,K,L]) rfl ?_;have a1:b≠w.heap.size:=by have:=S.o.bl;omega
   refine⟨1,fun k=>Value.ownBlock (Y t x u)=T k,s1,_,_,rfl,?_,?_,?_,?_⟩
   .refine Ce.d8 (X:=fun k=>k=w.heap.size) (w:=w2) (Ce.flat (Aq O2.o (iF _)) (fun k h=>h)) ?_ (fun k h=>by have:=(O2.o.lt k h).1;omega);iterate 8 refine O.t9 ?_ _ _
    exact O.refl _ _
   .intro k h;simp only[World.size_setCell];have:=O2.o.lt k h;omega
   .refine W.d8 (X:=fun k=>k=w.heap.size) S.o.pa ?_ a1;iterate 8 refine O.t9 ?_ _ _
    exact O.refl _ _
   .iterate 8 refine O.cO ?_ _ _ (gS _)
    exact S.o.d8
theorem Gc(a:Nat)(c:World)(hF:Cj a c):∀f,∀k,k<=f->Hn a c k
 |0,k,d=>by intro b g n i x m w _ _ _ _ _ j _ _ l;omega
 |f+1,k,d=>by
  by_cases h:k<=f
  .exact Gc a c hF f k h
  .have e:k=f+1:=by omega
   subst e;exact MC a c hF f (Gc a c hF f)
structure TF where
 name:PT
 u9:List PT
 l7:Nat
 cP:List TS
def JU(a:List PT)(n:Nat)(x:PS):TF×PS:=
 let b:=Af a n 3 x
 let c:=Af a n 1 b
 let y:=Bt a n c
 let r:=AO a n (2*n+1) (Af a n 12 y.2) []
 (⟨AH a 1 b,y.1,(AH a 12 y.2).l7,r.1⟩,Af a n 13 r.2)
def MX(t:TF)(a b:Value):Array Value:=#[.string t.name.d9,G A t.name.l7,a,G A t.l7,b]
def Il(d:Nat)(U:Nat->Prop)(w:World)(t:TF)(c:List Value):Prop:=∃a b,c=(MX t a b).toList/\w.ownsRow 0 126 2 a t.u9.length (BS t.u9)/\(∀k,a.ownBlock=T k->U k)/\C7 d U w b t.cP
theorem Il.d8{d}{U:Nat->Prop}{w f t c}{X:Nat->Prop}(h:Il d U w t c)(b:O X w f)(e:∀k,U k->¬X k):Il d U f t c:=by obtain⟨g,sv,i,j,a,l⟩:=h;exact⟨g,sv,i,Ac j b (fun k m=>e k (a k m)),a,l.d8 b e⟩
theorem Il.more{d}{U U':Nat->Prop}{w t c}(h:Il d U w t c)(a:∀k,U k->U' k):Il d U' w t c:=by obtain⟨b,l,e,f,g,i⟩:=h;exact⟨b,l,e,f,fun k j=>a k (g k j),i.more a⟩
theorem Il.eC{d e}{U:Nat->Prop}{w t c}(h:Il d U w t c)(j:d<=e):Il e U w t c:=by obtain⟨a,k,b,f,g,i⟩:=h;exact⟨a,k,b,f,g,i.eC j⟩
def aQ(b g n m:Nat)(w:World)(r:TF×PS)(e:Ending)(f:World):Prop:=
 ∃(d:Nat) (U:Nat->Prop) (a:Option Addr) (l c:Nat) (h:Option Addr) (j i:Nat),e=.returned (.agg (MX r.1 (Y a l c) (Y h j i)))/\Il d U f r.1 (MX r.1 (Y a l c) (Y h j i)).toList/\(∀k,U k->w.heap.size<=k/\k<f.heap.size)/\AY b g n m r.2 f/\O (fun k=>k=b) w f
theorem Gk{g n}(a:(Aj g (n-1)).kind=0){x}(h:x.next<n):IZ n x (JU g n x).2:=by have b:=Ah a 3 h;have c:=b.trans (Ah a 1 b.2);have d:=c.trans (EH a c.2);have e:=d.trans (Ah a 12 d.2);have f:=e.trans (BM a (2*n+1) _ [] e.2);exact f.trans (Ah a 13 f.2)
theorem LU{b n}(a:(Aj b (n-1)).kind=0){x}(j:x.next<n)(k:(Aj b x.next).kind=3):x.next+1<=(JU b n x).2.next:=by have h:=Ah a 3 j;have e:=Cf (n:=n) k (by omega);have c:=Ah a 1 h.2;have d:=c.trans (EH a c.2);have f:=d.trans (Ah a 12 d.2);have g:=f.trans (BM a (2*n+1) _ [] f.2);have i:=g.trans (Ah a 13 g.2);have:=i.1;unfold JU;simp only;omega
abbrev aR:Array Value:=#[.string {data:=#[]},G A 0,Y Z 0 0,G A 0,Y Z 0 0]
theorem Jr(i F)(hF:Cj i F)(b g n h o d w)(hb:i<=b)(hG:Below i F w)(hB:i<=w.heap.size)(E:AY b g n h o w)(r:AZ g n h d w)(a9:o.next<n)(s:(Aj d (n-1)).kind=0):
 Calls prog 112 #[.pointer (T ⟨b,0,Z⟩)] w fun e w'=>aQ b g n h w (JU d n o) e w':=by
 have lr:=Ae E;have lg:=r.lt;have S:=r.ne E (by decide);obtain⟨H,j⟩:∃y,Af d n 3 o=y:=⟨_,rfl⟩;obtain⟨x2,p⟩:∃y,Af d n 1 H=y:=⟨_,rfl⟩;obtain⟨f,k2⟩:∃y,AH d 1 H=y:=⟨_,rfl⟩;obtain⟨l3,t,z⟩:∃l y,Bt d n x2=(l,y):=⟨_,_,rfl⟩;obtain⟨p4,k4⟩:∃y,(AH d 12 t).l7=y:=⟨_,rfl⟩;obtain⟨l4,y4,P⟩:∃l y,AO d n (2*n+1) (Af d n 12 t) []=(l,y):=⟨_,_,rfl⟩;obtain⟨x5,Q⟩:∃y,Af d n 13 y4=y:=⟨_,rfl⟩;have hv:JU d n o=(⟨f,l3,p4,l4⟩,x5):=by simp only[JU,j,p,k2,z,k4,P,Q]
 rw[hv];have b5:H.next<n:=by rw[<-j];exact AV s a9
 have b6:x2.next<n:=by rw[<-p];exact AV s b5
 have d6:t.next<n:=by have:=Uz s b6;rw[z]at this;exact this
 obtain⟨IH,HG,HZ,X1,X2,K2,X3,K4⟩:=En (Gc i F hF (2*n+1)) hG s j p k2 z k4;have X4:=J P;have X5:=J Q;clear j p k2 z k4 P Q hv s hG hF;go_enter func112,ntmps112;go_wp2_with fail;refine(AI b g n h 3 o d _ (W.alloc E _) (r.d8 ((O.refl kJ _).alloc _) id) a9).mono ?_;rw[X1.o];rintro e w2 ⟨rfl,b8,B⟩;obtain⟨a0,a2,M,a4⟩:=Ba ((W.new w aR 132).d8 B (by omega)) (((O.refl (fun k=>k=b) w).alloc (.cells aR 132)).trans B) ((r.d8 ((O.refl kJ _).alloc (.cells aR 132)) id).d8 B S) b8;clear b8 B E r;go_wp2_with fail;refine(CG b g n h H d _ a4.o M.o b5).mono ?_;rw[X2.o,K2.o];rintro e w3 ⟨rfl,V,C⟩;obtain⟨I,a3,N,a5⟩:=Ba (a0.o.d8 C (by omega)) (a2.o.trans C) (M.o.d8 C S) V;have e1:=Ae I.o;have e4:=Ae V;clear V C a0 a2 M a4;unfold Ki;go_wp2_with fail;refine(Kh b g n h x2 d _ (W.alloc a5.o _) (N.o.d8 ((O.refl kJ _).alloc _) id) b6 HZ.o).mono ?_;rw[X3.o];rintro e w4 ⟨v,rfl,U,b9,q⟩;obtain⟨va,vl,vc,rfl⟩:=Ad U;obtain⟨K,u,L,c7,c5,x⟩:=EF ((W.new w3 #[.string f.d9,G A f.l7] 126).d8 q (by omega)) ((I.o.alloc (.cells #[.string f.d9,G A f.l7] 126)).d8 q (by omega)) ((a3.o.alloc (.cells #[.string f.d9,G A f.l7] 126)).trans q) ((N.o.d8 ((O.refl kJ _).alloc (.cells #[.string f.d9,G A f.l7] 126)) id).d8 q S) b9 U;obtain⟨n0,n1⟩:=K.o.e2 0 1;obtain⟨b0,b1,b2,b3,b4⟩:=u.o.e5 0 1 2 3 4;have bf:=u.o.frozen;simp only[gR,gP,gQ]at n0 n1 b0 b1 b2 b3 b4;have e2:=Ae K.o;have e3:=Ae u.o;have d9:=L.o.size;have d7:2*(n-(Af d n 12 t).next)+1<=2*n+1:=by omega
 clear b9 q U I a3 N a5;go_wp2_with fail;go_region_with(go_at_call 142;refine(Gi i F (2*n+1) IH.o b g n h t d _ hb (O.keeps HG.o (L.o.dM (by repeat first|exact BI _ _|apply BG|apply BH|apply BE)) hB hb) (by simp;omega) (W.d8 (X:=kJ) c5.o (by repeat first|exact BI _ _|apply BG|apply BH|apply BE) id) (c7.o.d8 (X:=kJ) (by repeat first|exact BI _ _|apply BG|apply BH|apply BE) id) d6 HZ.o d7).mono ?_;rw[K4.o,X4.o];simp only;rw[X5.o];rintro e w5 ⟨d5,U5,e5,rfl,R,a8,c0,b7⟩;have c9:=R;obtain⟨d8,c1,_⟩:=c9;obtain⟨wa,wl,c2,rfl⟩:=Ad c1;have m:=O.trans (X:=fun k=>k=b) (a:=w4) (by repeat first|exact BI _ _|apply BG|apply BH|apply BE) b7;obtain⟨c3,a1,a7⟩:=Ax (K.o.d8 m (by omega)) (u.o.d8 m (by omega)) (Ac x.o m (fun k c=>by have:=(x.o.lt k c).1;simp at this;omega));obtain⟨m0,m1⟩:=c3.o.e2 0 1;obtain⟨d0,d1,d2,d3,d4⟩:=a1.o.e5 0 1 2 3 4;have df:=a1.o.frozen;simp only[gR,gP,gQ]at m0 m1 d0 d1 d2 d3 d4;obtain⟨c8,a6,c4,c6⟩:=Ba R a8 (L.o.trans m) c0;have e0:=m.size;clear R a8 c0 b7 m c1);all_goals
  go_wp2;refine gZ (v:=.agg (MX ⟨f,l3,p4,l4⟩ (Y va vl vc) (Y wa wl c2))) (by simp[results,results112,go_sem,MX,d0,d1,d2,d3,d4]) rfl ?_;refine⟨d5,fun k=>U5 k\/Value.ownBlock (Y va vl vc)=T k,va,vl,vc,wa,wl,c2,rfl,?_,?_,?_,?_⟩
  .refine Il.d8 (X:=fun k=>k=w.heap.size) (w:=w5) ⟨_,_,rfl,Aq a7.o (iF _),fun k c=>.inr c,c8.o.more (fun k c=>.inl c)⟩ ?_ ?_
   .iterate 5 refine O.t9 ?_ _ _
    exact O.refl _ _
   .intro k c;rcases c with c|c
    .have:=(a6.o k c).1;simp at this;omega
    .have:=(x.o.lt k c).1;simp at this;omega
  .intro k c;simp only[World.size_setCell];rcases c with c|c
   .have:=a6.o k c;simp at this;omega
   .have j:=(x.o.lt k c).1;have p:=(a7.o.lt k c).2;simp at j;omega
  .refine W.d8 (X:=fun k=>k=w.heap.size) c6.o ?_ (by omega);iterate 5 refine O.t9 ?_ _ _
   exact O.refl _ _
  .iterate 5 refine O.cO ?_ _ _ (gS _)
   exact c4.o
theorem Tryz.infoTF:(Tryz.prog.info? 132).map (fun i=>(i.zero,i.size,i.bytes))=T (T (.agg aR),5,80):=by kernel_rfl
def El(b:List PT)(n:Nat):Nat->PS->List TF->List TF×PS
 |0,x,a=>(a,x)
 |f+1,x,a=>if (Aj b x.next).kind=3 then El b n f (JU b n x).2 (a++[(JU b n x).1])else(a,x)
def Cp(a:List PT)(n:Nat)(x:PS):List TF×Nat×PS:=
 let r:=El a n n (JU a n x).2 [(JU a n x).1]
 (r.1,(AH a 0 r.2).l7,Af a n 0 r.2)
def DM(d:Nat)(U:Nat->Prop)(w:World)(c:Value)(b:List TF):Prop:=∃a:List (List Value),w.ownsRow 0 132 5 c b.length a.flatten/\a.length=b.length/\(∀k,c.ownBlock=T k->U k)/\∀j (g:j<b.length) (e:j<a.length),Il d U w b[j] a[j]
def aZ(b g n h:Nat)(w:World)(r:List TF×Nat×PS)(e:Ending)(f:World):Prop:=
 ∃(d:Nat) (U:Nat->Prop) (a:Option Addr) (l c:Nat),e=.returned (.agg #[Y a l c,G A r.2.1])/\DM d U f (Y a l c) r.1/\(∀k,U k->w.heap.size<=k/\k<f.heap.size)/\AY b g n h r.2.2 f/\O (fun k=>k=b) w f
structure FW(lo lb d:Nat)(U:Nat->Prop)(w:World)(sv:Value)(acc:List TF)(css:List (List Value)):Prop where
 row:w.ownsRow lo 132 5 sv acc.length css.flatten
 len:css.length=acc.length
 eI:∀j (g:j<acc.length) (g':j<css.length),Il d U w acc[j] css[j]
 u:∀k,U k->lo<=k/\k<w.heap.size/\k≠lb
 apart:∀k,sv.ownBlock=T k->¬U k/\k≠lb
theorem FW.d8{e c d}{U:Nat->Prop}{w m sv f i}{X:Nat->Prop}(h:FW e c d U w sv f i)(b:O X w m)(l:∀k,e<=k->k<w.heap.size->k≠c->¬X k):FW e c d U m sv f i:=
 ⟨Ac h.row b (fun k a=>l k (h.row.lt k a).1 (h.row.lt k a).2 (h.apart k a).2),h.len,fun j g n=>(h.eI j g n).d8 b (fun k a=>l k (h.u k a).1 (h.u k a).2.1 (h.u k a).2.2),fun k a=>⟨(h.u k a).1,iI (h.u k a).2.1 b.size,(h.u k a).2.2⟩,h.apart⟩
theorem FW.push{n b d x}{U p:Nat->Prop}{w v l i o u f r t c}(h:FW n b d U w i f r)(P:b<w.heap.size)(K:Il x p w t c)(g:∀k,p k->n<=k/\k<w.heap.size/\k≠b/\¬i.ownBlock=T k)(F:O kJ w v)
 (I:l.ownsRow n 132 5 o (f.length+1) (r.flatten++c))(H:v.grownBy l i.ownBlock)(C:∀k,o.ownBlock=T k->i.ownBlock=T k\/w.heap.size<=k):
 FW n b (max d x) (fun k=>U k\/p k) (l.setCell ⟨b,0,Z⟩ u) o (f++[t]) (r++[c]):=by
 have s:O (fun k=>i.ownBlock=T k) w l:=O.grown (F.mono (fun _ _ q=>q.elim)) H (fun k a=>.inl a);have m:=(O.refl (fun k=>k=b) l).t9 0 u;have B:=h.len;have y:∀k,o.ownBlock=T k->k≠b:=fun k a=>by
  rcases C k a with e|e
  .exact(h.apart k e).2
  .omega
 refine⟨?_,by simp[B],?_,?_,?_⟩
 .have:=Ac I m y;simpa using this
 .intro j E L;by_cases z:j<f.length
  .rw[iQ z,iQ (by omega)];exact((((h.eI j z (by omega)).d8 s (fun k a q=>(h.apart k q).1 a)).d8 m (fun k a=>(h.u k a).2.2)).more (fun k a=>.inl a)).eC (Nat.le_max_left _ _)
  .have e:j=f.length:=by simp at E;omega
   subst e;rw[iO (by omega),iO (by omega)];simp only[Nat.sub_self,B,iN];exact(((K.d8 s (fun k a=>(g k a).2.2.2)).d8 m (fun k a=>(g k a).2.2.1)).more (fun k a=>.inr a)).eC (Nat.le_max_right _ _)
 .intro k a;have M:=s.size;have N:=m.size;rcases a with a|a
  .have:=h.u k a;exact⟨this.1,by omega,this.2.2⟩
  .have:=g k a;exact⟨this.1,by omega,this.2.2.1⟩
 .intro k a;refine⟨fun q=>?_,y k a⟩;rcases C k a with e|e
  .rcases q with q|q
   .exact(h.apart k e).1 q
   .exact(g k q).2.2.2 e
  .rcases q with q|q
   .have:=(h.u k q).2.1;omega
   .have:=(g k q).2.1;omega
theorem Yo(t a d l f c e):∀u∈(MX t (Y a l c) (Y d f e)).toList,u.oneCell'=true:=by intro u b;simp[MX]at b;rcases b with rfl|rfl|rfl|rfl|rfl<;>rfl
theorem YH{w:World}(a:Array Value)(b:a.size=5):(w.alloc (.cells a 132)).ownsRow w.heap.size 132 5 (Y (T ⟨w.heap.size,0,Z⟩) 1 1) 1 a.toList:=
 ⟨by simpa using b,.inr ⟨w.heap.size,1,a,rfl,gS _,heap_alloc_new w _,gS _,by unfold maxLen;omega,by simpa using b,by rw[List.take_of_length_le (by simp;omega)]⟩⟩
theorem KJ(V b2)(hF:Cj V b2)(b g n r x0 i w)(hb:V<=b)(hG:Below V b2 w)(hB:V<=w.heap.size)(hr:AY b g n r x0 w)(ht:AZ g n r i w)(d9:x0.next<n)(hz:(Aj i (n-1)).kind=0):
 Calls prog 75 #[.pointer (T ⟨b,0,Z⟩)] w fun e w'=>aZ b g n r w (Cp i n x0) e w':=by
 obtain⟨i0,hi,f5,f6,f7⟩:=info_parts Tryz.infoTF;have lr:=Ae hr;have lg:=ht.lt;have hn:=ht.2.2.1;have e0:=ht.ne hr (by decide);have s:=Gk hz d9;obtain⟨S,x1,H⟩:∃t y,JU i n x0=(t,y):=⟨_,_,rfl⟩;rw[H]at s;have f3:=s.2;obtain⟨l2,x2,h2⟩:∃l y,El i n n x1 [S]=(l,y):=⟨_,_,rfl⟩;have hv:Cp i n x0=(l2,(AH i 0 x2).l7,Af i n 0 x2):=by simp only[Cp,H,h2]
 rw[hv];obtain⟨HG,HZ,HF,X1,X2⟩:=BB hG hz hF H h2;clear H h2 hv hz hG hF s;go_enter func75,ntmps75;go_wp2_with fail;refine(Jr V b2 HF.o b g n r x0 i _ hb (O.keeps HG.o ((O.refl (fun k=>k=b) w).alloc _) hB hb) (by simp;omega) (W.alloc hr _) (ht.d8 ((O.refl kJ _).alloc _) id) d9 HZ.o).mono ?_;rw[X1.o];rintro e m ⟨d2,U2,fa,fl,fc,b5,b7,b6,rfl,e3,d7,c1,a4⟩;have f8:=a4.size;simp at f8;have c3:D (W w.heap.size #[Y Z 0 0,G A 0] 60 m):=(W.new w _ _).d8 a4 (by omega);obtain⟨c4,c8,c5,c7,b3⟩:=BB (((O.refl (fun k=>k=b) w).alloc _).trans a4) ((ht.d8 ((O.refl kJ _).alloc (.cells #[Y Z 0 0,G A 0] 60)) id).d8 a4 e0) c1 e3 d7;have g6:=Ae c1;clear c1 a4 hr ht e3 d7;unfold MX;go_wp2_with fail;go_loopw[] (fun wr=>∃(x:PS) (f d:Nat) (U:Nat->Prop) (sv:Value) (Q:List TF) (b4:List (List Value)),x.next<n/\Q.length<=x.next+1/\n-x.next<=f/\D (AY b g n r x wr)/\D (AZ g n r i wr)/\D (W w.heap.size #[Y Z 0 0,G A 0] 60 wr)/\D (W (m.heap.size+1) #[sv,G A 0] 60 wr)/\D (FW (w.heap.size+1) (m.heap.size+1) d U wr sv Q b4)/\D (O (fun k=>k=b) w wr)/\D (El i n f x Q=(l2,x2))) (fun wr=>n-Ml b wr)
 case atStart=>
  refine⟨x1,n,d2,U2,Y (T ⟨m.heap.size,0,Z⟩) 1 1,[S],[(MX S (Y fa fl fc) (Y b5 b7 b6)).toList],f3,by simp,by omega,W.alloc (W.alloc c5.o _) _,c8.o.d8 (((O.refl kJ _).alloc _).alloc _) id,W.alloc (W.alloc c3.o _) _,?_,?_,(c4.o.alloc _).alloc _,X2⟩
  .refine J ?_;have:=W.new (m.alloc (.cells #[.string S.name.d9,G A S.name.l7,Y fa fl fc,G A S.l7,Y b5 b7 b6] 132)) #[Y (T ⟨m.heap.size,0,Z⟩) 1 1,G A 0] 60;simpa using this
  .refine J ⟨?_,rfl,?_,?_,?_⟩
   .have:=(YH (w:=m) (MX S (Y fa fl fc) (Y b5 b7 b6)) rfl).alloc (.cells #[Y (T ⟨m.heap.size,0,Z⟩) 1 1,G A 0] 60);exact Aq (by simpa[MX]using this) (by omega)
   .intro j s g2;have e:j=0:=by simp at s;omega
    subst e;exact c7.o.d8 (((O.refl kJ _).alloc _).alloc _) (fun _ _ q=>q)
   .intro k c;have:=b3.o k c;simp at this⊢;omega
   .intro k c;simp[Value.ownBlock]at c;refine⟨fun q=>?_,by omega⟩;have:=b3.o k q;omega
 case round=>
  clear c5 c8 c3 c4 X2 c7 b3;obtain⟨x,f,d,U,sv,Q,b4,hx,f9,hf,R,hT,a7,hC,a8,hO,HC⟩:=hrel;have e5:=J (E8 R.o);by_cases a1:(Aj i x.next).kind=3
  .obtain⟨f2,rfl⟩:∃f2,f=f2+1:=⟨f-1,by omega⟩;obtain⟨t3,x3,h3⟩:∃t y,JU i n x=(t,y):=⟨_,_,rfl⟩;have d5:El i n f2 x3 (Q++[t3])=(l2,x2):=by have:=HC.o;rw[El,jR a1,h3]at this;exact this
   have f4:x.next+1<=x3.next/\x3.next<n:=by have s:=Gk (n:=n) HZ.o hx;have g2:=LU HZ.o hx a1;rw[h3]at s g2;exact⟨g2,s.2⟩
   obtain⟨X3,e4,HK⟩:=Ax h3 d5 a1;clear HC h3 d5 a1;go_wp2_with fail;refine(A5 b g n r x i _ R.o hT.o hx).mono ?_;rw[HK.o];rintro e wk ⟨rfl,o⟩;obtain⟨R1,T1,A1,P,F,O1⟩:=EF (W.d8 R.o o id) (hT.o.d8 o id) (a7.o.d8 o id) (hC.o.d8 o id) (a8.o.d8 o (fun _ _ _ _ q=>q)) (hO.o.dM o);clear R hT a7 hC a8 hO o;obtain⟨B,E,C,rfl⟩:=Ad F.o.row;have c0:=P.o.cell 0;have cf:=P.o.frozen 0;have lc:=Ae P.o;have g7:=Ae R1.o;have g5:=O1.o.size;simp only[gR,gP]at c0;have NC:=J (fun k (c:Value.ownBlock (Y B E C)=T k)=>(⟨(F.o.row.lt k c).1,(F.o.apart k c).2⟩:w.heap.size+1<=k/\k≠m.heap.size+1));go_wp2_with fail;go_region_law(first
    |(refine AC rfl _ _ 58 rfl (w.heap.size+1) 132 i0 (.agg aR) 5 80 underlying58 hi f5 f6 f7 rfl (by decide) _ _ _ rfl (B4.o.row.alloc _) ⟨w4.heap.size,0,Z⟩ 1 1 (MX t3 (Y aa al ac) (Y ba bl bc)).toList rfl rfl (AD rfl _ _) (Yo _ _ _ _ _ _ _) (by decide) (by unfold maxLen;omega) (by omega) (by simp;omega) ?_;intro v' N b9 a0 e1;have q1:N.cell? ⟨m.heap.size+1,0,Z⟩=T (Y B E C):=(gT (a0.block (m.heap.size+1) (by simp;omega) (fun h=>(NC.o _ h.symm).2 rfl))).trans (by rw[<-d3];exact gT (iC _ _ _ c2));have q2:N.frozen? ⟨m.heap.size+1,0,Z⟩=false:=(gY (a0.block (m.heap.size+1) (by simp;omega) (fun h=>(NC.o _ h.symm).2 rfl))).trans (by rw[<-e6];exact gY (iC _ _ _ c2));obtain⟨K,M,L,rfl⟩:=Ad b9)
    |(go_simp;go_at_call 112;refine(Jr V b2 HF.o b g n r x i _ hb (O.keeps HG.o (O1.o.dM (by repeat first|exact BI _ _|apply BG|apply BH|apply BE)) hB hb) (by simp;omega) (W.d8 (X:=kJ) R1.o (by repeat first|exact BI _ _|apply BG|apply BH|apply BE) id) (T1.o.d8 (X:=kJ) (by repeat first|exact BI _ _|apply BG|apply BH|apply BE) id) hx HZ.o).mono ?_;rw[X3.o];rintro e w4 ⟨d4,U4,aa,al,ac,ba,bl,bc,rfl,e2,d8,a6,I⟩;have a5:=O.trans (X:=fun k=>k=b) (a:=wk) (by repeat first|exact BI _ _|apply BG|apply BH|apply BE) I;have B4:=J (F.o.d8 a5 (fun k h _ _=>by omega));have z:=J (P.o.d8 a5 (by omega));have d3:=z.o.cell 0;have e6:=z.o.frozen 0;have c2:=Ae z.o;simp only[gR,gP]at d3;have g4:=a5.size;obtain⟨c6,c9,R4,O5⟩:=Ba e2 d8 a6 a5;clear e2 d8 a6 I a5;unfold MX;dsimp only))
   all_goals
    have a2:O (fun k=>Value.ownBlock (Y B E C)=T k) w4 N:=O.grown ((O.refl _ _).alloc _) a0 (fun k c=>.inl c);have a9:=(O.refl (fun k=>k=m.heap.size+1) N).t9 0 (Y K M L);have b8:∀j,j<w.heap.size+1->¬Value.ownBlock (Y B E C)=T j:=fun j hj q=>by have:=(NC.o j q).1;omega
    have hP:=FW.push (u:=Y K M L) B4.o c2 c6.o (fun k c=>by have H:=c9.o k c;simp only[World.size_drew]at H;exact⟨by omega,H.2,by omega,fun q=>by have:=(F.o.row.lt k q).2;omega⟩) ((O.refl _ _).alloc _) b9 a0 (fun k c=>(e1 k c).imp id (fun q=>by simp at q;omega));have d6:AY b g n r x3 (N.setCell ⟨m.heap.size+1,0,Z⟩ (Y K M L)):=(R4.o.d8 a2 (b8 b (by omega))).d8 a9 (by omega);have f1:AZ g n r i (N.setCell ⟨m.heap.size+1,0,Z⟩ (Y K M L)):=((T1.o.d8 O5.o e0).d8 a2 (b8 g (by omega))).d8 a9 (by omega);have e7:=((A1.o.d8 O5.o (by omega)).d8 a2 (b8 w.heap.size (by omega))).d8 a9 (by omega);have e8:W (m.heap.size+1) #[Y K M L,G A 0] 60 (N.setCell ⟨m.heap.size+1,0,Z⟩ (Y K M L)):=by have:=(z.o.d8 a2 (fun q=>(NC.o _ q).2 rfl)).set 0 (Y K M L);simpa using this
    have f0:O (fun k=>k=b) w (N.setCell ⟨m.heap.size+1,0,Z⟩ (Y K M L)):=(O.grown ((O1.o.trans O5.o).alloc _) a0 (fun k c=>.inr (by have:=(NC.o k c).1;omega))).cO 0 _ (by omega);have e9:=E8 d6;clear b9 a0 e1 q1 q2 c6 c9 B4 z R4 a2 a9;go_wp2_with fail;go_roundw
    case rel=>exact⟨x3,f2,_,_,_,Q++[t3],_,f4.2,by simp;omega,by omega,d6,f1,e7,e8,hP,f0,e4⟩
    case measure=>rw[e9,e5.o];omega
  .have hv:(Q,x)=(l2,x2):=by
    rw[<-HC.o];cases f with
    |zero=>rfl
    |succ f=>rw[El,jQ a1]
   simp only[jF]at hv
   obtain⟨rfl,rfl⟩:=hv
   have g3:(((Aj i x.next).kind:Int)==3)=false:=by simp;omega
   clear HC a1
   go_wp2_with fail
   refine(A5 b g n r x i _ R.o hT.o hx).mono ?_
   rintro e wk ⟨rfl,o⟩
   obtain⟨R1,T1,A1,P,F,O1⟩:=EF (W.d8 R.o o id) (hT.o.d8 o id) (a7.o.d8 o id) (hC.o.d8 o id) (a8.o.d8 o (fun _ _ _ _ q=>q)) (hO.o.dM o)
   clear R hT a7 hC a8 hO o
   go_wp2_with fail
   refine(AI b g n r 0 x i _ R1.o T1.o hx).mono ?_
   rintro e w4 ⟨rfl,a6,I⟩
   obtain⟨A4,z,B4,O4,R4⟩:=BB (A1.o.d8 I (by omega)) (P.o.d8 I (by omega)) (F.o.d8 I (fun k h _ _=>by omega)) (O1.o.trans I) a6
   clear R1 T1 A1 P F O1 a6 I
   obtain⟨B,E,C,rfl⟩:=Ad B4.o.row
   obtain⟨b0,b1⟩:=A4.o.e2 0 1
   have bf:=A4.o.frozen
   obtain⟨d0,d1⟩:=z.o.e2 0 1
   have df:=z.o.frozen
   have lB:=Ae A4.o
   have lC:=Ae z.o
   simp only[gR,gP,gQ]at b0 b1 d0 d1
   obtain⟨t,k1⟩:∃y,AH i 0 x=y:=⟨_,rfl⟩
   rw[k1]
   have K1:=J k1
   clear k1
   unfold WO
   have g0:=Tryz.placeOf
   go_wp2
   refine gZ (v:=.agg #[Y B E C,G A t.l7]) (by simp[results,results75,go_sem,b0,b1]) rfl ?_
   have hs:=(((O.refl (fun k=>k=w.heap.size\/k=m.heap.size+1) w4).setCell (p:=⟨m.heap.size+1,1,Z⟩) (.inl (.inr rfl)) (G A t.l7)).setCell (p:=⟨w.heap.size,0,Z⟩) (.inl (.inl rfl)) (Y B E C)).setCell (p:=⟨w.heap.size,1,Z⟩) (.inl (.inl rfl)) (G A t.l7)
   have a3:=B4.o.d8 hs (fun k H _ h3=>by omega)
   refine⟨d,fun k=>U k\/Value.ownBlock (Y B E C)=T k,B,E,C,by rw[K1.o],⟨b4,Aq a3.row (iF _),a3.len,fun k c=>.inr c,fun j s g2=>(a3.eI j s g2).more (fun k c=>.inl c)⟩,?_,R4.o.d8 hs (by omega),((O4.o.cO 1 _ (by omega)).cO 0 _ (gS _)).cO 1 _ (gS _)⟩
   intro k c
   rcases c with c|c
   .have:=a3.u k c;exact⟨by omega,this.2.1⟩
   .have:=a3.row.lt k c;exact⟨by omega,this.2⟩
theorem Mv{a b}(h:a=b):Ending.returned (.bool a)=.returned (.bool b):=by rw[h]
def GI(c:Int):Bool:=(decide (97<=c) && decide (c<=122))||(decide (224<=c) && decide (c<=255) && (c !=247))
def Hg(c:Int):Bool:=c==40||c==41||c==123||c==125||c==59||c==61||c==38||c==42||c==64||c==46||c==63
theorem Bz(c w):
 Calls prog 46 #[G A c] w fun e a=>e=.returned (.bool (GI c))/\a=w:=by
 go_enter func46,ntmps46;go_wp2;all_goals
  go_ret;exact⟨Mv (by rw[Bool.eq_iff_iff];simp[GI];omega),rfl⟩
theorem Dc(c w):
 Calls prog 47 #[G A c] w fun e a=>e=.returned (.bool (Hg c))/\a=w:=by
 go_enter func47,ntmps47;go_wp2;all_goals
  go_ret;refine⟨Mv ?_,rfl⟩;first
   |(unfold Hg;rfl)
   |(simp[Hg, *];done)
def Vs(l:List UInt8):Bool:=l==[102,110]||l==[118,97,114]||l==[110,101,119]||l==[114,101,116,117,114,110]||l==[105,102]||l==[101,108,115,101]||l==[119,104,105,108,101]
theorem G5(s w):
 Calls prog 50 #[.string s] w fun e a=>e=.returned (.bool (Vs s.toList))/\a=w:=by
 go_enter func50,ntmps50;go_wp2;all_goals
  go_ret;refine⟨Mv ?_,rfl⟩;first
   |(unfold Vs;rfl)
   |(simp[Vs, *];done)
theorem Ro(s:ByteArray)(i:Nat)(d:i<s.size)(_hs:s.size<=4000)(b:bt s i<128)(w:World):
 Calls prog 45 #[.string s,G A i] w fun e f=>e=.returned (.tuple #[G A (A7 s i).1,G A (A7 s i).2])/\f=w:=by
 have c:A7 s i=(bt s i,1):=by simp only[A7,jR b]
 have a:=EM s i d;rw[c];clear c;rw[a]at b⊢;clear a;go_enter func45,ntmps45;go_wp2;go_ret2;exact⟨rfl,rfl⟩
theorem VR(s:ByteArray)(i:Nat)(f:i<s.size)(_hs:s.size<=4000)(d:128<=bt s i)(a:bt s i<194\/245<=bt s i)(w:World):
 Calls prog 45 #[.string s,G A i] w fun e h=>e=.returned (.tuple #[G A (A7 s i).1,G A (A7 s i).2])/\h=w:=by
 have c:A7 s i=(0,0):=by simp only[A7];rw[jQ (by omega),jQ (by omega),jQ (by omega),jQ (by omega)]
 have b:=EM s i f;have g:=Pn s i;rw[c];clear c;rw[b]at d a g;clear b;rcases a with a|a
 all_goals
  go_enter func45,ntmps45;go_wp2;go_ret2;exact⟨rfl,rfl⟩
theorem VT(s i)(x:i<s.size)(S:s.size<=4000)(n:194<=bt s i)(o:bt s i<224)(w):
 Calls prog 45 #[.string s,G A i] w fun e C=>e=.returned (.tuple #[G A (A7 s i).1,G A (A7 s i).2])/\C=w:=by
 have r:A7 s i=Es s i 2 128 (bt s i-192):=by simp only[A7];rw[jQ (by omega),jR ⟨n,o⟩]
 have h:=EM s i x;rw[r];clear r;by_cases z:s.size<i+2
 .rw[II z];rw[h]at n o;clear h;go_enter func45,ntmps45;go_wp2;go_ret2;exact⟨rfl,rfl⟩
 .generalize d:Es s i 2 128 (bt s i-192)=v;have f:D (Es s i 2 128 (s[i].toNat-192)=v):=by rw[<-h];exact d
  clear d;rw[h]at n o;clear h;have H:decide ((s[i].toNat:Int)<128)=false:=by simp;omega
  have I:decide ((s[i].toNat:Int)<224)=true:=by simp;omega
  have K:decide ((s.size:Int)<(i:Int)+2)=false:=by simp;omega
  go_enter func45,ntmps45;go_wp2;go_loop[6,9,10] (fun c k _=>∃m a:Nat,m<=1/\k=G A (m+1:Nat)/\c=G A a/\BJ s i (s[i].toNat-192) m=T a) (fun _ k _=>2-(intOf k).toNat)
  case atStart=>exact⟨0,_,by omega,rfl,by go_num,rfl⟩
  case round=>
   obtain⟨m,a,P,rfl,rfl,b⟩:=hrel;have u:=LK (by omega) (by omega) b;unfold LG at u;by_cases N:m+1<2
   .have y:i+(m+1)<s.size:=by omega
    have j:=EM s (i+(m+1)) y;have R:s[i+(m+1)].toNat<256:=UInt8.toNat_lt _;by_cases g:bt s (i+1+m)<128\/191<bt s (i+1+m)
    .have d:v=(0,0):=by rw[<-f.o,J5 (F7 (J7 b g) (by omega))]
     subst d;clear f b;rw[show i+1+m=i+(m+1) from by omega,j]at g;clear j;rcases g with g|g
     all_goals
      go_wp2;go_ret2;exact⟨rfl,rfl⟩
    .have t:D (BJ s i (s[i].toNat-192) (m+1)=T (a*64+s[i+(m+1)].toNat-128)):=by have:=Eu b (by omega) (by omega);rw[show i+1+m=i+(m+1) from by omega,j]at this;exact this
     rw[show i+1+m=i+(m+1) from by omega,j]at g
     have E:128<=s[i+(m+1)].toNat:=by omega
     have F:s[i+(m+1)].toNat<=191:=by omega
     clear g j b f
     go_wp2
     go_round
     case rel=>exact⟨m+1,_,by omega,by go_num,by go_num,t.o⟩
     case measure=>simp[intOf];omega
   .have B:m=2-1:=by omega
    subst B;by_cases l:a<128\/1114111<a\/(55296<=a/\a<57344)
    .have d:v=(0,0):=by rw[<-f.o,LF b l]
     subst d;clear f b;rcases l with q|q|⟨q,Q⟩
     all_goals
      go_wp2;go_ret2;exact⟨rfl,rfl⟩
    .have d:v=(a,2):=by rw[<-f.o,Lc (by omega) b l]
     subst d;have L:128<=a:=by omega
     have M:a<=1114111:=by omega
     have p:a<55296\/57344<=a:=by omega
     clear f b l;rcases p with p|p
     all_goals
      go_wp2;go_ret2;exact⟨rfl,rfl⟩
theorem Rp(s i)(x:i<s.size)(U:s.size<=4000)(n:224<=bt s i)(o:bt s i<240)(w):
 Calls prog 45 #[.string s,G A i] w fun e C=>e=.returned (.tuple #[G A (A7 s i).1,G A (A7 s i).2])/\C=w:=by
 have r:A7 s i=Es s i 3 2048 (bt s i-224):=by simp only[A7];rw[jQ (by omega),jQ (by omega),jR ⟨n,o⟩]
 have h:=EM s i x;rw[r];clear r;by_cases z:s.size<i+3
 .rw[II z];rw[h]at n o;clear h;go_enter func45,ntmps45;go_wp2;go_ret2;exact⟨rfl,rfl⟩
 .generalize d:Es s i 3 2048 (bt s i-224)=v;have f:D (Es s i 3 2048 (s[i].toNat-224)=v):=by rw[<-h];exact d
  clear d;rw[h]at n o;clear h;have H:decide ((s[i].toNat:Int)<128)=false:=by simp;omega
  have I:decide ((s[i].toNat:Int)<224)=false:=by simp;omega
  have K:decide ((s[i].toNat:Int)<240)=true:=by simp;omega
  have L:decide ((s.size:Int)<(i:Int)+3)=false:=by simp;omega
  go_enter func45,ntmps45;go_wp2;go_loop[6,9,10] (fun c k _=>∃m a:Nat,m<=2/\k=G A (m+1:Nat)/\c=G A a/\BJ s i (s[i].toNat-224) m=T a) (fun _ k _=>3-(intOf k).toNat)
  case atStart=>exact⟨0,_,by omega,rfl,by go_num,rfl⟩
  case round=>
   obtain⟨m,a,Q,rfl,rfl,b⟩:=hrel;have u:=LK (by omega) (by omega) b;unfold LG at u;by_cases P:m+1<3
   .have y:i+(m+1)<s.size:=by omega
    have j:=EM s (i+(m+1)) y;have S:s[i+(m+1)].toNat<256:=UInt8.toNat_lt _;by_cases g:bt s (i+1+m)<128\/191<bt s (i+1+m)
    .have d:v=(0,0):=by rw[<-f.o,J5 (F7 (J7 b g) (by omega))]
     subst d;clear f b;rw[show i+1+m=i+(m+1) from by omega,j]at g;clear j;rcases g with g|g
     all_goals
      go_wp2;go_ret2;exact⟨rfl,rfl⟩
    .have t:D (BJ s i (s[i].toNat-224) (m+1)=T (a*64+s[i+(m+1)].toNat-128)):=by have:=Eu b (by omega) (by omega);rw[show i+1+m=i+(m+1) from by omega,j]at this;exact this
     rw[show i+1+m=i+(m+1) from by omega,j]at g
     have E:128<=s[i+(m+1)].toNat:=by omega
     have F:s[i+(m+1)].toNat<=191:=by omega
     clear g j b f
     go_wp2
     go_round
     case rel=>exact⟨m+1,_,by omega,by go_num,by go_num,t.o⟩
     case measure=>simp[intOf];omega
   .have B:m=3-1:=by omega
    subst B;by_cases l:a<2048\/1114111<a\/(55296<=a/\a<57344)
    .have d:v=(0,0):=by rw[<-f.o,LF b l]
     subst d;clear f b;rcases l with q|q|⟨q,R⟩
     all_goals
      go_wp2;go_ret2;exact⟨rfl,rfl⟩
    .have d:v=(a,3):=by rw[<-f.o,Lc (by omega) b l]
     subst d;have M:2048<=a:=by omega
     have N:a<=1114111:=by omega
     have p:a<55296\/57344<=a:=by omega
     clear f b l;rcases p with p|p
     all_goals
      go_wp2;go_ret2;exact⟨rfl,rfl⟩
theorem Ua(s i)(x:i<s.size)(V:s.size<=4000)(n:240<=bt s i)(o:bt s i<245)(w):
 Calls prog 45 #[.string s,G A i] w fun e C=>e=.returned (.tuple #[G A (A7 s i).1,G A (A7 s i).2])/\C=w:=by
 have r:A7 s i=Es s i 4 65536 (bt s i-240):=by simp only[A7];rw[jQ (by omega),jQ (by omega),jQ (by omega),jR ⟨n,o⟩]
 have h:=EM s i x;rw[r];clear r;by_cases z:s.size<i+4
 .rw[II z];rw[h]at n o;clear h;go_enter func45,ntmps45;go_wp2;go_ret2;exact⟨rfl,rfl⟩
 .generalize d:Es s i 4 65536 (bt s i-240)=v;have f:D (Es s i 4 65536 (s[i].toNat-240)=v):=by rw[<-h];exact d
  clear d;rw[h]at n o;clear h;have H:decide ((s[i].toNat:Int)<128)=false:=by simp;omega
  have I:decide ((s[i].toNat:Int)<224)=false:=by simp;omega
  have K:decide ((s[i].toNat:Int)<240)=false:=by simp;omega
  have L:decide ((s[i].toNat:Int)<245)=true:=by simp;omega
  have M:decide ((s.size:Int)<(i:Int)+4)=false:=by simp;omega
  go_enter func45,ntmps45;go_wp2;go_loop[6,9,10] (fun c k _=>∃m a:Nat,m<=3/\k=G A (m+1:Nat)/\c=G A a/\BJ s i (s[i].toNat-240) m=T a) (fun _ k _=>4-(intOf k).toNat)
  case atStart=>exact⟨0,_,by omega,rfl,by go_num,rfl⟩
  case round=>
   obtain⟨m,a,R,rfl,rfl,b⟩:=hrel;have u:=LK (by omega) (by omega) b;unfold LG at u;by_cases Q:m+1<4
   .have y:i+(m+1)<s.size:=by omega
    have j:=EM s (i+(m+1)) y;have U:s[i+(m+1)].toNat<256:=UInt8.toNat_lt _;by_cases g:bt s (i+1+m)<128\/191<bt s (i+1+m)
    .have d:v=(0,0):=by rw[<-f.o,J5 (F7 (J7 b g) (by omega))]
     subst d;clear f b;rw[show i+1+m=i+(m+1) from by omega,j]at g;clear j;rcases g with g|g
     all_goals
      go_wp2;go_ret2;exact⟨rfl,rfl⟩
    .have t:D (BJ s i (s[i].toNat-240) (m+1)=T (a*64+s[i+(m+1)].toNat-128)):=by have:=Eu b (by omega) (by omega);rw[show i+1+m=i+(m+1) from by omega,j]at this;exact this
     rw[show i+1+m=i+(m+1) from by omega,j]at g
     have E:128<=s[i+(m+1)].toNat:=by omega
     have F:s[i+(m+1)].toNat<=191:=by omega
     clear g j b f
     go_wp2
     go_round
     case rel=>exact⟨m+1,_,by omega,by go_num,by go_num,t.o⟩
     case measure=>simp[intOf];omega
   .have B:m=4-1:=by omega
    subst B;by_cases l:a<65536\/1114111<a\/(55296<=a/\a<57344)
    .have d:v=(0,0):=by rw[<-f.o,LF b l]
     subst d;clear f b;rcases l with q|q|⟨q,S⟩
     all_goals
      go_wp2;go_ret2;exact⟨rfl,rfl⟩
    .have d:v=(a,4):=by rw[<-f.o,Lc (by omega) b l]
     subst d;have N:65536<=a:=by omega
     have P:a<=1114111:=by omega
     have p:a<55296\/57344<=a:=by omega
     clear f b l;rcases p with p|p
     .omega
     .go_wp2;go_ret2;exact⟨rfl,rfl⟩
theorem BY(s:ByteArray)(i:Nat)(a:i<s.size)(b:s.size<=4000)(w:World):
 Calls prog 45 #[.string s,G A i] w fun e h=>e=.returned (.tuple #[G A (A7 s i).1,G A (A7 s i).2])/\h=w:=by
 by_cases c:bt s i<128
 .exact Ro s i a b c w
 .by_cases d:bt s i<194\/245<=bt s i
  .exact VR s i a b (by omega) d w
  .by_cases f:bt s i<224
   .exact VT s i a b (by omega) f w
   .by_cases g:bt s i<240
    .exact Rp s i a b (by omega) g w
    .exact Ua s i a b (by omega) (by omega) w
def Gd(s:ByteArray):Nat->Nat->Nat×Bool
 |0,i=>(i,true)
 |f+1,i=>if i<s.size/\bt s i≠10 then(if (A7 s i).2=0 then(i,false)else Gd s f (i+(A7 s i).2))else(i,true)
theorem Ld{s f i}(h:¬(i<s.size/\bt s i≠10)):Gd s f i=(i,true):=by
 cases f with
 |zero=>rfl
 |succ f=>simp only[Gd,jQ h]
theorem SP{s f i}(c:s.size-i<=f)(h:i<s.size)(a:bt s i≠10)(b:(A7 s i).2=0):Gd s f i=(i,false):=by
 cases f with
 |zero=>omega
 |succ f=>simp only[Gd,jR (And.intro h a),jR b]
theorem Oj{s f i}(d:s.size-i<=f)(h:i<s.size)(b:bt s i≠10)(c:(A7 s i).2≠0):∃a,s.size-(i+(A7 s i).2)<=a/\Gd s f i=Gd s a (i+(A7 s i).2):=by
 cases f with
 |zero=>omega
 |succ f=>exact⟨f,by omega,by simp only[Gd,jR (And.intro h b),jQ c]⟩
theorem Kx(s:ByteArray)(i d:Nat)(B:i<=s.size)(t:s.size<=4000)(y:s.size-i<=d)(w:World):
 Calls prog 48 #[.string s,G A i] w fun e m=>e=.returned (.tuple #[G A (Gd s d i).1,.bool (Gd s d i).2])/\m=w:=by
 generalize b:Gd s d i=v;have n:D (Gd s d i=v):=b;clear b;go_enter func48,ntmps48;go_wp2;go_loop[1,6,7] (fun j _ _=>∃k f:Nat,k<=s.size/\j=G A k/\s.size-k<=f/\Gd s f k=v) (fun j _ _=>s.size-(intOf j).toNat)
 case atStart=>exact⟨i,d,B,rfl,y,n.o⟩
 case round=>
  obtain⟨k,f,E,rfl,q,p⟩:=hrel;have a:D (Gd s f k=v):=p;clear p n;by_cases g:k<s.size
  .have h:=EM s k g;by_cases c:bt s k=10
   .have b:v=(k,true):=by rw[<-a.o,Ld (by omega)]
    subst b;clear a;have x:(((s[k].toNat:Nat):Int) !=10)=false:=by rw[h]at c;simp;omega
    clear h c;go_wp2;go_ret2;exact⟨rfl,rfl⟩
   .have x:(((s[k].toNat:Nat):Int) !=10)=true:=by rw[h]at c;simp;omega
    have F:=Ff s k g;by_cases l:(A7 s k).2=0
    .have b:v=(k,false):=by rw[<-a.o,SP q g c l]
     subst b;have C:(((A7 s k).2:Int)==0)=true:=by simp[l]
     clear a h c l;go_wp2_with(go_at_call 45;refine(BY _ _ ?_ ?_ _).mono ?_;exact g;exact t;rintro e m ⟨rfl,rfl⟩);go_ret2;exact⟨rfl,rfl⟩
    .obtain⟨o,z,r⟩:=Oj q g c l;have u:D (Gd s o (k+(A7 s k).2)=v):=by rw[<-r];exact a.o
     have C:(((A7 s k).2:Int)==0)=false:=by simp[l]
     clear a h c r;go_wp2_with(go_at_call 45;refine(BY _ _ ?_ ?_ _).mono ?_;exact g;exact t;rintro e m ⟨rfl,rfl⟩);go_round
     case rel=>exact⟨k+(A7 s k).2,o,by omega,by go_num,z,u.o⟩
     case measure=>simp[intOf];omega
  .have b:v=(k,true):=by rw[<-a.o,Ld (by omega)]
   subst b;clear a;go_wp2;go_ret2;exact⟨rfl,rfl⟩
def DA(s:ByteArray):Nat->Nat->Nat->Nat×Nat
 |0,i,k=>(i,k)
 |f+1,i,k=>if i<s.size/\(A7 s i).2≠0/\GI (A7 s i).1=true then DA s f (i+(A7 s i).2) (k+1)else(i,k)
theorem JR{s f i k}(h:¬(i<s.size/\(A7 s i).2≠0/\GI (A7 s i).1=true)):DA s f i k=(i,k):=by
 cases f with
 |zero=>rfl
 |succ f=>simp only[DA,jQ h]
theorem OT{s f i k}(d:s.size-i<=f)(h:i<s.size)(c:(A7 s i).2≠0)(b:GI (A7 s i).1=true):∃a,s.size-(i+(A7 s i).2)<=a/\DA s f i k=DA s a (i+(A7 s i).2) (k+1):=by
 cases f with
 |zero=>omega
 |succ f=>exact⟨f,by omega,by simp only[DA];rw[jR ⟨h,c,b⟩]⟩
theorem IY(s:ByteArray):∀(f i k:Nat),i<=s.size->i<=(DA s f i k).1/\(DA s f i k).1<=s.size/\k<=(DA s f i k).2/\(DA s f i k).2+i<=k+(DA s f i k).1
 |0,i,k,h=>by simp only[DA];omega
 |f+1,i,k,h=>by
  simp only[DA];split
  .rename_i a;have b:=Ff s i a.1;have c:=IY s f (i+(A7 s i).2) (k+1) (by omega);have d:=a.2.1;omega
  .simp only;omega
theorem LI(s:ByteArray):∀(f i:Nat),i<=s.size->i<=(Gd s f i).1/\(Gd s f i).1<=s.size
 |0,i,h=>by simp only[Gd];omega
 |f+1,i,h=>by
  simp only[Gd];split
  .rename_i a;have b:=Ff s i a.1;split
   .simp only;omega
   .have c:=LI s f (i+(A7 s i).2) (by omega);omega
  .simp only;omega
theorem MQ(s:ByteArray)(i d:Nat)(C:i<=s.size)(o:s.size<=4000)(y:s.size-i<=d)(w:World):
 Calls prog 49 #[.string s,G A i] w fun e c=>e=.returned (.tuple #[G A (DA s d i 0).1,G A (DA s d i 0).2])/\c=w:=by
 generalize b:DA s d i 0=v;have p:D (DA s d i 0=v):=b;clear b;go_enter func49,ntmps49;go_wp2;go_loop[1,6,7,8,9] (fun j m _ _ _=>∃k f q:Nat,k<=s.size/\q<=k/\j=G A k/\m=G A q/\s.size-k<=f/\DA s f k q=v) (fun j _ _ _ _=>s.size-(intOf j).toNat)
 case atStart=>exact⟨i,d,0,C,iF _,rfl,rfl,y,p.o⟩
 case round=>
  obtain⟨k,f,q,F,K,rfl,rfl,z,t⟩:=hrel;have a:D (DA s f k q=v):=t;clear t p;by_cases g:k<s.size
  .have I:=Ff s k g;by_cases n:(A7 s k).2=0
   .have b:v=(k,q):=by rw[<-a.o,JR (by omega)]
    subst b;have E:(((A7 s k).2:Int)==0)=true:=by simp[n]
    clear a n;go_wp2_with(first|(go_at_call 45;refine(BY _ _ ?_ ?_ _).mono ?_;exact g;exact o;rintro e c ⟨rfl,rfl⟩)|(go_at_call 46;refine(Bz _ _).mono ?_;rintro e c ⟨rfl,rfl⟩));go_ret2;exact⟨rfl,rfl⟩
   .have E:(((A7 s k).2:Int)==0)=false:=by simp[n]
    by_cases l:GI (A7 s k).1=true
    .obtain⟨r,B,u⟩:=OT (k:=q) z g n l;have x:D (DA s r (k+(A7 s k).2) (q+1)=v):=by rw[<-u];exact a.o
     clear a u;go_wp2_with(first|(go_at_call 45;refine(BY _ _ ?_ ?_ _).mono ?_;exact g;exact o;rintro e c ⟨rfl,rfl⟩)|(go_at_call 46;refine(Bz _ _).mono ?_;rintro e c ⟨rfl,rfl⟩));go_round
     case rel=>exact⟨k+(A7 s k).2,r,q+1,by omega,by omega,by go_num,by go_num,B,x.o⟩
     case measure=>simp[intOf];omega
    .have b:v=(k,q):=by rw[<-a.o,JR (fun h=>l h.2.2)]
     subst b;have H:GI (A7 s k).1=false:=by simpa using l
     clear a l;go_wp2_with(first|(go_at_call 45;refine(BY _ _ ?_ ?_ _).mono ?_;exact g;exact o;rintro e c ⟨rfl,rfl⟩)|(go_at_call 46;refine(Bz _ _).mono ?_;rintro e c ⟨rfl,rfl⟩));go_ret2;exact⟨rfl,rfl⟩
  .have b:v=(k,q):=by rw[<-a.o,JR (by omega)]
   subst b;clear a;go_wp2;go_ret2;exact⟨rfl,rfl⟩
structure Tk where
 d9:ByteArray
 pos:Nat
 sort:Nat
def CH(t:Tk):List Value:=[.string t.d9,G A t.pos,G A t.sort]
def Bh(l:List Tk):List Value:=l.flatMap CH
theorem Dh(l t):Bh (l++[t])=Bh l++CH t:=by simp[Bh]
def Bb(s:ByteArray)(i:Nat):Nat ⊕ (Option Tk×Nat):=
 if (A7 s i).2=0 then .inl i
 else if (A7 s i).1=32\/(A7 s i).1=9\/(A7 s i).1=10 then .inr (Z,i+1)
 else if (A7 s i).1=35 then(if (Gd s s.size i).2=true then .inr (Z,(Gd s s.size i).1)else .inl (Gd s s.size i).1)
 else if GI (A7 s i).1=true then
  (if Vs (s.extract i (DA s s.size i 0).1).toList=true then .inr (T ⟨s.extract i (DA s s.size i 0).1,i,2⟩,(DA s s.size i 0).1)
   else if 8<(DA s s.size i 0).2 then .inl i else .inr (T ⟨s.extract i (DA s s.size i 0).1,i,1⟩,(DA s s.size i 0).1))
 else if 48<=(A7 s i).1/\(A7 s i).1<=51 then .inr (T ⟨s.extract i (i+1),i,3⟩,i+1)
 else if Hg (A7 s i).1=true then .inr (T ⟨s.extract i (i+1),i,4⟩,i+1)
 else .inl i
theorem Ub{s i}(h:i<s.size)(d:(A7 s i).2≠0)(b:bt s i≠10):i<(Gd s s.size i).1:=by obtain⟨a,_,c⟩:=Oj (f:=s.size) (by omega) h b d;have e:=Ff s i h;have:=LI s a (i+(A7 s i).2) (by omega);rw[c];omega
theorem NZ{s i}(h:i<s.size)(d:(A7 s i).2≠0)(c:GI (A7 s i).1=true):i<(DA s s.size i 0).1:=by obtain⟨a,_,b⟩:=OT (f:=s.size) (k:=0) (by omega) h d c;have e:=Ff s i h;have:=IY s a (i+(A7 s i).2) (0+1) (by omega);rw[b];omega
theorem Ji{s i}(a:(A7 s i).2≠0)(b:(A7 s i).1<128):bt s i=(A7 s i).1/\(A7 s i).2=1:=by
 unfold A7 at a b⊢;split
 .exact⟨rfl,rfl⟩
 .rename_i g;rw[jQ g]at a b;split
  .rename_i d;rw[jR d]at a b;rcases Hp s i 2 128 (bt s i-192)with h|⟨c,h,_⟩<;>rw[h]at a b<;>simp only at a b<;>omega
  .rename_i d;rw[jQ d]at a b;split
   .rename_i e;rw[jR e]at a b;rcases Hp s i 3 2048 (bt s i-224)with h|⟨c,h,_⟩<;>rw[h]at a b<;>simp only at a b<;>omega
   .rename_i e;rw[jQ e]at a b;split
    .rename_i f;rw[jR f]at a b;rcases Hp s i 4 65536 (bt s i-240)with h|⟨c,h,_⟩<;>rw[h]at a b<;>simp only at a b<;>omega
    .rename_i f;rw[jQ f]at a;simp only at a;omega
theorem G7{s i j t}(a:i<s.size)(h:Bb s i=.inr (t,j)):i<j/\j<=s.size:=by
 unfold Bb at h;split at h
 .cases h
 .rename_i b;have g:=Ff s i a;split at h
  .simp only[Sum.inr.injEq,jF]at h;omega
  .split at h
   .rename_i f;have k:=Ji b (by omega);split at h
    .simp only[Sum.inr.injEq,jF]at h;have c:=Ub a b (by omega);have d:=LI s s.size i (by omega);omega
    .cases h
   .split at h
    .rename_i e;have c:=NZ a b e;have d:=IY s s.size i 0 (by omega);split at h
     .simp only[Sum.inr.injEq,jF]at h;omega
     .split at h
      .cases h
      .simp only[Sum.inr.injEq,jF]at h;omega
    .split at h
     .simp only[Sum.inr.injEq,jF]at h;omega
     .split at h
      .simp only[Sum.inr.injEq,jF]at h;omega
      .cases h
def BD(s:ByteArray):Nat->Nat->List Tk->Nat ⊕ List Tk
 |0,_,a=>.inr a
 |f+1,i,a=>if i<s.size then
   (match Bb s i with
   |.inl p=>.inl p
   |.inr (t,j)=>BD s f j (a++t.toList))else .inr a
theorem Gy{s f i a}(h:¬i<s.size):BD s f i a=.inr a:=by
 cases f with
 |zero=>rfl
 |succ f=>simp only[BD,jQ h]
theorem DC{s f i p a}(c:s.size-i<=f)(h:i<s.size)(b:Bb s i=.inl p):BD s f i a=.inl p:=by
 cases f with
 |zero=>omega
 |succ f=>simp only[BD,jR h,b]
theorem CO{s f i j acc t}(d:s.size-i<=f)(h:i<s.size)(b:Bb s i=.inr (t,j)):
 ∃a,s.size-j<=a/\BD s f i acc=BD s a j (acc++t.toList):=by
 have c:=G7 h b;cases f with
 |zero=>omega
 |succ f=>exact⟨f,by omega,by simp only[BD,jR h,b]⟩
structure FS where
 kind:Nat
 p:Tk
 q:Tk
 field:Nat
 args:List Tk
 l7:Nat
 cT:List Nat
 other:List Nat
 br:Int
 dR:Int
 dD:Nat
def Gh:Option Nat->Int
 |none=> -1
 |some b=>b
def MH:Tk:=⟨ByteArray.empty,0,0⟩
def tokAt(l:List Tk)(i:Nat):Tk:=l[i]?.getD MH
def AJ(e d g n b:Nat)(c:Nat)(a:Option Nat)(w:World):Prop:=
 w.heap[e]? =T (.cells #[Y (T ⟨g,0,Z⟩) n b,G A c,G A (Gh a),.pointer (T ⟨d,0,Z⟩)] 143 (0,0))
def AP(g n b:Nat)(a:List Tk)(w:World):Prop:=w.ownsRow 0 49 3 (Y (T ⟨g,0,Z⟩) n b) n (Bh a)/\n=a.length/\n<=4001
theorem KQ{l i}(h:i<l.length):(Bh l)[i*3]? =T (.string (tokAt l i).d9)/\(Bh l)[i*3+1]? =T (G A (tokAt l i).pos)/\(Bh l)[i*3+2]? =T (G A (tokAt l i).sort):=by
 induction l generalizing i with
 |nil=>simp at h
 |cons t l a=>
  cases i with
  |zero=>simp[Bh,CH,tokAt]
  |succ i=>
   have:=a (i:=i) (by simpa using h);simp only[Bh,List.flatMap_cons,tokAt,gQ]at this⊢;have e:∀j,(CH t++List.flatMap CH l)[(i+1)*3+j]? =(List.flatMap CH l)[i*3+j]? :=by intro j;rw[jS (by simp[CH];omega)];congr 1;simp[CH];omega
   exact⟨by rw[show(i+1)*3=(i+1)*3+0 from rfl,e];exact this.1,by rw[e];exact this.2.1,by rw[e];exact this.2.2⟩
theorem AP.cells{g n c a w}(h:AP g n c a w){i}(d:i<n):
 w.cell? ⟨g,i*3,Z⟩=T (.string (tokAt a i).d9)/\w.cell? ⟨g,i*3+1,Z⟩=T (G A (tokAt a i).pos)/\w.cell? ⟨g,i*3+2,Z⟩=T (G A (tokAt a i).sort):=by
 have e:=h.2.1;have b:=KQ (l:=a) (i:=i) (by omega);exact⟨by rw[h.1.cellAt _ (by omega)];exact b.1,by rw[h.1.cellAt _ (by omega)];exact b.2.1,by rw[h.1.cellAt _ (by omega)];exact b.2.2⟩
def PM(t:Tk)(l:List UInt8):Bool:=t.d9.toList==l && (t.sort==2||t.sort==4)
def Bu(a:Option Nat)(t:Tk)(l:List UInt8):Bool:=a.isNone && PM t l
theorem Mf(q y g n p d m h s w)(k:AJ q y g n p d m w)(l:AP g n p h w)(v:d<n):
 Calls prog 97 #[.pointer (T ⟨q,0,Z⟩),.string s] w fun e C=>e=.returned (.bool (Bu m (tokAt h d) s.toList))/\O kJ w C:=by
 obtain⟨K,L,M⟩:=l.cells v;have F:=l.2.2;have z:=Ak k 0;have B:=Ak k 1;have o:=Ak k 2;simp only[gR,gP,gQ]at z B o;have I:=Ae k;have H:g<w.heap.size:=(l.1.lt g rfl).2;clear k l;have i:O kJ w ((w.alloc (.cells #[.string (tokAt h d).d9,G A (tokAt h d).pos,G A (tokAt h d).sort] 49)).drew):=((O.refl _ _).alloc _).drew;generalize tokAt h d=t at*;cases m with
 |some b=>
  have E:decide ((b:Int)<0)=false:=by simp
  simp only[Gh]at o;have a:Bu (T b) t s.toList=false:=rfl;rw[a];clear a;go_enter func97,ntmps97;go_wp2;go_region;go_wp2;go_ret;exact⟨rfl,i⟩
 |none=>
  simp only[Gh]at o;by_cases c:t.d9.toList=s.toList
  .have x:(t.d9.toList==s.toList)=true:=by simp[c]
   by_cases f:t.sort=2
   .have r:((t.sort:Int)==2)=true:=by simp[f]
    have a:Bu Z t s.toList=true:=by simp[Bu,PM,c,f]
    rw[a];clear a c f;go_enter func97,ntmps97;go_wp2;go_region;go_wp2;go_ret;exact⟨rfl,i⟩
   .have r:((t.sort:Int)==2)=false:=by simp;omega
    by_cases j:t.sort=4
    .have u:((t.sort:Int)==4)=true:=by simp[j]
     have a:Bu Z t s.toList=true:=by simp[Bu,PM,c,j]
     rw[a];clear a c f j;go_enter func97,ntmps97;go_wp2;go_region;go_wp2;go_ret;exact⟨rfl,i⟩
    .have u:((t.sort:Int)==4)=false:=by simp;omega
     have a:Bu Z t s.toList=false:=by simp[Bu,PM,f,j]
     rw[a];clear a c f j;go_enter func97,ntmps97;go_wp2;go_region;go_wp2;go_ret;exact⟨rfl,i⟩
  .have x:(t.d9.toList==s.toList)=false:=by simp[c]
   have a:Bu Z t s.toList=false:=by simp[Bu,PM,c]
   rw[a];clear a c;go_enter func97,ntmps97;go_wp2;go_region;go_wp2;go_ret;exact⟨rfl,i⟩
def FI(a:Option Nat)(p:Nat):Option Nat:=match a with|none=>T p|some b=>T b
theorem LS(c j g n h d f o w)(a:AJ c j g n h d f w)(i:AP g n h o w)(r:d<n):
 Calls prog 98 #[.pointer (T ⟨c,0,Z⟩)] w fun e q=>e=.returned (.tuple #[])/\AJ c j g n h d (FI f (tokAt o d).pos) q/\O (fun k=>k=c) w q:=by
 obtain⟨B,C,E⟩:=i.cells r;have x:=i.2.2;have s:=Ak a 0;have t:=Ak a 1;have l:=Ak a 2;have u:=Az a 2;simp only[gR,gP,gQ]at s t l;have z:=Ae a;have y:g<w.heap.size:=(i.1.lt g rfl).2;have H:=a;have m:D (AJ c j g n h d f w):=H;clear a i H;cases f with
 |some b=>
  have v:decide ((b:Int)<0)=false:=by simp
  simp only[Gh]at l;go_enter func98,ntmps98;go_wp2;go_end0;exact⟨rfl,m.o,O.refl _ _⟩
 |none=> simp only[Gh]at l;go_enter func98,ntmps98;go_wp2;go_region;go_wp2;go_end0;refine⟨rfl,?_,((O.refl (fun k=>k=c) w).setCell (p:=⟨c,2,Z⟩) (.inl rfl) _).drew⟩;exact FQ (w:=w.drew) m.o 2 _
theorem AJ.d8{a e g n c d b}{X:Nat->Prop}{w f}(h:AJ a e g n c d b w)(i:O X w f)(j:¬X a):AJ a e g n c d b f:=by unfold AJ at h⊢;rw[i.block a (Ae h) j];exact h
theorem AP.d8{g n a c}{X:Nat->Prop}{w d}(h:AP g n a c w)(e:O X w d)(f:¬X g):AP g n a c d:=
 ⟨Ac h.1 e (fun k b=>by simp[Value.ownBlock]at b;subst b;exact f),h.2⟩
theorem AP.ne{g n d c l w}(h:AP g n d l w){e t f}(j:w.heap[c]? =T (.cells e t f))(k:t≠49):g≠c:=by
 rintro rfl;rcases h.1.2 with⟨i,_⟩|⟨p,m,o,b,_,a,_⟩
 .simp at i
 .simp only[Value.slice.injEq,gX,Addr.mk.injEq]at b;rw[<-b.1.1,j]at a;simp only[gX,iE]at a;exact k a.2.1
def Fi(c:List Tk)(a:Nat)(b:Option Nat)(l:List UInt8):Nat×Option Nat:=
 if Bu b (tokAt c a) l=true then(a+1,b)else(a,FI b (tokAt c a).pos)
theorem Yn(c o g n f a b d s w)(j:AJ c o g n f a b w)(m:AP g n f d w)(u:a<n):
 Calls prog 51 #[.pointer (T ⟨c,0,Z⟩),.string s] w fun e x=>e=.returned (.tuple #[])/\AJ c o g n f (Fi d a b s.toList).1 (Fi d a b s.toList).2 x/\O (fun k=>k=c) w x:=by
 have I:=m.ne j (by decide);have H:=m.2.2;unfold Fi;cases r:Bu b (tokAt d a) s.toList with
 |false=> have v:=r;have t:D (Bu b (tokAt d a) s.toList=false):=v;clear r v;go_enter func51,ntmps51;go_wp2_with fail;refine(Mf c o g n f a b d s w j m u).mono ?_;rintro e q ⟨rfl,i⟩;rw[t.o];have l:=j.d8 i (fun h=>h);have C:=m.d8 i (fun h=>h);go_wp2_with fail;refine(LS c o g n f a b d q l C u).mono ?_;rintro e K ⟨rfl,B,z⟩;go_wp2_with fail;go_end0;exact⟨rfl,by simpa using B,(i.mono (fun _ _ h=>h.elim)).trans z⟩
 |true=> have t:D (Bu b (tokAt d a) s.toList=true):=r;clear r;go_enter func51,ntmps51;go_wp2_with fail;refine(Mf c o g n f a b d s w j m u).mono ?_;rintro e q ⟨rfl,i⟩;rw[t.o];have l:=j.d8 i (fun h=>h);have E:=Ak l 1;have F:=Az l 1;simp only[gR,gP,gQ]at E;have y:D (AJ c o g n f a b q):=l;clear l j m;go_wp2;go_end0;refine⟨rfl,?_,(i.mono (fun _ _ h=>h.elim)).trans ((O.refl (fun k=>k=c) q).setCell (p:=⟨c,1,Z⟩) (.inl rfl) _)⟩;have:=FQ (w:=q) y.o 1 (G A ((a:Int)+1));simpa[AJ]using this
theorem Jl(b h g n d a c f s l)(m:s.toList=l)(w)(o:AJ b h g n d a c w)(p:AP g n d f w)(j:a<n):
 Calls prog 51 #[.pointer (T ⟨b,0,Z⟩),.string s] w fun e i=>e=.returned (.tuple #[])/\AJ b h g n d (Fi f a c l).1 (Fi f a c l).2 i/\O (fun k=>k=b) w i:=by
 subst m;exact Yn b h g n d a c f s w o p j
theorem RM(d h g n c a b f s l)(j:s.toList=l)(w)(k:AJ d h g n c a b w)(m:AP g n c f w)(i:a<n):
 Calls prog 97 #[.pointer (T ⟨d,0,Z⟩),.string s] w fun e o=>e=.returned (.bool (Bu b (tokAt f a) l))/\O kJ w o:=by
 subst j;exact Mf d h g n c a b f s w k m i
theorem Pu{b n a bad l}(d:(tokAt b (n-1)).sort=0)(c:a<n):a<=(Fi b a bad l).1/\(Fi b a bad l).1<n:=by
 unfold Fi;split
 .rename_i h;have e:a≠n-1:=by rintro rfl;simp[Bu,PM,d]at h
  exact⟨by simp,by simp only;omega⟩
 .exact⟨gS _,c⟩

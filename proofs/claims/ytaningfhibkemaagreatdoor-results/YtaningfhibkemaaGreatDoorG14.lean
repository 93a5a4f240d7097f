/- Part of the proof: RdL RdL1 RdL2 RdR. -/
import Derived.Test.YtaningfhibkemaaGreatDoorG13
set_option maxRecDepth 100000
set_option maxHeartbeats 40000000
namespace Go.Proofs.YtaningfhibkemaaGreatDoor
open Go.RowKit Go.Proofs.Tryz
theorem Xd(f)(ih:∀k,k<=f->Iv k):NS (f+1) (fun l=>l=XE\/l=Hd):=by
 intro x u g n F B i U d H sv m c w s K p c5 hB hz i3 e9 j7 h0;have hn:=K.2.2;obtain⟨f0,j8,j5,j6,h5⟩:=i3;have h2:=J (h5 e9);have IH:=J ih;have h7:=J h0;clear ih h5 e9 h0;obtain⟨i0,hi,j9,l2,l3⟩:=info_parts Tryz.infoSt;obtain⟨cs,Q,f2,f6⟩:=c5;have hn:=K.2.2;have r3:=s.bY.cell 3;have p1:=p.bY.cell 1;have f1:=p.bY.frozen 1;simp at r3 p1;obtain⟨L,sl,M,i9⟩:=Ad Q;subst i9;have i8:=Ag Q;subst i8;have lr:=Ae s;have lp:=Ae p;have i5:u≠x:=p.bY.ne s.bY T;have h4:=J (Am Q s T);have h3:=J (Am Q p T);have HR:=J s;have e6:=J K;have HP:=J p;have e5:=J f6;have e3:=J f2;have HZ:=J hz;clear s K p f6 f2 hz;obtain⟨y,hy⟩:∃y,AJ d (f+1) i m c=y:=⟨_,rfl⟩;rw[hy];have HY:=J hy;obtain⟨t,HT⟩:∃t,D (tokAt d m.bZ=t):=⟨_,rfl⟩;clear hy;go_enter func99,ntmps99;go_wp2;refine DD (Mk _ x u g n F B U d H m c L M w HR.o e6.o HP.o ⟨cs,Q,e3.o,e5.o⟩ hB Z ?_);intro wc l9 m0 m4 m5 m6 m7 m8 m9 n0 n1 n2 n3 n4 n5 n6 n7 n8 hcut;dsimp only;obtain⟨V,vl,Y,s,K,p,c5,d8⟩:=hcut;have f8:w.heap.size<=wc.heap.size:=d8.d8.size;clear h4 h3 HR e6 HP e5 e3 Q r3 p1 f1 lr lp i5;have r:D (SF x u wc.heap.size g n F B U d H (.slice V vl Y) m (c++[Cv 0 0]) (DE i) (wc.alloc (.cells (DE i) 92))):=
  ⟨s.bY.alloc _,K.d8 ((O.refl kD wc).alloc _) id,p.bY.alloc _,W.new _ _ _,c5.d8 ((O.refl kD wc).alloc _) (fun _ _ q=>q) (fun _ _ _ _ q=>q.elim),fun k a=>by obtain⟨i1,I,_⟩:=c5;have:=(I.lt k a).2;omega⟩
 have c6:D (Fo x u (.slice L c.length M) (.slice V vl Y) w (wc.alloc (.cells (DE i) 92))):=d8.alloc _;clear s K p c5 d8;go_wp2;generalize wc.alloc (.cells (DE i) 92)=W0 at r c6⊢;obtain⟨t0,t1,t2⟩:=r.o.tk.cells f0;rw[HT.o]at t0 t1 t2;obtain⟨r0,r1⟩:=r.o.rd.bY.e2 0 1;simp at r0 r1;have l0:=Ae r.o.rd;have l1:g<W0.heap.size:=(r.o.tk.1.lt g rfl).2;have ls:wc.heap.size<W0.heap.size:=Ae r.o.sx;go_region;generalize wc.heap.size=sb at r c6 f8 ls⊢;have z:D (SG x u sb g n F B U d H (.slice L c.length M) (.slice V vl Y) m (c++[Cv 0 0]) (DE i) [(49,3,AW,0,[])] w W0):=⟨r.o,c6.o,f8,f0,HZ.o,fun q h=>by rw[iB.1 h];exact⟨.inr rfl,gR _ _ _ _⟩,hB⟩;have d4:D (c.length<(c++[Cv 0 0]).length):=by show _<_;simp
 clear r c6;go_upto_region 6 with fail;go_cut[53] (fun v E=>v=.bool (decide (t.sort=2\/t.sort=4))/\D (W W0.heap.size #[.string t.d9,.int .i64 t.pos,.int .i64 t.sort] 49 E)/\D (SG x u sb g n F B U d H (.slice L c.length M) (.slice V vl Y) m (c++[Cv 0 0]) (DE i) [(49,3,AW,0,[])] w E))
 case first=>
  have R:(t.sort=2/\((t.sort:Int)==2)=true)\/(t.sort=4/\((t.sort:Int)==2)=false/\((t.sort:Int)==4)=true)\/((¬(t.sort=2\/t.sort=4))/\((t.sort:Int)==2)=false/\((t.sort:Int)==4)=false):=by
   by_cases h:t.sort=2
   .simp[h]
   by_cases k:t.sort=4
   .simp[k]
   .simp;omega
  rcases R with⟨R,f7⟩|⟨R,f7,i7⟩|⟨R,f7,i7⟩
  all_goals
   have HS:=J R;clear R;go_wp2_with fail;go_meet
   case rel=>exact⟨by simp[HS.o],W.d8 (W.new _ _ _) (X:=kD) jV id,z.o.quiet jV⟩
 case rest=>
 obtain⟨rfl,d9,b4⟩:=hcut;have b0:=d9.o.cell 0;simp at b0;go_upto_if 53 with fail;go_cut[8] (fun v E=>∃b:ByteArray,v=.string b/\D (b.toList=AF (tokAt d m.bZ))/\D (SG x u sb g n F B U d H (.slice L c.length M) (.slice V vl Y) m (c++[Cv 0 0]) (DE i) [(49,3,AW,0,[])] w E))
 case first=>
  by_cases hc:t.sort=2\/t.sort=4;all_goals
   have HS:=J hc;simp only[hc,decide_true,decide_false];clear hc;go_wp2_with fail;go_meet
   case rel=>exact⟨_,rfl,by show _=_;rw[HT.o];simp[AF,HS.o],b4.o.quiet jV⟩
 case rest=>
 clear d9 b4 b0 HT z;obtain⟨b,rfl,HB,z⟩:=hcut;have hz:((b.toList==[105,102])=true/\AF (tokAt d m.bZ)=XE)\/((b.toList==[105,102])=false/\(b.toList==[119,104,105,108,101])=true/\AF (tokAt d m.bZ)=Hd):=by rw[HB.o];rcases h7.o with h|h<;>simp[h]
 have e8:=J hz;clear hz;go_upto_if 65 with fail;go_cut[65] (fun v E=>v=.bool true/\D (SG x u sb g n F B U d H (.slice L c.length M) (.slice V vl Y) m (c++[Cv 0 0]) (DE i) [(49,3,AW,0,[])] w E))
 case first=>
  rcases e8.o with⟨e0,_⟩|⟨e0,e1,_⟩
  all_goals
   rw[e0];go_wp2_with fail;go_meet
   case rel=>exact⟨rfl,z.o.quiet jV⟩
 case rest=>
 clear z;obtain⟨rfl,z⟩:=hcut;go_wp2_with fail;refine((z.o.quiet jV).dE _ (AF (tokAt d m.bZ)) HB.o).mono ?_;rintro e w1 ⟨x1,A,rfl,b4⟩;go_wp2_with fail;refine(b4.o.dE _ [63] jY).mono ?_;rintro e w2 ⟨x2,b9,rfl,N⟩;have C:=N.o.s.sx.cell 0;have G:=N.o.s.sx.frozen;simp at C;go_wp2_with fail;clear C G;have G1:=A8 d (AF (tokAt d m.bZ)) m;rw[A.o]at G1;have G2:=G1.trans (A8 d [63] x1);rw[b9.o]at G2;have hi:Iq n x2 (c++[Cv 0 0]).length:=by have:=h2.o;obtain⟨g1,g2,g3,g4⟩:=G2;refine⟨N.o.c,Z,Z,jX,fun e=>?_⟩;have:=g4 e;simp only[gM,gK,gZ];omega
 refine((N.o.cK 0 (.int .i64 13)).block (inn:=i) IH.o hi (fun e=>by have:=G2.2.2.2 e;omega)).mono ?_;have e2:=J G2.1;clear G1 G2 hi b4 z;rintro e w3 ⟨p3,o3,x3,f3,b1,b2,b3,d1,d2,d3,U3,c7,rfl,b5,o,P⟩;obtain⟨C,c0,c4⟩:=b5.o.s.sx.e3 0 10 12;have G:=b5.o.s.sx.frozen;simp at C c0 c4;have b6:=J ((b5.o.cK 12 (.int .i64 p3)).cK 10 (.slice b1 b2 b3));go_upto_if 83 with fail;go_cut[] (fun E=>∃(S:FS) (x9:St) (f9:List FS) (U9:Nat->Prop) (L9:List RowQ) (za:Option Addr) (zl zc:Nat) (ya:Option Addr) (yl yc:Nat) (da:Option Addr) (dl dc:Nat),D (SE x u sb g n F B U U9 d H (.slice L c.length M) (.slice da dl dc) x9 f9 (Bo S AW (.slice za zl zc) (.slice ya yl yc)) L9 w E c.length S AW (.slice za zl zc) (.slice ya yl yc))/\D (y=(c.length,x9,f9.set c.length S)))
 case first=>
  rcases e8.o with⟨e0,hW⟩|⟨e0,e1,hW⟩
  all_goals rw[e0]
  .have HW:=J hW;clear hW;go_wp2_with fail;clear C c0 c4 G;refine((b6.o.cK 0 (.int .i64 12)).next _ D8 jY).mono ?_;rcases hd:Bs x3.cB (tokAt d x3.bZ) D8 with _|_
   .rintro e w4 ⟨rfl,b7⟩;go_wp2_with fail;go_meet
    case rel=>exact⟨{Cv i (-1)with kind:=12,br:=p3,cJ:=o3},x3,f3,U3,_,b1,b2,b3,none,0,0,d1,d2,d3,⟨(b7.o.quiet jV).cast (by simp;rfl),⟨o.o.1,o.o.2.1⟩,gY d4.o P.o.2.1,gR _ _ _ _,((b7.o.quiet jV).r _ (.head _)).2,gR _ _ _ _,fun k a=>o.o.2.2 k (by simpa[Value.ownBlock]using a)⟩,by show _=_;rw[<-HY.o,AJ];rw[HW.o]at A⊢;simp[A.o,b9.o,c7.o,hd]⟩
   .rintro e w4 ⟨rfl,b7⟩;go_wp2_with fail;refine(b7.o.dE _ D8 jY).mono ?_;rintro e w5 ⟨x4,e7,rfl,e4⟩;go_wp2_with fail;have G4:=A8 d D8 x3;rw[e7.o]at G4;refine(e4.o.block (inn:=i) IH.o (P.o.1.cY G4 e4.o.c) (fun e=>by have q:=G4.2.2.2 e;have:=P.o.2.2 q.1;have:=e2.o;omega)).mono ?_;clear G4 b7 b6 b5 N;rintro e w6 ⟨p5,o5,x5,f5,c1,c2,c3,k1,k2,k3,U5,h6,rfl,c8,d5,h1⟩;obtain⟨d6,d7⟩:=c8.o.s.sx.e2 11 13;have G:=c8.o.s.sx.frozen;simp at d6 d7;go_wp2_with fail;have c9:=J ((c8.o.cK 13 (.int .i64 p5)).cK 11 (.slice c1 c2 c3));go_meet
    case rel=>exact⟨{Cv i (-1)with kind:=12,br:=p3,cJ:=o3,dG:=p5,other:=o5},x5,f5,U5,_,b1,b2,b3,c1,c2,c3,k1,k2,k3,⟨c9.o.cast (by simp;rfl),⟨fun k h=>d5.o.1 k (o.o.1 k h),fun k h=>(d5.o.2.1 k h).elim (o.o.2.1 k) .inr⟩,gY d4.o (gW P.o.2.1 h1.o.2.1),gR _ _ _ _,(c9.o.r _ (.tail _ (.head _))).2,(c9.o.r _ (.head _)).2,fun k a=>by rcases a with q|q|q;simp[Value.ownBlock]at q;exact o.o.2.2 k q;exact d5.o.2.2 k q⟩,by show _=_;rw[<-HY.o,AJ];rw[HW.o]at A⊢;simp[A.o,b9.o,c7.o,hd,e7.o,h6.o]⟩
  .have HW:=J hW;clear hW;go_wp2_with fail;go_meet
   case rel=>exact⟨{Cv i (-1)with kind:=13,br:=p3,cJ:=o3},x3,f3,U3,_,b1,b2,b3,none,0,0,d1,d2,d3,⟨b6.o.cast (by simp;rfl),⟨o.o.1,o.o.2.1⟩,gY d4.o P.o.2.1,gR _ _ _ _,(b6.o.r _ (.head _)).2,gR _ _ _ _,fun k a=>o.o.2.2 k (by simpa[Value.ownBlock]using a)⟩,by show _=_;rw[<-HY.o,AJ];rw[HW.o]at A⊢;simp[A.o,b9.o,c7.o]⟩
 case rest=>
  obtain⟨S,x9,f9,U9,L9,za,zl,zc,ya,yl,yc,da,dl,dc,HE,h8⟩:=hcut;clear C c0 c4 G b6 b5 N c7 A b9 o P e2 HY;have d0:=J HE.o.g;have b8:=HE.o.g.s;obtain⟨i1,I,i4,i6⟩:=b8.st;have f4:=HE.o.l;obtain⟨gg,i2⟩:=Ap I Z;subst i2;have gz:=II I;have a:=fun j (h:j<15)=>Ma I c.length f4 j h
  obtain⟨g0,k0⟩:=a 0 T;obtain⟨g1,k1⟩:=a 1 T;obtain⟨g2,k2⟩:=a 2 T;obtain⟨g3,k3⟩:=a 3 T;obtain⟨g4,k4⟩:=a 4 T;obtain⟨g5,k5⟩:=a 5 T;obtain⟨g6,k6⟩:=a 6 T;obtain⟨g7,k7⟩:=a 7 T;obtain⟨g8,k8⟩:=a 8 T;obtain⟨g9,k9⟩:=a 9 T;obtain⟨j0,l4⟩:=a 10 T;obtain⟨j1,l5⟩:=a 11 T;obtain⟨j2,l6⟩:=a 12 T;obtain⟨j3,l7⟩:=a 13 T;obtain⟨j4,l8⟩:=a 14 T;simp only[gX]at k0;rw[<-Ag I]at f4;have r3:=b8.rd.bY.cell 3;have p1:=b8.pr.bY.cell 1;simp at r3 p1;obtain⟨C,a1,a2,a3,a4,a5,a6,G⟩:=d0.o.s.sx.c7;obtain⟨a7,a8,a9,c0,d6,c4,d7,h9⟩:=d0.o.s.sx.e8 7 8 9 10 11 12 13 14;simp[Bo]at C a1 a2 a3 a4 a5 a6 a7 a8 a9 c0 d6 c4 d7 h9;obtain⟨m1,m2,m3⟩:=b8.dZ gg rfl;clear b8 I i4 i6 d0 G a;go_wp2;go_region;go_wp2;go_ret;have hq:=HE.o.post h8.o;rw[Ke]at hq;exact hq
theorem Xe(f)(ih:∀k,k<=f->Iv k):NS (f+1) (fun l=>l=Vc\/l=Ht\/l=[42]):=by
 intro M L g n R B F U G V sv P z w K ht H b7 hB hz f9 c9 i9 d7;have hn:=ht.2.2;obtain⟨d0,j0,i7,i8,h5⟩:=f9;have i1:=J (h5 c9);have IH:=J ih;have e7:=J d7;clear ih h5 c9 d7;obtain⟨i0,hi,j1,j2,j3⟩:=info_parts Tryz.infoSt;obtain⟨cs,b3,d1,d4⟩:=b7;have hn:=ht.2.2;have r3:=K.bY.cell 3;have p1:=H.bY.cell 1;have f1:=H.bY.frozen 1;simp at r3 p1;obtain⟨sa,sl,sc,h9⟩:=Ad b3;subst h9;have h8:=Ag b3;subst h8;have lr:=Ae K;have lp:=Ae H;have h1:L≠M:=H.bY.ne K.bY T;have e6:=J (Am b3 K T);have e5:=J (Am b3 H T);have HR:=J K;have c8:=J ht;have HP:=J H;have c7:=J d4;have c5:=J d1;have HZ:=J hz;clear K ht H d4 d1 hz;obtain⟨y,hy⟩:∃y,AJ G (f+1) F P z=y:=⟨_,rfl⟩;rw[hy];have HY:=J hy;obtain⟨t,HT⟩:∃t,D (tokAt G P.bZ=t):=⟨_,rfl⟩;clear hy;go_enter func99,ntmps99;go_wp2;refine DD (Mk _ M L g n R B U G V P z sa sc w HR.o c8.o HP.o ⟨cs,b3,c5.o,c7.o⟩ hB Z ?_);intro wc j9 l2 l3 l4 l5 l6 l7 l8 l9 m0 m4 m5 m6 m7 m8 m9 n0 hcut;dsimp only;obtain⟨va,vl,vc,K,ht,H,b7,c3⟩:=hcut;have d6:w.heap.size<=wc.heap.size:=c3.d8.size;clear e6 e5 HR c8 HP c7 c5 b3 r3 p1 f1 lr lp h1;have I:D (SF M L wc.heap.size g n R B U G V (.slice va vl vc) P (z++[Cv 0 0]) (DE F) (wc.alloc (.cells (DE F) 92))):=
  ⟨K.bY.alloc _,ht.d8 ((O.refl kD wc).alloc _) id,H.bY.alloc _,W.new _ _ _,b7.d8 ((O.refl kD wc).alloc _) (fun _ _ q=>q) (fun _ _ _ _ q=>q.elim),fun k x=>by obtain⟨f7,b1,_⟩:=b7;have:=(b1.lt k x).2;omega⟩
 have b8:D (Fo M L (.slice sa z.length sc) (.slice va vl vc) w (wc.alloc (.cells (DE F) 92))):=c3.alloc _;clear K ht H b7 c3;go_wp2;generalize wc.alloc (.cells (DE F) 92)=W0 at I b8⊢;obtain⟨t0,t1,t2⟩:=I.o.tk.cells d0;rw[HT.o]at t0 t1 t2;obtain⟨r0,r1⟩:=I.o.rd.bY.e2 0 1;simp at r0 r1;have l0:=Ae I.o.rd;have l1:g<W0.heap.size:=(I.o.tk.1.lt g rfl).2;have ls:wc.heap.size<W0.heap.size:=Ae I.o.sx;go_region;generalize wc.heap.size=sb at I b8 d6 ls⊢;have Q:D (SG M L sb g n R B U G V (.slice sa z.length sc) (.slice va vl vc) P (z++[Cv 0 0]) (DE F) [(49,3,AW,0,[])] w W0):=⟨I.o,b8.o,d6,d0,HZ.o,fun q h=>by rw[iB.1 h];exact⟨.inr rfl,gR _ _ _ _⟩,hB⟩;have d9:D (z.length<(z++[Cv 0 0]).length):=by show _<_;simp
 clear I b8;go_upto_region 6 with fail;go_cut[53] (fun v wx=>v=.bool (decide (t.sort=2\/t.sort=4))/\D (W W0.heap.size #[.string t.d9,.int .i64 t.pos,.int .i64 t.sort] 49 wx)/\D (SG M L sb g n R B U G V (.slice sa z.length sc) (.slice va vl vc) P (z++[Cv 0 0]) (DE F) [(49,3,AW,0,[])] w wx))
 case first=>
  have hs:(t.sort=2/\((t.sort:Int)==2)=true)\/(t.sort=4/\((t.sort:Int)==2)=false/\((t.sort:Int)==4)=true)\/((¬(t.sort=2\/t.sort=4))/\((t.sort:Int)==2)=false/\((t.sort:Int)==4)=false):=by
   by_cases h:t.sort=2
   .simp[h]
   by_cases k:t.sort=4
   .simp[k]
   .simp;omega
  rcases hs with⟨hs,d5⟩|⟨hs,d5,h7⟩|⟨hs,d5,h7⟩
  all_goals
   have HS:=J hs;clear hs;go_wp2_with fail;go_meet
   case rel=>exact⟨by simp[HS.o],W.d8 (W.new _ _ _) (X:=kD) jV id,Q.o.quiet jV⟩
 case rest=>
 obtain⟨rfl,c4,E⟩:=hcut;have b0:=c4.o.cell 0;simp at b0;go_upto_if 53 with fail;go_cut[8] (fun v wx=>∃b:ByteArray,v=.string b/\D (b.toList=AF (tokAt G P.bZ))/\D (SG M L sb g n R B U G V (.slice sa z.length sc) (.slice va vl vc) P (z++[Cv 0 0]) (DE F) [(49,3,AW,0,[])] w wx))
 case first=>
  by_cases hc:t.sort=2\/t.sort=4;all_goals
   have HS:=J hc;simp only[hc,decide_true,decide_false];clear hc;go_wp2_with fail;go_meet
   case rel=>exact⟨_,rfl,by show _=_;rw[HT.o];simp[AF,HS.o],E.o.quiet jV⟩
 case rest=>
 clear c4 E b0 HT Q;obtain⟨b,rfl,HB,Q⟩:=hcut;go_upto_block 0 with fail;go_cut[] (fun wx=>∃(S:FS) (x9:St) (a:Option Addr) (l c:Nat),D (SG M L sb g n R B U G V (.slice sa z.length sc) (.slice va vl vc) x9 (z++[Cv 0 0]) (Bo S (.slice a l c) AW AW) [(49,3,.slice a l c,S.args.length,Bc S.args)] w wx)/\D (S.cJ=[]/\S.other=[]/\∀k,Value.ownBlock (.slice a l c)=some k->w.heap.size<=k)/\D (y=(z.length,Aw G [59] x9,(z++[Cv 0 0]).set z.length S)))
 case first=>
  have d3:∀k,Value.ownBlock AW=some k->w.heap.size<=k:=fun k x=>by simp[Value.ownBlock]at x
  have c0:=J d3;clear d3;have hw:=e7.o;simp only[<-HB.o]at hw;have hb:=HB.o;have e0:(b.toList==[105,102])=false:=by rcases hw with h|h|h<;>simp[h]
  have e1:(b.toList==[119,104,105,108,101])=false:=by rcases hw with h|h|h<;>simp[h]
  by_cases Y:b.toList=[118,97,114]
  .have e2:(b.toList==[118,97,114])=true:=beq_iff_eq.2 Y;have HW:=J (hb.symm.trans Y);clear hw Y hb;go_wp2_with fail;refine((Q.o.quiet jV).dE _ Vc jY).mono ?_;rintro e w1 ⟨x1,b5,rfl,E⟩;obtain⟨d,i,m,o,r,s,u,A⟩:=E.o.s.sx.c7;simp at d i m o r s u;go_wp2_with fail;clear d i m o r s u A;refine((E.o.cK 0 (.int .i64 1)).get 1 T).mono ?_;rintro e w2 ⟨C,x2,b6,rfl,N⟩;unfold JN;obtain⟨d,i,m,o,r,s,u,A⟩:=N.o.s.sx.c7;simp at d i m o r s u;go_wp2_with fail;clear d i m o r s u A;go_meet
   case rel=>exact⟨{Cv F (-1)with kind:=1,p:=C},_,none,0,0,(((N.o.cK 1 (.string C.d9)).cK 2 (.int .i64 C.pos)).cK 3 (.int .i64 C.sort)).cast (by simp;rfl),⟨rfl,rfl,c0.o⟩,by show _=_;rw[<-HY.o];simp[AJ,Ba,HW.o,b5.o,b6.o]⟩
  have e2:(b.toList==[118,97,114])=false:=beq_eq_false_iff_ne.2 Y;by_cases h3:b.toList=[114,101,116,117,114,110]
  .have e3:(b.toList==[114,101,116,117,114,110])=true:=beq_iff_eq.2 h3;have HW:=J (hb.symm.trans h3);clear hw Y h3 hb;go_wp2_with fail;refine((Q.o.quiet jV).dE _ Ht jY).mono ?_;rintro e w1 ⟨x1,b5,rfl,E⟩;obtain⟨d,i,m,o,r,s,u,A⟩:=E.o.s.sx.c7;simp at d i m o r s u;go_wp2_with fail;clear d i m o r s u A;refine((E.o.cK 0 (.int .i64 11)).get 1 T).mono ?_;rintro e w2 ⟨C,x2,b6,rfl,N⟩;unfold JN;obtain⟨d,i,m,o,r,s,u,A⟩:=N.o.s.sx.c7;simp at d i m o r s u;go_wp2_with fail;clear d i m o r s u A;go_meet
   case rel=>exact⟨{Cv F (-1)with kind:=11,q:=C},_,none,0,0,(((N.o.cK 4 (.string C.d9)).cK 5 (.int .i64 C.pos)).cK 6 (.int .i64 C.sort)).cast (by simp;rfl),⟨rfl,rfl,c0.o⟩,by show _=_;rw[<-HY.o];simp[AJ,Ba,HW.o,b5.o,b6.o]⟩
  have e3:(b.toList==[114,101,116,117,114,110])=false:=beq_eq_false_iff_ne.2 h3;by_cases h4:b.toList=[42]
  .have e4:(b.toList==[42])=true:=beq_iff_eq.2 h4;have HW:=J (hb.symm.trans h4);clear hw Y h3 h4 hb;go_wp2_with fail;refine((Q.o.quiet jV).dE _ [42] jY).mono ?_;rintro e w1 ⟨x1,b5,rfl,E⟩;obtain⟨d,i,m,o,r,s,u,A⟩:=E.o.s.sx.c7;simp at d i m o r s u;go_wp2_with fail;clear d i m o r s u A;refine((E.o.cK 0 (.int .i64 10)).get 1 T).mono ?_;rintro e w2 ⟨C,x2,b6,rfl,N⟩;unfold JN;obtain⟨d,i,m,o,r,s,u,A⟩:=N.o.s.sx.c7;simp at d i m o r s u;go_wp2_with fail;clear d i m o r s u A;refine((((N.o.cK 1 (.string C.d9)).cK 2 (.int .i64 C.pos)).cK 3 (.int .i64 C.sort)).dE _ [61] jY).mono ?_;rintro e w3 ⟨x3,e8,rfl,d8⟩;go_wp2_with fail;refine(d8.o.get 1 T).mono ?_;rintro e w4 ⟨q4,x4,e9,rfl,c6⟩;unfold JN;obtain⟨d,i,m,o,r,s,u,A⟩:=c6.o.s.sx.c7;simp at d i m o r s u;go_wp2_with fail;clear d i m o r s u A;go_meet
   case rel=>exact⟨{Cv F (-1)with kind:=10,p:=C,q:=q4},_,none,0,0,(((c6.o.cK 4 (.string q4.d9)).cK 5 (.int .i64 q4.pos)).cK 6 (.int .i64 q4.sort)).cast (by simp;rfl),⟨rfl,rfl,c0.o⟩,by show _=_;rw[<-HY.o];simp[AJ,Ba,HW.o,b5.o,b6.o,e8.o,e9.o]⟩
  exact(hw.elim Y (fun q=>q.elim h3 h4)).elim
 case rest=>
  obtain⟨S,x9,za,zl,zc,b2,c1,c2⟩:=hcut;clear Q HB;go_wp2_with fail;refine(b2.o.dE _ [59] jY).mono ?_;rintro e w8 ⟨x8,f0,rfl,b9⟩;have c2:=J (f0.o▸c2.o);have HE:D (SE M L sb g n R B U U G V (.slice sa z.length sc) (.slice va vl vc) x8 _ _ _ w w8 z.length S (.slice za zl zc) AW AW):=⟨b9.o,⟨fun _=>id,fun _=>.inl⟩,d9.o,(b9.o.r _ (.head _)).2,by rw[c1.o.1];exact gR _ _ _ _,by rw[c1.o.2.1];exact gR _ _ _ _,fun k x=>c1.o.2.2 k (by simpa[Value.ownBlock]using x)⟩;clear b9 b2;have b2:=J HE.o.g;have b4:=HE.o.g.s;obtain⟨f7,b1,h0,h6⟩:=b4.st;have d2:=HE.o.l;obtain⟨gg,f8⟩:=Ap b1 Z;subst f8;have gz:=II b1;have x:=fun j (h:j<15)=>Ma b1 z.length d2 j h
  obtain⟨g0,k0⟩:=x 0 T;obtain⟨g1,k1⟩:=x 1 T;obtain⟨g2,k2⟩:=x 2 T;obtain⟨g3,k3⟩:=x 3 T;obtain⟨g4,k4⟩:=x 4 T;obtain⟨g5,k5⟩:=x 5 T;obtain⟨g6,k6⟩:=x 6 T;obtain⟨g7,k7⟩:=x 7 T;obtain⟨g8,k8⟩:=x 8 T;obtain⟨g9,k9⟩:=x 9 T;obtain⟨i2,j4⟩:=x 10 T;obtain⟨i3,j5⟩:=x 11 T;obtain⟨i4,j6⟩:=x 12 T;obtain⟨i5,j7⟩:=x 13 T;obtain⟨i6,j8⟩:=x 14 T;simp only[gX]at k0;rw[<-Ag b1]at d2;have r3:=b4.rd.bY.cell 3;have p1:=b4.pr.bY.cell 1;simp at r3 p1;obtain⟨d,i,m,o,r,s,u,A⟩:=b2.o.s.sx.c7;obtain⟨a7,a8,a9,f2,f3,f4,f5,f6⟩:=b2.o.s.sx.e8 7 8 9 10 11 12 13 14;simp[Bo]at d i m o r s u a7 a8 a9 f2 f3 f4 f5 f6;obtain⟨m1,m2,m3⟩:=b4.dZ gg rfl;clear b4 b1 h0 h6 b2 A x;go_wp2;go_region;go_wp2;go_ret;have hq:=HE.o.post c2.o;rw[Ke]at hq;exact hq
theorem Xf(f)(ih:∀k,k<=f->Iv k):NS (f+1) (fun l=>l≠XE/\l≠Hd/\l≠Vc/\l≠Ht/\l≠[42]):=by
 intro I H g n b3 B C U E fv sv K c w G ht A b7 hB hz f5 d4 i7 e6;have hn:=ht.2.2;obtain⟨d5,i8,i5,i6,h5⟩:=f5;have h8:=J (h5 d4);have IH:=J ih;have f0:=J e6;clear ih h5 d4 e6;obtain⟨i0,hi,i9,j0,j1⟩:=info_parts Tryz.infoSt;obtain⟨cs,b4,d6,d8⟩:=b7;have hn:=ht.2.2;have r3:=G.bY.cell 3;have p1:=A.bY.cell 1;have f1:=A.bY.frozen 1;simp at r3 p1;obtain⟨sa,sl,sc,h7⟩:=Ad b4;subst h7;have h6:=Ag b4;subst h6;have lr:=Ae G;have lp:=Ae A;have f7:H≠I:=A.bY.ne G.bY T;have e9:=J (Am b4 G T);have e8:=J (Am b4 A T);have HR:=J G;have d2:=J ht;have HP:=J A;have d1:=J d8;have d0:=J d6;have HZ:=J hz;clear G ht A d8 d6 hz;obtain⟨y,hy⟩:∃y,AJ E (f+1) C K c=y:=⟨_,rfl⟩;rw[hy];have HY:=J hy;obtain⟨t,HT⟩:∃t,D (tokAt E K.bZ=t):=⟨_,rfl⟩;clear hy;go_enter func99,ntmps99;go_wp2;refine DD (Mk _ I H g n b3 B U E fv K c sa sc w HR.o d2.o HP.o ⟨cs,b4,d0.o,d1.o⟩ hB Z ?_);intro wc j7 j8 j9 l2 l3 l4 l5 l6 l7 l8 l9 m0 m4 m5 m6 m7 m8 hcut;dsimp only;obtain⟨va,vl,vc,G,ht,A,b7,c7⟩:=hcut;have e5:w.heap.size<=wc.heap.size:=c7.d8.size;clear e9 e8 HR d2 HP d1 d0 b4 r3 p1 f1 lr lp f7;have F:D (SF I H wc.heap.size g n b3 B U E fv (.slice va vl vc) K (c++[Cv 0 0]) (DE C) (wc.alloc (.cells (DE C) 92))):=
  ⟨G.bY.alloc _,ht.d8 ((O.refl kD wc).alloc _) id,A.bY.alloc _,W.new _ _ _,b7.d8 ((O.refl kD wc).alloc _) (fun _ _ q=>q) (fun _ _ _ _ q=>q.elim),fun k a=>by obtain⟨f3,b1,_⟩:=b7;have:=(b1.lt k a).2;omega⟩
 have b8:D (Fo I H (.slice sa c.length sc) (.slice va vl vc) w (wc.alloc (.cells (DE C) 92))):=c7.alloc _;clear G ht A b7 c7;go_wp2;generalize wc.alloc (.cells (DE C) 92)=W0 at F b8⊢;obtain⟨t0,t1,t2⟩:=F.o.tk.cells d5;rw[HT.o]at t0 t1 t2;obtain⟨r0,r1⟩:=F.o.rd.bY.e2 0 1;simp at r0 r1;have l0:=Ae F.o.rd;have l1:g<W0.heap.size:=(F.o.tk.1.lt g rfl).2;have ls:wc.heap.size<W0.heap.size:=Ae F.o.sx;go_region;generalize wc.heap.size=sb at F b8 e5 ls⊢;have b5:D (SG I H sb g n b3 B U E fv (.slice sa c.length sc) (.slice va vl vc) K (c++[Cv 0 0]) (DE C) [(49,3,AW,0,[])] w W0):=⟨F.o,b8.o,e5,d5,HZ.o,fun q h=>by rw[iB.1 h];exact⟨.inr rfl,gR _ _ _ _⟩,hB⟩;have e7:D (c.length<(c++[Cv 0 0]).length):=by show _<_;simp
 clear F b8;go_upto_region 6 with fail;go_cut[53] (fun v wx=>v=.bool (decide (t.sort=2\/t.sort=4))/\D (W W0.heap.size #[.string t.d9,.int .i64 t.pos,.int .i64 t.sort] 49 wx)/\D (SG I H sb g n b3 B U E fv (.slice sa c.length sc) (.slice va vl vc) K (c++[Cv 0 0]) (DE C) [(49,3,AW,0,[])] w wx))
 case first=>
  have hs:(t.sort=2/\((t.sort:Int)==2)=true)\/(t.sort=4/\((t.sort:Int)==2)=false/\((t.sort:Int)==4)=true)\/((¬(t.sort=2\/t.sort=4))/\((t.sort:Int)==2)=false/\((t.sort:Int)==4)=false):=by
   by_cases h:t.sort=2
   .simp[h]
   by_cases k:t.sort=4
   .simp[k]
   .simp;omega
  rcases hs with⟨hs,d9⟩|⟨hs,d9,f9⟩|⟨hs,d9,f9⟩
  all_goals
   have HS:=J hs;clear hs;go_wp2_with fail;go_meet
   case rel=>exact⟨by simp[HS.o],W.d8 (W.new _ _ _) (X:=kD) jV id,b5.o.quiet jV⟩
 case rest=>
 obtain⟨rfl,c9,b2⟩:=hcut;have b0:=c9.o.cell 0;simp at b0;go_upto_if 53 with fail;go_cut[8] (fun v wx=>∃b:ByteArray,v=.string b/\D (b.toList=AF (tokAt E K.bZ))/\D (SG I H sb g n b3 B U E fv (.slice sa c.length sc) (.slice va vl vc) K (c++[Cv 0 0]) (DE C) [(49,3,AW,0,[])] w wx))
 case first=>
  by_cases hc:t.sort=2\/t.sort=4;all_goals
   have HS:=J hc;simp only[hc,decide_true,decide_false];clear hc;go_wp2_with fail;go_meet
   case rel=>exact⟨_,rfl,by show _=_;rw[HT.o];simp[AF,HS.o],b2.o.quiet jV⟩
 case rest=>
 clear c9 b2 b0 HT b5;obtain⟨b,rfl,HB,b5⟩:=hcut;have hw:=f0.o;simp only[<-HB.o]at hw;have hb:=HB.o;obtain⟨h0,h1,h2,h3,h4⟩:=hw;have e0:(b.toList==[105,102])=false:=beq_eq_false_iff_ne.2 h0;have e1:(b.toList==[119,104,105,108,101])=false:=beq_eq_false_iff_ne.2 h1;have e2:(b.toList==[118,97,114])=false:=beq_eq_false_iff_ne.2 h2;have e3:(b.toList==[114,101,116,117,114,110])=false:=beq_eq_false_iff_ne.2 h3;have e4:(b.toList==[42])=false:=beq_eq_false_iff_ne.2 h4;rw[hb]at h0 h1 h2 h3 h4;have HW:=J (And.intro h0 (And.intro h1 (And.intro h2 (And.intro h3 h4))));clear h0 h1 h2 h3 h4 hb;go_wp2_with fail;refine((b5.o.quiet jV).get 1 T).mono ?_;rintro e w1 ⟨q1,x1,c4,rfl,b2⟩;unfold JN;obtain⟨i,m,o,r,s,u,x,Y⟩:=b2.o.s.sx.c7;simp at i m o r s u x;go_wp2_with fail;clear i m o r s u x Y;refine((((b2.o.cK 1 (.string q1.d9)).cK 2 (.int .i64 q1.pos)).cK 3 (.int .i64 q1.sort)).dE _ [61] jY).mono ?_;rintro e w2 ⟨x2,c5,rfl,b9⟩;obtain⟨i,m,o,r,s,u,x,Y⟩:=b9.o.s.sx.c7;obtain⟨R,S,V,L,M,N,P,Q⟩:=b9.o.s.sx.e8 7 8 9 10 11 12 13 14;simp at i m o r s u x R S V L M N P Q;go_wp2_with fail;clear i m o r s u x R S V L M N P Q Y;have h1:=congrArg (fun z=>(z.2.pl,z.2.ca)) c4.o;have h2:=congrArg (fun z=>(z.pl,z.ca)) c5.o;simp only[Bm,Aw,iV]at h1 h2;refine(b9.o.value {Cv C (-1)with p:=q1} rfl Z Z).mono ?_;clear h1 h2;rintro e w3 ⟨d,x3,v1,v2,v3,c6,rfl,c0,c8⟩;obtain⟨i,m,o,r,s,u,x,Y⟩:=c0.o.s.sx.c7;obtain⟨R,S,V,L,M,N,P,Q⟩:=c0.o.s.sx.e8 7 8 9 10 11 12 13 14;simp at i m o r s u x R S V L M N P Q;unfold Bo;go_wp2_with fail;clear i m o r s u x R S V L M N P Q Y;have hb:=NJ E x2 {Cv C (-1)with p:=q1};rw[c6.o]at hb;have c1:=J hb;clear hb;refine(((((((((((((((((c0.o.cK 0 (.int .i64 d.kind)).cK 1 (.string d.p.d9)).cK 2 (.int .i64 d.p.pos)).cK 3 (.int .i64 d.p.sort)).cK 4 (.string d.q.d9)).cK 5 (.int .i64 d.q.pos)).cK 6 (.int .i64 d.q.sort)).cK 7 (.int .i64 d.field)).cK 8 (.slice v1 v2 v3)).cK 9 (.int .i64 d.l7)).cK 10 AW).cK 11 AW).cK 12 (.int .i64 d.br)).cK 13 (.int .i64 d.dG)).cK 14 (.int .i64 d.cS)).one.cast (ZH _ jY _ _ _ _ _ _ _ _ _ _ _ _ _ _ _)).dE _ [59] jY).mono ?_;rintro e w8 ⟨x8,d3,rfl,c2⟩;have f2:D (y=(c.length,x8,(c++[Cv 0 0]).set c.length d)):=by show _=_;rw[<-HY.o];simp[AJ,Ba,HW.o,c4.o,c5.o,c6.o,d3.o]
 have HE:D (SE I H sb g n b3 B U U E fv (.slice sa c.length sc) (.slice va vl vc) x8 _ (Bo d (.slice v1 v2 v3) AW AW) _ w w8 c.length d (.slice v1 v2 v3) AW AW):=⟨c2.o,⟨fun _=>id,fun _=>.inl⟩,e7.o,(c2.o.r _ (.head _)).2,by rw[c1.o.1];exact gR _ _ _ _,by rw[c1.o.2];exact gR _ _ _ _,fun k a=>c8.o k (by simpa[Value.ownBlock]using a)⟩;clear c2 b5 b2 b9 c0 c4 c5 c6 d3 HY c1 c8;have c3:=J HE.o.g;have b6:=HE.o.g.s;obtain⟨f3,b1,f6,f8⟩:=b6.st;have d7:=HE.o.l;obtain⟨gg,f4⟩:=Ap b1 Z;subst f4;have gz:=II b1;have a:=fun j (h:j<15)=>Ma b1 c.length d7 j h
 obtain⟨g0,k0⟩:=a 0 T;obtain⟨g1,k1⟩:=a 1 T;obtain⟨g2,k2⟩:=a 2 T;obtain⟨g3,k3⟩:=a 3 T;obtain⟨g4,k4⟩:=a 4 T;obtain⟨g5,k5⟩:=a 5 T;obtain⟨g6,k6⟩:=a 6 T;obtain⟨g7,k7⟩:=a 7 T;obtain⟨g8,k8⟩:=a 8 T;obtain⟨g9,k9⟩:=a 9 T;obtain⟨h9,j2⟩:=a 10 T;obtain⟨i1,j3⟩:=a 11 T;obtain⟨i2,j4⟩:=a 12 T;obtain⟨i3,j5⟩:=a 13 T;obtain⟨i4,j6⟩:=a 14 T;simp only[gX]at k0;rw[<-Ag b1]at d7;have r3:=b6.rd.bY.cell 3;have p1:=b6.pr.bY.cell 1;simp at r3 p1;obtain⟨i,m,o,r,s,u,x,Y⟩:=c3.o.s.sx.c7;obtain⟨R,S,V,L,M,N,P,Q⟩:=c3.o.s.sx.e8 7 8 9 10 11 12 13 14;simp[Bo]at i m o r s u x R S V L M N P Q;obtain⟨m1,m2,m3⟩:=b6.dZ gg rfl;clear b6 b1 f6 f8 c3 Y a;go_wp2;go_region;go_wp2;go_ret;have hq:=HE.o.post f2.o;rw[Ke]at hq;exact hq
theorem Xc:∀f,Iv f:=by
 intro f;induction f using Nat.strongRecOn with
 |_ f z=>
  intro v u g n c B t U a e y x d w o q m p i r b j l;cases f with
  |zero=>have:=b.1;omega
  |succ f=>
   have s:∀k,k<=f->Iv k:=fun k A=>z k Z
   by_cases h:AF (tokAt a x.bZ)=XE\/AF (tokAt a x.bZ)=Hd
   .exact Xd f s v u g n c B t U a e y x d w o q m p i r b j l h
   by_cases k:AF (tokAt a x.bZ)=Vc\/AF (tokAt a x.bZ)=Ht\/AF (tokAt a x.bZ)=[42]
   .exact Xe f s v u g n c B t U a e y x d w o q m p i r b j l k
   .simp only[not_or]at h k;exact Xf f s v u g n c B t U a e y x d w o q m p i r b j l ⟨h.1,h.2,k.1,k.2.1,k.2.2⟩
def GB(d:List Tk)(f k:Nat)(x:St)(A:List FS):RF×St×List FS:=
 let a:=Aw d [102,110] x
 let y:=Bm d 1 a
 let b:=Aw d [40] y.2
 let z:=BQ d b
 let r:=Az d f k (Aw d [123] z.2) A []
 (⟨y.1,z.1,r.1,(tokAt d z.2.bZ).pos,[]⟩,Aw d [125] r.2.1,r.2.2)
def Ce(d:List Tk)(F:Nat):Nat->St->List FS->List RF->List RF×St×List FS
 |0,x,A,s=>(s,x,A)
 |m+1,x,A,s=>if x.cB=none/\(s=[]\/(tokAt d x.bZ).sort≠0)then Ce d F m (GB d F s.length x A).2.1 (GB d F s.length x A).2.2 (s++[(GB d F s.length x A).1])else(s,x,A)
abbrev aP:Array Value:=#[.string {data:=#[]},.int .i64 0,.int .i64 0,.slice none 0 0,.slice none 0 0,.int .i64 0,.slice none 0 0]
theorem Tryz.infoRF:(Tryz.prog.info? 53).map (fun i=>(i.zero,i.size,i.bytes))=some (some (.agg aP),7,112):=jW
theorem YB(f a b c j k m g h i):∀u∈(EH f (.slice a j g) (.slice b k h) (.slice c m i)).toList,u.oneCell'=true:=by intro u e;simp[EH]at e;rcases e with rfl|rfl|rfl|rfl|rfl|rfl|rfl<;>rfl
structure PF(l o g n C B:Nat)(U:Nat->Prop)(d:List Tk)(p G:Value)(x:St)(A:List FS)(s:List RF)(w:World):Prop where
 rd:AI l o g n C x.bZ x.cB w
 tk:AO g n C d w
 pr:BZ o p G x.pl x.ca w
 st:Bx B U w G A
 fn:Cp B w p s
 ul:∀k,U k->k<w.heap.size
section
variable{l o g n C B:Nat}{U:Nat->Prop}{d:List Tk}{p G:Value}{x:St}{A:List FS}{s:List RF}{w E:World}
theorem PF.dP(h:PF l o g n C B U d p G x A s w):g≠l/\o≠l/\g≠o:=⟨h.tk.ne h.rd T,h.pr.bY.ne h.rd.bY T,h.tk.ne h.pr T⟩
theorem PF.dI(h:PF l o g n C B U d p G x A s w):∀k,p.ownBlock=some k->k≠l/\k≠o:=by intro k a;obtain⟨c,b,_⟩:=h.fn;exact⟨Am b h.rd T k a,Am b h.pr T k a⟩
theorem PF.s9(h:PF l o g n C B U d p G x A s w)(a:O kD w E):PF l o g n C B U d p G x A s E:=
 ⟨h.rd.d8 a id,h.tk.d8 a id,h.pr.bY.d8 a id,h.st.s9 a,h.fn.s9 a,fun k b=>gY (h.ul k b) a.size⟩
theorem PF.call{c b}(h:PF l o g n C B U d p G x A s w)(e:O (fun k=>k=l) w E)(m:AI l o g n C c b E):PF l o g n C B U d p G ⟨c,b,x.pl,x.ca⟩ A s E:=by have i:=h.dP;refine⟨m,h.tk.d8 e i.1,h.pr.bY.d8 e i.2.1,h.st.rb h.rd e,h.fn.d8 e (fun k a=>(h.dI k a).1) ?_,fun k a=>gY (h.ul k a) e.size⟩;intro k q t r a j;have a:k=l:=a;subst a;have f:w.heap[k]? =_:=h.rd;rw[j]at f;simp only[gN,gU]at f;rw[f.2.1];decide
theorem PF.dE{L a}(h:PF l o g n C B U d p G x A s w)(e:Aw d L x=a)(b:O (fun k=>k=l) w E)(c:AI l o g n C (E8 d x.bZ x.cB L).1 (E8 d x.bZ x.cB L).2 E):PF l o g n C B U d p G a A s E:=by subst e;exact h.call b c
theorem PF.get{k q a}(h:PF l o g n C B U d p G x A s w)(f:Bm d k x=(q,a))(b:O (fun k=>k=l) w E)(c:AI l o g n C (De d x.bZ x.cB k).2.1 (De d x.bZ x.cB k).2.2 E):PF l o g n C B U d p G a A s E:=by have e:a=⟨(De d x.bZ x.cB k).2.1,(De d x.bZ x.cB k).2.2,x.pl,x.ca⟩:=(congrArg Prod.snd f).symm;subst e;exact h.call b c
theorem PF.list{q a}(h:PF l o g n C B U d p G x A s w)(f:BQ d x=(q,a))(b:O (fun k=>k=l) w E)(c:AI l o g n C (CM d x.bZ x.cB).2.1 (CM d x.bZ x.cB).2.2 E):PF l o g n C B U d p G a A s E:=by have e:a=⟨(CM d x.bZ x.cB).2.1,(CM d x.bZ x.cB).2.2,x.pl,x.ca⟩:=(congrArg Prod.snd f).symm;subst e;exact h.call b c
theorem PF.eE{f i u v}(h:PF l o g n C B U d p G x A s w)(j:W f u 53 w)(y:∀k,p.ownBlock=some k->k≠f):PF l o g n C B U d p G x A s (w.setCell ⟨f,i,none⟩ v):=by
 have e:=(O.refl (fun k=>k=f) w).t9 i v;have r:∀(k:Nat) (b:Array Value) (t:TypeId) (c:Nat×Nat),k=f->w.heap[k]? =some (.cells b t c)->t=53:=by intro k b t c a m;subst a;have q:w.heap[k]? =_:=j;rw[m]at q;simp only[gN,gU]at q;exact q.2.1
 refine⟨h.rd.d8 e (h.rd.bY.ne j T),h.tk.d8 e (h.tk.ne j T),h.pr.bY.d8 e (h.pr.bY.ne j T),h.st.d8 e (fun k a=>?_) (fun k b t c a m=>by rw[r k b t c a m];decide),h.fn.d8 e (fun k a=>y k a) (fun k b t c a m=>by rw[r k b t c a m];decide),fun k a=>gY (h.ul k a) e.size⟩;obtain⟨F,z,_⟩:=h.st;exact Am z j T k a
theorem PF.block{c}{i:Nat->Prop}{x' j}(h:PF l o g n C B U d p G x A s w)(v:AI l o g n C x'.bZ x'.cB E)(H:AO g n C d E)(u:BZ o p c x'.pl x'.ca E)(z:Bx B i E c j)(r:Fo l o G c w E):PF l o g n C B (fun k=>i k/\k<E.heap.size) d p c x' j s E:=by
 have F:=h.st;obtain⟨M,m,_⟩:=F;refine⟨v,H,u,z.below,h.fn.d8 r.d8 (fun k a q=>?_) (fun k Q t R a e=>?_),fun k a=>a.2⟩
 .rcases q with q|q|q
  .exact(h.dI k a).1 q
  .exact(h.dI k a).2 q
  .obtain⟨N,y,_⟩:=h.fn;exact Gq y m T k a q
 .rcases a with a|a|a
  .subst a;have b:w.heap[k]? =_:=h.rd;rw[e]at b;simp only[gN,gU]at b;rw[b.2.1];decide
  .subst a;have b:w.heap[k]? =_:=h.pr;rw[e]at b;simp only[gN,gU]at b;rw[b.2.1];decide
  .rcases m.2 with⟨K,_⟩|⟨S,L,P,I,_,f,_⟩
   .rw[K]at a;simp[Value.ownBlock]at a
   .rw[I]at a;simp[Value.ownBlock]at a;subst a;rw[e]at f;simp only[gN,gU]at f;rw[f.2.1];decide
end
theorem Cp.push{B w Wz g p z c f r m}(h:Cp B w p c)(Q:O kD w Wz)(ht:CE B w r f.cG)(S:Ax B w m f.cJ)(x:f.t8=[])
 (L:g.ownsRow B 53 7 z (c.length+1) ((h.choose).flatten++(EH f r m AW).toList))(V:Wz.grownBy g p.ownBlock):Cp B g z (c++[f])/\O (fun k=>p.ownBlock=some k) w g:=by
 have M:=h.choose_spec;generalize h.choose=b at L M;obtain⟨a1,K,a0,R⟩:=M;have v:O (fun k=>p.ownBlock=some k) w g:=O.grown (Q.mono (fun _ _ q=>q.elim)) V (fun k a=>.inl a);have N:∀(k:Nat) (y:Array Value) (t:TypeId) (F:Nat×Nat),p.ownBlock=some k->w.heap[k]? =some (.cells y t F)->t≠3/\t≠49/\t≠9:=by
  intro k y t F a U;rcases a1.2 with⟨q',_⟩|⟨g',a2,a3,x,_,u,_⟩
  .rw[q']at a;simp[Value.ownBlock]at a
  .rw[x]at a;simp[Value.ownBlock]at a;subst a;rw[U]at u;simp only[gN,gU]at u;rw[u.2.1];decide
 refine⟨⟨b++[(EH f r m AW).toList],?_,by simp[K],?_,?_⟩,v⟩
 .rw[List.flatten_append,gM];simpa using L
 .intro i h1 P;by_cases n:i<c.length
  .rw[iG Z,iG n];exact(a0 i Z n).d8 v N
  .have e:i=c.length:=by simp at P;omega
   subst e;rw[iE Z,iE Z];simp only[Nat.sub_self,K,iD];refine OR.d8 ⟨r,m,AW,rfl,ht,S,?_⟩ v N;rw[x];exact gR _ _ _ _
 .intro i j n X Y k a q;simp only[gM,iC]at n X;by_cases H:i<b.length
  .rw[iG H]at a;by_cases I:j<b.length
   .rw[iG I]at q;exact R i j H I Y k a q
   .rw[iE Z]at q;simp[QN,EH,Value.ownBlock,show j-b.length=0 by omega]at q
  .rw[iE Z]at a;simp[QN,EH,Value.ownBlock,show i-b.length=0 by omega]at a

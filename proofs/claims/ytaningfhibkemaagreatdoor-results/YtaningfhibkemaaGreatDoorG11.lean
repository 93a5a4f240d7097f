/- Part of the proof: ChF RdK3 RdL0 RdL1 RdL2. -/
import Derived.Test.YtaningfhibkemaaGreatDoorG09
set_option maxRecDepth 100000
set_option maxHeartbeats 40000000
namespace Go.Proofs.YtaningfhibkemaaGreatDoor
open Go.RowKit Go.Proofs.Tryz
open Option renaming none->Z,some->T
open Value renaming int->G,slice->Y
open IntKind renaming i64->A
theorem VU(d:Nat)(a:List TS)(k:Nat)(h:k<a.length):((a.drop k).map (Cz d)).sum=Cz d a[k]+((a.drop (k+1)).map (Cz d)).sum:=by rw[iD h,iU,jC]
theorem Nv(d)(ih:∀I,d=I+1->Q9 I):Q9 d:=by
 intro pb N B pl ca f3 g U fv sv lv m L l ts vs c w K h4 i4 c3 hn c5 g6 hl k7 m3;obtain⟨la,ll,lc,rfl⟩:=Ad h4;have l2:=Ag h4;subst l2;obtain⟨fa,fl,fc,rfl⟩:∃a l c,fv=Y a l c:=by obtain⟨_,h,_⟩:=K.fn;exact Ad h
 obtain⟨sa,sl,sc,rfl⟩:∃a l c,sv=Y a l c:=by obtain⟨_,h,_⟩:=K.st;exact Ad h
 have l4:sl=L.length:=by obtain⟨_,h,_⟩:=K.st;exact Ag h
 subst l4;have i7:=i4.length;generalize hV:Gs m d g ts (vs,c)=V;have HV:D (Gs m d g (ts.drop 0) (vs,c)=V):=hV;obtain⟨HK,HL,l0,c2⟩:=Ba K h4 i4 k7;have j0:D (vs.length+((ts.drop 0).map (Cz d)).sum<=4001):=g6;have IH:=J ih;have f9:∀d5,f3<(wv m f3 d5).length:=fun d5=>by rw[D9];exact c3
 have h5:∀d5,(wv m f3 d5).length<=4001:=fun d5=>by rw[D9];exact hn
 clear hV K h4 i4 g6 k7 ih;go_enter func22,ntmps22;go_wp2;go_loopw[8] (fun i wr=>∃(k:Nat) (d5:List ByteArray) (c':CS),k<=l.length/\i=G A k/\D (RK pb N B pl ca U (Y fa fl fc) (Y sa L.length sc) (wv m f3 d5) L c' wr)/\D (Ay B wr (Y la l.length lc) l)/\D (DW N B (Y fa fl fc) w wr)/\D (d5.length+((ts.drop k).map (Cz d)).sum<=4001)/\D (Gs m d g (ts.drop k) (d5,c')=V)) (fun i _=>l.length-(intOf i).toNat)
 case atStart=>exact⟨0,vs,c,by omega,rfl,HK,HL,DW.refl _ _ _ _,j0,HV⟩
 case round=>
  clear HK HL j0 HV;obtain⟨k,o,H,hk,rfl,HK,HL,HF,HN,HC⟩:=hrel;by_cases k6:k<l.length
  .have i6:k<ts.length:=by omega
   have i8:=Xa m d g ts k i6 (o,H);rw[HC.o]at i8;have g6:=VU d ts k i6;have i2:=HN.o;rw[g6]at i2;have hF:=l0.o.get k k6 i6;generalize ts[k]=t at*;obtain⟨gl,rfl⟩:=Ap HL.o (by omega);have i1:=HL.o.cellAt k (by omega);rw[iV,gV k6]at i1;simp only[Option.map_some]at i1;have l7:=(HL.o.lt gl rfl).2;generalize l[k]=j at*;obtain⟨I,j9⟩:∃I,d=I+1:=by
    cases d with
    |zero=>exact hF.elim
    |succ I=>exact⟨I,rfl⟩
   have k9:=IH.o I j9;subst j9;obtain⟨s,bl⟩:=t;obtain⟨u,hu,hF⟩:=hF;have hj:j<L.length:=by
    rcases jG j L.length with q|q
    .exact q
    .rw[iS q]at hu;cases hu
   have i5:L[j]=u:=by rw[gV hj]at hu;simpa using hu
   have f7:=c2.o u (by rw[<-i5];exact iA _);obtain⟨gs,rfl⟩:∃gs,sa=T ⟨gs,0,Z⟩:=by obtain⟨_,h,_⟩:=HK.o.st;exact Ap h (by omega)
   have l8:gs<wr.heap.size:=by obtain⟨_,h,_⟩:=HK.o.st;exact(h.lt gs rfl).2
   obtain⟨av,bv,ov,hc,g4,g5,g8⟩:=HK.o.st.get hj;rw[i5]at hc g4 g5 g8;obtain⟨aa,al,ac,rfl⟩:=Ad g4;have c9:=Ag g4;subst c9;obtain⟨ba,m1,bc,rfl⟩:=Ad g5;have d4:=Ag g5;subst d4;obtain⟨oa,ol,oc,rfl⟩:=Ad g8;have l3:=Ag g8;subst l3;have e0:=hc 0 (by omega);have e1:=hc 1 (by omega);have e2:=hc 2 (by omega);have e3:=hc 3 (by omega);have e4:=hc 4 (by omega);have e5:=hc 5 (by omega);have e6:=hc 6 (by omega);have e7:=hc 7 (by omega);have e8:=hc 8 (by omega);have e9:=hc 9 (by omega);have j3:=hc 10 (by omega);have j4:=hc 11 (by omega);have j5:=hc 12 (by omega);have j6:=hc 13 (by omega);have j7:=hc 14 (by omega);simp only[Br,gR,gP,gQ,iH]at e0 e1 e2 e3 e4 e5 e6 e7 e8 e9 j3 j4 j5 j6 j7;have p1:=HK.o.pr.cI.cell 1;simp at p1;have lp:=Ae HK.o.pr;have lw:=Ae HK.o.wr;have a6:wr.heap.size≠N:=by omega
   have a5:Value.ownBlock (Y fa fl fc)≠T wr.heap.size:=fun q=>by obtain⟨_,h,_⟩:=HK.o.fn;have:=(h.lt _ q).2;omega
   have l1:(k:Int)<(l.length:Int):=by omega
   have m4:(j:Int)<(L.length:Int):=by omega
   have S0:D (Y7 pb N B pl ca U (Y fa fl fc) (Y (T ⟨gs,0,Z⟩) L.length sc) (wv m f3 o) L wr.heap.size (Br u (Y aa u.args.length ac) (Y ba u.cT.length bc) (Y oa u.other.length oc)) (Y (T ⟨gl,0,Z⟩) l.length lc) l (Y aa u.args.length ac) u.args (Y ba u.cT.length bc) u.cT (Y oa u.other.length oc) u.other H w (wr.alloc (.cells (Br u (Y aa u.args.length ac) (Y ba u.cT.length bc) (Y oa u.other.length oc)) 92))):=by have ho:=(O.refl kJ wr).alloc (.cells (Br u (Y aa u.args.length ac) (Y ba u.cT.length bc) (Y oa u.other.length oc)) 92);exact⟨HK.o.s9 ho,W.new _ _ _,Ac HL.o ho (fun _ _ q=>q),Ac g4 ho (fun _ _ q=>q),Ac g5 ho (fun _ _ q=>q),Ac g8 ho (fun _ _ q=>q),HF.o.trans (DW.cW ho)⟩
   obtain⟨j2,h9,g1,c4⟩:=Ba i8.symm i2 hF k9;clear hc g4 g5 g8 i8 g6 i2 hF HK HL HF HN HC hu i5 k9;have m0:=J i7;clear i7;go_wp2_with fail;go_region;have z:D (Y7 pb N B pl ca U (Y fa fl fc) (Y (T ⟨gs,0,Z⟩) L.length sc) (wv m f3 o) L wr.heap.size #[G A u.kind,.string u.p.d9,G A u.p.pos,G A u.p.sort,.string u.q.d9,G A u.q.pos,G A u.q.sort,G A u.field,Y aa u.args.length ac,G A u.l7,Y ba u.cT.length bc,Y oa u.other.length oc,G A u.br,G A u.dR,G A u.dD] (Y (T ⟨gl,0,Z⟩) l.length lc) l (Y aa u.args.length ac) u.args (Y ba u.cT.length bc) u.cT (Y oa u.other.length oc) u.other H w ((wr.alloc (.cells #[G A u.kind,.string u.p.d9,G A u.p.pos,G A u.p.sort,.string u.q.d9,G A u.q.pos,G A u.q.sort,G A u.field,Y aa u.args.length ac,G A u.l7,Y ba u.cT.length bc,Y oa u.other.length oc,G A u.br,G A u.dR,G A u.dD] 92)).drew)):=S0.o.s9 ((O.refl _ _).drew);generalize (wr.alloc (.cells #[G A u.kind,.string u.p.d9,G A u.p.pos,G A u.p.sort,.string u.q.d9,G A u.q.pos,G A u.q.sort,G A u.field,Y aa u.args.length ac,G A u.l7,Y ba u.cT.length bc,Y oa u.other.length oc,G A u.br,G A u.dR,G A u.dD] 92)).drew=W0 at z⊢;generalize m2:wr.heap.size=sb at*;obtain⟨S,X,b2,b3,b4,b5,b6,b7,b8,b9,a0,a1,M,Q,a2,a4⟩:=z.o.cI.c15;clear e0 e1 e2 e3 e4 e5 e6 e7 e8 e9 j3 j4 j5 j6 j7 S0 i1 p1 l7 l8 lp lw;obtain⟨a,b,a3⟩:∃a b,FM m (I+1) g (.mk s bl) (o,H)=(a,b):=⟨_,_,rfl⟩;have i9:=Mw m (I+1) g (.mk s bl) (o,H);have d2:D (a.length+((ts.drop (k+1)).map (Cz (I+1))).sum<=4001):=by have h1:=h9.o;rw[a3]at i9;simp only at i9;show _<=_;omega
   have d3:D (Gs m (I+1) g (ts.drop (k+1)) (a,b)=V):=by rw[<-a3];exact j2.o
   have h3:D (o.length+Cz (I+1) (.mk s bl)<=4001):=by have:=h9.o;show _<=_;omega
   have d1:=J a3;have l6:=z.o.k;have k8:((wv m f3 o)[f3]'(f9 o)).t8=o:=TH (f9 o);have f4:=J k8;have h7:o.length<=4001:=by have:=h3.o;omega
   clear a3 i9 j2 h9 l6 k8;rcases g1.o with⟨d4,g9⟩|⟨p,a7,d4,hs,hk,f5,d9,f0,g7,c9⟩|⟨p,a7,d4,hs,hk,f5,d9,f0,g7,c9⟩|⟨p,a7,p2,h8,d4,hs,hk,f5,d9,f0,c9,j8⟩
   .subst d4;have f5:=g9.dD;subst f5;have f6:=g9.kind;have i3:=g9.dC;have h2:=J g9;have l9:=J f6;clear g1 g9;by_cases h0:s.kind=0
    .have d0:u.kind=1:=by rw[f6,h0];rfl
     have k1:((u.kind:Int)==1)=true:=by simp[d0]
     have a3:a=o++[u.p.d9]/\b=Dt o u.p H:=by have:=d1.o;rw[FM,jQ (by omega),Dp,jR h0]at this;simp only[jF]at this;rw[h2.o.p];exact⟨this.1.symm,this.2.symm⟩
     obtain⟨rfl,rfl⟩:=a3;clear f6 d0 i3 h0;go_wp2_with(go_at_call 21;refine(JH pb N B pl ca u.dD U _ _ (wv m u.dD o) L H u.p _ z.o.k (f9 _) (h5 _) (by rw[f4.o];exact h7)).mono ?_;rw[TE,f4.o];rintro e w2 ⟨rfl,f,n⟩);have E:=J (z.o.call f n a6 a5);clear f n z;go_wp2_with fail;exact⟨⟨k+1,_,_,by omega,by go_num,E.o.k,E.o.eB,E.o.fr,d2.o,d3.o⟩,by simp[intOf];omega⟩
    by_cases g2:s.kind=10
    .have d0:u.kind=11:=by rw[f6,g2];rfl
     have k1:((u.kind:Int)==1)=false:=by simp[d0]
     have k2:((u.kind:Int)==12)=false:=by simp[d0]
     have k3:((u.kind:Int)==13)=false:=by simp[d0]
     have k4:((u.kind:Int)==11)=true:=by simp[d0]
     have a3:a=o/\b=DS o u.q H:=by have:=d1.o;rw[FM,jQ (by omega),Dp,jQ h0,jR g2]at this;simp only[jF]at this;rw[h2.o.q];exact⟨this.1.symm,this.2.symm⟩
     obtain⟨rfl,rfl⟩:=a3;clear f6 d0 i3 h0 g2;go_wp2_with(go_at_call 56;refine(Df pb N B pl ca u.dD U _ _ (wv m u.dD a) L H u.q _ z.o.k (f9 _) (h5 _) (by rw[f4.o];exact h7)).mono ?_;rw[f4.o];rintro e w2 ⟨rfl,f,n⟩);have E:=J (z.o.call f n a6 a5);clear f n z;go_wp2_with fail;exact⟨⟨k+1,_,_,by omega,by go_num,E.o.k,E.o.eB,E.o.fr,d2.o,d3.o⟩,by simp[intOf];omega⟩
    .have d0:2<=u.kind/\u.kind<=10:=by rw[f6];unfold DB;repeat' split
                                       all_goals omega
     have k1:((u.kind:Int)==1)=false:=by simp;omega
     have k2:((u.kind:Int)==12)=false:=by simp;omega
     have k3:((u.kind:Int)==13)=false:=by simp;omega
     have k4:((u.kind:Int)==11)=false:=by simp;omega
     have a3:a=o/\b=Mz (wv m u.dD o) o u (DS o u.p H):=by have:=d1.o;rw[FM,jQ (by omega),Dp,jQ h0,jQ g2]at this;simp only[jF]at this;rw[Z3,Xi h2.o,h2.o.p];exact⟨this.1.symm,this.2.symm⟩
     obtain⟨rfl,rfl⟩:=a3
     clear f6 d0 i3 h0 g2
     go_wp2_with fail
     refine(Df pb N B pl ca u.dD U _ _ (wv m u.dD a) L H u.p _ z.o.k (f9 _) (h5 _) (by rw[f4.o];exact h7)).mono ?_
     rw[f4.o]
     rintro e w2 ⟨rfl,f,n⟩
     have P:=J (z.o.call f n a6 a5)
     clear f n z S X b2 b3 b4 b5 b6 b7 b8 b9 a0 a1 M Q a2 a4
     obtain⟨S,X,b2,b3,b4,b5,b6,b7,b8,b9,a0,a1,M,Q,a2,a4⟩:=P.o.cI.c15
     go_wp2_with fail
     refine(Sg pb N B pl ca U (Y fa fl fc) (Y (T ⟨gs,0,Z⟩) L.length sc) (wv m u.dD a) L (DS a u.p H) u (Y aa u.args.length ac) (Y ba u.cT.length bc) (Y oa u.other.length oc) a _ P.o.k P.o.fP ⟨_,_,_,rfl⟩ ⟨_,_,_,rfl⟩ (f9 _) (h5 _) f4.o h7 f7.1).mono ?_
     rintro e w3 ⟨rfl,k5,k0⟩
     have E:=J (P.o.call k5 k0 a6 a5)
     clear k5 k0 P
     go_wp2_with fail
     exact⟨⟨k+1,_,_,by omega,by go_num,E.o.k,E.o.eB,E.o.fr,d2.o,d3.o⟩,by simp[intOf];omega⟩
   .subst f5;subst d4;subst hs;have k1:((u.kind:Int)==1)=false:=by simp[hk]
    have k2:((u.kind:Int)==12)=false:=by simp[hk]
    have k3:((u.kind:Int)==13)=true:=by simp[hk]
    have d6:=J (c9.mono (fun _ _ r=>r.2));have d7:D (CQ (Dw u.dD I L) u.other []):=by rw[g7];exact .nil
    have c0:D (((g:Int)+1)=((g+1:Nat):Int)):=by show _=_;omega
    have g0:=h3.o;simp only[Cz,iU,List.map_nil,jC,List.sum_nil]at g0;obtain⟨d8,f8,j1⟩:=Ax d9 f0 hk;clear g1 c9 g7 hk d9 f0;have f1:=f7.2.1;have f2:=f7.2.2;have R:=jG 6 (g+1);rcases R with R|R
    .have g3:decide ((6:Int)<(g:Int)+1)=true:=by simp;omega
     obtain⟨x1,y1,F⟩:∃x y,Gs m I (g+1) a7 (o,(Bi 4 p H))=(x,y):=⟨_,_,rfl⟩;have a8:=Fs m I (g+1) a7 (o,(Bi 4 p H));rw[F]at a8;simp only at a8;obtain⟨x2,y2,v⟩:∃x y,Gs m I (g+1) [] (x1,y1)=(x,y):=⟨_,_,rfl⟩;have a3:x2=a/\y2=b:=by have:=d1.o;rw[FM,jR (by simp[EK])]at this;simp only[jB,jM,R,if_true]at this;unfold Gs at F v;rw[F]at this;simp only[jM,jF]at this v;exact⟨v.1.symm.trans this.1,v.2.symm.trans this.2⟩
     obtain⟨rfl,rfl⟩:=a3;have c6:=J F;have c7:=J v;clear F v R;rw[d8.o]at M;have i0:decide ((0:Int)<=u.dR)=false:=by rw[f8.o];simp
     go_wp2_with fail;refine(Cr N 4 p H _ z.o.k.wr).mono ?_;rintro e w2 ⟨rfl,c8,a9⟩;have P:=J (z.o.call (z.o.k.add c8 a9) (DW.dG a9) a6 a5);clear c8 a9 z S X b2 b3 b4 b5 b6 b7 b8 b9 a0 a1 M Q a2 a4;obtain⟨S,X,b2,b3,b4,b5,b6,b7,b8,b9,a0,a1,M,Q,a2,a4⟩:=P.o.cI.c15;go_wp2_with fail;rw[c0.o];refine(c4.o pb N B pl ca u.dD (g+1) U _ _ _ m L u.cT a7 o (Bi 4 p H) _ P.o.k P.o.eE d6.o c3 hn c5 (by omega) f1 c2.o (by omega)).mono ?_;rintro e w4 ⟨rfl,f,n⟩;rw[c6.o]at f;have C:=J (P.o.call f n a6 a5);clear f n P S X b2 b3 b4 b5 b6 b7 b8 b9 a0 a1 M Q a2 a4;obtain⟨S,X,b2,b3,b4,b5,b6,b7,b8,b9,a0,a1,M,Q,a2,a4⟩:=C.o.cI.c15;go_wp2_with fail;rw[c0.o];refine(c4.o pb N B pl ca u.dD (g+1) U _ _ _ m L u.other [] x1 y1 _ C.o.k C.o.eM d7.o c3 hn c5 (by simp only[List.map_nil,List.sum_nil];omega) f2 c2.o (by omega)).mono ?_;rintro e w6 ⟨rfl,f,n⟩;rw[c7.o]at f;have E:=J (C.o.call f n a6 a5);clear f n C;go_wp2_with fail;exact⟨⟨k+1,_,_,by omega,by go_num,E.o.k,E.o.eB,E.o.fr,d2.o,d3.o⟩,by simp[intOf];omega⟩
    .have g3:decide ((6:Int)<(g:Int)+1)=false:=by simp;omega
     obtain⟨x1,y1,F⟩:∃x y,Gs m I (g+1) a7 (o,H)=(x,y):=⟨_,_,rfl⟩;have a8:=Fs m I (g+1) a7 (o,H);rw[F]at a8;simp only at a8;obtain⟨x2,y2,v⟩:∃x y,Gs m I (g+1) [] (x1,y1)=(x,y):=⟨_,_,rfl⟩;have a3:x2=a/\y2=b:=by have:=d1.o;rw[FM,jR (by simp[EK])]at this;simp only[jB,jM,Nat.not_lt.2 R,if_false]at this;unfold Gs at F v;rw[F]at this;simp only[jM,jF]at this v;exact⟨v.1.symm.trans this.1,v.2.symm.trans this.2⟩
     obtain⟨rfl,rfl⟩:=a3;have c6:=J F;have c7:=J v;clear F v R;rw[d8.o]at M;go_wp2_with fail;rw[c0.o];refine(c4.o pb N B pl ca u.dD (g+1) U _ _ _ m L u.cT a7 o H _ z.o.k z.o.eE d6.o c3 hn c5 (by omega) f1 c2.o (by omega)).mono ?_;rintro e w4 ⟨rfl,f,n⟩;rw[c6.o]at f;have C:=J (z.o.call f n a6 a5);clear f n z S X b2 b3 b4 b5 b6 b7 b8 b9 a0 a1 M Q a2 a4;obtain⟨S,X,b2,b3,b4,b5,b6,b7,b8,b9,a0,a1,M,Q,a2,a4⟩:=C.o.cI.c15;go_wp2_with fail;rw[c0.o];refine(c4.o pb N B pl ca u.dD (g+1) U _ _ _ m L u.other [] x1 y1 _ C.o.k C.o.eM d7.o c3 hn c5 (by simp only[List.map_nil,List.sum_nil];omega) f2 c2.o (by omega)).mono ?_;rintro e w6 ⟨rfl,f,n⟩;rw[c7.o]at f;have E:=J (C.o.call f n a6 a5);clear f n C;go_wp2_with fail;exact⟨⟨k+1,_,_,by omega,by go_num,E.o.k,E.o.eB,E.o.fr,d2.o,d3.o⟩,by simp[intOf];omega⟩
   .subst f5;subst d4;subst hs;have k1:((u.kind:Int)==1)=false:=by simp[hk]
    have k2:((u.kind:Int)==12)=true:=by simp[hk]
    have d6:=J (c9.mono (fun _ _ r=>r.2));have d7:D (CQ (Dw u.dD I L) u.other []):=by rw[g7];exact .nil
    have c0:D (((g:Int)+1)=((g+1:Nat):Int)):=by show _=_;omega
    have g0:=h3.o;simp only[Cz,iU,List.map_nil,jC,List.sum_nil]at g0;obtain⟨d8,f8,j1⟩:=Ax d9 f0 hk;clear g1 c9 g7 hk d9 f0;have f1:=f7.2.1;have f2:=f7.2.2;have R:=jG 6 (g+1);rcases R with R|R
    .have g3:decide ((6:Int)<(g:Int)+1)=true:=by simp;omega
     obtain⟨x1,y1,F⟩:∃x y,Gs m I (g+1) a7 (o,(Bi 4 p H))=(x,y):=⟨_,_,rfl⟩;have a8:=Fs m I (g+1) a7 (o,(Bi 4 p H));rw[F]at a8;simp only at a8;obtain⟨x2,y2,v⟩:∃x y,Gs m I (g+1) [] (x1,y1)=(x,y):=⟨_,_,rfl⟩;have a3:x2=a/\y2=b:=by have:=d1.o;rw[FM,jR (by simp[EK])]at this;simp only[jB,jM,R,if_true]at this;unfold Gs at F v;rw[F]at this;simp only[jM,jF]at this v;exact⟨v.1.symm.trans this.1,v.2.symm.trans this.2⟩
     obtain⟨rfl,rfl⟩:=a3;have c6:=J F;have c7:=J v;clear F v R;rw[d8.o]at M;have i0:decide ((0:Int)<=u.dR)=false:=by rw[f8.o];simp
     go_wp2_with fail;refine(Cr N 4 p H _ z.o.k.wr).mono ?_;rintro e w2 ⟨rfl,c8,a9⟩;have P:=J (z.o.call (z.o.k.add c8 a9) (DW.dG a9) a6 a5);clear c8 a9 z S X b2 b3 b4 b5 b6 b7 b8 b9 a0 a1 M Q a2 a4;obtain⟨S,X,b2,b3,b4,b5,b6,b7,b8,b9,a0,a1,M,Q,a2,a4⟩:=P.o.cI.c15;go_wp2_with fail;rw[c0.o];refine(c4.o pb N B pl ca u.dD (g+1) U _ _ _ m L u.cT a7 o (Bi 4 p H) _ P.o.k P.o.eE d6.o c3 hn c5 (by omega) f1 c2.o (by omega)).mono ?_;rintro e w4 ⟨rfl,f,n⟩;rw[c6.o]at f;have C:=J (P.o.call f n a6 a5);clear f n P S X b2 b3 b4 b5 b6 b7 b8 b9 a0 a1 M Q a2 a4;obtain⟨S,X,b2,b3,b4,b5,b6,b7,b8,b9,a0,a1,M,Q,a2,a4⟩:=C.o.cI.c15;go_wp2_with fail;rw[c0.o];refine(c4.o pb N B pl ca u.dD (g+1) U _ _ _ m L u.other [] x1 y1 _ C.o.k C.o.eM d7.o c3 hn c5 (by simp only[List.map_nil,List.sum_nil];omega) f2 c2.o (by omega)).mono ?_;rintro e w6 ⟨rfl,f,n⟩;rw[c7.o]at f;have E:=J (C.o.call f n a6 a5);clear f n C;go_wp2_with fail;exact⟨⟨k+1,_,_,by omega,by go_num,E.o.k,E.o.eB,E.o.fr,d2.o,d3.o⟩,by simp[intOf];omega⟩
    .have g3:decide ((6:Int)<(g:Int)+1)=false:=by simp;omega
     obtain⟨x1,y1,F⟩:∃x y,Gs m I (g+1) a7 (o,H)=(x,y):=⟨_,_,rfl⟩;have a8:=Fs m I (g+1) a7 (o,H);rw[F]at a8;simp only at a8;obtain⟨x2,y2,v⟩:∃x y,Gs m I (g+1) [] (x1,y1)=(x,y):=⟨_,_,rfl⟩;have a3:x2=a/\y2=b:=by have:=d1.o;rw[FM,jR (by simp[EK])]at this;simp only[jB,jM,Nat.not_lt.2 R,if_false]at this;unfold Gs at F v;rw[F]at this;simp only[jM,jF]at this v;exact⟨v.1.symm.trans this.1,v.2.symm.trans this.2⟩
     obtain⟨rfl,rfl⟩:=a3;have c6:=J F;have c7:=J v;clear F v R;rw[d8.o]at M;go_wp2_with fail;rw[c0.o];refine(c4.o pb N B pl ca u.dD (g+1) U _ _ _ m L u.cT a7 o H _ z.o.k z.o.eE d6.o c3 hn c5 (by omega) f1 c2.o (by omega)).mono ?_;rintro e w4 ⟨rfl,f,n⟩;rw[c6.o]at f;have C:=J (z.o.call f n a6 a5);clear f n z S X b2 b3 b4 b5 b6 b7 b8 b9 a0 a1 M Q a2 a4;obtain⟨S,X,b2,b3,b4,b5,b6,b7,b8,b9,a0,a1,M,Q,a2,a4⟩:=C.o.cI.c15;go_wp2_with fail;rw[c0.o];refine(c4.o pb N B pl ca u.dD (g+1) U _ _ _ m L u.other [] x1 y1 _ C.o.k C.o.eM d7.o c3 hn c5 (by simp only[List.map_nil,List.sum_nil];omega) f2 c2.o (by omega)).mono ?_;rintro e w6 ⟨rfl,f,n⟩;rw[c7.o]at f;have E:=J (C.o.call f n a6 a5);clear f n C;go_wp2_with fail;exact⟨⟨k+1,_,_,by omega,by go_num,E.o.k,E.o.eB,E.o.fr,d2.o,d3.o⟩,by simp[intOf];omega⟩
   .subst f5;subst d4;subst hs;have k1:((u.kind:Int)==1)=false:=by simp[hk]
    have k2:((u.kind:Int)==12)=true:=by simp[hk]
    have d6:=J (c9.mono (fun _ _ r=>r.2));have d7:=J (j8.mono (fun _ _ r=>r.2));have c0:D (((g:Int)+1)=((g+1:Nat):Int)):=by show _=_;omega
    have g0:=h3.o;simp only[Cz,iU,List.map_nil,jC,List.sum_nil]at g0;obtain⟨d8,f8,j1⟩:=Ax d9 f0 hk;clear g1 c9 j8 hk d9 f0;have f1:=f7.2.1;have f2:=f7.2.2;have R:=jG 6 (g+1);rcases R with R|R
    .have g3:decide ((6:Int)<(g:Int)+1)=true:=by simp;omega
     obtain⟨x1,y1,F⟩:∃x y,Gs m I (g+1) a7 (o,(Bi 4 p H))=(x,y):=⟨_,_,rfl⟩;have a8:=Fs m I (g+1) a7 (o,(Bi 4 p H));rw[F]at a8;simp only at a8;obtain⟨x2,y2,v⟩:∃x y,Gs m I (g+1) h8 (x1,(Bi 4 p2 y1))=(x,y):=⟨_,_,rfl⟩;have a3:x2=a/\y2=b:=by have:=d1.o;rw[FM,jR (by simp[EK])]at this;simp only[jB,jM,R,if_true]at this;unfold Gs at F v;rw[F]at this;dsimp only at this;rw[v]at this;simpa using this
     obtain⟨rfl,rfl⟩:=a3;have c6:=J F;have c7:=J v;clear F v R;rw[d8.o]at M;have i0:decide ((0:Int)<=u.dR)=true:=by rw[f8.o];simp
     go_wp2_with fail;refine(Cr N 4 p H _ z.o.k.wr).mono ?_;rintro e w2 ⟨rfl,c8,a9⟩;have P:=J (z.o.call (z.o.k.add c8 a9) (DW.dG a9) a6 a5);clear c8 a9 z S X b2 b3 b4 b5 b6 b7 b8 b9 a0 a1 M Q a2 a4;obtain⟨S,X,b2,b3,b4,b5,b6,b7,b8,b9,a0,a1,M,Q,a2,a4⟩:=P.o.cI.c15;go_wp2_with fail;rw[c0.o];refine(c4.o pb N B pl ca u.dD (g+1) U _ _ _ m L u.cT a7 o (Bi 4 p H) _ P.o.k P.o.eE d6.o c3 hn c5 (by omega) f1 c2.o (by omega)).mono ?_;rintro e w4 ⟨rfl,f,n⟩;rw[c6.o]at f;have C:=J (P.o.call f n a6 a5);clear f n P S X b2 b3 b4 b5 b6 b7 b8 b9 a0 a1 M Q a2 a4;obtain⟨S,X,b2,b3,b4,b5,b6,b7,b8,b9,a0,a1,M,Q,a2,a4⟩:=C.o.cI.c15;rw[f8.o]at Q i0;go_wp2_with fail;refine(Cr N 4 p2 y1 _ C.o.k.wr).mono ?_;rintro e w5 ⟨rfl,c8,a9⟩;have S5:=J (C.o.call (C.o.k.add c8 a9) (DW.dG a9) a6 a5);clear c8 a9 C S X b2 b3 b4 b5 b6 b7 b8 b9 a0 a1 M Q a2 a4;obtain⟨S,X,b2,b3,b4,b5,b6,b7,b8,b9,a0,a1,M,Q,a2,a4⟩:=S5.o.cI.c15;go_wp2_with fail;rw[c0.o];refine(c4.o pb N B pl ca u.dD (g+1) U _ _ _ m L u.other h8 x1 (Bi 4 p2 y1) _ S5.o.k S5.o.eM d7.o c3 hn c5 (by omega) f2 c2.o (by omega)).mono ?_;rintro e w6 ⟨rfl,f,n⟩;rw[c7.o]at f;have E:=J (S5.o.call f n a6 a5);clear f n S5;go_wp2_with fail;exact⟨⟨k+1,_,_,by omega,by go_num,E.o.k,E.o.eB,E.o.fr,d2.o,d3.o⟩,by simp[intOf];omega⟩
    .have g3:decide ((6:Int)<(g:Int)+1)=false:=by simp;omega
     obtain⟨x1,y1,F⟩:∃x y,Gs m I (g+1) a7 (o,H)=(x,y):=⟨_,_,rfl⟩;have a8:=Fs m I (g+1) a7 (o,H);rw[F]at a8;simp only at a8;obtain⟨x2,y2,v⟩:∃x y,Gs m I (g+1) h8 (x1,y1)=(x,y):=⟨_,_,rfl⟩;have a3:x2=a/\y2=b:=by have:=d1.o;rw[FM,jR (by simp[EK])]at this;simp only[jB,jM,Nat.not_lt.2 R,if_false]at this;unfold Gs at F v;rw[F]at this;dsimp only at this;rw[v]at this;simpa using this
     obtain⟨rfl,rfl⟩:=a3;have c6:=J F;have c7:=J v;clear F v R;rw[d8.o]at M;go_wp2_with fail;rw[c0.o];refine(c4.o pb N B pl ca u.dD (g+1) U _ _ _ m L u.cT a7 o H _ z.o.k z.o.eE d6.o c3 hn c5 (by omega) f1 c2.o (by omega)).mono ?_;rintro e w4 ⟨rfl,f,n⟩;rw[c6.o]at f;have C:=J (z.o.call f n a6 a5);clear f n z S X b2 b3 b4 b5 b6 b7 b8 b9 a0 a1 M Q a2 a4;obtain⟨S,X,b2,b3,b4,b5,b6,b7,b8,b9,a0,a1,M,Q,a2,a4⟩:=C.o.cI.c15;go_wp2_with fail;rw[c0.o];refine(c4.o pb N B pl ca u.dD (g+1) U _ _ _ m L u.other h8 x1 y1 _ C.o.k C.o.eM d7.o c3 hn c5 (by omega) f2 c2.o (by omega)).mono ?_;rintro e w6 ⟨rfl,f,n⟩;rw[c7.o]at f;have E:=J (C.o.call f n a6 a5);clear f n C;go_wp2_with fail;exact⟨⟨k+1,_,_,by omega,by go_num,E.o.k,E.o.eB,E.o.fr,d2.o,d3.o⟩,by simp[intOf];omega⟩
  .have e:k=l.length:=by omega
   have l5:V=(o,H):=by have:=HC.o;rw[e,i7,jW]at this;exact this.symm
   subst l5;have l1:decide ((k:Int)<(l.length:Int))=false:=by simp;omega
   clear HC;go_wp2;go_end0;exact⟨rfl,HK.o,HF.o⟩
theorem Wu:∀d,Q9 d:=by
 intro d;induction d with
 |zero=>exact Nv 0 (fun a h=>by omega)
 |succ d b=>exact Nv (d+1) (fun a h=>by have:a=d:=by omega
                                        subst this;exact b)
theorem Mt(R:Act->World->Prop)(b a g n o B)(U:Nat->Prop)(F s f c l m w){H x2 x3 x4 x5 x6 x7 x8 x9 I a1 b2 c3 d4 e5 e7 e8 m5 m6 m7 m8 m9 n0 n1 n2 n3 n4 n5 n6 n7 n8 n9 o0 o1 e9 f0 f2 f3 f4 f5 f6 f7 f8 f9 g0 g1 g2 g3 g4 g5 g6 g7 g8 g9 h0 h1 h2 h3 h4 h5 h6 h7 h8 h9 i1 i2 i3 i4 i5 i6 i7 i8 i9 j0 j1 j2 j3 j4 j5 j6 j7 j8 j9 k0 k1 k2 k3 k4 k5 k6 k7 k8 k9 l0 l1 l2 l3 l4 l5 K L M N P Q S V X a0 a2 a3 a4 a5 a6 a7 a8 a9 b0 b1 b3 b4 b5 b6 b7 b8 b9 c0 c1 c2 c4 c5 c6 c7 c8 c9 d0 d1 d2 d3 d5 d6 d7 d8 d9 e0 e1 e2 e3 e4 e6}
 (e:AJ b a g n o f.cJ f.cL w)(y:AP g n o F w)(d:Cg a s (Y l c.length m) f.pl f.ca w)(m1:BA B U w (Y l c.length m) c)(hB:B<=w.heap.size)(q0:c.length<=8004)
 (t:∀wc o2 o3 o4 o5 o6 o7 o8 o9 p0 p2 p3 p4 p5 p6 p7 p8 p9,aD b a g n o B U F s (Y l c.length m) f c w wc->R {tmps:=#[.pointer (T ⟨b,0,Z⟩),H,x2,x3,x4,x5,x6,x7,x8,x9,I,a1,b2,c3,d4,e5,e7,e8,o2,o3,o4,o5,o6,o7,o8,o9,p0,p2,p3,p4,p5,p6,p7,p8,p9,e9,f0,f2,f3,f4,f5,f6,f7,f8,f9,g0,g1,g2,g3,g4,g5,g6,g7,g8,g9,h0,h1,h2,h3,h4,h5,h6,h7,h8,h9,i1,i2,i3,i4,i5,i6,i7,i8,i9,j0,j1,j2,j3,j4,j5,j6,j7,j8,j9,k0,k1,k2,k3,k4,k5,k6,k7,k8,k9,l0,l1,l2,l3,l4,l5,K,L,M,N,P,Q,S,V,X,a0,a2,a3,a4,a5,a6,a7,a8,a9,b0,b1,b3,b4,b5,b6,b7,b8,b9,c0,c1,c2,c4,c5,c6,c7,c8,c9,d0,d1,d2,d3,d5,d6,d7,d8,d9,e0,e1,e2,e3,e4,e6],defers:=[]} wc):
 Code.wp prog (.region 2 #[⟨T 18,.move (.tmp 0),141, "text.go:286",#[],Z⟩,⟨T 19,.nilCheck (.tmp 18),0, "text.go:286",#[⟨0,.data⟩],Z⟩,⟨T 20,.fieldAddr 143 (.tmp 19) 3,0, "text.go:286",#[⟨1,.data⟩],Z⟩,⟨T 21,.load 37 (.tmp 20),37, "text.go:286",#[⟨2,.data⟩],Z⟩,⟨T 22,.move (.tmp 0),141, "text.go:286",#[],Z⟩,⟨T 23,.nilCheck (.tmp 22),0, "text.go:286",#[⟨4,.data⟩],Z⟩,⟨T 24,.fieldAddr 143 (.tmp 23) 3,0, "text.go:286",#[⟨5,.data⟩],Z⟩,⟨T 25,.load 37 (.tmp 24),37, "text.go:286",#[⟨6,.data⟩],Z⟩,⟨T 26,.nilCheck (.tmp 25),0, "text.go:286",#[⟨7,.data⟩],Z⟩,⟨T 27,.fieldAddr 47 (.tmp 26) 1,0, "text.go:286",#[⟨8,.data⟩],Z⟩,⟨T 28,.load 45 (.tmp 27),45, "text.go:286",#[⟨9,.data⟩],Z⟩,⟨T 29,.build 92 #[],92, "text.go:286",#[],Z⟩,⟨T 30,.buildSlice 45 1 #[(0,.tmp 29)],45, "text.go:286",#[⟨11,.data⟩],Z⟩,⟨T 31,.call ⟨.builtin .append,#[.tmp 28,.tmp 30],#[45,45]⟩,45, "text.go:286",#[⟨10,.data⟩,⟨12,.data⟩],Z⟩,⟨T 32,.nilCheck (.tmp 21),0, "text.go:286",#[⟨3,.data⟩,⟨0,.phase⟩,⟨1,.phase⟩,⟨2,.phase⟩,⟨3,.phase⟩,⟨4,.phase⟩,⟨5,.phase⟩,⟨6,.phase⟩,⟨7,.phase⟩,⟨8,.phase⟩,⟨9,.phase⟩,⟨10,.phase⟩,⟨11,.phase⟩,⟨12,.phase⟩,⟨13,.phase⟩],Z⟩,⟨T 33,.fieldAddr 47 (.tmp 32) 1,0, "text.go:286",#[⟨14,.data⟩,⟨0,.phase⟩,⟨1,.phase⟩,⟨2,.phase⟩,⟨3,.phase⟩,⟨4,.phase⟩,⟨5,.phase⟩,⟨6,.phase⟩,⟨7,.phase⟩,⟨8,.phase⟩,⟨9,.phase⟩,⟨10,.phase⟩,⟨11,.phase⟩,⟨12,.phase⟩,⟨13,.phase⟩],Z⟩,⟨Z,.store 45 (.tmp 33) (.tmp 31),0, "text.go:286",#[⟨15,.data⟩,⟨13,.data⟩,⟨13,.chain⟩,⟨0,.phase⟩,⟨1,.phase⟩,⟨2,.phase⟩,⟨3,.phase⟩,⟨4,.phase⟩,⟨5,.phase⟩,⟨6,.phase⟩,⟨7,.phase⟩,⟨8,.phase⟩,⟨9,.phase⟩,⟨10,.phase⟩,⟨11,.phase⟩,⟨12,.phase⟩,⟨13,.phase⟩],Z⟩] true) (Mi R) {tmps:=#[.pointer (T ⟨b,0,Z⟩),H,x2,x3,x4,x5,x6,x7,x8,x9,I,a1,b2,c3,d4,e5,e7,e8,m5,m6,m7,m8,m9,n0,n1,n2,n3,n4,n5,n6,n7,n8,n9,o0,o1,e9,f0,f2,f3,f4,f5,f6,f7,f8,f9,g0,g1,g2,g3,g4,g5,g6,g7,g8,g9,h0,h1,h2,h3,h4,h5,h6,h7,h8,h9,i1,i2,i3,i4,i5,i6,i7,i8,i9,j0,j1,j2,j3,j4,j5,j6,j7,j8,j9,k0,k1,k2,k3,k4,k5,k6,k7,k8,k9,l0,l1,l2,l3,l4,l5,K,L,M,N,P,Q,S,V,X,a0,a2,a3,a4,a5,a6,a7,a8,a9,b0,b1,b3,b4,b5,b6,b7,b8,b9,c0,c1,c2,c4,c5,c6,c7,c8,c9,d0,d1,d2,d3,d5,d6,d7,d8,d9,e0,e1,e2,e3,e4,e6],defers:=[]} w:=by
 obtain⟨i0,hi,m2,m3,m4⟩:=info_parts Tryz.infoSt;obtain⟨cs,j,u,x⟩:=m1;have E:=e.cI.cell 3;have C:=d.cI.cell 1;have f1:=d.cI.frozen 1;simp at E C;have lr:=Ae e;have z:=Ae d;have q4:a≠b:=d.cI.ne e.cI (by decide);obtain⟨l7,r,HR,l9,HP,l8,l6,HQ⟩:=En (Am j e (by decide)) (Am j d (by decide)) e y d x u t;clear e y d x u t;go_region_law(refine AC rfl _ _ 45 rfl B 92 i0 (.agg zS) 15 184 underlying45 hi m2 m3 m4 rfl (by decide) _ _ _ rfl (j.alloc _) ⟨w.heap.size,0,Z⟩ 1 1 zS.toList rfl rfl (AD rfl _ _) Z4 (by decide) (by unfold maxLen;omega) (by omega) (by simp;omega) ?_;intro v' p v i m0;have q1:p.cell? ⟨a,1,Z⟩=T (Y l c.length m):=(gT (i.block a (by simp;omega) (fun h=>r.o a h.symm rfl))).trans (by rw[<-C];exact gT (iC _ _ _ z));have q2:p.frozen? ⟨a,1,Z⟩=false:=(gY (i.block a (by simp;omega) (fun h=>r.o a h.symm rfl))).trans (by rw[<-f1];exact gY (iC _ _ _ z));have q3:p.cell? ⟨b,3,Z⟩=T (.pointer (T ⟨a,0,Z⟩)):=(gT (i.block b (by simp;omega) (fun h=>l7.o b h.symm rfl))).trans (by rw[<-E];exact gT (iC _ _ _ lr));obtain⟨va,vl,vc,rfl⟩:=Ad v);all_goals
  exact HQ.o _ _ _ _ _ _ _ _ _ _ _ _ _ _ _ _ _ _ (U7 HR.o l9.o HP.o j l6.o l8.o (((O.refl _ _).alloc _).drew) v i (fun k hk=>(m0 k hk).imp id (fun q=>by simp at q;omega)))
abbrev RowQ:=TypeId×Nat×Value×Nat×List Value
def RowQ.ok(B:Nat)(w:World)(q:RowQ):Prop:=(q.1=3\/q.1=49)/\w.ownsRow B q.1 q.2.1 q.2.2.1 q.2.2.2.1 q.2.2.2.2
theorem RowQ.ok.d8{B:Nat}{w Q:World}{X:Nat->Prop}{q:RowQ}(h:q.ok B w)(f:O X w Q)(d:∀(k:Nat) (a:Array Value) (t:TypeId) (b:Nat×Nat),X k->w.heap[k]? =T (.cells a t b)->t≠3/\t≠49):q.ok B Q:=
 ⟨h.1,Ai h.2 f (fun k a b c e=>h.1.elim (d k a _ b c e).1 (d k a _ b c e).2)⟩
theorem Ly{w b a t}(h:W b a t w)(g:t≠3/\t≠49)(k c u d)(f:k=b)(e:w.heap[k]? =T (.cells c u d)):u≠3/\u≠49:=by subst f;unfold W at h;rw[e]at h;simp only[gX,iE]at h;rw[h.2.1];exact g
structure SG(y E N g n H B:Nat)(U:Nat->Prop)(j:List Tk)(K P sv:Value)(x:St)(C:List FS)(M:Array Value)(L:List RowQ)(I w:World):Prop where
 s:SF y E N g n H B U j K sv x C M w
 f:Fy y E P sv I w
 b:I.heap.size<=N
 c:x.cJ<n
 z:(tokAt j (n-1)).sort=0
 r:∀q∈L,RowQ.ok B w q
 m:B<=I.heap.size
section
variable{y E N g n H B:Nat}{U:Nat->Prop}{j:List Tk}{K P sv:Value}{x:St}{C:List FS}{M:Array Value}{L:List RowQ}{I w Q:World}
theorem SG.quiet(h:SG y E N g n H B U j K P sv x C M L I w)(a:O kJ w Q):SG y E N g n H B U j K P sv x C M L I Q:=
 ⟨h.s.quiet a,h.f.trans (Fy.dG (a.mono (fun _ _ q=>q.elim))),h.b,h.c,h.z,fun q b=>(h.r q b).d8 a (fun _ _ _ _ q=>q.elim),h.m⟩
theorem SG.cU(h:SG y E N g n H B U j K P sv x C M L I w)(i u):SG y E N g n H B U j K P sv x C (M.setIfInBounds i u) L I (w.setCell ⟨N,i,Z⟩ u):=
 ⟨h.s.cU i u,h.f.cO i u h.b,h.b,h.c,h.z,fun q a=>(h.r q a).d8 ((O.refl _ _).t9 i u) (Ly h.s.sx (by decide)),h.m⟩
theorem SG.cast{a}(h:SG y E N g n H B U j K P sv x C M L I w)(e:M=a):SG y E N g n H B U j K P sv x C a L I w:=e▸h
theorem SG.one{q}(h:SG y E N g n H B U j K P sv x C M (q::L) I w):SG y E N g n H B U j K P sv x C M [q] I w:=
 ⟨h.s,h.f,h.b,h.c,h.z,fun p a=>h.r p (by rw[iL.1 a];exact .head _),h.m⟩
theorem SG.next(h:SG y E N g n H B U j K P sv x C M L I w)(v l)(a:v.toList=l):
 Calls prog 97 #[.pointer (T ⟨y,0,Z⟩),.string v] w fun e Q=>e=.returned (.bool (Bu x.cL (tokAt j x.cJ) l))/\D (SG y E N g n H B U j K P sv x C M L I Q):=
 (RM y E g n H x.cJ x.cL j v l a w h.s.rd h.s.tk h.c).mono (fun _ _ q=>⟨q.1,h.quiet q.2⟩)
theorem SG.dP(h:SG y E N g n H B U j K P sv x C M L I w)(v l)(b:v.toList=l):
 Calls prog 51 #[.pointer (T ⟨y,0,Z⟩),.string v] w fun e Q=>∃a,D (Aw j l x=a)/\e=.returned (.tuple #[])/\D (SG y E N g n H B U j K P sv a C M L I Q):=
 (Jl y E g n H x.cJ x.cL j v l b w h.s.rd h.s.tk h.c).mono (fun _ _ q=>⟨_,rfl,q.1,h.s.dP rfl q.2.2 q.2.1,h.f.tr q.2.2,h.b,Ci rfl h.z h.c,h.z,fun p c=>(h.r p c).d8 q.2.2 (Ly h.s.rd.cI (by decide)),h.m⟩)
theorem SG.get(h:SG y E N g n H B U j K P sv x C M L I w)(k:Nat)(b:k≠0):
 Calls prog 52 #[.pointer (T ⟨y,0,Z⟩),G A k] w fun e Q=>∃q a,D (Bo j k x=(q,a))/\e=.returned (JW q)/\D (SG y E N g n H B U j K P sv a C M L I Q):=
 (Lf y E g n H x.cJ k x.cL j w h.s.rd h.s.tk h.c).mono (fun _ _ q=>⟨_,_,rfl,q.1,h.s.get rfl q.2.2 q.2.1,h.f.tr q.2.2,h.b,ED rfl b h.z h.c,h.z,fun p c=>(h.r p c).d8 q.2.2 (Ly h.s.rd.cI (by decide)),h.m⟩)
theorem SG.value(h:SG y E N g n H B U j K P sv x C M L I w)(s)(u:s.args=[])(F:x.pl<=4001)(v:x.ca<=4001):
 Calls prog 132 #[.pointer (T ⟨y,0,Z⟩),.agg (Br s AX AX AX)] w fun e Q=>∃b r a l c,D (Dd j x s=(b,r))/\e=.returned (.agg (Br b (Y a l c) AX AX))/\
  D (SG y E N g n H B U j K P sv r C M ((49,3,Y a l c,b.args.length,Bh b.args)::L) I Q)/\D (∀k,Value.ownBlock (Y a l c)=T k->I.heap.size<=k):=by
 refine(Vj y E g n H j K sv x s w h.s.rd h.s.tk h.s.pr h.c h.z u F v).mono ?_;rintro e Q ⟨V,rfl,i,R,S,z,f⟩;obtain⟨a,l,c,rfl⟩:=Ad i;have X:=h.f.d8.size;refine⟨_,_,a,l,c,rfl,rfl,⟨h.s.value R S z f,h.f.trans (Fy.dG f),h.b,QW h.z x s h.c,h.z,?_,h.m⟩,fun k d=>by have:=(i.lt k d).1;omega⟩;intro q m;rcases jJ.1 m with rfl|m
 .exact⟨.inr rfl,Aq i (by have:=h.m;omega)⟩
 .exact(h.r q m).d8 f (fun k o t p d=>d.elim (Ly h.s.rd.cI (by decide) k o t p) (Ly h.s.pr.cI (by decide) k o t p))
theorem SG.block{f inn:Nat}(h:SG y E N g n H B U j K P sv x C M L I w)(ih:∀k,k<=f->IE k)(hi:IA n x C.length)(hf:x.cL=Z->2*(n-x.cJ)<=f):
 Calls prog 54 #[.pointer (T ⟨y,0,Z⟩),G A inn] w fun e Q=>∃p o x' v r s t F R S m,D ((tokAt j x.cJ).pos=p/\(AA j f inn (Aw j [123] x) C []).1=o/\Aw j [125] (AA j f inn (Aw j [123] x) C []).2.1=x'/\(AA j f inn (Aw j [123] x) C []).2.2=v)/\
  e=.returned (.tuple #[G A p,Y r s t])/\D (SG y E N g n H B m j K P (Y F R S) x' v M ((3,1,Y r s t,o.length,o.map fun i:Nat=>Value.int .i64 (i:Int))::L) I Q)/\
  D ((∀k,U k->m k)/\(∀k,m k->U k\/I.heap.size<=k)/\∀k,Value.ownBlock (Y r s t)=T k->I.heap.size<=k)/\D (IA n x' v.length/\C.length<=v.length/\(x'.cL=Z->x.cJ+1<=x'.cJ)):=by
 have a2:(Aw j [123] x).cJ<n:=Ci rfl h.z h.c;have g1:=A9 j [123] x;obtain⟨q1,q2,q3⟩:=(DX h.z f).1 inn (Aw j [123] x) C [] (hi.dJ g1 a2);have g2:=A9 j [125] (AA j f inn (Aw j [123] x) C []).2.1;have a7:=h.f.d8.size;have a6:N<w.heap.size:=Ae h.s.sx;have hm:=h.m;have hn:=h.s.eA;refine(Ng f ih y E g n H B inn (fun k=>U k/\k<w.heap.size) j K sv x C w h.s.rd h.s.tk h.s.pr h.s.st.below (fun k b=>b.2) (by omega) h.z hi hf).mono ?_;rintro e Q ⟨a5,bv,m,a8,a4,a9,rfl,a0,hr,u,hp,a1,z⟩;obtain⟨r,s,t,rfl⟩:=Ad a0;obtain⟨F,R,S,rfl⟩:∃a l c,a5=Y a l c:=by obtain⟨_,q,_⟩:=a1;exact Ad q
 refine⟨_,_,_,_,r,s,t,F,R,S,fun k=>m k\/U k,⟨rfl,rfl,rfl,rfl⟩,rfl,⟨⟨hr,u,hp,h.s.sx.d8 z.d8 ?_,a1.more (fun _=>.inl),?_⟩,h.f.trans z,h.b,Ci rfl h.z q1.1,h.z,?_,hm⟩,⟨fun k=>.inr,fun k q=>q.elim (fun q=>(a4 k q).imp (fun q=>q.1) (fun q=>by omega)) .inl,fun k b=>by have:=(a0.lt k b).1;omega⟩,q1.dJ g2 (Ci rfl h.z q1.1),q3,fun e=>by have:=g2.2.2.2 e;have:=g1.1;omega⟩
 .rintro(q|q|q)
  .exact hn.2.2.1 q
  .exact hn.2.2.2.2.1 q
  .exact h.s.nb _ q rfl
 .intro k b;rcases z.own k b with q|q
  .exact h.s.nb k q
  .omega
 .intro q d;rcases jJ.1 d with rfl|d
  .exact⟨.inl rfl,Aq a0 (by omega)⟩
  .obtain⟨_,a3,_⟩:=h.s.st;have d:=h.r q d;refine⟨d.1,Ai d.2 z.d8 (fun k V X b=>?_)⟩;have u:q.1≠143/\q.1≠47/\q.1≠92:=by rcases d.1 with e|e<;>rw[e]<;>decide
   rcases b with b|b|b
   .exact C6 h.s.rd.cI (Ne.symm u.1) k V X b
   .exact C6 h.s.pr.cI (Ne.symm u.2.1) k V X b
   .exact GA a3 (Ne.symm u.2.2) k V X b
structure SE(y E N g n H B:Nat)(U V:Nat->Prop)(j:List Tk)(K P sv:Value)(x:St)(C:List FS)(M:Array Value)(L:List RowQ)(I w:World)(i:Nat)(S:FS)(av bv ov:Value):Prop where
 g:SG y E N g n H B V j K P sv x C M L I w
 u:(∀k,U k->V k)/\∀k,V k->U k\/I.heap.size<=k
 l:i<C.length
 a:CM B w av S.args
 d:Ay B w bv S.cT
 e:Ay B w ov S.other
 o:∀k,(av.ownBlock=T k\/bv.ownBlock=T k\/ov.ownBlock=T k)->I.heap.size<=k
theorem SE.post{V:Nat->Prop}{i d l c S a b e r}(h:SE y E N g n H B U V j K P (Y (T ⟨d,0,Z⟩) l c) x C M L I w i S a b e)(t:r=(i,x,C.set i S)):
 Sq y E g n H B U j K P I r (.returned (G A i)) (Mp w d (i*15) (Br S a b e).toList).drew:=by
 subst t;have F:=(h.g.s.st.more (U':=fun k=>V k\/(a.ownBlock=T k\/b.ownBlock=T k\/e.ownBlock=T k)) (fun _=>.inl)).put h.l ⟨a,b,e,rfl,h.a,h.d,h.e,fun _=>.inr⟩;have m:=Mj w d (i*15) (Br S a b e).toList;obtain⟨u,v,R⟩:=h.g.s.eJ d rfl;have s:g≠d:=by obtain⟨_,q,_⟩:=h.g.s.st;obtain⟨z,p⟩:=DU q;exact h.g.s.tk.ne p (by decide)
 have f:∀o:World,O kJ o o.drew:=fun o=>(O.refl _ o).drew
 exact⟨_,_,fun k q=>.inl (h.u.1 k q),fun k q=>q.elim (h.u.2 k) (fun q=>.inr (h.o k q)),rfl,(h.g.s.rd.d8 m (fun q=>u q.symm)).d8 (f _) id,(h.g.s.tk.d8 m s).d8 (f _) id,(h.g.s.pr.cI.d8 m (fun q=>v q.symm)).d8 (f _) id,F.d8 (f _) (fun _ _ q=>q) (fun _ _ _ _ q=>q.elim),(h.g.f.put rfl m).drew⟩
end
theorem Kn(w a o s b c d):Mp w a o (Br s b c d).toList=((((((((((((((w.setCell ⟨a,o,Z⟩ (G A s.kind)).setCell ⟨a,o+1,Z⟩ (.string s.p.d9)).setCell ⟨a,o+2,Z⟩ (G A s.p.pos)).setCell ⟨a,o+3,Z⟩ (G A s.p.sort)).setCell ⟨a,o+4,Z⟩ (.string s.q.d9)).setCell ⟨a,o+5,Z⟩ (G A s.q.pos)).setCell ⟨a,o+6,Z⟩ (G A s.q.sort)).setCell ⟨a,o+7,Z⟩ (G A s.field)).setCell ⟨a,o+8,Z⟩ b).setCell ⟨a,o+9,Z⟩ (G A s.l7)).setCell ⟨a,o+10,Z⟩ c).setCell ⟨a,o+11,Z⟩ d).setCell ⟨a,o+12,Z⟩ (G A s.br)).setCell ⟨a,o+13,Z⟩ (G A s.dR)).setCell ⟨a,o+14,Z⟩ (G A s.dD):=rfl
theorem W.c7{b a t w}(h:W b a t w):w.cell? ⟨b,0,Z⟩=a[0]? /\w.cell? ⟨b,1,Z⟩=a[1]? /\w.cell? ⟨b,2,Z⟩=a[2]? /\w.cell? ⟨b,3,Z⟩=a[3]? /\w.cell? ⟨b,4,Z⟩=a[4]? /\w.cell? ⟨b,5,Z⟩=a[5]? /\w.cell? ⟨b,6,Z⟩=a[6]? /\∀i,w.frozen? ⟨b,i,Z⟩=false:=
 ⟨h.cell 0,h.cell 1,h.cell 2,h.cell 3,h.cell 4,h.cell 5,h.cell 6,h.frozen⟩
theorem ZS(M:Array Value)(a:M.size=15)(b c i k m n o p q r d e f g h:Value):((((((((((((((M.setIfInBounds 0 b).setIfInBounds 1 c).setIfInBounds 2 i).setIfInBounds 3 k).setIfInBounds 4 m).setIfInBounds 5 n).setIfInBounds 6 o).setIfInBounds 7 p).setIfInBounds 8 q).setIfInBounds 9 r).setIfInBounds 10 d).setIfInBounds 11 e).setIfInBounds 12 f).setIfInBounds 13 g).setIfInBounds 14 h=#[b,c,i,k,m,n,o,p,q,r,d,e,f,g,h]:=by obtain⟨l⟩:=M;simp only[List.size_toArray]at a;rcases l with _|⟨s,_|⟨t,_|⟨F,_|⟨L,_|⟨R,_|⟨S,_|⟨U,_|⟨V,_|⟨X,_|⟨c9,_|⟨u,_|⟨v,_|⟨w,_|⟨x,_|⟨z,_|⟨B,l⟩⟩⟩⟩⟩⟩⟩⟩⟩⟩⟩⟩⟩⟩⟩⟩<;>first|(simp at a;done)|(simp at a;omega)|simp
def Ob(f:Nat)(b:List UInt8->Prop):Prop:=∀(y E g n H B a:Nat) (U:Nat->Prop) (j:List Tk) (K sv:Value) (x:St) (C:List FS) (w:World),AJ y E g n H x.cJ x.cL w->AP g n H j w->Cg E K sv x.pl x.ca w->BA B U w sv C->B<=w.heap.size->(tokAt j (n-1)).sort=0->IA n x C.length->x.cL=Z->2*(n-x.cJ)<=f->b (AG (tokAt j x.cJ))->
 Calls prog 99 #[.pointer (T ⟨y,0,Z⟩),G A a] w fun e Q=>Sq y E g n H B U j K sv w (AK j f a x C) e Q
theorem Xr(f)(ih:∀k,k<=f->IE k):Ob (f+1) (fun l=>l=XR\/l=Hm):=by
 intro x u g n H B i U d K sv m c w s M p c5 hB hz i3 e9 j7 h0;have hn:=M.2.2;obtain⟨f0,j8,j5,j6,h5⟩:=i3;obtain⟨h2,IH,h7⟩:=Ax (h5 e9) ih h0;clear ih h5 e9 h0;obtain⟨i0,hi,j9,l2,l3⟩:=info_parts Tryz.infoSt;obtain⟨cs,V,f2,f6⟩:=c5;have hn:=M.2.2;have r3:=s.cI.cell 3;have p1:=p.cI.cell 1;have f1:=p.cI.frozen 1;simp at r3 p1;obtain⟨N,sl,P,i9⟩:=Ad V;subst i9;have i8:=Ag V;subst i8;have lr:=Ae s;have lp:=Ae p;have i5:u≠x:=p.cI.ne s.cI (by decide);obtain⟨h4,h3,HR,e6,HP,e5,e3,HZ⟩:=En (Am V s (by decide)) (Am V p (by decide)) s M p f6 f2 hz;clear s M p f6 f2 hz;obtain⟨y,hy⟩:∃y,AK d (f+1) i m c=y:=⟨_,rfl⟩;rw[hy];have HY:=J hy;obtain⟨t,HT⟩:∃t,D (tokAt d m.cJ=t):=⟨_,rfl⟩;clear hy;go_enter func99,ntmps99;go_wp2;refine DK (Mt _ x u g n H B U d K m c N P w HR.o e6.o HP.o ⟨cs,V,e3.o,e5.o⟩ hB (by omega) ?_);intro wc l9 m0 m4 m5 m6 m7 m8 m9 n0 n1 n2 n3 n4 n5 n6 n7 n8 hcut;dsimp only;obtain⟨va,vl,vc,s,M,p,c5,d8⟩:=hcut;have f8:w.heap.size<=wc.heap.size:=d8.d8.size;clear h4 h3 HR e6 HP e5 e3 V r3 p1 f1 lr lp i5;have r:D (SF x u wc.heap.size g n H B U d K (Y va vl vc) m (c++[CC 0 0]) (DL i) (wc.alloc (.cells (DL i) 92))):=
  ⟨s.cI.alloc _,M.d8 ((O.refl kJ wc).alloc _) id,p.cI.alloc _,W.new _ _ _,c5.d8 ((O.refl kJ wc).alloc _) (fun _ _ q=>q) (fun _ _ _ _ q=>q.elim),fun k a=>by obtain⟨i1,L,_⟩:=c5;have:=(L.lt k a).2;omega⟩
 have c6:D (Fy x u (Y N c.length P) (Y va vl vc) w (wc.alloc (.cells (DL i) 92))):=d8.alloc _;clear s M p c5 d8;go_wp2;generalize wc.alloc (.cells (DL i) 92)=W0 at r c6⊢;obtain⟨t0,t1,t2⟩:=r.o.tk.cells f0;rw[HT.o]at t0 t1 t2;obtain⟨r0,r1⟩:=r.o.rd.cI.e2 0 1;simp at r0 r1;have l0:=Ae r.o.rd;have l1:g<W0.heap.size:=(r.o.tk.1.lt g rfl).2;have ls:wc.heap.size<W0.heap.size:=Ae r.o.sx;go_region;generalize wc.heap.size=sb at r c6 f8 ls⊢;have z:D (SG x u sb g n H B U d K (Y N c.length P) (Y va vl vc) m (c++[CC 0 0]) (DL i) [(49,3,AX,0,[])] w W0):=⟨r.o,c6.o,f8,f0,HZ.o,fun q h=>by rw[iL.1 h];exact⟨.inr rfl,iB _ _ _ _⟩,hB⟩;have d4:D (c.length<(c++[CC 0 0]).length):=by show _<_;simp
 clear r c6;go_upto_region 6 with fail;go_cut[53] (fun v F=>v=.bool (decide (t.sort=2\/t.sort=4))/\D (W W0.heap.size #[.string t.d9,G A t.pos,G A t.sort] 49 F)/\D (SG x u sb g n H B U d K (Y N c.length P) (Y va vl vc) m (c++[CC 0 0]) (DL i) [(49,3,AX,0,[])] w F))
 case first=>
  have hs:(t.sort=2/\((t.sort:Int)==2)=true)\/(t.sort=4/\((t.sort:Int)==2)=false/\((t.sort:Int)==4)=true)\/((¬(t.sort=2\/t.sort=4))/\((t.sort:Int)==2)=false/\((t.sort:Int)==4)=false):=by
   by_cases h:t.sort=2
   .simp[h]
   by_cases k:t.sort=4
   .simp[k]
   .simp;omega
  rcases hs with⟨hs,f7⟩|⟨hs,f7,i7⟩|⟨hs,f7,i7⟩
  all_goals
   have HS:=J hs;clear hs;go_wp2_with fail;go_meet
   case rel=>exact⟨by simp[HS.o],W.d8 (W.new _ _ _) (X:=kJ) (by repeat first|exact BI _ _|apply BG|apply BH|apply BE) id,z.o.quiet (by repeat first|exact BI _ _|apply BG|apply BH|apply BE)⟩
 case rest=>
 obtain⟨rfl,d9,b4⟩:=hcut;have b0:=d9.o.cell 0;simp at b0;go_upto_if 53 with fail;go_cut[8] (fun v F=>∃b:ByteArray,v=.string b/\D (b.toList=AG (tokAt d m.cJ))/\D (SG x u sb g n H B U d K (Y N c.length P) (Y va vl vc) m (c++[CC 0 0]) (DL i) [(49,3,AX,0,[])] w F))
 case first=>
  by_cases hc:t.sort=2\/t.sort=4;all_goals
   have HS:=J hc;simp only[hc,decide_true,decide_false];clear hc;go_wp2_with fail;go_meet
   case rel=>exact⟨_,rfl,by show _=_;rw[HT.o];simp[AG,HS.o],b4.o.quiet (by repeat first|exact BI _ _|apply BG|apply BH|apply BE)⟩
 case rest=>
 clear d9 b4 b0 HT z;obtain⟨b,rfl,HB,z⟩:=hcut;have hz:((b.toList==[105,102])=true/\AG (tokAt d m.cJ)=XR)\/((b.toList==[105,102])=false/\(b.toList==[119,104,105,108,101])=true/\AG (tokAt d m.cJ)=Hm):=by rw[HB.o];rcases h7.o with h|h<;>simp[h]
 have e8:=J hz;clear hz;go_upto_if 65 with fail;go_cut[65] (fun v F=>v=.bool true/\D (SG x u sb g n H B U d K (Y N c.length P) (Y va vl vc) m (c++[CC 0 0]) (DL i) [(49,3,AX,0,[])] w F))
 case first=>
  rcases e8.o with⟨e0,_⟩|⟨e0,e1,_⟩
  all_goals
   rw[e0];go_wp2_with fail;go_meet
   case rel=>exact⟨rfl,z.o.quiet (by repeat first|exact BI _ _|apply BG|apply BH|apply BE)⟩
 case rest=>
 clear z;obtain⟨rfl,z⟩:=hcut;go_wp2_with fail;refine((z.o.quiet (by repeat first|exact BI _ _|apply BG|apply BH|apply BE)).dP _ (AG (tokAt d m.cJ)) HB.o).mono ?_;rintro e w1 ⟨x1,C,rfl,b4⟩;go_wp2_with fail;refine(b4.o.dP _ [63] (by simp)).mono ?_;rintro e w2 ⟨x2,b9,rfl,Q⟩;have E:=Q.o.s.sx.cell 0;have I:=Q.o.s.sx.frozen;simp at E;go_wp2_with fail;clear E I;have G1:=A9 d (AG (tokAt d m.cJ)) m;rw[C.o]at G1;have G2:=G1.trans (A9 d [63] x1);rw[b9.o]at G2;have hi:IA n x2 (c++[CC 0 0]).length:=by have:=h2.o;obtain⟨g1,g2,g3,g4⟩:=G2;refine⟨Q.o.c,by omega,by omega,by simp;omega,fun e=>?_⟩;have:=g4 e;simp only[gW,gU,iJ];omega
 refine((Q.o.cU 0 (G A 13)).block (inn:=i) IH.o hi (fun e=>by have:=G2.2.2.2 e;omega)).mono ?_;have e2:=J G2.1;clear G1 G2 hi b4 z;rintro e w3 ⟨p3,o3,x3,f3,b1,b2,b3,d1,d2,d3,U3,c7,rfl,b5,o,R⟩;obtain⟨E,c0,c4⟩:=b5.o.s.sx.e3 0 10 12;have I:=b5.o.s.sx.frozen;simp at E c0 c4;have b6:=J ((b5.o.cU 12 (G A p3)).cU 10 (Y b1 b2 b3));go_upto_if 83 with fail;go_cut[] (fun F=>∃(S:FS) (x9:St) (f9:List FS) (U9:Nat->Prop) (L9:List RowQ) (za:Option Addr) (zl zc:Nat) (ya:Option Addr) (yl yc:Nat) (da:Option Addr) (dl dc:Nat),D (SE x u sb g n H B U U9 d K (Y N c.length P) (Y da dl dc) x9 f9 (Br S AX (Y za zl zc) (Y ya yl yc)) L9 w F c.length S AX (Y za zl zc) (Y ya yl yc))/\D (y=(c.length,x9,f9.set c.length S)))
 case first=>
  rcases e8.o with⟨e0,hW⟩|⟨e0,e1,hW⟩
  all_goals rw[e0]
  .have HW:=J hW;clear hW;go_wp2_with fail;clear E c0 c4 I;refine((b6.o.cU 0 (G A 12)).next _ Ef (by simp)).mono ?_;rcases hd:Bu x3.cL (tokAt d x3.cJ) Ef with _|_
   .rintro e w4 ⟨rfl,b7⟩;go_wp2_with fail;go_meet
    case rel=>exact⟨{CC i (-1)with kind:=12,br:=p3,cT:=o3},x3,f3,U3,_,b1,b2,b3,Z,0,0,d1,d2,d3,⟨(b7.o.quiet (by repeat first|exact BI _ _|apply BG|apply BH|apply BE)).cast (by simp;rfl),⟨o.o.1,o.o.2.1⟩,iI d4.o R.o.2.1,iB _ _ _ _,((b7.o.quiet (by repeat first|exact BI _ _|apply BG|apply BH|apply BE)).r _ (.head _)).2,iB _ _ _ _,fun k a=>o.o.2.2 k (by simpa[Value.ownBlock]using a)⟩,by show _=_;rw[<-HY.o,AK];rw[HW.o]at C⊢;simp[C.o,b9.o,c7.o,hd]⟩
   .rintro e w4 ⟨rfl,b7⟩;go_wp2_with fail;refine(b7.o.dP _ Ef (by simp)).mono ?_;rintro e w5 ⟨x4,e7,rfl,e4⟩;go_wp2_with fail;have G4:=A9 d Ef x3;rw[e7.o]at G4;refine(e4.o.block (inn:=i) IH.o (R.o.1.dJ G4 e4.o.c) (fun e=>by have q:=G4.2.2.2 e;have:=R.o.2.2 q.1;have:=e2.o;omega)).mono ?_;clear G4 b7 b6 b5 Q;rintro e w6 ⟨p5,o5,x5,f5,c1,c2,c3,k1,k2,k3,U5,h6,rfl,c8,d5,h1⟩;obtain⟨d6,d7⟩:=c8.o.s.sx.e2 11 13;have I:=c8.o.s.sx.frozen;simp at d6 d7;go_wp2_with fail;have c9:=J ((c8.o.cU 13 (G A p5)).cU 11 (Y c1 c2 c3));go_meet
    case rel=>exact⟨{CC i (-1)with kind:=12,br:=p3,cT:=o3,dR:=p5,other:=o5},x5,f5,U5,_,b1,b2,b3,c1,c2,c3,k1,k2,k3,⟨c9.o.cast (by simp;rfl),⟨fun k h=>d5.o.1 k (o.o.1 k h),fun k h=>(d5.o.2.1 k h).elim (o.o.2.1 k) .inr⟩,iI d4.o (iG R.o.2.1 h1.o.2.1),iB _ _ _ _,(c9.o.r _ (.tail _ (.head _))).2,(c9.o.r _ (.head _)).2,fun k a=>by rcases a with q|q|q;simp[Value.ownBlock]at q;exact o.o.2.2 k q;exact d5.o.2.2 k q⟩,by show _=_;rw[<-HY.o,AK];rw[HW.o]at C⊢;simp[C.o,b9.o,c7.o,hd,e7.o,h6.o]⟩
  .have HW:=J hW;clear hW;go_wp2_with fail;go_meet
   case rel=>exact⟨{CC i (-1)with kind:=13,br:=p3,cT:=o3},x3,f3,U3,_,b1,b2,b3,Z,0,0,d1,d2,d3,⟨b6.o.cast (by simp;rfl),⟨o.o.1,o.o.2.1⟩,iI d4.o R.o.2.1,iB _ _ _ _,(b6.o.r _ (.head _)).2,iB _ _ _ _,fun k a=>o.o.2.2 k (by simpa[Value.ownBlock]using a)⟩,by show _=_;rw[<-HY.o,AK];rw[HW.o]at C⊢;simp[C.o,b9.o,c7.o]⟩
 case rest=>
  obtain⟨S,x9,f9,U9,L9,za,zl,zc,ya,yl,yc,da,dl,dc,HE,h8⟩:=hcut;clear E c0 c4 I b6 b5 Q c7 C b9 o R e2 HY;have d0:=J HE.o.g;have b8:=HE.o.g.s;obtain⟨i1,L,i4,i6⟩:=b8.st;have f4:=HE.o.l;obtain⟨gg,i2⟩:=Ap L (by omega);subst i2;have gz:=IS L;have a:=fun j (h:j<15)=>Mk L c.length f4 j h
  obtain⟨g0,k0⟩:=a 0 (by decide);obtain⟨g1,k1⟩:=a 1 (by decide);obtain⟨g2,k2⟩:=a 2 (by decide);obtain⟨g3,k3⟩:=a 3 (by decide);obtain⟨g4,k4⟩:=a 4 (by decide);obtain⟨g5,k5⟩:=a 5 (by decide);obtain⟨g6,k6⟩:=a 6 (by decide);obtain⟨g7,k7⟩:=a 7 (by decide);obtain⟨g8,k8⟩:=a 8 (by decide);obtain⟨g9,k9⟩:=a 9 (by decide);obtain⟨j0,l4⟩:=a 10 (by decide);obtain⟨j1,l5⟩:=a 11 (by decide);obtain⟨j2,l6⟩:=a 12 (by decide);obtain⟨j3,l7⟩:=a 13 (by decide);obtain⟨j4,l8⟩:=a 14 (by decide);simp only[iH]at k0;rw[<-Ag L]at f4;have r3:=b8.rd.cI.cell 3;have p1:=b8.pr.cI.cell 1;simp at r3 p1;obtain⟨E,a1,a2,a3,a4,a5,a6,I⟩:=d0.o.s.sx.c7;obtain⟨a7,a8,a9,c0,d6,c4,d7,h9⟩:=d0.o.s.sx.e8 7 8 9 10 11 12 13 14;simp[Br]at E a1 a2 a3 a4 a5 a6 a7 a8 a9 c0 d6 c4 d7 h9;obtain⟨m1,m2,m3⟩:=b8.eJ gg rfl;clear b8 L i4 i6 d0 I a;go_wp2;go_region;go_wp2;go_ret;have hq:=HE.o.post h8.o;rw[Kn]at hq;exact hq
theorem Xs(f)(ih:∀k,k<=f->IE k):Ob (f+1) (fun l=>l=Vm\/l=Ic\/l=[42]):=by
 intro P N g n b1 B H U I fv sv R z w M ht K b8 hB hz h0 d0 j0 d8;have hn:=ht.2.2;obtain⟨d1,j1,i8,i9,h5⟩:=h0;obtain⟨i2,IH,e8⟩:=Ax (h5 d0) ih d8;clear ih h5 d0 d8;obtain⟨i0,hi,j2,j3,j4⟩:=info_parts Tryz.infoSt;obtain⟨cs,b4,d2,d5⟩:=b8;have hn:=ht.2.2;have r3:=M.cI.cell 3;have p1:=K.cI.cell 1;have f1:=K.cI.frozen 1;simp at r3 p1;obtain⟨sa,sl,sc,i1⟩:=Ad b4;subst i1;have h9:=Ag b4;subst h9;have lr:=Ae M;have lp:=Ae K;have h6:N≠P:=K.cI.ne M.cI (by decide);obtain⟨e7,e6,HR,c9,HP,c8,c6,HZ⟩:=En (Am b4 M (by decide)) (Am b4 K (by decide)) M ht K d5 d2 hz;clear M ht K d5 d2 hz;obtain⟨y,hy⟩:∃y,AK I (f+1) H R z=y:=⟨_,rfl⟩;rw[hy];have HY:=J hy;obtain⟨t,HT⟩:∃t,D (tokAt I R.cJ=t):=⟨_,rfl⟩;clear hy;go_enter func99,ntmps99;go_wp2;refine DK (Mt _ P N g n b1 B U I fv R z sa sc w HR.o c9.o HP.o ⟨cs,b4,c6.o,c8.o⟩ hB (by omega) ?_);intro wc l2 l3 l4 l5 l6 l7 l8 l9 m0 m4 m5 m6 m7 m8 m9 n0 n1 hcut;dsimp only;obtain⟨va,vl,vc,M,ht,K,b8,c4⟩:=hcut;have d7:w.heap.size<=wc.heap.size:=c4.d8.size;clear e7 e6 HR c9 HP c8 c6 b4 r3 p1 f1 lr lp h6;have L:D (SF P N wc.heap.size g n b1 B U I fv (Y va vl vc) R (z++[CC 0 0]) (DL H) (wc.alloc (.cells (DL H) 92))):=
  ⟨M.cI.alloc _,ht.d8 ((O.refl kJ wc).alloc _) id,K.cI.alloc _,W.new _ _ _,b8.d8 ((O.refl kJ wc).alloc _) (fun _ _ q=>q) (fun _ _ _ _ q=>q.elim),fun k x=>by obtain⟨f8,b2,_⟩:=b8;have:=(b2.lt k x).2;omega⟩
 have b9:D (Fy P N (Y sa z.length sc) (Y va vl vc) w (wc.alloc (.cells (DL H) 92))):=c4.alloc _;clear M ht K b8 c4;go_wp2;generalize wc.alloc (.cells (DL H) 92)=W0 at L b9⊢;obtain⟨t0,t1,t2⟩:=L.o.tk.cells d1;rw[HT.o]at t0 t1 t2;obtain⟨r0,r1⟩:=L.o.rd.cI.e2 0 1;simp at r0 r1;have l0:=Ae L.o.rd;have l1:g<W0.heap.size:=(L.o.tk.1.lt g rfl).2;have ls:wc.heap.size<W0.heap.size:=Ae L.o.sx;go_region;generalize wc.heap.size=sb at L b9 d7 ls⊢;have V:D (SG P N sb g n b1 B U I fv (Y sa z.length sc) (Y va vl vc) R (z++[CC 0 0]) (DL H) [(49,3,AX,0,[])] w W0):=⟨L.o,b9.o,d7,d1,HZ.o,fun q h=>by rw[iL.1 h];exact⟨.inr rfl,iB _ _ _ _⟩,hB⟩;have e5:D (z.length<(z++[CC 0 0]).length):=by show _<_;simp
 clear L b9;go_upto_region 6 with fail;go_cut[53] (fun v wx=>v=.bool (decide (t.sort=2\/t.sort=4))/\D (W W0.heap.size #[.string t.d9,G A t.pos,G A t.sort] 49 wx)/\D (SG P N sb g n b1 B U I fv (Y sa z.length sc) (Y va vl vc) R (z++[CC 0 0]) (DL H) [(49,3,AX,0,[])] w wx))
 case first=>
  have hs:(t.sort=2/\((t.sort:Int)==2)=true)\/(t.sort=4/\((t.sort:Int)==2)=false/\((t.sort:Int)==4)=true)\/((¬(t.sort=2\/t.sort=4))/\((t.sort:Int)==2)=false/\((t.sort:Int)==4)=false):=by
   by_cases h:t.sort=2
   .simp[h]
   by_cases k:t.sort=4
   .simp[k]
   .simp;omega
  rcases hs with⟨hs,d6⟩|⟨hs,d6,h8⟩|⟨hs,d6,h8⟩
  all_goals
   have HS:=J hs;clear hs;go_wp2_with fail;go_meet
   case rel=>exact⟨by simp[HS.o],W.d8 (W.new _ _ _) (X:=kJ) (by repeat first|exact BI _ _|apply BG|apply BH|apply BE) id,V.o.quiet (by repeat first|exact BI _ _|apply BG|apply BH|apply BE)⟩
 case rest=>
 obtain⟨rfl,c5,F⟩:=hcut;have b0:=c5.o.cell 0;simp at b0;go_upto_if 53 with fail;go_cut[8] (fun v wx=>∃b:ByteArray,v=.string b/\D (b.toList=AG (tokAt I R.cJ))/\D (SG P N sb g n b1 B U I fv (Y sa z.length sc) (Y va vl vc) R (z++[CC 0 0]) (DL H) [(49,3,AX,0,[])] w wx))
 case first=>
  by_cases hc:t.sort=2\/t.sort=4;all_goals
   have HS:=J hc;simp only[hc,decide_true,decide_false];clear hc;go_wp2_with fail;go_meet
   case rel=>exact⟨_,rfl,by show _=_;rw[HT.o];simp[AG,HS.o],F.o.quiet (by repeat first|exact BI _ _|apply BG|apply BH|apply BE)⟩
 case rest=>
 clear c5 F b0 HT V;obtain⟨b,rfl,HB,V⟩:=hcut;go_upto_block 0 with fail;go_cut[] (fun wx=>∃(S:FS) (x9:St) (a:Option Addr) (l c:Nat),D (SG P N sb g n b1 B U I fv (Y sa z.length sc) (Y va vl vc) x9 (z++[CC 0 0]) (Br S (Y a l c) AX AX) [(49,3,Y a l c,S.args.length,Bh S.args)] w wx)/\D (S.cT=[]/\S.other=[]/\∀k,Value.ownBlock (Y a l c)=T k->w.heap.size<=k)/\D (y=(z.length,Aw I [59] x9,(z++[CC 0 0]).set z.length S)))
 case first=>
  have d4:∀k,Value.ownBlock AX=T k->w.heap.size<=k:=fun k x=>by simp[Value.ownBlock]at x
  have c1:=J d4;clear d4;have hw:=e8.o;simp only[<-HB.o]at hw;have hb:=HB.o;have e0:(b.toList==[105,102])=false:=by rcases hw with h|h|h<;>simp[h]
  have e1:(b.toList==[119,104,105,108,101])=false:=by rcases hw with h|h|h<;>simp[h]
  by_cases h2:b.toList=[118,97,114]
  .have e2:(b.toList==[118,97,114])=true:=beq_iff_eq.2 h2;have HW:=J (hb.symm.trans h2);clear hw h2 hb;go_wp2_with fail;refine((V.o.quiet (by repeat first|exact BI _ _|apply BG|apply BH|apply BE)).dP _ Vm (by simp)).mono ?_;rintro e w1 ⟨x1,b6,rfl,F⟩;obtain⟨d,i,m,o,r,s,u,C⟩:=F.o.s.sx.c7;simp at d i m o r s u;go_wp2_with fail;clear d i m o r s u C;refine((F.o.cU 0 (G A 1)).get 1 (by decide)).mono ?_;rintro e w2 ⟨E,x2,b7,rfl,Q⟩;unfold JW;obtain⟨d,i,m,o,r,s,u,C⟩:=Q.o.s.sx.c7;simp at d i m o r s u;go_wp2_with fail;clear d i m o r s u C;go_meet
   case rel=>exact⟨{CC H (-1)with kind:=1,p:=E},_,Z,0,0,(((Q.o.cU 1 (.string E.d9)).cU 2 (G A E.pos)).cU 3 (G A E.sort)).cast (by simp;rfl),⟨rfl,rfl,c1.o⟩,by show _=_;rw[<-HY.o];simp[AK,Bc,HW.o,b6.o,b7.o]⟩
  have e2:(b.toList==[118,97,114])=false:=beq_eq_false_iff_ne.2 h2;by_cases h3:b.toList=[114,101,116,117,114,110]
  .have e3:(b.toList==[114,101,116,117,114,110])=true:=beq_iff_eq.2 h3;have HW:=J (hb.symm.trans h3);clear hw h2 h3 hb;go_wp2_with fail;refine((V.o.quiet (by repeat first|exact BI _ _|apply BG|apply BH|apply BE)).dP _ Ic (by simp)).mono ?_;rintro e w1 ⟨x1,b6,rfl,F⟩;obtain⟨d,i,m,o,r,s,u,C⟩:=F.o.s.sx.c7;simp at d i m o r s u;go_wp2_with fail;clear d i m o r s u C;refine((F.o.cU 0 (G A 11)).get 1 (by decide)).mono ?_;rintro e w2 ⟨E,x2,b7,rfl,Q⟩;unfold JW;obtain⟨d,i,m,o,r,s,u,C⟩:=Q.o.s.sx.c7;simp at d i m o r s u;go_wp2_with fail;clear d i m o r s u C;go_meet
   case rel=>exact⟨{CC H (-1)with kind:=11,q:=E},_,Z,0,0,(((Q.o.cU 4 (.string E.d9)).cU 5 (G A E.pos)).cU 6 (G A E.sort)).cast (by simp;rfl),⟨rfl,rfl,c1.o⟩,by show _=_;rw[<-HY.o];simp[AK,Bc,HW.o,b6.o,b7.o]⟩
  have e3:(b.toList==[114,101,116,117,114,110])=false:=beq_eq_false_iff_ne.2 h3;by_cases h4:b.toList=[42]
  .have e4:(b.toList==[42])=true:=beq_iff_eq.2 h4;have HW:=J (hb.symm.trans h4);clear hw h2 h3 h4 hb;go_wp2_with fail;refine((V.o.quiet (by repeat first|exact BI _ _|apply BG|apply BH|apply BE)).dP _ [42] (by simp)).mono ?_;rintro e w1 ⟨x1,b6,rfl,F⟩;obtain⟨d,i,m,o,r,s,u,C⟩:=F.o.s.sx.c7;simp at d i m o r s u;go_wp2_with fail;clear d i m o r s u C;refine((F.o.cU 0 (G A 10)).get 1 (by decide)).mono ?_;rintro e w2 ⟨E,x2,b7,rfl,Q⟩;unfold JW;obtain⟨d,i,m,o,r,s,u,C⟩:=Q.o.s.sx.c7;simp at d i m o r s u;go_wp2_with fail;clear d i m o r s u C;refine((((Q.o.cU 1 (.string E.d9)).cU 2 (G A E.pos)).cU 3 (G A E.sort)).dP _ [61] (by simp)).mono ?_;rintro e w3 ⟨x3,e9,rfl,d9⟩;go_wp2_with fail;refine(d9.o.get 1 (by decide)).mono ?_;rintro e w4 ⟨q4,x4,f0,rfl,c7⟩;unfold JW;obtain⟨d,i,m,o,r,s,u,C⟩:=c7.o.s.sx.c7;simp at d i m o r s u;go_wp2_with fail;clear d i m o r s u C;go_meet
   case rel=>exact⟨{CC H (-1)with kind:=10,p:=E,q:=q4},_,Z,0,0,(((c7.o.cU 4 (.string q4.d9)).cU 5 (G A q4.pos)).cU 6 (G A q4.sort)).cast (by simp;rfl),⟨rfl,rfl,c1.o⟩,by show _=_;rw[<-HY.o];simp[AK,Bc,HW.o,b6.o,b7.o,e9.o,f0.o]⟩
  exact(hw.elim h2 (fun q=>q.elim h3 h4)).elim
 case rest=>
  obtain⟨S,x9,za,zl,zc,b3,c2,c3⟩:=hcut;clear V HB;go_wp2_with fail;refine(b3.o.dP _ [59] (by simp)).mono ?_;rintro e w8 ⟨x8,f2,rfl,c0⟩;have c3:=J (f2.o▸c3.o);have HE:D (SE P N sb g n b1 B U U I fv (Y sa z.length sc) (Y va vl vc) x8 _ _ _ w w8 z.length S (Y za zl zc) AX AX):=⟨c0.o,⟨fun _=>id,fun _=>.inl⟩,e5.o,(c0.o.r _ (.head _)).2,by rw[c2.o.1];exact iB _ _ _ _,by rw[c2.o.2.1];exact iB _ _ _ _,fun k x=>c2.o.2.2 k (by simpa[Value.ownBlock]using x)⟩;clear c0 b3;have b3:=J HE.o.g;have b5:=HE.o.g.s;obtain⟨f8,b2,h1,h7⟩:=b5.st;have d3:=HE.o.l;obtain⟨gg,f9⟩:=Ap b2 (by omega);subst f9;have gz:=IS b2;have x:=fun j (h:j<15)=>Mk b2 z.length d3 j h
  obtain⟨g0,k0⟩:=x 0 (by decide);obtain⟨g1,k1⟩:=x 1 (by decide);obtain⟨g2,k2⟩:=x 2 (by decide);obtain⟨g3,k3⟩:=x 3 (by decide);obtain⟨g4,k4⟩:=x 4 (by decide);obtain⟨g5,k5⟩:=x 5 (by decide);obtain⟨g6,k6⟩:=x 6 (by decide);obtain⟨g7,k7⟩:=x 7 (by decide);obtain⟨g8,k8⟩:=x 8 (by decide);obtain⟨g9,k9⟩:=x 9 (by decide);obtain⟨i3,j5⟩:=x 10 (by decide);obtain⟨i4,j6⟩:=x 11 (by decide);obtain⟨i5,j7⟩:=x 12 (by decide);obtain⟨i6,j8⟩:=x 13 (by decide);obtain⟨i7,j9⟩:=x 14 (by decide);simp only[iH]at k0;rw[<-Ag b2]at d3;have r3:=b5.rd.cI.cell 3;have p1:=b5.pr.cI.cell 1;simp at r3 p1;obtain⟨d,i,m,o,r,s,u,C⟩:=b3.o.s.sx.c7;obtain⟨a7,a8,a9,f3,f4,f5,f6,f7⟩:=b3.o.s.sx.e8 7 8 9 10 11 12 13 14;simp[Br]at d i m o r s u a7 a8 a9 f3 f4 f5 f6 f7;obtain⟨m1,m2,m3⟩:=b5.eJ gg rfl;clear b5 b2 h1 h7 b3 C x;go_wp2;go_region;go_wp2;go_ret;have hq:=HE.o.post c3.o;rw[Kn]at hq;exact hq

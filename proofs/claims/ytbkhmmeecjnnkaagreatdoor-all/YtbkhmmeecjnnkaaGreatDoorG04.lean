/- Part of the proof. -/
import Derived.Test.YtbkhmmeecjnnkaaGreatDoorG03
set_option maxRecDepth 100000
set_option maxHeartbeats 40000000
namespace Go.Proofs.YtbkhmmeecjnnkaaGreatDoor
open Go.RowKit Go.Proofs.Tryz
open Option renaming none->Z,some->T
open Value renaming int->G,slice->Y,string->Y',bool->O',ownBlock->L'
open IntKind renaming i64->A
open Obj renaming cells->R'
open List renaming length->L
open World renaming ownsRow->J'
open Go renaming Value->H'
open _root_ renaming Nat->M,Int->zw,rfl->Q,decide->zu
open Bool renaming true->zt,false->zr
open Or renaming inl->zo,inr->zn
variable {y1:Ci}{B C R X v0:Nat}{P:World}
theorem cY(h:J' P B 114 15 (Y C R X) v0 y1)(i)(b:i<v0):∃u:M->H',∀j,j<15->P (C,i*15+j)=u j:=
 ⟨λj=>if a:j<15 then(Rf h i b j a).choose else G A 0,λj a=>by simp only[a,dite_true];exact(Rf h i b j a).choose_spec⟩
theorem lU(f)(ih:∀k,k<=f->N7 k):Zt (f+1) λl=>l≠mS/\l≠LG:=by
 intro rb pb g n b5 B H U R fv sv x0 x w hr ht V c6 hB hz g4 e5 h8 f4;have hn:=ht.2.2;have⟨e6,h9,h6,h7,h5⟩:=g4;obtain⟨h0,IH,f9⟩:=Dq (h5 e5) ih f4;clear ih h5 e5 f4;have⟨i0,hi,i1,i2,i3⟩:=Bx Tryz.infoSt;have⟨cs,b7,e7,f0⟩:=c6;have hn:=ht.2.2;have r3:=hr.p.z;have p1:=V.p.z;have f1:=V.p.wV 1;have⟨sa,sl,sc,g9⟩:=CA b7;subst g9;cases CU b7;have lr:=Cz hr;have lp:=Cz V;have g6:pb≠rb:=V.p.ne hr.p (by decide);obtain⟨f8,f7,HR,d9,HP,d8,d6,HZ⟩:=Pe (CL b7 hr<|by decide) (CL b7 V<|by decide) hr ht V f0 e7 hz;clear hr ht V f0 e7 hz;have⟨y,hy⟩:=Dv<|Dn R (f+1) H x0 x;rw[hy];have HY:=J hy;obtain⟨t,HT⟩:∃t,D<|CI R x0.b=t:=⟨_,Q⟩;clear hy;go_in;go_wp2;refine Fu<|WI _ rb pb g n b5 B U R fv x0 x sa sc w HR.o d9.o HP.o ⟨cs,b7,d6.o,d8.o⟩ hB (by omega) ?_;intro wc i4 i5 i6 i7 i8 i9 j0 j1 j2 j3 j4 j5 j6 j7 j8 j9 k1 hcut;dsimp only;have⟨va,vl,vc,hr,ht,V,c6,d3⟩:=hcut;have f3:(w:M)<=wc:=d3.j.size;clear f8 f7 HR d9 HP d8 d6 b7 r3 p1 f1 lr lp g6;have b1:D<|SF rb pb wc g n b5 B U R fv (Y va vl vc) x0 (x++[Gd 0 0]) (JA H)<|wc.alloc<|R' (JA H) 114:=
  ⟨hr.p.alloc _,ht.j ((CT Cb wc).alloc _) id,V.p.alloc _,W.new _ _ _,c6.j ((CT Cb wc).alloc _) Ed λ_ _ _ _ q=>q.elim,λk hk=>by have⟨g2,b6,_⟩:=c6;have:=(b6.lt k hk).2;omega⟩
 have c7:D<|JI rb pb (Y sa x sc) (Y va vl vc) w<|wc.alloc<|R' (JA H) 114:=d3.alloc _;clear hr ht V c6 d3;go_wp2;generalize wc.alloc (R' (JA H) 114)=W0 at b1 c7|-;have⟨t0,t1,t2⟩:=b1.o.tk.cells e6;rw[HT.o]at t0 t1 t2;have r0:=b1.o.rd.p.z;have l0:=Cz b1.o.rd;have l1:g<W0:=(b1.o.tk.1.lt g Q).2;have ls:(wc:M)<W0:=Cz b1.o.C;go_region;generalize (wc:M)=sb at b1 c7 f3 ls|-;have b2:D<|SG rb pb sb g n b5 B U R fv (Y sa x sc) (Y va vl vc) x0 (x++[Gd 0 0]) (JA H) [(104,3,DS,0,[])] w W0:=⟨b1.o,c7.o,f3,e6,HZ.o,λq h=>by rw[Ay.1 h];exact⟨zn Q,An _ _ _ _⟩,hB⟩;have f6:D<|L x<(x++[Gd 0 0]):=by show _<_;simp
 clear b1 c7;go_upto_region 6 with fail;go_cut[53] (λv wx=>v=O' (zu<|t.h=2\/t.h=4)/\D (W W0 #[t.a,t.pos,t.h] 104 wx)/\D (SG rb pb sb g n b5 B U R fv (Y sa x sc) (Y va vl vc) x0 (x++[Gd 0 0]) (JA H) [(104,3,DS,0,[])] w wx))
 .have hs:(t.h=2/\((t.h:zw)==2)=zt)\/(t.h=4/\((t.h:zw)==2)=zr/\((t.h:zw)==4)=zt)\/((¬(t.h=2\/t.h=4))/\((t.h:zw)==2)=zr/\((t.h:zw)==4)=zr):=by by_cases h:t.h=2;simp[h];by_cases k:t.h=4;simp[k];simp;omega
  rcases hs with⟨hs,f2⟩|⟨hs,f2,g8⟩|⟨hs,f2,g8⟩
  all_goals
   have HS:=J hs;clear hs;go_wp2_with fail;go_meet;exact⟨by simp[HS.o],W.j (W.new _ _ _) (X:=Cb) oq id,b2.o.xD oq⟩
 obtain⟨rfl,d5,E⟩:=hcut;have b0:=d5.o.z;go_upto_if 53 with fail;go_cut[8] (λv wx=>∃b:Cd,v=Y' b/\D (b.toList=Dk (CI R x0.b))/\D (SG rb pb sb g n b5 B U R fv (Y sa x sc) (Y va vl vc) x0 (x++[Gd 0 0]) (JA H) [(104,3,DS,0,[])] w wx))
 .by_cases hc:t.h=2\/t.h=4;all_goals
   have HS:=J hc;simp only[hc,decide_true,decide_false];clear hc;go_wp2_with fail;go_meet;exact⟨_,Q,by show _=_;rw[HT.o];simp[Dk,HS.o],E.o.xD oq⟩
 clear d5 E b0 HT b2;obtain⟨b,rfl,HB,b2⟩:=hcut;go_upto_block 0 with fail;go_cut[] (λwx=>∃(S:FS) (x9:St) (a:Ch) (l c:M),D (SG rb pb sb g n b5 B U R fv (Y sa x sc) (Y va vl vc) x9 (x++[Gd 0 0]) (Dc S (Y a l c) DS DS) [(104,3,Y a l c,S.k,DZ S.k)] w wx)/\D (S.body=[]/\S.other=[]/\∀k,L' (Y a l c)=T k->(w:M)<=k)/\D (y=(L x,CW R [59] x9,(x++[Gd 0 0]).set x S)))
 .have e9:∀k,L' DS=T k->(w:M)<=k:=λk hk=>by simp[L']at hk
  have d0:=J e9;clear e9;have hw:=f9.o;simp only[<-HB.o]at hw;have P:=HB.o;have e0:(b.toList==[105,102])=zr:=beq_eq_false_iff_ne.2 hw.1;have e1:(b.toList==[119,104,105,108,101])=zr:=beq_eq_false_iff_ne.2 hw.2;by_cases N:b.toList=[118,97,114]
  .have e2:(b.toList==[118,97,114])=zt:=beq_iff_eq.2 N;have HW:=J<|P.symm.trans N;clear hw N P;go_wp2_with fail;apply((b2.o.xD oq).xX _ tE<|by simp).mono;rintro e w1 ⟨x1,b3,rfl,E⟩;have⟨d,i,j,m,o,r,s,C⟩:=E.o.s.C.c7;simp at d i j m o r s;go_wp2_with fail;clear d i j m o r s C;apply((E.o.xF 0<|G A 1).get 1<|by decide).mono;rintro e w2 ⟨F,x2,b4,rfl,K⟩;unfold MR;have⟨d,i,j,m,o,r,s,C⟩:=K.o.s.C.c7;simp at d i j m o r s;go_wp2_with fail;clear d i j m o r s C;go_meet;exact⟨{Gd H (-1)with e:=1,p:=F},_,Z,0,0,(((K.o.xF 1 F.a).xF 2 F.pos).xF 3 F.h).cast<|by simp;rfl,⟨Q,Q,d0.o⟩,by show _=_;rw[<-HY.o];simp[Dn,DW,HW.o,b3.o,b4.o]⟩
  have e2:(b.toList==[118,97,114])=zr:=beq_eq_false_iff_ne.2 N;by_cases h3:b.toList=[114,101,116,117,114,110]
  .have e3:(b.toList==[114,101,116,117,114,110])=zt:=beq_iff_eq.2 h3;have HW:=J<|P.symm.trans h3;clear hw N h3 P;go_wp2_with fail;apply((b2.o.xD oq).xX _ Uz<|by simp).mono;rintro e w1 ⟨x1,b3,rfl,E⟩;have⟨d,i,j,m,o,r,s,C⟩:=E.o.s.C.c7;simp at d i j m o r s;go_wp2_with fail;clear d i j m o r s C;apply((E.o.xF 0<|G A 11).get 1<|by decide).mono;rintro e w2 ⟨F,x2,b4,rfl,K⟩;unfold MR;have⟨d,i,j,m,o,r,s,C⟩:=K.o.s.C.c7;simp at d i j m o r s;go_wp2_with fail;clear d i j m o r s C;go_meet;exact⟨{Gd H (-1)with e:=11,q:=F},_,Z,0,0,(((K.o.xF 4 F.a).xF 5 F.pos).xF 6 F.h).cast<|by simp;rfl,⟨Q,Q,d0.o⟩,by show _=_;rw[<-HY.o];simp[Dn,DW,HW.o,b3.o,b4.o]⟩
  have e3:(b.toList==[114,101,116,117,114,110])=zr:=beq_eq_false_iff_ne.2 h3;by_cases h4:b.toList=[42]
  .have e4:(b.toList==[42])=zt:=beq_iff_eq.2 h4;have HW:=J<|P.symm.trans h4;clear hw N h3 h4 P;go_wp2_with fail;apply((b2.o.xD oq).xX _ [42]<|by simp).mono;rintro e w1 ⟨x1,b3,rfl,E⟩;have⟨d,i,j,m,o,r,s,C⟩:=E.o.s.C.c7;simp at d i j m o r s;go_wp2_with fail;clear d i j m o r s C;apply((E.o.xF 0<|G A 10).get 1<|by decide).mono;rintro e w2 ⟨F,x2,b4,rfl,K⟩;unfold MR;have⟨d,i,j,m,o,r,s,C⟩:=K.o.s.C.c7;simp at d i j m o r s;go_wp2_with fail;clear d i j m o r s C;apply((((K.o.xF 1 F.a).xF 2 F.pos).xF 3 F.h).xX _ [61]<|by simp).mono;rintro e w3 ⟨x3,c8,rfl,b8⟩;go_wp2_with fail;apply(b8.o.get 1<|by decide).mono;rintro e w4 ⟨q4,x4,g0,rfl,d7⟩;unfold MR;have⟨d,i,j,m,o,r,s,C⟩:=d7.o.s.C.c7;simp at d i j m o r s;go_wp2_with fail;clear d i j m o r s C;go_meet;exact⟨{Gd H (-1)with e:=10,p:=F,q:=q4},_,Z,0,0,(((d7.o.xF 4 q4.a).xF 5 q4.pos).xF 6 q4.h).cast<|by simp;rfl,⟨Q,Q,d0.o⟩,by show _=_;rw[<-HY.o];simp[Dn,DW,HW.o,b3.o,b4.o,c8.o,g0.o]⟩
  have e4:(b.toList==[42])=zr:=beq_eq_false_iff_ne.2 h4;rw[P]at hw N h3 h4;have HW:=J<|And.intro hw.1<|And.intro hw.2<|And.intro N<|And.intro h3 h4;clear hw N h3 h4 P;go_wp2_with fail;apply((b2.o.xD oq).get 1<|by decide).mono;rintro e w1 ⟨q1,x1,b3,rfl,E⟩;unfold MR;have⟨d,i,j,m,o,r,s,C⟩:=E.o.s.C.c7;simp at d i j m o r s;go_wp2_with fail;clear d i j m o r s C;apply((((E.o.xF 1 q1.a).xF 2 q1.pos).xF 3 q1.h).xX _ [61]<|by simp).mono;rintro e w2 ⟨x2,b4,rfl,K⟩;have⟨d,i,j,m,o,r,s,C⟩:=K.o.s.C.c7;obtain⟨a7,a8,a9,c1,c2,c3,c4,c5⟩:=K.o.s.C.e8 7 8 9 10 11 12 13 14;simp at d i j m o r s a7 a8 a9 c1 c2 c3 c4 c5;go_wp2_with fail;clear d i j m o r s a7 a8 a9 c1 c2 c3 c4 c5 C;have h1:=BG (λz=>(z.2.pl,z.2.g)) b3.o;have N:=BG (λz=>(z.pl,z.g)) b4.o;simp only[Ev,CW,AU]at h1 N;apply(K.o.value {Gd H (-1)with p:=q1} rfl (by omega)<|by omega).mono;clear h1 N;rintro e w3 ⟨I,x3,v1,v2,v3,c8,rfl,b8,f5⟩;have⟨d,i,j,m,o,r,s,C⟩:=b8.o.s.C.c7;obtain⟨a7,a8,a9,c1,c2,c3,c4,c5⟩:=b8.o.s.C.e8 7 8 9 10 11 12 13 14;simp at d i j m o r s a7 a8 a9 c1 c2 c3 c4 c5;unfold Dc;go_wp2_with fail;clear d i j m o r s a7 a8 a9 c1 c2 c3 c4 c5 C;have P:=TI R x2 {Gd H (-1)with p:=q1};rw[c8.o]at P;have d4:=J P;clear P;go_meet;exact⟨I,_,v1,v2,v3,((((((((((((((((b8.o.xF 0 I.e).xF 1 I.p.a).xF 2 I.p.pos).xF 3 I.p.h).xF 4 I.q.a).xF 5 I.q.pos).xF 6 I.q.h).xF 7 I.wU).xF 8<|Y v1 v2 v3).xF 9 I.t9).xF 10 DS).xF 11 DS).xF 12 I.br).xF 13 I.xY).xF 14 I.l).one.cast<|sZ _ (by simp) _ _ _ _ _ _ _ _ _ _ _ _ _ _ _),⟨d4.o.1,d4.o.2,f5.o⟩,by show _=_;rw[<-HY.o];simp[Dn,DW,HW.o,b3.o,b4.o,c8.o]⟩
 have⟨S,x9,za,zl,zc,b9,d1,d2⟩:=hcut;clear b2 HB;go_wp2_with fail;apply(b9.o.xX _ [59]<|by simp).mono;rintro e w8 ⟨x8,g1,rfl,c9⟩;have d2:=J<|g1.o▸d2.o;have HE:D<|SE rb pb sb g n b5 B U U R fv (Y sa x sc) (Y va vl vc) x8 _ _ _ w w8 x S (Y za zl zc) DS DS:=⟨c9.o,⟨λ_=>id,λ_=>zo⟩,f6.o,(c9.o.r _<|.head _).2,by rw[d1.o.1];exact An _ _ _ _,by rw[d1.o.2.1];exact An _ _ _ _,λk hk=>d1.o.2.2 k<|by simpa[L']using hk⟩;clear c9 b9;have b9:=J HE.o.g;have c0:=HE.o.g.s;have⟨g2,b6,g5,g7⟩:=c0.st;have e8:=HE.o.l;have⟨gg,g3⟩:=CH b6 (by omega);subst g3;have gz:=Rg b6;have⟨u,hk⟩:=cY b6 x e8;have k0:=hk 0 (by decide);simp only[Au]at k0;rw[<-CU b6]at e8;have r3:=c0.rd.p.z;have p1:=c0.r.p.z;have d:=b9.o.s.C.z;unfold Dc at d;have⟨m1,m2,m3⟩:=c0.yU gg Q;clear c0 b6 g5 g7 b9;go_wp2;go_region;go_wp2;go_ret;have hq:=HE.o.post d2.o;rw[Tv]at hq;exact hq
theorem lS:∀f,N7 f:=by
 intro f;induction f using Nat.strongRecOn with
 |_ f z=>
  intro v u g n c B t U a e y x d w o q m p i r b j l;cases f with
  |zero=>have:=b.1;omega
  |succ f=>
   have s:∀k,k<=f->N7 k:=λk C=>z k<|by omega
   by_cases h:Dk (CI a x.b)=mS\/Dk (CI a x.b)=LG;exact lT f s v u g n c B t U a e y x d w o q m p i r b j l h;exact lU f s v u g n c B t U a e y x d w o q m p i r b j l<|not_or.1 h

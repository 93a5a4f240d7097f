/- One of the texts of the proof of runs_card_holds: RuG RuO. -/
import Derived.Test.YthppbgndiplgnaaGreatDoorG34
set_option maxRecDepth 100000
set_option maxHeartbeats 16000000
namespace Go.Proofs.YthppbgndiplgnaaGreatDoor
open Go.RowKit
theorem Mh(F)(hL:Fh F)(d I B)(U:Nat→Prop)(fv sv C fs p0 c0 p f4 X l K ca f S n u s O P Q l1 V Y J R T w)
 (hA:JH d I B U fv sv C fs p0 c0 p f4 X u.Yh l K S w)(p3:K+1≤150000)(hl:S.left<F)(g9:SC s u u.Yh)(N:s.kind=7∨s.kind=8)(hV:XE p f4 (Aq X u.Yh).m9 s)(hr:DO B w (.slice O l1 J) u.args)(l6:s.kind=8→u.i9=ca+1∧ca≤4000)
 (hf:s.kind=7→f=vx p s.sr.i6∧n=S)
 (k0:s.kind=8→(Ak S.c.i7 (l+vx (Aq X u.Yh).m9 s.sr.i6)).v.kind=1∧(Aq X f).p8=s.args.length∧f=(Ak S.c.i7 (l+vx (Aq X u.Yh).m9 s.sr.i6)).v.y6∧n={S with c:={S.c with Yr:=if S.Yl<40 then (ca+1,f)::S.c.Yr else S.c.Yr}}):
 Calls Tryz.prog 93 #[.pointer (some ⟨d,0,none⟩),.agg (AS u (.slice O l1 J) (.slice P V R) (.slice Q Y T)),.int .i64 l] w fun e w'=>e=.returned (.bool (E7 X (AA X p F) f (BZ S.c.i7 l (s.args.map fun t=>vx (Aq X u.Yh).m9 t.i6)) (l+vx (Aq X u.Yh).m9 s.tg.i6) n).1)∧A7 d I B p X (E7 X (AA X p F) f (BZ S.c.i7 l (s.args.map fun t=>vx (Aq X u.Yh).m9 t.i6)) (l+vx (Aq X u.Yh).m9 s.tg.i6) n).2 w'∧Be d B w w':=by
 have q4:=Ah hr;subst q4;have j8:u.args.length=s.args.length:=by rw [g9.args,bW]
 obtain ⟨CX,g0⟩:∃CX,E7 X (AA X p F) f (BZ S.c.i7 l (s.args.map fun t=>vx (Aq X u.Yh).m9 t.i6)) (l+vx (Aq X u.Yh).m9 s.tg.i6) n=CX:=⟨_,rfl⟩;rw [g0];have n0:=Aa g0;have d1:=Aa j8;have HL:=Aa hL;have a6:=Aa g9;have HV:=Aa hV;have HF:=Aa hf;have n4:=Aa k0;have n7:=Aa l6;have HA:=Aa hA;have n8:=Aa hr;have HK:=Aa N;clear g0 j8 hL g9 hV hf k0 l6 hA hr N;go_enter Tryz.func93,Tryz.ntmps93;unfold AS;go_upto_if 15 with fail;go_cut [7] (fun v wx=>v=.int .i64 f∧dJ (∃K1,JH d I B U fv sv C fs p0 c0 p f4 X u.Yh l K1 n wx)∧dJ (Ar w.heap.size (AS u (.slice O u.args.length J) (.slice P V R) (.slice Q Y T)) 119 wx)∧dJ (Be d B w wx)∧n.c.i7=S.c.i7∧f<C.length∧s.args.length≤(Aq X f).m9.length∧n.left=S.left)
 case first=>
  rcases HK.o with N | N
  ·have m0:w.heap.size≠d:=by obtain ⟨_,_,_,_,q⟩:=HA.o.r;have:=Ae q.l9;omega
   have m:=Aa (Ar.new w (AS u (.slice O u.args.length J) (.slice P V R) (.slice Q Y T)) 119)
   have g:=Aa (HA.o.p6 ((Ab.refl (fun _=>False) w).alloc (.cells (AS u (.slice O u.args.length J) (.slice P V R) (.slice Q Y T)) 119)))
   have a9:=Aa ((Ab.refl (fun _=>False) w).alloc (.cells (AS u (.slice O u.args.length J) (.slice P V R) (.slice Q Y T)) 119))
   unfold AS at m g a9
   generalize w.alloc _=W1 at*
   have b0:=m.o.cell 0
   have b4:=m.o.cell 4
   simp only [aU,aS,aT] at b0 b4
   have lb:=Ae m.o
   obtain ⟨xa,xb,xc,xd,a7⟩:=g.o.r
   have r0:=a7.l9.cell 0
   have lr:=Ae a7.l9
   simp only [F7,aU,aS] at r0
   have c8:u.q.i6=s.sr.i6:=by rw [a6.o.q];rfl
   have r7:((u.kind:Int)==8)=true:=by rw [a6.o.kind,N];rfl
   obtain ⟨a5,H⟩:=HF.o N
   have c5:=HV.o.func (.inr N)
   obtain ⟨q1,q2⟩:=CP c5
   have k2:=g.o.st.h.p9
   have a0:f<C.length:=by rw [a5];rw [g.o.st.h.Y0] at q1;exact q1
   have q5:=HV.o.many N
   rw [g.o.st.x.YN _ (by rw [g.o.st.x.len];exact q1),←a5] at q5
   have q9:=g.o.st.x.pm f
   have p2:=Aa (fun (W:World) (M:Ab (fun _=>False) W1 W)=>Dl B I p0 c0 fv sv C u.q.i6 W ((g.o.p.p6 M).pr) ((g.o.p.p6 M).fn) g.o.st.h.Yx)
   have m3:CB (C.map fun f=>f.name.i6) u.q.i6 0=(f:Int):=by rw [k2,c8,q2,a5]
   have o3:=Aa m3
   have G:=Aa H
   clear m3 H a5 q1 q2 k2 c5 c8 a7
   go_wp2_with fail
   go_quiet ((go_at_call 15;exact Calls.quiet_of_same ((p2.o _ (by repeat (first | exact Ab.refl _ _ | refine Ab.drew ?_ | refine Ab.drewN ?_ _ | refine Ab.alloc ?_ _))).mono (fun e w' h=>⟨by rw [h.1,o3.o],h.2⟩))))
   go_wp2_with fail
   go_meet
   case rel=> have hd:=(Ab.refl (fun _=>False) W1).drewN nq;refine ⟨rfl,⟨K,by rw [G.o];exact g.o.p6 hd⟩,Ar.f8 m.o hd (fun q=>q),(Be.s8 a9.o).trans (Be.s8 hd),by rw [G.o],a0,by omega,by rw [G.o]⟩
  ·have m0:w.heap.size≠d:=by obtain ⟨_,_,_,_,q⟩:=HA.o.r;have:=Ae q.l9;omega
   have m:=Aa (Ar.new w (AS u (.slice O u.args.length J) (.slice P V R) (.slice Q Y T)) 119)
   have g:=Aa (HA.o.p6 ((Ab.refl (fun _=>False) w).alloc (.cells (AS u (.slice O u.args.length J) (.slice P V R) (.slice Q Y T)) 119)))
   have a9:=Aa ((Ab.refl (fun _=>False) w).alloc (.cells (AS u (.slice O u.args.length J) (.slice P V R) (.slice Q Y T)) 119))
   unfold AS at m g a9
   generalize w.alloc _=W1 at*
   have b0:=m.o.cell 0
   have b4:=m.o.cell 4
   simp only [aU,aS,aT] at b0 b4
   have lb:=Ae m.o
   obtain ⟨xa,xb,xc,xd,a7⟩:=g.o.r
   have r0:=a7.l9.cell 0
   have lr:=Ae a7.l9
   simp only [F7,aU,aS] at r0
   have c8:u.q.i6=s.sr.i6:=by rw [a6.o.q];rfl
   have r7:((u.kind:Int)==8)=false:=by rw [a6.o.kind,N];rfl
   obtain ⟨g5,l4,a5,H⟩:=n4.o N
   obtain ⟨l7,u5⟩:=n7.o N
   have c5:u.q.i6∈(Aq X u.Yh).m9:=by rw [c8];exact HV.o.sr (by omega)
   obtain ⟨q1,q2⟩:=CP c5
   have m8:l+vx (Aq X u.Yh).m9 u.q.i6<S.c.i7.length:=by have:=g.o.ba;omega
   rw [←c8] at g5 a5
   have m5:=(g.o.m.at_ m8).2
   obtain ⟨_,_,_,m4⟩:=BS m5
   obtain ⟨hz,f1⟩:=m4 g5
   rw [←a5] at hz f1
   have a0:f<C.length:=by rw [g.o.st.h.Y0] at f1;exact f1
   have d0:=g.o.st.Yn f a0
   have q9:=g.o.st.x.pm f
   have t7:=g.o.st.h.Yx
   have e0:EI d I B U fv sv C fs p0 c0 p X S W1:=⟨g.o.r,g.o.p,g.o.st.h,g.o.m,by have:=g.o.ml;have:=g.o.k;omega,by have:=g.o.pl;have:=g.o.k;omega⟩
   obtain ⟨gm,cm,r1,h9,i4,e5⟩:=e0.holds (by omega)
   have cq:=(e5 _ m8).1
   rw [hz] at cq
   have a8:=Aa (fun (W:World) (M:Ab (fun _=>False) W1 W)=>JH.at_ u (g.o.p6 M) O P Q u.args.length V Y J R T u.q c5)
   generalize l+vx (Aq X u.Yh).m9 u.q.i6=zq at*
   generalize g2:S.c.i7.length=ML at*
   obtain ⟨z,e8⟩:∃z:Int,-(f:Int)-1=z:=⟨_,rfl⟩
   rw [e8] at cq
   have b1:=m.o.cell 1
   have b2:=m.o.cell 2
   have b3:=m.o.cell 3
   have b5:=m.o.cell 5
   have b6:=m.o.cell 6
   have b7:=m.o.cell 7
   have b8:=m.o.cell 8
   have b9:=m.o.cell 9
   have d2:=m.o.cell 10
   have d3:=m.o.cell 11
   have d4:=m.o.cell 12
   have d5:=m.o.cell 13
   have d6:=m.o.cell 14
   simp only [aU,aS,aT] at b1 b2 b3 b5 b6 b7 b8 b9 d2 d3 d4 d5 d6
   have G:=Aa H
   have o2:=Aa d0
   have i8:=Aa l4
   have f8:=Aa e8
   have f6:=Aa l7
   clear l7
   clear H g5 a5 q1 q2 c8 m5 m4 hz e0 e5 c5 l4 d0 e8 a7 f1 g2
   go_wp2_with fail
   go_cut [8] (fun v wx=>v=.int .i64 z∧dJ (Ab (fun _=>False) W1 wx))
   case first=>
    go_region_law (go_simp;go_at_call 92;refine (a8.o _ ?_).mono ?_;exact (by repeat (first | exact Ab.refl _ _ | refine Ab.drew ?_ | refine Ab.drewN ?_ _ | refine Ab.alloc ?_ _));rintro e w7 ⟨rfl,e6⟩;have o7:=Aa (Ab.trans (X:=fun _=>False) (a:=W1) (by repeat (first | exact Ab.refl _ _ | refine Ab.drew ?_ | refine Ab.drewN ?_ _ | refine Ab.alloc ?_ _)) e6);have m9:w7.cell? ⟨d,1,none⟩=some (.slice (some ⟨gm,0,none⟩) ML cm):=(aW (o7.o.block d i4 (fun q=>q))).trans r1;have j0:w7.cell? ⟨gm,zq*4+1,none⟩=some (.int .i64 z):=(aW (o7.o.block gm h9 (fun q=>q))).trans cq;clear e6;dsimp only);all_goals
     go_wp2_with fail;go_meet
     case rel=>exact ⟨rfl,o7⟩
   case rest=>
    obtain ⟨rfl,O2⟩:=hcut;have o:=Aa (g.o.p6 O2.o);obtain ⟨xa,xb,xc,xd,L⟩:=o.o.r;have R0:=L.l9.cell 0;have R5:=L.l9.cell 5;have R7:=L.l9.cell 7;have RZ:=L.l9.frozen 7;have i3:=Ae L.l9;have s5:=Ae o.o.p.pr;have P0:=o.o.p.pr.l9.cell 0;simp only [F7,aU,aS,aT] at R0 R5 R7 P0;obtain ⟨cs,c9,r3⟩:=o.o.p.fn;clear r3;obtain ⟨fa,fl,fc,k3⟩:=Ad c9;rw [k3] at c9 P0;have p9:=Ah c9;subst p9;obtain ⟨gf,rfl⟩:=As c9 (by omega);have s4:=(c9.lt gf rfl).2;have g4:=o.o.p.fn;rw [k3] at g4;obtain ⟨tv,bv,vv,hc,h5,_⟩:=g4.get a0;obtain ⟨t1,t2,t3,rfl⟩:=Ad h5;have r6:=Ah h5;subst r6;have f0:=hc 0 (by decide);have f3:=hc 3 (by decide);simp only [JB,aU,aS,aT,bK] at f0 f3;have k8:=o.o.st.h.name a0;rw [k8] at f0;have u3:=o.o.st.h.ZZ f;have d7:=Aa (Ar.f8 m.o O2.o (fun q=>q));have d8:=d7.o.cell 8;have d9:=d7.o.cell 9;simp only [aU,aS,aT] at d8 d9;have s3:=Ae d7.o;have t9: -z=(f:Int)+1:=by have:=f8.o;omega
    have m6:decide (0≤z)=false:=by have:=f8.o;simp;omega
    have m7:¬0≤z:=by have:=f8.o;omega
    have u6:IntKind.i64.wrap ((f:Int)+1)=(f:Int)+1:=by rw [IntKind.wrap_i64];omega
    have u7:IntKind.i64.wrap (f:Int)=(f:Int):=by rw [IntKind.wrap_i64];omega
    have u0:((C[f].Yn.length:Int) !=(u.args.length:Int))=false:=by have e1:=o2.o;have e2:=i8.o;have e3:=d1.o;simp only [bne_eq_false_iff_eq];omega
    have f2:s.args.length≤(Aq X f).m9.length:=by have:=i8.o;omega
    obtain ⟨D,hD⟩:∃D:ByteArray,(⟨(Lib.decDigits u.i9).toArray⟩:ByteArray)=D:=⟨_,rfl⟩;have s8:D.size≤4002:=by rw [←hD];have:=DP u.i9;have e:=f6.o;simp only [ByteArray.size,List.size_toArray];omega
    have j4:=Aa (fun (W:World)=>Oo u.i9 (by have:=f6.o;omega) W);rw [hD] at j4;have p1:dJ ((⟨#[33]⟩:ByteArray)++D++⟨#[62]⟩++G7 p f=Xg p (ca+1,f)):=CV (by rw [←hD];simp [XN,f6.o])
    generalize p4:G7 p f=nm at*;generalize p5:C[f].Yn.length=TL at*;have i9:=Aa L;obtain ⟨sa,sl,sc,rfl⟩:=Ad L.row;have r5:=Ah L.row;subst r5;have l9:=L.sn.len;have u4:=o.o.pl;have t8:=o.o.k;have o0:=Aa L.row;have s7:B≤wc.heap.size:=by have:=L.lb;omega
    have t4:¬(9223372036854775807<1+D.size):=by omega
    have t5:¬(9223372036854775807<1+D.size+1):=by omega
    have t6:¬(9223372036854775807<1+D.size+1+nm.size):=by omega
    clear L c9 hc h5 k8 hD g4 p4 p5;by_cases h4:S.Yl<40
    ·have o6:decide ((S.Yl:Int)<40)=true:=by simp;omega
     have H:=G.o;rw [cU h4] at H;have G:=Aa H;clear H;go_wp2_with fail;go_quiet (fail);go_wp2_with fail;have Z:Ab (fun _=>False) wc (wc.drewN nq):=(Ab.refl _ wc).drewN nq;have OQ:=Aa Z;refine Cj ?_;refine Wb _ d w.heap.size I gf f u.i9 C.length fc B sa sc xd D nm (wc.drewN nq) ((aW (Z.block d i3 (fun q=>q))).trans R0) ((aW (Z.block d i3 (fun q=>q))).trans R7) ((bB (Z.block d i3 (fun q=>q))).trans RZ) (by have:=Z.size;omega) ((aW (Z.block w.heap.size s3 (fun q=>q))).trans d9) ((aW (Z.block I s5 (fun q=>q))).trans P0) ((aW (Z.block gf s4 (fun q=>q))).trans f0) (by omega) j4.o (Ac o0.o Z (fun _ _ q=>q)) (by omega) (by omega) (by omega) ?_;intro v8 w8 g7 e7;dsimp only;obtain ⟨ya,yl,yc,rfl⟩:=Ad g7;have o8:=Aa (OQ.o.trans e7);clear Z;have g8:=g7;rw [p1.o] at g8;have g3:=i9.o.ZN (S':={S with c:={S.c with Yr:=(ca+1,f)::S.c.Yr}}) o8.o (by simp;omega) g8 (i9.o.sn.entry (ca+1,f)) rfl rfl rfl;have o1:=Aa g3.1;have f7:=Aa g3.2;clear g3 g8 g7 e7;go_wp2_with fail;go_meet
     case rel=> have q8:=Be.YO f7.o o.o.r o.o.p;have p7:=f7.o.l9 d7.o m0 (by decide);refine ⟨by first | rfl | simp,⟨K+1,by rw [G.o];exact ⟨o.o.st,⟨_,_,_,_,o1.o⟩,q8,o.o.m,by have:=o.o.ml;simp only;omega,by simp only [aX];omega,o.o.gv,p3,o.o.YW,o.o.dp,o.o.en,o.o.lf,o.o.ba⟩⟩,p7,((Be.s8 a9.o).trans (Be.s8 O2.o)).trans f7.o,by rw [G.o],a0,f2,by rw [G.o]⟩
    ·have o6:decide ((S.Yl:Int)<40)=false:=by simp;omega
     have H:=G.o;rw [cT h4] at H;have G:=Aa H;clear H;go_wp2_with fail;go_quiet (fail);go_wp2_with fail;go_meet
     case rel=> have hd:=(Ab.refl (fun _=>False) wc).drewN nq;refine ⟨by first | rfl | simp,⟨K,by rw [G.o];exact o.o.p6 hd⟩,Ar.f8 d7.o hd (fun q=>q),((Be.s8 a9.o).trans (Be.s8 O2.o)).trans (Be.s8 hd),by rw [G.o],a0,f2,by rw [G.o]⟩
 case rest=>
  obtain ⟨rfl,⟨K1,R1⟩,B1,F1,k7,a0,f2,k6⟩:=hcut;have R1:=Aa R1;obtain ⟨i0,q0,m6,m7,r9⟩:=info_parts Tryz.infoVal;obtain ⟨A,f9⟩:∃A,BZ S.c.i7 l (s.args.map fun t=>vx (Aq X u.Yh).m9 t.i6)=A:=⟨_,rfl⟩;have j9:A.length=u.args.length:=by rw [←f9,d1.o];simp [BZ]
  have f5:=Aa f9;have a4:=Aa j9;have i7:=Aa k7;have i6:=Aa k6;obtain ⟨s6,l8⟩:=Be.runs HA.o.r;have n9:=Aa (F1.o.row n8.o l8 (by decide) (by decide));have o9:B≤wc.heap.size:=by obtain ⟨_,_,_,_,q⟩:=R1.o.r;have:=q.lb;have:=Ae q.l9;omega
  have q6:u.args.length≤12:=by have:=R1.o.st.h.ZW f;have:=d1.o;omega
  have v3:=Ae B1.o;have p8:l≤200000:=by have:=R1.o.ml;have:=R1.o.ba;have:=R1.o.k;omega
  clear f9 j9 k7 k6 l8;unfold AS at B1;go_wp2;go_loopw [9,10] (fun av i wr=>∃k:Nat,k≤u.args.length∧i=.int .i64 k∧dJ (wr.ownsRow wc.heap.size 37 1 av k (SS (A.take k)))∧dJ (Ab (fun _=>False) wc wr)) (fun _ i _=>u.args.length-(intOf i).toNat)
  case atStart=>exact ⟨0,by omega,rfl,bE _ _ _ _,Ab.refl _ _⟩
  case round=>
   obtain ⟨k,N,rfl,c7,ho⟩:=hrel;have b:=Aa (R1.o.p6 ho.o);have r:=Aa (Ar.f8 B1.o ho.o (fun q=>q));have z2:=ho.o.size;by_cases c6:k<u.args.length
   ·have hT:=Aa (Ac n9.o ho.o (fun _ _ q=>q));obtain ⟨ga,rfl⟩:=As hT.o (by omega);obtain ⟨t0,t1,t2⟩:=DA hT.o c6;have v0:=(hT.o.lt ga rfl).2;have k5:k<s.args.length:=by rw [←d1.o];exact c6
    have d0:Ai u.args k=An s.args[k]:=by rw [a6.o.args];unfold Ai;rw [bY,aY k5];rfl
    have h6:(Ai u.args k).i6∈(Aq X u.Yh).m9:=by rw [d0];exact HV.o.args HK.o _ (bD _)
    obtain ⟨q1,q2⟩:=CP h6;have r2:l+vx (Aq X u.Yh).m9 (Ai u.args k).i6<n.c.i7.length:=by have:=b.o.ba;omega
    have j2:A[k]'(by rw [a4.o];exact c6)=(Ak n.c.i7 (l+vx (Aq X u.Yh).m9 (Ai u.args k).i6)).v:=by have e:=f5.o;subst e;simp only [BZ,cH];rw [i7.o,d0];rfl
    have e0:EI d I B U fv sv C fs p0 c0 p X n wr:=⟨b.o.r,b.o.p,b.o.st.h,b.o.m,by have:=b.o.ml;have:=b.o.k;omega,by have:=b.o.pl;have:=b.o.k;omega⟩;obtain ⟨gm,cm,r1,h9,i4,e5⟩:=e0.holds (by omega);have cq:=(e5 _ r2).1;rw [←j2] at cq;have l9:dJ (SS (A.take (k+1))=SS (A.take k)++[.int .i64 (DD (A[k]'(by rw [a4.o];exact c6)))]):=by show _=_;rw [cA (by rw [a4.o];exact c6)];unfold SS;rw [dD];rfl
    have p6:=b.o.at_;have a8:=Aa (fun (W:World) (M:Ab (fun _=>False) wr W)=>JH.at_ u (b.o.p6 M) (some ⟨ga,0,none⟩) P Q u.args.length V Y J R T (Ai u.args k) h6);generalize s0:l+vx (Aq X u.Yh).m9 (Ai u.args k).i6=zq at*;generalize DD (A[k]'(by rw [a4.o];exact c6))=z at*;generalize g2:n.c.i7.length=ML at*;have b0:=r.o.cell 0;have b1:=r.o.cell 1;have b2:=r.o.cell 2;have b3:=r.o.cell 3;have b4:=r.o.cell 4;have b5:=r.o.cell 5;have b6:=r.o.cell 6;have b7:=r.o.cell 7;have b8:=r.o.cell 8;have b9:=r.o.cell 9;have d2:=r.o.cell 10;have d3:=r.o.cell 11;have d4:=r.o.cell 12;have d5:=r.o.cell 13;have d6:=r.o.cell 14;simp only [aU,aS,aT] at b0 b1 b2 b3 b4 b5 b6 b7 b8 b9 d2 d3 d4 d5 d6;have lb:=Ae r.o;generalize Ai u.args k=t at*;clear j2 q1 q2 d0 h6 e0 e5 k5 p6 s0 g2;go_wp2_with fail;go_region_law (first
     | (go_simp;go_at_call 92;refine (a8.o _ ?_).mono ?_;exact (by repeat (first | exact Ab.refl _ _ | refine Ab.drew ?_ | refine Ab.drewN ?_ _ | refine Ab.alloc ?_ _));rintro e w7 ⟨rfl,e6⟩;have o7:=Aa (Ab.trans (X:=fun _=>False) (a:=wr) (by repeat (first | exact Ab.refl _ _ | refine Ab.drew ?_ | refine Ab.drewN ?_ _ | refine Ab.alloc ?_ _)) e6);have m9:w7.cell? ⟨d,1,none⟩=some (.slice (some ⟨gm,0,none⟩) ML cm):=(aW (o7.o.block d i4 (fun q=>q))).trans r1;have j0:w7.cell? ⟨gm,zq*4+1,none⟩=some (.int .i64 z):=(aW (o7.o.block gm h9 (fun q=>q))).trans cq;clear e6;dsimp only)
     | (refine Ay rfl _ _ 121 rfl wc.heap.size 37 i0 (.int .i64 0) 1 8 Tryz.underlying121 q0 m6 m7 r9 rfl (by decide) _ _ _ rfl ((Ac c7.o o7.o (fun _ _ q=>q)).alloc _) ⟨w7.heap.size,0,none⟩ 1 1 [.int .i64 z] rfl rfl (AN rfl _ _) (fun x hx=>by simp at hx;subst hx;rfl) (by decide) (by unfold maxLen;omega) (by omega) (by have:=o7.o.size;simp;omega) ?_;intro v' w8 k9 k4 q7))
    all_goals
     have h8:=Aa (Ab.grown (Ab.trans (X:=fun _=>False) (ho.o.trans o7.o) (by repeat (first | exact Ab.refl _ _ | refine Ab.drew ?_ | refine Ab.drewN ?_ _ | refine Ab.alloc ?_ _))) k4 (fun j hj=>.inr (c7.o.lt j hj).1));have l0:=Aa k9;rw [←l9.o] at l0;clear k9 k4 q7 m9 j0;go_wp2_with fail;go_roundw
     case rel=>exact ⟨k+1,by omega,by go_num,l0,h8⟩
     case measure=>simp [intOf];omega
   ·have e:k=u.args.length:=by omega
    subst e;have k1:A.take u.args.length=A:=by rw [←a4.o,List.take_length]
    rw [k1] at c7;have b8:=r.o.cell 8;simp only [aU,aS,aT] at b8;have lb:=Ae r.o;have g6:∀v,v∈A→Cn p.length n.c.i7.length v:=by intro v hv;have e:=f5.o;subst e;unfold BZ at hv;rw [List.map_map] at hv;obtain ⟨t,ht,rfl⟩:=cG.1 hv;have h1:=(CP (HV.o.args HK.o t ht)).1;have h2:=b.o.ba;have h3:=(b.o.m.at_ (i:=l+vx (Aq X u.Yh).m9 t.i6) (by omega)).2;rw [i7.o] at h3⊢;exact h3
    have m1:=b.o.ml;have m2:=b.o.pl;have q3:=b.o.k;obtain ⟨E,hE⟩:∃E,Cu X (AA X p F) f A n=E:=⟨_,rfl⟩;have j3:CX=if E.1=false then (true,E.2) else (false,{E.2 with c:=E.2.c.set (l+vx (Aq X u.Yh).m9 s.tg.i6) E.2.YA,YA:=DL}):=by rw [←n0.o,f5.o];unfold E7;rw [hE]
    have j5:Calls Tryz.prog 18 #[.pointer (some ⟨d,0,none⟩),.int .i64 f,u9] wr fun e w'=>e=.returned (.bool E.1)∧A7 d I B p X E.2 w'∧Be d B wr w':=by
     by_cases j1:n.Yl=40
     ·have e1:E=(false,{n with Yi:=4}):=by rw [←hE];unfold Cu;rw [cU j1]
      rw [e1];exact Ot d I B p X f u9 n wr b.o.r (Ad c7.o) j1
     ·rw [←hE];exact KZ F HL.o d I B U fv sv C fs p0 c0 p f4 X f A u9 K1 n wr b.o.st b.o.r b.o.p b.o.m (by omega) (by omega) q3 (by rw [i6.o];exact hl) b.o.YW (by have:=b.o.dp;omega) b.o.en a0 g6 (by rw [a4.o,d1.o];exact f2) (by rw [a4.o];exact Ax c7.o o9)
    have n3:=Aa j5;have i5:=Aa j3;have HE:=Aa hE;have n6:=Aa g6;obtain ⟨xa,xl,xc,rfl⟩:=Ad c7.o;clear j5 j3 hE g6 k1;go_wp2_with fail;refine n3.o.mono ?_;rintro e w6 ⟨rfl,s1,s2⟩;cases g1:E.1 with
    | false=> have e4:=i5.o;rw [cU g1] at e4;subst e4;have S1:=Aa s1;have S2:=Aa (F1.o.trans ((Be.s8 ho.o).trans s2));clear s1 s2;go_wp2;go_ret;exact ⟨rfl,S1.o,S2.o⟩
    | true=>
      have e4:=i5.o;rw [cT (by rw [g1];decide)] at e4;subst e4;have j6:=Ry b.o.st.x (K:=K1) (F:=F) (f:=f) (args:=A) (S:=n) b.o.m (by omega) (by omega) (by rw [i6.o];exact hl) n6.o (by rw [a4.o];exact q6) (by rw [HE.o];exact g1);rw [HE.o] at j6;obtain ⟨n1,n2⟩:=j6;have i1:=n1.ml;have i2:=n1.pl;obtain ⟨ya,yb,yc,yd,c4⟩:=s1;obtain ⟨u1,u2⟩:=c4.wrote (S':={E.2 with YA:=DL}) 8 (.int .i64 0) rfl c4.Yz rfl rfl rfl;have r8:=c4.l9.cell 8;have v4:=c4.l9.frozen 8;have lr:=Ae c4.l9;simp only [F7,aU,aS,aT] at r8;have e9:Be d B wr (w6.setCell ⟨d,8,none⟩ (.int .i64 0)):=s2.trans u2;have P6:=Be.YO e9 b.o.r b.o.p;have r4:w.heap.size≠d:=by obtain ⟨_,_,_,_,q⟩:=HA.o.r;have:=Ae q.l9;omega
      have y:=Aa (e9.l9 r.o r4 (by decide));have h0:u.p.i6∈(Aq X u.Yh).m9:=by rw [a6.o.p];exact HV.o.tg (by have:=HK.o;omega) (by have:=HK.o;omega)
      have l5:u.p.i6=s.tg.i6:=by rw [a6.o.p];rfl
      obtain ⟨q1,q2⟩:=CP h0;have s9:=b.o.ba;have a8:=Aa (fun (W:World) (M:Ab (fun _=>False) (w6.setCell ⟨d,8,none⟩ (.int .i64 0)) W)=>FZ d I B U fv sv C fs p0 c0 p X {E.2 with YA:=DL} u O P Q u.args.length V Y J R T l u.p W (A7.p6 ⟨_,_,_,_,u1⟩ M) (P6.p6 M) b.o.st.h b.o.lf p8 h0);have j7:=Aa (fun (W:World) (M:Ab (fun _=>False) (w6.setCell ⟨d,8,none⟩ (.int .i64 0)) W)=>II d I B U fv sv C fs p0 c0 p X {E.2 with YA:=DL} (l+vx (Aq X u.Yh).m9 u.p.i6) E.2.YA W (A7.p6 ⟨_,_,_,_,u1⟩ M) (P6.p6 M) b.o.st.h n1.m (by simp only;omega) n1.gv (by simp only;omega) (by simp only;omega));have n5:=Aa (F1.o.trans ((Be.s8 ho.o).trans e9));have h7:l+vx (Aq X u.Yh).m9 s.tg.i6=l+vx (Aq X u.Yh).m9 u.p.i6:=by rw [l5]
      generalize l+vx (Aq X u.Yh).m9 u.p.i6=zp at a8 j7 h7;have o4:=Aa h7;clear h7;generalize e8:DD E.2.YA=z at*;clear u1 u2 c4 s2 e9 P6 h0 l5 q1 q2 n1 n2 e8;have b0:=y.o.cell 0;have b1:=y.o.cell 1;have b2:=y.o.cell 2;have b3:=y.o.cell 3;have b4:=y.o.cell 4;have b5:=y.o.cell 5;have b6:=y.o.cell 6;have b7:=y.o.cell 7;have o5:=y.o.cell 8;have b9:=y.o.cell 9;have d2:=y.o.cell 10;have d3:=y.o.cell 11;have d4:=y.o.cell 12;have d5:=y.o.cell 13;have d6:=y.o.cell 14;have u8:=Ae y.o;simp only [aU,aS,aT] at b0 b1 b2 b3 b4 b5 b6 b7 o5 b9 d2 d3 d4 d5 d6;go_wp2_with (first
       | (go_at_call 92;refine (a8.o _ ?_).mono ?_;exact (by repeat (first | exact Ab.refl _ _ | refine Ab.drew ?_ | refine Ab.drewN ?_ _ | refine Ab.alloc ?_ _));rintro e w8 ⟨rfl,e7⟩;have o8:=Aa (Ab.trans (X:=fun _=>False) (a:=w6.setCell ⟨d,8,none⟩ (.int .i64 0)) (by repeat (first | exact Ab.refl _ _ | refine Ab.drew ?_ | refine Ab.drewN ?_ _ | refine Ab.alloc ?_ _)) e7);clear e7)
       | (go_at_call 40;refine (j7.o _ o8.o).mono ?_;rintro e w9 ⟨rfl,v1,v2⟩))
      have V1:=Aa v1;have V2:=Aa (n5.o.trans ((Be.s8 o8.o).trans v2));clear v1 v2;go_wp2;go_ret;exact ⟨rfl,by rw [o4.o];exact V1.o,V2.o⟩
theorem Hy(d A B:Nat)(x:List ByteArray)(X:List XF)(v:Nat)(u:FS)(j k l:Option Addr)(p q r m n o:Nat)(w:World)(V:Bool×RS)(b:u.kind=8∨u.kind=9)
 (z:∀W,Ab (fun _=>False) w W→Calls Tryz.prog 93 #[.pointer (some ⟨d,0,none⟩),.agg (AS u (.slice j p m) (.slice k q n) (.slice l r o)),.int .i64 v] W fun e h=>e=.returned (.bool V.1)∧A7 d A B x X V.2 h∧Be d B W h):
 Calls Tryz.prog 72 #[.pointer (some ⟨d,0,none⟩),.agg (AS u (.slice j p m) (.slice k q n) (.slice l r o)),.int .i64 v] w fun e h=>e=.returned (.bool V.1)∧A7 d A B x X V.2 h∧Be d B w h:=by
 have y:=(Ab.refl (fun _=>False) w).alloc (.cells (AS u (.slice j p m) (.slice k q n) (.slice l r o)) 119);have c:=Aa y;have a:=Aa (Ar.new w (AS u (.slice j p m) (.slice k q n) (.slice l r o)) 119);have i:=Aa z;have C:=a.o.cell 0;have D:=a.o.cell 1;have J:=a.o.cell 2;have K:=a.o.cell 3;have L:=a.o.cell 4;have M:=a.o.cell 5;have N:=a.o.cell 6;have O:=a.o.cell 7;have P:=a.o.cell 8;have Q:=a.o.cell 9;have E:=a.o.cell 10;have F:=a.o.cell 11;have G:=a.o.cell 12;have H:=a.o.cell 13;have I:=a.o.cell 14;have lb:=Ae a.o;clear y z a;unfold AS at*;simp only [aU,aS,aT] at C D J K L M N O P Q E F G H I;have U:((u.kind:Int)==1)=false:=by simp;omega
 have Y:((u.kind:Int)==11)=false:=by simp;omega
 have Z:((u.kind:Int)==12)=false:=by simp;omega
 have a0:((u.kind:Int)==13)=false:=by simp;omega
 rcases b with b | b
 ·have R:((u.kind:Int)==8)=true:=by rw [b];rfl
  have S:((u.kind:Int)==9)=false:=by rw [b];rfl
  clear b;go_enter Tryz.func72,Tryz.ntmps72;go_wp2_with fail;refine (i.o _ c.o).mono ?_;rintro e T ⟨rfl,f,g⟩;have s:=Aa f;have t:=Aa ((Be.s8 c.o).trans g);clear f g i c;go_wp2;go_ret;exact ⟨rfl,s.o,t.o⟩
 ·have R:((u.kind:Int)==8)=false:=by rw [b];rfl
  have S:((u.kind:Int)==9)=true:=by rw [b];rfl
  clear b;go_enter Tryz.func72,Tryz.ntmps72;go_wp2_with fail;refine (i.o _ c.o).mono ?_;rintro e T ⟨rfl,f,g⟩;have s:=Aa f;have t:=Aa ((Be.s8 c.o).trans g);clear f g i c;go_wp2;go_ret;exact ⟨rfl,s.o,t.o⟩
theorem PV(d I B)(U:Nat→Prop)(fv sv x fs p0 c0 p d3 X g K S u s j k l r t m n o w)
 (hA:JH d I B U fv sv x fs p0 c0 p d3 X u.Yh g K S w)(G:SC s u u.Yh)(hk:s.kind=8)(hV:XE p d3 (Aq X u.Yh).m9 s)
 (hn:¬((Ak S.c.i7 (g+vx (Aq X u.Yh).m9 s.sr.i6)).v.kind=1∧(Aq X (Ak S.c.i7 (g+vx (Aq X u.Yh).m9 s.sr.i6)).v.y6).p8=s.args.length)):
 Calls Tryz.prog 93 #[.pointer (some ⟨d,0,none⟩),.agg (AS u (.slice j u.args.length m) (.slice k r n) (.slice l t o)),.int .i64 g] w fun e w'=>e=.returned (.bool true)∧A7 d I B p X {S with Yi:=3} w'∧Be d B w w':=by
 have d4:dJ (u.args.length=s.args.length):=by rw [G.args,bW];exact rfl
 have b:=Aa (Ar.new w (AS u (.slice j u.args.length m) (.slice k r n) (.slice l t o)) 119);have c:=Aa (hA.p6 ((Ab.refl (fun _=>False) w).alloc (.cells (AS u (.slice j u.args.length m) (.slice k r n) (.slice l t o)) 119)));have c6:=Aa ((Ab.refl (fun _=>False) w).alloc (.cells (AS u (.slice j u.args.length m) (.slice k r n) (.slice l t o)) 119));have a0:u.q.i6=s.sr.i6:=by rw [G.q];rfl
 have f8:((u.kind:Int)==8)=false:=by rw [G.kind,hk];rfl
 have Z:u.q.i6∈(Aq X u.Yh).m9:=by rw [a0];exact hV.sr (by omega)
 rw [←a0] at hn;clear hA G hk hV a0;go_enter Tryz.func93,Tryz.ntmps93;unfold AS at*;go_upto_if 15 with fail;generalize w.alloc _=D at*;have b0:=b.o.cell 0;have b1:=b.o.cell 1;have b2:=b.o.cell 2;have b3:=b.o.cell 3;have b4:=b.o.cell 4;have b5:=b.o.cell 5;have b6:=b.o.cell 6;have b7:=b.o.cell 7;have b8:=b.o.cell 8;have b9:=b.o.cell 9;have d5:=b.o.cell 10;have d6:=b.o.cell 11;have d7:=b.o.cell 12;have d9:=b.o.cell 13;have e0:=b.o.cell 14;simp only [aU,aS,aT] at b0 b1 b2 b3 b4 b5 b6 b7 b8 b9 d5 d6 d7 d9 e0;have lb:=Ae b.o;obtain ⟨q1,q2⟩:=CP Z;have d2:g+vx (Aq X u.Yh).m9 u.q.i6<S.c.i7.length:=by have:=c.o.ba;omega
 have d1:=(c.o.m.at_ d2).2;obtain ⟨_,_,a5,a6⟩:=BS d1;have c4:EI d I B U fv sv x fs p0 c0 p X S D:=⟨c.o.r,c.o.p,c.o.st.h,c.o.m,by have:=c.o.ml;have:=c.o.k;omega,by have:=c.o.pl;have:=c.o.k;omega⟩;obtain ⟨Q,cm,r1,f0,f1,c7⟩:=c4.holds (by omega);have cq:=(c7 _ d2).1;have c5:=Aa (fun (W:World) (T:Ab (fun _=>False) D W)=>JH.at_ u (c.o.p6 T) j k l u.args.length r t m n o u.q Z);generalize g+vx (Aq X u.Yh).m9 u.q.i6=J at*;have e1:S.c.i7.length=S.c.i7.length:=rfl;generalize S.c.i7.length=ML at*;obtain ⟨z,a7⟩:∃z:Int,DD (Ak S.c.i7 J).v=z:=⟨_,rfl⟩;rw [a7] at cq a5 a6;have M:=Aa a5;have N:=Aa a6;have L:=Aa hn;have f2:=Aa a7;clear a5 a6 hn a7 d1 c4 c7 Z q1 q2 e1;unfold AS at c5;go_wp2_with fail;go_cut [8] (fun v wx=>v=.int .i64 z∧dJ (Ab (fun _=>False) D wx))
 case first=>
  go_region_law (go_simp;go_at_call 92;refine (c5.o _ ?_).mono ?_;exact (by repeat (first | exact Ab.refl _ _ | refine Ab.drew ?_ | refine Ab.drewN ?_ _ | refine Ab.alloc ?_ _));rintro e w7 ⟨rfl,d0⟩;have o7:=Aa (Ab.trans (X:=fun _=>False) (a:=D) (by repeat (first | exact Ab.refl _ _ | refine Ab.drew ?_ | refine Ab.drewN ?_ _ | refine Ab.alloc ?_ _)) d0);have g6:w7.cell? ⟨d,1,none⟩=some (.slice (some ⟨Q,0,none⟩) ML cm):=(aW (o7.o.block d f1 (fun q=>q))).trans r1;have f4:w7.cell? ⟨Q,J*4+1,none⟩=some (.int .i64 z):=(aW (o7.o.block Q f0 (fun q=>q))).trans cq;clear d0;dsimp only);all_goals
   go_wp2_with fail;go_meet
   case rel=>exact ⟨rfl,o7⟩
 case rest=>
  obtain ⟨rfl,C⟩:=hcut;have h:=Aa (c.o.p6 C.o);have a8:=Aa (fun (W:World) (T:Ab (fun _=>False) wc W)=>DU d I B p X S W (h.o.p6 T).r);by_cases F:(Ak S.c.i7 J).v.kind=1
  ·obtain ⟨H,E⟩:=N.o F;obtain ⟨f,V⟩:∃f,(Ak S.c.i7 J).v.y6=f:=⟨_,rfl⟩;rw [V] at H E;have c8:f<x.length:=by rw [c.o.st.h.Y0] at E;exact E
   have e8:=c.o.st.Yn f c8;have f5:=c.o.st.h.Yx;have e5:(Aq X f).p8≠s.args.length:=fun q=>L.o ⟨F,by rw [V];exact q⟩
   obtain ⟨xa,xb,xc,xd,R⟩:=h.o.r;have R0:=R.l9.cell 0;have g5:=Ae R.l9;have g4:=Ae h.o.p.pr;have P0:=h.o.p.pr.l9.cell 0;simp only [F7,aU,aS] at R0 P0;obtain ⟨cs,i,e6⟩:=h.o.p.fn;clear e6;obtain ⟨fa,fl,fc,c9⟩:=Ad i;rw [c9] at i P0;have e4:=Ah i;subst e4;obtain ⟨gf,rfl⟩:=As i (by omega);have g3:=(i.lt gf rfl).2;have Y:=h.o.p.fn;rw [c9] at Y;obtain ⟨tv,bv,vv,hc,a4,_⟩:=Y.get c8;obtain ⟨t1,t2,t3,rfl⟩:=Ad a4;have e7:=Ah a4;subst e7;have f3:=hc 3 (by decide);simp only [JB,aU,aS,aT] at f3;have a9:=Aa (Ar.f8 b.o C.o (fun q=>q));have d8:=a9.o.cell 8;simp only [aU,aS,aT] at d8;have g2:=Ae a9.o;have f6: -z=(f:Int)+1:=by omega
   have e9:decide (0≤z)=false:=by simp;omega
   have g1:¬0≤z:=by omega
   have f9:IntKind.i64.wrap ((f:Int)+1)=(f:Int)+1:=by rw [IntKind.wrap_i64];omega
   have g0:IntKind.i64.wrap (f:Int)=(f:Int):=by rw [IntKind.wrap_i64];omega
   have f7:((x[f].Yn.length:Int) !=(u.args.length:Int))=true:=by have e3:=d4.o;simp only [bne_iff_ne,ne_eq];omega
   generalize e2:x[f].Yn.length=TL at*;clear R i hc a4 Y e2 H E e8 e5 N L M F V;go_wp2_with fail;go_quiet (fail);go_wp2_with fail;refine (a8.o _ (by repeat (first | exact Ab.refl _ _ | refine Ab.drew ?_ | refine Ab.drewN ?_ _ | refine Ab.alloc ?_ _))).mono ?_;rintro e w9 ⟨rfl,y,A⟩;have O:=Aa y;have P:=Aa (((Be.s8 c6.o).trans (Be.s8 (C.o.trans (by repeat (first | exact Ab.refl _ _ | refine Ab.drew ?_ | refine Ab.drewN ?_ _ | refine Ab.alloc ?_ _))))).trans A);clear y A;go_wp2_with fail;go_ret;exact ⟨rfl,O.o,P.o⟩
  ·have H:=M.o.2 F;have e9:decide (0≤z)=true:=by simp;exact H
   clear N L M;go_wp2_with fail;go_quiet (fail);go_wp2_with fail;refine (a8.o _ (by repeat (first | exact Ab.refl _ _ | refine Ab.drew ?_ | refine Ab.drewN ?_ _ | refine Ab.alloc ?_ _))).mono ?_;rintro e w9 ⟨rfl,y,A⟩;have O:=Aa y;have P:=Aa (((Be.s8 c6.o).trans (Be.s8 (C.o.trans (by repeat (first | exact Ab.refl _ _ | refine Ab.drew ?_ | refine Ab.drewN ?_ _ | refine Ab.alloc ?_ _))))).trans A);clear y A;go_wp2_with fail;go_ret;exact ⟨rfl,O.o,P.o⟩
end Go.Proofs.YthppbgndiplgnaaGreatDoor

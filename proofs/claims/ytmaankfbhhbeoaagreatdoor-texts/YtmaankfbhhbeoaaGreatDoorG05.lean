/- One of the texts of the proof of texts_card_holds: TrJ TrK TrL. -/
import Derived.Test.YtmaankfbhhbeoaaGreatDoorG04
set_option maxRecDepth 100000
set_option maxHeartbeats 2000000
namespace Go.Proofs.YtmaankfbhhbeoaaGreatDoor
open Go.RowKit
theorem G7{w:World}(a c:Value):(w.alloc (.cells #[a,c] 124)).ownsRow w.heap.size 124 2 (.slice (some ⟨w.heap.size,0,none⟩) 1 1) 1 [a,c]:=
 ⟨rfl,.inr ⟨w.heap.size,1,#[a,c],rfl,Nat.le_refl _,heap_alloc_new w _,Nat.le_refl _,by unfold maxLen;omega,rfl,rfl⟩⟩
theorem Tryz.infoTB:(Tryz.prog.info? 124).map (fun i=>(i.zero,i.size,i.bytes))=some (some (.agg #[.int .i64 0,.slice none 0 0]),2,32):=by kernel_rfl
theorem Jc(H a5 f)(ih:∀k,k≤f→DY H a5 k)(b g n r z c w)(V:H≤b)(hG:Below H a5 w)(hB:H≤w.heap.size)(o:AH b g n r z w)(ht:AI g n r c w)(b2:z.d8<n)(A:(Ah c (n-1)).kind=0)(a:(Ah c z.d8).kind=7)(hf:2*(n-z.d8)≤f+1):
 Calls Tryz.prog 78 #[.pointer (some ⟨b,0,none⟩)] w fun e w'=>La b g n r w (A8 c n (f+1) z) e w':=by
 obtain ⟨x1,I⟩:∃y,Ae c n 7 z=y:=⟨_,rfl⟩;obtain ⟨W,Q⟩:∃y,Ae c n 20 x1=y:=⟨_,rfl⟩;obtain ⟨p,hp⟩:∃y,(Av c 12 W).f8=y:=⟨_,rfl⟩;obtain ⟨l3,y3,R⟩:∃l y,AD c n f (Ae c n 12 W) []=(l,y):=⟨_,_,rfl⟩;obtain ⟨E,S⟩:∃y,Ae c n 13 y3=y:=⟨_,rfl⟩;have e1:=Bd (n:=n) a (by omega);rw [I] at e1;have b3:x1.d8<n:=by rw [←I];exact AE A b2
 have P:=Ag A 20 b3;rw [Q] at P;have b4:=P.2;have g3:=Ag A 12 b4;have c3:2*(n-(Ae c n 12 W).d8)+1≤f:=by have:=P.1;have:=g3.1;omega
 have g4:=A6 A f (Ae c n 12 W) [] g3.2;rw [R] at g4;have g5:=Ag A 13 g4.2;rw [S] at g5;have a8:=g5.2;have e7:z.d8+1≤E.d8:=by have:=P.1;have:=g3.1;have:=g4.1;have:=g5.1;omega
 have lg:=ht.lt;have F:=Aa (Fw.start o ht);have HG:=Aa hG;have IH:=Aa ih;have HZ:=Aa A;have X1:=Aa I;have X2:=Aa Q;have XP:=Aa hp;have X3:=Aa R;have X4:=Aa S;by_cases h8:(Ah c E.d8).kind=8
 ·obtain ⟨x4,k4⟩:∃y,Ae c n 8 E=y:=⟨_,rfl⟩;obtain ⟨p2,b6⟩:∃y,(Av c 12 x4).f8=y:=⟨_,rfl⟩;obtain ⟨l5,y5,h5⟩:∃l y,AD c n f (Ae c n 12 x4) []=(l,y):=⟨_,_,rfl⟩;obtain ⟨x6,h6⟩:∃y,Ae c n 13 y5=y:=⟨_,rfl⟩;have hv:A8 c n (f+1) z=(.mk (Ec 11) [(p,l3),(p2,l5)],x6):=by rw [A8,if_pos a];simp only [I,Q,hp,R,S,if_pos h8,k4,b6,h5,h6]
  rw [hv];have g6:=Ag A 8 a8;rw [k4] at g6;have c2:=g6.2;have g7:=Ag A 12 c2;have d4:2*(n-(Ae c n 12 x4).d8)+1≤f:=by have:=g6.1;have:=g7.1;omega
  have d3:(((Ah c E.d8).kind:Int)==8)=true:=by simp [h8]
  have K4:=Aa k4;have d1:=Aa b6;have X5:=Aa h5;have X6:=Aa h6;obtain ⟨i0,hi,d9,e0,e3⟩:=info_parts Tryz.infoTB;clear I Q hp R S hv o ht A a hG ih P g3 e1 g4 g5 h8 k4 b6 h5 h6 g6 g7;go_enter Tryz.func78,Tryz.ntmps78;go_wp2_with fail;refine (Au b g n r 7 z c _ F.o.pa F.o.pt b2).mono ?_;rw [X1.o];rintro e w1 ⟨rfl,o,t⟩;have C:=Aa (F.o.call o t);clear o t F;go_wp2_with fail;refine (Au b g n r 20 x1 c _ C.o.pa C.o.pt b3).mono ?_;rw [X2.o];rintro e w2 ⟨rfl,o,t⟩;have m:=Aa (C.o.call o t);clear o t C;have e2:=m.o.d7.size;have d7:=Ad m.o.i8;go_wp2_with fail;refine (Dw H a5 f IH.o b g n r W c _ V (Ab.keeps HG.o m.o.d7 hB V) (by omega) m.o.pa m.o.pt b4 HZ.o c3).mono ?_;rw [XP.o,X3.o];simp only;rw [X4.o];rintro e B ⟨d,U,sv,rfl,K,hU,a3,L⟩;have a0:=K;obtain ⟨d2,a4,_⟩:=a0;obtain ⟨M,O,N,rfl⟩:=Af a4;have J:=(Ab.refl (fun _=>False) B).alloc (.cells #[.int .i64 p,.slice M O N] 124);have D:=Aa ((m.o.call a3 L).quiet J);have HT:=Aa (K.d7 J (fun _ _ q=>q));have G:=Aa hU;have HR:=Aa (G7 (w:=B) (.int .i64 p) (.slice M O N));have e4:=L.size;clear K hU a3 L a4 m J;go_wp2_with fail;refine (AJ b g n r E c _ D.o.pa D.o.pt a8).mono ?_;rintro e wk ⟨rfl,x⟩;have j:=Aa (D.o.quiet x);have a7:=Aa (HT.o.d7 x (fun _ _ q=>q));have a6:=Aa (Ac HR.o x (fun _ _ q=>q));have b7:=x.size;simp at b7;clear x D HT HR;go_wp2_with fail;refine (Au b g n r 8 E c _ j.o.pa j.o.pt a8).mono ?_;rw [K4.o];rintro e w4 ⟨rfl,c5,a1⟩;have Y:=Aa (j.o.call c5 a1);have e6:=j.o.bl;have c0:=Aa (a7.o.d7 a1 (fun k a=>by have:=(G.o k a).1;omega));have b9:=Aa (Ac a6.o a1 (fun k a=>by simp [Value.ownBlock] at a;omega));have e9:=a1.size;clear c5 a1 j a7 a6;go_wp2_with fail;refine (Dw H a5 f IH.o b g n r x4 c _ V (Ab.keeps HG.o Y.o.d7 hB V) (by omega) Y.o.pa Y.o.pt c2 HZ.o d4).mono ?_;rw [d1.o,X5.o];simp only;rw [X6.o];rintro e w5 ⟨d5,U5,f2,rfl,b1,c1,c6,a2⟩;have a0:=b1;obtain ⟨e5,c7,_⟩:=a0;obtain ⟨wa,wl,b8,rfl⟩:=Af c7;have Z:=Aa (Y.o.call c6 a2);have c9:=Aa b1;have b0:=Aa c1;have d0:=Aa (c0.o.d7 a2 (fun k a=>by have:=(G.o k a).1;omega));have c8:=Aa (Ac b9.o a2 (fun k a=>by simp [Value.ownBlock] at a;omega));have f0:=a2.size;clear b1 c1 c6 a2 c7 Y c0 b9;have d8:=c8.o;go_wp2_with (at_builtin;refine wpList_append_own _ rfl _ _ 142 rfl B.heap.size 124 i0 (.agg #[.int .i64 0,.slice none 0 0]) 2 32 Tryz.underlying142 hi d9 e0 e3 rfl (by decide) _ _ _ rfl (d8.alloc _) ⟨w5.heap.size,0,none⟩ 1 1 [.int .i64 p2,.slice wa wl b8] rfl rfl (Bn rfl _ _) (fun u hu=>by simp at hu;rcases hu with rfl | rfl<;>rfl) (by unfold maxLen;omega) (by omega) (by simp;omega) ?_;intro v' w6 a9 d6 e8;obtain ⟨ya,yl,yc,rfl⟩:=Af a9;have c4:(w5.alloc (.cells #[.int .i64 p2,.slice wa wl b8] 124)).grownBy w6 (some B.heap.size):=d6;have T:Ab (fun k=>k=B.heap.size) w5 w6:=Ab.grown ((Ab.refl _ _).alloc _) c4 (fun k a=>.inl (Option.some.inj a).symm);have s:=Aa (Fw.mk (Aq.d7 Z.o.pa T (by omega)) (Z.o.pt.d7 T (by omega)) (Z.o.i8.d7 T (by omega)) (Ab.grown (Z.o.d7.alloc _) c4 (fun k a=>.inr (by have:=Option.some.inj a;omega))) Z.o.bl);have q0:=s.o.i8.cell 0;have q1:=s.o.i8.cell 1;have q2:=s.o.i8.cell 2;have q3:=s.o.i8.cell 3;have q4:=s.o.i8.cell 4;have q5:=s.o.i8.cell 5;have q6:=s.o.i8.cell 6;have q7:=s.o.i8.cell 7;have qf:=s.o.i8.frozen;have ql:=Ad s.o.i8;simp only [Ni,Ng,Nh] at q0 q1 q2 q3 q4 q5 q6 q7);refine bodyPost_ret (v:=.agg (DX (Ec 11) (.slice none 0 0) (.slice ya yl yc))) (by simp [results,Tryz.results78,go_sem,DX,Ec,A7,q0,q1,q2,q3,q4,q5,q6,q7];try rfl) rfl ?_;have b5:b≠w.heap.size:=by omega
  have f1:=T.size;have T1:=d0.o.d7 T (fun k a=>by have:=(G.o k a).2;omega);have T2:=c9.o.d7 T (fun k a=>by have:=(b0.o k a).1;omega);refine ⟨max d d5+1,fun k=>U k∨U5 k∨Value.ownBlock (.slice ya yl yc)=some k,Ec 11,_,_,rfl,?_,?_,?_,?_⟩
  ·refine BB.d7 (X:=fun k=>k=w.heap.size) (w:=w6) ?_ ?_ ?_
   ·refine BB.blocks (svs:=[.slice M O N,.slice wa wl b8]) rfl (Ar a9 (Nat.zero_le _)) (fun k a=>.inr (.inr a)) ?_;intro i h h';have e:i=0∨i=1:=by simp at h;omega
    rcases e with rfl | rfl
    ·exact (T1.more (fun k a=>.inl a)).u8 (Nat.le_max_left _ _)
    ·exact (T2.more (fun k a=>.inr (.inl a))).u8 (Nat.le_max_right _ _)
   ·iterate 8 refine Ab.i7 ?_ _ _
    exact Ab.refl _ _
   ·intro k a;rcases a with a | a | a
    ·have:=(G.o k a).1;omega
    ·have:=(b0.o k a).1;omega
    ·have:=(a9.lt k a).1;omega
  ·intro k a;simp only [World.size_setCell];rcases a with a | a | a
   ·have:=G.o k a;omega
   ·have:=b0.o k a;omega
   ·have:=a9.lt k a;omega
  ·refine Aq.d7 (X:=fun k=>k=w.heap.size) s.o.pa ?_ b5;iterate 8 refine Ab.i7 ?_ _ _
   exact Ab.refl _ _
  ·iterate 8 refine Ab.l9 ?_ _ _ (Nat.le_refl _)
   exact s.o.d7
 ·have hv:A8 c n (f+1) z=(.mk (Ec 11) [(p,l3)],E):=by rw [A8,if_pos a];simp only [I,Q,hp,R,S,if_neg h8]
  rw [hv]
  have d3:(((Ah c E.d8).kind:Int)==8)=false:=by simp;omega
  clear I Q hp R S hv o ht A a hG ih P g3 e1 g4 g5 h8
  go_enter Tryz.func78,Tryz.ntmps78
  go_wp2_with fail
  refine (Au b g n r 7 z c _ F.o.pa F.o.pt b2).mono ?_
  rw [X1.o]
  rintro e w1 ⟨rfl,o,t⟩
  have C:=Aa (F.o.call o t)
  clear o t F
  go_wp2_with fail
  refine (Au b g n r 20 x1 c _ C.o.pa C.o.pt b3).mono ?_
  rw [X2.o]
  rintro e w2 ⟨rfl,o,t⟩
  have m:=Aa (C.o.call o t)
  clear o t C
  have e2:=m.o.d7.size
  have d7:=Ad m.o.i8
  go_wp2_with fail
  refine (Dw H a5 f IH.o b g n r W c _ V (Ab.keeps HG.o m.o.d7 hB V) (by omega) m.o.pa m.o.pt b4 HZ.o c3).mono ?_
  rw [XP.o,X3.o]
  simp only
  rw [X4.o]
  rintro e B ⟨d,U,sv,rfl,K,hU,a3,L⟩
  have a0:=K
  obtain ⟨d2,a4,_⟩:=a0
  obtain ⟨M,O,N,rfl⟩:=Af a4
  have J:=(Ab.refl (fun _=>False) B).alloc (.cells #[.int .i64 p,.slice M O N] 124)
  have D:=Aa ((m.o.call a3 L).quiet J)
  have HT:=Aa (K.d7 J (fun _ _ q=>q))
  have G:=Aa hU
  have HR:=Aa (G7 (w:=B) (.int .i64 p) (.slice M O N))
  have e4:=L.size
  clear K hU a3 L a4 m J
  go_wp2_with fail
  refine (AJ b g n r E c _ D.o.pa D.o.pt a8).mono ?_
  rintro e wk ⟨rfl,x⟩
  have j:=Aa (D.o.quiet x)
  have a7:=Aa (HT.o.d7 x (fun _ _ q=>q))
  have a6:=Aa (Ac HR.o x (fun _ _ q=>q))
  have b7:=x.size
  simp at b7
  clear x D HT HR
  have q0:=j.o.i8.cell 0
  have q1:=j.o.i8.cell 1
  have q2:=j.o.i8.cell 2
  have q3:=j.o.i8.cell 3
  have q4:=j.o.i8.cell 4
  have q5:=j.o.i8.cell 5
  have q6:=j.o.i8.cell 6
  have q7:=j.o.i8.cell 7
  have qf:=j.o.i8.frozen
  have ql:=Ad j.o.i8
  simp only [Ni,Ng,Nh] at q0 q1 q2 q3 q4 q5 q6 q7
  go_wp2
  refine bodyPost_ret (v:=.agg (DX (Ec 11) (.slice none 0 0) (.slice (some ⟨B.heap.size,0,none⟩) 1 1))) (by simp [results,Tryz.results78,go_sem,DX,Ec,A7,q0,q1,q2,q3,q4,q5,q6,q7];try rfl) rfl ?_
  have b5:b≠w.heap.size:=by have:=j.o.bl;omega
  refine ⟨d+1,fun k=>U k∨k=B.heap.size,Ec 11,_,_,rfl,?_,?_,?_,?_⟩
  ·refine BB.d7 (X:=fun k=>k=w.heap.size) (w:=wk) ?_ ?_ (fun k a=>by rcases a with a | a;have:=(G.o k a).1;omega;omega)
   ·refine BB.blocks (svs:=[.slice M O N]) rfl (Ar a6.o (Nat.zero_le _)) (fun k a=>.inr (by simp [Value.ownBlock] at a;omega)) ?_;intro i h h';have e:i=0:=by simp at h;omega
    subst e;exact a7.o.more (fun k a=>.inl a)
   ·iterate 8 refine Ab.i7 ?_ _ _
    exact Ab.refl _ _
  ·intro k a
   simp only [World.size_setCell];rcases a with a | a
   ·have:=G.o k a;omega
   ·omega
  ·refine Aq.d7 (X:=fun k=>k=w.heap.size) j.o.pa ?_ b5
   iterate 8 refine Ab.i7 ?_ _ _
   exact Ab.refl _ _
  ·iterate 8 refine Ab.l9 ?_ _ _ (Nat.le_refl _)
   exact j.o.d7
theorem GC(O R)(hF:Bi O R)(f)(ih:∀k,k≤f→DY O R k):DY O R (f+1):=by
 intro b g n K l i w Q hG hB m ht M Z a2 hf;have a:=Aa (Fw.start m ht);have HG:=Aa hG;have IH:=Aa ih;have HZ:=Aa Z;have HF:=Aa hF;by_cases L:(Ah i l.d8).kind=7
 ·have S:=Aa L;clear m ht Z hG ih hF a2;obtain ⟨r,m⟩:∃r,A8 i n (f+1) l=r:=⟨_,rfl⟩;rw [m];have a1:=Aa m;have a9:=Aa L;clear m L;go_enter Tryz.func73,Tryz.ntmps73;go_wp2_with fail;refine (AJ b g n K l i _ a.o.pa a.o.pt M).mono ?_;rw [S.o];rintro e w0 ⟨rfl,B⟩;have t:=Aa (a.o.quiet B);clear B a;have a:=t;clear t;have a7:=a.o.d7.size;have a5:=Ad a.o.i8;go_wp2_with fail;refine (Jc O R f IH.o b g n K l i _ Q (Ab.keeps HG.o a.o.d7 hB Q) (by omega) a.o.pa a.o.pt M HZ.o a9.o hf).mono ?_;rw [a1.o];rintro e w1 ⟨d,U,s,av,bv,rfl,N,V,p,o⟩;obtain ⟨⟨x,A,z,rfl⟩,⟨ba,bl,bc,rfl⟩⟩:=N.MB;have c:=Aa (a.o.call p o);have a0:=Aa N;have T:=Aa V;have a8:=o.size;clear N V p o a;have C:=c.o.i8.cell 0;have D:=c.o.i8.cell 1;have E:=c.o.i8.cell 2;have F:=c.o.i8.cell 3;have G:=c.o.i8.cell 4;have H:=c.o.i8.cell 5;have I:=c.o.i8.cell 6;have J:=c.o.i8.cell 7;have qf:=c.o.i8.frozen;have ql:=Ad c.o.i8;simp only [Ni,Ng,Nh] at C D E F G H I J;unfold DX;go_wp2;refine bodyPost_ret (v:=.agg (DX s (.slice x A z) (.slice ba bl bc))) (by simp [results,Tryz.results73,go_sem,DX,C,D,E,F,G,H,I,J]) rfl ?_;have W:b≠w.heap.size:=by have:=c.o.bl;omega
  refine ⟨d,U,s,_,_,rfl,?_,?_,?_,?_⟩
  ·refine a0.o.d7 (X:=fun k=>k=w.heap.size) ?_ (fun k h=>by have:=(T.o k h).1;omega);iterate 8 refine Ab.i7 ?_ _ _
   exact Ab.refl _ _
  ·intro k h;simp only [World.size_setCell];have:=T.o k h;omega
  ·refine Aq.d7 (X:=fun k=>k=w.heap.size) c.o.pa ?_ W;iterate 8 refine Ab.i7 ?_ _ _
   exact Ab.refl _ _
  ·iterate 8 refine Ab.l9 ?_ _ _ (Nat.le_refl _)
   exact c.o.d7
 ·by_cases P:(Ah i l.d8).kind=9
  ·have S:=Aa P;clear m ht Z hG ih hF a2;obtain ⟨r,m⟩:∃r,A8 i n (f+1) l=r:=⟨_,rfl⟩;rw [m];have a1:=Aa m;have b0:=Aa P;clear m P L;go_enter Tryz.func73,Tryz.ntmps73;go_wp2_with fail;refine (AJ b g n K l i _ a.o.pa a.o.pt M).mono ?_;rw [S.o];rintro e w0 ⟨rfl,B⟩;have t:=Aa (a.o.quiet B);clear B a;have a:=t;clear t;have a7:=a.o.d7.size;have a5:=Ad a.o.i8;go_wp2_with fail;refine (Jt O R f IH.o b g n K l i _ Q (Ab.keeps HG.o a.o.d7 hB Q) (by omega) a.o.pa a.o.pt M HZ.o b0.o hf).mono ?_;rw [a1.o];rintro e w1 ⟨d,U,s,av,bv,rfl,N,V,p,o⟩;obtain ⟨⟨x,A,z,rfl⟩,⟨ba,bl,bc,rfl⟩⟩:=N.MB;have c:=Aa (a.o.call p o);have a0:=Aa N;have T:=Aa V;have a8:=o.size;clear N V p o a;have C:=c.o.i8.cell 0;have D:=c.o.i8.cell 1;have E:=c.o.i8.cell 2;have F:=c.o.i8.cell 3;have G:=c.o.i8.cell 4;have H:=c.o.i8.cell 5;have I:=c.o.i8.cell 6;have J:=c.o.i8.cell 7;have qf:=c.o.i8.frozen;have ql:=Ad c.o.i8;simp only [Ni,Ng,Nh] at C D E F G H I J;unfold DX;go_wp2;refine bodyPost_ret (v:=.agg (DX s (.slice x A z) (.slice ba bl bc))) (by simp [results,Tryz.results73,go_sem,DX,C,D,E,F,G,H,I,J]) rfl ?_;have W:b≠w.heap.size:=by have:=c.o.bl;omega
   refine ⟨d,U,s,_,_,rfl,?_,?_,?_,?_⟩
   ·refine a0.o.d7 (X:=fun k=>k=w.heap.size) ?_ (fun k h=>by have:=(T.o k h).1;omega);iterate 8 refine Ab.i7 ?_ _ _
    exact Ab.refl _ _
   ·intro k h;simp only [World.size_setCell];have:=T.o k h;omega
   ·refine Aq.d7 (X:=fun k=>k=w.heap.size) c.o.pa ?_ W;iterate 8 refine Ab.i7 ?_ _ _
    exact Ab.refl _ _
   ·iterate 8 refine Ab.l9 ?_ _ _ (Nat.le_refl _)
    exact c.o.d7
  ·obtain ⟨s1,x1,h1⟩:∃s y,AP i n l=(s,y):=⟨_,_,rfl⟩;obtain ⟨x2,h2⟩:∃y,Ae i n 14 x1=y:=⟨_,rfl⟩;have hv:A8 i n (f+1) l=(.mk s1 [],x2):=by rw [A8,if_neg L,if_neg P,h1];simp only [h2]
   rw [hv];have g1:=Fl Z M;rw [h1] at g1;have b1:=g1.2;obtain ⟨kk,a3⟩:∃k,(Ah i l.d8).kind=k:=⟨_,rfl⟩;rw [a3] at L P;have S:=Aa a3;have j7:((kk:Int)==7)=false:=by simp;omega
   have j9:((kk:Int)==9)=false:=by simp;omega
   have X1:=Aa h1;have X2:=Aa h2;clear m ht Z hG ih hF a2 h1 h2 hv a3 L P g1;go_enter Tryz.func73,Tryz.ntmps73;go_wp2_with fail;refine (AJ b g n K l i _ a.o.pa a.o.pt M).mono ?_;rw [S.o];rintro e w0 ⟨rfl,B⟩;have t:=Aa (a.o.quiet B);clear B a;have a:=t;clear t;have a7:=a.o.d7.size;have a5:=Ad a.o.i8;go_wp2_with fail;refine (Kb O R HF.o b g n K l i _ Q (Ab.keeps HG.o a.o.d7 hB Q) (by omega) a.o.pa a.o.pt M HZ.o).mono ?_;rw [X1.o];rintro e w1 ⟨av,rfl,a4,p,o⟩;obtain ⟨x,A,z,rfl⟩:=Af a4;have hA:=(Ab.refl (fun _=>False) w1).alloc (.cells (DN s1 (.slice x A z)) 144);have c:=Aa ((a.o.call p o).quiet hA);have L1:=Aa (Aq.new w1 (DN s1 (.slice x A z)) 144);have O1:=Aa (Ac a4 hA (fun _ _ q=>q));have a8:=o.size;have b3:b<w1.heap.size:=Ad p;clear a4 p o a hA;unfold DN at c L1 O1⊢;go_wp2_with fail;refine (Au b g n K 14 x1 i _ c.o.pa c.o.pt b1).mono ?_;rw [X2.o];rintro e w2 ⟨rfl,a6,Y⟩;have j:=Aa (c.o.call a6 Y);have u:=Aa (L1.o.d7 Y (by omega));have O2:=Aa (Ac O1.o Y (fun k h=>by have:=(O1.o.lt k h).1;have:=c.o.bl;omega));have b2:=Y.size;simp at b2;clear a6 Y c L1 O1;have m0:=u.o.cell 0;have m1:=u.o.cell 1;have m2:=u.o.cell 2;have m3:=u.o.cell 3;have m4:=u.o.cell 4;have m5:=u.o.cell 5;have m6:=u.o.cell 6;have m7:=u.o.cell 7;simp only [Ni,Ng,Nh] at m0 m1 m2 m3 m4 m5 m6 m7;have C:=j.o.i8.cell 0;have D:=j.o.i8.cell 1;have E:=j.o.i8.cell 2;have F:=j.o.i8.cell 3;have G:=j.o.i8.cell 4;have H:=j.o.i8.cell 5;have I:=j.o.i8.cell 6;have J:=j.o.i8.cell 7;have qf:=j.o.i8.frozen;have ql:=Ad j.o.i8;simp only [Ni,Ng,Nh] at C D E F G H I J;go_wp2;refine bodyPost_ret (v:=.agg (DX s1 (.slice x A z) (.slice none 0 0))) (by simp [results,Tryz.results73,go_sem,DX,C,D,E,F,G,H,I,J]) rfl ?_;have W:b≠w.heap.size:=by have:=j.o.bl;omega
   refine ⟨1,fun k=>Value.ownBlock (.slice x A z)=some k,s1,_,_,rfl,?_,?_,?_,?_⟩
   ·refine BB.d7 (X:=fun k=>k=w.heap.size) (w:=w2) (BB.flat (Ar O2.o (Nat.zero_le _)) (fun k h=>h)) ?_ (fun k h=>by have:=(O2.o.lt k h).1;omega);iterate 8 refine Ab.i7 ?_ _ _
    exact Ab.refl _ _
   ·intro k h;simp only [World.size_setCell];have:=O2.o.lt k h;omega
   ·refine Aq.d7 (X:=fun k=>k=w.heap.size) j.o.pa ?_ W;iterate 8 refine Ab.i7 ?_ _ _
    exact Ab.refl _ _
   ·iterate 8 refine Ab.l9 ?_ _ _ (Nat.le_refl _)
    exact j.o.d7
theorem Dq(a:Nat)(c:World)(hF:Bi a c):∀f,∀k,k≤f→DY a c k
 | 0,k,d=>by intro b g n i x m w _ _ _ _ _ j _ _ l;omega
 | f+1,k,d=>by
   by_cases h:k≤f
   ·exact Dq a c hF f k h
   ·have e:k=f+1:=by omega
    subst e;exact GC a c hF f (Dq a c hF f)
structure TF where
 name:PT
 l8:List PT
 f8:Nat
 t7:List TS
def FA(a:List PT)(n:Nat)(x:PS):TF×PS:=
 let b:=Ae a n 3 x
 let c:=Ae a n 1 b
 let y:=A0 a n c
 let r:=AD a n (2*n+1) (Ae a n 12 y.2) []
 (⟨Av a 1 b,y.1,(Av a 12 y.2).f8,r.1⟩,Ae a n 13 r.2)
def Ia(t:TF)(a b:Value):Array Value:=#[.string t.name.d9,.int .i64 t.name.f8,a,.int .i64 t.f8,b]
def Ez(d:Nat)(U:Nat→Prop)(w:World)(t:TF)(c:List Value):Prop:=∃a b,c=(Ia t a b).toList∧w.ownsRow 0 120 2 a t.l8.length (Ba t.l8)∧(∀k,a.ownBlock=some k→U k)∧CI d U w b t.t7
theorem Ez.d7{d}{U:Nat→Prop}{w f t c}{X:Nat→Prop}(h:Ez d U w t c)(b:Ab X w f)(e:∀k,U k→¬X k):Ez d U f t c:=by obtain ⟨g,sv,i,j,a,l⟩:=h;exact ⟨g,sv,i,Ac j b (fun k m=>e k (a k m)),a,l.d7 b e⟩
theorem Ez.more{d}{U U':Nat→Prop}{w t c}(h:Ez d U w t c)(a:∀k,U k→U' k):Ez d U' w t c:=by obtain ⟨b,l,e,f,g,i⟩:=h;exact ⟨b,l,e,f,fun k j=>a k (g k j),i.more a⟩
theorem Ez.u8{d e}{U:Nat→Prop}{w t c}(h:Ez d U w t c)(j:d≤e):Ez e U w t c:=by obtain ⟨a,k,b,f,g,i⟩:=h;exact ⟨a,k,b,f,g,i.u8 j⟩
def Ml(b g n m:Nat)(w:World)(r:TF×PS)(e:Ending)(f:World):Prop:=
 ∃(d:Nat) (U:Nat→Prop) (a:Option Addr) (l c:Nat) (h:Option Addr) (j i:Nat),e=.returned (.agg (Ia r.1 (.slice a l c) (.slice h j i)))∧Ez d U f r.1 (Ia r.1 (.slice a l c) (.slice h j i)).toList∧(∀k,U k→w.heap.size≤k∧k<f.heap.size)∧AH b g n m r.2 f∧Ab (fun k=>k=b) w f
theorem Dy{g n}(a:(Ah g (n-1)).kind=0){x}(h:x.d8<n):EA n x (FA g n x).2:=by have b:=Ag a 3 h;have c:=b.trans (Ag a 1 b.2);have d:=c.trans (CK a c.2);have e:=d.trans (Ag a 12 d.2);have f:=e.trans (A6 a (2*n+1) _ [] e.2);exact f.trans (Ag a 13 f.2)
theorem Gd{b n}(a:(Ah b (n-1)).kind=0){x}(j:x.d8<n)(k:(Ah b x.d8).kind=3):x.d8+1≤(FA b n x).2.d8:=by have h:=Ag a 3 j;have e:=Bd (n:=n) k (by omega);have c:=Ag a 1 h.2;have d:=c.trans (CK a c.2);have f:=d.trans (Ag a 12 d.2);have g:=f.trans (A6 a (2*n+1) _ [] f.2);have i:=g.trans (Ag a 13 g.2);have:=i.1;unfold FA;simp only;omega
abbrev Mm:Array Value:=#[.string {data:=#[]},.int .i64 0,.slice none 0 0,.int .i64 0,.slice none 0 0]
theorem EK(j G)(hF:Bi j G)(b g n i r d w)(hb:j≤b)(hG:Below j G w)(hB:j≤w.heap.size)(F:AH b g n i r w)(u:AI g n i d w)(a8:r.d8<n)(x:(Ah d (n-1)).kind=0):
 Calls Tryz.prog 54 #[.pointer (some ⟨b,0,none⟩)] w fun e w'=>Ml b g n i w (FA d n r) e w':=by
 have lr:=Ad F;have lg:=u.lt;have P:=u.ne F (by decide);obtain ⟨H,o⟩:∃y,Ae d n 3 r=y:=⟨_,rfl⟩;obtain ⟨Y,s⟩:∃y,Ae d n 1 H=y:=⟨_,rfl⟩;obtain ⟨f,S⟩:∃y,Av d 1 H=y:=⟨_,rfl⟩;obtain ⟨l3,z,C⟩:∃l y,A0 d n Y=(l,y):=⟨_,_,rfl⟩;obtain ⟨p4,T⟩:∃y,(Av d 12 z).f8=y:=⟨_,rfl⟩;obtain ⟨l4,y4,M⟩:∃l y,AD d n (2*n+1) (Ae d n 12 z) []=(l,y):=⟨_,_,rfl⟩;obtain ⟨x5,N⟩:∃y,Ae d n 13 y4=y:=⟨_,rfl⟩;have hv:FA d n r=(⟨f,l3,p4,l4⟩,x5):=by simp only [FA,o,s,S,C,T,M,N]
 rw [hv];have a9:H.d8<n:=by rw [←o];exact AE x a8
 have b5:Y.d8<n:=by rw [←s];exact AE x a9
 have c8:z.d8<n:=by have:=J8 x b5;rw [C] at this;exact this
 have IH:=Aa (Dq j G hF (2*n+1));have HG:=Aa hG;have HZ:=Aa x;have X1:=Aa o;have X2:=Aa s;have K2:=Aa S;have X3:=Aa C;have K4:=Aa T;have X4:=Aa M;have X5:=Aa N;clear o s S C T M N hv x hG hF;go_enter Tryz.func54,Tryz.ntmps54;go_wp2_with fail;refine (Au b g n i 3 r d _ (Aq.alloc F _) (u.d7 ((Ab.refl (fun _=>False) _).alloc _) (fun q=>q)) a8).mono ?_;rw [X1.o];rintro e w2 ⟨rfl,b7,D⟩;have Z:=Aa ((Aq.new w Mm 126).d7 D (by omega));have a1:=Aa (((Ab.refl (fun k=>k=b) w).alloc (.cells Mm 126)).trans D);have K:=Aa ((u.d7 ((Ab.refl (fun _=>False) _).alloc (.cells Mm 126)) (fun q=>q)).d7 D P);have a3:=Aa b7;clear b7 D F u;go_wp2_with fail;refine (Bq b g n i H d _ a3.o K.o a9).mono ?_;rw [X2.o,K2.o];rintro e w3 ⟨rfl,R,E⟩;have I:=Aa (Z.o.d7 E (by omega));have a2:=Aa (a1.o.trans E);have L:=Aa (K.o.d7 E P);have a4:=Aa R;have d9:=Ad I.o;have e2:=Ad R;clear R E Z a1 K a3;unfold Fu;go_wp2_with fail;refine (E9 b g n i Y d _ (Aq.alloc a4.o _) (L.o.d7 ((Ab.refl (fun _=>False) _).alloc _) (fun q=>q)) b5 HZ.o).mono ?_;rw [X3.o];rintro e w4 ⟨v,rfl,Q,b8,t⟩;obtain ⟨U,W,V,rfl⟩:=Af Q;have A:=Aa ((Aq.new w3 #[.string f.d9,.int .i64 f.f8] 120).d7 t (by omega));have h:=Aa ((I.o.alloc (.cells #[.string f.d9,.int .i64 f.f8] 120)).d7 t (by omega));have J:=Aa ((a2.o.alloc (.cells #[.string f.d9,.int .i64 f.f8] 120)).trans t);have c5:=Aa ((L.o.d7 ((Ab.refl (fun _=>False) _).alloc (.cells #[.string f.d9,.int .i64 f.f8] 120)) (fun q=>q)).d7 t P);have c3:=Aa b8;have B:=Aa Q;have n0:=A.o.cell 0;have n1:=A.o.cell 1;have b0:=h.o.cell 0;have b1:=h.o.cell 1;have b2:=h.o.cell 2;have b3:=h.o.cell 3;have b4:=h.o.cell 4;have bf:=h.o.frozen;simp only [Ni,Ng,Nh] at n0 n1 b0 b1 b2 b3 b4;have e0:=Ad A.o;have e1:=Ad h.o;have d7:=J.o.size;have c9:2*(n-(Ae d n 12 z).d8)+1≤2*n+1:=by omega
 clear b8 t Q I a2 L a4;go_wp2_with fail;go_region_with (go_at_call 66;refine (Dw j G (2*n+1) IH.o b g n i z d _ hb (Ab.keeps HG.o (J.o.t8 (by repeat (first | exact Ab.refl _ _ | refine Ab.drew ?_ | refine Ab.drewN ?_ _ | refine Ab.alloc ?_ _))) hB hb) (by simp;omega) (Aq.d7 (X:=fun _=>False) c3.o (by repeat (first | exact Ab.refl _ _ | refine Ab.drew ?_ | refine Ab.drewN ?_ _ | refine Ab.alloc ?_ _)) (fun q=>q)) (c5.o.d7 (X:=fun _=>False) (by repeat (first | exact Ab.refl _ _ | refine Ab.drew ?_ | refine Ab.drewN ?_ _ | refine Ab.alloc ?_ _)) (fun q=>q)) c8 HZ.o c9).mono ?_;rw [K4.o,X4.o];simp only;rw [X5.o];rintro e w5 ⟨d5,U5,e3,rfl,O,a7,b9,b6⟩;have c7:=O;obtain ⟨d6,c0,_⟩:=c7;obtain ⟨wa,wl,c1,rfl⟩:=Af c0;have p:=Ab.trans (X:=fun k=>k=b) (a:=w4) (by repeat (first | exact Ab.refl _ _ | refine Ab.drew ?_ | refine Ab.drewN ?_ _ | refine Ab.alloc ?_ _)) b6;have a0:=Aa (A.o.d7 p (by omega));have m:=Aa (h.o.d7 p (by omega));have a6:=Aa (Ac B.o p (fun k c=>by have:=(B.o.lt k c).1;simp at this;omega));have m0:=a0.o.cell 0;have m1:=a0.o.cell 1;have d0:=m.o.cell 0;have d1:=m.o.cell 1;have d2:=m.o.cell 2;have d3:=m.o.cell 3;have d4:=m.o.cell 4;have df:=m.o.frozen;simp only [Ni,Ng,Nh] at m0 m1 d0 d1 d2 d3 d4;have c6:=Aa O;have a5:=Aa a7;have c2:=Aa (J.o.trans p);have c4:=Aa b9;have d8:=p.size;clear O a7 b9 b6 p c0);all_goals
  go_wp2;refine bodyPost_ret (v:=.agg (Ia ⟨f,l3,p4,l4⟩ (.slice U W V) (.slice wa wl c1))) (by simp [results,Tryz.results54,go_sem,Ia,d0,d1,d2,d3,d4]) rfl ?_;refine ⟨d5,fun k=>U5 k∨Value.ownBlock (.slice U W V)=some k,U,W,V,wa,wl,c1,rfl,?_,?_,?_,?_⟩
  ·refine Ez.d7 (X:=fun k=>k=w.heap.size) (w:=w5) ⟨_,_,rfl,Ar a6.o (Nat.zero_le _),fun k c=>.inr c,c6.o.more (fun k c=>.inl c)⟩ ?_ ?_
   ·iterate 5 refine Ab.i7 ?_ _ _
    exact Ab.refl _ _
   ·intro k c;rcases c with c | c
    ·have:=(a5.o k c).1;simp at this;omega
    ·have:=(B.o.lt k c).1;simp at this;omega
  ·intro k c;simp only [World.size_setCell];rcases c with c | c
   ·have:=a5.o k c;simp at this;omega
   ·have o:=(B.o.lt k c).1;have s:=(a6.o.lt k c).2;simp at o;omega
  ·refine Aq.d7 (X:=fun k=>k=w.heap.size) c4.o ?_ (by omega);iterate 5 refine Ab.i7 ?_ _ _
   exact Ab.refl _ _
  ·iterate 5 refine Ab.l9 ?_ _ _ (Nat.le_refl _)
   exact c2.o
end Go.Proofs.YtmaankfbhhbeoaaGreatDoor

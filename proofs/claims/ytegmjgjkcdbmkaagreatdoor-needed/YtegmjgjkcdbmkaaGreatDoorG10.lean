/- One of the texts of the proof: ChA ChB ChC CkD TrJ TrK TrL TrM. -/
import Derived.Test.YtegmjgjkcdbmkaaGreatDoorG09
set_option maxRecDepth 100000
set_option maxHeartbeats 2000000
namespace Go.Proofs.YtegmjgjkcdbmkaaGreatDoor
open Go.RowKit Go.Maps
theorem Ma{w:World}(a c:Value):(w.alloc (.cells #[a,c] 132)).ownsRow w.heap.size 132 2 (.slice (some ⟨w.heap.size,0,none⟩) 1 1) 1 [a,c]:=
 ⟨rfl,.inr ⟨w.heap.size,1,#[a,c],rfl,Nat.le_refl _,heap_alloc_new w _,Nat.le_refl _,by unfold maxLen;omega,rfl,rfl⟩⟩
theorem Tryz.infoTB:(Tryz.prog.info? 132).map (fun i=>(i.zero,i.size,i.bytes))=some (some (.agg #[.int .i64 0,.slice none 0 0]),2,32):=by kernel_rfl
theorem Pw(H a5 f)(ih:∀k,k≤f→Gh H a5 k)(b g n r z c w)(V:H≤b)(hG:Below H a5 w)(hB:H≤w.heap.size)(o:AR b g n r z w)(ht:AZ g n r c w)(b2:z.next<n)(A:(Ag c (n-1)).kind=0)(a:(Ag c z.next).kind=7)(hf:2*(n-z.next)≤f+1):
 Calls Tryz.prog 177 #[.pointer (some ⟨b,0,none⟩)] w fun e w'=>VO b g n r w (AV c n (f+1) z) e w':=by
 obtain ⟨x1,I⟩:∃y,Af c n 7 z=y:=⟨_,rfl⟩;obtain ⟨W,Q⟩:∃y,Af c n 20 x1=y:=⟨_,rfl⟩;obtain ⟨p,hp⟩:∃y,(Ax c 12 W).c9=y:=⟨_,rfl⟩;obtain ⟨l3,y3,R⟩:∃l y,AB c n f (Af c n 12 W) []=(l,y):=⟨_,_,rfl⟩;obtain ⟨E,S⟩:∃y,Af c n 13 y3=y:=⟨_,rfl⟩;have e1:=BE (n:=n) a (by omega);rw [I] at e1;have b3:x1.next<n:=by rw [←I];exact AO A b2
 have P:=Ah A 20 b3;rw [Q] at P;have b4:=P.2;have g3:=Ah A 12 b4;have c3:2*(n-(Af c n 12 W).next)+1≤f:=by have:=P.1;have:=g3.1;omega
 have g4:=Bo A f (Af c n 12 W) [] g3.2;rw [R] at g4;have g5:=Ah A 13 g4.2;rw [S] at g5;have a8:=g5.2;have e7:z.next+1≤E.next:=by have:=P.1;have:=g3.1;have:=g4.1;have:=g5.1;omega
 have lg:=ht.lt;have F:=Aa (JX.start o ht);have HG:=Aa hG;have IH:=Aa ih;have HZ:=Aa A;have X1:=Aa I;have X2:=Aa Q;have XP:=Aa hp;have X3:=Aa R;have X4:=Aa S;by_cases h8:(Ag c E.next).kind=8
 ·obtain ⟨x4,k4⟩:∃y,Af c n 8 E=y:=⟨_,rfl⟩;obtain ⟨p2,b6⟩:∃y,(Ax c 12 x4).c9=y:=⟨_,rfl⟩;obtain ⟨l5,y5,h5⟩:∃l y,AB c n f (Af c n 12 x4) []=(l,y):=⟨_,_,rfl⟩;obtain ⟨x6,h6⟩:∃y,Af c n 13 y5=y:=⟨_,rfl⟩;have hv:AV c n (f+1) z=(.mk (Dh 11) [(p,l3),(p2,l5)],x6):=by rw [AV,if_pos a];simp only [I,Q,hp,R,S,if_pos h8,k4,b6,h5,h6]
  rw [hv];have g6:=Ah A 8 a8;rw [k4] at g6;have c2:=g6.2;have g7:=Ah A 12 c2;have d4:2*(n-(Af c n 12 x4).next)+1≤f:=by have:=g6.1;have:=g7.1;omega
  have d3:(((Ag c E.next).kind:Int)==8)=true:=by simp [h8]
  have K4:=Aa k4;have d1:=Aa b6;have X5:=Aa h5;have X6:=Aa h6;obtain ⟨i0,hi,d9,e0,e3⟩:=info_parts Tryz.infoTB;clear I Q hp R S hv o ht A a hG ih P g3 e1 g4 g5 h8 k4 b6 h5 h6 g6 g7;go_enter Tryz.func177,Tryz.ntmps177;go_wp2_with fail;refine (AG b g n r 7 z c _ F.o.pa F.o.pt b2).mono ?_;rw [X1.o];rintro e w1 ⟨rfl,o,t⟩;have C:=Aa (F.o.call o t);clear o t F;go_wp2_with fail;refine (AG b g n r 20 x1 c _ C.o.pa C.o.pt b3).mono ?_;rw [X2.o];rintro e w2 ⟨rfl,o,t⟩;have m:=Aa (C.o.call o t);clear o t C;have e2:=m.o.O.size;have d7:=Ae m.o.l7;go_wp2_with fail;refine (ES H a5 f IH.o b g n r W c _ V (Ab.keeps HG.o m.o.O hB V) (by omega) m.o.pa m.o.pt b4 HZ.o c3).mono ?_;rw [XP.o,X3.o];simp only;rw [X4.o];rintro e B ⟨d,U,sv,rfl,K,hU,a3,L⟩;have a0:=K;obtain ⟨d2,a4,_⟩:=a0;obtain ⟨M,O,N,rfl⟩:=Ad a4;have J:=(Ab.refl (fun _=>False) B).alloc (.cells #[.int .i64 p,.slice M O N] 132);have D:=Aa ((m.o.call a3 L).quiet J);have HT:=Aa (K.O J (fun _ _ q=>q));have G:=Aa hU;have HR:=Aa (Ma (w:=B) (.int .i64 p) (.slice M O N));have e4:=L.size;clear K hU a3 L a4 m J;go_wp2_with fail;refine (AS b g n r E c _ D.o.pa D.o.pt a8).mono ?_;rintro e wk ⟨rfl,x⟩;have j:=Aa (D.o.quiet x);have a7:=Aa (HT.o.O x (fun _ _ q=>q));have a6:=Aa (Ac HR.o x (fun _ _ q=>q));have b7:=x.size;simp at b7;clear x D HT HR;go_wp2_with fail;refine (AG b g n r 8 E c _ j.o.pa j.o.pt a8).mono ?_;rw [K4.o];rintro e w4 ⟨rfl,c5,a1⟩;have Y:=Aa (j.o.call c5 a1);have e6:=j.o.bl;have c0:=Aa (a7.o.O a1 (fun k a=>by have:=(G.o k a).1;omega));have b9:=Aa (Ac a6.o a1 (fun k a=>by simp [Value.ownBlock] at a;omega));have e9:=a1.size;clear c5 a1 j a7 a6;go_wp2_with fail;refine (ES H a5 f IH.o b g n r x4 c _ V (Ab.keeps HG.o Y.o.O hB V) (by omega) Y.o.pa Y.o.pt c2 HZ.o d4).mono ?_;rw [d1.o,X5.o];simp only;rw [X6.o];rintro e w5 ⟨d5,U5,f2,rfl,b1,c1,c6,a2⟩;have a0:=b1;obtain ⟨e5,c7,_⟩:=a0;obtain ⟨wa,wl,b8,rfl⟩:=Ad c7;have Z:=Aa (Y.o.call c6 a2);have c9:=Aa b1;have b0:=Aa c1;have d0:=Aa (c0.o.O a2 (fun k a=>by have:=(G.o k a).1;omega));have c8:=Aa (Ac b9.o a2 (fun k a=>by simp [Value.ownBlock] at a;omega));have f0:=a2.size;clear b1 c1 c6 a2 c7 Y c0 b9;have d8:=c8.o;go_wp2_with (at_builtin;refine wpList_append_own _ rfl _ _ 235 rfl B.heap.size 132 i0 (.agg #[.int .i64 0,.slice none 0 0]) 2 32 Tryz.underlying235 hi d9 e0 e3 rfl (by decide) _ _ _ rfl (d8.alloc _) ⟨w5.heap.size,0,none⟩ 1 1 [.int .i64 p2,.slice wa wl b8] rfl rfl (A5 rfl _ _) (fun u hu=>by simp at hu;rcases hu with rfl | rfl<;>rfl) (by unfold maxLen;omega) (by omega) (by simp;omega) ?_;intro v' w6 a9 d6 e8;obtain ⟨ya,yl,yc,rfl⟩:=Ad a9;have c4:(w5.alloc (.cells #[.int .i64 p2,.slice wa wl b8] 132)).grownBy w6 (some B.heap.size):=d6;have T:Ab (fun k=>k=B.heap.size) w5 w6:=Ab.grown ((Ab.refl _ _).alloc _) c4 (fun k a=>.inl (Option.some.inj a).symm);have s:=Aa (JX.mk (Ak.O Z.o.pa T (by omega)) (Z.o.pt.O T (by omega)) (Z.o.l7.O T (by omega)) (Ab.grown (Z.o.O.alloc _) c4 (fun k a=>.inr (by have:=Option.some.inj a;omega))) Z.o.bl);have q0:=s.o.l7.cell 0;have q1:=s.o.l7.cell 1;have q2:=s.o.l7.cell 2;have q3:=s.o.l7.cell 3;have q4:=s.o.l7.cell 4;have q5:=s.o.l7.cell 5;have q6:=s.o.l7.cell 6;have q7:=s.o.l7.cell 7;have qf:=s.o.l7.frozen;have ql:=Ae s.o.l7;simp only [dM,dJ,dK] at q0 q1 q2 q3 q4 q5 q6 q7);refine bodyPost_ret (v:=.agg (Ej (Dh 11) (.slice none 0 0) (.slice ya yl yc))) (by simp [results,Tryz.results177,go_sem,Ej,Dh,Bj,q0,q1,q2,q3,q4,q5,q6,q7];try rfl) rfl ?_;have b5:b≠w.heap.size:=by omega
  have f1:=T.size;have T1:=d0.o.O T (fun k a=>by have:=(G.o k a).2;omega);have T2:=c9.o.O T (fun k a=>by have:=(b0.o k a).1;omega);refine ⟨max d d5+1,fun k=>U k∨U5 k∨Value.ownBlock (.slice ya yl yc)=some k,Dh 11,_,_,rfl,?_,?_,?_,?_⟩
  ·refine BD.O (X:=fun k=>k=w.heap.size) (w:=w6) ?_ ?_ ?_
   ·refine BD.blocks (svs:=[.slice M O N,.slice wa wl b8]) rfl (Ao a9 (Nat.zero_le _)) (fun k a=>.inr (.inr a)) ?_;intro i h h';have e:i=0∨i=1:=by simp at h;omega
    rcases e with rfl | rfl
    ·exact (T1.more (fun k a=>.inl a)).bQ (Nat.le_max_left _ _)
    ·exact (T2.more (fun k a=>.inr (.inl a))).bQ (Nat.le_max_right _ _)
   ·iterate 8 refine Ab.d8 ?_ _ _
    exact Ab.refl _ _
   ·intro k a;rcases a with a | a | a
    ·have:=(G.o k a).1;omega
    ·have:=(b0.o k a).1;omega
    ·have:=(a9.lt k a).1;omega
  ·intro k a;simp only [World.size_setCell];rcases a with a | a | a
   ·have:=G.o k a;omega
   ·have:=b0.o k a;omega
   ·have:=a9.lt k a;omega
  ·refine Ak.O (X:=fun k=>k=w.heap.size) s.o.pa ?_ b5;iterate 8 refine Ab.d8 ?_ _ _
   exact Ab.refl _ _
  ·iterate 8 refine Ab.u9 ?_ _ _ (Nat.le_refl _)
   exact s.o.O
 ·have hv:AV c n (f+1) z=(.mk (Dh 11) [(p,l3)],E):=by rw [AV,if_pos a];simp only [I,Q,hp,R,S,if_neg h8]
  rw [hv]
  have d3:(((Ag c E.next).kind:Int)==8)=false:=by simp;omega
  clear I Q hp R S hv o ht A a hG ih P g3 e1 g4 g5 h8
  go_enter Tryz.func177,Tryz.ntmps177
  go_wp2_with fail
  refine (AG b g n r 7 z c _ F.o.pa F.o.pt b2).mono ?_
  rw [X1.o]
  rintro e w1 ⟨rfl,o,t⟩
  have C:=Aa (F.o.call o t)
  clear o t F
  go_wp2_with fail
  refine (AG b g n r 20 x1 c _ C.o.pa C.o.pt b3).mono ?_
  rw [X2.o]
  rintro e w2 ⟨rfl,o,t⟩
  have m:=Aa (C.o.call o t)
  clear o t C
  have e2:=m.o.O.size
  have d7:=Ae m.o.l7
  go_wp2_with fail
  refine (ES H a5 f IH.o b g n r W c _ V (Ab.keeps HG.o m.o.O hB V) (by omega) m.o.pa m.o.pt b4 HZ.o c3).mono ?_
  rw [XP.o,X3.o]
  simp only
  rw [X4.o]
  rintro e B ⟨d,U,sv,rfl,K,hU,a3,L⟩
  have a0:=K
  obtain ⟨d2,a4,_⟩:=a0
  obtain ⟨M,O,N,rfl⟩:=Ad a4
  have J:=(Ab.refl (fun _=>False) B).alloc (.cells #[.int .i64 p,.slice M O N] 132)
  have D:=Aa ((m.o.call a3 L).quiet J)
  have HT:=Aa (K.O J (fun _ _ q=>q))
  have G:=Aa hU
  have HR:=Aa (Ma (w:=B) (.int .i64 p) (.slice M O N))
  have e4:=L.size
  clear K hU a3 L a4 m J
  go_wp2_with fail
  refine (AS b g n r E c _ D.o.pa D.o.pt a8).mono ?_
  rintro e wk ⟨rfl,x⟩
  have j:=Aa (D.o.quiet x)
  have a7:=Aa (HT.o.O x (fun _ _ q=>q))
  have a6:=Aa (Ac HR.o x (fun _ _ q=>q))
  have b7:=x.size
  simp at b7
  clear x D HT HR
  have q0:=j.o.l7.cell 0
  have q1:=j.o.l7.cell 1
  have q2:=j.o.l7.cell 2
  have q3:=j.o.l7.cell 3
  have q4:=j.o.l7.cell 4
  have q5:=j.o.l7.cell 5
  have q6:=j.o.l7.cell 6
  have q7:=j.o.l7.cell 7
  have qf:=j.o.l7.frozen
  have ql:=Ae j.o.l7
  simp only [dM,dJ,dK] at q0 q1 q2 q3 q4 q5 q6 q7
  go_wp2
  refine bodyPost_ret (v:=.agg (Ej (Dh 11) (.slice none 0 0) (.slice (some ⟨B.heap.size,0,none⟩) 1 1))) (by simp [results,Tryz.results177,go_sem,Ej,Dh,Bj,q0,q1,q2,q3,q4,q5,q6,q7];try rfl) rfl ?_
  have b5:b≠w.heap.size:=by have:=j.o.bl;omega
  refine ⟨d+1,fun k=>U k∨k=B.heap.size,Dh 11,_,_,rfl,?_,?_,?_,?_⟩
  ·refine BD.O (X:=fun k=>k=w.heap.size) (w:=wk) ?_ ?_ (fun k a=>by rcases a with a | a;have:=(G.o k a).1;omega;omega)
   ·refine BD.blocks (svs:=[.slice M O N]) rfl (Ao a6.o (Nat.zero_le _)) (fun k a=>.inr (by simp [Value.ownBlock] at a;omega)) ?_;intro i h h';have e:i=0:=by simp at h;omega
    subst e;exact a7.o.more (fun k a=>.inl a)
   ·iterate 8 refine Ab.d8 ?_ _ _
    exact Ab.refl _ _
  ·intro k a
   simp only [World.size_setCell];rcases a with a | a
   ·have:=G.o k a;omega
   ·omega
  ·refine Ak.O (X:=fun k=>k=w.heap.size) j.o.pa ?_ b5
   iterate 8 refine Ab.d8 ?_ _ _
   exact Ab.refl _ _
  ·iterate 8 refine Ab.u9 ?_ _ _ (Nat.le_refl _)
   exact j.o.O
theorem K9(O R)(hF:Cf O R)(f)(ih:∀k,k≤f→Gh O R k):Gh O R (f+1):=by
 intro b g n K l i w Q hG hB m ht M Z a2 hf;have a:=Aa (JX.start m ht);have HG:=Aa hG;have IH:=Aa ih;have HZ:=Aa Z;have HF:=Aa hF;by_cases L:(Ag i l.next).kind=7
 ·have S:=Aa L;clear m ht Z hG ih hF a2;obtain ⟨r,m⟩:∃r,AV i n (f+1) l=r:=⟨_,rfl⟩;rw [m];have a1:=Aa m;have a9:=Aa L;clear m L;go_enter Tryz.func162,Tryz.ntmps162;go_wp2_with fail;refine (AS b g n K l i _ a.o.pa a.o.pt M).mono ?_;rw [S.o];rintro e w0 ⟨rfl,B⟩;have t:=Aa (a.o.quiet B);clear B a;have a:=t;clear t;have a7:=a.o.O.size;have a5:=Ae a.o.l7;go_wp2_with fail;refine (Pw O R f IH.o b g n K l i _ Q (Ab.keeps HG.o a.o.O hB Q) (by omega) a.o.pa a.o.pt M HZ.o a9.o hf).mono ?_;rw [a1.o];rintro e w1 ⟨d,U,s,av,bv,rfl,N,V,p,o⟩;obtain ⟨⟨x,A,z,rfl⟩,⟨ba,bl,bc,rfl⟩⟩:=N.cB;have c:=Aa (a.o.call p o);have a0:=Aa N;have T:=Aa V;have a8:=o.size;clear N V p o a;have C:=c.o.l7.cell 0;have D:=c.o.l7.cell 1;have E:=c.o.l7.cell 2;have F:=c.o.l7.cell 3;have G:=c.o.l7.cell 4;have H:=c.o.l7.cell 5;have I:=c.o.l7.cell 6;have J:=c.o.l7.cell 7;have qf:=c.o.l7.frozen;have ql:=Ae c.o.l7;simp only [dM,dJ,dK] at C D E F G H I J;unfold Ej;go_wp2;refine bodyPost_ret (v:=.agg (Ej s (.slice x A z) (.slice ba bl bc))) (by simp [results,Tryz.results162,go_sem,Ej,C,D,E,F,G,H,I,J]) rfl ?_;have W:b≠w.heap.size:=by have:=c.o.bl;omega
  refine ⟨d,U,s,_,_,rfl,?_,?_,?_,?_⟩
  ·refine a0.o.O (X:=fun k=>k=w.heap.size) ?_ (fun k h=>by have:=(T.o k h).1;omega);iterate 8 refine Ab.d8 ?_ _ _
   exact Ab.refl _ _
  ·intro k h;simp only [World.size_setCell];have:=T.o k h;omega
  ·refine Ak.O (X:=fun k=>k=w.heap.size) c.o.pa ?_ W;iterate 8 refine Ab.d8 ?_ _ _
   exact Ab.refl _ _
  ·iterate 8 refine Ab.u9 ?_ _ _ (Nat.le_refl _)
   exact c.o.O
 ·by_cases P:(Ag i l.next).kind=9
  ·have S:=Aa P;clear m ht Z hG ih hF a2;obtain ⟨r,m⟩:∃r,AV i n (f+1) l=r:=⟨_,rfl⟩;rw [m];have a1:=Aa m;have b0:=Aa P;clear m P L;go_enter Tryz.func162,Tryz.ntmps162;go_wp2_with fail;refine (AS b g n K l i _ a.o.pa a.o.pt M).mono ?_;rw [S.o];rintro e w0 ⟨rfl,B⟩;have t:=Aa (a.o.quiet B);clear B a;have a:=t;clear t;have a7:=a.o.O.size;have a5:=Ae a.o.l7;go_wp2_with fail;refine (Qn O R f IH.o b g n K l i _ Q (Ab.keeps HG.o a.o.O hB Q) (by omega) a.o.pa a.o.pt M HZ.o b0.o hf).mono ?_;rw [a1.o];rintro e w1 ⟨d,U,s,av,bv,rfl,N,V,p,o⟩;obtain ⟨⟨x,A,z,rfl⟩,⟨ba,bl,bc,rfl⟩⟩:=N.cB;have c:=Aa (a.o.call p o);have a0:=Aa N;have T:=Aa V;have a8:=o.size;clear N V p o a;have C:=c.o.l7.cell 0;have D:=c.o.l7.cell 1;have E:=c.o.l7.cell 2;have F:=c.o.l7.cell 3;have G:=c.o.l7.cell 4;have H:=c.o.l7.cell 5;have I:=c.o.l7.cell 6;have J:=c.o.l7.cell 7;have qf:=c.o.l7.frozen;have ql:=Ae c.o.l7;simp only [dM,dJ,dK] at C D E F G H I J;unfold Ej;go_wp2;refine bodyPost_ret (v:=.agg (Ej s (.slice x A z) (.slice ba bl bc))) (by simp [results,Tryz.results162,go_sem,Ej,C,D,E,F,G,H,I,J]) rfl ?_;have W:b≠w.heap.size:=by have:=c.o.bl;omega
   refine ⟨d,U,s,_,_,rfl,?_,?_,?_,?_⟩
   ·refine a0.o.O (X:=fun k=>k=w.heap.size) ?_ (fun k h=>by have:=(T.o k h).1;omega);iterate 8 refine Ab.d8 ?_ _ _
    exact Ab.refl _ _
   ·intro k h;simp only [World.size_setCell];have:=T.o k h;omega
   ·refine Ak.O (X:=fun k=>k=w.heap.size) c.o.pa ?_ W;iterate 8 refine Ab.d8 ?_ _ _
    exact Ab.refl _ _
   ·iterate 8 refine Ab.u9 ?_ _ _ (Nat.le_refl _)
    exact c.o.O
  ·obtain ⟨s1,x1,h1⟩:∃s y,AF i n l=(s,y):=⟨_,_,rfl⟩;obtain ⟨x2,h2⟩:∃y,Af i n 14 x1=y:=⟨_,rfl⟩;have hv:AV i n (f+1) l=(.mk s1 [],x2):=by rw [AV,if_neg L,if_neg P,h1];simp only [h2]
   rw [hv];have g1:=JD Z M;rw [h1] at g1;have b1:=g1.2;obtain ⟨kk,a3⟩:∃k,(Ag i l.next).kind=k:=⟨_,rfl⟩;rw [a3] at L P;have S:=Aa a3;have j7:((kk:Int)==7)=false:=by simp;omega
   have j9:((kk:Int)==9)=false:=by simp;omega
   have X1:=Aa h1;have X2:=Aa h2;clear m ht Z hG ih hF a2 h1 h2 hv a3 L P g1;go_enter Tryz.func162,Tryz.ntmps162;go_wp2_with fail;refine (AS b g n K l i _ a.o.pa a.o.pt M).mono ?_;rw [S.o];rintro e w0 ⟨rfl,B⟩;have t:=Aa (a.o.quiet B);clear B a;have a:=t;clear t;have a7:=a.o.O.size;have a5:=Ae a.o.l7;go_wp2_with fail;refine (Ti O R HF.o b g n K l i _ Q (Ab.keeps HG.o a.o.O hB Q) (by omega) a.o.pa a.o.pt M HZ.o).mono ?_;rw [X1.o];rintro e w1 ⟨av,rfl,a4,p,o⟩;obtain ⟨x,A,z,rfl⟩:=Ad a4;have hA:=(Ab.refl (fun _=>False) w1).alloc (.cells (FI s1 (.slice x A z)) 237);have c:=Aa ((a.o.call p o).quiet hA);have L1:=Aa (Ak.new w1 (FI s1 (.slice x A z)) 237);have O1:=Aa (Ac a4 hA (fun _ _ q=>q));have a8:=o.size;have b3:b<w1.heap.size:=Ae p;clear a4 p o a hA;unfold FI at c L1 O1⊢;go_wp2_with fail;refine (AG b g n K 14 x1 i _ c.o.pa c.o.pt b1).mono ?_;rw [X2.o];rintro e w2 ⟨rfl,a6,Y⟩;have j:=Aa (c.o.call a6 Y);have u:=Aa (L1.o.O Y (by omega));have O2:=Aa (Ac O1.o Y (fun k h=>by have:=(O1.o.lt k h).1;have:=c.o.bl;omega));have b2:=Y.size;simp at b2;clear a6 Y c L1 O1;have m0:=u.o.cell 0;have m1:=u.o.cell 1;have m2:=u.o.cell 2;have m3:=u.o.cell 3;have m4:=u.o.cell 4;have m5:=u.o.cell 5;have m6:=u.o.cell 6;have m7:=u.o.cell 7;simp only [dM,dJ,dK] at m0 m1 m2 m3 m4 m5 m6 m7;have C:=j.o.l7.cell 0;have D:=j.o.l7.cell 1;have E:=j.o.l7.cell 2;have F:=j.o.l7.cell 3;have G:=j.o.l7.cell 4;have H:=j.o.l7.cell 5;have I:=j.o.l7.cell 6;have J:=j.o.l7.cell 7;have qf:=j.o.l7.frozen;have ql:=Ae j.o.l7;simp only [dM,dJ,dK] at C D E F G H I J;go_wp2;refine bodyPost_ret (v:=.agg (Ej s1 (.slice x A z) (.slice none 0 0))) (by simp [results,Tryz.results162,go_sem,Ej,C,D,E,F,G,H,I,J]) rfl ?_;have W:b≠w.heap.size:=by have:=j.o.bl;omega
   refine ⟨1,fun k=>Value.ownBlock (.slice x A z)=some k,s1,_,_,rfl,?_,?_,?_,?_⟩
   ·refine BD.O (X:=fun k=>k=w.heap.size) (w:=w2) (BD.flat (Ao O2.o (Nat.zero_le _)) (fun k h=>h)) ?_ (fun k h=>by have:=(O2.o.lt k h).1;omega);iterate 8 refine Ab.d8 ?_ _ _
    exact Ab.refl _ _
   ·intro k h;simp only [World.size_setCell];have:=O2.o.lt k h;omega
   ·refine Ak.O (X:=fun k=>k=w.heap.size) j.o.pa ?_ W;iterate 8 refine Ab.d8 ?_ _ _
    exact Ab.refl _ _
   ·iterate 8 refine Ab.u9 ?_ _ _ (Nat.le_refl _)
    exact j.o.O
theorem EL(a:Nat)(c:World)(hF:Cf a c):∀f,∀k,k≤f→Gh a c k
 | 0,k,d=>by intro b g n i x m w _ _ _ _ _ j _ _ l;omega
 | f+1,k,d=>by
   by_cases h:k≤f
   ·exact EL a c hF f k h
   ·have e:k=f+1:=by omega
    subst e;exact K9 a c hF f (EL a c hF f)
structure TF where
 name:PT
 i8:List PT
 c9:Nat
 v8:List TS
def Hh(a:List PT)(n:Nat)(x:PS):TF×PS:=
 let b:=Af a n 3 x
 let c:=Af a n 1 b
 let y:=A6 a n c
 let r:=AB a n (2*n+1) (Af a n 12 y.2) []
 (⟨Ax a 1 b,y.1,(Ax a 12 y.2).c9,r.1⟩,Af a n 13 r.2)
def Lv(t:TF)(a b:Value):Array Value:=#[.string t.name.a9,.int .i64 t.name.c9,a,.int .i64 t.c9,b]
def GC(d:Nat)(U:Nat→Prop)(w:World)(t:TF)(c:List Value):Prop:=∃a b,c=(Lv t a b).toList∧w.ownsRow 0 128 2 a t.i8.length (Bt t.i8)∧(∀k,a.ownBlock=some k→U k)∧Cn d U w b t.v8
theorem GC.O{d}{U:Nat→Prop}{w f t c}{X:Nat→Prop}(h:GC d U w t c)(b:Ab X w f)(e:∀k,U k→¬X k):GC d U f t c:=by obtain ⟨g,sv,i,j,a,l⟩:=h;exact ⟨g,sv,i,Ac j b (fun k m=>e k (a k m)),a,l.O b e⟩
theorem GC.more{d}{U a:Nat→Prop}{w t c}(h:GC d U w t c)(b:∀k,U k→a k):GC d a w t c:=by obtain ⟨e,m,f,g,i,j⟩:=h;exact ⟨e,m,f,g,fun k l=>b k (i k l),j.more b⟩
theorem GC.bQ{d e}{U:Nat→Prop}{w t c}(h:GC d U w t c)(j:d≤e):GC e U w t c:=by obtain ⟨a,k,b,f,g,i⟩:=h;exact ⟨a,k,b,f,g,i.bQ j⟩
def Zk(b g n m:Nat)(w:World)(r:TF×PS)(e:Ending)(f:World):Prop:=
 ∃(d:Nat) (U:Nat→Prop) (a:Option Addr) (l c:Nat) (h:Option Addr) (j i:Nat),e=.returned (.agg (Lv r.1 (.slice a l c) (.slice h j i)))∧GC d U f r.1 (Lv r.1 (.slice a l c) (.slice h j i)).toList∧(∀k,U k→w.heap.size≤k∧k<f.heap.size)∧AR b g n m r.2 f∧Ab (fun k=>k=b) w f
theorem EY{g n}(a:(Ag g (n-1)).kind=0){x}(h:x.next<n):Hl n x (Hh g n x).2:=by have b:=Ah a 3 h;have c:=b.trans (Ah a 1 b.2);have d:=c.trans (DP a c.2);have e:=d.trans (Ah a 12 d.2);have f:=e.trans (Bo a (2*n+1) _ [] e.2);exact f.trans (Ah a 13 f.2)
theorem KA{b n}(a:(Ag b (n-1)).kind=0){x}(j:x.next<n)(k:(Ag b x.next).kind=3):x.next+1≤(Hh b n x).2.next:=by have h:=Ah a 3 j;have e:=BE (n:=n) k (by omega);have c:=Ah a 1 h.2;have d:=c.trans (DP a c.2);have f:=d.trans (Ah a 12 d.2);have g:=f.trans (Bo a (2*n+1) _ [] f.2);have i:=g.trans (Ah a 13 g.2);have:=i.1;unfold Hh;simp only;omega
abbrev Zm:Array Value:=#[.string {data:=#[]},.int .i64 0,.slice none 0 0,.int .i64 0,.slice none 0 0]
theorem Ie(j G)(hF:Cf j G)(b g n i r d w)(hb:j≤b)(hG:Below j G w)(hB:j≤w.heap.size)(F:AR b g n i r w)(u:AZ g n i d w)(a8:r.next<n)(x:(Ag d (n-1)).kind=0):
 Calls Tryz.prog 112 #[.pointer (some ⟨b,0,none⟩)] w fun e w'=>Zk b g n i w (Hh d n r) e w':=by
 have lr:=Ae F;have lg:=u.lt;have P:=u.ne F (by decide);obtain ⟨H,o⟩:∃y,Af d n 3 r=y:=⟨_,rfl⟩;obtain ⟨Y,s⟩:∃y,Af d n 1 H=y:=⟨_,rfl⟩;obtain ⟨f,S⟩:∃y,Ax d 1 H=y:=⟨_,rfl⟩;obtain ⟨l3,z,C⟩:∃l y,A6 d n Y=(l,y):=⟨_,_,rfl⟩;obtain ⟨p4,T⟩:∃y,(Ax d 12 z).c9=y:=⟨_,rfl⟩;obtain ⟨l4,y4,M⟩:∃l y,AB d n (2*n+1) (Af d n 12 z) []=(l,y):=⟨_,_,rfl⟩;obtain ⟨x5,N⟩:∃y,Af d n 13 y4=y:=⟨_,rfl⟩;have hv:Hh d n r=(⟨f,l3,p4,l4⟩,x5):=by simp only [Hh,o,s,S,C,T,M,N]
 rw [hv];have a9:H.next<n:=by rw [←o];exact AO x a8
 have b5:Y.next<n:=by rw [←s];exact AO x a9
 have c8:z.next<n:=by have:=S8 x b5;rw [C] at this;exact this
 have IH:=Aa (EL j G hF (2*n+1));have HG:=Aa hG;have HZ:=Aa x;have X1:=Aa o;have X2:=Aa s;have K2:=Aa S;have X3:=Aa C;have K4:=Aa T;have X4:=Aa M;have X5:=Aa N;clear o s S C T M N hv x hG hF;go_enter Tryz.func112,Tryz.ntmps112;go_wp2_with fail;refine (AG b g n i 3 r d _ (Ak.alloc F _) (u.O ((Ab.refl (fun _=>False) _).alloc _) (fun q=>q)) a8).mono ?_;rw [X1.o];rintro e w2 ⟨rfl,b7,D⟩;have Z:=Aa ((Ak.new w Zm 134).O D (by omega));have a1:=Aa (((Ab.refl (fun k=>k=b) w).alloc (.cells Zm 134)).trans D);have K:=Aa ((u.O ((Ab.refl (fun _=>False) _).alloc (.cells Zm 134)) (fun q=>q)).O D P);have a3:=Aa b7;clear b7 D F u;go_wp2_with fail;refine (B7 b g n i H d _ a3.o K.o a9).mono ?_;rw [X2.o,K2.o];rintro e w3 ⟨rfl,R,E⟩;have I:=Aa (Z.o.O E (by omega));have a2:=Aa (a1.o.trans E);have L:=Aa (K.o.O E P);have a4:=Aa R;have d9:=Ae I.o;have e2:=Ae R;clear R E Z a1 K a3;unfold Je;go_wp2_with fail;refine (Jd b g n i Y d _ (Ak.alloc a4.o _) (L.o.O ((Ab.refl (fun _=>False) _).alloc _) (fun q=>q)) b5 HZ.o).mono ?_;rw [X3.o];rintro e w4 ⟨v,rfl,Q,b8,t⟩;obtain ⟨U,W,V,rfl⟩:=Ad Q;have A:=Aa ((Ak.new w3 #[.string f.a9,.int .i64 f.c9] 128).O t (by omega));have h:=Aa ((I.o.alloc (.cells #[.string f.a9,.int .i64 f.c9] 128)).O t (by omega));have J:=Aa ((a2.o.alloc (.cells #[.string f.a9,.int .i64 f.c9] 128)).trans t);have c5:=Aa ((L.o.O ((Ab.refl (fun _=>False) _).alloc (.cells #[.string f.a9,.int .i64 f.c9] 128)) (fun q=>q)).O t P);have c3:=Aa b8;have B:=Aa Q;have n0:=A.o.cell 0;have n1:=A.o.cell 1;have b0:=h.o.cell 0;have b1:=h.o.cell 1;have b2:=h.o.cell 2;have b3:=h.o.cell 3;have b4:=h.o.cell 4;have bf:=h.o.frozen;simp only [dM,dJ,dK] at n0 n1 b0 b1 b2 b3 b4;have e0:=Ae A.o;have e1:=Ae h.o;have d7:=J.o.size;have c9:2*(n-(Af d n 12 z).next)+1≤2*n+1:=by omega
 clear b8 t Q I a2 L a4;go_wp2_with fail;go_region_with (go_at_call 141;refine (ES j G (2*n+1) IH.o b g n i z d _ hb (Ab.keeps HG.o (J.o.bI (by repeat (first | exact Ab.refl _ _ | refine Ab.drew ?_ | refine Ab.drewN ?_ _ | refine Ab.alloc ?_ _))) hB hb) (by simp;omega) (Ak.O (X:=fun _=>False) c3.o (by repeat (first | exact Ab.refl _ _ | refine Ab.drew ?_ | refine Ab.drewN ?_ _ | refine Ab.alloc ?_ _)) (fun q=>q)) (c5.o.O (X:=fun _=>False) (by repeat (first | exact Ab.refl _ _ | refine Ab.drew ?_ | refine Ab.drewN ?_ _ | refine Ab.alloc ?_ _)) (fun q=>q)) c8 HZ.o c9).mono ?_;rw [K4.o,X4.o];simp only;rw [X5.o];rintro e w5 ⟨d5,U5,e3,rfl,O,a7,b9,b6⟩;have c7:=O;obtain ⟨d6,c0,_⟩:=c7;obtain ⟨wa,wl,c1,rfl⟩:=Ad c0;have p:=Ab.trans (X:=fun k=>k=b) (a:=w4) (by repeat (first | exact Ab.refl _ _ | refine Ab.drew ?_ | refine Ab.drewN ?_ _ | refine Ab.alloc ?_ _)) b6;have a0:=Aa (A.o.O p (by omega));have m:=Aa (h.o.O p (by omega));have a6:=Aa (Ac B.o p (fun k c=>by have:=(B.o.lt k c).1;simp at this;omega));have m0:=a0.o.cell 0;have m1:=a0.o.cell 1;have d0:=m.o.cell 0;have d1:=m.o.cell 1;have d2:=m.o.cell 2;have d3:=m.o.cell 3;have d4:=m.o.cell 4;have df:=m.o.frozen;simp only [dM,dJ,dK] at m0 m1 d0 d1 d2 d3 d4;have c6:=Aa O;have a5:=Aa a7;have c2:=Aa (J.o.trans p);have c4:=Aa b9;have d8:=p.size;clear O a7 b9 b6 p c0);all_goals
  go_wp2;refine bodyPost_ret (v:=.agg (Lv ⟨f,l3,p4,l4⟩ (.slice U W V) (.slice wa wl c1))) (by simp [results,Tryz.results112,go_sem,Lv,d0,d1,d2,d3,d4]) rfl ?_;refine ⟨d5,fun k=>U5 k∨Value.ownBlock (.slice U W V)=some k,U,W,V,wa,wl,c1,rfl,?_,?_,?_,?_⟩
  ·refine GC.O (X:=fun k=>k=w.heap.size) (w:=w5) ⟨_,_,rfl,Ao a6.o (Nat.zero_le _),fun k c=>.inr c,c6.o.more (fun k c=>.inl c)⟩ ?_ ?_
   ·iterate 5 refine Ab.d8 ?_ _ _
    exact Ab.refl _ _
   ·intro k c;rcases c with c | c
    ·have:=(a5.o k c).1;simp at this;omega
    ·have:=(B.o.lt k c).1;simp at this;omega
  ·intro k c;simp only [World.size_setCell];rcases c with c | c
   ·have:=a5.o k c;simp at this;omega
   ·have o:=(B.o.lt k c).1;have s:=(a6.o.lt k c).2;simp at o;omega
  ·refine Ak.O (X:=fun k=>k=w.heap.size) c4.o ?_ (by omega);iterate 5 refine Ab.d8 ?_ _ _
   exact Ab.refl _ _
  ·iterate 5 refine Ab.u9 ?_ _ _ (Nat.le_refl _)
   exact c2.o
theorem Tryz.infoTF:(Tryz.prog.info? 134).map (fun i=>(i.zero,i.size,i.bytes))=some (some (.agg Zm),5,80):=by kernel_rfl
def CZ(b:List PT)(n:Nat):Nat→PS→List TF→List TF×PS
 | 0,x,a=>(a,x)
 | f+1,x,a=>if (Ag b x.next).kind=3 then CZ b n f (Hh b n x).2 (a++[(Hh b n x).1]) else (a,x)
def CM(a:List PT)(n:Nat)(x:PS):List TF×Nat×PS:=
 let r:=CZ a n n (Hh a n x).2 [(Hh a n x).1]
 (r.1,(Ax a 0 r.2).c9,Af a n 0 r.2)
def Di(d:Nat)(U:Nat→Prop)(w:World)(c:Value)(b:List TF):Prop:=∃a:List (List Value),w.ownsRow 0 134 5 c b.length a.flatten∧a.length=b.length∧(∀k,c.ownBlock=some k→U k)∧∀j (g:j<b.length) (e:j<a.length),GC d U w b[j] a[j]
def Zx(b g n h:Nat)(w:World)(r:List TF×Nat×PS)(e:Ending)(f:World):Prop:=
 ∃(d:Nat) (U:Nat→Prop) (a:Option Addr) (l c:Nat),e=.returned (.agg #[.slice a l c,.int .i64 r.2.1])∧Di d U f (.slice a l c) r.1∧(∀k,U k→w.heap.size≤k∧k<f.heap.size)∧AR b g n h r.2.2 f∧Ab (fun k=>k=b) w f
structure FW(lo lb d:Nat)(U:Nat→Prop)(w:World)(sv:Value)(acc:List TF)(css:List (List Value)):Prop where
 row:w.ownsRow lo 134 5 sv acc.length css.flatten
 len:css.length=acc.length
 bV:∀j (g:j<acc.length) (g':j<css.length),GC d U w acc[j] css[j]
 u:∀k,U k→lo≤k∧k<w.heap.size∧k≠lb
 apart:∀k,sv.ownBlock=some k→¬U k∧k≠lb
theorem FW.O{e c d}{U:Nat→Prop}{w m sv f i}{X:Nat→Prop}(h:FW e c d U w sv f i)(b:Ab X w m)(l:∀k,e≤k→k<w.heap.size→k≠c→¬X k):FW e c d U m sv f i:=
 ⟨Ac h.row b (fun k a=>l k (h.row.lt k a).1 (h.row.lt k a).2 (h.apart k a).2),h.len,fun j g n=>(h.bV j g n).O b (fun k a=>l k (h.u k a).1 (h.u k a).2.1 (h.u k a).2.2),fun k a=>⟨(h.u k a).1,Nat.lt_of_lt_of_le (h.u k a).2.1 b.size,(h.u k a).2.2⟩,h.apart⟩
theorem FW.push{n b d v}{U p:Nat→Prop}{w W l i o u f r t c}(h:FW n b d U w i f r)(J:b<w.heap.size)(F:GC v p w t c)(g:∀k,p k→n≤k∧k<w.heap.size∧k≠b∧¬i.ownBlock=some k)(C:Ab (fun _=>False) w W)
 (E:l.ownsRow n 134 5 o (f.length+1) (r.flatten++c))(D:W.grownBy l i.ownBlock)(A:∀k,o.ownBlock=some k→i.ownBlock=some k∨w.heap.size≤k):
 FW n b (max d v) (fun k=>U k∨p k) (l.setCell ⟨b,0,none⟩ u) o (f++[t]) (r++[c]):=by
 have s:Ab (fun k=>i.ownBlock=some k) w l:=Ab.grown (C.mono (fun _ _ q=>q.elim)) D (fun k a=>.inl a);have m:=(Ab.refl (fun k=>k=b) l).d8 0 u;have z:=h.len;have x:∀k,o.ownBlock=some k→k≠b:=fun k a=>by
  rcases A k a with e | e
  ·exact (h.apart k e).2
  ·omega
 refine ⟨?_,by simp [z],?_,?_,?_⟩
 ·have:=Ac E m x;simpa using this
 ·intro j B G;by_cases y:j<f.length
  ·rw [List.getElem_append_left y,List.getElem_append_left (by omega)];exact ((((h.bV j y (by omega)).O s (fun k a q=>(h.apart k q).1 a)).O m (fun k a=>(h.u k a).2.2)).more (fun k a=>.inl a)).bQ (Nat.le_max_left _ _)
  ·have e:j=f.length:=by simp at B;omega
   subst e;rw [List.getElem_append_right (by omega),List.getElem_append_right (by omega)];simp only [Nat.sub_self,z,List.getElem_cons_zero];exact (((F.O s (fun k a=>(g k a).2.2.2)).O m (fun k a=>(g k a).2.2.1)).more (fun k a=>.inr a)).bQ (Nat.le_max_right _ _)
 ·intro k a;have H:=s.size;have I:=m.size;rcases a with a | a
  ·have:=h.u k a;exact ⟨this.1,by omega,this.2.2⟩
  ·have:=g k a;exact ⟨this.1,by omega,this.2.2.1⟩
 ·intro k a;refine ⟨fun q=>?_,x k a⟩;rcases A k a with e | e
  ·rcases q with q | q
   ·exact (h.apart k e).1 q
   ·exact (g k q).2.2.2 e
  ·rcases q with q | q
   ·have:=(h.u k q).2.1;omega
   ·have:=(g k q).2.1;omega
theorem W7(t a d l f c e):∀u∈(Lv t (.slice a l c) (.slice d f e)).toList,u.oneCell'=true:=by intro u b;simp [Lv] at b;rcases b with rfl | rfl | rfl | rfl | rfl<;>rfl
theorem Xl{w:World}(a:Array Value)(b:a.size=5):(w.alloc (.cells a 134)).ownsRow w.heap.size 134 5 (.slice (some ⟨w.heap.size,0,none⟩) 1 1) 1 a.toList:=
 ⟨by simpa using b,.inr ⟨w.heap.size,1,a,rfl,Nat.le_refl _,heap_alloc_new w _,Nat.le_refl _,by unfold maxLen;omega,by simpa using b,by rw [List.take_of_length_le (by simp;omega)]⟩⟩
theorem JE(O a8)(hF:Cf O a8)(b g n r Y i w)(hb:O≤b)(hG:Below O a8 w)(hB:O≤w.heap.size)(hr:AR b g n r Y w)(V:AZ g n r i w)(d7:Y.next<n)(hz:(Ag i (n-1)).kind=0):
 Calls Tryz.prog 71 #[.pointer (some ⟨b,0,none⟩)] w fun e w'=>Zx b g n r w (CM i n Y) e w':=by
 obtain ⟨i0,hi,f3,f4,f5⟩:=info_parts Tryz.infoTF;have lr:=Ae hr;have lg:=V.lt;have hn:=V.2.2.1;have d8:=V.ne hr (by decide);have z:=EY hz d7;obtain ⟨N,x1,E⟩:∃t y,Hh i n Y=(t,y):=⟨_,_,rfl⟩;rw [E] at z;have f0:=z.2;obtain ⟨l2,x2,h2⟩:∃l y,CZ i n n x1 [N]=(l,y):=⟨_,_,rfl⟩;have hv:CM i n Y=(l2,(Ax i 0 x2).c9,Af i n 0 x2):=by simp only [CM,E,h2]
 rw [hv];have HG:=Aa hG;have HZ:=Aa hz;have HF:=Aa hF;have X1:=Aa E;have X2:=Aa h2;clear E h2 hv hz hG hF z;go_enter Tryz.func71,Tryz.ntmps71;go_wp2_with fail;refine (Ie O a8 HF.o b g n r Y i _ hb (Ab.keeps HG.o ((Ab.refl (fun k=>k=b) w).alloc _) hB hb) (by simp;omega) (Ak.alloc hr _) (V.O ((Ab.refl (fun _=>False) _).alloc _) (fun q=>q)) d7 HZ.o).mono ?_;rw [X1.o];rintro e m ⟨d2,U2,fa,fl,fc,b3,b5,b4,rfl,e1,d5,b8,a2⟩;have f6:=a2.size;simp at f6;have c1:dN (Ak w.heap.size #[.slice none 0 0,.int .i64 0] 82 m):=(Ak.new w _ _).O a2 (by omega);have c2:=Aa (((Ab.refl (fun k=>k=b) w).alloc _).trans a2);have c6:=Aa ((V.O ((Ab.refl (fun _=>False) _).alloc (.cells #[.slice none 0 0,.int .i64 0] 82)) (fun q=>q)).O a2 d8);have c3:=Aa b8;have c5:=Aa e1;have a9:=Aa d5;have g4:=Ae b8;clear b8 a2 hr V e1 d5;unfold Lv;go_wp2_with fail;go_loopw [] (fun wr=>∃(x:PS) (f d:Nat) (U:Nat→Prop) (sv:Value) (L:List TF) (b2:List (List Value)),x.next<n∧L.length≤x.next+1∧n-x.next≤f∧dN (AR b g n r x wr)∧dN (AZ g n r i wr)∧dN (Ak w.heap.size #[.slice none 0 0,.int .i64 0] 82 wr)∧dN (Ak (m.heap.size+1) #[sv,.int .i64 0] 82 wr)∧dN (FW (w.heap.size+1) (m.heap.size+1) d U wr sv L b2)∧dN (Ab (fun k=>k=b) w wr)∧dN (CZ i n f x L=(l2,x2))) (fun wr=>n-KP b wr)
 case atStart=>
  refine ⟨x1,n,d2,U2,.slice (some ⟨m.heap.size,0,none⟩) 1 1,[N],[(Lv N (.slice fa fl fc) (.slice b3 b5 b4)).toList],f0,by simp,by omega,Ak.alloc (Ak.alloc c3.o _) _,c6.o.O (((Ab.refl (fun _=>False) _).alloc _).alloc _) (fun q=>q),Ak.alloc (Ak.alloc c1.o _) _,?_,?_,(c2.o.alloc _).alloc _,X2⟩
  ·refine Aa ?_;have:=Ak.new (m.alloc (.cells #[.string N.name.a9,.int .i64 N.name.c9,.slice fa fl fc,.int .i64 N.c9,.slice b3 b5 b4] 134)) #[.slice (some ⟨m.heap.size,0,none⟩) 1 1,.int .i64 0] 82;simpa using this
  ·refine Aa ⟨?_,rfl,?_,?_,?_⟩
   ·have:=(Xl (w:=m) (Lv N (.slice fa fl fc) (.slice b3 b5 b4)) rfl).alloc (.cells #[.slice (some ⟨m.heap.size,0,none⟩) 1 1,.int .i64 0] 82);exact Ao (by simpa [Lv] using this) (by omega)
   ·intro j z g2;have e:j=0:=by simp at z;omega
    subst e;exact c5.o.O (((Ab.refl (fun _=>False) _).alloc _).alloc _) (fun _ _ q=>q)
   ·intro k c;have:=a9.o k c;simp at this⊢;omega
   ·intro k c;simp [Value.ownBlock] at c;refine ⟨fun q=>?_,by omega⟩;have:=a9.o k q;omega
 case round=>
  clear c3 c6 c1 c2 X2 c5 a9;obtain ⟨x,f,d,U,sv,L,b2,W,f7,hf,M,R,a5,hC,a6,hO,HC⟩:=hrel;have e3:=Aa (Ed M.o);by_cases T:(Ag i x.next).kind=3
  ·obtain ⟨f2,rfl⟩:∃f2,f=f2+1:=⟨f-1,by omega⟩;obtain ⟨t3,x3,h3⟩:∃t y,Hh i n x=(t,y):=⟨_,_,rfl⟩;have c9:CZ i n f2 x3 (L++[t3])=(l2,x2):=by have:=HC.o;rw [CZ,if_pos T,h3] at this;exact this
   have f1:x.next+1≤x3.next∧x3.next<n:=by have z:=EY (n:=n) HZ.o W;have g2:=KA HZ.o W T;rw [h3] at z g2;exact ⟨g2,z.2⟩
   have X3:=Aa h3;have e2:=Aa c9;have HK:=Aa T;clear HC h3 c9 T;go_wp2_with fail;refine (AS b g n r x i _ M.o R.o W).mono ?_;rw [HK.o];rintro e wk ⟨rfl,o⟩;have R1:=Aa (Ak.O M.o o (fun q=>q));have T1:=Aa (R.o.O o (fun q=>q));have A1:=Aa (a5.o.O o (fun q=>q));have K:=Aa (hC.o.O o (fun q=>q));have D:=Aa (a6.o.O o (fun _ _ _ _ q=>q));have Q:=Aa (hO.o.bI o);clear M R a5 hC a6 hO o;obtain ⟨A,C,B,rfl⟩:=Ad D.o.row;have c0:=K.o.cell 0;have cf:=K.o.frozen 0;have lc:=Ae K.o;have g5:=Ae R1.o;have g3:=Q.o.size;simp only [dM,dJ] at c0;have Z:=Aa (fun k (c:Value.ownBlock (.slice A C B)=some k)=>(⟨(D.o.row.lt k c).1,(D.o.apart k c).2⟩:w.heap.size+1≤k∧k≠m.heap.size+1));go_wp2_with fail;go_region_law (first
    | (refine AT rfl _ _ 80 rfl (w.heap.size+1) 134 i0 (.agg Zm) 5 80 Tryz.underlying80 hi f3 f4 f5 rfl (by decide) _ _ _ rfl (P.o.row.alloc _) ⟨w4.heap.size,0,none⟩ 1 1 (Lv t3 (.slice aa al ac) (.slice ba bl bc)).toList rfl rfl (A5 rfl _ _) (W7 _ _ _ _ _ _ _) (by decide) (by unfold maxLen;omega) (by omega) (by simp;omega) ?_;intro v' J b7 S d9;have q1:J.cell? ⟨m.heap.size+1,0,none⟩=some (.slice A C B):=(World.cell?_of_block (S.block (m.heap.size+1) (by simp;omega) (fun h=>(Z.o _ h.symm).2 rfl))).trans (by rw [←c8];exact World.cell?_of_block (Below.heap_alloc _ _ _ b9));have q2:J.frozen? ⟨m.heap.size+1,0,none⟩=false:=(World.frozen?_of_block (S.block (m.heap.size+1) (by simp;omega) (fun h=>(Z.o _ h.symm).2 rfl))).trans (by rw [←e4];exact World.frozen?_of_block (Below.heap_alloc _ _ _ b9));obtain ⟨G,I,H,rfl⟩:=Ad b7)
    | (go_simp;go_at_call 112;refine (Ie O a8 HF.o b g n r x i _ hb (Ab.keeps HG.o (Q.o.bI (by repeat (first | exact Ab.refl _ _ | refine Ab.drew ?_ | refine Ab.drewN ?_ _ | refine Ab.alloc ?_ _))) hB hb) (by simp;omega) (Ak.O (X:=fun _=>False) R1.o (by repeat (first | exact Ab.refl _ _ | refine Ab.drew ?_ | refine Ab.drewN ?_ _ | refine Ab.alloc ?_ _)) (fun q=>q)) (T1.o.O (X:=fun _=>False) (by repeat (first | exact Ab.refl _ _ | refine Ab.drew ?_ | refine Ab.drewN ?_ _ | refine Ab.alloc ?_ _)) (fun q=>q)) W HZ.o).mono ?_;rw [X3.o];rintro e w4 ⟨d4,U4,aa,al,ac,ba,bl,bc,rfl,e0,d6,a4,F⟩;have a3:=Ab.trans (X:=fun k=>k=b) (a:=wk) (by repeat (first | exact Ab.refl _ _ | refine Ab.drew ?_ | refine Ab.drewN ?_ _ | refine Ab.alloc ?_ _)) F;have P:=Aa (D.o.O a3 (fun k h _ _=>by omega));have s:=Aa (K.o.O a3 (by omega));have c8:=s.o.cell 0;have e4:=s.o.frozen 0;have b9:=Ae s.o;simp only [dM,dJ] at c8;have g0:=a3.size;have c4:=Aa e0;have c7:=Aa d6;have R4:=Aa a4;have O5:=Aa a3;clear e0 d6 a4 F a3;unfold Lv;dsimp only))
   all_goals
    have a0:Ab (fun k=>Value.ownBlock (.slice A C B)=some k) w4 J:=Ab.grown ((Ab.refl _ _).alloc _) S (fun k c=>.inl c);have a7:=(Ab.refl (fun k=>k=m.heap.size+1) J).d8 0 (.slice G I H);have b6:∀j,j<w.heap.size+1→¬Value.ownBlock (.slice A C B)=some j:=fun j hj q=>by have:=(Z.o j q).1;omega
    have hP:=FW.push (u:=.slice G I H) P.o b9 c4.o (fun k c=>by have E:=c7.o k c;simp only [World.size_drew] at E;exact ⟨by omega,E.2,by omega,fun q=>by have:=(D.o.row.lt k q).2;omega⟩) ((Ab.refl _ _).alloc _) b7 S (fun k c=>(d9 k c).imp id (fun q=>by simp at q;omega));have d3:AR b g n r x3 (J.setCell ⟨m.heap.size+1,0,none⟩ (.slice G I H)):=(R4.o.O a0 (b6 b (by omega))).O a7 (by omega);have e9:AZ g n r i (J.setCell ⟨m.heap.size+1,0,none⟩ (.slice G I H)):=((T1.o.O O5.o d8).O a0 (b6 g (by omega))).O a7 (by omega);have e5:=((A1.o.O O5.o (by omega)).O a0 (b6 w.heap.size (by omega))).O a7 (by omega);have e6:Ak (m.heap.size+1) #[.slice G I H,.int .i64 0] 82 (J.setCell ⟨m.heap.size+1,0,none⟩ (.slice G I H)):=by have:=(s.o.O a0 (fun q=>(Z.o _ q).2 rfl)).set 0 (.slice G I H);simpa using this
    have e8:Ab (fun k=>k=b) w (J.setCell ⟨m.heap.size+1,0,none⟩ (.slice G I H)):=(Ab.grown ((Q.o.trans O5.o).alloc _) S (fun k c=>.inr (by have:=(Z.o k c).1;omega))).u9 0 _ (by omega);have e7:=Ed d3;clear b7 S d9 q1 q2 c4 c7 P s R4 a0 a7;go_wp2_with fail;go_roundw
    case rel=>exact ⟨x3,f2,_,_,_,L++[t3],_,f1.2,by simp;omega,by omega,d3,e9,e5,e6,hP,e8,e2⟩
    case measure=>rw [e7,e3.o];omega
  ·have hv:(L,x)=(l2,x2):=by
    rw [←HC.o];cases f with
    | zero=>rfl
    | succ f=>rw [CZ,if_neg T]
   simp only [Prod.mk.injEq] at hv
   obtain ⟨rfl,rfl⟩:=hv
   have f9:(((Ag i x.next).kind:Int)==3)=false:=by simp;omega
   clear HC T
   go_wp2_with fail
   refine (AS b g n r x i _ M.o R.o W).mono ?_
   rintro e wk ⟨rfl,o⟩
   have R1:=Aa (Ak.O M.o o (fun q=>q))
   have T1:=Aa (R.o.O o (fun q=>q))
   have A1:=Aa (a5.o.O o (fun q=>q))
   have K:=Aa (hC.o.O o (fun q=>q))
   have D:=Aa (a6.o.O o (fun _ _ _ _ q=>q))
   have Q:=Aa (hO.o.bI o)
   clear M R a5 hC a6 hO o
   go_wp2_with fail
   refine (AG b g n r 0 x i _ R1.o T1.o W).mono ?_
   rintro e w4 ⟨rfl,a4,F⟩
   have A4:=Aa (A1.o.O F (by omega))
   have s:=Aa (K.o.O F (by omega))
   have P:=Aa (D.o.O F (fun k h _ _=>by omega))
   have O4:=Aa (Q.o.trans F)
   have R4:=Aa a4
   clear R1 T1 A1 K D Q a4 F
   obtain ⟨A,C,B,rfl⟩:=Ad P.o.row
   have b0:=A4.o.cell 0
   have b1:=A4.o.cell 1
   have bf:=A4.o.frozen
   have d0:=s.o.cell 0
   have d1:=s.o.cell 1
   have df:=s.o.frozen
   have lB:=Ae A4.o
   have lC:=Ae s.o
   simp only [dM,dJ,dK] at b0 b1 d0 d1
   obtain ⟨t,k1⟩:∃y,Ax i 0 x=y:=⟨_,rfl⟩
   rw [k1]
   have K1:=Aa k1
   clear k1
   unfold Vy
   have f8:=Tryz.placeOf
   go_wp2
   refine bodyPost_ret (v:=.agg #[.slice A C B,.int .i64 t.c9]) (by simp [results,Tryz.results71,go_sem,b0,b1]) rfl ?_
   have hs:=(((Ab.refl (fun k=>k=w.heap.size∨k=m.heap.size+1) w4).setCell (p:=⟨m.heap.size+1,1,none⟩) (.inl (.inr rfl)) (.int .i64 t.c9)).setCell (p:=⟨w.heap.size,0,none⟩) (.inl (.inl rfl)) (.slice A C B)).setCell (p:=⟨w.heap.size,1,none⟩) (.inl (.inl rfl)) (.int .i64 t.c9)
   have a1:=P.o.O hs (fun k E _ h3=>by omega)
   refine ⟨d,fun k=>U k∨Value.ownBlock (.slice A C B)=some k,A,C,B,by rw [K1.o],⟨b2,Ao a1.row (Nat.zero_le _),a1.len,fun k c=>.inr c,fun j z g2=>(a1.bV j z g2).more (fun k c=>.inl c)⟩,?_,R4.o.O hs (by omega),((O4.o.u9 1 _ (by omega)).u9 0 _ (Nat.le_refl _)).u9 1 _ (Nat.le_refl _)⟩
   intro k c
   rcases c with c | c
   ·have:=a1.u k c;exact ⟨by omega,this.2.1⟩
   ·have:=a1.row.lt k c;exact ⟨by omega,this.2⟩
theorem Cz:∀{a:List (List Value)} {s:Nat},(∀c,c∈a→c.length=s)→∀{j i:Nat} (b:j<a.length),i<s→a.flatten[j*s+i]? =a[j][i]?
 | [],_,_,_,_,b,_=>by simp at b
 | c::a,s,d,0,i,_,g=>by have f:=d c (by simp);simp only [Nat.zero_mul,Nat.zero_add,List.flatten_cons,List.getElem_cons_zero];rw [List.getElem?_append_left (by omega)]
 | c::a,s,d,j+1,i,b,g=>by
   have f:=d c (by simp);have h:j<a.length:=by simpa using b
   have e:(j+1)*s+i=s+(j*s+i):=by rw [Nat.succ_mul];omega
   simp only [List.flatten_cons,List.getElem_cons_succ];rw [e,List.getElem?_append_right (by omega),f,Nat.add_sub_cancel_left];exact Cz (fun x k=>d x (by simp [k])) h g
theorem Di.O{d}{U:Nat→Prop}{w f sv a}{X:Nat→Prop}(h:Di d U w sv a)(c:Ab X w f)(e:∀k,U k→¬X k):Di d U f sv a:=by obtain ⟨i,m,n,b,o⟩:=h;exact ⟨i,Ac m c (fun k p=>e k (b k p)),n,b,fun j g l=>(o j g l).O c e⟩
theorem Di.get{d}{U:Nat→Prop}{w g l c a}(h:Di d U w (.slice (some ⟨g,0,none⟩) l c) a){j}(t:j<a.length):
 ∃(b f:Value),(∀i,i<5→w.cell? ⟨g,j*5+i,none⟩=(Lv a[j] b f)[i]?)∧w.ownsRow 0 128 2 b a[j].i8.length (Bt a[j].i8)∧(∀k,b.ownBlock=some k→U k)∧Cn d U w f a[j].v8:=by
 obtain ⟨n,o,C,D,p⟩:=h;have v:=Aq o;subst v;have q:j<n.length:=by omega
 obtain ⟨b,f,e,z,A,B⟩:=p j t q;have u:∀x,x∈n→x.length=5:=by intro x y;obtain ⟨i,m,rfl⟩:=List.mem_iff_getElem.1 y;obtain ⟨_,_,r,_⟩:=p i (by omega) m;rw [r];rfl
 refine ⟨b,f,fun i m=>?_,z,A,B⟩;have s:=o.cellAt (j*5+i) (by omega);rw [s,Cz u q m,e];simp
def Kf(F:DataW Unit)(N:Nat):Prop:=∀s,Maps.has F (Ba s)=true→∃j:Nat,j<N∧F.atKey (Ba s) (.lit (.int .i64 0))=.lit (.int .i64 j)
def BI(F:DataW Unit)(s:ByteArray):Nat:=match F.atKey (Ba s) (.lit (.int .i64 0)) with | .lit (.int _ z)=>z.toNat | _=>0
def Iv(a:List TF)(j:Nat):Nat:=(a[j]?.map (fun t=>t.i8.length)).getD 0
def DH(F:DataW Unit)(b:List TF)(t:PT)(a:Nat)(c:CS):CS:=
 if Maps.has F (Ba t.a9) then (if Iv b (BI F t.a9)=a then c else BA 7 t.c9 c) else BA 6 t.c9 c
theorem Pu(b d:Nat)(U:Nat→Prop)(s:Value)(f:List TF)(B:Int)(A:Value)(m n:Nat)(F:DataW Unit)(c:CS)(t:PT)(a:Nat)(w:World)(p:Ci b s B (.map (some m)) A c w)(K:A7 m n F w)(x:Di d U w s f)(T:Kf F f.length)(X:t.a9.size≤4000)(hk:f.length≤4001):
 Calls Tryz.prog 165 #[.pointer (some ⟨b,0,none⟩),Je t,.int .i64 a] w fun e N=>e=.returned (.tuple #[])∧Ci b s B (.map (some m)) A (DH F f t a c) N∧Ab (fun k=>k=b) w N:=by
 have M:=Ar p 0;have r2:=Ar p 2;simp only [dM,dJ,dK] at M r2;have lr:=Ae p;obtain ⟨z,L,D,_⟩:=Ep (w:=(w.alloc (.cells #[.string t.a9,.int .i64 t.c9] 128)).drew) (K.O (((Ab.refl (fun _=>False) w).alloc _).drew) (fun q=>q)) X;have C:=Aa p;clear p K;unfold Je;cases h:Maps.has F (Ba t.a9) with
 | false=>
   rw [h] at L;have i:DH F f t a c=BA 6 t.c9 c:=by simp [DH,h]
   rw [i];clear i h x M;go_enter Tryz.func165,Tryz.ntmps165;go_wp2;go_region;go_wp2_with (go_at_call 75;refine (BK b 6 t.c9 s B (.map (some m)) A c _ (C.o.O (((Ab.refl (fun _=>False) w).alloc _).drew) (fun q=>q))).mono ?_);rintro e w2 ⟨rfl,I,H⟩;go_wp2;refine bodyPost_ret (v:=.tuple #[]) (by simp [results,Tryz.results165,go_sem]) rfl ⟨rfl,I,(((Ab.refl _ w).alloc _).drew).trans H⟩
 | true=>
   rw [h] at L;obtain ⟨j,J,E⟩:=T _ h;have hz:z=(j:Int):=by rw [E] at D;simpa using D.symm
   have u:BI F t.a9=j:=by simp [BI,E]
   have y:Iv f j=f[j].i8.length:=by simp [Iv,J]
   subst hz;have W:=x;obtain ⟨a0,r,_⟩:=W;obtain ⟨va,vl,vc,rfl⟩:=Ad r;obtain ⟨g,rfl⟩:=AA r (by omega);have Z:=Aq r;subst Z;have lg:=(r.lt g rfl).2;obtain ⟨av,sv,l,G,_,_⟩:=x.get J;obtain ⟨aa,al,ac,rfl⟩:=Ad G;have V:=Aq G;subst V;have Q:=l 2 (by omega);have O:=l 0 (by omega);have P:=l 1 (by omega);have R:=l 3 (by omega);have S:=l 4 (by omega);simp only [Lv,dM,dJ,dK,Nat.add_zero] at O P Q R S;clear r G l x D E;by_cases o:f[j].i8.length=a
   ·have i:DH F f t a c=c:=by simp [DH,h,u,y,o]
    rw [i];have Y:((f[j].i8.length:Int) !=(a:Int))=false:=by simp [o]
    clear i h u y o;go_enter Tryz.func165,Tryz.ntmps165;go_wp2;go_region;go_wp2;go_end0;exact ⟨rfl,C.o.O (((Ab.refl (fun _=>False) w).alloc _).drew) (fun q=>q),((Ab.refl _ w).alloc _).drew⟩
   ·have i:DH F f t a c=BA 7 t.c9 c:=by simp [DH,h,u,y,o]
    rw [i];have Y:((f[j].i8.length:Int) !=(a:Int))=true:=by simp;omega
    clear i h u y o;go_enter Tryz.func165,Tryz.ntmps165;go_wp2;go_region;go_wp2_with (go_at_call 75;refine (BK b 7 t.c9 _ B (.map (some m)) A c _ (C.o.O (((Ab.refl (fun _=>False) w).alloc _).drew) (fun q=>q))).mono ?_);rintro e w2 ⟨rfl,I,H⟩;go_wp2;go_end0;exact ⟨rfl,I,(((Ab.refl _ w).alloc _).drew).trans H⟩
structure RF where
 name:Tk
 aZ:List Tk
 bD:List Nat
 br:Nat
 l8:List ByteArray
def Au(B:Nat)(w:World)(v:Value)(l:List ByteArray):Prop:=w.ownsRow B 9 1 v l.length (l.map Value.string)
def CE:List ByteArray→ByteArray→Nat→Int
 | [],_,_=> -1
 | a::l,s,k=>if a.toList=s.toList then (k:Int) else CE l s (k+1)
theorem UV(l:List ByteArray)(s:ByteArray)(k:Nat)(h:k<l.length):CE (l.drop k) s k=if l[k].toList=s.toList then (k:Int) else CE (l.drop (k+1)) s (k+1):=by rw [List.drop_eq_getElem_cons h];rfl
theorem Dd{a b:ByteArray}(h:a.toList=b.toList):a=b:=by rw [ByteArray.toList_eq,ByteArray.toList_eq] at h;exact ByteArray.ext (Array.toList_inj.1 h)
theorem Db(l s):∀k,(0≤CE l s k↔s∈l)∧ -1≤CE l s k∧CE l s k<k+l.length:=by
 induction l with
 | nil=>intro k;simp [CE];omega
 | cons a l d=>
   intro k;rw [CE];split
   ·rename_i h;have:=Dd h;subst this;exact ⟨⟨fun _=>List.mem_cons_self ..,fun _=>by omega⟩,by omega,by simp;omega⟩
   ·rename_i h;obtain ⟨b,c,e⟩:=d (k+1);refine ⟨⟨fun q=>List.mem_cons_of_mem _ (b.1 q),fun q=>?_⟩,c,by simp only [List.length_cons];omega⟩;rcases List.mem_cons.1 q with q | q
    ·subst q;exact absurd rfl h
    ·exact b.2 q
def C7(e p:Nat)(c:CS):CS:=if c.aR=0∨p<c.c9∨(p=c.c9∧e<c.aR) then ⟨e,p⟩ else c
section
variable {g k B h b : Nat} {U : Nat → Prop} {e i : Value} {a : List RF} {d : List FS} {c : CS} {w j : World}
end
def FH(f:List ByteArray)(t:Tk)(c:CS):CS:=if 0≤CE f t.a9 0 then c else C7 6 t.pos c
def JT(a:List RF)(t:Tk)(l:Int)(c:CS):CS:=
 if 0≤CE (a.map fun f=>f.name.a9) t.a9 0 then
  (if 0≤l∧((((a.map fun f=>f.aZ.length)[(CE (a.map fun f=>f.name.a9) t.a9 0).toNat]?).getD 0:Nat):Int)≠l then C7 7 t.pos c else c)
 else C7 6 t.pos c
def EU(l:List ByteArray)(t:Tk)(c:CS):CS:=
 let f:=if 12≤l.length then C7 4 t.pos c else c
 if 0≤CE l t.a9 0 then C7 5 t.pos f else f
theorem Tryz.infoStr:(Tryz.prog.info? 9).map (fun i=>(i.zero,i.size,i.bytes))=some (some (.string ByteArray.empty),1,16):=by kernel_rfl
theorem Ab.cell{X:Nat→Prop}{w a b}(d:Ab X w a)(i)(c:b<w.heap.size)(e:¬X b):a.cell? ⟨b,i,none⟩=w.cell? ⟨b,i,none⟩:=World.cell?_of_block (d.block b c e)
end Go.Proofs.YtegmjgjkcdbmkaaGreatDoor

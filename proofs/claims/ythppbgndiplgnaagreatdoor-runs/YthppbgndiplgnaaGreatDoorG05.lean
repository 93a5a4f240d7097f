/- One of the texts of the proof of runs_card_holds: TrH TrI TrJ TrK. -/
import Derived.Test.YthppbgndiplgnaaGreatDoorG04
set_option maxRecDepth 100000
set_option maxHeartbeats 2000000
namespace Go.Proofs.YthppbgndiplgnaaGreatDoor
open Go.RowKit
theorem Tryz.infoTS:(Tryz.prog.info? 197).map (fun i=>(i.zero,i.size,i.bytes))=some (some (.agg XG),8,112):=by kernel_rfl
theorem Wp(s a d l f c e):∀u∈(EH s (.slice a l c) (.slice d f e)).toList,u.oneCell'=true:=by intro u b;simp [EH] at b;rcases b with rfl | rfl | rfl | rfl | rfl | rfl | rfl | rfl<;>rfl
theorem Fw(B0 d6 f)(ih:∀k,k≤f→GK B0 d6 k)(b g n o s c w)(hb:B0≤b)(hG:Below B0 d6 w)(hB:B0≤w.heap.size)(hr:A3 b g n o s w)(S:Ba g n o c w)(c7:s.i8<n)(hz:(Aj c (n-1)).kind=0)(hf:2*(n-(Af c n 12 s).i8)+1≤f):
 Calls Tryz.prog 100 #[.pointer (some ⟨b,0,none⟩)] w fun e w'=>Xo b g n o w (AH c 12 s).i9 ((AO c n f (Af c n 12 s) []).1,Af c n 13 (AO c n f (Af c n 12 s) []).2) e w':=by
 obtain ⟨i0,hi,e8,e9,f0⟩:=info_parts Tryz.infoTS;have lr:=Ae hr;have lg:=S.lt;have hn:=S.2.2.1;have c9:=S.ne hr (by decide);have c8:=AY (k:=12) hz c7;obtain ⟨x1,M⟩:∃y,Af c n 12 s=y:=⟨_,rfl⟩;rw [M] at hf c8⊢;obtain ⟨t,k1⟩:∃y,AH c 12 s=y:=⟨_,rfl⟩;rw [k1];obtain ⟨V,hV⟩:∃V,AO c n f x1 []=V:=⟨_,rfl⟩;rw [hV];have X1:=Aa M;have K1:=Aa k1;have HV:=Aa hV;have HZ:=Aa hz;have HG:=Aa hG;have IH:=Aa ih;clear M k1 hV hz hG ih;go_enter Tryz.func100,Tryz.ntmps100;go_wp2_with fail;refine (AI b g n o 12 s c _ (Ar.alloc hr _) (S.f8 ((Ab.refl (fun _=>False) _).alloc _) (fun q=>q)) c7).mono ?_;rw [X1.o,K1.o];rintro e l ⟨rfl,d3,a3⟩;have f1:=a3.size;simp at f1;have c0:=Aa ((S.f8 ((Ab.refl (fun _=>False) _).alloc (.cells #[.int .i64 0,.slice none 0 0] 96)) (fun q=>q)).f8 a3 c9);have b6:dJ (Ar w.heap.size #[.int .i64 0,.slice none 0 0] 96 l):=(Ar.new w _ _).f8 a3 (by omega);have b7:=Aa (((Ab.refl (fun k=>k=b) w).alloc _).trans a3);have b8:=Aa d3;have f7:w.heap.size+1≤l.heap.size:=by omega
 clear d3 a3 hr S;unfold Ut;have e6:=Tryz.placeOf;go_wp2_with fail;clear e6;go_loopw [] (fun wr=>∃(x:PS) (z d:Nat) (U:Nat→Prop) (sv:Value) (L:List TS) (b2:List (List Value)),x.i8<n∧L.length≤x.i8∧z≤f∧2*(n-x.i8)+1≤z∧dJ (A3 b g n o x wr)∧dJ (Ba g n o c wr)∧dJ (Ar w.heap.size #[.int .i64 0,.slice none 0 0] 96 wr)∧dJ (Ar l.heap.size #[.int .i64 t.i9,sv] 96 wr)∧dJ (BR l.heap.size d U wr sv L b2)∧dJ (Ab (fun k=>k=b) w wr)∧dJ (AO c n z x L=V)) (fun wr=>n-KL b wr)
 case atStart=> exact ⟨x1,f,0,fun _=>False,.slice none 0 0,[],[],c8,by simp,aV _,hf,Ar.alloc b8.o _,c0.o.f8 ((Ab.refl (fun _=>False) _).alloc _) (fun q=>q),Ar.alloc b6.o _,Ar.new _ _ _,BR.nil _ _,b7.o.alloc _,HV⟩
 case round=>
  clear b8 c0 b6 b7 HV;obtain ⟨x,z,d,U,sv,L,b2,T,f4,f5,f6,N,Q,a7,hC,a6,hO,HC⟩:=hrel;have d9:=Aa (EB N.o);by_cases A:CQ (Aj c x.i8).kind
  ·obtain ⟨r,rfl⟩:∃r,z=r+1:=⟨z-1,by omega⟩;obtain ⟨t3,x3,h3⟩:∃t y,Bt c n r x=(t,y):=⟨_,_,rfl⟩;have c4:AO c n r x3 (L++[t3])=V:=by have:=HC.o;rw [AO,cU A,h3] at this;exact this
   have e7:x.i8+1≤x3.i8∧x3.i8<n:=by have g1:=Ga (n:=n) HZ.o r x T;rw [h3] at g1;obtain ⟨f3,rfl⟩:∃f3,r=f3+1:=⟨r-1,by omega⟩;have g2:=Hz HZ.o f3 T A;rw [h3] at g2;exact ⟨g2,g1.2⟩
   have X3:=Aa h3;have d8:=Aa c4;have d7:=Aa A;have a2:decide (CQ (Aj c x.i8).kind)=true:=by simp [A]
   have a9:=Aa a2;clear HC h3 c4 A a2;go_wp2_with fail;refine (J7 b g n o x c _ N.o Q.o T).mono ?_;rw [a9.o];rintro e wk ⟨rfl,m⟩;have Y:=Aa (Ar.f8 N.o m (fun q=>q));have Z:=Aa (Q.o.f8 m (fun q=>q));have A1:=Aa (a7.o.f8 m (fun q=>q));have K:=Aa (hC.o.f8 m (fun q=>q));have J:=Aa (a6.o.f8 m (fun _ _ _ q=>q));have P:=Aa (hO.o.YF m);clear N Q a7 hC a6 hO m;obtain ⟨C,G,E,rfl⟩:=Ad J.o.row;have c1:=K.o.cell 1;have cf:=K.o.frozen 1;have lc:=Ae K.o;have g0:=Ae Y.o;have f9:=P.o.size;simp only [aU,aS,aT] at c1;have W:=Aa (fun k (i:Value.ownBlock (.slice C G E)=some k)=>(J.o.row.lt k i).1);go_wp2_with fail;go_region_law (first
    | (refine Ay rfl _ _ 94 rfl (l.heap.size+1) 197 i0 (.agg XG) 8 112 Tryz.underlying94 hi e8 e9 f0 rfl (by decide) _ _ _ rfl (O.o.row.alloc _) ⟨w4.heap.size,0,none⟩ 1 1 (EH s4 (.slice aa al ac) (.slice ba bl bc)).toList rfl rfl (AN rfl _ _) (Wp _ _ _ _ _ _ _) (by decide) (by unfold maxLen;omega) (by omega) (by simp;omega) ?_;intro v' I b4 R d2;have q1:I.cell? ⟨l.heap.size,1,none⟩=some (.slice C G E):=(aW (R.block l.heap.size (by simp;omega) (fun h=>by have:=W.o _ h.symm;omega))).trans (by rw [←c3];exact aW (bF _ _ _ d5));have q2:I.frozen? ⟨l.heap.size,1,none⟩=false:=(bB (R.block l.heap.size (by simp;omega) (fun h=>by have:=W.o _ h.symm;omega))).trans (by rw [←e0];exact bB (bF _ _ _ d5));obtain ⟨D,H,F,rfl⟩:=Ad b4)
    | (go_simp;go_at_call 119;refine (IH.o r (by omega) b g n o x c _ hb (Ab.keeps HG.o (P.o.YF (by repeat (first | exact Ab.refl _ _ | refine Ab.drew ?_ | refine Ab.drewN ?_ _ | refine Ab.alloc ?_ _))) hB hb) (by simp;omega) (Ar.f8 (X:=fun _=>False) Y.o (by repeat (first | exact Ab.refl _ _ | refine Ab.drew ?_ | refine Ab.drewN ?_ _ | refine Ab.alloc ?_ _)) (fun q=>q)) (Z.o.f8 (X:=fun _=>False) (by repeat (first | exact Ab.refl _ _ | refine Ab.drew ?_ | refine Ab.drewN ?_ _ | refine Ab.alloc ?_ _)) (fun q=>q)) T HZ.o d7.o (by omega)).mono ?_;rw [X3.o];rintro e w4 ⟨d4,U4,s4,av,bv,rfl,b5,c6,a5,B⟩;obtain ⟨⟨aa,al,ac,rfl⟩,⟨ba,bl,bc,rfl⟩⟩:=b5.Zf;have a4:=Ab.trans (X:=fun k=>k=b) (a:=wk) (by repeat (first | exact Ab.refl _ _ | refine Ab.drew ?_ | refine Ab.drewN ?_ _ | refine Ab.alloc ?_ _)) B;have O:=Aa (J.o.f8 a4 (fun k h _=>by omega));have p:=Aa (K.o.f8 a4 (by omega));have c3:=p.o.cell 1;have e0:=p.o.frozen 1;have d5:=Ae p.o;simp only [aU,aS,aT] at c3;have f8:=a4.size;have b9:=Aa b5;have c2:=Aa c6;have R4:=Aa a5;have O5:=Aa a4;clear b5 c6 a5 B a4;unfold EH;dsimp only))
   all_goals
    have a0:Ab (fun k=>Value.ownBlock (.slice C G E)=some k) w4 I:=Ab.grown ((Ab.refl _ _).alloc _) R (fun k i=>.inl i);have a8:=(Ab.refl (fun k=>k=l.heap.size) I).p7 1 (.slice D H F);have b3:∀j,j<l.heap.size→¬Value.ownBlock (.slice C G E)=some j:=fun j hj q=>by have:=W.o j q;omega
    have hP:=BR.push (u:=.slice D H F) O.o b9.o (fun k i=>by have M:=c2.o k i;simp only [World.size_drew] at M;exact ⟨by omega,M.2,fun q=>by have:=(J.o.row.lt k q).2;omega⟩) ((Ab.refl _ _).alloc _) b4 R (fun k i=>(d2 k i).imp id (fun q=>by simp at q;omega));have c5:A3 b g n o x3 (I.setCell ⟨l.heap.size,1,none⟩ (.slice D H F)):=(R4.o.f8 a0 (b3 b (by omega))).f8 a8 (by omega);have e5:Ba g n o c (I.setCell ⟨l.heap.size,1,none⟩ (.slice D H F)):=((Z.o.f8 O5.o c9).f8 a0 (b3 g (by omega))).f8 a8 (by omega);have e1:=((A1.o.f8 O5.o (by omega)).f8 a0 (b3 w.heap.size (by omega))).f8 a8 (by omega);have e2:Ar l.heap.size #[.int .i64 t.i9,.slice D H F] 96 (I.setCell ⟨l.heap.size,1,none⟩ (.slice D H F)):=by have:=(p.o.f8 a0 (fun q=>by have:=W.o _ q;omega)).set 1 (.slice D H F);simpa using this
    have e4:Ab (fun k=>k=b) w (I.setCell ⟨l.heap.size,1,none⟩ (.slice D H F)):=(Ab.grown ((P.o.trans O5.o).alloc _) R (fun k i=>.inr (by have:=W.o k i;omega))).Yc 1 _ (by omega);have e3:=EB c5;clear b4 R d2 q1 q2 b9 c2 O p R4 a0 a8;go_wp2_with fail;go_roundw
    case rel=>exact ⟨x3,r,_,_,_,L++[t3],_,e7.2,by simp;omega,by omega,by omega,c5,e5,e1,e2,hP,e4,d8⟩
    case measure=>rw [e3,d9.o];omega
  ·have hv:V=(L,x):=by
    rw [←HC.o];cases z with
    | zero=>rfl
    | succ z=>rw [AO,cT A]
   subst hv
   have a2:decide (CQ (Aj c x.i8).kind)=false:=by simp [A]
   have a9:=Aa a2
   clear HC A a2
   go_wp2_with fail
   refine (J7 b g n o x c _ N.o Q.o T).mono ?_
   rw [a9.o]
   rintro e wk ⟨rfl,m⟩
   have Y:=Aa (Ar.f8 N.o m (fun q=>q))
   have Z:=Aa (Q.o.f8 m (fun q=>q))
   have A1:=Aa (a7.o.f8 m (fun q=>q))
   have K:=Aa (hC.o.f8 m (fun q=>q))
   have J:=Aa (a6.o.f8 m (fun _ _ _ q=>q))
   have P:=Aa (hO.o.YF m)
   clear N Q a7 hC a6 hO m
   go_wp2_with fail
   refine (AI b g n o 13 x c _ Y.o Z.o T).mono ?_
   rintro e w4 ⟨rfl,a5,B⟩
   have A4:=Aa (A1.o.f8 B (by omega))
   have p:=Aa (K.o.f8 B (by omega))
   have O:=Aa (J.o.f8 B (fun k h _=>by omega))
   have O4:=Aa (P.o.trans B)
   have R4:=Aa a5
   clear Y Z A1 K J P a5 B
   obtain ⟨C,G,E,rfl⟩:=Ad O.o.row
   have b0:=A4.o.cell 0
   have b1:=A4.o.cell 1
   have bf:=A4.o.frozen
   have d0:=p.o.cell 0
   have d1:=p.o.cell 1
   have lB:=Ae A4.o
   have lC:=Ae p.o
   simp only [aU,aS,aT] at b0 b1 d0 d1
   go_wp2
   refine bC (v:=.agg #[.int .i64 t.i9,.slice C G E]) (by simp [results,Tryz.results100,go_sem,b0,b1]) rfl ?_
   have hs:=((Ab.refl (fun k=>k=w.heap.size) w4).p7 0 (.int .i64 t.i9)).p7 1 (.slice C G E)
   have a1:=O.o.f8 hs (fun k M _=>by omega)
   refine ⟨d,fun k=>U k∨Value.ownBlock (.slice C G E)=some k,_,rfl,⟨b2,Ax a1.row (bI _),a1.len,fun k i=>.inr i,fun j g1 g2=>(a1.YV j g1 g2).more (fun k i=>.inl i)⟩,?_,R4.o.f8 hs (by omega),(O4.o.Yc 0 _ (aV _)).Yc 1 _ (aV _)⟩
   intro k i
   rcases i with i | i
   ·have:=a1.u k i;exact ⟨by omega,this.2⟩
   ·have:=a1.row.lt k i;exact ⟨by omega,this.2⟩
theorem Uk{w:World}{j:Nat}(b:j=w.heap.size)(a c:Value):(w.alloc (.cells #[a,c] 96)).ownsRow 0 96 2 (.slice (some ⟨j,0,none⟩) 1 1) 1 [a,c]:=by subst b;exact ⟨rfl,.inr ⟨w.heap.size,1,#[a,c],rfl,bI _,heap_alloc_new w _,aV _,by unfold maxLen;omega,rfl,rfl⟩⟩
theorem PW(s J f)(ih:∀k,k≤f→GK s J k)(b g n r o a w)(Q:s≤b)(O:Below s J w)(hB:s≤w.heap.size)(m:A3 b g n r o w)(Y:Ba g n r a w)(R:o.i8<n)(x:(Aj a (n-1)).kind=0)(c:(Aj a o.i8).kind=9)(hf:2*(n-o.i8)≤f+1):
 Calls Tryz.prog 135 #[.pointer (some ⟨b,0,none⟩)] w fun e w'=>UR b g n r w (Bt a n (f+1) o) e w':=by
 obtain ⟨K,t⟩:∃y,Af a n 9 o=y:=⟨_,rfl⟩;obtain ⟨D,C⟩:∃y,Af a n 20 K=y:=⟨_,rfl⟩;obtain ⟨p,I⟩:∃y,(AH a 12 D).i9=y:=⟨_,rfl⟩;obtain ⟨l3,y3,E⟩:∃l y,AO a n f (Af a n 12 D) []=(l,y):=⟨_,_,rfl⟩;obtain ⟨x3,F⟩:∃y,Af a n 13 y3=y:=⟨_,rfl⟩;have Z:Bt a n (f+1) o=(.mk (Eo 12) [(p,l3)],x3):=by rw [Bt,cT (by omega),cU c];simp only [t,C,I,E,F]
 rw [Z];have M:=BW (n:=n) c (by omega);rw [t] at M;have S:K.i8<n:=by rw [←t];exact AY x R
 have B:=Ag x 20 S;rw [C] at B;have T:=B.2;have N:=Ag x 12 T;have a1:2*(n-(Af a n 12 D).i8)+1≤f:=by have:=B.1;have:=N.1;omega
 have z:=Aa (JL.start m Y);have HG:=Aa O;have IH:=Aa ih;have HZ:=Aa x;have X1:=Aa t;have X2:=Aa C;have XP:=Aa I;have X3:=Aa E;have X4:=Aa F;clear t C I E F Z m Y x c O ih B N M;go_enter Tryz.func135,Tryz.ntmps135;go_wp2_with fail;refine (AI b g n r 9 o a _ z.o.pa z.o.pt R).mono ?_;rw [X1.o];rintro e w1 ⟨rfl,m,u⟩;have A:=Aa (z.o.call m u);clear m u z;go_wp2_with fail;refine (AI b g n r 20 K a _ A.o.pa A.o.pt S).mono ?_;rw [X2.o];rintro e w2 ⟨rfl,m,u⟩;have q:=Aa (A.o.call m u);clear m u A;have a6:=q.o.f8.size;have a2:=Aa (Ae q.o.t8);go_wp2_with fail;refine (Fw s J f IH.o b g n r D a _ Q (Ab.keeps HG.o q.o.f8 hB Q) (by omega) q.o.pa q.o.pt T HZ.o a1).mono ?_;rw [XP.o,X3.o];simp only;rw [X4.o];rintro e w3 ⟨d,U,sv,rfl,G,P,V,H⟩;have a0:=G;obtain ⟨a4,W,_⟩:=a0;obtain ⟨va,vl,vc,rfl⟩:=Ad W;have j:=Aa (q.o.call V H);have HT:=Aa G;have L:=Aa P;have a7:=H.size;clear G P V H W q;have q0:=j.o.t8.cell 0;have q1:=j.o.t8.cell 1;have q2:=j.o.t8.cell 2;have q3:=j.o.t8.cell 3;have q4:=j.o.t8.cell 4;have q5:=j.o.t8.cell 5;have q6:=j.o.t8.cell 6;have q7:=j.o.t8.cell 7;have qf:=j.o.t8.frozen;have ql:=Ae j.o.t8;simp only [aU,aS,aT] at q0 q1 q2 q3 q4 q5 q6 q7;go_wp2;refine bC (v:=.agg (EH (Eo 12) (.slice none 0 0) (.slice (some ⟨w3.heap.size,0,none⟩) 1 1))) (by simp [results,Tryz.results135,go_sem,EH,Eo,BF,q0,q1,q2,q3,q4,q5,q6,q7,ql];try rfl) rfl ?_;have a3:b≠w.heap.size:=by have:=j.o.bl;omega
 have a5:w.heap.size<w2.heap.size:=by have:=a2.o;omega
 refine ⟨d+1,fun k=>U k∨k=w3.heap.size,Eo 12,_,_,rfl,?_,?_,?_,?_⟩
 ·refine BU.blocks (svs:=[.slice va vl vc]) rfl (Uk (by simp) _ _) (fun k c=>.inr (by simp [Value.ownBlock] at c;omega)) ?_;intro i h h';have e:i=0:=by simp at h;omega
  subst e;refine CU.more ?_ (fun k c=>.inl c);refine HT.o.f8 (X:=fun k=>k=w.heap.size) ?_ (fun k c=>by have:=(L.o k c).1;omega);refine Ab.alloc ?_ _;iterate 8 refine Ab.p7 ?_ _ _
  exact Ab.refl _ _
 ·intro k c;simp only [World.size_alloc,World.size_setCell];rcases c with c | c
  ·have:=L.o k c;omega
  ·omega
 ·refine Ar.f8 (X:=fun k=>k=w.heap.size) j.o.pa ?_ a3;refine Ab.alloc ?_ _;iterate 8 refine Ab.p7 ?_ _ _
  exact Ab.refl _ _
 ·refine Ab.alloc ?_ _;iterate 8 refine Ab.Yc ?_ _ _ (aV _)
  exact j.o.f8
theorem Me{w:World}(a c:Value):(w.alloc (.cells #[a,c] 96)).ownsRow w.heap.size 96 2 (.slice (some ⟨w.heap.size,0,none⟩) 1 1) 1 [a,c]:=
 ⟨rfl,.inr ⟨w.heap.size,1,#[a,c],rfl,aV _,heap_alloc_new w _,aV _,by unfold maxLen;omega,rfl,rfl⟩⟩
theorem Tryz.infoTB:(Tryz.prog.info? 96).map (fun i=>(i.zero,i.size,i.bytes))=some (some (.agg #[.int .i64 0,.slice none 0 0]),2,32):=by kernel_rfl
theorem Pn(H a5 f)(ih:∀k,k≤f→GK H a5 k)(b g n r z c w)(V:H≤b)(hG:Below H a5 w)(hB:H≤w.heap.size)(o:A3 b g n r z w)(ht:Ba g n r c w)(b2:z.i8<n)(A:(Aj c (n-1)).kind=0)(a:(Aj c z.i8).kind=7)(hf:2*(n-z.i8)≤f+1):
 Calls Tryz.prog 134 #[.pointer (some ⟨b,0,none⟩)] w fun e w'=>UR b g n r w (Bt c n (f+1) z) e w':=by
 obtain ⟨x1,I⟩:∃y,Af c n 7 z=y:=⟨_,rfl⟩;obtain ⟨W,Q⟩:∃y,Af c n 20 x1=y:=⟨_,rfl⟩;obtain ⟨p,hp⟩:∃y,(AH c 12 W).i9=y:=⟨_,rfl⟩;obtain ⟨l3,y3,R⟩:∃l y,AO c n f (Af c n 12 W) []=(l,y):=⟨_,_,rfl⟩;obtain ⟨E,S⟩:∃y,Af c n 13 y3=y:=⟨_,rfl⟩;have e1:=BW (n:=n) a (by omega);rw [I] at e1;have b3:x1.i8<n:=by rw [←I];exact AY A b2
 have P:=Ag A 20 b3;rw [Q] at P;have b4:=P.2;have g3:=Ag A 12 b4;have c3:2*(n-(Af c n 12 W).i8)+1≤f:=by have:=P.1;have:=g3.1;omega
 have g4:=BE A f (Af c n 12 W) [] g3.2;rw [R] at g4;have g5:=Ag A 13 g4.2;rw [S] at g5;have a8:=g5.2;have e7:z.i8+1≤E.i8:=by have:=P.1;have:=g3.1;have:=g4.1;have:=g5.1;omega
 have lg:=ht.lt;have F:=Aa (JL.start o ht);have HG:=Aa hG;have IH:=Aa ih;have HZ:=Aa A;have X1:=Aa I;have X2:=Aa Q;have XP:=Aa hp;have X3:=Aa R;have X4:=Aa S;by_cases h8:(Aj c E.i8).kind=8
 ·obtain ⟨x4,k4⟩:∃y,Af c n 8 E=y:=⟨_,rfl⟩;obtain ⟨p2,b6⟩:∃y,(AH c 12 x4).i9=y:=⟨_,rfl⟩;obtain ⟨l5,y5,h5⟩:∃l y,AO c n f (Af c n 12 x4) []=(l,y):=⟨_,_,rfl⟩;obtain ⟨x6,h6⟩:∃y,Af c n 13 y5=y:=⟨_,rfl⟩;have hv:Bt c n (f+1) z=(.mk (Eo 11) [(p,l3),(p2,l5)],x6):=by rw [Bt,cU a];simp only [I,Q,hp,R,S,cU h8,k4,b6,h5,h6]
  rw [hv];have g6:=Ag A 8 a8;rw [k4] at g6;have c2:=g6.2;have g7:=Ag A 12 c2;have d4:2*(n-(Af c n 12 x4).i8)+1≤f:=by have:=g6.1;have:=g7.1;omega
  have d3:(((Aj c E.i8).kind:Int)==8)=true:=by simp [h8]
  have K4:=Aa k4;have d1:=Aa b6;have X5:=Aa h5;have X6:=Aa h6;obtain ⟨i0,hi,d9,e0,e3⟩:=info_parts Tryz.infoTB;clear I Q hp R S hv o ht A a hG ih P g3 e1 g4 g5 h8 k4 b6 h5 h6 g6 g7;go_enter Tryz.func134,Tryz.ntmps134;go_wp2_with fail;refine (AI b g n r 7 z c _ F.o.pa F.o.pt b2).mono ?_;rw [X1.o];rintro e w1 ⟨rfl,o,t⟩;have C:=Aa (F.o.call o t);clear o t F;go_wp2_with fail;refine (AI b g n r 20 x1 c _ C.o.pa C.o.pt b3).mono ?_;rw [X2.o];rintro e w2 ⟨rfl,o,t⟩;have m:=Aa (C.o.call o t);clear o t C;have e2:=m.o.f8.size;have d7:=Ae m.o.t8;go_wp2_with fail;refine (Fw H a5 f IH.o b g n r W c _ V (Ab.keeps HG.o m.o.f8 hB V) (by omega) m.o.pa m.o.pt b4 HZ.o c3).mono ?_;rw [XP.o,X3.o];simp only;rw [X4.o];rintro e B ⟨d,U,sv,rfl,K,hU,a3,L⟩;have a0:=K;obtain ⟨d2,a4,_⟩:=a0;obtain ⟨M,O,N,rfl⟩:=Ad a4;have J:=(Ab.refl (fun _=>False) B).alloc (.cells #[.int .i64 p,.slice M O N] 96);have D:=Aa ((m.o.call a3 L).quiet J);have HT:=Aa (K.f8 J (fun _ _ q=>q));have G:=Aa hU;have HR:=Aa (Me (w:=B) (.int .i64 p) (.slice M O N));have e4:=L.size;clear K hU a3 L a4 m J;go_wp2_with fail;refine (A5 b g n r E c _ D.o.pa D.o.pt a8).mono ?_;rintro e wk ⟨rfl,x⟩;have j:=Aa (D.o.quiet x);have a7:=Aa (HT.o.f8 x (fun _ _ q=>q));have a6:=Aa (Ac HR.o x (fun _ _ q=>q));have b7:=x.size;simp at b7;clear x D HT HR;go_wp2_with fail;refine (AI b g n r 8 E c _ j.o.pa j.o.pt a8).mono ?_;rw [K4.o];rintro e w4 ⟨rfl,c5,a1⟩;have Y:=Aa (j.o.call c5 a1);have e6:=j.o.bl;have c0:=Aa (a7.o.f8 a1 (fun k a=>by have:=(G.o k a).1;omega));have b9:=Aa (Ac a6.o a1 (fun k a=>by simp [Value.ownBlock] at a;omega));have e9:=a1.size;clear c5 a1 j a7 a6;go_wp2_with fail;refine (Fw H a5 f IH.o b g n r x4 c _ V (Ab.keeps HG.o Y.o.f8 hB V) (by omega) Y.o.pa Y.o.pt c2 HZ.o d4).mono ?_;rw [d1.o,X5.o];simp only;rw [X6.o];rintro e w5 ⟨d5,U5,f2,rfl,b1,c1,c6,a2⟩;have a0:=b1;obtain ⟨e5,c7,_⟩:=a0;obtain ⟨wa,wl,b8,rfl⟩:=Ad c7;have Z:=Aa (Y.o.call c6 a2);have c9:=Aa b1;have b0:=Aa c1;have d0:=Aa (c0.o.f8 a2 (fun k a=>by have:=(G.o k a).1;omega));have c8:=Aa (Ac b9.o a2 (fun k a=>by simp [Value.ownBlock] at a;omega));have f0:=a2.size;clear b1 c1 c6 a2 c7 Y c0 b9;have d8:=c8.o;go_wp2_with (at_builtin;refine cD _ rfl _ _ 195 rfl B.heap.size 96 i0 (.agg #[.int .i64 0,.slice none 0 0]) 2 32 Tryz.underlying195 hi d9 e0 e3 rfl (by decide) _ _ _ rfl (d8.alloc _) ⟨w5.heap.size,0,none⟩ 1 1 [.int .i64 p2,.slice wa wl b8] rfl rfl (AN rfl _ _) (fun u hu=>by simp at hu;rcases hu with rfl | rfl<;>rfl) (by unfold maxLen;omega) (by omega) (by simp;omega) ?_;intro v' w6 a9 d6 e8;obtain ⟨ya,yl,yc,rfl⟩:=Ad a9;have c4:(w5.alloc (.cells #[.int .i64 p2,.slice wa wl b8] 96)).grownBy w6 (some B.heap.size):=d6;have T:Ab (fun k=>k=B.heap.size) w5 w6:=Ab.grown ((Ab.refl _ _).alloc _) c4 (fun k a=>.inl (dE a).symm);have s:=Aa (JL.mk (Ar.f8 Z.o.pa T (by omega)) (Z.o.pt.f8 T (by omega)) (Z.o.t8.f8 T (by omega)) (Ab.grown (Z.o.f8.alloc _) c4 (fun k a=>.inr (by have:=dE a;omega))) Z.o.bl);have q0:=s.o.t8.cell 0;have q1:=s.o.t8.cell 1;have q2:=s.o.t8.cell 2;have q3:=s.o.t8.cell 3;have q4:=s.o.t8.cell 4;have q5:=s.o.t8.cell 5;have q6:=s.o.t8.cell 6;have q7:=s.o.t8.cell 7;have qf:=s.o.t8.frozen;have ql:=Ae s.o.t8;simp only [aU,aS,aT] at q0 q1 q2 q3 q4 q5 q6 q7);refine bC (v:=.agg (EH (Eo 11) (.slice none 0 0) (.slice ya yl yc))) (by simp [results,Tryz.results134,go_sem,EH,Eo,BF,q0,q1,q2,q3,q4,q5,q6,q7];try rfl) rfl ?_;have b5:b≠w.heap.size:=by omega
  have f1:=T.size;have T1:=d0.o.f8 T (fun k a=>by have:=(G.o k a).2;omega);have T2:=c9.o.f8 T (fun k a=>by have:=(b0.o k a).1;omega);refine ⟨max d d5+1,fun k=>U k∨U5 k∨Value.ownBlock (.slice ya yl yc)=some k,Eo 11,_,_,rfl,?_,?_,?_,?_⟩
  ·refine BU.f8 (X:=fun k=>k=w.heap.size) (w:=w6) ?_ ?_ ?_
   ·refine BU.blocks (svs:=[.slice M O N,.slice wa wl b8]) rfl (Ax a9 (bI _)) (fun k a=>.inr (.inr a)) ?_;intro i h h';have e:i=0∨i=1:=by simp at h;omega
    rcases e with rfl | rfl
    ·exact (T1.more (fun k a=>.inl a)).YS (Nat.le_max_left _ _)
    ·exact (T2.more (fun k a=>.inr (.inl a))).YS (Nat.le_max_right _ _)
   ·iterate 8 refine Ab.p7 ?_ _ _
    exact Ab.refl _ _
   ·intro k a;rcases a with a | a | a
    ·have:=(G.o k a).1;omega
    ·have:=(b0.o k a).1;omega
    ·have:=(a9.lt k a).1;omega
  ·intro k a;simp only [World.size_setCell];rcases a with a | a | a
   ·have:=G.o k a;omega
   ·have:=b0.o k a;omega
   ·have:=a9.lt k a;omega
  ·refine Ar.f8 (X:=fun k=>k=w.heap.size) s.o.pa ?_ b5;iterate 8 refine Ab.p7 ?_ _ _
   exact Ab.refl _ _
  ·iterate 8 refine Ab.Yc ?_ _ _ (aV _)
   exact s.o.f8
 ·have hv:Bt c n (f+1) z=(.mk (Eo 11) [(p,l3)],E):=by rw [Bt,cU a];simp only [I,Q,hp,R,S,cT h8]
  rw [hv]
  have d3:(((Aj c E.i8).kind:Int)==8)=false:=by simp;omega
  clear I Q hp R S hv o ht A a hG ih P g3 e1 g4 g5 h8
  go_enter Tryz.func134,Tryz.ntmps134
  go_wp2_with fail
  refine (AI b g n r 7 z c _ F.o.pa F.o.pt b2).mono ?_
  rw [X1.o]
  rintro e w1 ⟨rfl,o,t⟩
  have C:=Aa (F.o.call o t)
  clear o t F
  go_wp2_with fail
  refine (AI b g n r 20 x1 c _ C.o.pa C.o.pt b3).mono ?_
  rw [X2.o]
  rintro e w2 ⟨rfl,o,t⟩
  have m:=Aa (C.o.call o t)
  clear o t C
  have e2:=m.o.f8.size
  have d7:=Ae m.o.t8
  go_wp2_with fail
  refine (Fw H a5 f IH.o b g n r W c _ V (Ab.keeps HG.o m.o.f8 hB V) (by omega) m.o.pa m.o.pt b4 HZ.o c3).mono ?_
  rw [XP.o,X3.o]
  simp only
  rw [X4.o]
  rintro e B ⟨d,U,sv,rfl,K,hU,a3,L⟩
  have a0:=K
  obtain ⟨d2,a4,_⟩:=a0
  obtain ⟨M,O,N,rfl⟩:=Ad a4
  have J:=(Ab.refl (fun _=>False) B).alloc (.cells #[.int .i64 p,.slice M O N] 96)
  have D:=Aa ((m.o.call a3 L).quiet J)
  have HT:=Aa (K.f8 J (fun _ _ q=>q))
  have G:=Aa hU
  have HR:=Aa (Me (w:=B) (.int .i64 p) (.slice M O N))
  have e4:=L.size
  clear K hU a3 L a4 m J
  go_wp2_with fail
  refine (A5 b g n r E c _ D.o.pa D.o.pt a8).mono ?_
  rintro e wk ⟨rfl,x⟩
  have j:=Aa (D.o.quiet x)
  have a7:=Aa (HT.o.f8 x (fun _ _ q=>q))
  have a6:=Aa (Ac HR.o x (fun _ _ q=>q))
  have b7:=x.size
  simp at b7
  clear x D HT HR
  have q0:=j.o.t8.cell 0
  have q1:=j.o.t8.cell 1
  have q2:=j.o.t8.cell 2
  have q3:=j.o.t8.cell 3
  have q4:=j.o.t8.cell 4
  have q5:=j.o.t8.cell 5
  have q6:=j.o.t8.cell 6
  have q7:=j.o.t8.cell 7
  have qf:=j.o.t8.frozen
  have ql:=Ae j.o.t8
  simp only [aU,aS,aT] at q0 q1 q2 q3 q4 q5 q6 q7
  go_wp2
  refine bC (v:=.agg (EH (Eo 11) (.slice none 0 0) (.slice (some ⟨B.heap.size,0,none⟩) 1 1))) (by simp [results,Tryz.results134,go_sem,EH,Eo,BF,q0,q1,q2,q3,q4,q5,q6,q7];try rfl) rfl ?_
  have b5:b≠w.heap.size:=by have:=j.o.bl;omega
  refine ⟨d+1,fun k=>U k∨k=B.heap.size,Eo 11,_,_,rfl,?_,?_,?_,?_⟩
  ·refine BU.f8 (X:=fun k=>k=w.heap.size) (w:=wk) ?_ ?_ (fun k a=>by rcases a with a | a;have:=(G.o k a).1;omega;omega)
   ·refine BU.blocks (svs:=[.slice M O N]) rfl (Ax a6.o (bI _)) (fun k a=>.inr (by simp [Value.ownBlock] at a;omega)) ?_;intro i h h';have e:i=0:=by simp at h;omega
    subst e;exact a7.o.more (fun k a=>.inl a)
   ·iterate 8 refine Ab.p7 ?_ _ _
    exact Ab.refl _ _
  ·intro k a
   simp only [World.size_setCell];rcases a with a | a
   ·have:=G.o k a;omega
   ·omega
  ·refine Ar.f8 (X:=fun k=>k=w.heap.size) j.o.pa ?_ b5
   iterate 8 refine Ab.p7 ?_ _ _
   exact Ab.refl _ _
  ·iterate 8 refine Ab.Yc ?_ _ _ (aV _)
   exact j.o.f8
theorem Ld(O R)(hF:Cv O R)(f)(ih:∀k,k≤f→GK O R k):GK O R (f+1):=by
 intro b g n K l i w Q hG hB m ht M Z a2 hf;have a:=Aa (JL.start m ht);have HG:=Aa hG;have IH:=Aa ih;have HZ:=Aa Z;have HF:=Aa hF;by_cases L:(Aj i l.i8).kind=7
 ·have S:=Aa L;clear m ht Z hG ih hF a2;obtain ⟨r,m⟩:∃r,Bt i n (f+1) l=r:=⟨_,rfl⟩;rw [m];have a1:=Aa m;have a9:=Aa L;clear m L;go_enter Tryz.func119,Tryz.ntmps119;go_wp2_with fail;refine (A5 b g n K l i _ a.o.pa a.o.pt M).mono ?_;rw [S.o];rintro e w0 ⟨rfl,B⟩;have t:=Aa (a.o.quiet B);clear B a;have a:=t;clear t;have a7:=a.o.f8.size;have a5:=Ae a.o.t8;go_wp2_with fail;refine (Pn O R f IH.o b g n K l i _ Q (Ab.keeps HG.o a.o.f8 hB Q) (by omega) a.o.pa a.o.pt M HZ.o a9.o hf).mono ?_;rw [a1.o];rintro e w1 ⟨d,U,s,av,bv,rfl,N,V,p,o⟩;obtain ⟨⟨x,A,z,rfl⟩,⟨ba,bl,bc,rfl⟩⟩:=N.Zf;have c:=Aa (a.o.call p o);have a0:=Aa N;have T:=Aa V;have a8:=o.size;clear N V p o a;have C:=c.o.t8.cell 0;have D:=c.o.t8.cell 1;have E:=c.o.t8.cell 2;have F:=c.o.t8.cell 3;have G:=c.o.t8.cell 4;have H:=c.o.t8.cell 5;have I:=c.o.t8.cell 6;have J:=c.o.t8.cell 7;have qf:=c.o.t8.frozen;have ql:=Ae c.o.t8;simp only [aU,aS,aT] at C D E F G H I J;unfold EH;go_wp2;refine bC (v:=.agg (EH s (.slice x A z) (.slice ba bl bc))) (by simp [results,Tryz.results119,go_sem,EH,C,D,E,F,G,H,I,J]) rfl ?_;have W:b≠w.heap.size:=by have:=c.o.bl;omega
  refine ⟨d,U,s,_,_,rfl,?_,?_,?_,?_⟩
  ·refine a0.o.f8 (X:=fun k=>k=w.heap.size) ?_ (fun k h=>by have:=(T.o k h).1;omega);iterate 8 refine Ab.p7 ?_ _ _
   exact Ab.refl _ _
  ·intro k h;simp only [World.size_setCell];have:=T.o k h;omega
  ·refine Ar.f8 (X:=fun k=>k=w.heap.size) c.o.pa ?_ W;iterate 8 refine Ab.p7 ?_ _ _
   exact Ab.refl _ _
  ·iterate 8 refine Ab.Yc ?_ _ _ (aV _)
   exact c.o.f8
 ·by_cases P:(Aj i l.i8).kind=9
  ·have S:=Aa P;clear m ht Z hG ih hF a2;obtain ⟨r,m⟩:∃r,Bt i n (f+1) l=r:=⟨_,rfl⟩;rw [m];have a1:=Aa m;have b0:=Aa P;clear m P L;go_enter Tryz.func119,Tryz.ntmps119;go_wp2_with fail;refine (A5 b g n K l i _ a.o.pa a.o.pt M).mono ?_;rw [S.o];rintro e w0 ⟨rfl,B⟩;have t:=Aa (a.o.quiet B);clear B a;have a:=t;clear t;have a7:=a.o.f8.size;have a5:=Ae a.o.t8;go_wp2_with fail;refine (PW O R f IH.o b g n K l i _ Q (Ab.keeps HG.o a.o.f8 hB Q) (by omega) a.o.pa a.o.pt M HZ.o b0.o hf).mono ?_;rw [a1.o];rintro e w1 ⟨d,U,s,av,bv,rfl,N,V,p,o⟩;obtain ⟨⟨x,A,z,rfl⟩,⟨ba,bl,bc,rfl⟩⟩:=N.Zf;have c:=Aa (a.o.call p o);have a0:=Aa N;have T:=Aa V;have a8:=o.size;clear N V p o a;have C:=c.o.t8.cell 0;have D:=c.o.t8.cell 1;have E:=c.o.t8.cell 2;have F:=c.o.t8.cell 3;have G:=c.o.t8.cell 4;have H:=c.o.t8.cell 5;have I:=c.o.t8.cell 6;have J:=c.o.t8.cell 7;have qf:=c.o.t8.frozen;have ql:=Ae c.o.t8;simp only [aU,aS,aT] at C D E F G H I J;unfold EH;go_wp2;refine bC (v:=.agg (EH s (.slice x A z) (.slice ba bl bc))) (by simp [results,Tryz.results119,go_sem,EH,C,D,E,F,G,H,I,J]) rfl ?_;have W:b≠w.heap.size:=by have:=c.o.bl;omega
   refine ⟨d,U,s,_,_,rfl,?_,?_,?_,?_⟩
   ·refine a0.o.f8 (X:=fun k=>k=w.heap.size) ?_ (fun k h=>by have:=(T.o k h).1;omega);iterate 8 refine Ab.p7 ?_ _ _
    exact Ab.refl _ _
   ·intro k h;simp only [World.size_setCell];have:=T.o k h;omega
   ·refine Ar.f8 (X:=fun k=>k=w.heap.size) c.o.pa ?_ W;iterate 8 refine Ab.p7 ?_ _ _
    exact Ab.refl _ _
   ·iterate 8 refine Ab.Yc ?_ _ _ (aV _)
    exact c.o.f8
  ·obtain ⟨s1,x1,h1⟩:∃s y,AX i n l=(s,y):=⟨_,_,rfl⟩;obtain ⟨x2,h2⟩:∃y,Af i n 14 x1=y:=⟨_,rfl⟩;have hv:Bt i n (f+1) l=(.mk s1 [],x2):=by rw [Bt,cT L,cT P,h1];simp only [h2]
   rw [hv];have g1:=Jx Z M;rw [h1] at g1;have b1:=g1.2;obtain ⟨kk,a3⟩:∃k,(Aj i l.i8).kind=k:=⟨_,rfl⟩;rw [a3] at L P;have S:=Aa a3;have j7:((kk:Int)==7)=false:=by simp;omega
   have j9:((kk:Int)==9)=false:=by simp;omega
   have X1:=Aa h1;have X2:=Aa h2;clear m ht Z hG ih hF a2 h1 h2 hv a3 L P g1;go_enter Tryz.func119,Tryz.ntmps119;go_wp2_with fail;refine (A5 b g n K l i _ a.o.pa a.o.pt M).mono ?_;rw [S.o];rintro e w0 ⟨rfl,B⟩;have t:=Aa (a.o.quiet B);clear B a;have a:=t;clear t;have a7:=a.o.f8.size;have a5:=Ae a.o.t8;go_wp2_with fail;refine (Sh O R HF.o b g n K l i _ Q (Ab.keeps HG.o a.o.f8 hB Q) (by omega) a.o.pa a.o.pt M HZ.o).mono ?_;rw [X1.o];rintro e w1 ⟨av,rfl,a4,p,o⟩;obtain ⟨x,A,z,rfl⟩:=Ad a4;have hA:=(Ab.refl (fun _=>False) w1).alloc (.cells (Gl s1 (.slice x A z)) 197);have c:=Aa ((a.o.call p o).quiet hA);have L1:=Aa (Ar.new w1 (Gl s1 (.slice x A z)) 197);have O1:=Aa (Ac a4 hA (fun _ _ q=>q));have a8:=o.size;have b3:b<w1.heap.size:=Ae p;clear a4 p o a hA;unfold Gl at c L1 O1⊢;go_wp2_with fail;refine (AI b g n K 14 x1 i _ c.o.pa c.o.pt b1).mono ?_;rw [X2.o];rintro e w2 ⟨rfl,a6,Y⟩;have j:=Aa (c.o.call a6 Y);have u:=Aa (L1.o.f8 Y (by omega));have O2:=Aa (Ac O1.o Y (fun k h=>by have:=(O1.o.lt k h).1;have:=c.o.bl;omega));have b2:=Y.size;simp at b2;clear a6 Y c L1 O1;have m0:=u.o.cell 0;have m1:=u.o.cell 1;have m2:=u.o.cell 2;have m3:=u.o.cell 3;have m4:=u.o.cell 4;have m5:=u.o.cell 5;have m6:=u.o.cell 6;have m7:=u.o.cell 7;simp only [aU,aS,aT] at m0 m1 m2 m3 m4 m5 m6 m7;have C:=j.o.t8.cell 0;have D:=j.o.t8.cell 1;have E:=j.o.t8.cell 2;have F:=j.o.t8.cell 3;have G:=j.o.t8.cell 4;have H:=j.o.t8.cell 5;have I:=j.o.t8.cell 6;have J:=j.o.t8.cell 7;have qf:=j.o.t8.frozen;have ql:=Ae j.o.t8;simp only [aU,aS,aT] at C D E F G H I J;go_wp2;refine bC (v:=.agg (EH s1 (.slice x A z) (.slice none 0 0))) (by simp [results,Tryz.results119,go_sem,EH,C,D,E,F,G,H,I,J]) rfl ?_;have W:b≠w.heap.size:=by have:=j.o.bl;omega
   refine ⟨1,fun k=>Value.ownBlock (.slice x A z)=some k,s1,_,_,rfl,?_,?_,?_,?_⟩
   ·refine BU.f8 (X:=fun k=>k=w.heap.size) (w:=w2) (BU.flat (Ax O2.o (bI _)) (fun k h=>h)) ?_ (fun k h=>by have:=(O2.o.lt k h).1;omega);iterate 8 refine Ab.p7 ?_ _ _
    exact Ab.refl _ _
   ·intro k h;simp only [World.size_setCell];have:=O2.o.lt k h;omega
   ·refine Ar.f8 (X:=fun k=>k=w.heap.size) j.o.pa ?_ W;iterate 8 refine Ab.p7 ?_ _ _
    exact Ab.refl _ _
   ·iterate 8 refine Ab.Yc ?_ _ _ (aV _)
    exact j.o.f8
theorem Fn(a:Nat)(c:World)(hF:Cv a c):∀f,∀k,k≤f→GK a c k
 | 0,k,d=>by intro b g n i x m w _ _ _ _ _ j _ _ l;omega
 | f+1,k,d=>by
   by_cases h:k≤f
   ·exact Fn a c hF f k h
   ·have e:k=f+1:=by omega
    subst e;exact Ld a c hF f (Fn a c hF f)
end Go.Proofs.YthppbgndiplgnaaGreatDoor

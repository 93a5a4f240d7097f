/- One of the texts of the proof of runs_card_holds: RdL1. -/
import Derived.Test.YthppbgndiplgnaaGreatDoorG19
set_option maxRecDepth 100000
set_option maxHeartbeats 40000000
namespace Go.Proofs.YthppbgndiplgnaaGreatDoor
open Go.RowKit
theorem U7(f)(ih:∀k,k≤f→Hl k):My (f+1) (fun l=>l=Vs∨l=GI):=by
 intro z x g n G B i U d I sv m c w u K s b9 hB hz h8 e5 j3 f4;have hn:=K.2.2;obtain ⟨e6,j4,j1,j2,h5⟩:=h8;have f7:=Aa (h5 e5);have IH:=Aa ih;have h2:=Aa f4;clear ih h5 e5 f4;obtain ⟨i0,hi,j5,j6,j7⟩:=info_parts Tryz.infoSt;obtain ⟨cs,P,e7,e9⟩:=b9;have hn:=K.2.2;have r3:=u.l9.cell 3;have p1:=s.l9.cell 1;have f1:=s.l9.frozen 1;simp at r3 p1;obtain ⟨L,sl,M,i5⟩:=Ad P;subst i5;have i4:=Ah P;subst i4;have lr:=Ae u;have lp:=Ae s;have i1:x≠z:=s.l9.ne u.l9 (by decide);have h0:=Aa (Ap P u (by decide));have f8:=Aa (Ap P s (by decide));have HR:=Aa u;have e2:=Aa K;have HP:=Aa s;have d9:=Aa e9;have d7:=Aa e7;have HZ:=Aa hz;clear u K s e9 e7 hz;obtain ⟨y,hy⟩:∃y,AQ d (f+1) i m c=y:=⟨_,rfl⟩;rw [hy];have HY:=Aa hy;obtain ⟨t,HT⟩:∃t,dJ (Ai d m.s9=t):=⟨_,rfl⟩;clear hy;go_enter Tryz.func67,Tryz.ntmps67;go_wp2;refine Cj (dM _ z x g n G B U d I m c L M w HR.o e2.o HP.o ⟨cs,P,d7.o,d9.o⟩ hB (by omega) ?_);intro wc l5 l6 l7 l8 l9 m0 m4 m5 m6 m7 m8 m9 n0 n1 n2 n3 n4 hcut;dsimp only;obtain ⟨R,V,T,u,K,s,b9,d4⟩:=hcut;have f2:w.heap.size≤wc.heap.size:=d4.f8.size;clear h0 f8 HR e2 HP d9 d7 P r3 p1 f1 lr lp i1;have p:dJ (SF z x wc.heap.size g n G B U d I (.slice R V T) m (c++[CG 0 0]) (Dw i) (wc.alloc (.cells (Dw i) 119))):=
  ⟨u.l9.alloc _,K.f8 ((Ab.refl (fun _=>False) wc).alloc _) (fun q=>q),s.l9.alloc _,Ar.new _ _ _,b9.f8 ((Ab.refl (fun _=>False) wc).alloc _) (fun _ _ q=>q) (fun _ _ _ _ q=>q.elim),fun k a=>by obtain ⟨h6,J,_⟩:=b9;have:=(J.lt k a).2;omega⟩
 have c0:dJ (EW z x (.slice L c.length M) (.slice R V T) w (wc.alloc (.cells (Dw i) 119))):=d4.alloc _;clear u K s b9 d4;go_wp2;generalize wc.alloc (.cells (Dw i) 119)=W0 at p c0⊢;obtain ⟨t0,t1,t2⟩:=p.o.tk.cells e6;rw [HT.o] at t0 t1 t2;have r0:=p.o.rd.l9.cell 0;have r1:=p.o.rd.l9.cell 1;simp at r0 r1;have l0:=Ae p.o.rd;have l1:g<W0.heap.size:=(p.o.tk.1.lt g rfl).2;have ls:wc.heap.size<W0.heap.size:=Ae p.o.sx;go_region;generalize wc.heap.size=sb at p c0 f2 ls⊢;have A:dJ (SG z x sb g n G B U d I (.slice L c.length M) (.slice R V T) m (c++[CG 0 0]) (Dw i) [(64,3,A0,0,[])] w W0):=⟨p.o,c0.o,f2,e6,HZ.o,fun q h=>by rw [bO.1 h];exact ⟨.inr rfl,bE _ _ _ _⟩,hB⟩;have c7:dJ (c.length<(c++[CG 0 0]).length):=by show _<_;simp
 clear p c0;go_upto_region 6 with fail;go_cut [53] (fun v E=>v=.bool (decide (t.sort=2∨t.sort=4))∧dJ (Ar W0.heap.size #[.string t.i6,.int .i64 t.pos,.int .i64 t.sort] 64 E)∧dJ (SG z x sb g n G B U d I (.slice L c.length M) (.slice R V T) m (c++[CG 0 0]) (Dw i) [(64,3,A0,0,[])] w E))
 case first=>
  have Q:(t.sort=2∧((t.sort:Int)==2)=true)∨(t.sort=4∧((t.sort:Int)==2)=false∧((t.sort:Int)==4)=true)∨((¬(t.sort=2∨t.sort=4))∧((t.sort:Int)==2)=false∧((t.sort:Int)==4)=false):=by
   by_cases h:t.sort=2
   ·simp [h]
   by_cases k:t.sort=4
   ·simp [k]
   ·simp;omega
  rcases Q with ⟨Q,f0⟩ | ⟨Q,f0,i3⟩ | ⟨Q,f0,i3⟩
  all_goals
   have HS:=Aa Q;clear Q;go_wp2_with fail;go_meet
   case rel=>exact ⟨by simp [HS.o],Ar.f8 (Ar.new _ _ _) (X:=fun _=>False) (by repeat (first | exact Ab.refl _ _ | refine Ab.drew ?_ | refine Ab.drewN ?_ _ | refine Ab.alloc ?_ _)) (fun q=>q),A.o.quiet (by repeat (first | exact Ab.refl _ _ | refine Ab.drew ?_ | refine Ab.drewN ?_ _ | refine Ab.alloc ?_ _))⟩
 case rest=>
 obtain ⟨rfl,d5,Y⟩:=hcut;have b0:=d5.o.cell 0;simp at b0;go_upto_if 53 with fail;go_cut [8] (fun v E=>∃b:ByteArray,v=.string b∧dJ (b.toList=AJ (Ai d m.s9))∧dJ (SG z x sb g n G B U d I (.slice L c.length M) (.slice R V T) m (c++[CG 0 0]) (Dw i) [(64,3,A0,0,[])] w E))
 case first=>
  by_cases hc:t.sort=2∨t.sort=4;all_goals
   have HS:=Aa hc;simp only [hc,decide_true,decide_false];clear hc;go_wp2_with fail;go_meet
   case rel=>exact ⟨_,rfl,by show _=_;rw [HT.o];simp [AJ,HS.o],Y.o.quiet (by repeat (first | exact Ab.refl _ _ | refine Ab.drew ?_ | refine Ab.drewN ?_ _ | refine Ab.alloc ?_ _))⟩
 case rest=>
 clear d5 Y b0 HT A;obtain ⟨b,rfl,HB,A⟩:=hcut;have hz:((b.toList==[105,102])=true∧AJ (Ai d m.s9)=Vs)∨((b.toList==[105,102])=false∧(b.toList==[119,104,105,108,101])=true∧AJ (Ai d m.s9)=GI):=by rw [HB.o];rcases h2.o with h | h<;>simp [h]
 have e4:=Aa hz;clear hz;go_upto_if 65 with fail;go_cut [65] (fun v E=>v=.bool true∧dJ (SG z x sb g n G B U d I (.slice L c.length M) (.slice R V T) m (c++[CG 0 0]) (Dw i) [(64,3,A0,0,[])] w E))
 case first=>
  rcases e4.o with ⟨e0,_⟩ | ⟨e0,e1,_⟩
  all_goals
   rw [e0];go_wp2_with fail;go_meet
   case rel=>exact ⟨rfl,A.o.quiet (by repeat (first | exact Ab.refl _ _ | refine Ab.drew ?_ | refine Ab.drewN ?_ _ | refine Ab.alloc ?_ _))⟩
 case rest=>
 clear A;obtain ⟨rfl,A⟩:=hcut;go_wp2_with fail;refine ((A.o.quiet (by repeat (first | exact Ab.refl _ _ | refine Ab.drew ?_ | refine Ab.drewN ?_ _ | refine Ab.alloc ?_ _))).YD _ (AJ (Ai d m.s9)) HB.o).mono ?_;rintro e w1 ⟨x1,C,rfl,Y⟩;go_wp2_with fail;refine (Y.o.YD _ [63] (by simp)).mono ?_;rintro e w2 ⟨x2,b6,rfl,N⟩;have D:=N.o.s.sx.cell 0;have H:=N.o.s.sx.frozen;simp at D;go_wp2_with fail;clear D H;have G1:=Bb d (AJ (Ai d m.s9)) m;rw [C.o] at G1;have W:=G1.trans (Bb d [63] x1);rw [b6.o] at W;have hi:H7 n x2 (c++[CG 0 0]).length:=by have:=f7.o;obtain ⟨g1,g2,g3,g4⟩:=W;refine ⟨N.o.c,by omega,by omega,by simp;omega,fun e=>?_⟩;have:=g4 e;simp only [aZ,aX,bM];omega
 refine ((N.o.Yo 0 (.int .i64 13)).block (inn:=i) IH.o hi (fun e=>by have:=W.2.2.2 e;omega)).mono ?_;have d6:=Aa W.1;clear G1 W hi Y A;rintro e w3 ⟨p3,o3,x3,f3,b1,b2,b3,d1,d2,d3,U3,c5,rfl,F,r,O⟩;have D:=F.o.s.sx.cell 0;have b7:=F.o.s.sx.cell 10;have b8:=F.o.s.sx.cell 12;have H:=F.o.s.sx.frozen;simp at D b7 b8;have Z:=Aa ((F.o.Yo 12 (.int .i64 p3)).Yo 10 (.slice b1 b2 b3));go_upto_if 83 with fail;go_cut [] (fun E=>∃(S:FS) (x9:St) (f9:List FS) (U9:Nat→Prop) (L9:List RowQ) (za:Option Addr) (zl zc:Nat) (ya:Option Addr) (yl yc:Nat) (da:Option Addr) (dl dc:Nat),dJ (SE z x sb g n G B U U9 d I (.slice L c.length M) (.slice da dl dc) x9 f9 (AS S A0 (.slice za zl zc) (.slice ya yl yc)) L9 w E c.length S A0 (.slice za zl zc) (.slice ya yl yc))∧dJ (y=(c.length,x9,f9.set c.length S)))
 case first=>
  rcases e4.o with ⟨e0,hW⟩ | ⟨e0,e1,hW⟩
  all_goals rw [e0]
  ·have HW:=Aa hW;clear hW;go_wp2_with fail;clear D b7 b8 H;refine ((Z.o.Yo 0 (.int .i64 12)).i8 _ DQ (by simp)).mono ?_;rcases hd:Bn x3.Ya (Ai d x3.s9) DQ with _ | _
   ·rintro e w4 ⟨rfl,b4⟩;go_wp2_with fail;go_meet
    case rel=>exact ⟨{CG i (-1) with kind:=12,br:=p3,Yd:=o3},x3,f3,U3,_,b1,b2,b3,none,0,0,d1,d2,d3,⟨(b4.o.quiet (by repeat (first | exact Ab.refl _ _ | refine Ab.drew ?_ | refine Ab.drewN ?_ _ | refine Ab.alloc ?_ _))).cast (by simp;rfl),⟨r.o.1,r.o.2.1⟩,bL c7.o O.o.2.1,bE _ _ _ _,((b4.o.quiet (by repeat (first | exact Ab.refl _ _ | refine Ab.drew ?_ | refine Ab.drewN ?_ _ | refine Ab.alloc ?_ _))).r _ (.head _)).2,bE _ _ _ _,fun k a=>r.o.2.2 k (by simpa [Value.ownBlock] using a)⟩,by show _=_;rw [←HY.o,AQ];rw [HW.o] at C⊢;simp [C.o,b6.o,c5.o,hd]⟩
   ·rintro e w4 ⟨rfl,b4⟩;go_wp2_with fail;refine (b4.o.YD _ DQ (by simp)).mono ?_;rintro e w5 ⟨x4,e3,rfl,d8⟩;go_wp2_with fail;have G4:=Bb d DQ x3;rw [e3.o] at G4;refine (d8.o.block (inn:=i) IH.o (O.o.1.YB G4 d8.o.c) (fun e=>by have q:=G4.2.2.2 e;have:=O.o.2.2 q.1;have:=d6.o;omega)).mono ?_;clear G4 b4 Z F N;rintro e w6 ⟨p5,o5,x5,f5,c1,c2,c3,k1,k2,k3,U5,h1,rfl,c4,c8,f6⟩;have c9:=c4.o.s.sx.cell 11;have d0:=c4.o.s.sx.cell 13;have H:=c4.o.s.sx.frozen;simp at c9 d0;go_wp2_with fail;have c6:=Aa ((c4.o.Yo 13 (.int .i64 p5)).Yo 11 (.slice c1 c2 c3));go_meet
    case rel=>exact ⟨{CG i (-1) with kind:=12,br:=p3,Yd:=o3,YT:=p5,other:=o5},x5,f5,U5,_,b1,b2,b3,c1,c2,c3,k1,k2,k3,⟨c6.o.cast (by simp;rfl),⟨fun k h=>c8.o.1 k (r.o.1 k h),fun k h=>(c8.o.2.1 k h).elim (r.o.2.1 k) .inr⟩,bL c7.o (bJ O.o.2.1 f6.o.2.1),bE _ _ _ _,(c6.o.r _ (.tail _ (.head _))).2,(c6.o.r _ (.head _)).2,fun k a=>by rcases a with q | q | q;simp [Value.ownBlock] at q;exact r.o.2.2 k q;exact c8.o.2.2 k q⟩,by show _=_;rw [←HY.o,AQ];rw [HW.o] at C⊢;simp [C.o,b6.o,c5.o,hd,e3.o,h1.o]⟩
  ·have HW:=Aa hW;clear hW;go_wp2_with fail;go_meet
   case rel=>exact ⟨{CG i (-1) with kind:=13,br:=p3,Yd:=o3},x3,f3,U3,_,b1,b2,b3,none,0,0,d1,d2,d3,⟨Z.o.cast (by simp;rfl),⟨r.o.1,r.o.2.1⟩,bL c7.o O.o.2.1,bE _ _ _ _,(Z.o.r _ (.head _)).2,bE _ _ _ _,fun k a=>r.o.2.2 k (by simpa [Value.ownBlock] using a)⟩,by show _=_;rw [←HY.o,AQ];rw [HW.o] at C⊢;simp [C.o,b6.o,c5.o]⟩
 case rest=>
  obtain ⟨S,x9,f9,U9,L9,za,zl,zc,ya,yl,yc,da,dl,dc,HE,h3⟩:=hcut;clear D b7 b8 H Z F N c5 C b6 r O d6 HY;have o:=Aa HE.o.g;have b5:=HE.o.g.s;obtain ⟨h6,J,h9,i2⟩:=b5.st;have e8:=HE.o.l;obtain ⟨gg,h7⟩:=As J (by omega);subst h7;have gz:=Hx J;have a:=fun j (h:j<15)=>KJ J c.length e8 j h
  obtain ⟨g0,k0⟩:=a 0 (by decide);obtain ⟨g1,k1⟩:=a 1 (by decide);obtain ⟨g2,k2⟩:=a 2 (by decide);obtain ⟨g3,k3⟩:=a 3 (by decide);obtain ⟨g4,k4⟩:=a 4 (by decide);obtain ⟨g5,k5⟩:=a 5 (by decide);obtain ⟨g6,k6⟩:=a 6 (by decide);obtain ⟨g7,k7⟩:=a 7 (by decide);obtain ⟨g8,k8⟩:=a 8 (by decide);obtain ⟨g9,k9⟩:=a 9 (by decide);obtain ⟨i6,j8⟩:=a 10 (by decide);obtain ⟨i7,j9⟩:=a 11 (by decide);obtain ⟨i8,l2⟩:=a 12 (by decide);obtain ⟨i9,l3⟩:=a 13 (by decide);obtain ⟨j0,l4⟩:=a 14 (by decide);simp only [bK] at k0;rw [←Ah J] at e8;have r3:=b5.rd.l9.cell 3;have p1:=b5.pr.l9.cell 1;simp at r3 p1;obtain ⟨D,a1,a2,a3,a4,a5,a6,H⟩:=o.o.s.sx.c7;have a7:=o.o.s.sx.cell 7;have a8:=o.o.s.sx.cell 8;have a9:=o.o.s.sx.cell 9;have b7:=o.o.s.sx.cell 10;have c9:=o.o.s.sx.cell 11;have b8:=o.o.s.sx.cell 12;have d0:=o.o.s.sx.cell 13;have h4:=o.o.s.sx.cell 14;simp [AS] at D a1 a2 a3 a4 a5 a6 a7 a8 a9 b7 c9 b8 d0 h4;obtain ⟨m1,m2,m3⟩:=b5.YX gg rfl;clear b5 J h9 i2 o H a;go_wp2;go_region;go_wp2;go_ret;have hq:=HE.o.post h3.o;rw [Jh] at hq;exact hq
end Go.Proofs.YthppbgndiplgnaaGreatDoor

/- One of the texts of the proof of texts_card_holds: RdL1. -/
import Derived.Test.YtmaankfbhhbeoaaGreatDoorG19
set_option maxRecDepth 100000
set_option maxHeartbeats 40000000
namespace Go.Proofs.YtmaankfbhhbeoaaGreatDoor
open Go.RowKit
theorem Lh(f)(ih:∀k,k≤f→Eh k):Hl (f+1) (fun l=>l=LV∨l=Ew):=by
 intro z x g n G B i U d I sv m c w u K s b9 hB hz h8 e5 j3 f4;have hn:=K.2.2;obtain ⟨e6,j4,j1,j2,h5⟩:=h8;have f7:=Aa (h5 e5);have IH:=Aa ih;have h2:=Aa f4;clear ih h5 e5 f4;obtain ⟨i0,hi,j5,j6,j7⟩:=info_parts Tryz.infoSt;obtain ⟨cs,P,e7,e9⟩:=b9;have hn:=K.2.2;have r3:=u.i6.cell 3;have p1:=s.i6.cell 1;have f1:=s.i6.frozen 1;simp at r3 p1;obtain ⟨L,sl,M,i5⟩:=Af P;subst i5;have i4:=Ap P;subst i4;have lr:=Ad u;have lp:=Ad s;have i1:x≠z:=s.i6.ne u.i6 (by decide);have h0:=Aa (Az P u (by decide));have f8:=Aa (Az P s (by decide));have HR:=Aa u;have e2:=Aa K;have HP:=Aa s;have d9:=Aa e9;have d7:=Aa e7;have HZ:=Aa hz;clear u K s e9 e7 hz;obtain ⟨y,hy⟩:∃y,AO d (f+1) i m c=y:=⟨_,rfl⟩;rw [hy];have HY:=Aa hy;obtain ⟨t,HT⟩:∃t,Nj (Ai d m.i9=t):=⟨_,rfl⟩;clear hy;go_enter Tryz.func47,Tryz.ntmps47;go_wp2;refine H6 (Gt _ z x g n G B U d I m c L M w HR.o e2.o HP.o ⟨cs,P,d7.o,d9.o⟩ hB (by omega) ?_);intro wc l5 l6 l7 l8 l9 m0 m4 m5 m6 m7 m8 m9 n0 n1 n2 n3 n4 hcut;dsimp only;obtain ⟨R,V,T,u,K,s,b9,d4⟩:=hcut;have f2:w.heap.size≤wc.heap.size:=d4.d7.size;clear h0 f8 HR e2 HP d9 d7 P r3 p1 f1 lr lp i1;have p:Nj (SF z x wc.heap.size g n G B U d I (.slice R V T) m (c++[BQ 0 0]) (Cf i) (wc.alloc (.cells (Cf i) 87))):=
  ⟨u.i6.alloc _,K.d7 ((Ab.refl (fun _=>False) wc).alloc _) (fun q=>q),s.i6.alloc _,Aq.new _ _ _,b9.d7 ((Ab.refl (fun _=>False) wc).alloc _) (fun _ _ q=>q) (fun _ _ _ _ q=>q.elim),fun k a=>by obtain ⟨h6,J,_⟩:=b9;have:=(J.lt k a).2;omega⟩
 have c0:Nj (Da z x (.slice L c.length M) (.slice R V T) w (wc.alloc (.cells (Cf i) 87))):=d4.alloc _;clear u K s b9 d4;go_wp2;generalize wc.alloc (.cells (Cf i) 87)=W0 at p c0⊢;obtain ⟨t0,t1,t2⟩:=p.o.tk.cells e6;rw [HT.o] at t0 t1 t2;have r0:=p.o.rd.i6.cell 0;have r1:=p.o.rd.i6.cell 1;simp at r0 r1;have l0:=Ad p.o.rd;have l1:g<W0.heap.size:=(p.o.tk.1.lt g rfl).2;have ls:wc.heap.size<W0.heap.size:=Ad p.o.sx;go_region;generalize wc.heap.size=sb at p c0 f2 ls⊢;have A:Nj (SG z x sb g n G B U d I (.slice L c.length M) (.slice R V T) m (c++[BQ 0 0]) (Cf i) [(52,3,AG,0,[])] w W0):=⟨p.o,c0.o,f2,e6,HZ.o,fun q h=>by rw [List.mem_singleton.1 h];exact ⟨.inr rfl,World.ownsRow_nil _ _ _ _⟩,hB⟩;have c7:Nj (c.length<(c++[BQ 0 0]).length):=by show _<_;simp
 clear p c0;go_upto_region 6 with fail;go_cut [53] (fun v E=>v=.bool (decide (t.sort=2∨t.sort=4))∧Nj (Aq W0.heap.size #[.string t.d9,.int .i64 t.pos,.int .i64 t.sort] 52 E)∧Nj (SG z x sb g n G B U d I (.slice L c.length M) (.slice R V T) m (c++[BQ 0 0]) (Cf i) [(52,3,AG,0,[])] w E))
 case first=>
  have Q:(t.sort=2∧((t.sort:Int)==2)=true)∨(t.sort=4∧((t.sort:Int)==2)=false∧((t.sort:Int)==4)=true)∨((¬(t.sort=2∨t.sort=4))∧((t.sort:Int)==2)=false∧((t.sort:Int)==4)=false):=by
   by_cases h:t.sort=2
   ·simp [h]
   by_cases k:t.sort=4
   ·simp [k]
   ·simp;omega
  rcases Q with ⟨Q,f0⟩ | ⟨Q,f0,i3⟩ | ⟨Q,f0,i3⟩
  all_goals
   have HS:=Aa Q;clear Q;go_wp2_with fail;go_meet
   case rel=>exact ⟨by simp [HS.o],Aq.d7 (Aq.new _ _ _) (X:=fun _=>False) (by repeat (first | exact Ab.refl _ _ | refine Ab.drew ?_ | refine Ab.drewN ?_ _ | refine Ab.alloc ?_ _)) (fun q=>q),A.o.quiet (by repeat (first | exact Ab.refl _ _ | refine Ab.drew ?_ | refine Ab.drewN ?_ _ | refine Ab.alloc ?_ _))⟩
 case rest=>
 obtain ⟨rfl,d5,Y⟩:=hcut;have b0:=d5.o.cell 0;simp at b0;go_upto_if 53 with fail;go_cut [8] (fun v E=>∃b:ByteArray,v=.string b∧Nj (b.toList=AB (Ai d m.i9))∧Nj (SG z x sb g n G B U d I (.slice L c.length M) (.slice R V T) m (c++[BQ 0 0]) (Cf i) [(52,3,AG,0,[])] w E))
 case first=>
  by_cases hc:t.sort=2∨t.sort=4;all_goals
   have HS:=Aa hc;simp only [hc,decide_true,decide_false];clear hc;go_wp2_with fail;go_meet
   case rel=>exact ⟨_,rfl,by show _=_;rw [HT.o];simp [AB,HS.o],Y.o.quiet (by repeat (first | exact Ab.refl _ _ | refine Ab.drew ?_ | refine Ab.drewN ?_ _ | refine Ab.alloc ?_ _))⟩
 case rest=>
 clear d5 Y b0 HT A;obtain ⟨b,rfl,HB,A⟩:=hcut;have hz:((b.toList==[105,102])=true∧AB (Ai d m.i9)=LV)∨((b.toList==[105,102])=false∧(b.toList==[119,104,105,108,101])=true∧AB (Ai d m.i9)=Ew):=by rw [HB.o];rcases h2.o with h | h<;>simp [h]
 have e4:=Aa hz;clear hz;go_upto_if 65 with fail;go_cut [65] (fun v E=>v=.bool true∧Nj (SG z x sb g n G B U d I (.slice L c.length M) (.slice R V T) m (c++[BQ 0 0]) (Cf i) [(52,3,AG,0,[])] w E))
 case first=>
  rcases e4.o with ⟨e0,_⟩ | ⟨e0,e1,_⟩
  all_goals
   rw [e0];go_wp2_with fail;go_meet
   case rel=>exact ⟨rfl,A.o.quiet (by repeat (first | exact Ab.refl _ _ | refine Ab.drew ?_ | refine Ab.drewN ?_ _ | refine Ab.alloc ?_ _))⟩
 case rest=>
 clear A;obtain ⟨rfl,A⟩:=hcut;go_wp2_with fail;refine ((A.o.quiet (by repeat (first | exact Ab.refl _ _ | refine Ab.drew ?_ | refine Ab.drewN ?_ _ | refine Ab.alloc ?_ _))).s8 _ (AB (Ai d m.i9)) HB.o).mono ?_;rintro e w1 ⟨x1,C,rfl,Y⟩;go_wp2_with fail;refine (Y.o.s8 _ [63] (by simp)).mono ?_;rintro e w2 ⟨x2,b6,rfl,N⟩;have D:=N.o.s.sx.cell 0;have H:=N.o.s.sx.frozen;simp at D;go_wp2_with fail;clear D H;have G1:=AR d (AB (Ai d m.i9)) m;rw [C.o] at G1;have W:=G1.trans (AR d [63] x1);rw [b6.o] at W;have hi:Fq n x2 (c++[BQ 0 0]).length:=by have:=f7.o;obtain ⟨g1,g2,g3,g4⟩:=W;refine ⟨N.o.c,by omega,by omega,by simp;omega,fun e=>?_⟩;have:=g4 e;simp only [List.length_append,List.length_cons,List.length_nil];omega
 refine ((N.o.m9 0 (.int .i64 13)).block (inn:=i) IH.o hi (fun e=>by have:=W.2.2.2 e;omega)).mono ?_;have d6:=Aa W.1;clear G1 W hi Y A;rintro e w3 ⟨p3,o3,x3,f3,b1,b2,b3,d1,d2,d3,U3,c5,rfl,F,r,O⟩;have D:=F.o.s.sx.cell 0;have b7:=F.o.s.sx.cell 10;have b8:=F.o.s.sx.cell 12;have H:=F.o.s.sx.frozen;simp at D b7 b8;have Z:=Aa ((F.o.m9 12 (.int .i64 p3)).m9 10 (.slice b1 b2 b3));go_upto_if 83 with fail;go_cut [] (fun E=>∃(S:FS) (x9:St) (f9:List FS) (U9:Nat→Prop) (L9:List RowQ) (za:Option Addr) (zl zc:Nat) (ya:Option Addr) (yl yc:Nat) (da:Option Addr) (dl dc:Nat),Nj (SE z x sb g n G B U U9 d I (.slice L c.length M) (.slice da dl dc) x9 f9 (Cr S AG (.slice za zl zc) (.slice ya yl yc)) L9 w E c.length S AG (.slice za zl zc) (.slice ya yl yc))∧Nj (y=(c.length,x9,f9.set c.length S)))
 case first=>
  rcases e4.o with ⟨e0,hW⟩ | ⟨e0,e1,hW⟩
  all_goals rw [e0]
  ·have HW:=Aa hW;clear hW;go_wp2_with fail;clear D b7 b8 H;refine ((Z.o.m9 0 (.int .i64 12)).d8 _ Dg (by simp)).mono ?_;rcases hd:AW x3.l6 (Ai d x3.i9) Dg with _ | _
   ·rintro e w4 ⟨rfl,b4⟩;go_wp2_with fail;go_meet
    case rel=>exact ⟨{BQ i (-1) with kind:=12,br:=p3,p8:=o3},x3,f3,U3,_,b1,b2,b3,none,0,0,d1,d2,d3,⟨(b4.o.quiet (by repeat (first | exact Ab.refl _ _ | refine Ab.drew ?_ | refine Ab.drewN ?_ _ | refine Ab.alloc ?_ _))).cast (by simp;rfl),⟨r.o.1,r.o.2.1⟩,Nat.lt_of_lt_of_le c7.o O.o.2.1,World.ownsRow_nil _ _ _ _,((b4.o.quiet (by repeat (first | exact Ab.refl _ _ | refine Ab.drew ?_ | refine Ab.drewN ?_ _ | refine Ab.alloc ?_ _))).r _ (.head _)).2,World.ownsRow_nil _ _ _ _,fun k a=>r.o.2.2 k (by simpa [Value.ownBlock] using a)⟩,by show _=_;rw [←HY.o,AO];rw [HW.o] at C⊢;simp [C.o,b6.o,c5.o,hd]⟩
   ·rintro e w4 ⟨rfl,b4⟩;go_wp2_with fail;refine (b4.o.s8 _ Dg (by simp)).mono ?_;rintro e w5 ⟨x4,e3,rfl,d8⟩;go_wp2_with fail;have G4:=AR d Dg x3;rw [e3.o] at G4;refine (d8.o.block (inn:=i) IH.o (O.o.1.t6 G4 d8.o.c) (fun e=>by have q:=G4.2.2.2 e;have:=O.o.2.2 q.1;have:=d6.o;omega)).mono ?_;clear G4 b4 Z F N;rintro e w6 ⟨p5,o5,x5,f5,c1,c2,c3,k1,k2,k3,U5,h1,rfl,c4,c8,f6⟩;have c9:=c4.o.s.sx.cell 11;have d0:=c4.o.s.sx.cell 13;have H:=c4.o.s.sx.frozen;simp at c9 d0;go_wp2_with fail;have c6:=Aa ((c4.o.m9 13 (.int .i64 p5)).m9 11 (.slice c1 c2 c3));go_meet
    case rel=>exact ⟨{BQ i (-1) with kind:=12,br:=p3,p8:=o3,y8:=p5,other:=o5},x5,f5,U5,_,b1,b2,b3,c1,c2,c3,k1,k2,k3,⟨c6.o.cast (by simp;rfl),⟨fun k h=>c8.o.1 k (r.o.1 k h),fun k h=>(c8.o.2.1 k h).elim (r.o.2.1 k) .inr⟩,Nat.lt_of_lt_of_le c7.o (Nat.le_trans O.o.2.1 f6.o.2.1),World.ownsRow_nil _ _ _ _,(c6.o.r _ (.tail _ (.head _))).2,(c6.o.r _ (.head _)).2,fun k a=>by rcases a with q | q | q;simp [Value.ownBlock] at q;exact r.o.2.2 k q;exact c8.o.2.2 k q⟩,by show _=_;rw [←HY.o,AO];rw [HW.o] at C⊢;simp [C.o,b6.o,c5.o,hd,e3.o,h1.o]⟩
  ·have HW:=Aa hW;clear hW;go_wp2_with fail;go_meet
   case rel=>exact ⟨{BQ i (-1) with kind:=13,br:=p3,p8:=o3},x3,f3,U3,_,b1,b2,b3,none,0,0,d1,d2,d3,⟨Z.o.cast (by simp;rfl),⟨r.o.1,r.o.2.1⟩,Nat.lt_of_lt_of_le c7.o O.o.2.1,World.ownsRow_nil _ _ _ _,(Z.o.r _ (.head _)).2,World.ownsRow_nil _ _ _ _,fun k a=>r.o.2.2 k (by simpa [Value.ownBlock] using a)⟩,by show _=_;rw [←HY.o,AO];rw [HW.o] at C⊢;simp [C.o,b6.o,c5.o]⟩
 case rest=>
  obtain ⟨S,x9,f9,U9,L9,za,zl,zc,ya,yl,yc,da,dl,dc,HE,h3⟩:=hcut;clear D b7 b8 H Z F N c5 C b6 r O d6 HY;have o:=Aa HE.o.g;have b5:=HE.o.g.s;obtain ⟨h6,J,h9,i2⟩:=b5.st;have e8:=HE.o.l;obtain ⟨gg,h7⟩:=Ay J (by omega);subst h7;have gz:=Eu J;have a:=fun j (h:j<15)=>Gi J c.length e8 j h
  obtain ⟨g0,k0⟩:=a 0 (by decide);obtain ⟨g1,k1⟩:=a 1 (by decide);obtain ⟨g2,k2⟩:=a 2 (by decide);obtain ⟨g3,k3⟩:=a 3 (by decide);obtain ⟨g4,k4⟩:=a 4 (by decide);obtain ⟨g5,k5⟩:=a 5 (by decide);obtain ⟨g6,k6⟩:=a 6 (by decide);obtain ⟨g7,k7⟩:=a 7 (by decide);obtain ⟨g8,k8⟩:=a 8 (by decide);obtain ⟨g9,k9⟩:=a 9 (by decide);obtain ⟨i6,j8⟩:=a 10 (by decide);obtain ⟨i7,j9⟩:=a 11 (by decide);obtain ⟨i8,l2⟩:=a 12 (by decide);obtain ⟨i9,l3⟩:=a 13 (by decide);obtain ⟨j0,l4⟩:=a 14 (by decide);simp only [Nat.add_zero] at k0;rw [←Ap J] at e8;have r3:=b5.rd.i6.cell 3;have p1:=b5.pr.i6.cell 1;simp at r3 p1;obtain ⟨D,a1,a2,a3,a4,a5,a6,H⟩:=o.o.s.sx.c7;have a7:=o.o.s.sx.cell 7;have a8:=o.o.s.sx.cell 8;have a9:=o.o.s.sx.cell 9;have b7:=o.o.s.sx.cell 10;have c9:=o.o.s.sx.cell 11;have b8:=o.o.s.sx.cell 12;have d0:=o.o.s.sx.cell 13;have h4:=o.o.s.sx.cell 14;simp [Cr] at D a1 a2 a3 a4 a5 a6 a7 a8 a9 b7 c9 b8 d0 h4;obtain ⟨m1,m2,m3⟩:=b5.z6 gg rfl;clear b5 J h9 i2 o H a;go_wp2;go_region;go_wp2;go_ret;have hq:=HE.o.post h3.o;rw [Fb] at hq;exact hq
end Go.Proofs.YtmaankfbhhbeoaaGreatDoor

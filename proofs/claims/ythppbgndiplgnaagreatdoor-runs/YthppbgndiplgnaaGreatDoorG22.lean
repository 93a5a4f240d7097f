/- One of the texts of the proof of runs_card_holds: RdL. -/
import Derived.Test.YthppbgndiplgnaaGreatDoorG21
set_option maxRecDepth 100000
set_option maxHeartbeats 40000000
namespace Go.Proofs.YthppbgndiplgnaaGreatDoor
open Go.RowKit
theorem Va(f)(ih:∀k,k≤f→Hl k):My (f+1) (fun l=>l≠Vs∧l≠GI∧l≠SZ∧l≠GV∧l≠[42]):=by
 intro K J g n b2 B G U H fv sv L c w I ht F b6 hB hz f0 d0 i3 d7;have hn:=ht.2.2;obtain ⟨d1,i4,i1,i2,h5⟩:=f0;have f8:=Aa (h5 d0);have IH:=Aa ih;have e6:=Aa d7;clear ih h5 d0 d7;obtain ⟨i0,hi,i5,i6,i7⟩:=info_parts Tryz.infoSt;obtain ⟨cs,b3,d2,d4⟩:=b6;have hn:=ht.2.2;have r3:=I.l9.cell 3;have p1:=F.l9.cell 1;have f1:=F.l9.frozen 1;simp at r3 p1;obtain ⟨sa,sl,sc,f7⟩:=Ad b3;subst f7;have f6:=Ah b3;subst f6;have lr:=Ae I;have lp:=Ae F;have f3:J≠K:=F.l9.ne I.l9 (by decide);have e5:=Aa (Ap b3 I (by decide));have d9:=Aa (Ap b3 F (by decide));have HR:=Aa I;have c8:=Aa ht;have HP:=Aa F;have c7:=Aa d4;have c6:=Aa d2;have HZ:=Aa hz;clear I ht F d4 d2 hz;obtain ⟨y,hy⟩:∃y,AQ H (f+1) G L c=y:=⟨_,rfl⟩;rw [hy];have HY:=Aa hy;obtain ⟨t,HT⟩:∃t,dJ (Ai H L.s9=t):=⟨_,rfl⟩;clear hy;go_enter Tryz.func67,Tryz.ntmps67;go_wp2;refine Cj (dM _ K J g n b2 B U H fv L c sa sc w HR.o c8.o HP.o ⟨cs,b3,c6.o,c7.o⟩ hB (by omega) ?_);intro wc j3 j4 j5 j6 j7 j8 j9 l2 l3 l4 l5 l6 l7 l8 l9 m0 m4 hcut;dsimp only;obtain ⟨va,vl,vc,I,ht,F,b6,c3⟩:=hcut;have d6:w.heap.size≤wc.heap.size:=c3.f8.size;clear e5 d9 HR c8 HP c7 c6 b3 r3 p1 f1 lr lp f3;have r:dJ (SF K J wc.heap.size g n b2 B U H fv (.slice va vl vc) L (c++[CG 0 0]) (Dw G) (wc.alloc (.cells (Dw G) 119))):=
  ⟨I.l9.alloc _,ht.f8 ((Ab.refl (fun _=>False) wc).alloc _) (fun q=>q),F.l9.alloc _,Ar.new _ _ _,b6.f8 ((Ab.refl (fun _=>False) wc).alloc _) (fun _ _ q=>q) (fun _ _ _ _ q=>q.elim),fun k a=>by obtain ⟨e8,Z,_⟩:=b6;have:=(Z.lt k a).2;omega⟩
 have b7:dJ (EW K J (.slice sa c.length sc) (.slice va vl vc) w (wc.alloc (.cells (Dw G) 119))):=c3.alloc _;clear I ht F b6 c3;go_wp2;generalize wc.alloc (.cells (Dw G) 119)=W0 at r b7⊢;obtain ⟨t0,t1,t2⟩:=r.o.tk.cells d1;rw [HT.o] at t0 t1 t2;have r0:=r.o.rd.l9.cell 0;have r1:=r.o.rd.l9.cell 1;simp at r0 r1;have l0:=Ae r.o.rd;have l1:g<W0.heap.size:=(r.o.tk.1.lt g rfl).2;have ls:wc.heap.size<W0.heap.size:=Ae r.o.sx;go_region;generalize wc.heap.size=sb at r b7 d6 ls⊢;have b4:dJ (SG K J sb g n b2 B U H fv (.slice sa c.length sc) (.slice va vl vc) L (c++[CG 0 0]) (Dw G) [(64,3,A0,0,[])] w W0):=⟨r.o,b7.o,d6,d1,HZ.o,fun q h=>by rw [bO.1 h];exact ⟨.inr rfl,bE _ _ _ _⟩,hB⟩;have d8:dJ (c.length<(c++[CG 0 0]).length):=by show _<_;simp
 clear r b7;go_upto_region 6 with fail;go_cut [53] (fun v wx=>v=.bool (decide (t.sort=2∨t.sort=4))∧dJ (Ar W0.heap.size #[.string t.i6,.int .i64 t.pos,.int .i64 t.sort] 64 wx)∧dJ (SG K J sb g n b2 B U H fv (.slice sa c.length sc) (.slice va vl vc) L (c++[CG 0 0]) (Dw G) [(64,3,A0,0,[])] w wx))
 case first=>
  have hs:(t.sort=2∧((t.sort:Int)==2)=true)∨(t.sort=4∧((t.sort:Int)==2)=false∧((t.sort:Int)==4)=true)∨((¬(t.sort=2∨t.sort=4))∧((t.sort:Int)==2)=false∧((t.sort:Int)==4)=false):=by
   by_cases h:t.sort=2
   ·simp [h]
   by_cases k:t.sort=4
   ·simp [k]
   ·simp;omega
  rcases hs with ⟨hs,d5⟩ | ⟨hs,d5,f5⟩ | ⟨hs,d5,f5⟩
  all_goals
   have HS:=Aa hs;clear hs;go_wp2_with fail;go_meet
   case rel=>exact ⟨by simp [HS.o],Ar.f8 (Ar.new _ _ _) (X:=fun _=>False) (by repeat (first | exact Ab.refl _ _ | refine Ab.drew ?_ | refine Ab.drewN ?_ _ | refine Ab.alloc ?_ _)) (fun q=>q),b4.o.quiet (by repeat (first | exact Ab.refl _ _ | refine Ab.drew ?_ | refine Ab.drewN ?_ _ | refine Ab.alloc ?_ _))⟩
 case rest=>
 obtain ⟨rfl,c5,b1⟩:=hcut;have b0:=c5.o.cell 0;simp at b0;go_upto_if 53 with fail;go_cut [8] (fun v wx=>∃b:ByteArray,v=.string b∧dJ (b.toList=AJ (Ai H L.s9))∧dJ (SG K J sb g n b2 B U H fv (.slice sa c.length sc) (.slice va vl vc) L (c++[CG 0 0]) (Dw G) [(64,3,A0,0,[])] w wx))
 case first=>
  by_cases hc:t.sort=2∨t.sort=4;all_goals
   have HS:=Aa hc;simp only [hc,decide_true,decide_false];clear hc;go_wp2_with fail;go_meet
   case rel=>exact ⟨_,rfl,by show _=_;rw [HT.o];simp [AJ,HS.o],b1.o.quiet (by repeat (first | exact Ab.refl _ _ | refine Ab.drew ?_ | refine Ab.drewN ?_ _ | refine Ab.alloc ?_ _))⟩
 case rest=>
 clear c5 b1 b0 HT b4;obtain ⟨b,rfl,HB,b4⟩:=hcut;have hw:=e6.o;simp only [←HB.o] at hw;have hb:=HB.o;obtain ⟨h0,W,Y,h3,h4⟩:=hw;have e0:(b.toList==[105,102])=false:=beq_eq_false_iff_ne.2 h0;have e1:(b.toList==[119,104,105,108,101])=false:=beq_eq_false_iff_ne.2 W;have e2:(b.toList==[118,97,114])=false:=beq_eq_false_iff_ne.2 Y;have e3:(b.toList==[114,101,116,117,114,110])=false:=beq_eq_false_iff_ne.2 h3;have e4:(b.toList==[42])=false:=beq_eq_false_iff_ne.2 h4;rw [hb] at h0 W Y h3 h4;have HW:=Aa (And.intro h0 (And.intro W (And.intro Y (And.intro h3 h4))));clear h0 W Y h3 h4 hb;go_wp2_with fail;refine ((b4.o.quiet (by repeat (first | exact Ab.refl _ _ | refine Ab.drew ?_ | refine Ab.drewN ?_ _ | refine Ab.alloc ?_ _))).get 1 (by decide)).mono ?_;rintro e w1 ⟨q1,x1,c0,rfl,b1⟩;unfold HJ;obtain ⟨s,u,x,A,C,D,E,V⟩:=b1.o.s.sx.c7;simp at s u x A C D E;go_wp2_with fail;clear s u x A C D E V;refine ((((b1.o.Yo 1 (.string q1.i6)).Yo 2 (.int .i64 q1.pos)).Yo 3 (.int .i64 q1.sort)).YD _ [61] (by simp)).mono ?_;rintro e w2 ⟨x2,c1,rfl,i⟩;obtain ⟨s,u,x,A,C,D,E,V⟩:=i.o.s.sx.c7;have R:=i.o.s.sx.cell 7;have S:=i.o.s.sx.cell 8;have T:=i.o.s.sx.cell 9;have M:=i.o.s.sx.cell 10;have N:=i.o.s.sx.cell 11;have O:=i.o.s.sx.cell 12;have P:=i.o.s.sx.cell 13;have Q:=i.o.s.sx.cell 14;simp at s u x A C D E R S T M N O P Q;go_wp2_with fail;clear s u x A C D E R S T M N O P Q V;have W:=congrArg (fun z=>(z.2.pl,z.2.ca)) c0.o;have Y:=congrArg (fun z=>(z.pl,z.ca)) c1.o;simp only [Bq,Au,cI] at W Y;refine (i.o.value {CG G (-1) with p:=q1} rfl (by omega) (by omega)).mono ?_;clear W Y;rintro e w3 ⟨d,x3,v1,v2,v3,c2,rfl,m,c4⟩;obtain ⟨s,u,x,A,C,D,E,V⟩:=m.o.s.sx.c7;have R:=m.o.s.sx.cell 7;have S:=m.o.s.sx.cell 8;have T:=m.o.s.sx.cell 9;have M:=m.o.s.sx.cell 10;have N:=m.o.s.sx.cell 11;have O:=m.o.s.sx.cell 12;have P:=m.o.s.sx.cell 13;have Q:=m.o.s.sx.cell 14;simp at s u x A C D E R S T M N O P Q;unfold AS;go_wp2_with fail;clear s u x A C D E R S T M N O P Q V;have hb:=Mq H x2 {CG G (-1) with p:=q1};rw [c2.o] at hb;have b8:=Aa hb;clear hb;refine (((((((((((((((((m.o.Yo 0 (.int .i64 d.kind)).Yo 1 (.string d.p.i6)).Yo 2 (.int .i64 d.p.pos)).Yo 3 (.int .i64 d.p.sort)).Yo 4 (.string d.q.i6)).Yo 5 (.int .i64 d.q.pos)).Yo 6 (.int .i64 d.q.sort)).Yo 7 (.int .i64 d.field)).Yo 8 (.slice v1 v2 v3)).Yo 9 (.int .i64 d.i9)).Yo 10 A0).Yo 11 A0).Yo 12 (.int .i64 d.br)).Yo 13 (.int .i64 d.YT)).Yo 14 (.int .i64 d.Yh)).one.cast (W6 _ (by simp) _ _ _ _ _ _ _ _ _ _ _ _ _ _ _)).YD _ [59] (by simp)).mono ?_;rintro e w8 ⟨x8,c9,rfl,b9⟩;have e7:dJ (y=(c.length,x8,(c++[CG 0 0]).set c.length d)):=by show _=_;rw [←HY.o];simp [AQ,Bo,HW.o,c0.o,c1.o,c2.o,c9.o]
 have HE:dJ (SE K J sb g n b2 B U U H fv (.slice sa c.length sc) (.slice va vl vc) x8 _ (AS d (.slice v1 v2 v3) A0 A0) _ w w8 c.length d (.slice v1 v2 v3) A0 A0):=⟨b9.o,⟨fun _=>id,fun _=>.inl⟩,d8.o,(b9.o.r _ (.head _)).2,by rw [b8.o.1];exact bE _ _ _ _,by rw [b8.o.2];exact bE _ _ _ _,fun k a=>c4.o k (by simpa [Value.ownBlock] using a)⟩;clear b9 b4 b1 i m c0 c1 c2 c9 HY b8 c4;have o:=Aa HE.o.g;have b5:=HE.o.g.s;obtain ⟨e8,Z,f2,f4⟩:=b5.st;have d3:=HE.o.l;obtain ⟨gg,e9⟩:=As Z (by omega);subst e9;have gz:=Hx Z;have a:=fun j (h:j<15)=>KJ Z c.length d3 j h
 obtain ⟨g0,k0⟩:=a 0 (by decide);obtain ⟨g1,k1⟩:=a 1 (by decide);obtain ⟨g2,k2⟩:=a 2 (by decide);obtain ⟨g3,k3⟩:=a 3 (by decide);obtain ⟨g4,k4⟩:=a 4 (by decide);obtain ⟨g5,k5⟩:=a 5 (by decide);obtain ⟨g6,k6⟩:=a 6 (by decide);obtain ⟨g7,k7⟩:=a 7 (by decide);obtain ⟨g8,k8⟩:=a 8 (by decide);obtain ⟨g9,k9⟩:=a 9 (by decide);obtain ⟨f9,i8⟩:=a 10 (by decide);obtain ⟨h6,i9⟩:=a 11 (by decide);obtain ⟨h7,j0⟩:=a 12 (by decide);obtain ⟨h8,j1⟩:=a 13 (by decide);obtain ⟨h9,j2⟩:=a 14 (by decide);simp only [bK] at k0;rw [←Ah Z] at d3;have r3:=b5.rd.l9.cell 3;have p1:=b5.pr.l9.cell 1;simp at r3 p1;obtain ⟨s,u,x,A,C,D,E,V⟩:=o.o.s.sx.c7;have R:=o.o.s.sx.cell 7;have S:=o.o.s.sx.cell 8;have T:=o.o.s.sx.cell 9;have M:=o.o.s.sx.cell 10;have N:=o.o.s.sx.cell 11;have O:=o.o.s.sx.cell 12;have P:=o.o.s.sx.cell 13;have Q:=o.o.s.sx.cell 14;simp [AS] at s u x A C D E R S T M N O P Q;obtain ⟨m1,m2,m3⟩:=b5.YX gg rfl;clear b5 Z f2 f4 o V a;go_wp2;go_region;go_wp2;go_ret;have hq:=HE.o.post e7.o;rw [Jh] at hq;exact hq
theorem U6:∀f,Hl f:=by
 intro f;induction f using Nat.strongRecOn with
 | _ f z=>
   intro v u g n c B t U a e y x d w o q m p i r b j l;cases f with
   | zero=>have:=b.1;omega
   | succ f=>
     have s:∀k,k≤f→Hl k:=fun k A=>z k (by omega)
     by_cases h:AJ (Ai a x.s9)=Vs∨AJ (Ai a x.s9)=GI
     ·exact U7 f s v u g n c B t U a e y x d w o q m p i r b j l h
     by_cases k:AJ (Ai a x.s9)=SZ∨AJ (Ai a x.s9)=GV∨AJ (Ai a x.s9)=[42]
     ·exact U8 f s v u g n c B t U a e y x d w o q m p i r b j l k
     ·simp only [not_or] at h k;exact Va f s v u g n c B t U a e y x d w o q m p i r b j l ⟨h.1,h.2,k.1,k.2.1,k.2.2⟩
end Go.Proofs.YthppbgndiplgnaaGreatDoor

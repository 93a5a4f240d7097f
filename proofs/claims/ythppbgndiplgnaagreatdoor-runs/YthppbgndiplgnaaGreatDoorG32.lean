/- One of the texts of the proof of runs_card_holds: RuL RuN MaE PlA MaI. -/
import Derived.Test.YthppbgndiplgnaaGreatDoorG31
set_option maxRecDepth 100000
set_option maxHeartbeats 8000000
namespace Go.Proofs.YthppbgndiplgnaaGreatDoor
open Go.RowKit Go.Maps
theorem Sx(F:Nat)(g v B:Nat)(U:Nat→Prop)(C G:Value)(x:List RF)(y:List FS)(E A:Nat)(j:List ByteArray)(a6:List Nat)(X:List XF)(h K:Nat)(S:RS)(u:FS)(k l m:Option Addr)(r s t n o p:Nat)(w:World)(V:Bool×RS)
 (D:OZ j a6 X x y)(hK:K≤150000)(f:Lu g v B U C G x y E A j a6 X u.Yh h K F S w)(f2:u.kind=3∨u.kind=4∨u.kind=5∨u.kind=7∨u.kind=10)(a4:u.Yh<x.length)(hp:u.p.i6∈(Aq X u.Yh).m9)(hq:u.q.i6∈(Aq X u.Yh).m9)
 (hT:∀W,EI g v B U C G x y E A j X S W→Calls Tryz.prog 95 #[.pointer (some ⟨g,0,none⟩),.agg (AS u (.slice k r n) (.slice l s o) (.slice m t p)),.int .i64 ((h+vx (Aq X u.Yh).m9 u.p.i6:Nat):Int),.int .i64 ((h+vx (Aq X u.Yh).m9 u.q.i6:Nat):Int)] W fun e z=>e=.returned (.bool V.1)∧A7 g v B j X V.2 z∧Be g B W z):
 Calls Tryz.prog 72 #[.pointer (some ⟨g,0,none⟩),.agg (AS u (.slice k r n) (.slice l s o) (.slice m t p)),.int .i64 h] w fun e z=>e=.returned (.bool V.1)∧A7 g v B j X V.2 z∧Be g B w z:=by
 have a0:=(Ab.refl (fun _=>False) w).alloc (.cells (AS u (.slice k r n) (.slice l s o) (.slice m t p)) 119);have H:=Aa a0;have b:=Aa (Ar.new w (AS u (.slice k r n) (.slice l s o) (.slice m t p)) 119);have f4:=f.i.ml;have f5:=f.i.pl;have f3:=f.ba;have L:=Aa (fun (W:World) (i:Ab (fun _=>False) w W)=>FZ g v B U C G x y E A j X S u k l m r s t n o p h u.p W (f.r.p6 i) (f.p.p6 i) D.h a4 (by omega) hp);have a7:=Aa (fun (W:World) (i:Ab (fun _=>False) w W)=>FZ g v B U C G x y E A j X S u k l m r s t n o p h u.q W (f.r.p6 i) (f.p.p6 i) D.h a4 (by omega) hq);have HT:=Aa (fun (W:World) (i:Ab (fun _=>False) w W)=>hT W ⟨f.r.p6 i,f.p.p6 i,D.h,f.i.m,by omega,by omega⟩);generalize h+vx (Aq X u.Yh).m9 u.p.i6=zp at*;generalize h+vx (Aq X u.Yh).m9 u.q.i6=zq at*;have k1:((u.kind:Int)==1)=false:=by simp;omega
 have k2:((u.kind:Int)==2)=false:=by simp;omega
 have k6:((u.kind:Int)==6)=false:=by simp;omega
 have k8:((u.kind:Int)==8)=false:=by simp;omega
 have k9:((u.kind:Int)==9)=false:=by simp;omega
 have f6:((u.kind:Int)==11)=false:=by simp;omega
 have f7:((u.kind:Int)==12)=false:=by simp;omega
 have f8:((u.kind:Int)==13)=false:=by simp;omega
 have N:=b.o.cell 0;have O:=b.o.cell 1;have Z:=b.o.cell 2;have b3:=b.o.cell 3;have b4:=b.o.cell 4;have b5:=b.o.cell 5;have b6:=b.o.cell 6;have b7:=b.o.cell 7;have b8:=b.o.cell 8;have b9:=b.o.cell 9;have P:=b.o.cell 10;have Q:=b.o.cell 11;have R:=b.o.cell 12;have T:=b.o.cell 13;have Y:=b.o.cell 14;have lb:=Ae b.o;clear a0 hT f D f2 hp hq;unfold AS at*;simp only [aU,aS,aT] at N O Z b3 b4 b5 b6 b7 b8 b9 P Q R T Y;go_enter Tryz.func72,Tryz.ntmps72;go_wp2_with fail;refine (L.o _ H.o).mono ?_;rintro e w1 ⟨rfl,I⟩;have M:=Aa (H.o.trans I);have c:=Aa (Ar.f8 b.o I (fun q=>q));have d0:=c.o.cell 0;have d1:=c.o.cell 1;have d2:=c.o.cell 2;have d3:=c.o.cell 3;have d4:=c.o.cell 4;have d5:=c.o.cell 5;have d6:=c.o.cell 6;have d7:=c.o.cell 7;have d8:=c.o.cell 8;have d9:=c.o.cell 9;have a8:=c.o.cell 10;have a9:=c.o.cell 11;have c4:=c.o.cell 12;have c5:=c.o.cell 13;have c6:=c.o.cell 14;have ld:=Ae c.o;simp only [aU,aS,aT] at d0 d1 d2 d3 d4 d5 d6 d7 d8 d9 a8 a9 c4 c5 c6;clear I L H N O Z b3 b4 b5 b6 b7 b8 b9 P Q R T Y lb b;go_wp2_with fail;go_region_law (first
  | (go_simp;go_at_call 92;refine (a7.o _ ?_).mono ?_;exact Ab.trans (X:=fun _=>False) M.o (by repeat (first | exact Ab.refl _ _ | refine Ab.drew ?_ | refine Ab.drewN ?_ _ | refine Ab.alloc ?_ _));rintro e w8 ⟨rfl,a5⟩;have J:=Aa (Ab.trans (X:=fun _=>False) (a:=w1) (by repeat (first | exact Ab.refl _ _ | refine Ab.drew ?_ | refine Ab.drewN ?_ _ | refine Ab.alloc ?_ _)) a5);have o8:=Aa (M.o.trans J.o);have d:=Aa (Ar.f8 c.o J.o (fun q=>q));have e0:=d.o.cell 0;have e1:=d.o.cell 1;have e2:=d.o.cell 2;have e3:=d.o.cell 3;have e4:=d.o.cell 4;have e5:=d.o.cell 5;have e6:=d.o.cell 6;have e7:=d.o.cell 7;have e8:=d.o.cell 8;have e9:=d.o.cell 9;have c7:=d.o.cell 10;have c8:=d.o.cell 11;have c9:=d.o.cell 12;have f0:=d.o.cell 13;have f1:=d.o.cell 14;simp only [aU,aS,aT] at e0 e1 e2 e3 e4 e5 e6 e7 e8 e9 c7 c8 c9 f0 f1;have l8:=Ae d.o;clear a5 J d;dsimp only)
  | (go_simp;go_at_call 95;refine (HT.o _ ?_).mono ?_;exact Ab.trans (X:=fun _=>False) o8.o (by repeat (first | exact Ab.refl _ _ | refine Ab.drew ?_ | refine Ab.drewN ?_ _ | refine Ab.alloc ?_ _));rintro e w9 ⟨rfl,v1,v2⟩;dsimp only))
 all_goals
  have V1:=Aa v1;have V2:=Aa ((Be.s8 o8.o).trans v2);clear v1 v2;go_wp2_with fail;go_ret;exact ⟨rfl,V1.o,V2.o⟩
def Co.YE(c:Co)(p k:Nat):Co:={c with i7:=c.i7++(List.range k).map fun i=>⟨⟨1,p,i⟩,DL⟩}
theorem Nx(c:Co)(p k:Nat):(c.YE p k).i7.length=c.i7.length+k:=by simp [Co.YE]
theorem LQ(c:Co)(p k:Nat):{(c.YE p k) with i7:=(c.YE p k).i7++[⟨⟨1,p,k⟩,DL⟩]}=c.YE p (k+1):=by unfold Co.YE;simp only [List.range_succ,dD,List.map_singleton,cX]
def Rs(n:Nat):ByteArray:=⟨(Lib.decDigits n).toArray⟩
theorem WZ(n:Nat)(h:n≤4000)(w:World):Calls Tryz.prog 94 #[.int .i64 n] w fun e a=>e=.returned (.string (Rs n))∧∃m,a=w.drewN m:=Oo n (by omega) w
theorem VL(s:ByteArray)(n k:Nat):∀u∈[Value.string s,.int .i64 0,.int .i64 (n:Int),.int .i64 (k:Int)],u.oneCell'=true:=by intro x a;simp only [cM,bU,or_false] at a;rcases a with rfl | rfl | rfl | rfl<;>rfl
theorem Sw(F a j B)(U:Nat→Prop)(Z sv E I p0 Y f e3 X l K S u r s t A C D v x y w)
 (hS:OZ f e3 X E I)(hK:K≤150000)(g:Lu a j B U Z sv E I p0 Y f e3 X u.Yh l K F S w)(g8:u.kind=2)(f8:u.Yh<E.length)(hp:u.p.i6∈(Aq X u.Yh).m9)(g5:u.i9≤4000):
 Calls Tryz.prog 72 #[.pointer (some ⟨a,0,none⟩),.agg (AS u (.slice r A v) (.slice s C x) (.slice t D y)),.int .i64 l] w fun e w'=>e=.returned (.bool false)∧A7 a j B f X {S with c:=(S.c.fields u.i9).set (l+vx (Aq X u.Yh).m9 u.p.i6) ⟨2,S.c.i7.length⟩} w'∧Be a B w w':=by
 have d9:=(Ab.refl (fun _=>False) w).alloc (.cells (AS u (.slice r A v) (.slice s C x) (.slice t D y)) 119);have Q:=Aa d9;have b:=Aa (Ar.new w (AS u (.slice r A v) (.slice s C x) (.slice t D y)) 119);have i3:=g.i.ml;have i4:=g.i.pl;have h7:=g.ba;obtain ⟨z1,z2⟩:=CP hp;have c8:=Aa (fun (W:World) (J:Ab (fun _=>False) w W)=>FZ a j B U Z sv E I p0 Y f X S u r s t A C D v x y l u.p W (g.r.p6 J) (g.p.p6 J) hS.h f8 (by omega) hp);have a7:=LJ g.i.m g5;have f9:(S.c.fields u.i9).i7.length=S.c.i7.length+4:=by simp [Co.fields]
 have g7:=a7.se;have a5:=fun (W:World) (hR:A7 a j B f X {S with c:=S.c.fields u.i9} W) (J:Be a B w W)=>II a j B U Z sv E I p0 Y f X {S with c:=S.c.fields u.i9} (l+vx (Aq X u.Yh).m9 u.p.i6) ⟨2,S.c.i7.length⟩ W hR (Be.YO J g.r g.p) hS.h a7.m (by simp only;omega) (.inr (.inr ⟨rfl,by simp only;omega⟩)) (by simp only;omega) (by simp only;omega)
 have e2:DD ⟨2,S.c.i7.length⟩=(S.c.i7.length:Int)+1:=by simp [DD]
 rw [e2] at a5;have d2:=Aa a5;have d3:=Aa g.r;have g6:w.heap.size≠a:=by obtain ⟨_,_,_,_,q⟩:=g.r;have:=Ae q.l9;omega
 obtain ⟨V,a6⟩:∃V,{S with c:=(S.c.fields u.i9).set (l+vx (Aq X u.Yh).m9 u.p.i6) ⟨2,S.c.i7.length⟩}=V:=⟨_,rfl⟩;have f3:=Aa a6;rw [a6];generalize l+vx (Aq X u.Yh).m9 u.p.i6=zp at*;obtain ⟨i0,g0,h0,h1,h2⟩:=info_parts Tryz.infoCell;have i2:S.c.i7.length≤150000:=by omega
 have b0:=b.o.cell 0;have b1:=b.o.cell 1;have b2:=b.o.cell 2;have b3:=b.o.cell 3;have b4:=b.o.cell 4;have b5:=b.o.cell 5;have b6:=b.o.cell 6;have b7:=b.o.cell 7;have b8:=b.o.cell 8;have H:=b.o.cell 9;have d4:=b.o.cell 10;have d5:=b.o.cell 11;have d6:=b.o.cell 12;have d7:=b.o.cell 13;have d8:=b.o.cell 14;have lb:=Ae b.o;clear d9 a5 g hS hp a6 e2 z2 a7 f9 g7;unfold AS at*;rw [g8] at*;rw [show ((2:Nat):Int)=2 from rfl] at*;simp only [aU,aS,aT] at b0 b1 b2 b3 b4 b5 b6 b7 b8 H d4 d5 d6 d7 d8;go_enter Tryz.func72,Tryz.ntmps72;go_wp2_with fail;refine (c8.o _ Q.o).mono ?_;rintro e w1 ⟨rfl,c4⟩;have T:=Aa (Q.o.trans c4);have G:=Aa (Ar.f8 b.o c4 (fun q=>q));have R1:=Aa (d3.o.p6 T.o);have d0:=G.o.cell 0;have ld:=Ae G.o;simp only [aU,aS] at d0;obtain ⟨mv,nv,ch,i6,z⟩:=R1.o;obtain ⟨m1,m2,m3,rfl⟩:=Ad z.i7;have g2:=Ah z.i7;subst g2;have p:=z.l9.cell 1;have O:=Ae z.l9;simp only [F7,aU,aS,aT] at p;clear z c4 c8 Q b0 b1 b2 b3 b4 b5 b6 b7 b8 H d4 d5 d6 d7 d8 lb b d3;go_wp2;clear p d0 ld O;go_loopw [10] (fun i wr=>∃k:Nat,k≤4∧i=.int .i64 k∧dJ (A7 a j B f X {S with c:=S.c.YE u.i9 k} wr)∧dJ (Ar w.heap.size #[.int .i64 2,.string u.p.i6,.int .i64 u.p.pos,.int .i64 u.p.sort,.string u.q.i6,.int .i64 u.q.pos,.int .i64 u.q.sort,.int .i64 u.field,.slice r A v,.int .i64 u.i9,.slice s C x,.slice t D y,.int .i64 u.br,.int .i64 u.YT,.int .i64 u.Yh] 119 wr)∧dJ (Be a B w1 wr)) (fun i _=>4-(intOf i).toNat)
 case atStart=>
  have e:S.c.YE u.i9 0=S.c:=by simp [Co.YE]
  have R:A7 a j B f X {S with c:=S.c.YE u.i9 0} w1:=by rw [e];exact R1.o
  exact ⟨0,by omega,rfl,R,G,Be.refl _ _ _⟩
 case round=>
  obtain ⟨k,hk,rfl,⟨mv,h3,f4,h4,d⟩,a0,a4⟩:=hrel;clear G;by_cases i1:k<4
  ·have a8:=Nx S.c u.i9 k;have f5:dJ (Rs u.i9++{data:=#[46]}++Rs k=MZ f X ⟨1,u.i9,k⟩):=CV (by unfold Vt Rs;simp);have s1:(Rs u.i9).size≤4001:=by have:=DP u.i9;simp only [Rs,ByteArray.size,List.size_toArray];omega
   have s2:(Rs k).size≤5:=by have:=DP k;simp only [Rs,ByteArray.size,List.size_toArray];omega
   generalize u.i9=m at*;have k4:k≤4000:=by omega
   obtain ⟨c6,i5,c7,rfl⟩:=Ad d.i7;have g3:=Ah d.i7;subst g3;have p:=d.l9.cell 1;have rz:=d.l9.frozen 1;have O:=Ae d.l9;have H:=a0.o.cell 9;have lb:=Ae a0.o;simp only [F7,aU,aS,aT] at p H;have a9:=Aa (Ap d.i7 d.l9 (by decide));have e0:=Aa d;have h6:B≤wr.heap.size:=by have:=d.lb;omega
   have d1:=Aa d.i7;have g9:=Aa (LQ S.c m k);clear d;simp only [a8] at p d1 a9 e0;have h8:¬(9223372036854775807<(Rs m).size+1):=by omega
   have h9:¬(9223372036854775807<(Rs m).size+1+(Rs k).size):=by omega
   have g1:=Aa a8;clear a8;have L:∀(n:Nat) (o:Obj),Ab (fun _=>False) wr ((wr.drewN n).alloc o):=fun n o=>Ab.alloc (Ab.drewN (Ab.refl _ _) n) o
   have f6:∀(n:Nat) (o:Obj),((wr.drewN n).alloc o).cell? ⟨a,1,none⟩=some (.slice c6 (S.c.i7.length+k) c7):=fun n o=>(aW ((L n o).block a O (fun q=>q))).trans p
   have f7:∀(n:Nat) (o:Obj),((wr.drewN n).alloc o).frozen? ⟨a,1,none⟩=false:=fun n o=>(bB ((L n o).block a O (fun q=>q))).trans rz
   have h5:=Aa L;clear L;go_wp2_with fail;go_region_law (first
    | (go_simp;go_at_call 94;refine (WZ _ (by assumption) _).mono ?_;rintro e w7 ⟨rfl,m7,c5⟩;have c5:=c5.symm;subst c5;dsimp only)
    | (refine Ay rfl _ _ 36 rfl B 123 i0 (.agg XM) 4 40 Tryz.underlying36 g0 h0 h1 h2 rfl (by decide) _ _ _ rfl (Ac d1.o (by repeat (first | exact Ab.refl _ _ | refine Ab.drew ?_ | refine Ab.drewN ?_ _ | refine Ab.alloc ?_ _)) (fun _ _ q=>q)) ⟨wr.heap.size,0,none⟩ 1 1 [.string (Rs m++{data:=#[46]}++Rs k),.int .i64 0,.int .i64 (S.c.i7.length:Int),.int .i64 (k:Int)] rfl rfl (AN (by simp) _ _) (VL _ _ _) (by decide) (by unfold maxLen;omega) (by omega) (by simp;omega) ?_;intro v' P N M g4;have q1:P.cell? ⟨a,1,none⟩=some (.slice c6 (S.c.i7.length+k) c7):=(aW (M.block a (by simp;omega) (fun h=>a9.o a h.symm rfl))).trans (f6 _ _);have q2:P.frozen? ⟨a,1,none⟩=false:=(bB (M.block a (by simp;omega) (fun h=>a9.o a h.symm rfl))).trans (f7 _ _);obtain ⟨e5,e7,e6,rfl⟩:=Ad N))
   all_goals
    have e1:World.grownBy _ P (Value.ownBlock (.slice c6 (S.c.i7.length+k) c7)):=M;have hP:=(fun (o:Ab (fun _=>False) wr _)=>e0.o.push (cl:=⟨⟨1,m,k⟩,DL⟩) (v':=.slice e5 e7 e6) o e1 (by rw [f5.o] at N;simp only [g1.o,Tb,DD,VT,XY,DL,if_true];rw [show ((S.c.i7.length+k:Nat):Int)-(k:Int)=(S.c.i7.length:Int) by omega];exact N)) (by repeat (first | exact Ab.refl _ _ | refine Ab.drew ?_ | refine Ab.drewN ?_ _ | refine Ab.alloc ?_ _));have R5:A7 a j B f X {S with c:=S.c.YE m (k+1)} (P.setCell ⟨a,1,none⟩ (.slice e5 e7 e6)):=by rw [←g9.o];exact ⟨_,_,_,_,hP.1⟩
    have f1:=Aa R5;have c9:=Aa hP.2;clear hP R5 N M e1 g4 q1 q2;have e8:=Aa (c9.o.l9 a0.o g6 (by decide));have f0:=Aa (a4.o.trans c9.o);go_wp2_with fail;go_roundw
    case rel=>exact ⟨k+1,by omega,by go_num,f1,e8,f0⟩
    case measure=>simp [intOf];omega
  ·have e4:k=4:=by omega
   have f2:dJ (A7 a j B f X {S with c:=S.c.fields u.i9} wr):=by have:A7 a j B f X {S with c:=S.c.YE u.i9 k} wr:=⟨mv,h3,f4,h4,d⟩;rw [e4] at this;exact this
   have HC:=Aa (d2.o wr f2.o ((Be.s8 T.o).trans a4.o));have e9:=Aa ((Be.s8 T.o).trans a4.o);clear d d2;go_wp2_with fail;refine HC.o.mono ?_;rintro e w9 ⟨rfl,v1,v2⟩;have V1:=Aa v1;have V2:=Aa (e9.o.trans v2);clear v1 v2 HC;go_wp2;go_ret;exact ⟨rfl,by rw [←f3.o];exact V1.o,V2.o⟩
theorem EU{w:World}{B d:Nat}{e b:TypeId}{s p:Nat}{v c:Value}{n m:Nat}{r t:List Value}(h:w.ownsRow B e s v n r)(f:w.ownsRow d b p c m t)(g:e≠b):∀k,v.ownBlock=some k→¬c.ownBlock=some k:=by
 intro k j a;rcases f.2 with ⟨o,_⟩ | ⟨y,u,x,l,_,i,_⟩
 ·rw [o] at a;simp [Value.ownBlock] at a
 ·rw [l] at a;simp [Value.ownBlock] at a;subst a;exact Ap h i (fun q=>g q.symm) _ j rfl
theorem Ec{w:World}{B:Nat}{e:TypeId}{s:Nat}{v:Value}{n:Nat}{i:List Value}(h:w.ownsRow B e s v n i){k:Nat}(a:v.ownBlock=some k):B≤k∧∃b c,w.heap[k]? =some (.cells b e c):=by
 refine ⟨(h.lt k a).1,?_⟩;rcases h.2 with ⟨g,_⟩ | ⟨m,j,l,f,_,d,_⟩
 ·rw [g] at a;simp [Value.ownBlock] at a
 ·rw [f] at a;simp [Value.ownBlock] at a;subst a;exact ⟨_,_,d⟩
theorem CD.push{a i d B r s o p l t v' m n w W b cl}(h:CD a i d B p r s o m l t n w)(D:Ab (fun _=>False) w W)(E:W.grownBy b l.ownBlock)(x:b.ownsRow B 151 5 v' (m.c.i7.length+1) (Ta m.c.i7++Pk cl)):
 CD a i d B p r s o {m with c:={m.c with i7:=m.c.i7++[cl]}} v' t n (b.setCell ⟨a,5,none⟩ v')∧Ci a i d B w (b.setCell ⟨a,5,none⟩ v'):=by
 have e:Ab (fun k=>l.ownBlock=some k) w b:=Ab.grown (D.mono (fun _ _ q=>q.elim)) E (fun j G=>.inl G);have hF:Ci a i d B w b:=e.mono (fun k _ q=>by obtain ⟨C,z,A,F⟩:=Ec h.i7 q;exact .inr (.inr (.inr ⟨C,z,_,A,F,.inl rfl⟩)))
 have g:Ab (fun k=>k=a) b (b.setCell ⟨a,5,none⟩ v'):=(Ab.refl _ _).p7 5 _;have f:Ar a (Iy p r s o n l t m.Yi i d) 84 b:=h.l9.f8 e (fun q=>Ap h.i7 h.l9 (by decide) a q rfl);have v:=Ac h.Yw e (EU h.Yw h.i7 (by decide));have y:=h.Ys.f8 e (fun q=>Fb h.i7 h.Ys _ q rfl);have u:=h.Yr.f8 e (fun q=>Fb h.i7 h.Yr _ q rfl);refine ⟨⟨f.set 5 _,h.Yz,?_,Ac v g (Ap v f (by decide)),y.f8 g (y.ne f),u.f8 g (u.ne f),h.lb,h.ne⟩,hF.trans (g.mono (fun _ _ q=>.inl q))⟩;show (b.setCell ⟨a,5,none⟩ v').ownsRow B _ 5 v' (m.c.i7++[cl]).length (Ta (m.c.i7++[cl]));rw [Tx,aZ];exact Ac x g (Ap x f (by decide))
theorem CM.other{j n e B l o d b f m s t w p}(h:CM j n e B f l o d m w)(a:Ar b s t w)(u:t≠84)(g:t≠151)(i:t≠143)(c:Ab (fun k=>k=b) w p):CM j n e B f l o d m p:=by obtain ⟨x,y,r,h⟩:=h;have v:=h.Y3 (B':=B) a u g i;exact ⟨x,y,r,⟨h.l9.f8 c (fun q=>v (.inl q.symm)),h.Yz,Ac h.i7 c (Ap h.i7 a g),Ac h.Yw c (Ap h.Yw a i),h.Ys.f8 c (h.Ys.ne a),h.Yr.f8 c (h.Yr.ne a),h.lb,h.ne⟩⟩
theorem Ci.fresh{f g d B s a b c}(h:Ci f g d B a b)(k:Ab (fun k=>k=s) b c)(l:a.heap.size≤s):Ci f g d B a c:=by refine ⟨k.os.trans h.os,k.tape.trans h.tape,k.output.trans h.output,bJ h.size k.size,fun i e j=>?_⟩;rw [k.block i (bL e h.size) (fun q=>by omega),h.block i e j]
abbrev XL:Array Value:=#[.int .i64 0,.int .i64 0,.int .i64 0,.int .i64 0,.int .i64 0]
theorem Tryz.infoCe:(Tryz.prog.info? 151).map (fun i=>(i.zero,i.size,i.bytes))=some (some (.agg XL),5,40):=by kernel_rfl
theorem Ty(c):∀u∈Pk c,u.oneCell'=true:=by intro x a;simp only [Pk,cM,bU,or_false] at a;rcases a with rfl | rfl | rfl | rfl | rfl<;>rfl
theorem NZ(a g f B:Nat)(l:Value)(n p j:Nat)(m:Mc)(d:Nat)(w:World)(h:CM a g f B l n p j m w)(b7:m.c.i7.length≤200000):
 Calls Tryz.prog 52 #[.pointer (some ⟨a,0,none⟩),.int .i64 d] w fun e X=>e=.returned (.agg #[.int .i64 2,.int .i64 m.c.i7.length])∧CM a g f B l n p j {m with c:=m.c.fields d} X∧Ci a g f B w X:=by
 obtain ⟨i0,a4,b2,b3,b4⟩:=info_parts Tryz.infoCe;have G:=Aa h;obtain ⟨S,T,M,s⟩:=h;obtain ⟨m1,m2,m3,rfl⟩:=Ad s.i7;have a6:=Ah s.i7;subst a6;have r:=s.l9.cell 5;have x:=Ae s.l9;simp only [Iy,aU,aS,aT] at r;clear s;go_enter Tryz.func52,Tryz.ntmps52;go_wp2;clear r x;have I:=Aa ((Ab.refl (fun _=>False) w).alloc (.cells #[.int .i64 0,.int .i64 0] 149));have F:=Aa (Ar.new w #[.int .i64 0,.int .i64 0] 149);generalize w.alloc _=W0 at*;go_loopw [12] (fun i wr=>∃k:Nat,k≤4∧i=.int .i64 k∧dJ (CM a g f B l n p j {m with c:=m.c.YE d k} wr)∧dJ (Ar w.heap.size #[.int .i64 0,.int .i64 0] 149 wr)∧dJ (Ci a g f B w wr)) (fun i _=>4-(intOf i).toNat)
 case atStart=>
  have e:m.c.YE d 0=m.c:=by simp [Co.YE]
  have R:CM a g f B l n p j {m with c:=m.c.YE d 0} W0:=by rw [e];exact G.o.p6 I.o
  exact ⟨0,by omega,rfl,R,F,Ci.s8 I.o⟩
 case round=>
  obtain ⟨k,hk,rfl,⟨S,T,M,b⟩,q,N⟩:=hrel;clear G F;by_cases b6:k<4
  ·have C:=Nx m.c d k;obtain ⟨P,b8,Q,rfl⟩:=Ad b.i7;have a7:=Ah b.i7;subst a7;have r:=b.l9.cell 5;have rz:=b.l9.frozen 5;have x:=Ae b.l9;simp only [Iy,aU,aS,aT] at r;have D:=Aa (Ap b.i7 b.l9 (by decide));have z:=Aa b;have b5:B≤wr.heap.size:=by have:=b.lb;omega
   have H:=Aa b.i7;have a9:=Aa (LQ m.c d k);clear b;simp only [C] at r H D z;have a5:=Aa C;clear C;go_wp2_with (at_builtin;refine Df _ rfl _ _ 81 rfl B 151 i0 (.agg XL) 5 40 Tryz.underlying81 a4 b2 b3 b4 rfl (by decide) _ _ _ rfl (H.o.alloc _) ⟨wr.heap.size,0,none⟩ 1 1 (Pk ⟨⟨1,d,k⟩,DL⟩) rfl rfl (AN rfl _ _) (Ty _) (by decide) (by unfold maxLen;omega) (by omega) (by simp;omega) ?_;intro v' y E u a8;have q1:y.cell? ⟨a,5,none⟩=some (.slice P (m.c.i7.length+k) Q):=(aW (u.block a (by simp;omega) (fun h=>D.o a h.symm rfl))).trans (by rw [←r];exact aW (bF _ _ _ x));have q2:y.frozen? ⟨a,5,none⟩=false:=(bB (u.block a (by simp;omega) (fun h=>D.o a h.symm rfl))).trans (by rw [←rz];exact bB (bF _ _ _ x));obtain ⟨U,W,V,rfl⟩:=Ad E)
   ·have O:World.grownBy _ y (Value.ownBlock (.slice P (m.c.i7.length+k) Q)):=u;have t:=(fun (o:Ab (fun _=>False) wr _)=>z.o.push (cl:=⟨⟨1,d,k⟩,DL⟩) (v':=.slice U W V) o O (by simp only [a5.o];exact E)) (by repeat (first | exact Ab.refl _ _ | refine Ab.drew ?_ | refine Ab.drewN ?_ _ | refine Ab.alloc ?_ _));have J:CM a g f B l n p j {m with c:=m.c.YE d (k+1)} (y.setCell ⟨a,5,none⟩ (.slice U W V)):=by rw [←a9.o];exact ⟨_,_,_,t.1⟩
    have a2:=Aa J;have a0:=Aa (N.o.trans t.2);have Y:=Aa (t.2.l9 ⟨_,_,_,z.o⟩ q.o (by decide) (by decide) (by decide));clear t J E u O a8 q1 q2;go_roundw
    case rel=>exact ⟨k+1,by omega,by go_num,a2,Y,a0⟩
    case measure=>simp [intOf];omega
  ·have e4:k=4:=by omega
   have a3:dJ (CM a g f B l n p j {m with c:=m.c.fields d} wr):=by have:CM a g f B l n p j {m with c:=m.c.YE d k} wr:=⟨S,T,M,b⟩;rw [e4] at this;exact this
   have K:=q.o.cell 0;have L:=q.o.cell 1;have bz:=q.o.frozen;have lb:=Ae q.o;simp only [aU,aS,aT] at K L;have A:=((Ab.refl (fun k=>k=w.heap.size) wr).p7 0 (.int .i64 2)).p7 1 (.int .i64 m.c.i7.length);have a1:=Aa (a3.o.other q.o (by decide) (by decide) (by decide) A);have Z:=Aa (N.o.fresh A (aV _));clear b A;go_wp2_with fail;refine bC (v:=.agg #[.int .i64 2,.int .i64 m.c.i7.length]) (by simp [results,Tryz.results52,go_sem,K,L]) rfl ⟨rfl,a1.o,Z.o⟩
def LB(s:Cb)(a:Value):List Value:=[.int .i64 s.kind,.int .i64 s.Yf,.int .i64 s.t9,.int .i64 s.field,.int .i64 s.Yp,a,.int .i64 s.i8,.int .i64 s.taken]
def QC(B:Nat)(w:World)(c:List Value)(s:Cb):Prop:=∃a,c=LB s a∧AD B w a s.args
def AW(B:Nat)(w:World)(b:Value)(l:List Cb):Prop:=∃a:List (List Value),w.ownsRow B 157 8 b l.length a.flatten∧a.length=l.length∧∀i (h:i<a.length) (c:i<l.length),QC B w a[i] l[i]
def Un(f:PFn)(b a:Value):List Value:=[.string f.name,b,.int .i64 f.p8,a]
def J3(B:Nat)(w:World)(c:List Value)(f:PFn):Prop:=∃b a,c=Un f b a∧AB B w b f.m9∧AW B w a f.m8
def BB(B:Nat)(w:World)(b:Value)(P:List PFn):Prop:=∃a:List (List Value),w.ownsRow B 100 4 b P.length a.flatten∧a.length=P.length∧∀i (h:i<a.length) (c:i<P.length),J3 B w a[i] P[i]
def Ti(X:Nat→Prop)(w:World):Prop:=∀k a t b,X k→w.heap[k]? =some (.cells a t b)→t≠3∧t≠9∧t≠157∧t≠100
theorem AW.f8{B w w' sv l}{X:Nat→Prop}(h:AW B w sv l)(d:Ab X w w')(f:Ti X w):AW B w' sv l:=by obtain ⟨a,p,n,o⟩:=h;refine ⟨a,Am p d (fun k a b c q=>(f k a _ b c q).2.2.1 rfl),n,fun i h j=>?_⟩;obtain ⟨g,e,m⟩:=o i h j;exact ⟨g,e,Am m d (fun k a b c q=>(f k a _ b c q).1 rfl)⟩
theorem BB.f8{B w w' g P}{X:Nat→Prop}(h:BB B w g P)(d:Ab X w w')(f:Ti X w):BB B w' g P:=by obtain ⟨a,n,l,m⟩:=h;refine ⟨a,Am n d (fun k a b c q=>(f k a _ b c q).2.2.2 rfl),l,fun i h j=>?_⟩;obtain ⟨r,sv,e,p,o⟩:=m i h j;exact ⟨r,sv,e,Am p d (fun k a b c q=>(f k a _ b c q).2.1 rfl),o.f8 d f⟩
theorem BB.p6{B w b a P}(h:BB B w a P)(c:Ab (fun _=>False) w b):BB B b a P:=h.f8 c (fun _ _ _ _ q=>q.elim)
theorem Ci.Y6{i j b B a v x n o c m P w l}(p:Ci i j b B w l)(h:CM i j b B o v x n m w)(s:BB a w c P):BB a l c P:=by
 obtain ⟨C,D,y,h⟩:=h;refine s.f8 p (fun k z t A q r=>?_);have u:t=84∨t=151∨t=143:=by
  by_cases d:t=84
  ·exact .inl d
  by_cases f:t=151
  ·exact .inr (.inl f)
  by_cases g:t=143
  ·exact .inr (.inr g)
  exact dC q (h.Y3 r d f g)
 rcases u with e | e | e<;>(rw [e];decide)
theorem BB.get{B w g l c P}(h:BB B w (.slice (some ⟨g,0,none⟩) l c) P){i}(s:i<P.length):
 ∃b a,(∀j,j<4→w.cell? ⟨g,i*4+j,none⟩=(Un P[i] b a)[j]?)∧AB B w b P[i].m9∧AW B w a P[i].m8:=by
 obtain ⟨f,n,v,m⟩:=h;have t:=Ah n;subst t;have k:i<f.length:=by omega
 have q:∀x,x∈f→x.length=4:=by intro x u;obtain ⟨j,d,rfl⟩:=bS.1 u;obtain ⟨_,_,e,_⟩:=m j d (by omega);rw [e];rfl
 obtain ⟨b,a,e,o,p⟩:=m i k s;refine ⟨b,a,fun j d=>?_,o,p⟩;have r:=n.cellAt (i*4+j) (by omega);rw [r,BN q k d,e]
theorem AW.get{B w g l c L}(h:AW B w (.slice (some ⟨g,0,none⟩) l c) L){i}(q:i<L.length):
 ∃a,(∀j,j<8→w.cell? ⟨g,i*8+j,none⟩=(LB L[i] a)[j]?)∧AD B w a L[i].args:=by
 obtain ⟨d,m,t,k⟩:=h;have r:=Ah m;subst r;have f:i<d.length:=by omega
 have o:∀x,x∈d→x.length=8:=by intro x s;obtain ⟨j,b,rfl⟩:=bS.1 s;obtain ⟨_,e,_⟩:=k j b (by omega);rw [e];rfl
 obtain ⟨a,e,n⟩:=k i f q;refine ⟨a,fun j b=>?_,n⟩;have p:=m.cellAt (i*8+j) (by omega);rw [p,BN o f b,e]
theorem AW.form{B w d L}(h:AW B w d L):∃a c,d=.slice a L.length c∧(0<L.length→∃g,a=some ⟨g,0,none⟩∧g<w.heap.size):=by obtain ⟨i,b,_⟩:=h;obtain ⟨a,l,c,rfl⟩:=Ad b;have f:=Ah b;subst f;refine ⟨a,c,rfl,fun e=>?_⟩;obtain ⟨g,rfl⟩:=As b e;exact ⟨g,rfl,(b.lt g rfl).2⟩
theorem BB.form{B w d P}(h:BB B w d P)(e:0<P.length):∃g c,d=.slice (some ⟨g,0,none⟩) P.length c∧g<w.heap.size:=by obtain ⟨i,b,_⟩:=h;obtain ⟨a,l,c,rfl⟩:=Ad b;have f:=Ah b;subst f;obtain ⟨g,rfl⟩:=As b e;exact ⟨g,c,rfl,(b.lt g rfl).2⟩
structure XK(P:List PFn)(f:PFn)(s:Cb):Prop where
 kind:s.kind≤12
 tg:s.kind≠0→s.kind≠10→s.kind≠11→s.kind≠12→s.Yf<f.m9.length
 sr:s.kind=2∨s.kind=3∨s.kind=5∨s.kind=6∨s.kind=8∨s.kind=9∨s.kind=10→s.t9<f.m9.length
 func:s.kind=4∨s.kind=7→s.t9<P.length
 many:s.kind=7→(AF P s.t9).p8=s.args.length
 args:∀a,a∈s.args→a<f.m9.length
 Yx:s.args.length≤4000
 field:s.field≤3
 Yp:s.Yp≤4000
 i8:s.i8≤f.m8.length
 taken:s.taken≤f.m8.length
 t5:s.Yf≤5000
 s5:s.t9≤5000
structure Gi(P:List PFn):Prop where
 Yx:P.length≤4001
 m9:∀i,(AF P i).m9.length≤12
 YN:∀i,(AF P i).p8≤(AF P i).m9.length
 many:∀i,(AF P i).m8.length≤4001
 ok:∀i,i<P.length→∀s,s∈(AF P i).m8→XK P (AF P i) s
structure Vu(P:List PFn)(n:Nat)(f:Hi):Prop where
 fn:f.fn<P.length
 base:f.base+(AF P f.fn).m9.length≤n
 i8:f.i8≤(AF P f.fn).m8.length
def Fq(n:Nat):List Hi→Prop
 | []=>True
 | [_]=>True
 | f::g::r=>f.answer<n∧Fq n (g::r)
theorem Fq.more{n b:Nat}(a:n≤b):∀{l:List Hi},Fq n l→Fq b l
 | [],_=>trivial
 | [_],_=>trivial
 | _::_::_,h=>⟨bL h.1 a,Fq.more a h.2⟩
theorem Fq.tail{n:Nat}{f:Hi}:∀{l:List Hi},Fq n (f::l)→Fq n l
 | [],_=>trivial
 | _::_,h=>h.2
theorem Fq.head{n:Nat}{f f':Hi}(e:f'.answer=f.answer):∀{l:List Hi},Fq n (f::l)→Fq n (f'::l)
 | [],_=>trivial
 | _::_,h=>⟨by rw [e];exact h.1,h.2⟩
theorem Vu.more{P n a f}(h:Vu P n f)(b:n≤a):Vu P a f:=⟨h.fn,bJ h.base b,h.i8⟩
structure BM(P:List PFn)(n:Nat)(m:Mc):Prop where
 i7:BY P.length m.c.i7
 YQ:DY m.c.i7
 ml:m.c.i7.length+14*n≤140000
 pl:m.c.Ys.length+m.c.Yr.length+14*n≤140000
 fr:∀f,f∈m.u8→Vu P m.c.i7.length f
 YZ:Fq m.c.i7.length m.u8
 Yl:m.u8.length≤40
 run:m.Yi=1→m.u8≠[]
 Yi:m.Yi≤4
structure WG(P:List PFn)(n:Nat)(m:Mc):Prop where
 i7:BY P.length m.c.i7
 YQ:DY m.c.i7
 ml:m.c.i7.length+14*n≤140000
 pl:m.c.Ys.length+m.c.Yr.length+14*n≤140000
theorem BM.aC{P n m}(h:BM P n m):WG P n m:=⟨h.i7,h.YQ,h.ml,h.pl⟩
theorem Dy(c:Co)(a:Nat)(v:Vl):(c.set a v).i7.length=c.i7.length:=by simp [Co.set]
theorem No(c:Co)(a:Nat)(v:Vl):(c.set a v).Ys.length≤c.Ys.length+1:=by
 unfold Co.set;simp only;split
 ·simp
 ·split<;>simp
theorem Nn(c:Co)(a:Nat)(v:Vl):(c.set a v).Yr=c.Yr:=rfl
theorem QF(c:Co)(a i:Nat)(v:Vl):(Ak (c.set a v).i7 i).nm=(Ak c.i7 i).nm:=IU ⟨c,[],0⟩ a i v
theorem DY.aE{m}(h:∀i,i<m.length→Lv (Ak m i).nm):DY m:=fun i a=>by have:=h i a;rw [AV a] at this;exact this
theorem DY.set{c:Co}(h:DY c.i7)(a:Nat)(v:Vl):DY (c.set a v).i7:=DY.aE (fun i b=>by rw [QF];rw [Dy] at b;exact h.at_ b)
theorem DY.app{m l}(h:DY m)(a:∀x,x∈l→Lv x.nm):DY (m++l):=fun i b=>by
 rw [List.getElem_append];split
 ·exact h i (by assumption)
 ·exact a _ (bD _)
theorem BM.set{P n b m}(h:BM P (n+1) m)(e:b≤n){a v}(d:Cn P.length m.c.i7.length v):BM P b {m with c:=m.c.set a v}:=
 ⟨(EL h.i7 d).m,h.YQ.set a v,by rw [Dy];have:=h.ml;omega,by have:=h.pl;have:=No m.c a v;simp only [Nn];omega,by rw [Dy];exact h.fr,by rw [Dy];exact h.YZ,h.Yl,h.run,h.Yi⟩
theorem BM.less{P:List PFn}{n a:Nat}{m:Mc}(h:BM P n m)(b:a≤n):BM P a m:=⟨h.i7,h.YQ,by have:=h.ml;omega,by have:=h.pl;omega,h.fr,h.YZ,h.Yl,h.run,h.Yi⟩
theorem BM.stop{P n k m}(h:BM P n m)(b:1<k)(a:k≤4):BM P n {m with Yi:=k}:=⟨h.i7,h.YQ,h.ml,h.pl,h.fr,h.YZ,h.Yl,fun q=>by simp only at q;omega,a⟩
theorem BM.leave{P n m}(h:BM P (n+1) m){v}(i:Cn P.length m.c.i7.length v):BM P n (A6 m v):=by
 obtain ⟨c,b,e⟩:=m;match b with
 | []=>exact h.less (Nat.le_succ n)
 | [f]=> have q:=h.less (Nat.le_succ n);exact ⟨q.i7,q.YQ,q.ml,q.pl,(fun f d=>by cases d),trivial,by simp [A6],(fun q=>by simp [A6] at q),by simp [A6]⟩
 | f::g::r=> have q:=h.set (aV n) (a:=f.answer) i;exact ⟨q.i7,q.YQ,q.ml,q.pl,fun x j=>q.fr x (bN _ j),q.YZ.2,by have:=q.Yl;simp [A6] at this⊢;omega,fun _=>by simp [A6],q.Yi⟩
theorem BM.Y9{P n m}(h:BM P n m):BM P n (A6 m DL):=by
 obtain ⟨c,a,e⟩:=m;match a with
 | []=>exact h
 | [f]=>exact ⟨h.i7,h.YQ,h.ml,h.pl,(fun f b=>by cases b),trivial,by simp [A6],(fun q=>by simp [A6] at q),by simp [A6]⟩
 | f::g::r=>
   have d:(c.set f.answer DL).Ys=c.Ys:=by simp [Co.set,DL]
   exact ⟨(EL h.i7 (GH _ _)).m,h.YQ.set _ _,by have:=h.ml;simp only [A6,Dy];exact this,by have:=h.pl;simp only [A6,d,Nn];exact this,fun x i=>by simp only [A6,Dy];exact h.fr x (bN _ i),by simp only [A6,Dy];exact h.YZ.2,by have:=h.Yl;simp [A6] at this⊢;omega,fun _=>by simp [A6],h.Yi⟩
theorem BM.norm{P:List PFn}{n:Nat}:∀(k:Nat) {m:Mc},BM P n m→BM P n (Bc P k m)
 | 0,_,h=>h
 | k+1,m,h=>by
   unfold Bc;split
   ·split
    ·exact h
    ·split
     ·exact h
     ·exact BM.norm k h.Y9
   ·exact h
theorem Ru{P:List PFn}(b:Gi P){c:Co}{f:Nat}(p:f<P.length)(h:DY c.i7)(d:List Vl):DY (c.enter f (AF P f).m9.length d).i7:=by
 have k:∀(l:List Vl) (a:Nat) (c:Co),DY c.i7→DY (CH l a c).i7:=by
  intro l;induction l with
  | nil=>intro a c h;exact h
  | cons v l j=>intro a c h;exact j _ _ (h.set a v)
 refine k _ _ _ (h.app (fun x g=>?_));obtain ⟨i,e,rfl⟩:=cG.1 g;have m:=List.mem_range.1 e;have n:=b.m9 f;have o:=b.Yx;exact ⟨by simp,by simp only;omega,by simp only;omega⟩
theorem IY(l):∀(a:Nat) (c:Co),(CH l a c).Yr=c.Yr:=by
 induction l with
 | nil=>intro a c;rfl
 | cons v l b=>intro a c;simp only [CH];rw [b];rfl
theorem LO(l):∀(a:Nat) (c:Co),(CH l a c).Ys.length≤c.Ys.length+l.length:=by
 induction l with
 | nil=>intro a c;simp [CH]
 | cons v l b=> intro a c;simp only [CH,aX];have d:=b (a+1) (c.set a v);have e:=No c a v;omega
theorem BM.Zk{P}(y:Gi P){n f s m a C}(u:C.i7=m.c.i7)(w:C.Ys=m.c.Ys)(H:C.Yr.length≤m.c.Yr.length+1)(h:BM P (n+1) m)(z:f<P.length)(l:∀v,v∈a→Cn P.length m.c.i7.length v)(L:a.length≤12)(o:m.u8=[]∨s<m.c.i7.length):BM P n (Bu P ⟨C,m.u8,m.Yi⟩ f a s):=by
 obtain ⟨c,G,e⟩:=m;simp only at u w H l o;have b:=h.i7;have d:=h.YQ;have B:=h.ml;have D:=h.pl;have i:=h.fr;have j:=h.YZ;have E:=h.Yl;have F:=h.Yi;simp only at b d B D i j E F;rw [←u] at b d B i j l o;rw [←w] at D;unfold Bu;simp only;split
 ·exact ⟨b,d,by simp only;omega,by simp only;omega,i,j,E,fun q=>by simp only at q;omega,by simp⟩
 ·rename_i K;obtain ⟨t,k⟩:=Kh b f (AF P f).m9.length l;have N:=y.m9 f;have A:=t.lo;have M:(C.enter f (AF P f).m9.length a).Ys.length≤C.Ys.length+a.length:=LO a C.i7.length (C.m9 f (AF P f).m9.length);have J:(C.enter f (AF P f).m9.length a).Yr=C.Yr:=IY _ _ _;refine ⟨t.m,Ru y z d a,by simp only [k];omega,by simp only [J];omega,?_,?_,by simp only [aX];omega,fun _=>by simp,F⟩
  ·intro x p;rcases cM.1 p with rfl | p
   ·exact ⟨z,by simp only [k];omega,bI _⟩
   ·exact (i x p).more A
  ·have I:=j.more A;cases G with
   | nil=>trivial
   | cons g r=>
     rcases o with q | q
     ·cases q
     ·exact ⟨by simp only [k];omega,I⟩
theorem BM.enter{P}(a:Gi P){n f ans m args}(h:BM P (n+1) m)(d:f<P.length)(b:∀v,v∈args→Cn P.length m.c.i7.length v)(e:args.length≤12)(c:m.u8=[]∨ans<m.c.i7.length):BM P n (Bu P m f args ans):=
 BM.Zk a (C:=m.c) rfl rfl (Nat.le_succ _) h d b e c
theorem BM.i8{P n k m f r}(h:BM P n m)(e:m.u8=f::r)(g:k≤(AF P f.fn).m8.length):BM P n {m with u8:={f with i8:=k}::r}:=by
 have a:=h.fr;have c:=h.YZ;have d:=h.Yl;rw [e] at a c d;refine ⟨h.i7,h.YQ,h.ml,h.pl,fun x b=>?_,Fq.head (f:=f) (f':={f with i8:=k}) rfl c,d,fun _=>by simp,h.Yi⟩;rcases cM.1 b with rfl | b
 ·have:=a f (by simp);exact ⟨this.fn,this.base,g⟩
 ·exact a x (bN _ b)
theorem VE{k p q f e g c b}(h:DY c.i7)(i:e≤4000)(a:FI k p q f e g c=some b):DY b.i7:=by
 unfold FI at a;split at a
 ·cases a;refine DY.set ?_ _ _;refine h.app (fun x d=>?_);simp only [cM,bU,or_false] at d;rcases d with rfl | rfl | rfl | rfl<;>exact ⟨by simp,by simp only;omega,by simp⟩
 ·split at a
  ·cases a;exact h.set _ _
  ·split at a
   ·split at a
    ·cases a;exact h.set _ _
    ·cases a
   ·split at a
    ·cases a;exact h.set _ _
    ·split at a
     ·split at a
      ·cases a;exact h.set _ _
      ·cases a
     ·split at a
      ·cases a;exact h.set _ _
      ·split at a
       ·split at a
        ·cases a;exact h.set _ _
        ·cases a
       ·cases a;exact h
theorem OJ{l i}(h:i<l.length):Jk l i∈l:=by unfold Jk;rw [aY h];exact bD _
theorem BM.step{P}(j:Gi P){n m f r}(h:BM P (n+1) m)(l:m.u8=f::r)(N:f.i8<(AF P f.fn).m8.length):BM P n (FE P m):=by
 have D:=h.fr f (by rw [l];simp);have b:=j.ok f.fn D.fn _ (OJ N);have U:=D.base;unfold FE;rw [l];simp only;obtain ⟨s,F⟩:∃s,Jk (AF P f.fn).m8 f.i8=s:=⟨_,rfl⟩;rw [F] at b⊢;have c:=h.i8 l b.i8;have B:∀v,v∈BZ m.c.i7 f.base s.args→Cn P.length m.c.i7.length v:=by intro v p;unfold BZ at p;obtain ⟨a,g,rfl⟩:=cG.1 p;have:=b.args a g;exact (h.i7.at_ (by omega)).2
 have A:∀i,(AF P i).p8=s.args.length→(BZ m.c.i7 f.base s.args).length≤12:=fun i X=>by simp only [BZ,bW];have:=j.YN i;have:=j.m9 i;omega
 split
 ·rename_i t;have:=b.tg (by omega) (by omega) (by omega) (by omega);exact c.enter j (b.func (.inr t)) B (A _ (b.many t)) (.inr (by simp only;omega))
 ·split
  ·rename_i J;have R:=b.tg (by omega) (by omega) (by omega) (by omega);have Y:=b.sr (by omega);split
   ·rename_i M;split
    ·exact (c.less (Nat.le_succ n)).stop (by decide) (by decide)
    ·rename_i V;have p:=(h.i7.at_ (i:=f.base+s.t9) (by omega)).2;have L:(Ak m.c.i7 (f.base+s.t9)).v.y6<P.length:=by
      rcases p with ⟨q,_⟩ | ⟨_,q⟩ | ⟨q,_⟩
      ·omega
      ·exact q
      ·omega
     exact BM.Zk j (m:={m with u8:={f with i8:=s.i8}::r}) (C:={m.c with Yr:=(s.Yp,(Ak m.c.i7 (f.base+s.t9)).v.y6)::m.c.Yr}) rfl rfl (by simp) c L B (A _ M.2) (.inr (by show _<m.c.i7.length;omega))
   ·exact (c.less (Nat.le_succ n)).stop (by decide) (by decide)
  ·split
   ·rename_i G;have:=b.sr (by omega);exact c.leave ((h.i7.at_ (by omega)).2)
   ·split
    ·have I:=h.i8 l (k:=if (D7 m.c.ch).1 then s.taken else s.i8) (by split;exact b.taken;exact b.i8);have d:=I.less (Nat.le_succ n);exact ⟨d.i7,d.YQ,d.ml,d.pl,d.fr,d.YZ,d.Yl,d.run,d.Yi⟩
    ·split
     ·rename_i w g;rename_i t J G T;by_cases y:s.kind=0
      ·have K:w=m.c:=by rw [y] at g;simpa [FI] using g.symm
       subst K
       exact c.less (Nat.le_succ n)
      ·have R:=b.tg y (by omega) (by omega) (by omega);have O:∃u,u<m.c.i7.length∧FI s.kind (f.base+s.Yf) u s.field s.Yp s.t9 m.c=some w:=by
        by_cases H:s.kind=1∨s.kind=4
        ·refine ⟨f.base+s.Yf,by omega,?_⟩;rw [←g];rcases H with e | e<;>simp [FI,e]
        ·have:=b.sr (by have:=b.kind;omega);exact ⟨f.base+s.t9,by omega,g⟩
       obtain ⟨u,Q,z⟩:=O;have o:=Pp h.i7 (by omega) Q (fun e=>b.func (.inl e)) (fun _=>b.field) (fun _=>b.Yp) z;have E:=o.lo;have W:=o.hi;have F:=o.se;exact ⟨o.m,VE h.YQ b.Yp z,by have:=h.ml;simp only;omega,by have:=h.pl;simp only;omega,fun x S=>(c.fr x S).more E,c.YZ.more E,c.Yl,c.run,c.Yi⟩
     ·exact (c.less (Nat.le_succ n)).stop (by decide) (by decide)
theorem BM.start{P}(c:Gi P){n f ch}(j:n≤5000)(d:f<P.length):WG P (n+1) ⟨⟨[],ch,[],[]⟩,[],1⟩∧BM P n (Bu P ⟨⟨[],ch,[],[]⟩,[],1⟩ f [] 0):=by have b:BM P (n+1) ⟨⟨[],ch,[],[]⟩,[],2⟩:=⟨⟨fun i h=>dC h (Nat.not_lt_zero _),fun i h=>dC h (Nat.not_lt_zero _)⟩,fun i h=>dC h (Nat.not_lt_zero _),by simp;omega,by simp;omega,fun x g=>dC g (bU),trivial,by simp,fun q=>by simp at q,by simp⟩;have a:=b.enter c (f:=f) (args:=[]) (ans:=0) d (fun v e=>dC e (bU)) (by simp) (.inl rfl);refine ⟨⟨b.i7,b.YQ,b.ml,b.pl⟩,?_⟩;unfold Bu at a⊢;simp only [bM,show¬(40:Nat)≤0 by omega,if_false] at a⊢;exact ⟨a.i7,a.YQ,a.ml,a.pl,a.fr,a.YZ,a.Yl,fun _=>by simp,by simp⟩
end Go.Proofs.YthppbgndiplgnaaGreatDoor

/- One of the texts of the proof of texts_card_holds: TrB TrC TrD. -/
import Derived.Test.YtmaankfbhhbeoaaGreatDoorG02
set_option maxRecDepth 100000
set_option maxHeartbeats 1000000
namespace Go.Proofs.YtmaankfbhhbeoaaGreatDoor
open Go.RowKit
def F9(t:PT):Nat:=if t.d9.toList=[49] then 1 else if t.d9.toList=[50] then 2 else if t.d9.toList=[51] then 3 else 0
def Bi(d:Nat)(h:World):Prop:=∀(b g n a:Nat) (x:PS) (c:List PT) (w:World),d≤b→Below d h w→AH b g n a x w→AI g n a c w→x.d8<n→
 Calls Tryz.prog 84 #[.pointer (some ⟨b,0,none⟩)] w fun e f=>e=.returned (.int .i64 (F9 (Av c 2 x)))∧AH b g n a (Ae c n 2 x) f∧Ab (fun k=>k=b) w f
theorem Ab.keeps{a b d w c}(h:Below a d w)(f:Ab (fun k=>k=b) w c)(e:a≤w.heap.size)(g:a≤b):Below a d c:=h.trans (f.s7 e (fun k i=>by omega))
def Df(a:List PT)(n:Nat)(x:PS):VS×PS:=
 let b:=Ae a n 16 x
 let c:=Ae a n 1 b
 if (Ah a c.d8).kind=19 then
  let d:=Ae a n 19 c
  (⟨3,A7,Av a 1 b,F9 (Av a 2 d),[]⟩,Ae a n 2 d)
 else (⟨2,A7,Av a 1 b,0,[]⟩,c)
theorem Ic(O a0)(hF:Bi O a0)(b g n l D d w)(hb:O≤b)(V:Below O a0 w)(hB:O≤w.heap.size)(f:AH b g n l D w)(Z:AI g n l d w)(W:D.d8<n)(L:(Ah d (n-1)).kind=0):
 Calls Tryz.prog 82 #[.pointer (some ⟨b,0,none⟩)] w fun e w'=>DW b g n l w (Df d n D) e w':=by
 obtain ⟨N,E⟩:∃y,Ae d n 16 D=y:=⟨_,rfl⟩;obtain ⟨p,F⟩:∃y,Ae d n 1 N=y:=⟨_,rfl⟩;obtain ⟨j,M⟩:∃y,Av d 1 N=y:=⟨_,rfl⟩;obtain ⟨U,I⟩:∃y,Ae d n 19 p=y:=⟨_,rfl⟩;obtain ⟨x4,Q⟩:∃y,Ae d n 2 U=y:=⟨_,rfl⟩;obtain ⟨d4,T⟩:∃y,F9 (Av d 2 U)=y:=⟨_,rfl⟩;have Y:N.d8<n:=by rw [←E];exact AE L W
 have S:p.d8<n:=by rw [←F];exact AE L Y
 have a1:U.d8<n:=by rw [←I];exact AE L S
 have r:=Aa (Fw.start f Z);have HG:=Aa V;have HF:=Aa hF;have X1:=Aa E;have X2:=Aa F;have K2:=Aa M;have X3:=Aa I;have X4:=Aa Q;have K4:=Aa T;by_cases J:(Ah d p.d8).kind=19
 ·have K:Df d n D=(⟨3,A7,j,d4,[]⟩,x4):=by simp only [Df,E,F,M,I,T,Q,if_pos J]
  rw [K];have a2:(((Ah d p.d8).kind:Int) !=19)=false:=by simp [J]
  clear E F M I Q T K L f Z J V hF;go_enter Tryz.func82,Tryz.ntmps82;go_wp2_with fail;refine (Au b g n l 16 D d _ r.o.pa r.o.pt W).mono ?_;rw [X1.o];rintro e w1 ⟨rfl,f,c⟩;have m:=Aa (r.o.call f c);clear f c r;go_wp2_with fail;refine (Bq b g n l N d _ m.o.pa m.o.pt Y).mono ?_;rw [X2.o,K2.o];rintro e w2 ⟨rfl,f,c⟩;have a:=Aa (m.o.call f c);clear f c m;unfold Fu;have a3:=Ad a.o.pa;have G:=Aa (Aq.new w2 #[.string j.d9,.int .i64 j.f8] 120);have o:=Aa (a.o.quiet ((Ab.refl _ _).alloc (.cells #[.string j.d9,.int .i64 j.f8] 120)));clear a;go_wp2_with fail;refine (AJ b g n l p d _ o.o.pa o.o.pt S).mono ?_;rintro e wk ⟨rfl,c⟩;have a:=Aa (o.o.quiet c);have H:=Aa (G.o.d7 c (fun q=>q));clear c o G;go_wp2_with fail;refine (Au b g n l 19 p d _ a.o.pa a.o.pt S).mono ?_;rw [X3.o];rintro e w3 ⟨rfl,f,c⟩;have h:=Aa (a.o.call f c);have P:=Aa (H.o.d7 c (by omega));clear f c a H;have n0:=P.o.cell 0;have n1:=P.o.cell 1;simp only [Ni,Ng,Nh] at n0 n1;have l3:=Ad P.o;have a6:=h.o.d7.size;have s:=h.o.i8.cell 0;have t:=h.o.i8.cell 1;have u:=h.o.i8.cell 2;have x:=h.o.i8.cell 3;have z:=h.o.i8.cell 4;have A:=h.o.i8.cell 5;have B:=h.o.i8.cell 6;have C:=h.o.i8.cell 7;have qf:=h.o.i8.frozen;have ql:=Ad h.o.i8;simp only [Ni,Ng,Nh] at s t u x z A B C;go_wp2_with fail;go_region_with (go_at_call 84;refine (HF.o b g n l U d _ hb (Ab.keeps HG.o (h.o.quiet (by repeat (first | exact Ab.refl _ _ | refine Ab.drew ?_ | refine Ab.drewN ?_ _ | refine Ab.alloc ?_ _))).d7 hB hb) (h.o.quiet (by repeat (first | exact Ab.refl _ _ | refine Ab.drew ?_ | refine Ab.drewN ?_ _ | refine Ab.alloc ?_ _))).pa (h.o.quiet (by repeat (first | exact Ab.refl _ _ | refine Ab.drew ?_ | refine Ab.drewN ?_ _ | refine Ab.alloc ?_ _))).pt a1).mono ?_;rw [X4.o,K4.o];rintro e w5 ⟨rfl,f,c⟩;have i:=Aa ((h.o.quiet (by repeat (first | exact Ab.refl _ _ | refine Ab.drew ?_ | refine Ab.drewN ?_ _ | refine Ab.alloc ?_ _))).call f c);have B5:=Aa ((Aq.d7 (X:=fun _=>False) P.o (by repeat (first | exact Ab.refl _ _ | refine Ab.drew ?_ | refine Ab.drewN ?_ _ | refine Ab.alloc ?_ _)) (fun q=>q)).d7 c (by omega));have a4:=B5.o.cell 0;have a5:=B5.o.cell 1;simp only [Ni,Ng,Nh] at a4 a5;clear f c s t u x z A B C qf ql;have s:=i.o.i8.cell 0;have t:=i.o.i8.cell 1;have u:=i.o.i8.cell 2;have x:=i.o.i8.cell 3;have z:=i.o.i8.cell 4;have A:=i.o.i8.cell 5;have B:=i.o.i8.cell 6;have C:=i.o.i8.cell 7;have qf:=i.o.i8.frozen;have ql:=Ad i.o.i8;simp only [Ni,Ng,Nh] at s t u x z A B C);all_goals
   go_wp2;have R:w5.ownsRow w.heap.size 120 2 (.slice none 0 0) 0 []:=World.ownsRow_nil _ _ _ _;refine bodyPost_ret (v:=.agg (DN ⟨3,A7,j,d4,[]⟩ (.slice none 0 0))) (by simp [results,Tryz.results82,go_sem,DN,A7,s,t,u,x,z,A,B,C];try rfl) rfl ⟨(.slice none 0 0),rfl,?_,?_,?_⟩
   ·refine Ac (X:=fun k=>k=w.heap.size) R ?_ (Az R i.o.i8 (by decide));iterate 8 refine Ab.i7 ?_ _ _
    exact Ab.refl _ _
   ·refine Aq.d7 (X:=fun k=>k=w.heap.size) i.o.pa ?_ (by have:=i.o.bl;omega);iterate 8 refine Ab.i7 ?_ _ _
    exact Ab.refl _ _
   ·iterate 8 refine Ab.l9 ?_ _ _ (Nat.le_refl _)
    exact i.o.d7
 ·have K:Df d n D=(⟨2,A7,j,0,[]⟩,p):=by simp only [Df,E,F,M,if_neg J]
  rw [K];have a2:(((Ah d p.d8).kind:Int) !=19)=true:=by simp;omega
  clear E F M I Q T K L f Z J V hF;go_enter Tryz.func82,Tryz.ntmps82;go_wp2_with fail;refine (Au b g n l 16 D d _ r.o.pa r.o.pt W).mono ?_;rw [X1.o];rintro e w1 ⟨rfl,f,c⟩;have m:=Aa (r.o.call f c);clear f c r;go_wp2_with fail;refine (Bq b g n l N d _ m.o.pa m.o.pt Y).mono ?_;rw [X2.o,K2.o];rintro e w2 ⟨rfl,f,c⟩;have a:=Aa (m.o.call f c);clear f c m;unfold Fu;have a3:=Ad a.o.pa;have G:=Aa (Aq.new w2 #[.string j.d9,.int .i64 j.f8] 120);have o:=Aa (a.o.quiet ((Ab.refl _ _).alloc (.cells #[.string j.d9,.int .i64 j.f8] 120)));clear a;go_wp2_with fail;refine (AJ b g n l p d _ o.o.pa o.o.pt S).mono ?_;rintro e wk ⟨rfl,c⟩;have a:=Aa (o.o.quiet c);have H:=Aa (G.o.d7 c (fun q=>q));clear c o G;have n0:=H.o.cell 0;have n1:=H.o.cell 1;simp only [Ni,Ng,Nh] at n0 n1;have s:=a.o.i8.cell 0;have t:=a.o.i8.cell 1;have u:=a.o.i8.cell 2;have x:=a.o.i8.cell 3;have z:=a.o.i8.cell 4;have A:=a.o.i8.cell 5;have B:=a.o.i8.cell 6;have C:=a.o.i8.cell 7;have qf:=a.o.i8.frozen;have ql:=Ad a.o.i8;simp only [Ni,Ng,Nh] at s t u x z A B C;go_wp2;have R:wk.ownsRow w.heap.size 120 2 (.slice none 0 0) 0 []:=World.ownsRow_nil _ _ _ _;refine bodyPost_ret (v:=.agg (DN ⟨2,A7,j,0,[]⟩ (.slice none 0 0))) (by simp [results,Tryz.results82,go_sem,DN,A7,s,t,u,x,z,A,B,C];try rfl) rfl ⟨(.slice none 0 0),rfl,?_,?_,?_⟩
  ·refine Ac (X:=fun k=>k=w.heap.size) R ?_ (Az R a.o.i8 (by decide));iterate 8 refine Ab.i7 ?_ _ _
   exact Ab.refl _ _
  ·refine Aq.d7 (X:=fun k=>k=w.heap.size) a.o.pa ?_ (by have:=a.o.bl;omega);iterate 8 refine Ab.i7 ?_ _ _
   exact Ab.refl _ _
  ·iterate 8 refine Ab.l9 ?_ _ _ (Nat.le_refl _)
   exact a.o.d7
def Bm(a:List PT)(n:Nat)(x:PS):VS×PS:=
 if (Ah a x.d8).kind=5 then (⟨1,A7,A7,0,[]⟩,Ae a n 5 x)
 else if (Ah a x.d8).kind=16 then Df a n x
 else if (Ah a x.d8).kind=17 then (⟨5,A7,Av a 1 (Ae a n 17 x),0,[]⟩,Ae a n 1 (Ae a n 17 x))
 else if (Ah a x.d8).kind=18 then (⟨4,A7,Av a 1 (Ae a n 18 x),0,[]⟩,Ae a n 1 (Ae a n 18 x))
 else if (Ah a x.d8).kind=10 then EE a n x
 else if (Ah a (Ae a n 1 x).d8).kind=10 then (⟨7,A7,Av a 1 x,0,(A0 a n (Ae a n 1 x)).1⟩,(A0 a n (Ae a n 1 x)).2)
 else (⟨6,A7,Av a 1 x,0,[]⟩,Ae a n 1 x)
theorem Kp(b g n h d f w)(j:AH b g n h d w)(q:AI g n h f w)(p:d.d8<n)(m:(Ah f d.d8).kind=5):
 Calls Tryz.prog 81 #[.pointer (some ⟨b,0,none⟩)] w fun e F=>DW b g n h w (Bm f n d) e F:=by
 obtain ⟨H,l⟩:∃y,Ae f n 5 d=y:=⟨_,rfl⟩;have r:Bm f n d=(⟨1,A7,A7,0,[]⟩,H):=by simp only [Bm,if_pos m,l]
 rw [r];have c:=Aa (Fw.start j q);have D:=Aa m;have E:=Aa l;clear l r j q m;go_enter Tryz.func81,Tryz.ntmps81;go_wp2_with fail;refine (AJ b g n h d f _ c.o.pa c.o.pt p).mono ?_;rw [D.o];rintro e K ⟨rfl,i⟩;have o:=Aa (c.o.quiet i);clear i c;have c:=o;clear o;go_wp2_with fail;refine (Au b g n h 5 d f _ c.o.pa c.o.pt p).mono ?_;rw [E.o];rintro e G ⟨rfl,j,i⟩;have a:=Aa (c.o.call j i);clear j i c;have s:=a.o.i8.cell 0;have t:=a.o.i8.cell 1;have u:=a.o.i8.cell 2;have x:=a.o.i8.cell 3;have z:=a.o.i8.cell 4;have A:=a.o.i8.cell 5;have B:=a.o.i8.cell 6;have C:=a.o.i8.cell 7;have I:=a.o.i8.frozen;have J:=Ad a.o.i8;simp only [Ni,Ng,Nh] at s t u x z A B C;go_wp2;have R:G.ownsRow w.heap.size 120 2 (.slice none 0 0) 0 []:=World.ownsRow_nil _ _ _ _;refine bodyPost_ret (v:=.agg (DN ⟨1,A7,A7,0,[]⟩ (.slice none 0 0))) (by simp [results,Tryz.results81,go_sem,DN,A7,s,t,u,x,z,A,B,C];try rfl) rfl ⟨(.slice none 0 0),rfl,?_,?_,?_⟩
 ·refine Ac (X:=fun k=>k=w.heap.size) R ?_ (Az R a.o.i8 (by decide));iterate 8 refine Ab.i7 ?_ _ _
  exact Ab.refl _ _
 ·refine Aq.d7 (X:=fun k=>k=w.heap.size) a.o.pa ?_ (by have:=a.o.bl;omega);iterate 8 refine Ab.i7 ?_ _ _
  exact Ab.refl _ _
 ·iterate 8 refine Ab.l9 ?_ _ _ (Nat.le_refl _)
  exact a.o.d7
theorem Hi(b g n l i d w)(h:AH b g n l i w)(H:AI g n l d w)(s:i.d8<n)(I:(Ah d (n-1)).kind=0)(o:(Ah d i.d8).kind=17∨(Ah d i.d8).kind=18):
 Calls Tryz.prog 81 #[.pointer (some ⟨b,0,none⟩)] w fun e T=>DW b g n l w (Bm d n i) e T:=by
 rcases o with o | o
 ·obtain ⟨p,m⟩:∃y,Ae d n 17 i=y:=⟨_,rfl⟩;obtain ⟨P,q⟩:∃y,Ae d n 1 p=y:=⟨_,rfl⟩;obtain ⟨G,r⟩:∃y,Av d 1 p=y:=⟨_,rfl⟩;have u:Bm d n i=(⟨5,A7,G,0,[]⟩,P):=by simp [Bm,o,m,q,r]
  rw [u];have N:p.d8<n:=by rw [←m];exact AE I s
  have c:=Aa (Fw.start h H);have J:=Aa o;have L:=Aa m;have M:=Aa q;have K:=Aa r;clear m q r u h H o I;go_enter Tryz.func81,Tryz.ntmps81;go_wp2_with fail;refine (AJ b g n l i d _ c.o.pa c.o.pt s).mono ?_;rw [J.o];rintro e U ⟨rfl,f⟩;have t:=Aa (c.o.quiet f);clear f c;have c:=t;clear t;go_wp2_with fail;refine (Au b g n l 17 i d _ c.o.pa c.o.pt s).mono ?_;rw [L.o];rintro e V ⟨rfl,h,f⟩;have j:=Aa (c.o.call h f);clear h f c;go_wp2_with fail;refine (Bq b g n l p d _ j.o.pa j.o.pt N).mono ?_;rw [M.o,K.o];rintro e O ⟨rfl,h,f⟩;have a:=Aa (j.o.call h f);clear h f j;have x:=a.o.i8.cell 0;have z:=a.o.i8.cell 1;have A:=a.o.i8.cell 2;have B:=a.o.i8.cell 3;have C:=a.o.i8.cell 4;have D:=a.o.i8.cell 5;have E:=a.o.i8.cell 6;have F:=a.o.i8.cell 7;have Q:=a.o.i8.frozen;have S:=Ad a.o.i8;simp only [Ni,Ng,Nh] at x z A B C D E F;unfold Fu;go_wp2;have R:O.ownsRow w.heap.size 120 2 (.slice none 0 0) 0 []:=World.ownsRow_nil _ _ _ _;refine bodyPost_ret (v:=.agg (DN ⟨5,A7,G,0,[]⟩ (.slice none 0 0))) (by simp [results,Tryz.results81,go_sem,DN,A7,x,z,A,B,C,D,E,F];try rfl) rfl ⟨(.slice none 0 0),rfl,?_,?_,?_⟩
  ·refine Ac (X:=fun k=>k=w.heap.size) R ?_ (Az R a.o.i8 (by decide));iterate 8 refine Ab.i7 ?_ _ _
   exact Ab.refl _ _
  ·refine Aq.d7 (X:=fun k=>k=w.heap.size) a.o.pa ?_ (by have:=a.o.bl;omega);iterate 8 refine Ab.i7 ?_ _ _
   exact Ab.refl _ _
  ·iterate 8 refine Ab.l9 ?_ _ _ (Nat.le_refl _)
   exact a.o.d7
 ·obtain ⟨p,m⟩:∃y,Ae d n 18 i=y:=⟨_,rfl⟩;obtain ⟨P,q⟩:∃y,Ae d n 1 p=y:=⟨_,rfl⟩;obtain ⟨G,r⟩:∃y,Av d 1 p=y:=⟨_,rfl⟩;have u:Bm d n i=(⟨4,A7,G,0,[]⟩,P):=by simp [Bm,o,m,q,r]
  rw [u];have N:p.d8<n:=by rw [←m];exact AE I s
  have c:=Aa (Fw.start h H);have J:=Aa o;have L:=Aa m;have M:=Aa q;have K:=Aa r;clear m q r u h H o I;go_enter Tryz.func81,Tryz.ntmps81;go_wp2_with fail;refine (AJ b g n l i d _ c.o.pa c.o.pt s).mono ?_;rw [J.o];rintro e U ⟨rfl,f⟩;have t:=Aa (c.o.quiet f);clear f c;have c:=t;clear t;go_wp2_with fail;refine (Au b g n l 18 i d _ c.o.pa c.o.pt s).mono ?_;rw [L.o];rintro e V ⟨rfl,h,f⟩;have j:=Aa (c.o.call h f);clear h f c;go_wp2_with fail;refine (Bq b g n l p d _ j.o.pa j.o.pt N).mono ?_;rw [M.o,K.o];rintro e O ⟨rfl,h,f⟩;have a:=Aa (j.o.call h f);clear h f j;have x:=a.o.i8.cell 0;have z:=a.o.i8.cell 1;have A:=a.o.i8.cell 2;have B:=a.o.i8.cell 3;have C:=a.o.i8.cell 4;have D:=a.o.i8.cell 5;have E:=a.o.i8.cell 6;have F:=a.o.i8.cell 7;have Q:=a.o.i8.frozen;have S:=Ad a.o.i8;simp only [Ni,Ng,Nh] at x z A B C D E F;unfold Fu;go_wp2;have R:O.ownsRow w.heap.size 120 2 (.slice none 0 0) 0 []:=World.ownsRow_nil _ _ _ _;refine bodyPost_ret (v:=.agg (DN ⟨4,A7,G,0,[]⟩ (.slice none 0 0))) (by simp [results,Tryz.results81,go_sem,DN,A7,x,z,A,B,C,D,E,F];try rfl) rfl ⟨(.slice none 0 0),rfl,?_,?_,?_⟩
  ·refine Ac (X:=fun k=>k=w.heap.size) R ?_ (Az R a.o.i8 (by decide));iterate 8 refine Ab.i7 ?_ _ _
   exact Ab.refl _ _
  ·refine Aq.d7 (X:=fun k=>k=w.heap.size) a.o.pa ?_ (by have:=a.o.bl;omega);iterate 8 refine Ab.i7 ?_ _ _
   exact Ab.refl _ _
  ·iterate 8 refine Ab.l9 ?_ _ _ (Nat.le_refl _)
   exact a.o.d7
theorem Hh(p P)(hF:Bi p P)(b g n l f d w)(S:p≤b)(N:Below p P w)(W:p≤w.heap.size)(i:AH b g n l f w)(K:AI g n l d w)(J:f.d8<n)(O:(Ah d (n-1)).kind=0)(j:(Ah d f.d8).kind=16∨(Ah d f.d8).kind=10):
 Calls Tryz.prog 81 #[.pointer (some ⟨b,0,none⟩)] w fun e w'=>DW b g n l w (Bm d n f) e w':=by
 have U:=Aa N;have T:=Aa hF;have R:=Aa O;rcases j with j | j
 ·obtain ⟨F,Q,m⟩:∃s y,Df d n f=(s,y):=⟨_,_,rfl⟩;have t:Bm d n f=(F,Q):=by simp [Bm,j,m]
  rw [t];have c:=Aa (Fw.start i K);have L:=Aa j;have M:=Aa m;clear m t i K j O N hF;go_enter Tryz.func81,Tryz.ntmps81;go_wp2_with fail;refine (AJ b g n l f d _ c.o.pa c.o.pt J).mono ?_;rw [L.o];rintro e w0 ⟨rfl,h⟩;have q:=Aa (c.o.quiet h);clear h c;have c:=q;clear q;have Y:=c.o.d7.size;go_wp2_with fail;refine (Ic p P T.o b g n l f d _ S (Ab.keeps U.o c.o.d7 W S) (by omega) c.o.pa c.o.pt J R.o).mono ?_;rw [M.o];rintro e w1 ⟨V,rfl,o,i,h⟩;obtain ⟨G,I,H,rfl⟩:=Af o;have a:=Aa (c.o.call i h);have r:=Aa (Ar o (B':=w.heap.size) (by omega));clear i h o c;have u:=a.o.i8.cell 0;have x:=a.o.i8.cell 1;have z:=a.o.i8.cell 2;have A:=a.o.i8.cell 3;have B:=a.o.i8.cell 4;have C:=a.o.i8.cell 5;have D:=a.o.i8.cell 6;have E:=a.o.i8.cell 7;have Z:=a.o.i8.frozen;have ql:=Ad a.o.i8;simp only [Ni,Ng,Nh] at u x z A B C D E;unfold DN;go_wp2;refine bodyPost_ret (v:=.agg (DN F (.slice G I H))) (by simp [results,Tryz.results81,go_sem,DN,u,x,z,A,B,C,D,E]) rfl ⟨(.slice G I H),rfl,?_,?_,?_⟩
  ·refine Ac (X:=fun k=>k=w.heap.size) r.o ?_ (Az r.o a.o.i8 (by decide));iterate 8 refine Ab.i7 ?_ _ _
   exact Ab.refl _ _
  ·refine Aq.d7 (X:=fun k=>k=w.heap.size) a.o.pa ?_ (by have:=a.o.bl;omega);iterate 8 refine Ab.i7 ?_ _ _
   exact Ab.refl _ _
  ·iterate 8 refine Ab.l9 ?_ _ _ (Nat.le_refl _)
   exact a.o.d7
 ·obtain ⟨F,Q,m⟩:∃s y,EE d n f=(s,y):=⟨_,_,rfl⟩;have t:Bm d n f=(F,Q):=by simp [Bm,j,m]
  rw [t];have c:=Aa (Fw.start i K);have L:=Aa j;have M:=Aa m;clear m t i K j O N hF;go_enter Tryz.func81,Tryz.ntmps81;go_wp2_with fail;refine (AJ b g n l f d _ c.o.pa c.o.pt J).mono ?_;rw [L.o];rintro e w0 ⟨rfl,h⟩;have q:=Aa (c.o.quiet h);clear h c;have c:=q;clear q;have Y:=c.o.d7.size;go_wp2_with fail;refine (Ft b g n l f d _ c.o.pa c.o.pt J R.o).mono ?_;rw [M.o];rintro e w1 ⟨V,rfl,o,i,h⟩;obtain ⟨G,I,H,rfl⟩:=Af o;have a:=Aa (c.o.call i h);have r:=Aa (Ar o (B':=w.heap.size) (by omega));clear i h o c;have u:=a.o.i8.cell 0;have x:=a.o.i8.cell 1;have z:=a.o.i8.cell 2;have A:=a.o.i8.cell 3;have B:=a.o.i8.cell 4;have C:=a.o.i8.cell 5;have D:=a.o.i8.cell 6;have E:=a.o.i8.cell 7;have Z:=a.o.i8.frozen;have ql:=Ad a.o.i8;simp only [Ni,Ng,Nh] at u x z A B C D E;unfold DN;go_wp2;refine bodyPost_ret (v:=.agg (DN F (.slice G I H))) (by simp [results,Tryz.results81,go_sem,DN,u,x,z,A,B,C,D,E]) rfl ⟨(.slice G I H),rfl,?_,?_,?_⟩
  ·refine Ac (X:=fun k=>k=w.heap.size) r.o ?_ (Az r.o a.o.i8 (by decide));iterate 8 refine Ab.i7 ?_ _ _
   exact Ab.refl _ _
  ·refine Aq.d7 (X:=fun k=>k=w.heap.size) a.o.pa ?_ (by have:=a.o.bl;omega);iterate 8 refine Ab.i7 ?_ _ _
   exact Ab.refl _ _
  ·iterate 8 refine Ab.l9 ?_ _ _ (Nat.le_refl _)
   exact a.o.d7
theorem JA(b g n o:Nat)(h:PS)(c:List PT)(w:World)(m:AH b g n o h w)(ht:AI g n o c w)(G:h.d8<n)(O:(Ah c (n-1)).kind=0)
 (V:(Ah c h.d8).kind≠5)(S:(Ah c h.d8).kind≠16)(T:(Ah c h.d8).kind≠17)(U:(Ah c h.d8).kind≠18)(Q:(Ah c h.d8).kind≠10):
 Calls Tryz.prog 81 #[.pointer (some ⟨b,0,none⟩)] w fun e w'=>DW b g n o w (Bm c n h) e w':=by
 obtain ⟨p,J⟩:∃y,Ae c n 1 h=y:=⟨_,rfl⟩;obtain ⟨j,P⟩:∃y,Av c 1 h=y:=⟨_,rfl⟩;obtain ⟨l2,x2,K⟩:∃l y,A0 c n p=(l,y):=⟨_,_,rfl⟩;have L:p.d8<n:=by rw [←J];exact AE O G
 have f:=Aa (Fw.start m ht);have X1:=Aa J;have X2:=Aa K;have K1:=Aa P;have HZ:=Aa O;have hv:Bm c n h=if (Ah c p.d8).kind=10 then (⟨7,A7,j,0,l2⟩,x2) else (⟨6,A7,j,0,[]⟩,p):=by simp [Bm,V,S,T,U,Q,J,K,P]
 rw [hv];obtain ⟨I,M⟩:∃k,(Ah c h.d8).kind=k:=⟨_,rfl⟩;rw [M] at V S T U Q;have HK:=Aa M;have j5:((I:Int)==5)=false:=by simp;omega
 have a5:((I:Int)==16)=false:=by simp;omega
 have a6:((I:Int)==17)=false:=by simp;omega
 have a7:((I:Int)==18)=false:=by simp;omega
 have a4:((I:Int)==10)=false:=by simp;omega
 clear J K P hv m ht O M V S T U Q;by_cases H:(Ah c p.d8).kind=10
 ·rw [if_pos H];have a0:(((Ah c p.d8).kind:Int)==10)=true:=by simp [H]
  clear H;go_enter Tryz.func81,Tryz.ntmps81;go_wp2_with fail;refine (AJ b g n o h c _ f.o.pa f.o.pt G).mono ?_;rw [HK.o];rintro e w0 ⟨rfl,d⟩;have F:=Aa (f.o.quiet d);clear d f;have f:=F;clear F;go_wp2_with fail;refine (Bq b g n o h c _ f.o.pa f.o.pt G).mono ?_;rw [X1.o,K1.o];rintro e w1 ⟨rfl,m,d⟩;have a:=Aa (f.o.call m d);clear m d f;unfold Fu;have a1:=Ad a.o.pa;have E:=Aa (Aq.new w1 #[.string j.d9,.int .i64 j.f8] 120);have r:=Aa (a.o.quiet ((Ab.refl _ _).alloc (.cells #[.string j.d9,.int .i64 j.f8] 120)));clear a;go_wp2_with fail;refine (AJ b g n o p c _ r.o.pa r.o.pt L).mono ?_;rintro e wk ⟨rfl,d⟩;have a:=Aa (r.o.quiet d);have s:=Aa (E.o.d7 d (fun q=>q));clear d r E;have W:=s.o.cell 0;have Y:=s.o.cell 1;simp only [Ni,Ng,Nh] at W Y;have l1:=Ad s.o;have t:=a.o.i8.cell 0;have u:=a.o.i8.cell 1;have x:=a.o.i8.cell 2;have z:=a.o.i8.cell 3;have A:=a.o.i8.cell 4;have B:=a.o.i8.cell 5;have C:=a.o.i8.cell 6;have D:=a.o.i8.cell 7;have Z:=a.o.i8.frozen;have ql:=Ad a.o.i8;simp only [Ni,Ng,Nh] at t u x z A B C D;go_wp2_with fail;go_region_with (go_at_call 65;refine (E9 b g n o p c _ (a.o.quiet (by repeat (first | exact Ab.refl _ _ | refine Ab.drew ?_ | refine Ab.drewN ?_ _ | refine Ab.alloc ?_ _))).pa (a.o.quiet (by repeat (first | exact Ab.refl _ _ | refine Ab.drew ?_ | refine Ab.drewN ?_ _ | refine Ab.alloc ?_ _))).pt L HZ.o).mono ?_;rw [X2.o];rintro e w5 ⟨v5,rfl,N,m,d⟩;obtain ⟨va,vl,vc,rfl⟩:=Af N;have i:=Aa ((a.o.quiet (by repeat (first | exact Ab.refl _ _ | refine Ab.drew ?_ | refine Ab.drewN ?_ _ | refine Ab.alloc ?_ _))).call m d);have B5:=Aa ((Aq.d7 (X:=fun _=>False) s.o (by repeat (first | exact Ab.refl _ _ | refine Ab.drew ?_ | refine Ab.drewN ?_ _ | refine Ab.alloc ?_ _)) (fun q=>q)).d7 d (by omega));have HW:=Aa (Ar N (B':=w.heap.size) (by have:=a.o.d7.size;simp;omega));have a2:=B5.o.cell 0;have a3:=B5.o.cell 1;simp only [Ni,Ng,Nh] at a2 a3;clear m d N t u x z A B C D Z ql;have t:=i.o.i8.cell 0;have u:=i.o.i8.cell 1;have x:=i.o.i8.cell 2;have z:=i.o.i8.cell 3;have A:=i.o.i8.cell 4;have B:=i.o.i8.cell 5;have C:=i.o.i8.cell 6;have D:=i.o.i8.cell 7;have Z:=i.o.i8.frozen;have ql:=Ad i.o.i8;simp only [Ni,Ng,Nh] at t u x z A B C D);all_goals
   go_wp2;refine bodyPost_ret (v:=.agg (DN ⟨7,A7,j,0,l2⟩ (.slice va vl vc))) (by simp [results,Tryz.results81,go_sem,DN,A7,t,u,x,z,A,B,C,D];try rfl) rfl ⟨(.slice va vl vc),rfl,?_,?_,?_⟩
   ·refine Ac (X:=fun k=>k=w.heap.size) HW.o ?_ (Az HW.o i.o.i8 (by decide));iterate 8 refine Ab.i7 ?_ _ _
    exact Ab.refl _ _
   ·refine Aq.d7 (X:=fun k=>k=w.heap.size) i.o.pa ?_ (by have:=i.o.bl;omega);iterate 8 refine Ab.i7 ?_ _ _
    exact Ab.refl _ _
   ·iterate 8 refine Ab.l9 ?_ _ _ (Nat.le_refl _)
    exact i.o.d7
 ·rw [if_neg H];have a0:(((Ah c p.d8).kind:Int)==10)=false:=by simp;omega
  clear H;go_enter Tryz.func81,Tryz.ntmps81;go_wp2_with fail;refine (AJ b g n o h c _ f.o.pa f.o.pt G).mono ?_;rw [HK.o];rintro e w0 ⟨rfl,d⟩;have F:=Aa (f.o.quiet d);clear d f;have f:=F;clear F;go_wp2_with fail;refine (Bq b g n o h c _ f.o.pa f.o.pt G).mono ?_;rw [X1.o,K1.o];rintro e w1 ⟨rfl,m,d⟩;have a:=Aa (f.o.call m d);clear m d f;unfold Fu;have a1:=Ad a.o.pa;have E:=Aa (Aq.new w1 #[.string j.d9,.int .i64 j.f8] 120);have r:=Aa (a.o.quiet ((Ab.refl _ _).alloc (.cells #[.string j.d9,.int .i64 j.f8] 120)));clear a;go_wp2_with fail;refine (AJ b g n o p c _ r.o.pa r.o.pt L).mono ?_;rintro e wk ⟨rfl,d⟩;have a:=Aa (r.o.quiet d);have s:=Aa (E.o.d7 d (fun q=>q));clear d r E;have W:=s.o.cell 0;have Y:=s.o.cell 1;simp only [Ni,Ng,Nh] at W Y;have l1:=Ad s.o;have t:=a.o.i8.cell 0;have u:=a.o.i8.cell 1;have x:=a.o.i8.cell 2;have z:=a.o.i8.cell 3;have A:=a.o.i8.cell 4;have B:=a.o.i8.cell 5;have C:=a.o.i8.cell 6;have D:=a.o.i8.cell 7;have Z:=a.o.i8.frozen;have ql:=Ad a.o.i8;simp only [Ni,Ng,Nh] at t u x z A B C D;go_wp2;have R:wk.ownsRow w.heap.size 120 2 (.slice none 0 0) 0 []:=World.ownsRow_nil _ _ _ _;refine bodyPost_ret (v:=.agg (DN ⟨6,A7,j,0,[]⟩ (.slice none 0 0))) (by simp [results,Tryz.results81,go_sem,DN,A7,t,u,x,z,A,B,C,D];try rfl) rfl ⟨(.slice none 0 0),rfl,?_,?_,?_⟩
  ·refine Ac (X:=fun k=>k=w.heap.size) R ?_ (Az R a.o.i8 (by decide));iterate 8 refine Ab.i7 ?_ _ _
   exact Ab.refl _ _
  ·refine Aq.d7 (X:=fun k=>k=w.heap.size) a.o.pa ?_ (by have:=a.o.bl;omega);iterate 8 refine Ab.i7 ?_ _ _
   exact Ab.refl _ _
  ·iterate 8 refine Ab.l9 ?_ _ _ (Nat.le_refl _)
   exact a.o.d7
theorem Kn(f l)(hF:Bi f l)(b g n d c a w)(u:f≤b)(t:Below f l w)(s:f≤w.heap.size)(i:AH b g n d c w)(j:AI g n d a w)(h:c.d8<n)(k:(Ah a (n-1)).kind=0):
 Calls Tryz.prog 81 #[.pointer (some ⟨b,0,none⟩)] w fun e v=>DW b g n d w (Bm a n c) e v:=by
 by_cases r:(Ah a c.d8).kind=5
 ·exact Kp b g n d c a w i j h r
 ·by_cases o:(Ah a c.d8).kind=16
  ·exact Hh f l hF b g n d c a w u t s i j h k (.inl o)
  ·by_cases p:(Ah a c.d8).kind=17
   ·exact Hi b g n d c a w i j h k (.inl p)
   ·by_cases q:(Ah a c.d8).kind=18
    ·exact Hi b g n d c a w i j h k (.inr q)
    ·by_cases m:(Ah a c.d8).kind=10
     ·exact Hh f l hF b g n d c a w u t s i j h k (.inr m)
     ·exact JA b g n d c a w i j h k r o p q m
def AP(a:List PT)(n:Nat)(x:PS):VS×PS:=
 if (Ah a x.d8).kind=4 then (⟨0,Av a 1 (Ae a n 4 x),A7,0,[]⟩,Ae a n 1 (Ae a n 4 x))
 else if (Ah a x.d8).kind=6 then (⟨10,A7,Av a 1 (Ae a n 6 x),0,[]⟩,Ae a n 1 (Ae a n 6 x))
 else if (Ah a x.d8).kind=17 then
  let b:=Ae a n 17 x
  let d:=Ae a n 15 (Ae a n 1 b)
  (⟨9,Av a 1 b,Av a 1 d,0,[]⟩,Ae a n 1 d)
 else
  let c:=Ae a n 15 (Ae a n 1 x)
  ({(Bm a n c).1 with tg:=Av a 1 x},(Bm a n c).2)
theorem G8(b g n l i d w)(h:AH b g n l i w)(H:AI g n l d w)(s:i.d8<n)(I:(Ah d (n-1)).kind=0)(o:(Ah d i.d8).kind=4∨(Ah d i.d8).kind=6):
 Calls Tryz.prog 80 #[.pointer (some ⟨b,0,none⟩)] w fun e T=>DW b g n l w (AP d n i) e T:=by
 rcases o with o | o
 ·obtain ⟨p,m⟩:∃y,Ae d n 4 i=y:=⟨_,rfl⟩;obtain ⟨P,q⟩:∃y,Ae d n 1 p=y:=⟨_,rfl⟩;obtain ⟨G,r⟩:∃y,Av d 1 p=y:=⟨_,rfl⟩;have u:AP d n i=(⟨0,G,A7,0,[]⟩,P):=by simp [AP,o,m,q,r]
  rw [u];have N:p.d8<n:=by rw [←m];exact AE I s
  have c:=Aa (Fw.start h H);have J:=Aa o;have L:=Aa m;have M:=Aa q;have K:=Aa r;clear m q r u h H o I;go_enter Tryz.func80,Tryz.ntmps80;go_wp2_with fail;refine (AJ b g n l i d _ c.o.pa c.o.pt s).mono ?_;rw [J.o];rintro e U ⟨rfl,f⟩;have t:=Aa (c.o.quiet f);clear f c;have c:=t;clear t;go_wp2_with fail;refine (Au b g n l 4 i d _ c.o.pa c.o.pt s).mono ?_;rw [L.o];rintro e V ⟨rfl,h,f⟩;have j:=Aa (c.o.call h f);clear h f c;go_wp2_with fail;refine (Bq b g n l p d _ j.o.pa j.o.pt N).mono ?_;rw [M.o,K.o];rintro e O ⟨rfl,h,f⟩;have a:=Aa (j.o.call h f);clear h f j;have x:=a.o.i8.cell 0;have z:=a.o.i8.cell 1;have A:=a.o.i8.cell 2;have B:=a.o.i8.cell 3;have C:=a.o.i8.cell 4;have D:=a.o.i8.cell 5;have E:=a.o.i8.cell 6;have F:=a.o.i8.cell 7;have Q:=a.o.i8.frozen;have S:=Ad a.o.i8;simp only [Ni,Ng,Nh] at x z A B C D E F;unfold Fu;go_wp2;have R:O.ownsRow w.heap.size 120 2 (.slice none 0 0) 0 []:=World.ownsRow_nil _ _ _ _;refine bodyPost_ret (v:=.agg (DN ⟨0,G,A7,0,[]⟩ (.slice none 0 0))) (by simp [results,Tryz.results80,go_sem,DN,A7,x,z,A,B,C,D,E,F];try rfl) rfl ⟨(.slice none 0 0),rfl,?_,?_,?_⟩
  ·refine Ac (X:=fun k=>k=w.heap.size) R ?_ (Az R a.o.i8 (by decide));iterate 8 refine Ab.i7 ?_ _ _
   exact Ab.refl _ _
  ·refine Aq.d7 (X:=fun k=>k=w.heap.size) a.o.pa ?_ (by have:=a.o.bl;omega);iterate 8 refine Ab.i7 ?_ _ _
   exact Ab.refl _ _
  ·iterate 8 refine Ab.l9 ?_ _ _ (Nat.le_refl _)
   exact a.o.d7
 ·obtain ⟨p,m⟩:∃y,Ae d n 6 i=y:=⟨_,rfl⟩;obtain ⟨P,q⟩:∃y,Ae d n 1 p=y:=⟨_,rfl⟩;obtain ⟨G,r⟩:∃y,Av d 1 p=y:=⟨_,rfl⟩;have u:AP d n i=(⟨10,A7,G,0,[]⟩,P):=by simp [AP,o,m,q,r]
  rw [u];have N:p.d8<n:=by rw [←m];exact AE I s
  have c:=Aa (Fw.start h H);have J:=Aa o;have L:=Aa m;have M:=Aa q;have K:=Aa r;clear m q r u h H o I;go_enter Tryz.func80,Tryz.ntmps80;go_wp2_with fail;refine (AJ b g n l i d _ c.o.pa c.o.pt s).mono ?_;rw [J.o];rintro e U ⟨rfl,f⟩;have t:=Aa (c.o.quiet f);clear f c;have c:=t;clear t;go_wp2_with fail;refine (Au b g n l 6 i d _ c.o.pa c.o.pt s).mono ?_;rw [L.o];rintro e V ⟨rfl,h,f⟩;have j:=Aa (c.o.call h f);clear h f c;go_wp2_with fail;refine (Bq b g n l p d _ j.o.pa j.o.pt N).mono ?_;rw [M.o,K.o];rintro e O ⟨rfl,h,f⟩;have a:=Aa (j.o.call h f);clear h f j;have x:=a.o.i8.cell 0;have z:=a.o.i8.cell 1;have A:=a.o.i8.cell 2;have B:=a.o.i8.cell 3;have C:=a.o.i8.cell 4;have D:=a.o.i8.cell 5;have E:=a.o.i8.cell 6;have F:=a.o.i8.cell 7;have Q:=a.o.i8.frozen;have S:=Ad a.o.i8;simp only [Ni,Ng,Nh] at x z A B C D E F;unfold Fu;go_wp2;have R:O.ownsRow w.heap.size 120 2 (.slice none 0 0) 0 []:=World.ownsRow_nil _ _ _ _;refine bodyPost_ret (v:=.agg (DN ⟨10,A7,G,0,[]⟩ (.slice none 0 0))) (by simp [results,Tryz.results80,go_sem,DN,A7,x,z,A,B,C,D,E,F];try rfl) rfl ⟨(.slice none 0 0),rfl,?_,?_,?_⟩
  ·refine Ac (X:=fun k=>k=w.heap.size) R ?_ (Az R a.o.i8 (by decide));iterate 8 refine Ab.i7 ?_ _ _
   exact Ab.refl _ _
  ·refine Aq.d7 (X:=fun k=>k=w.heap.size) a.o.pa ?_ (by have:=a.o.bl;omega);iterate 8 refine Ab.i7 ?_ _ _
   exact Ab.refl _ _
  ·iterate 8 refine Ab.l9 ?_ _ _ (Nat.le_refl _)
   exact a.o.d7
theorem Jq(b g n j l c w)(f:AH b g n j l w)(W:AI g n j c w)(L:l.d8<n)(G:(Ah c (n-1)).kind=0)(M:(Ah c l.d8).kind=17):
 Calls Tryz.prog 80 #[.pointer (some ⟨b,0,none⟩)] w fun e w'=>DW b g n j w (AP c n l) e w':=by
 obtain ⟨H,D⟩:∃y,Ae c n 17 l=y:=⟨_,rfl⟩;obtain ⟨P,E⟩:∃y,Ae c n 1 H=y:=⟨_,rfl⟩;obtain ⟨m,N⟩:∃y,Av c 1 H=y:=⟨_,rfl⟩;obtain ⟨I,F⟩:∃y,Ae c n 15 P=y:=⟨_,rfl⟩;obtain ⟨x4,K⟩:∃y,Ae c n 1 I=y:=⟨_,rfl⟩;obtain ⟨t4,O⟩:∃y,Av c 1 I=y:=⟨_,rfl⟩;have Y:AP c n l=(⟨9,m,t4,0,[]⟩,x4):=by simp [AP,M,D,E,N,F,K,O]
 rw [Y];have U:H.d8<n:=by rw [←D];exact AE G L
 have V:P.d8<n:=by rw [←E];exact AE G U
 have a0:I.d8<n:=by rw [←F];exact AE G V
 have i:=Aa (Fw.start f W);have HK:=Aa M;have X1:=Aa D;have X2:=Aa E;have K2:=Aa N;have X3:=Aa F;have X4:=Aa K;have K4:=Aa O;clear D E N F K O Y f W M G;go_enter Tryz.func80,Tryz.ntmps80;go_wp2_with fail;refine (AJ b g n j l c _ i.o.pa i.o.pt L).mono ?_;rw [HK.o];rintro e w0 ⟨rfl,a⟩;have T:=Aa (i.o.quiet a);clear a i;have i:=T;clear T;go_wp2_with fail;refine (Au b g n j 17 l c _ i.o.pa i.o.pt L).mono ?_;rw [X1.o];rintro e w1 ⟨rfl,f,a⟩;have B:=Aa (i.o.call f a);clear f a i;go_wp2_with fail;refine (Bq b g n j H c _ B.o.pa B.o.pt U).mono ?_;rw [X2.o,K2.o];rintro e w2 ⟨rfl,f,a⟩;have J:=Aa (B.o.call f a);clear f a B;unfold Fu;have a3:=Ad J.o.pa;have Q:=Aa (Aq.new w2 #[.string m.d9,.int .i64 m.f8] 120);have C:=Aa (J.o.quiet ((Ab.refl _ _).alloc (.cells #[.string m.d9,.int .i64 m.f8] 120)));clear J;go_wp2_with fail;refine (Au b g n j 15 P c _ C.o.pa C.o.pt V).mono ?_;rw [X3.o];rintro e w3 ⟨rfl,f,a⟩;have h:=Aa (C.o.call f a);have A:=Aa (Q.o.d7 a (by omega));clear f a C Q;have n0:=A.o.cell 0;have n1:=A.o.cell 1;simp only [Ni,Ng,Nh] at n0 n1;have l3:=Ad A.o;have o:=h.o.i8.cell 0;have p:=h.o.i8.cell 1;have r:=h.o.i8.cell 2;have s:=h.o.i8.cell 3;have t:=h.o.i8.cell 4;have u:=h.o.i8.cell 5;have x:=h.o.i8.cell 6;have z:=h.o.i8.cell 7;have Z:=h.o.i8.frozen;have ql:=Ad h.o.i8;simp only [Ni,Ng,Nh] at o p r s t u x z;go_wp2_with fail;go_region_with (go_at_call 64;refine (Bq b g n j I c _ (h.o.quiet (by repeat (first | exact Ab.refl _ _ | refine Ab.drew ?_ | refine Ab.drewN ?_ _ | refine Ab.alloc ?_ _))).pa (h.o.quiet (by repeat (first | exact Ab.refl _ _ | refine Ab.drew ?_ | refine Ab.drewN ?_ _ | refine Ab.alloc ?_ _))).pt a0).mono ?_;rw [X4.o,K4.o];rintro e w5 ⟨rfl,f,a⟩;have d:=Aa ((h.o.quiet (by repeat (first | exact Ab.refl _ _ | refine Ab.drew ?_ | refine Ab.drewN ?_ _ | refine Ab.alloc ?_ _))).call f a);have S:=Aa ((Aq.d7 (X:=fun _=>False) A.o (by repeat (first | exact Ab.refl _ _ | refine Ab.drew ?_ | refine Ab.drewN ?_ _ | refine Ab.alloc ?_ _)) (fun q=>q)).d7 a (by omega));have a1:=S.o.cell 0;have a2:=S.o.cell 1;simp only [Ni,Ng,Nh] at a1 a2;unfold Fu;clear f a o p r s t u x z Z ql;have o:=d.o.i8.cell 0;have p:=d.o.i8.cell 1;have r:=d.o.i8.cell 2;have s:=d.o.i8.cell 3;have t:=d.o.i8.cell 4;have u:=d.o.i8.cell 5;have x:=d.o.i8.cell 6;have z:=d.o.i8.cell 7;have Z:=d.o.i8.frozen;have ql:=Ad d.o.i8;simp only [Ni,Ng,Nh] at o p r s t u x z);all_goals
  go_wp2;have R:w5.ownsRow w.heap.size 120 2 (.slice none 0 0) 0 []:=World.ownsRow_nil _ _ _ _;refine bodyPost_ret (v:=.agg (DN ⟨9,m,t4,0,[]⟩ (.slice none 0 0))) (by simp [results,Tryz.results80,go_sem,DN,o,p,r,s,t,u,x,z]) rfl ⟨(.slice none 0 0),rfl,?_,?_,?_⟩
  ·refine Ac (X:=fun k=>k=w.heap.size) R ?_ (Az R d.o.i8 (by decide));iterate 8 refine Ab.i7 ?_ _ _
   exact Ab.refl _ _
  ·refine Aq.d7 (X:=fun k=>k=w.heap.size) d.o.pa ?_ (by have:=d.o.bl;omega);iterate 8 refine Ab.i7 ?_ _ _
   exact Ab.refl _ _
  ·iterate 8 refine Ab.l9 ?_ _ _ (Nat.le_refl _)
   exact d.o.d7
theorem Kc(o:Nat)(J:World)(hF:Bi o J)(b g n l:Nat)(f:PS)(a:List PT)(w:World)(Q:o≤b)(P:Below o J w)(hB:o≤w.heap.size)(h:AH b g n l f w)(S:AI g n l a w)(B:f.d8<n)(t:(Ah a (n-1)).kind=0)
 (G:(Ah a f.d8).kind≠4)(H:(Ah a f.d8).kind≠6)(F:(Ah a f.d8).kind≠17):
 Calls Tryz.prog 80 #[.pointer (some ⟨b,0,none⟩)] w fun e w'=>DW b g n l w (AP a n f) e w':=by
 obtain ⟨K,q⟩:∃y,Ae a n 1 f=y:=⟨_,rfl⟩;obtain ⟨m,E⟩:∃y,Av a 1 f=y:=⟨_,rfl⟩;obtain ⟨L,r⟩:∃y,Ae a n 15 K=y:=⟨_,rfl⟩;obtain ⟨s3,x3,A⟩:∃s y,Bm a n L=(s,y):=⟨_,_,rfl⟩;have T:AP a n f=({s3 with tg:=m},x3):=by simp [AP,G,H,F,q,E,r,A]
 rw [T];have R:K.d8<n:=by rw [←q];exact AE t B
 have a0:L.d8<n:=by rw [←r];exact AE t R
 have i:=Aa (Fw.start h S);have HG:=Aa P;have HF:=Aa hF;have HZ:=Aa t;have X1:=Aa q;have K1:=Aa E;have X2:=Aa r;have X3:=Aa A;obtain ⟨I,C⟩:∃k,(Ah a f.d8).kind=k:=⟨_,rfl⟩;rw [C] at G H F;have HK:=Aa C;have j4:((I:Int)==4)=false:=by simp;omega
 have j6:((I:Int)==6)=false:=by simp;omega
 have a3:((I:Int)==17)=false:=by simp;omega
 clear q E r A T h S t C G H F P hF;go_enter Tryz.func80,Tryz.ntmps80;go_wp2_with fail;refine (AJ b g n l f a _ i.o.pa i.o.pt B).mono ?_;rw [HK.o];rintro e w0 ⟨rfl,d⟩;have N:=Aa (i.o.quiet d);clear d i;have i:=N;clear N;go_wp2_with fail;refine (Bq b g n l f a _ i.o.pa i.o.pt B).mono ?_;rw [X1.o,K1.o];rintro e w1 ⟨rfl,h,d⟩;have z:=Aa (i.o.call h d);clear h d i;unfold Fu;have a1:=Ad z.o.pa;have M:=Aa (Aq.new w1 #[.string m.d9,.int .i64 m.f8] 120);have p:=Aa (z.o.quiet ((Ab.refl _ _).alloc (.cells #[.string m.d9,.int .i64 m.f8] 120)));clear z;go_wp2_with fail;refine (Au b g n l 15 K a _ p.o.pa p.o.pt R).mono ?_;rw [X2.o];rintro e w2 ⟨rfl,h,d⟩;have j:=Aa (p.o.call h d);have u:=Aa (M.o.d7 d (by omega));clear h d p M;have a2:=j.o.d7.size;have l2:=Ad u.o;have a4:=Ad j.o.pa;go_wp2_with fail;refine (Kn o J HF.o b g n l L a _ Q (Ab.keeps HG.o j.o.d7 hB Q) (by omega) j.o.pa j.o.pt a0 HZ.o).mono ?_;rw [X3.o];rintro e w3 ⟨av,rfl,D,h,d⟩;obtain ⟨va,vl,vc,rfl⟩:=Af D;have c:=Aa (j.o.call h d);have x:=Aa (u.o.d7 d (by omega));have O:=Aa (Ar D (B':=w.heap.size) (by omega));clear h d D j u;have n0:=x.o.cell 0;have n1:=x.o.cell 1;simp only [Ni,Ng,Nh] at n0 n1;have l3:=Ad x.o;have U:=c.o.i8.cell 0;have V:=c.o.i8.cell 1;have W:=c.o.i8.cell 2;have Y:=c.o.i8.cell 3;have Z:=c.o.i8.cell 4;have q5:=c.o.i8.cell 5;have q6:=c.o.i8.cell 6;have q7:=c.o.i8.cell 7;have qf:=c.o.i8.frozen;have ql:=Ad c.o.i8;simp only [Ni,Ng,Nh] at U V W Y Z q5 q6 q7;unfold DN;go_wp2;refine bodyPost_ret (v:=.agg (DN {s3 with tg:=m} (.slice va vl vc))) (by simp [results,Tryz.results80,go_sem,DN,U,V,W,Y,Z,q5,q6,q7,ql]) rfl ⟨.slice va vl vc,rfl,?_,?_,?_⟩
 ·refine Ac (X:=fun k=>k=w.heap.size) O.o ?_ (Az O.o c.o.i8 (by decide));refine Ab.alloc ?_ _;iterate 8 refine Ab.i7 ?_ _ _
  exact Ab.refl _ _
 ·refine Aq.d7 (X:=fun k=>k=w.heap.size) c.o.pa ?_ (by have:=c.o.bl;omega);refine Ab.alloc ?_ _;iterate 8 refine Ab.i7 ?_ _ _
  exact Ab.refl _ _
 ·refine Ab.alloc ?_ _;iterate 8 refine Ab.l9 ?_ _ _ (Nat.le_refl _)
  exact c.o.d7
theorem Kb(f l)(hF:Bi f l)(b g n d c a w)(s:f≤b)(r:Below f l w)(q:f≤w.heap.size)(i:AH b g n d c w)(j:AI g n d a w)(h:c.d8<n)(k:(Ah a (n-1)).kind=0):
 Calls Tryz.prog 80 #[.pointer (some ⟨b,0,none⟩)] w fun e t=>DW b g n d w (AP a n c) e t:=by
 by_cases o:(Ah a c.d8).kind=4
 ·exact G8 b g n d c a w i j h k (.inl o)
 ·by_cases p:(Ah a c.d8).kind=6
  ·exact G8 b g n d c a w i j h k (.inr p)
  ·by_cases m:(Ah a c.d8).kind=17
   ·exact Jq b g n d c a w i j h k m
   ·exact Kc f l hF b g n d c a w s r q i j h k o p m
end Go.Proofs.YtmaankfbhhbeoaaGreatDoor

/- One of the texts of the proof of runs_card_holds: TrD TrE TrF TrG PaD. -/
import Derived.Test.YthppbgndiplgnaaGreatDoorG03
set_option maxRecDepth 100000
set_option maxHeartbeats 1000000
namespace Go.Proofs.YthppbgndiplgnaaGreatDoor
open Go.RowKit
def AX(a:List PT)(n:Nat)(x:PS):VS×PS:=
 if (Aj a x.i8).kind=4 then (⟨0,AH a 1 (Af a n 4 x),BF,0,[]⟩,Af a n 1 (Af a n 4 x))
 else if (Aj a x.i8).kind=6 then (⟨10,BF,AH a 1 (Af a n 6 x),0,[]⟩,Af a n 1 (Af a n 6 x))
 else if (Aj a x.i8).kind=17 then
  let b:=Af a n 17 x
  let d:=Af a n 15 (Af a n 1 b)
  (⟨9,AH a 1 b,AH a 1 d,0,[]⟩,Af a n 1 d)
 else
  let c:=Af a n 15 (Af a n 1 x)
  ({(Ch a n c).1 with tg:=AH a 1 x},(Ch a n c).2)
theorem Mf(b g n l i d w)(h:A3 b g n l i w)(H:Ba g n l d w)(s:i.i8<n)(I:(Aj d (n-1)).kind=0)(o:(Aj d i.i8).kind=4∨(Aj d i.i8).kind=6):
 Calls Tryz.prog 136 #[.pointer (some ⟨b,0,none⟩)] w fun e T=>GG b g n l w (AX d n i) e T:=by
 rcases o with o | o
 ·obtain ⟨p,m⟩:∃y,Af d n 4 i=y:=⟨_,rfl⟩;obtain ⟨P,q⟩:∃y,Af d n 1 p=y:=⟨_,rfl⟩;obtain ⟨G,r⟩:∃y,AH d 1 p=y:=⟨_,rfl⟩;have u:AX d n i=(⟨0,G,BF,0,[]⟩,P):=by simp [AX,o,m,q,r]
  rw [u];have N:p.i8<n:=by rw [←m];exact AY I s
  have c:=Aa (JL.start h H);have J:=Aa o;have L:=Aa m;have M:=Aa q;have K:=Aa r;clear m q r u h H o I;go_enter Tryz.func136,Tryz.ntmps136;go_wp2_with fail;refine (A5 b g n l i d _ c.o.pa c.o.pt s).mono ?_;rw [J.o];rintro e U ⟨rfl,f⟩;have t:=Aa (c.o.quiet f);clear f c;have c:=t;clear t;go_wp2_with fail;refine (AI b g n l 4 i d _ c.o.pa c.o.pt s).mono ?_;rw [L.o];rintro e V ⟨rfl,h,f⟩;have j:=Aa (c.o.call h f);clear h f c;go_wp2_with fail;refine (Cy b g n l p d _ j.o.pa j.o.pt N).mono ?_;rw [M.o,K.o];rintro e O ⟨rfl,h,f⟩;have a:=Aa (j.o.call h f);clear h f j;have x:=a.o.t8.cell 0;have z:=a.o.t8.cell 1;have A:=a.o.t8.cell 2;have B:=a.o.t8.cell 3;have C:=a.o.t8.cell 4;have D:=a.o.t8.cell 5;have E:=a.o.t8.cell 6;have F:=a.o.t8.cell 7;have Q:=a.o.t8.frozen;have S:=Ae a.o.t8;simp only [aU,aS,aT] at x z A B C D E F;unfold Jd;go_wp2;have R:O.ownsRow w.heap.size 92 2 (.slice none 0 0) 0 []:=bE _ _ _ _;refine bC (v:=.agg (Gl ⟨0,G,BF,0,[]⟩ (.slice none 0 0))) (by simp [results,Tryz.results136,go_sem,Gl,BF,x,z,A,B,C,D,E,F];try rfl) rfl ⟨(.slice none 0 0),rfl,?_,?_,?_⟩
  ·refine Ac (X:=fun k=>k=w.heap.size) R ?_ (Ap R a.o.t8 (by decide));iterate 8 refine Ab.p7 ?_ _ _
   exact Ab.refl _ _
  ·refine Ar.f8 (X:=fun k=>k=w.heap.size) a.o.pa ?_ (by have:=a.o.bl;omega);iterate 8 refine Ab.p7 ?_ _ _
   exact Ab.refl _ _
  ·iterate 8 refine Ab.Yc ?_ _ _ (aV _)
   exact a.o.f8
 ·obtain ⟨p,m⟩:∃y,Af d n 6 i=y:=⟨_,rfl⟩;obtain ⟨P,q⟩:∃y,Af d n 1 p=y:=⟨_,rfl⟩;obtain ⟨G,r⟩:∃y,AH d 1 p=y:=⟨_,rfl⟩;have u:AX d n i=(⟨10,BF,G,0,[]⟩,P):=by simp [AX,o,m,q,r]
  rw [u];have N:p.i8<n:=by rw [←m];exact AY I s
  have c:=Aa (JL.start h H);have J:=Aa o;have L:=Aa m;have M:=Aa q;have K:=Aa r;clear m q r u h H o I;go_enter Tryz.func136,Tryz.ntmps136;go_wp2_with fail;refine (A5 b g n l i d _ c.o.pa c.o.pt s).mono ?_;rw [J.o];rintro e U ⟨rfl,f⟩;have t:=Aa (c.o.quiet f);clear f c;have c:=t;clear t;go_wp2_with fail;refine (AI b g n l 6 i d _ c.o.pa c.o.pt s).mono ?_;rw [L.o];rintro e V ⟨rfl,h,f⟩;have j:=Aa (c.o.call h f);clear h f c;go_wp2_with fail;refine (Cy b g n l p d _ j.o.pa j.o.pt N).mono ?_;rw [M.o,K.o];rintro e O ⟨rfl,h,f⟩;have a:=Aa (j.o.call h f);clear h f j;have x:=a.o.t8.cell 0;have z:=a.o.t8.cell 1;have A:=a.o.t8.cell 2;have B:=a.o.t8.cell 3;have C:=a.o.t8.cell 4;have D:=a.o.t8.cell 5;have E:=a.o.t8.cell 6;have F:=a.o.t8.cell 7;have Q:=a.o.t8.frozen;have S:=Ae a.o.t8;simp only [aU,aS,aT] at x z A B C D E F;unfold Jd;go_wp2;have R:O.ownsRow w.heap.size 92 2 (.slice none 0 0) 0 []:=bE _ _ _ _;refine bC (v:=.agg (Gl ⟨10,BF,G,0,[]⟩ (.slice none 0 0))) (by simp [results,Tryz.results136,go_sem,Gl,BF,x,z,A,B,C,D,E,F];try rfl) rfl ⟨(.slice none 0 0),rfl,?_,?_,?_⟩
  ·refine Ac (X:=fun k=>k=w.heap.size) R ?_ (Ap R a.o.t8 (by decide));iterate 8 refine Ab.p7 ?_ _ _
   exact Ab.refl _ _
  ·refine Ar.f8 (X:=fun k=>k=w.heap.size) a.o.pa ?_ (by have:=a.o.bl;omega);iterate 8 refine Ab.p7 ?_ _ _
   exact Ab.refl _ _
  ·iterate 8 refine Ab.Yc ?_ _ _ (aV _)
   exact a.o.f8
theorem PO(b g n j l c w)(f:A3 b g n j l w)(W:Ba g n j c w)(L:l.i8<n)(G:(Aj c (n-1)).kind=0)(M:(Aj c l.i8).kind=17):
 Calls Tryz.prog 136 #[.pointer (some ⟨b,0,none⟩)] w fun e w'=>GG b g n j w (AX c n l) e w':=by
 obtain ⟨H,D⟩:∃y,Af c n 17 l=y:=⟨_,rfl⟩;obtain ⟨P,E⟩:∃y,Af c n 1 H=y:=⟨_,rfl⟩;obtain ⟨m,N⟩:∃y,AH c 1 H=y:=⟨_,rfl⟩;obtain ⟨I,F⟩:∃y,Af c n 15 P=y:=⟨_,rfl⟩;obtain ⟨x4,K⟩:∃y,Af c n 1 I=y:=⟨_,rfl⟩;obtain ⟨t4,O⟩:∃y,AH c 1 I=y:=⟨_,rfl⟩;have Y:AX c n l=(⟨9,m,t4,0,[]⟩,x4):=by simp [AX,M,D,E,N,F,K,O]
 rw [Y];have U:H.i8<n:=by rw [←D];exact AY G L
 have V:P.i8<n:=by rw [←E];exact AY G U
 have a0:I.i8<n:=by rw [←F];exact AY G V
 have i:=Aa (JL.start f W);have HK:=Aa M;have X1:=Aa D;have X2:=Aa E;have K2:=Aa N;have X3:=Aa F;have X4:=Aa K;have K4:=Aa O;clear D E N F K O Y f W M G;go_enter Tryz.func136,Tryz.ntmps136;go_wp2_with fail;refine (A5 b g n j l c _ i.o.pa i.o.pt L).mono ?_;rw [HK.o];rintro e w0 ⟨rfl,a⟩;have T:=Aa (i.o.quiet a);clear a i;have i:=T;clear T;go_wp2_with fail;refine (AI b g n j 17 l c _ i.o.pa i.o.pt L).mono ?_;rw [X1.o];rintro e w1 ⟨rfl,f,a⟩;have B:=Aa (i.o.call f a);clear f a i;go_wp2_with fail;refine (Cy b g n j H c _ B.o.pa B.o.pt U).mono ?_;rw [X2.o,K2.o];rintro e w2 ⟨rfl,f,a⟩;have J:=Aa (B.o.call f a);clear f a B;unfold Jd;have a3:=Ae J.o.pa;have Q:=Aa (Ar.new w2 #[.string m.i6,.int .i64 m.i9] 92);have C:=Aa (J.o.quiet ((Ab.refl _ _).alloc (.cells #[.string m.i6,.int .i64 m.i9] 92)));clear J;go_wp2_with fail;refine (AI b g n j 15 P c _ C.o.pa C.o.pt V).mono ?_;rw [X3.o];rintro e w3 ⟨rfl,f,a⟩;have h:=Aa (C.o.call f a);have A:=Aa (Q.o.f8 a (by omega));clear f a C Q;have n0:=A.o.cell 0;have n1:=A.o.cell 1;simp only [aU,aS,aT] at n0 n1;have l3:=Ae A.o;have o:=h.o.t8.cell 0;have p:=h.o.t8.cell 1;have r:=h.o.t8.cell 2;have s:=h.o.t8.cell 3;have t:=h.o.t8.cell 4;have u:=h.o.t8.cell 5;have x:=h.o.t8.cell 6;have z:=h.o.t8.cell 7;have Z:=h.o.t8.frozen;have ql:=Ae h.o.t8;simp only [aU,aS,aT] at o p r s t u x z;go_wp2_with fail;go_region_with (go_at_call 98;refine (Cy b g n j I c _ (h.o.quiet (by repeat (first | exact Ab.refl _ _ | refine Ab.drew ?_ | refine Ab.drewN ?_ _ | refine Ab.alloc ?_ _))).pa (h.o.quiet (by repeat (first | exact Ab.refl _ _ | refine Ab.drew ?_ | refine Ab.drewN ?_ _ | refine Ab.alloc ?_ _))).pt a0).mono ?_;rw [X4.o,K4.o];rintro e w5 ⟨rfl,f,a⟩;have d:=Aa ((h.o.quiet (by repeat (first | exact Ab.refl _ _ | refine Ab.drew ?_ | refine Ab.drewN ?_ _ | refine Ab.alloc ?_ _))).call f a);have S:=Aa ((Ar.f8 (X:=fun _=>False) A.o (by repeat (first | exact Ab.refl _ _ | refine Ab.drew ?_ | refine Ab.drewN ?_ _ | refine Ab.alloc ?_ _)) (fun q=>q)).f8 a (by omega));have a1:=S.o.cell 0;have a2:=S.o.cell 1;simp only [aU,aS,aT] at a1 a2;unfold Jd;clear f a o p r s t u x z Z ql;have o:=d.o.t8.cell 0;have p:=d.o.t8.cell 1;have r:=d.o.t8.cell 2;have s:=d.o.t8.cell 3;have t:=d.o.t8.cell 4;have u:=d.o.t8.cell 5;have x:=d.o.t8.cell 6;have z:=d.o.t8.cell 7;have Z:=d.o.t8.frozen;have ql:=Ae d.o.t8;simp only [aU,aS,aT] at o p r s t u x z);all_goals
  go_wp2;have R:w5.ownsRow w.heap.size 92 2 (.slice none 0 0) 0 []:=bE _ _ _ _;refine bC (v:=.agg (Gl ⟨9,m,t4,0,[]⟩ (.slice none 0 0))) (by simp [results,Tryz.results136,go_sem,Gl,o,p,r,s,t,u,x,z]) rfl ⟨(.slice none 0 0),rfl,?_,?_,?_⟩
  ·refine Ac (X:=fun k=>k=w.heap.size) R ?_ (Ap R d.o.t8 (by decide));iterate 8 refine Ab.p7 ?_ _ _
   exact Ab.refl _ _
  ·refine Ar.f8 (X:=fun k=>k=w.heap.size) d.o.pa ?_ (by have:=d.o.bl;omega);iterate 8 refine Ab.p7 ?_ _ _
   exact Ab.refl _ _
  ·iterate 8 refine Ab.Yc ?_ _ _ (aV _)
   exact d.o.f8
theorem Sk(o:Nat)(J:World)(hF:Cv o J)(b g n l:Nat)(f:PS)(a:List PT)(w:World)(Q:o≤b)(P:Below o J w)(hB:o≤w.heap.size)(h:A3 b g n l f w)(S:Ba g n l a w)(B:f.i8<n)(t:(Aj a (n-1)).kind=0)
 (G:(Aj a f.i8).kind≠4)(H:(Aj a f.i8).kind≠6)(F:(Aj a f.i8).kind≠17):
 Calls Tryz.prog 136 #[.pointer (some ⟨b,0,none⟩)] w fun e w'=>GG b g n l w (AX a n f) e w':=by
 obtain ⟨K,q⟩:∃y,Af a n 1 f=y:=⟨_,rfl⟩;obtain ⟨m,E⟩:∃y,AH a 1 f=y:=⟨_,rfl⟩;obtain ⟨L,r⟩:∃y,Af a n 15 K=y:=⟨_,rfl⟩;obtain ⟨s3,x3,A⟩:∃s y,Ch a n L=(s,y):=⟨_,_,rfl⟩;have T:AX a n f=({s3 with tg:=m},x3):=by simp [AX,G,H,F,q,E,r,A]
 rw [T];have R:K.i8<n:=by rw [←q];exact AY t B
 have a0:L.i8<n:=by rw [←r];exact AY t R
 have i:=Aa (JL.start h S);have HG:=Aa P;have HF:=Aa hF;have HZ:=Aa t;have X1:=Aa q;have K1:=Aa E;have X2:=Aa r;have X3:=Aa A;obtain ⟨I,C⟩:∃k,(Aj a f.i8).kind=k:=⟨_,rfl⟩;rw [C] at G H F;have HK:=Aa C;have j4:((I:Int)==4)=false:=by simp;omega
 have j6:((I:Int)==6)=false:=by simp;omega
 have a3:((I:Int)==17)=false:=by simp;omega
 clear q E r A T h S t C G H F P hF;go_enter Tryz.func136,Tryz.ntmps136;go_wp2_with fail;refine (A5 b g n l f a _ i.o.pa i.o.pt B).mono ?_;rw [HK.o];rintro e w0 ⟨rfl,d⟩;have N:=Aa (i.o.quiet d);clear d i;have i:=N;clear N;go_wp2_with fail;refine (Cy b g n l f a _ i.o.pa i.o.pt B).mono ?_;rw [X1.o,K1.o];rintro e w1 ⟨rfl,h,d⟩;have z:=Aa (i.o.call h d);clear h d i;unfold Jd;have a1:=Ae z.o.pa;have M:=Aa (Ar.new w1 #[.string m.i6,.int .i64 m.i9] 92);have p:=Aa (z.o.quiet ((Ab.refl _ _).alloc (.cells #[.string m.i6,.int .i64 m.i9] 92)));clear z;go_wp2_with fail;refine (AI b g n l 15 K a _ p.o.pa p.o.pt R).mono ?_;rw [X2.o];rintro e w2 ⟨rfl,h,d⟩;have j:=Aa (p.o.call h d);have u:=Aa (M.o.f8 d (by omega));clear h d p M;have a2:=j.o.f8.size;have l2:=Ae u.o;have a4:=Ae j.o.pa;go_wp2_with fail;refine (SW o J HF.o b g n l L a _ Q (Ab.keeps HG.o j.o.f8 hB Q) (by omega) j.o.pa j.o.pt a0 HZ.o).mono ?_;rw [X3.o];rintro e w3 ⟨av,rfl,D,h,d⟩;obtain ⟨va,vl,vc,rfl⟩:=Ad D;have c:=Aa (j.o.call h d);have x:=Aa (u.o.f8 d (by omega));have O:=Aa (Ax D (B':=w.heap.size) (by omega));clear h d D j u;have n0:=x.o.cell 0;have n1:=x.o.cell 1;simp only [aU,aS,aT] at n0 n1;have l3:=Ae x.o;have U:=c.o.t8.cell 0;have V:=c.o.t8.cell 1;have W:=c.o.t8.cell 2;have Y:=c.o.t8.cell 3;have Z:=c.o.t8.cell 4;have q5:=c.o.t8.cell 5;have q6:=c.o.t8.cell 6;have q7:=c.o.t8.cell 7;have qf:=c.o.t8.frozen;have ql:=Ae c.o.t8;simp only [aU,aS,aT] at U V W Y Z q5 q6 q7;unfold Gl;go_wp2;refine bC (v:=.agg (Gl {s3 with tg:=m} (.slice va vl vc))) (by simp [results,Tryz.results136,go_sem,Gl,U,V,W,Y,Z,q5,q6,q7,ql]) rfl ⟨.slice va vl vc,rfl,?_,?_,?_⟩
 ·refine Ac (X:=fun k=>k=w.heap.size) O.o ?_ (Ap O.o c.o.t8 (by decide));refine Ab.alloc ?_ _;iterate 8 refine Ab.p7 ?_ _ _
  exact Ab.refl _ _
 ·refine Ar.f8 (X:=fun k=>k=w.heap.size) c.o.pa ?_ (by have:=c.o.bl;omega);refine Ab.alloc ?_ _;iterate 8 refine Ab.p7 ?_ _ _
  exact Ab.refl _ _
 ·refine Ab.alloc ?_ _;iterate 8 refine Ab.Yc ?_ _ _ (aV _)
  exact c.o.f8
theorem Sh(f l)(hF:Cv f l)(b g n d c a w)(s:f≤b)(r:Below f l w)(q:f≤w.heap.size)(i:A3 b g n d c w)(j:Ba g n d a w)(h:c.i8<n)(k:(Aj a (n-1)).kind=0):
 Calls Tryz.prog 136 #[.pointer (some ⟨b,0,none⟩)] w fun e t=>GG b g n d w (AX a n c) e t:=by
 by_cases o:(Aj a c.i8).kind=4
 ·exact Mf b g n d c a w i j h k (.inl o)
 ·by_cases p:(Aj a c.i8).kind=6
  ·exact Mf b g n d c a w i j h k (.inr p)
  ·by_cases m:(Aj a c.i8).kind=17
   ·exact PO b g n d c a w i j h k m
   ·exact Sk f l hF b g n d c a w s r q i j h k o p m
inductive TS where
 | mk (s:VS) (bl:List (Nat×List TS))
def Eo(k:Nat):VS:=⟨k,BF,BF,0,[]⟩
def CQ(k:Nat):Prop:=k=4∨k=1∨k=17∨k=6∨k=7∨k=9
instance (k:Nat):Decidable (CQ k):=by unfold CQ;infer_instance
mutual
def AO(a:List PT)(n:Nat):Nat→PS→List TS→List TS×PS
 | 0,x,acc=>(acc,x)
 | f+1,x,acc=>if CQ (Aj a x.i8).kind then AO a n f (Bt a n f x).2 (acc++[(Bt a n f x).1]) else (acc,x)
def Bt(a:List PT)(n:Nat):Nat→PS→TS×PS
 | 0,x=>(.mk (Eo 0) [],x)
 | f+1,x=>
   if (Aj a x.i8).kind=7 then
    let x2:=Af a n 20 (Af a n 7 x)
    let r:=AO a n f (Af a n 12 x2) []
    let x3:=Af a n 13 r.2
    if (Aj a x3.i8).kind=8 then
     let x4:=Af a n 8 x3
     let r2:=AO a n f (Af a n 12 x4) []
     (.mk (Eo 11) [((AH a 12 x2).i9,r.1),((AH a 12 x4).i9,r2.1)],Af a n 13 r2.2)
    else (.mk (Eo 11) [((AH a 12 x2).i9,r.1)],x3)
   else if (Aj a x.i8).kind=9 then
    let x2:=Af a n 20 (Af a n 9 x)
    let r:=AO a n f (Af a n 12 x2) []
    (.mk (Eo 12) [((AH a 12 x2).i9,r.1)],Af a n 13 r.2)
   else (.mk (AX a n x).1 [],Af a n 14 (AX a n x).2)
end
section
variable {a : List PT} {n : Nat}
def H8(n:Nat)(x y:PS):Prop:=x.i8≤y.i8∧y.i8<n
theorem H8.trans{x y z:PS}(h:H8 n x y)(k:H8 n y z):H8 n x z:=⟨bJ h.1 k.1,k.2⟩
theorem Ag(c:(Aj a (n-1)).kind=0)(k:Nat){x:PS}(b:x.i8<n):H8 n x (Af a n k x):=by
 refine ⟨?_,AY c b⟩;unfold Af;split
 ·split
  ·exact aV _
  ·exact Nat.le_succ _
 ·show x.i8≤n-1;omega
theorem BW{k:Nat}{x:PS}(c:(Aj a x.i8).kind=k)(b:k≠0):(Af a n k x).i8=x.i8+1:=by unfold Af;rw [cU c,cT b]
theorem Ma(c:(Aj a (n-1)).kind=0):∀(f:Nat) (x:PS) (b:List PT),x.i8<n→H8 n x (Dx a f x b).2
 | 0,x,b,h=>⟨aV _,h⟩
 | f+1,x,b,h=>by
   simp only [Dx];split
   ·rename_i d;have g:x.i8≠n-1:=by intro e;rw [e,c] at d;omega
    have:=Ma c f ⟨x.i8+1,x.Ye,x.Yy⟩ (b++[Aj a x.i8]) (by show x.i8+1<n;omega);exact ⟨by have:=this.1;simp only at this;omega,this.2⟩
   ·exact ⟨aV _,h⟩
theorem Eh(b:(Aj a (n-1)).kind=0){x:PS}(e:x.i8<n):H8 n x (Bm a n x).2:=by have c:=Ag b 10 e;have d:=Ma b a.length _ [] c.2;exact (c.trans d).trans (Ag b 11 d.2)
theorem Pi(b:(Aj a (n-1)).kind=0){x:PS}(g:x.i8<n):H8 n x (Ih a n x).2:=by have c:=Ag b 10 g;have d:=c.trans (Ag b 17 c.2);have e:=d.trans (Ag b 1 d.2);have f:=e.trans (Ag b 11 e.2);exact f.trans (Eh b f.2)
theorem Pg(b:(Aj a (n-1)).kind=0){x:PS}(f:x.i8<n):H8 n x (EJ a n x).2:=by
 have d:=Ag b 16 f;have c:=d.trans (Ag b 1 d.2);unfold EJ;simp only;split
 ·have e:=c.trans (Ag b 19 c.2);exact e.trans (Ag b 2 e.2)
 ·exact c
theorem Mp(c:(Aj a (n-1)).kind=0){x:PS}(d:x.i8<n):H8 n x (Ch a n x).2:=by
 unfold Ch;split
 ·exact Ag c 5 d
 ·split
  ·exact Pg c d
  ·split
   ·have b:=Ag c 17 d;exact b.trans (Ag c 1 b.2)
   ·split
    ·have b:=Ag c 18 d;exact b.trans (Ag c 1 b.2)
    ·split
     ·exact Pi c d
     ·have b:=Ag c 1 d;split
      ·exact b.trans (Eh c b.2)
      ·exact b
theorem Og(c:(Aj a (n-1)).kind=0){x:PS}(g:x.i8<n)(j:(Aj a x.i8).kind=4∨(Aj a x.i8).kind=1∨(Aj a x.i8).kind=17∨(Aj a x.i8).kind=6):x.i8+1≤(AX a n x).2.i8∧(AX a n x).2.i8<n:=by
 unfold AX;split
 ·rename_i h;have d:=Ag c 4 g;have e:=BW (n:=n) h (by omega);have b:=Ag c 1 d.2;exact ⟨by have:=b.1;simp only;omega,b.2⟩
 ·split
  ·rename_i h;have d:=Ag c 6 g;have e:=BW (n:=n) h (by omega);have b:=Ag c 1 d.2;exact ⟨by have:=b.1;simp only;omega,b.2⟩
  ·split
   ·rename_i h;have d:=Ag c 17 g;have e:=BW (n:=n) h (by omega);have b:=Ag c 1 d.2;have f:=b.trans (Ag c 15 b.2);have i:=f.trans (Ag c 1 f.2);exact ⟨by have:=i.1;simp only;omega,i.2⟩
   ·have h:(Aj a x.i8).kind=1:=by omega
    have d:=Ag c 1 g;have e:=BW (n:=n) h (by omega);have b:=Ag c 15 d.2;have f:=b.trans (Mp c b.2);exact ⟨by have:=f.1;simp only;omega,f.2⟩
theorem Jx(c:(Aj a (n-1)).kind=0){x:PS}(e:x.i8<n):H8 n x (AX a n x).2:=by
 unfold AX;split
 ·have b:=Ag c 4 e;exact b.trans (Ag c 1 b.2)
 ·split
  ·have b:=Ag c 6 e;exact b.trans (Ag c 1 b.2)
  ·split
   ·have b:=Ag c 17 e;have d:=b.trans (Ag c 1 b.2);have f:=d.trans (Ag c 15 d.2);exact f.trans (Ag c 1 f.2)
   ·have b:=Ag c 1 e;have d:=b.trans (Ag c 15 b.2);exact d.trans (Mp c d.2)
mutual
theorem BE(hz:(Aj a (n-1)).kind=0):∀(f:Nat) (x:PS) (acc:List TS),x.i8<n→H8 n x (AO a n f x acc).2
 | 0,x,acc,h=>⟨aV _,h⟩
 | f+1,x,acc,h=>by
   unfold AO;split
   ·have h1:=Ga hz f x h;exact h1.trans (BE hz f _ _ h1.2)
   ·exact ⟨aV _,h⟩
theorem Ga(hz:(Aj a (n-1)).kind=0):∀(f:Nat) (x:PS),x.i8<n→H8 n x (Bt a n f x).2
 | 0,x,h=>⟨aV _,h⟩
 | f+1,x,h=>by
   unfold Bt;split
   ·have h1:=Ag hz 7 h;have h2:=h1.trans (Ag hz 20 h1.2);have h3:=h2.trans (Ag hz 12 h2.2);have h4:=h3.trans (BE hz f _ [] h3.2);have h5:=h4.trans (Ag hz 13 h4.2);simp only;split
    ·have h6:=h5.trans (Ag hz 8 h5.2);have h7:=h6.trans (Ag hz 12 h6.2);have h8:=h7.trans (BE hz f _ [] h7.2);exact h8.trans (Ag hz 13 h8.2)
    ·exact h5
   ·split
    ·have h1:=Ag hz 9 h;have h2:=h1.trans (Ag hz 20 h1.2);have h3:=h2.trans (Ag hz 12 h2.2);have h4:=h3.trans (BE hz f _ [] h3.2);exact h4.trans (Ag hz 13 h4.2)
    ·have h1:=Jx hz h;exact h1.trans (Ag hz 14 h1.2)
end
theorem Hz(b:(Aj a (n-1)).kind=0)(f:Nat){x:PS}(h:x.i8<n)(q:CQ (Aj a x.i8).kind):x.i8+1≤(Bt a n (f+1) x).2.i8:=by
 unfold Bt;split
 ·rename_i k;have d:=Ag b 7 h;have e:=BW (n:=n) k (by omega);have c:=Ag b 20 d.2;have g:=c.trans (Ag b 12 c.2);have i:=g.trans (BE b f _ [] g.2);have j:=i.trans (Ag b 13 i.2);simp only;split
  ·have l:=j.trans (Ag b 8 j.2);have m:=l.trans (Ag b 12 l.2);have o:=m.trans (BE b f _ [] m.2);have p:=o.trans (Ag b 13 o.2);have:=p.1;simp only;omega
  ·have:=j.1;simp only;omega
 ·split
  ·rename_i k;have d:=Ag b 9 h;have e:=BW (n:=n) k (by omega);have c:=Ag b 20 d.2;have g:=c.trans (Ag b 12 c.2);have i:=g.trans (BE b f _ [] g.2);have j:=i.trans (Ag b 13 i.2);have:=j.1;simp only;omega
  ·have d:=Og b h (by unfold CQ at q;omega);have c:=Ag b 14 d.2;have:=c.1;simp only;omega
end
def EH(s:VS)(a b:Value):Array Value:=#[.int .i64 s.kind,.string s.tg.i6,.int .i64 s.tg.i9,.string s.sr.i6,.int .i64 s.sr.i9,.int .i64 s.field,a,b]
def BU:Nat→(Nat→Prop)→World→TS→List Value→Prop
 | 0,_,_,_,_=>False
 | d+1,U,w,.mk s a,c=>∃(f l:Value) (b:List (List Value)),c=(EH s f l).toList∧w.ownsRow 0 92 2 f s.args.length (BG s.args)∧(∀k,f.ownBlock=some k→U k)∧
    w.ownsRow 0 96 2 l a.length b.flatten∧b.length=a.length∧(∀k,l.ownBlock=some k→U k)∧
    ∀i (h:i<a.length) (o:i<b.length),∃(m:Value) (e:List (List Value)),b[i]=[.int .i64 (a[i].1:Nat),m]∧w.ownsRow 0 197 8 m a[i].2.length e.flatten∧e.length=a[i].2.length∧(∀k,m.ownBlock=some k→U k)∧
     ∀j (g:j<a[i].2.length) (n:j<e.length),BU d U w a[i].2[j] e[j]
def CU(d:Nat)(U:Nat→Prop)(w:World)(sv:Value)(sts:List TS):Prop:=∃a:List (List Value),w.ownsRow 0 197 8 sv sts.length a.flatten∧a.length=sts.length∧(∀k,sv.ownBlock=some k→U k)∧∀j (g:j<sts.length) (b:j<a.length),BU d U w sts[j] a[j]
theorem BU.f8:∀{d:Nat} {U:Nat→Prop} {w w':World} {t:TS} {c:List Value} {X:Nat→Prop},BU d U w t c→Ab X w w'→(∀k,U k→¬X k)→BU d U w' t c
 | 0,_,_,_,_,_,_,h,_,_=>h.elim
 | d+1,U,w,w',.mk s G,c,X,h,b,e=>by obtain ⟨m,o,n,z,A,g,B,C,l,D⟩:=h;refine ⟨m,o,n,z,Ac A b (fun k a=>e k (g k a)),g,Ac B b (fun k a=>e k (l k a)),C,l,fun i E F=>?_⟩;obtain ⟨sv,p,q,r,u,f,v⟩:=D i E F;exact ⟨sv,p,q,Ac r b (fun k a=>e k (f k a)),u,f,fun j x y=>(v j x y).f8 b e⟩
theorem BU.more:∀{d:Nat} {U U':Nat→Prop} {w:World} {t:TS} {c:List Value},BU d U w t c→(∀k,U k→U' k)→BU d U' w t c
 | 0,_,_,_,_,_,h,_=>h.elim
 | d+1,U,U',w,.mk s G,c,h,b=>by obtain ⟨e,g,f,v,x,y,z,A,B,C⟩:=h;refine ⟨e,g,f,v,x,fun k a=>b k (y k a),z,A,fun k a=>b k (B k a),fun i D E=>?_⟩;obtain ⟨F,l,m,n,o,p,q⟩:=C i D E;exact ⟨F,l,m,n,o,fun k a=>b k (p k a),fun j r u=>(q j r u).more b⟩
theorem BU.up:∀{d:Nat} {U:Nat→Prop} {w:World} {t:TS} {c:List Value},BU d U w t c→BU (d+1) U w t c
 | 0,_,_,_,_,h=>h.elim
 | d+1,U,w,.mk s D,c,h=>by obtain ⟨a,e,b,q,r,u,v,x,y,z⟩:=h;refine ⟨a,e,b,q,r,u,v,x,y,fun i A B=>?_⟩;obtain ⟨C,f,g,k,l,m,n⟩:=z i A B;exact ⟨C,f,g,k,l,m,fun j o p=>(n j o p).up⟩
theorem BU.YS{d e}{U:Nat→Prop}{w t c}(h:BU d U w t c)(a:d≤e):BU e U w t c:=by
 induction a with
 | refl=>exact h
 | step _ b=>exact b.up
theorem BU.length{d}{U:Nat→Prop}{w t c}(h:BU d U w t c):c.length=8:=by
 match d,t,h with
 | d+1,.mk s f,h=> obtain ⟨b,g,e,a,_⟩:=h;rw [a];rfl
theorem CU.f8{d}{U:Nat→Prop}{w w' sv sts}{X:Nat→Prop}(h:CU d U w sv sts)(b:Ab X w w')(c:∀k,U k→¬X k):CU d U w' sv sts:=by obtain ⟨e,i,l,a,m⟩:=h;exact ⟨e,Ac i b (fun k n=>c k (a k n)),l,a,fun j g f=>(m j g f).f8 b c⟩
theorem CU.more{d}{U U':Nat→Prop}{w c b}(h:CU d U w c b)(a:∀k,U k→U' k):CU d U' w c b:=by obtain ⟨e,i,l,m,n⟩:=h;exact ⟨e,i,l,fun k o=>a k (m k o),fun j g f=>(n j g f).more a⟩
theorem CU.YS{d e}{U:Nat→Prop}{w b a}(h:CU d U w b a)(n:d≤e):CU e U w b a:=by obtain ⟨c,i,k,l,m⟩:=h;exact ⟨c,i,k,l,fun j g f=>(m j g f).YS n⟩
theorem BU.flat{U:Nat→Prop}{w s a}(h:w.ownsRow 0 92 2 a s.args.length (BG s.args))(d:∀k,a.ownBlock=some k→U k):BU 1 U w (.mk s []) (Gl s a).toList:=
 ⟨a,.slice none 0 0,[],rfl,h,d,bE _ _ _ _,rfl,fun k c=>by simp [Value.ownBlock] at c,fun i b=>by simp at b⟩
theorem BU.blocks{d}{U:Nat→Prop}{w k b a svs}(n:svs.length=a.length)(h:w.ownsRow 0 96 2 b a.length (((a.zip svs).map fun p=>[Value.int .i64 (p.1.1:Nat),p.2]).flatten))(q:∀k,b.ownBlock=some k→U k)
 (o:∀i (h:i<a.length) (r:i<svs.length),CU d U w svs[i] a[i].2):BU (d+1) U w (.mk (Eo k) a) (EH (Eo k) (.slice none 0 0) b).toList:=by
 refine ⟨.slice none 0 0,b,(a.zip svs).map fun p=>[Value.int .i64 (p.1.1:Nat),p.2],rfl,bE _ _ _ _,fun k m=>by simp [Value.ownBlock] at m,h,by simp [n],q,fun i l s=>?_⟩;obtain ⟨c,e,f,g,j⟩:=o i l (by omega);exact ⟨svs[i]'(by omega),c,by simp,e,f,g,j⟩
def UR(b g n h:Nat)(w:World)(r:TS×PS)(e:Ending)(a:World):Prop:=
 ∃(d:Nat) (U:Nat→Prop) (s:VS) (c f:Value),e=.returned (.agg (EH s c f))∧BU d U a r.1 (EH s c f).toList∧(∀k,U k→w.heap.size≤k∧k<a.heap.size)∧A3 b g n h r.2 a∧Ab (fun k=>k=b) w a
def Xo(b g n f:Nat)(w:World)(p:Nat)(r:List TS×PS)(e:Ending)(a:World):Prop:=
 ∃(d:Nat) (U:Nat→Prop) (c:Value),e=.returned (.agg #[.int .i64 p,c])∧CU d U a c r.1∧(∀k,U k→w.heap.size≤k∧k<a.heap.size)∧A3 b g n f r.2 a∧Ab (fun k=>k=b) w a
def GK(c:Nat)(i:World)(f:Nat):Prop:=∀(b g n d:Nat) (x:PS) (a:List PT) (w:World),c≤b→Below c i w→c≤w.heap.size→A3 b g n d x w→Ba g n d a w→x.i8<n→(Aj a (n-1)).kind=0→CQ (Aj a x.i8).kind→2*(n-x.i8)≤f→
 Calls Tryz.prog 119 #[.pointer (some ⟨b,0,none⟩)] w fun e h=>UR b g n d w (Bt a n f x) e h
theorem BU.Zf{d}{U:Nat→Prop}{w t s e f}(h:BU d U w t (EH s e f).toList):(∃a l c,e=.slice a l c)∧∃a l c,f=.slice a l c:=by
 match d,t,h with
 | d+1,.mk z x,h=> obtain ⟨u,y,v,b,o,_,p,_⟩:=h;simp only [EH,List.cons.injEq] at b;obtain ⟨g,q,j,m⟩:=Ad o;obtain ⟨i,r,k,n⟩:=Ad p;exact ⟨⟨g,q,j,by rw [←m];exact b.2.2.2.2.2.2.1⟩,⟨i,r,k,by rw [←n];exact b.2.2.2.2.2.2.2.1⟩⟩
structure BR(lb d:Nat)(U:Nat→Prop)(w:World)(sv:Value)(acc:List TS)(css:List (List Value)):Prop where
 row:w.ownsRow (lb+1) 197 8 sv acc.length css.flatten
 len:css.length=acc.length
 YV:∀j (g:j<acc.length) (g':j<css.length),BU d U w acc[j] css[j]
 u:∀k,U k→lb<k∧k<w.heap.size
 apart:∀k,sv.ownBlock=some k→¬U k
theorem BR.nil(a w):BR a 0 (fun _=>False) w (.slice none 0 0) [] []:=
 ⟨bE _ _ _ _,rfl,fun j g=>by simp at g,fun k h=>h.elim,fun k h=>by simp [Value.ownBlock] at h⟩
theorem BR.f8{c d}{U:Nat→Prop}{w w' sv e f}{X:Nat→Prop}(h:BR c d U w sv e f)(b:Ab X w w')(i:∀k,c<k→k<w.heap.size→¬X k):BR c d U w' sv e f:=
 ⟨Ac h.row b (fun k a=>i k (h.row.lt k a).1 (h.row.lt k a).2),h.len,fun j g l=>(h.YV j g l).f8 b (fun k a=>i k (h.u k a).1 (h.u k a).2),fun k a=>⟨(h.u k a).1,bL (h.u k a).2 b.size⟩,h.apart⟩
theorem BR.push{f d s}{U n:Nat→Prop}{w W l i r u g o t c}(h:BR f d U w i g o)(D:BU s n w t c)(b:∀k,n k→f<k∧k<w.heap.size∧¬i.ownBlock=some k)(A:Ab (fun _=>False) w W)
 (y:l.ownsRow (f+1) 197 8 r (g.length+1) (o.flatten++c))(B:W.grownBy l i.ownBlock)(C:∀k,r.ownBlock=some k→i.ownBlock=some k∨w.heap.size≤k):
 BR f (max d s) (fun k=>U k∨n k) (l.setCell ⟨f,1,none⟩ u) r (g++[t]) (o++[c]):=by
 have p:Ab (fun k=>i.ownBlock=some k) w l:=Ab.grown (A.mono (fun _ _ q=>q.elim)) B (fun k a=>.inl a);have m:=(Ab.refl (fun k=>k=f) l).p7 1 u;have x:=h.len;refine ⟨?_,by simp [x],?_,?_,?_⟩
 ·have:=Ac y m (fun k a=>by have:=(y.lt k a).1;omega);simpa using this
 ·intro j z E;by_cases v:j<g.length
  ·rw [bT v,bT (by omega)];exact ((((h.YV j v (by omega)).f8 p (fun k a q=>h.apart k q a)).f8 m (fun k a=>by have:=(h.u k a).1;omega)).more (fun k a=>.inl a)).YS (Nat.le_max_left _ _)
  ·have e:j=g.length:=by simp at z;omega
   subst e;rw [bR (by omega),bR (by omega)];simp only [Nat.sub_self,x,bQ];exact (((D.f8 p (fun k a=>(b k a).2.2)).f8 m (fun k a=>by have:=(b k a).1;omega)).more (fun k a=>.inr a)).YS (Nat.le_max_right _ _)
 ·intro k a;have F:=p.size;have G:=m.size;rcases a with a | a
  ·exact ⟨(h.u k a).1,by have:=(h.u k a).2;omega⟩
  ·exact ⟨(b k a).1,by have:=(b k a).2.1;omega⟩
 ·intro k a q;rcases C k a with e | e
  ·rcases q with q | q
   ·exact h.apart k e q
   ·exact (b k q).2.2 e
  ·rcases q with q | q
   ·have:=(h.u k q).2;omega
   ·have:=(b k q).2.1;omega
theorem J7(b g n c x a w)(m:A3 b g n c x w)(o:Ba g n c a w)(j:x.i8<n):
 Calls Tryz.prog 118 #[.pointer (some ⟨b,0,none⟩)] w fun e p=>e=.returned (.bool (decide (CQ (Aj a x.i8).kind)))∧Ab (fun _=>False) w p:=by
 obtain ⟨k,d⟩:∃k,(Aj a x.i8).kind=k:=⟨_,rfl⟩;rw [d];obtain ⟨v,f⟩:∃v,decide (CQ k)=v:=⟨_,rfl⟩;rw [f];have h:=Aa d;have i:=Aa f;clear d f;go_enter Tryz.func118,Tryz.ntmps118;go_wp2_with (go_at_call 79;refine (A5 b g n c x a _ m o j).mono ?_;rw [h.o];rintro e q ⟨rfl,l⟩);all_goals
  go_ret;refine ⟨Ed ?_,l⟩;rw [←i.o];symm;simp only [beq_iff_eq,cN,ne_eq] at*;first
   | (rw [decide_eq_true_iff];unfold CQ;omega)
   | (rw [decide_eq_false_iff_not];unfold CQ;omega)
theorem Tryz.placeOf(a s p w):(Instr.field 184 (.agg #[.int .i64 a,.string s,.int .i64 p]) 2).run Tryz.prog w=.ok (.int .i64 p) w:=by kernel_rfl
structure JY(toks:List PT)(n:Nat)(x:PS):Prop where
 i8:x.i8=n-1
 kind:(Aj toks (n-1)).kind=0
 pos:0<n
theorem JY.fail{a n x}(h:JY a n x):JY a n (Gf a n x):=⟨rfl,h.kind,h.pos⟩
theorem JY.take{a n k x}(h:JY a n x)(b:k≠0):Af a n k x=Gf a n x:=by unfold Af;rw [cT];rw [h.i8,h.kind];omega
theorem JY.lt{a:List PT}{n:Nat}{x:PS}(h:JY a n x):x.i8<n:=by have:=h.i8;have:=h.pos;omega
end Go.Proofs.YthppbgndiplgnaaGreatDoor

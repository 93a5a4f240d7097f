/- One of the texts of the proof: PaD TrD TrE TrF TrG TrH TrI. -/
import Derived.Test.YtegmjgjkcdbmkaaGreatDoorG08
set_option maxRecDepth 100000
set_option maxHeartbeats 2000000
namespace Go.Proofs.YtegmjgjkcdbmkaaGreatDoor
open Go.RowKit
def AF(a:List PT)(n:Nat)(x:PS):VS×PS:=
 if (Ag a x.next).kind=4 then (⟨0,Ax a 1 (Af a n 4 x),Bj,0,[]⟩,Af a n 1 (Af a n 4 x))
 else if (Ag a x.next).kind=6 then (⟨10,Bj,Ax a 1 (Af a n 6 x),0,[]⟩,Af a n 1 (Af a n 6 x))
 else if (Ag a x.next).kind=17 then
  let b:=Af a n 17 x
  let d:=Af a n 15 (Af a n 1 b)
  (⟨9,Ax a 1 b,Ax a 1 d,0,[]⟩,Af a n 1 d)
 else
  let c:=Af a n 15 (Af a n 1 x)
  ({(Bw a n c).1 with tg:=Ax a 1 x},(Bw a n c).2)
theorem Md(b g n l i d w)(h:AR b g n l i w)(H:AZ g n l d w)(s:i.next<n)(I:(Ag d (n-1)).kind=0)(o:(Ag d i.next).kind=4∨(Ag d i.next).kind=6):
 Calls Tryz.prog 179 #[.pointer (some ⟨b,0,none⟩)] w fun e T=>Gg b g n l w (AF d n i) e T:=by
 rcases o with o | o
 ·obtain ⟨p,m⟩:∃y,Af d n 4 i=y:=⟨_,rfl⟩;obtain ⟨P,q⟩:∃y,Af d n 1 p=y:=⟨_,rfl⟩;obtain ⟨G,r⟩:∃y,Ax d 1 p=y:=⟨_,rfl⟩;have u:AF d n i=(⟨0,G,Bj,0,[]⟩,P):=by simp [AF,o,m,q,r]
  rw [u];have N:p.next<n:=by rw [←m];exact AO I s
  have c:=Aa (JX.start h H);have J:=Aa o;have L:=Aa m;have M:=Aa q;have K:=Aa r;clear m q r u h H o I;go_enter Tryz.func179,Tryz.ntmps179;go_wp2_with fail;refine (AS b g n l i d _ c.o.pa c.o.pt s).mono ?_;rw [J.o];rintro e U ⟨rfl,f⟩;have t:=Aa (c.o.quiet f);clear f c;have c:=t;clear t;go_wp2_with fail;refine (AG b g n l 4 i d _ c.o.pa c.o.pt s).mono ?_;rw [L.o];rintro e V ⟨rfl,h,f⟩;have j:=Aa (c.o.call h f);clear h f c;go_wp2_with fail;refine (B7 b g n l p d _ j.o.pa j.o.pt N).mono ?_;rw [M.o,K.o];rintro e O ⟨rfl,h,f⟩;have a:=Aa (j.o.call h f);clear h f j;have x:=a.o.l7.cell 0;have z:=a.o.l7.cell 1;have A:=a.o.l7.cell 2;have B:=a.o.l7.cell 3;have C:=a.o.l7.cell 4;have D:=a.o.l7.cell 5;have E:=a.o.l7.cell 6;have F:=a.o.l7.cell 7;have Q:=a.o.l7.frozen;have S:=Ae a.o.l7;simp only [dM,dJ,dK] at x z A B C D E F;unfold Je;go_wp2;have R:O.ownsRow w.heap.size 128 2 (.slice none 0 0) 0 []:=World.ownsRow_nil _ _ _ _;refine bodyPost_ret (v:=.agg (FI ⟨0,G,Bj,0,[]⟩ (.slice none 0 0))) (by simp [results,Tryz.results179,go_sem,FI,Bj,x,z,A,B,C,D,E,F];try rfl) rfl ⟨(.slice none 0 0),rfl,?_,?_,?_⟩
  ·refine Ac (X:=fun k=>k=w.heap.size) R ?_ (Aj R a.o.l7 (by decide));iterate 8 refine Ab.d8 ?_ _ _
   exact Ab.refl _ _
  ·refine Ak.O (X:=fun k=>k=w.heap.size) a.o.pa ?_ (by have:=a.o.bl;omega);iterate 8 refine Ab.d8 ?_ _ _
   exact Ab.refl _ _
  ·iterate 8 refine Ab.u9 ?_ _ _ (Nat.le_refl _)
   exact a.o.O
 ·obtain ⟨p,m⟩:∃y,Af d n 6 i=y:=⟨_,rfl⟩;obtain ⟨P,q⟩:∃y,Af d n 1 p=y:=⟨_,rfl⟩;obtain ⟨G,r⟩:∃y,Ax d 1 p=y:=⟨_,rfl⟩;have u:AF d n i=(⟨10,Bj,G,0,[]⟩,P):=by simp [AF,o,m,q,r]
  rw [u];have N:p.next<n:=by rw [←m];exact AO I s
  have c:=Aa (JX.start h H);have J:=Aa o;have L:=Aa m;have M:=Aa q;have K:=Aa r;clear m q r u h H o I;go_enter Tryz.func179,Tryz.ntmps179;go_wp2_with fail;refine (AS b g n l i d _ c.o.pa c.o.pt s).mono ?_;rw [J.o];rintro e U ⟨rfl,f⟩;have t:=Aa (c.o.quiet f);clear f c;have c:=t;clear t;go_wp2_with fail;refine (AG b g n l 6 i d _ c.o.pa c.o.pt s).mono ?_;rw [L.o];rintro e V ⟨rfl,h,f⟩;have j:=Aa (c.o.call h f);clear h f c;go_wp2_with fail;refine (B7 b g n l p d _ j.o.pa j.o.pt N).mono ?_;rw [M.o,K.o];rintro e O ⟨rfl,h,f⟩;have a:=Aa (j.o.call h f);clear h f j;have x:=a.o.l7.cell 0;have z:=a.o.l7.cell 1;have A:=a.o.l7.cell 2;have B:=a.o.l7.cell 3;have C:=a.o.l7.cell 4;have D:=a.o.l7.cell 5;have E:=a.o.l7.cell 6;have F:=a.o.l7.cell 7;have Q:=a.o.l7.frozen;have S:=Ae a.o.l7;simp only [dM,dJ,dK] at x z A B C D E F;unfold Je;go_wp2;have R:O.ownsRow w.heap.size 128 2 (.slice none 0 0) 0 []:=World.ownsRow_nil _ _ _ _;refine bodyPost_ret (v:=.agg (FI ⟨10,Bj,G,0,[]⟩ (.slice none 0 0))) (by simp [results,Tryz.results179,go_sem,FI,Bj,x,z,A,B,C,D,E,F];try rfl) rfl ⟨(.slice none 0 0),rfl,?_,?_,?_⟩
  ·refine Ac (X:=fun k=>k=w.heap.size) R ?_ (Aj R a.o.l7 (by decide));iterate 8 refine Ab.d8 ?_ _ _
   exact Ab.refl _ _
  ·refine Ak.O (X:=fun k=>k=w.heap.size) a.o.pa ?_ (by have:=a.o.bl;omega);iterate 8 refine Ab.d8 ?_ _ _
   exact Ab.refl _ _
  ·iterate 8 refine Ab.u9 ?_ _ _ (Nat.le_refl _)
   exact a.o.O
theorem Qj(b g n j l c w)(f:AR b g n j l w)(W:AZ g n j c w)(L:l.next<n)(G:(Ag c (n-1)).kind=0)(M:(Ag c l.next).kind=17):
 Calls Tryz.prog 179 #[.pointer (some ⟨b,0,none⟩)] w fun e w'=>Gg b g n j w (AF c n l) e w':=by
 obtain ⟨H,D⟩:∃y,Af c n 17 l=y:=⟨_,rfl⟩;obtain ⟨P,E⟩:∃y,Af c n 1 H=y:=⟨_,rfl⟩;obtain ⟨m,N⟩:∃y,Ax c 1 H=y:=⟨_,rfl⟩;obtain ⟨I,F⟩:∃y,Af c n 15 P=y:=⟨_,rfl⟩;obtain ⟨x4,K⟩:∃y,Af c n 1 I=y:=⟨_,rfl⟩;obtain ⟨t4,O⟩:∃y,Ax c 1 I=y:=⟨_,rfl⟩;have Y:AF c n l=(⟨9,m,t4,0,[]⟩,x4):=by simp [AF,M,D,E,N,F,K,O]
 rw [Y];have U:H.next<n:=by rw [←D];exact AO G L
 have V:P.next<n:=by rw [←E];exact AO G U
 have a0:I.next<n:=by rw [←F];exact AO G V
 have i:=Aa (JX.start f W);have HK:=Aa M;have X1:=Aa D;have X2:=Aa E;have K2:=Aa N;have X3:=Aa F;have X4:=Aa K;have K4:=Aa O;clear D E N F K O Y f W M G;go_enter Tryz.func179,Tryz.ntmps179;go_wp2_with fail;refine (AS b g n j l c _ i.o.pa i.o.pt L).mono ?_;rw [HK.o];rintro e w0 ⟨rfl,a⟩;have T:=Aa (i.o.quiet a);clear a i;have i:=T;clear T;go_wp2_with fail;refine (AG b g n j 17 l c _ i.o.pa i.o.pt L).mono ?_;rw [X1.o];rintro e w1 ⟨rfl,f,a⟩;have B:=Aa (i.o.call f a);clear f a i;go_wp2_with fail;refine (B7 b g n j H c _ B.o.pa B.o.pt U).mono ?_;rw [X2.o,K2.o];rintro e w2 ⟨rfl,f,a⟩;have J:=Aa (B.o.call f a);clear f a B;unfold Je;have a3:=Ae J.o.pa;have Q:=Aa (Ak.new w2 #[.string m.a9,.int .i64 m.c9] 128);have C:=Aa (J.o.quiet ((Ab.refl _ _).alloc (.cells #[.string m.a9,.int .i64 m.c9] 128)));clear J;go_wp2_with fail;refine (AG b g n j 15 P c _ C.o.pa C.o.pt V).mono ?_;rw [X3.o];rintro e w3 ⟨rfl,f,a⟩;have h:=Aa (C.o.call f a);have A:=Aa (Q.o.O a (by omega));clear f a C Q;have n0:=A.o.cell 0;have n1:=A.o.cell 1;simp only [dM,dJ,dK] at n0 n1;have l3:=Ae A.o;have o:=h.o.l7.cell 0;have p:=h.o.l7.cell 1;have r:=h.o.l7.cell 2;have s:=h.o.l7.cell 3;have t:=h.o.l7.cell 4;have u:=h.o.l7.cell 5;have x:=h.o.l7.cell 6;have z:=h.o.l7.cell 7;have Z:=h.o.l7.frozen;have ql:=Ae h.o.l7;simp only [dM,dJ,dK] at o p r s t u x z;go_wp2_with fail;go_region_with (go_at_call 139;refine (B7 b g n j I c _ (h.o.quiet (by repeat (first | exact Ab.refl _ _ | refine Ab.drew ?_ | refine Ab.drewN ?_ _ | refine Ab.alloc ?_ _))).pa (h.o.quiet (by repeat (first | exact Ab.refl _ _ | refine Ab.drew ?_ | refine Ab.drewN ?_ _ | refine Ab.alloc ?_ _))).pt a0).mono ?_;rw [X4.o,K4.o];rintro e w5 ⟨rfl,f,a⟩;have d:=Aa ((h.o.quiet (by repeat (first | exact Ab.refl _ _ | refine Ab.drew ?_ | refine Ab.drewN ?_ _ | refine Ab.alloc ?_ _))).call f a);have S:=Aa ((Ak.O (X:=fun _=>False) A.o (by repeat (first | exact Ab.refl _ _ | refine Ab.drew ?_ | refine Ab.drewN ?_ _ | refine Ab.alloc ?_ _)) (fun q=>q)).O a (by omega));have a1:=S.o.cell 0;have a2:=S.o.cell 1;simp only [dM,dJ,dK] at a1 a2;unfold Je;clear f a o p r s t u x z Z ql;have o:=d.o.l7.cell 0;have p:=d.o.l7.cell 1;have r:=d.o.l7.cell 2;have s:=d.o.l7.cell 3;have t:=d.o.l7.cell 4;have u:=d.o.l7.cell 5;have x:=d.o.l7.cell 6;have z:=d.o.l7.cell 7;have Z:=d.o.l7.frozen;have ql:=Ae d.o.l7;simp only [dM,dJ,dK] at o p r s t u x z);all_goals
  go_wp2;have R:w5.ownsRow w.heap.size 128 2 (.slice none 0 0) 0 []:=World.ownsRow_nil _ _ _ _;refine bodyPost_ret (v:=.agg (FI ⟨9,m,t4,0,[]⟩ (.slice none 0 0))) (by simp [results,Tryz.results179,go_sem,FI,o,p,r,s,t,u,x,z]) rfl ⟨(.slice none 0 0),rfl,?_,?_,?_⟩
  ·refine Ac (X:=fun k=>k=w.heap.size) R ?_ (Aj R d.o.l7 (by decide));iterate 8 refine Ab.d8 ?_ _ _
   exact Ab.refl _ _
  ·refine Ak.O (X:=fun k=>k=w.heap.size) d.o.pa ?_ (by have:=d.o.bl;omega);iterate 8 refine Ab.d8 ?_ _ _
   exact Ab.refl _ _
  ·iterate 8 refine Ab.u9 ?_ _ _ (Nat.le_refl _)
   exact d.o.O
theorem Tm(o:Nat)(J:World)(hF:Cf o J)(b g n l:Nat)(f:PS)(a:List PT)(w:World)(Q:o≤b)(P:Below o J w)(hB:o≤w.heap.size)(h:AR b g n l f w)(S:AZ g n l a w)(B:f.next<n)(t:(Ag a (n-1)).kind=0)
 (G:(Ag a f.next).kind≠4)(H:(Ag a f.next).kind≠6)(F:(Ag a f.next).kind≠17):
 Calls Tryz.prog 179 #[.pointer (some ⟨b,0,none⟩)] w fun e w'=>Gg b g n l w (AF a n f) e w':=by
 obtain ⟨K,q⟩:∃y,Af a n 1 f=y:=⟨_,rfl⟩;obtain ⟨m,E⟩:∃y,Ax a 1 f=y:=⟨_,rfl⟩;obtain ⟨L,r⟩:∃y,Af a n 15 K=y:=⟨_,rfl⟩;obtain ⟨s3,x3,A⟩:∃s y,Bw a n L=(s,y):=⟨_,_,rfl⟩;have T:AF a n f=({s3 with tg:=m},x3):=by simp [AF,G,H,F,q,E,r,A]
 rw [T];have R:K.next<n:=by rw [←q];exact AO t B
 have a0:L.next<n:=by rw [←r];exact AO t R
 have i:=Aa (JX.start h S);have HG:=Aa P;have HF:=Aa hF;have HZ:=Aa t;have X1:=Aa q;have K1:=Aa E;have X2:=Aa r;have X3:=Aa A;obtain ⟨I,C⟩:∃k,(Ag a f.next).kind=k:=⟨_,rfl⟩;rw [C] at G H F;have HK:=Aa C;have j4:((I:Int)==4)=false:=by simp;omega
 have j6:((I:Int)==6)=false:=by simp;omega
 have a3:((I:Int)==17)=false:=by simp;omega
 clear q E r A T h S t C G H F P hF;go_enter Tryz.func179,Tryz.ntmps179;go_wp2_with fail;refine (AS b g n l f a _ i.o.pa i.o.pt B).mono ?_;rw [HK.o];rintro e w0 ⟨rfl,d⟩;have N:=Aa (i.o.quiet d);clear d i;have i:=N;clear N;go_wp2_with fail;refine (B7 b g n l f a _ i.o.pa i.o.pt B).mono ?_;rw [X1.o,K1.o];rintro e w1 ⟨rfl,h,d⟩;have z:=Aa (i.o.call h d);clear h d i;unfold Je;have a1:=Ae z.o.pa;have M:=Aa (Ak.new w1 #[.string m.a9,.int .i64 m.c9] 128);have p:=Aa (z.o.quiet ((Ab.refl _ _).alloc (.cells #[.string m.a9,.int .i64 m.c9] 128)));clear z;go_wp2_with fail;refine (AG b g n l 15 K a _ p.o.pa p.o.pt R).mono ?_;rw [X2.o];rintro e w2 ⟨rfl,h,d⟩;have j:=Aa (p.o.call h d);have u:=Aa (M.o.O d (by omega));clear h d p M;have a2:=j.o.O.size;have l2:=Ae u.o;have a4:=Ae j.o.pa;go_wp2_with fail;refine (TZ o J HF.o b g n l L a _ Q (Ab.keeps HG.o j.o.O hB Q) (by omega) j.o.pa j.o.pt a0 HZ.o).mono ?_;rw [X3.o];rintro e w3 ⟨av,rfl,D,h,d⟩;obtain ⟨va,vl,vc,rfl⟩:=Ad D;have c:=Aa (j.o.call h d);have x:=Aa (u.o.O d (by omega));have O:=Aa (Ao D (B':=w.heap.size) (by omega));clear h d D j u;have n0:=x.o.cell 0;have n1:=x.o.cell 1;simp only [dM,dJ,dK] at n0 n1;have l3:=Ae x.o;have U:=c.o.l7.cell 0;have V:=c.o.l7.cell 1;have W:=c.o.l7.cell 2;have Y:=c.o.l7.cell 3;have Z:=c.o.l7.cell 4;have q5:=c.o.l7.cell 5;have q6:=c.o.l7.cell 6;have q7:=c.o.l7.cell 7;have qf:=c.o.l7.frozen;have ql:=Ae c.o.l7;simp only [dM,dJ,dK] at U V W Y Z q5 q6 q7;unfold FI;go_wp2;refine bodyPost_ret (v:=.agg (FI {s3 with tg:=m} (.slice va vl vc))) (by simp [results,Tryz.results179,go_sem,FI,U,V,W,Y,Z,q5,q6,q7,ql]) rfl ⟨.slice va vl vc,rfl,?_,?_,?_⟩
 ·refine Ac (X:=fun k=>k=w.heap.size) O.o ?_ (Aj O.o c.o.l7 (by decide));refine Ab.alloc ?_ _;iterate 8 refine Ab.d8 ?_ _ _
  exact Ab.refl _ _
 ·refine Ak.O (X:=fun k=>k=w.heap.size) c.o.pa ?_ (by have:=c.o.bl;omega);refine Ab.alloc ?_ _;iterate 8 refine Ab.d8 ?_ _ _
  exact Ab.refl _ _
 ·refine Ab.alloc ?_ _;iterate 8 refine Ab.u9 ?_ _ _ (Nat.le_refl _)
  exact c.o.O
theorem Ti(f l)(hF:Cf f l)(b g n d c a w)(s:f≤b)(r:Below f l w)(q:f≤w.heap.size)(i:AR b g n d c w)(j:AZ g n d a w)(h:c.next<n)(k:(Ag a (n-1)).kind=0):
 Calls Tryz.prog 179 #[.pointer (some ⟨b,0,none⟩)] w fun e t=>Gg b g n d w (AF a n c) e t:=by
 by_cases o:(Ag a c.next).kind=4
 ·exact Md b g n d c a w i j h k (.inl o)
 ·by_cases p:(Ag a c.next).kind=6
  ·exact Md b g n d c a w i j h k (.inr p)
  ·by_cases m:(Ag a c.next).kind=17
   ·exact Qj b g n d c a w i j h k m
   ·exact Tm f l hF b g n d c a w s r q i j h k o p m
inductive TS where
 | mk (s:VS) (bl:List (Nat×List TS))
def Dh(k:Nat):VS:=⟨k,Bj,Bj,0,[]⟩
def Bb(k:Nat):Prop:=k=4∨k=1∨k=17∨k=6∨k=7∨k=9
instance (k:Nat):Decidable (Bb k):=by unfold Bb;infer_instance
mutual
def AB(a:List PT)(n:Nat):Nat→PS→List TS→List TS×PS
 | 0,x,acc=>(acc,x)
 | f+1,x,acc=>if Bb (Ag a x.next).kind then AB a n f (AV a n f x).2 (acc++[(AV a n f x).1]) else (acc,x)
def AV(a:List PT)(n:Nat):Nat→PS→TS×PS
 | 0,x=>(.mk (Dh 0) [],x)
 | f+1,x=>
   if (Ag a x.next).kind=7 then
    let x2:=Af a n 20 (Af a n 7 x)
    let r:=AB a n f (Af a n 12 x2) []
    let x3:=Af a n 13 r.2
    if (Ag a x3.next).kind=8 then
     let x4:=Af a n 8 x3
     let r2:=AB a n f (Af a n 12 x4) []
     (.mk (Dh 11) [((Ax a 12 x2).c9,r.1),((Ax a 12 x4).c9,r2.1)],Af a n 13 r2.2)
    else (.mk (Dh 11) [((Ax a 12 x2).c9,r.1)],x3)
   else if (Ag a x.next).kind=9 then
    let x2:=Af a n 20 (Af a n 9 x)
    let r:=AB a n f (Af a n 12 x2) []
    (.mk (Dh 12) [((Ax a 12 x2).c9,r.1)],Af a n 13 r.2)
   else (.mk (AF a n x).1 [],Af a n 14 (AF a n x).2)
end
section
variable {a : List PT} {n : Nat}
def Hl(n:Nat)(x y:PS):Prop:=x.next≤y.next∧y.next<n
theorem Hl.trans{x y z:PS}(h:Hl n x y)(k:Hl n y z):Hl n x z:=⟨Nat.le_trans h.1 k.1,k.2⟩
theorem Ah(c:(Ag a (n-1)).kind=0)(k:Nat){x:PS}(b:x.next<n):Hl n x (Af a n k x):=by
 refine ⟨?_,AO c b⟩;unfold Af;split
 ·split
  ·exact Nat.le_refl _
  ·exact Nat.le_succ _
 ·show x.next≤n-1;omega
theorem BE{k:Nat}{x:PS}(c:(Ag a x.next).kind=k)(b:k≠0):(Af a n k x).next=x.next+1:=by unfold Af;rw [if_pos c,if_neg b]
theorem L4(c:(Ag a (n-1)).kind=0):∀(f:Nat) (x:PS) (b:List PT),x.next<n→Hl n x (CJ a f x b).2
 | 0,x,b,h=>⟨Nat.le_refl _,h⟩
 | f+1,x,b,h=>by
   simp only [CJ];split
   ·rename_i d;have g:x.next≠n-1:=by intro e;rw [e,c] at d;omega
    have:=L4 c f ⟨x.next+1,x.m8,x.aS⟩ (b++[Ag a x.next]) (by show x.next+1<n;omega);exact ⟨by have:=this.1;simp only at this;omega,this.2⟩
   ·exact ⟨Nat.le_refl _,h⟩
theorem DP(b:(Ag a (n-1)).kind=0){x:PS}(e:x.next<n):Hl n x (A6 a n x).2:=by have c:=Ah b 10 e;have d:=L4 b a.length _ [] c.2;exact (c.trans d).trans (Ah b 11 d.2)
theorem Pt(b:(Ag a (n-1)).kind=0){x:PS}(g:x.next<n):Hl n x (GI a n x).2:=by have c:=Ah b 10 g;have d:=c.trans (Ah b 17 c.2);have e:=d.trans (Ah b 1 d.2);have f:=e.trans (Ah b 11 e.2);exact f.trans (DP b f.2)
theorem Pn(b:(Ag a (n-1)).kind=0){x:PS}(f:x.next<n):Hl n x (DM a n x).2:=by
 have d:=Ah b 16 f;have c:=d.trans (Ah b 1 d.2);unfold DM;simp only;split
 ·have e:=c.trans (Ah b 19 c.2);exact e.trans (Ah b 2 e.2)
 ·exact c
theorem Mm(c:(Ag a (n-1)).kind=0){x:PS}(d:x.next<n):Hl n x (Bw a n x).2:=by
 unfold Bw;split
 ·exact Ah c 5 d
 ·split
  ·exact Pn c d
  ·split
   ·have b:=Ah c 17 d;exact b.trans (Ah c 1 b.2)
   ·split
    ·have b:=Ah c 18 d;exact b.trans (Ah c 1 b.2)
    ·split
     ·exact Pt c d
     ·have b:=Ah c 1 d;split
      ·exact b.trans (DP c b.2)
      ·exact b
theorem Og(c:(Ag a (n-1)).kind=0){x:PS}(g:x.next<n)(j:(Ag a x.next).kind=4∨(Ag a x.next).kind=1∨(Ag a x.next).kind=17∨(Ag a x.next).kind=6):x.next+1≤(AF a n x).2.next∧(AF a n x).2.next<n:=by
 unfold AF;split
 ·rename_i h;have d:=Ah c 4 g;have e:=BE (n:=n) h (by omega);have b:=Ah c 1 d.2;exact ⟨by have:=b.1;simp only;omega,b.2⟩
 ·split
  ·rename_i h;have d:=Ah c 6 g;have e:=BE (n:=n) h (by omega);have b:=Ah c 1 d.2;exact ⟨by have:=b.1;simp only;omega,b.2⟩
  ·split
   ·rename_i h;have d:=Ah c 17 g;have e:=BE (n:=n) h (by omega);have b:=Ah c 1 d.2;have f:=b.trans (Ah c 15 b.2);have i:=f.trans (Ah c 1 f.2);exact ⟨by have:=i.1;simp only;omega,i.2⟩
   ·have h:(Ag a x.next).kind=1:=by omega
    have d:=Ah c 1 g;have e:=BE (n:=n) h (by omega);have b:=Ah c 15 d.2;have f:=b.trans (Mm c b.2);exact ⟨by have:=f.1;simp only;omega,f.2⟩
theorem JD(c:(Ag a (n-1)).kind=0){x:PS}(e:x.next<n):Hl n x (AF a n x).2:=by
 unfold AF;split
 ·have b:=Ah c 4 e;exact b.trans (Ah c 1 b.2)
 ·split
  ·have b:=Ah c 6 e;exact b.trans (Ah c 1 b.2)
  ·split
   ·have b:=Ah c 17 e;have d:=b.trans (Ah c 1 b.2);have f:=d.trans (Ah c 15 d.2);exact f.trans (Ah c 1 f.2)
   ·have b:=Ah c 1 e;have d:=b.trans (Ah c 15 b.2);exact d.trans (Mm c d.2)
mutual
theorem Bo(hz:(Ag a (n-1)).kind=0):∀(f:Nat) (x:PS) (acc:List TS),x.next<n→Hl n x (AB a n f x acc).2
 | 0,x,acc,h=>⟨Nat.le_refl _,h⟩
 | f+1,x,acc,h=>by
   unfold AB;split
   ·have h1:=Fx hz f x h;exact h1.trans (Bo hz f _ _ h1.2)
   ·exact ⟨Nat.le_refl _,h⟩
theorem Fx(hz:(Ag a (n-1)).kind=0):∀(f:Nat) (x:PS),x.next<n→Hl n x (AV a n f x).2
 | 0,x,h=>⟨Nat.le_refl _,h⟩
 | f+1,x,h=>by
   unfold AV;split
   ·have h1:=Ah hz 7 h;have h2:=h1.trans (Ah hz 20 h1.2);have h3:=h2.trans (Ah hz 12 h2.2);have h4:=h3.trans (Bo hz f _ [] h3.2);have h5:=h4.trans (Ah hz 13 h4.2);simp only;split
    ·have h6:=h5.trans (Ah hz 8 h5.2);have h7:=h6.trans (Ah hz 12 h6.2);have h8:=h7.trans (Bo hz f _ [] h7.2);exact h8.trans (Ah hz 13 h8.2)
    ·exact h5
   ·split
    ·have h1:=Ah hz 9 h;have h2:=h1.trans (Ah hz 20 h1.2);have h3:=h2.trans (Ah hz 12 h2.2);have h4:=h3.trans (Bo hz f _ [] h3.2);exact h4.trans (Ah hz 13 h4.2)
    ·have h1:=JD hz h;exact h1.trans (Ah hz 14 h1.2)
end
theorem He(b:(Ag a (n-1)).kind=0)(f:Nat){x:PS}(h:x.next<n)(q:Bb (Ag a x.next).kind):x.next+1≤(AV a n (f+1) x).2.next:=by
 unfold AV;split
 ·rename_i k;have d:=Ah b 7 h;have e:=BE (n:=n) k (by omega);have c:=Ah b 20 d.2;have g:=c.trans (Ah b 12 c.2);have i:=g.trans (Bo b f _ [] g.2);have j:=i.trans (Ah b 13 i.2);simp only;split
  ·have l:=j.trans (Ah b 8 j.2);have m:=l.trans (Ah b 12 l.2);have o:=m.trans (Bo b f _ [] m.2);have p:=o.trans (Ah b 13 o.2);have:=p.1;simp only;omega
  ·have:=j.1;simp only;omega
 ·split
  ·rename_i k;have d:=Ah b 9 h;have e:=BE (n:=n) k (by omega);have c:=Ah b 20 d.2;have g:=c.trans (Ah b 12 c.2);have i:=g.trans (Bo b f _ [] g.2);have j:=i.trans (Ah b 13 i.2);have:=j.1;simp only;omega
  ·have d:=Og b h (by unfold Bb at q;omega);have c:=Ah b 14 d.2;have:=c.1;simp only;omega
end
def Ej(s:VS)(a b:Value):Array Value:=#[.int .i64 s.kind,.string s.tg.a9,.int .i64 s.tg.c9,.string s.sr.a9,.int .i64 s.sr.c9,.int .i64 s.field,a,b]
def BD:Nat→(Nat→Prop)→World→TS→List Value→Prop
 | 0,_,_,_,_=>False
 | d+1,U,w,.mk s a,c=>∃(f l:Value) (b:List (List Value)),c=(Ej s f l).toList∧w.ownsRow 0 128 2 f s.args.length (Bt s.args)∧(∀k,f.ownBlock=some k→U k)∧
    w.ownsRow 0 132 2 l a.length b.flatten∧b.length=a.length∧(∀k,l.ownBlock=some k→U k)∧
    ∀i (h:i<a.length) (o:i<b.length),∃(m:Value) (e:List (List Value)),b[i]=[.int .i64 (a[i].1:Nat),m]∧w.ownsRow 0 237 8 m a[i].2.length e.flatten∧e.length=a[i].2.length∧(∀k,m.ownBlock=some k→U k)∧
     ∀j (g:j<a[i].2.length) (n:j<e.length),BD d U w a[i].2[j] e[j]
def Cn(d:Nat)(U:Nat→Prop)(w:World)(sv:Value)(sts:List TS):Prop:=∃a:List (List Value),w.ownsRow 0 237 8 sv sts.length a.flatten∧a.length=sts.length∧(∀k,sv.ownBlock=some k→U k)∧∀j (g:j<sts.length) (b:j<a.length),BD d U w sts[j] a[j]
theorem BD.O:∀{d:Nat} {U:Nat→Prop} {w f:World} {t:TS} {c:List Value} {X:Nat→Prop},BD d U w t c→Ab X w f→(∀k,U k→¬X k)→BD d U f t c
 | 0,_,_,_,_,_,_,h,_,_=>h.elim
 | d+1,U,w,f,.mk s H,c,X,h,b,e=>by obtain ⟨n,p,o,A,B,l,C,D,m,E⟩:=h;refine ⟨n,p,o,A,Ac B b (fun k a=>e k (l k a)),l,Ac C b (fun k a=>e k (m k a)),D,m,fun i F G=>?_⟩;obtain ⟨sv,q,r,u,v,g,x⟩:=E i F G;exact ⟨sv,q,r,Ac u b (fun k a=>e k (g k a)),v,g,fun j y z=>(x j y z).O b e⟩
theorem BD.more:∀{d:Nat} {U e:Nat→Prop} {w:World} {t:TS} {c:List Value},BD d U w t c→(∀k,U k→e k)→BD d e w t c
 | 0,_,_,_,_,_,h,_=>h.elim
 | d+1,U,e,w,.mk s H,c,h,b=>by obtain ⟨f,l,g,x,y,z,A,B,C,D⟩:=h;refine ⟨f,l,g,x,y,fun k a=>b k (z k a),A,B,fun k a=>b k (C k a),fun i E F=>?_⟩;obtain ⟨G,m,n,o,p,q,r⟩:=D i E F;exact ⟨G,m,n,o,p,fun k a=>b k (q k a),fun j u v=>(r j u v).more b⟩
theorem BD.up:∀{d:Nat} {U:Nat→Prop} {w:World} {t:TS} {c:List Value},BD d U w t c→BD (d+1) U w t c
 | 0,_,_,_,_,h=>h.elim
 | d+1,U,w,.mk s D,c,h=>by obtain ⟨a,e,b,q,r,u,v,x,y,z⟩:=h;refine ⟨a,e,b,q,r,u,v,x,y,fun i A B=>?_⟩;obtain ⟨C,f,g,k,l,m,n⟩:=z i A B;exact ⟨C,f,g,k,l,m,fun j o p=>(n j o p).up⟩
theorem BD.bQ{d e}{U:Nat→Prop}{w t c}(h:BD d U w t c)(a:d≤e):BD e U w t c:=by
 induction a with
 | refl=>exact h
 | step _ b=>exact b.up
theorem BD.length{d}{U:Nat→Prop}{w t c}(h:BD d U w t c):c.length=8:=by
 match d,t,h with
 | d+1,.mk s f,h=> obtain ⟨b,g,e,a,_⟩:=h;rw [a];rfl
theorem Cn.O{d}{U:Nat→Prop}{w e sv sts}{X:Nat→Prop}(h:Cn d U w sv sts)(b:Ab X w e)(c:∀k,U k→¬X k):Cn d U e sv sts:=by obtain ⟨f,l,m,a,n⟩:=h;exact ⟨f,Ac l b (fun k o=>c k (a k o)),m,a,fun j g i=>(n j g i).O b c⟩
theorem Cn.more{d}{U a:Nat→Prop}{w e c}(h:Cn d U w e c)(b:∀k,U k→a k):Cn d a w e c:=by obtain ⟨f,l,m,n,o⟩:=h;exact ⟨f,l,m,fun k p=>b k (n k p),fun j g i=>(o j g i).more b⟩
theorem Cn.bQ{d e}{U:Nat→Prop}{w b a}(h:Cn d U w b a)(n:d≤e):Cn e U w b a:=by obtain ⟨c,i,k,l,m⟩:=h;exact ⟨c,i,k,l,fun j g f=>(m j g f).bQ n⟩
theorem BD.flat{U:Nat→Prop}{w s a}(h:w.ownsRow 0 128 2 a s.args.length (Bt s.args))(d:∀k,a.ownBlock=some k→U k):BD 1 U w (.mk s []) (FI s a).toList:=
 ⟨a,.slice none 0 0,[],rfl,h,d,World.ownsRow_nil _ _ _ _,rfl,fun k c=>by simp [Value.ownBlock] at c,fun i b=>by simp at b⟩
theorem BD.blocks{d}{U:Nat→Prop}{w k b a svs}(n:svs.length=a.length)(h:w.ownsRow 0 132 2 b a.length (((a.zip svs).map fun p=>[Value.int .i64 (p.1.1:Nat),p.2]).flatten))(q:∀k,b.ownBlock=some k→U k)
 (o:∀i (h:i<a.length) (r:i<svs.length),Cn d U w svs[i] a[i].2):BD (d+1) U w (.mk (Dh k) a) (Ej (Dh k) (.slice none 0 0) b).toList:=by
 refine ⟨.slice none 0 0,b,(a.zip svs).map fun p=>[Value.int .i64 (p.1.1:Nat),p.2],rfl,World.ownsRow_nil _ _ _ _,fun k m=>by simp [Value.ownBlock] at m,h,by simp [n],q,fun i l s=>?_⟩;obtain ⟨c,e,f,g,j⟩:=o i l (by omega);exact ⟨svs[i]'(by omega),c,by simp,e,f,g,j⟩
def VO(b g n h:Nat)(w:World)(r:TS×PS)(e:Ending)(a:World):Prop:=
 ∃(d:Nat) (U:Nat→Prop) (s:VS) (c f:Value),e=.returned (.agg (Ej s c f))∧BD d U a r.1 (Ej s c f).toList∧(∀k,U k→w.heap.size≤k∧k<a.heap.size)∧AR b g n h r.2 a∧Ab (fun k=>k=b) w a
def Ze(b g n f:Nat)(w:World)(p:Nat)(r:List TS×PS)(e:Ending)(a:World):Prop:=
 ∃(d:Nat) (U:Nat→Prop) (c:Value),e=.returned (.agg #[.int .i64 p,c])∧Cn d U a c r.1∧(∀k,U k→w.heap.size≤k∧k<a.heap.size)∧AR b g n f r.2 a∧Ab (fun k=>k=b) w a
def Gh(c:Nat)(i:World)(f:Nat):Prop:=∀(b g n d:Nat) (x:PS) (a:List PT) (w:World),c≤b→Below c i w→c≤w.heap.size→AR b g n d x w→AZ g n d a w→x.next<n→(Ag a (n-1)).kind=0→Bb (Ag a x.next).kind→2*(n-x.next)≤f→
 Calls Tryz.prog 162 #[.pointer (some ⟨b,0,none⟩)] w fun e h=>VO b g n d w (AV a n f x) e h
theorem BD.cB{d}{U:Nat→Prop}{w t s e f}(h:BD d U w t (Ej s e f).toList):(∃a l c,e=.slice a l c)∧∃a l c,f=.slice a l c:=by
 match d,t,h with
 | d+1,.mk z x,h=> obtain ⟨u,y,v,b,o,_,p,_⟩:=h;simp only [Ej,List.cons.injEq] at b;obtain ⟨g,q,j,m⟩:=Ad o;obtain ⟨i,r,k,n⟩:=Ad p;exact ⟨⟨g,q,j,by rw [←m];exact b.2.2.2.2.2.2.1⟩,⟨i,r,k,by rw [←n];exact b.2.2.2.2.2.2.2.1⟩⟩
structure BR(lb d:Nat)(U:Nat→Prop)(w:World)(sv:Value)(acc:List TS)(css:List (List Value)):Prop where
 row:w.ownsRow (lb+1) 237 8 sv acc.length css.flatten
 len:css.length=acc.length
 bV:∀j (g:j<acc.length) (g':j<css.length),BD d U w acc[j] css[j]
 u:∀k,U k→lb<k∧k<w.heap.size
 apart:∀k,sv.ownBlock=some k→¬U k
theorem BR.nil(a w):BR a 0 (fun _=>False) w (.slice none 0 0) [] []:=
 ⟨World.ownsRow_nil _ _ _ _,rfl,fun j g=>by simp at g,fun k h=>h.elim,fun k h=>by simp [Value.ownBlock] at h⟩
theorem BR.O{c d}{U:Nat→Prop}{w l sv e f}{X:Nat→Prop}(h:BR c d U w sv e f)(b:Ab X w l)(i:∀k,c<k→k<w.heap.size→¬X k):BR c d U l sv e f:=
 ⟨Ac h.row b (fun k a=>i k (h.row.lt k a).1 (h.row.lt k a).2),h.len,fun j g m=>(h.bV j g m).O b (fun k a=>i k (h.u k a).1 (h.u k a).2),fun k a=>⟨(h.u k a).1,Nat.lt_of_lt_of_le (h.u k a).2 b.size⟩,h.apart⟩
theorem BR.push{f d s}{U n:Nat→Prop}{w W l i r u g o t c}(h:BR f d U w i g o)(D:BD s n w t c)(b:∀k,n k→f<k∧k<w.heap.size∧¬i.ownBlock=some k)(A:Ab (fun _=>False) w W)
 (y:l.ownsRow (f+1) 237 8 r (g.length+1) (o.flatten++c))(B:W.grownBy l i.ownBlock)(C:∀k,r.ownBlock=some k→i.ownBlock=some k∨w.heap.size≤k):
 BR f (max d s) (fun k=>U k∨n k) (l.setCell ⟨f,1,none⟩ u) r (g++[t]) (o++[c]):=by
 have p:Ab (fun k=>i.ownBlock=some k) w l:=Ab.grown (A.mono (fun _ _ q=>q.elim)) B (fun k a=>.inl a);have m:=(Ab.refl (fun k=>k=f) l).d8 1 u;have x:=h.len;refine ⟨?_,by simp [x],?_,?_,?_⟩
 ·have:=Ac y m (fun k a=>by have:=(y.lt k a).1;omega);simpa using this
 ·intro j z E;by_cases v:j<g.length
  ·rw [List.getElem_append_left v,List.getElem_append_left (by omega)];exact ((((h.bV j v (by omega)).O p (fun k a q=>h.apart k q a)).O m (fun k a=>by have:=(h.u k a).1;omega)).more (fun k a=>.inl a)).bQ (Nat.le_max_left _ _)
  ·have e:j=g.length:=by simp at z;omega
   subst e;rw [List.getElem_append_right (by omega),List.getElem_append_right (by omega)];simp only [Nat.sub_self,x,List.getElem_cons_zero];exact (((D.O p (fun k a=>(b k a).2.2)).O m (fun k a=>by have:=(b k a).1;omega)).more (fun k a=>.inr a)).bQ (Nat.le_max_right _ _)
 ·intro k a;have F:=p.size;have G:=m.size;rcases a with a | a
  ·exact ⟨(h.u k a).1,by have:=(h.u k a).2;omega⟩
  ·exact ⟨(b k a).1,by have:=(b k a).2.1;omega⟩
 ·intro k a q;rcases C k a with e | e
  ·rcases q with q | q
   ·exact h.apart k e q
   ·exact (b k q).2.2 e
  ·rcases q with q | q
   ·have:=(h.u k q).2;omega
   ·have:=(b k q).2.1;omega
theorem Kj(b g n c x a w)(m:AR b g n c x w)(o:AZ g n c a w)(j:x.next<n):
 Calls Tryz.prog 161 #[.pointer (some ⟨b,0,none⟩)] w fun e p=>e=.returned (.bool (decide (Bb (Ag a x.next).kind)))∧Ab (fun _=>False) w p:=by
 obtain ⟨k,d⟩:∃k,(Ag a x.next).kind=k:=⟨_,rfl⟩;rw [d];obtain ⟨v,f⟩:∃v,decide (Bb k)=v:=⟨_,rfl⟩;rw [f];have h:=Aa d;have i:=Aa f;clear d f;go_enter Tryz.func161,Tryz.ntmps161;go_wp2_with (go_at_call 113;refine (AS b g n c x a _ m o j).mono ?_;rw [h.o];rintro e q ⟨rfl,l⟩);all_goals
  go_ret;refine ⟨DG ?_,l⟩;rw [←i.o];symm;simp only [beq_iff_eq,beq_eq_false_iff_ne,ne_eq] at*;first
   | (rw [decide_eq_true_iff];unfold Bb;omega)
   | (rw [decide_eq_false_iff_not];unfold Bb;omega)
theorem Tryz.placeOf(a s p w):(Instr.field 114 (.agg #[.int .i64 a,.string s,.int .i64 p]) 2).run Tryz.prog w=.ok (.int .i64 p) w:=by kernel_rfl
theorem Tryz.infoTS:(Tryz.prog.info? 237).map (fun i=>(i.zero,i.size,i.bytes))=some (some (.agg ZX),8,112):=by kernel_rfl
theorem XO(s a d l f c e):∀u∈(Ej s (.slice a l c) (.slice d f e)).toList,u.oneCell'=true:=by intro u b;simp [Ej] at b;rcases b with rfl | rfl | rfl | rfl | rfl | rfl | rfl | rfl<;>rfl
theorem ES(B0 d6 f)(ih:∀k,k≤f→Gh B0 d6 k)(b g n o s c w)(hb:B0≤b)(hG:Below B0 d6 w)(hB:B0≤w.heap.size)(hr:AR b g n o s w)(S:AZ g n o c w)(c7:s.next<n)(hz:(Ag c (n-1)).kind=0)(hf:2*(n-(Af c n 12 s).next)+1≤f):
 Calls Tryz.prog 141 #[.pointer (some ⟨b,0,none⟩)] w fun e w'=>Ze b g n o w (Ax c 12 s).c9 ((AB c n f (Af c n 12 s) []).1,Af c n 13 (AB c n f (Af c n 12 s) []).2) e w':=by
 obtain ⟨i0,hi,e8,e9,f0⟩:=info_parts Tryz.infoTS;have lr:=Ae hr;have lg:=S.lt;have hn:=S.2.2.1;have c9:=S.ne hr (by decide);have c8:=AO (k:=12) hz c7;obtain ⟨x1,M⟩:∃y,Af c n 12 s=y:=⟨_,rfl⟩;rw [M] at hf c8⊢;obtain ⟨t,k1⟩:∃y,Ax c 12 s=y:=⟨_,rfl⟩;rw [k1];obtain ⟨V,hV⟩:∃V,AB c n f x1 []=V:=⟨_,rfl⟩;rw [hV];have X1:=Aa M;have K1:=Aa k1;have HV:=Aa hV;have HZ:=Aa hz;have HG:=Aa hG;have IH:=Aa ih;clear M k1 hV hz hG ih;go_enter Tryz.func141,Tryz.ntmps141;go_wp2_with fail;refine (AG b g n o 12 s c _ (Ak.alloc hr _) (S.O ((Ab.refl (fun _=>False) _).alloc _) (fun q=>q)) c7).mono ?_;rw [X1.o,K1.o];rintro e l ⟨rfl,d3,a3⟩;have f1:=a3.size;simp at f1;have c0:=Aa ((S.O ((Ab.refl (fun _=>False) _).alloc (.cells #[.int .i64 0,.slice none 0 0] 132)) (fun q=>q)).O a3 c9);have b6:dN (Ak w.heap.size #[.int .i64 0,.slice none 0 0] 132 l):=(Ak.new w _ _).O a3 (by omega);have b7:=Aa (((Ab.refl (fun k=>k=b) w).alloc _).trans a3);have b8:=Aa d3;have f7:w.heap.size+1≤l.heap.size:=by omega
 clear d3 a3 hr S;unfold Vy;have e6:=Tryz.placeOf;go_wp2_with fail;clear e6;go_loopw [] (fun wr=>∃(x:PS) (z d:Nat) (U:Nat→Prop) (sv:Value) (L:List TS) (b2:List (List Value)),x.next<n∧L.length≤x.next∧z≤f∧2*(n-x.next)+1≤z∧dN (AR b g n o x wr)∧dN (AZ g n o c wr)∧dN (Ak w.heap.size #[.int .i64 0,.slice none 0 0] 132 wr)∧dN (Ak l.heap.size #[.int .i64 t.c9,sv] 132 wr)∧dN (BR l.heap.size d U wr sv L b2)∧dN (Ab (fun k=>k=b) w wr)∧dN (AB c n z x L=V)) (fun wr=>n-KP b wr)
 case atStart=> exact ⟨x1,f,0,fun _=>False,.slice none 0 0,[],[],c8,by simp,Nat.le_refl _,hf,Ak.alloc b8.o _,c0.o.O ((Ab.refl (fun _=>False) _).alloc _) (fun q=>q),Ak.alloc b6.o _,Ak.new _ _ _,BR.nil _ _,b7.o.alloc _,HV⟩
 case round=>
  clear b8 c0 b6 b7 HV;obtain ⟨x,z,d,U,sv,L,b2,T,f4,f5,f6,N,Q,a7,hC,a6,hO,HC⟩:=hrel;have d9:=Aa (Ed N.o);by_cases A:Bb (Ag c x.next).kind
  ·obtain ⟨r,rfl⟩:∃r,z=r+1:=⟨z-1,by omega⟩;obtain ⟨t3,x3,h3⟩:∃t y,AV c n r x=(t,y):=⟨_,_,rfl⟩;have c4:AB c n r x3 (L++[t3])=V:=by have:=HC.o;rw [AB,if_pos A,h3] at this;exact this
   have e7:x.next+1≤x3.next∧x3.next<n:=by have g1:=Fx (n:=n) HZ.o r x T;rw [h3] at g1;obtain ⟨f3,rfl⟩:∃f3,r=f3+1:=⟨r-1,by omega⟩;have g2:=He HZ.o f3 T A;rw [h3] at g2;exact ⟨g2,g1.2⟩
   have X3:=Aa h3;have d8:=Aa c4;have d7:=Aa A;have a2:decide (Bb (Ag c x.next).kind)=true:=by simp [A]
   have a9:=Aa a2;clear HC h3 c4 A a2;go_wp2_with fail;refine (Kj b g n o x c _ N.o Q.o T).mono ?_;rw [a9.o];rintro e wk ⟨rfl,m⟩;have Y:=Aa (Ak.O N.o m (fun q=>q));have Z:=Aa (Q.o.O m (fun q=>q));have A1:=Aa (a7.o.O m (fun q=>q));have K:=Aa (hC.o.O m (fun q=>q));have J:=Aa (a6.o.O m (fun _ _ _ q=>q));have P:=Aa (hO.o.bI m);clear N Q a7 hC a6 hO m;obtain ⟨C,G,E,rfl⟩:=Ad J.o.row;have c1:=K.o.cell 1;have cf:=K.o.frozen 1;have lc:=Ae K.o;have g0:=Ae Y.o;have f9:=P.o.size;simp only [dM,dJ,dK] at c1;have W:=Aa (fun k (i:Value.ownBlock (.slice C G E)=some k)=>(J.o.row.lt k i).1);go_wp2_with fail;go_region_law (first
    | (refine AT rfl _ _ 130 rfl (l.heap.size+1) 237 i0 (.agg ZX) 8 112 Tryz.underlying130 hi e8 e9 f0 rfl (by decide) _ _ _ rfl (O.o.row.alloc _) ⟨w4.heap.size,0,none⟩ 1 1 (Ej s4 (.slice aa al ac) (.slice ba bl bc)).toList rfl rfl (A5 rfl _ _) (XO _ _ _ _ _ _ _) (by decide) (by unfold maxLen;omega) (by omega) (by simp;omega) ?_;intro v' I b4 R d2;have q1:I.cell? ⟨l.heap.size,1,none⟩=some (.slice C G E):=(World.cell?_of_block (R.block l.heap.size (by simp;omega) (fun h=>by have:=W.o _ h.symm;omega))).trans (by rw [←c3];exact World.cell?_of_block (Below.heap_alloc _ _ _ d5));have q2:I.frozen? ⟨l.heap.size,1,none⟩=false:=(World.frozen?_of_block (R.block l.heap.size (by simp;omega) (fun h=>by have:=W.o _ h.symm;omega))).trans (by rw [←e0];exact World.frozen?_of_block (Below.heap_alloc _ _ _ d5));obtain ⟨D,H,F,rfl⟩:=Ad b4)
    | (go_simp;go_at_call 162;refine (IH.o r (by omega) b g n o x c _ hb (Ab.keeps HG.o (P.o.bI (by repeat (first | exact Ab.refl _ _ | refine Ab.drew ?_ | refine Ab.drewN ?_ _ | refine Ab.alloc ?_ _))) hB hb) (by simp;omega) (Ak.O (X:=fun _=>False) Y.o (by repeat (first | exact Ab.refl _ _ | refine Ab.drew ?_ | refine Ab.drewN ?_ _ | refine Ab.alloc ?_ _)) (fun q=>q)) (Z.o.O (X:=fun _=>False) (by repeat (first | exact Ab.refl _ _ | refine Ab.drew ?_ | refine Ab.drewN ?_ _ | refine Ab.alloc ?_ _)) (fun q=>q)) T HZ.o d7.o (by omega)).mono ?_;rw [X3.o];rintro e w4 ⟨d4,U4,s4,av,bv,rfl,b5,c6,a5,B⟩;obtain ⟨⟨aa,al,ac,rfl⟩,⟨ba,bl,bc,rfl⟩⟩:=b5.cB;have a4:=Ab.trans (X:=fun k=>k=b) (a:=wk) (by repeat (first | exact Ab.refl _ _ | refine Ab.drew ?_ | refine Ab.drewN ?_ _ | refine Ab.alloc ?_ _)) B;have O:=Aa (J.o.O a4 (fun k h _=>by omega));have p:=Aa (K.o.O a4 (by omega));have c3:=p.o.cell 1;have e0:=p.o.frozen 1;have d5:=Ae p.o;simp only [dM,dJ,dK] at c3;have f8:=a4.size;have b9:=Aa b5;have c2:=Aa c6;have R4:=Aa a5;have O5:=Aa a4;clear b5 c6 a5 B a4;unfold Ej;dsimp only))
   all_goals
    have a0:Ab (fun k=>Value.ownBlock (.slice C G E)=some k) w4 I:=Ab.grown ((Ab.refl _ _).alloc _) R (fun k i=>.inl i);have a8:=(Ab.refl (fun k=>k=l.heap.size) I).d8 1 (.slice D H F);have b3:∀j,j<l.heap.size→¬Value.ownBlock (.slice C G E)=some j:=fun j hj q=>by have:=W.o j q;omega
    have hP:=BR.push (u:=.slice D H F) O.o b9.o (fun k i=>by have M:=c2.o k i;simp only [World.size_drew] at M;exact ⟨by omega,M.2,fun q=>by have:=(J.o.row.lt k q).2;omega⟩) ((Ab.refl _ _).alloc _) b4 R (fun k i=>(d2 k i).imp id (fun q=>by simp at q;omega));have c5:AR b g n o x3 (I.setCell ⟨l.heap.size,1,none⟩ (.slice D H F)):=(R4.o.O a0 (b3 b (by omega))).O a8 (by omega);have e5:AZ g n o c (I.setCell ⟨l.heap.size,1,none⟩ (.slice D H F)):=((Z.o.O O5.o c9).O a0 (b3 g (by omega))).O a8 (by omega);have e1:=((A1.o.O O5.o (by omega)).O a0 (b3 w.heap.size (by omega))).O a8 (by omega);have e2:Ak l.heap.size #[.int .i64 t.c9,.slice D H F] 132 (I.setCell ⟨l.heap.size,1,none⟩ (.slice D H F)):=by have:=(p.o.O a0 (fun q=>by have:=W.o _ q;omega)).set 1 (.slice D H F);simpa using this
    have e4:Ab (fun k=>k=b) w (I.setCell ⟨l.heap.size,1,none⟩ (.slice D H F)):=(Ab.grown ((P.o.trans O5.o).alloc _) R (fun k i=>.inr (by have:=W.o k i;omega))).u9 1 _ (by omega);have e3:=Ed c5;clear b4 R d2 q1 q2 b9 c2 O p R4 a0 a8;go_wp2_with fail;go_roundw
    case rel=>exact ⟨x3,r,_,_,_,L++[t3],_,e7.2,by simp;omega,by omega,by omega,c5,e5,e1,e2,hP,e4,d8⟩
    case measure=>rw [e3,d9.o];omega
  ·have hv:V=(L,x):=by
    rw [←HC.o];cases z with
    | zero=>rfl
    | succ z=>rw [AB,if_neg A]
   subst hv
   have a2:decide (Bb (Ag c x.next).kind)=false:=by simp [A]
   have a9:=Aa a2
   clear HC A a2
   go_wp2_with fail
   refine (Kj b g n o x c _ N.o Q.o T).mono ?_
   rw [a9.o]
   rintro e wk ⟨rfl,m⟩
   have Y:=Aa (Ak.O N.o m (fun q=>q))
   have Z:=Aa (Q.o.O m (fun q=>q))
   have A1:=Aa (a7.o.O m (fun q=>q))
   have K:=Aa (hC.o.O m (fun q=>q))
   have J:=Aa (a6.o.O m (fun _ _ _ q=>q))
   have P:=Aa (hO.o.bI m)
   clear N Q a7 hC a6 hO m
   go_wp2_with fail
   refine (AG b g n o 13 x c _ Y.o Z.o T).mono ?_
   rintro e w4 ⟨rfl,a5,B⟩
   have A4:=Aa (A1.o.O B (by omega))
   have p:=Aa (K.o.O B (by omega))
   have O:=Aa (J.o.O B (fun k h _=>by omega))
   have O4:=Aa (P.o.trans B)
   have R4:=Aa a5
   clear Y Z A1 K J P a5 B
   obtain ⟨C,G,E,rfl⟩:=Ad O.o.row
   have b0:=A4.o.cell 0
   have b1:=A4.o.cell 1
   have bf:=A4.o.frozen
   have d0:=p.o.cell 0
   have d1:=p.o.cell 1
   have lB:=Ae A4.o
   have lC:=Ae p.o
   simp only [dM,dJ,dK] at b0 b1 d0 d1
   go_wp2
   refine bodyPost_ret (v:=.agg #[.int .i64 t.c9,.slice C G E]) (by simp [results,Tryz.results141,go_sem,b0,b1]) rfl ?_
   have hs:=((Ab.refl (fun k=>k=w.heap.size) w4).d8 0 (.int .i64 t.c9)).d8 1 (.slice C G E)
   have a1:=O.o.O hs (fun k M _=>by omega)
   refine ⟨d,fun k=>U k∨Value.ownBlock (.slice C G E)=some k,_,rfl,⟨b2,Ao a1.row (Nat.zero_le _),a1.len,fun k i=>.inr i,fun j g1 g2=>(a1.bV j g1 g2).more (fun k i=>.inl i)⟩,?_,R4.o.O hs (by omega),(O4.o.u9 0 _ (Nat.le_refl _)).u9 1 _ (Nat.le_refl _)⟩
   intro k i
   rcases i with i | i
   ·have:=a1.u k i;exact ⟨by omega,this.2⟩
   ·have:=a1.row.lt k i;exact ⟨by omega,this.2⟩
theorem Vo{w:World}{j:Nat}(b:j=w.heap.size)(a c:Value):(w.alloc (.cells #[a,c] 132)).ownsRow 0 132 2 (.slice (some ⟨j,0,none⟩) 1 1) 1 [a,c]:=by subst b;exact ⟨rfl,.inr ⟨w.heap.size,1,#[a,c],rfl,Nat.zero_le _,heap_alloc_new w _,Nat.le_refl _,by unfold maxLen;omega,rfl,rfl⟩⟩
theorem Qn(s J f)(ih:∀k,k≤f→Gh s J k)(b g n r o a w)(Q:s≤b)(O:Below s J w)(hB:s≤w.heap.size)(m:AR b g n r o w)(Y:AZ g n r a w)(R:o.next<n)(x:(Ag a (n-1)).kind=0)(c:(Ag a o.next).kind=9)(hf:2*(n-o.next)≤f+1):
 Calls Tryz.prog 178 #[.pointer (some ⟨b,0,none⟩)] w fun e w'=>VO b g n r w (AV a n (f+1) o) e w':=by
 obtain ⟨K,t⟩:∃y,Af a n 9 o=y:=⟨_,rfl⟩;obtain ⟨D,C⟩:∃y,Af a n 20 K=y:=⟨_,rfl⟩;obtain ⟨p,I⟩:∃y,(Ax a 12 D).c9=y:=⟨_,rfl⟩;obtain ⟨l3,y3,E⟩:∃l y,AB a n f (Af a n 12 D) []=(l,y):=⟨_,_,rfl⟩;obtain ⟨x3,F⟩:∃y,Af a n 13 y3=y:=⟨_,rfl⟩;have Z:AV a n (f+1) o=(.mk (Dh 12) [(p,l3)],x3):=by rw [AV,if_neg (by omega),if_pos c];simp only [t,C,I,E,F]
 rw [Z];have M:=BE (n:=n) c (by omega);rw [t] at M;have S:K.next<n:=by rw [←t];exact AO x R
 have B:=Ah x 20 S;rw [C] at B;have T:=B.2;have N:=Ah x 12 T;have a1:2*(n-(Af a n 12 D).next)+1≤f:=by have:=B.1;have:=N.1;omega
 have z:=Aa (JX.start m Y);have HG:=Aa O;have IH:=Aa ih;have HZ:=Aa x;have X1:=Aa t;have X2:=Aa C;have XP:=Aa I;have X3:=Aa E;have X4:=Aa F;clear t C I E F Z m Y x c O ih B N M;go_enter Tryz.func178,Tryz.ntmps178;go_wp2_with fail;refine (AG b g n r 9 o a _ z.o.pa z.o.pt R).mono ?_;rw [X1.o];rintro e w1 ⟨rfl,m,u⟩;have A:=Aa (z.o.call m u);clear m u z;go_wp2_with fail;refine (AG b g n r 20 K a _ A.o.pa A.o.pt S).mono ?_;rw [X2.o];rintro e w2 ⟨rfl,m,u⟩;have q:=Aa (A.o.call m u);clear m u A;have a6:=q.o.O.size;have a2:=Aa (Ae q.o.l7);go_wp2_with fail;refine (ES s J f IH.o b g n r D a _ Q (Ab.keeps HG.o q.o.O hB Q) (by omega) q.o.pa q.o.pt T HZ.o a1).mono ?_;rw [XP.o,X3.o];simp only;rw [X4.o];rintro e w3 ⟨d,U,sv,rfl,G,P,V,H⟩;have a0:=G;obtain ⟨a4,W,_⟩:=a0;obtain ⟨va,vl,vc,rfl⟩:=Ad W;have j:=Aa (q.o.call V H);have HT:=Aa G;have L:=Aa P;have a7:=H.size;clear G P V H W q;have q0:=j.o.l7.cell 0;have q1:=j.o.l7.cell 1;have q2:=j.o.l7.cell 2;have q3:=j.o.l7.cell 3;have q4:=j.o.l7.cell 4;have q5:=j.o.l7.cell 5;have q6:=j.o.l7.cell 6;have q7:=j.o.l7.cell 7;have qf:=j.o.l7.frozen;have ql:=Ae j.o.l7;simp only [dM,dJ,dK] at q0 q1 q2 q3 q4 q5 q6 q7;go_wp2;refine bodyPost_ret (v:=.agg (Ej (Dh 12) (.slice none 0 0) (.slice (some ⟨w3.heap.size,0,none⟩) 1 1))) (by simp [results,Tryz.results178,go_sem,Ej,Dh,Bj,q0,q1,q2,q3,q4,q5,q6,q7,ql];try rfl) rfl ?_;have a3:b≠w.heap.size:=by have:=j.o.bl;omega
 have a5:w.heap.size<w2.heap.size:=by have:=a2.o;omega
 refine ⟨d+1,fun k=>U k∨k=w3.heap.size,Dh 12,_,_,rfl,?_,?_,?_,?_⟩
 ·refine BD.blocks (svs:=[.slice va vl vc]) rfl (Vo (by simp) _ _) (fun k c=>.inr (by simp [Value.ownBlock] at c;omega)) ?_;intro i h h';have e:i=0:=by simp at h;omega
  subst e;refine Cn.more ?_ (fun k c=>.inl c);refine HT.o.O (X:=fun k=>k=w.heap.size) ?_ (fun k c=>by have:=(L.o k c).1;omega);refine Ab.alloc ?_ _;iterate 8 refine Ab.d8 ?_ _ _
  exact Ab.refl _ _
 ·intro k c;simp only [World.size_alloc,World.size_setCell];rcases c with c | c
  ·have:=L.o k c;omega
  ·omega
 ·refine Ak.O (X:=fun k=>k=w.heap.size) j.o.pa ?_ a3;refine Ab.alloc ?_ _;iterate 8 refine Ab.d8 ?_ _ _
  exact Ab.refl _ _
 ·refine Ab.alloc ?_ _;iterate 8 refine Ab.u9 ?_ _ _ (Nat.le_refl _)
  exact j.o.O
end Go.Proofs.YtegmjgjkcdbmkaaGreatDoor

/- Part of the proof: PaD TrD TrE TrF TrG TrH TrI TrJ. -/
import Derived.Test.YtaningfhibkemaaGreatDoorG04
set_option maxRecDepth 100000
set_option maxHeartbeats 2000000
namespace Go.Proofs.YtaningfhibkemaaGreatDoor
open Go.RowKit Go.Proofs.Tryz
def AS(a:List PT)(n:Nat)(x:PS):VS×PS:=
 if (Aj a x.next).kind=4 then(⟨0,AG a 1 (Af a n 4 x),BG,0,[]⟩,Af a n 1 (Af a n 4 x))
 else if (Aj a x.next).kind=6 then(⟨10,BG,AG a 1 (Af a n 6 x),0,[]⟩,Af a n 1 (Af a n 6 x))
 else if (Aj a x.next).kind=17 then
  let b:=Af a n 17 x
  let d:=Af a n 15 (Af a n 1 b)
  (⟨9,AG a 1 b,AG a 1 d,0,[]⟩,Af a n 1 d)
 else
  let c:=Af a n 15 (Af a n 1 x)
  ({(Cm a n c).1 with tg:=AG a 1 x},(Cm a n c).2)
theorem Nt(b g n l i c w)(f:AX b g n l i w)(I:AY g n l c w)(s:i.next<n)(K:(Aj c (n-1)).kind=0)(o:(Aj c i.next).kind=4\/(Aj c i.next).kind=6):
 Calls prog 173 #[.pointer (some ⟨b,0,none⟩)] w fun e w'=>Hc b g n l w (AS c n i) e w':=by
 rcases o with o|o
 .obtain⟨p,m⟩:∃y,Af c n 4 i=y:=⟨_,rfl⟩;obtain⟨U,q⟩:∃y,Af c n 1 p=y:=⟨_,rfl⟩;obtain⟨H,r⟩:∃y,AG c 1 p=y:=⟨_,rfl⟩;have u:AS c n i=(⟨0,H,BG,0,[]⟩,U):=by simp[AS,o,m,q,r]
  rw[u];have Q:p.next<n:=by rw[<-m];exact AU K s
  have a:=J (KU.start f I);have L:=J o;have N:=J m;have P:=J q;have M:=J r;clear m q r u f I o K;go_enter func173,ntmps173;go_wp2_with fail;refine(AZ b g n l i c _ a.o.pa a.o.pt s).mono ?_;rw[L.o];rintro e w0 ⟨rfl,d⟩;have t:=J (a.o.quiet d);clear d a;have a:=t;clear t;go_wp2_with fail;refine(AH b g n l 4 i c _ a.o.pa a.o.pt s).mono ?_;rw[N.o];rintro e w1 ⟨rfl,f,d⟩;have j:=J (a.o.call f d);clear f d a;go_wp2_with fail;refine(Cy b g n l p c _ j.o.pa j.o.pt Q).mono ?_;rw[P.o,M.o];rintro e S ⟨rfl,f,d⟩;have h:=J (j.o.call f d);clear f d j;obtain⟨x,z,A,B,C,E,F,G⟩:=h.o.cN.e8 0 1 2 3 4 5 6 7;have V:=h.o.cN.frozen;have Y:=Ae h.o.cN;simp only[gH,gF,gG]at x z A B C E F G;unfold J9;go_wp2;have R:S.ownsRow w.heap.size 126 2 (.slice none 0 0) 0 []:=gR _ _ _ _;refine gP (v:=.agg (GD ⟨0,H,BG,0,[]⟩ (.slice none 0 0))) (by simp[results,results173,go_sem,GD,BG,x,z,A,B,C,E,F,G];try rfl) rfl ⟨(.slice none 0 0),rfl,?_,?_,?_⟩
  .refine Ac (X:=fun k=>k=w.heap.size) R ?_ (Am R h.o.cN T);iterate 8 refine O.t9 ?_ _ _
   exact O.refl _ _
  .refine W.d8 (X:=fun k=>k=w.heap.size) h.o.pa ?_ (by have:=h.o.bl;omega);iterate 8 refine O.t9 ?_ _ _
   exact O.refl _ _
  .iterate 8 refine O.cE ?_ _ _ (gI _)
   exact h.o.d8
 .obtain⟨p,m⟩:∃y,Af c n 6 i=y:=⟨_,rfl⟩;obtain⟨U,q⟩:∃y,Af c n 1 p=y:=⟨_,rfl⟩;obtain⟨H,r⟩:∃y,AG c 1 p=y:=⟨_,rfl⟩;have u:AS c n i=(⟨10,BG,H,0,[]⟩,U):=by simp[AS,o,m,q,r]
  rw[u];have Q:p.next<n:=by rw[<-m];exact AU K s
  have a:=J (KU.start f I);have L:=J o;have N:=J m;have P:=J q;have M:=J r;clear m q r u f I o K;go_enter func173,ntmps173;go_wp2_with fail;refine(AZ b g n l i c _ a.o.pa a.o.pt s).mono ?_;rw[L.o];rintro e w0 ⟨rfl,d⟩;have t:=J (a.o.quiet d);clear d a;have a:=t;clear t;go_wp2_with fail;refine(AH b g n l 6 i c _ a.o.pa a.o.pt s).mono ?_;rw[N.o];rintro e w1 ⟨rfl,f,d⟩;have j:=J (a.o.call f d);clear f d a;go_wp2_with fail;refine(Cy b g n l p c _ j.o.pa j.o.pt Q).mono ?_;rw[P.o,M.o];rintro e S ⟨rfl,f,d⟩;have h:=J (j.o.call f d);clear f d j;obtain⟨x,z,A,B,C,E,F,G⟩:=h.o.cN.e8 0 1 2 3 4 5 6 7;have V:=h.o.cN.frozen;have Y:=Ae h.o.cN;simp only[gH,gF,gG]at x z A B C E F G;unfold J9;go_wp2;have R:S.ownsRow w.heap.size 126 2 (.slice none 0 0) 0 []:=gR _ _ _ _;refine gP (v:=.agg (GD ⟨10,BG,H,0,[]⟩ (.slice none 0 0))) (by simp[results,results173,go_sem,GD,BG,x,z,A,B,C,E,F,G];try rfl) rfl ⟨(.slice none 0 0),rfl,?_,?_,?_⟩
  .refine Ac (X:=fun k=>k=w.heap.size) R ?_ (Am R h.o.cN T);iterate 8 refine O.t9 ?_ _ _
   exact O.refl _ _
  .refine W.d8 (X:=fun k=>k=w.heap.size) h.o.pa ?_ (by have:=h.o.bl;omega);iterate 8 refine O.t9 ?_ _ _
   exact O.refl _ _
  .iterate 8 refine O.cE ?_ _ _ (gI _)
   exact h.o.d8
theorem RI(b g n h i c w)(d:AX b g n h i w)(ht:AY g n h c w)(M:i.next<n)(F:(Aj c (n-1)).kind=0)(N:(Aj c i.next).kind=17):
 Calls prog 173 #[.pointer (some ⟨b,0,none⟩)] w fun e w'=>Hc b g n h w (AS c n i) e w':=by
 obtain⟨G,B⟩:∃y,Af c n 17 i=y:=⟨_,rfl⟩;obtain⟨S,C⟩:∃y,Af c n 1 G=y:=⟨_,rfl⟩;obtain⟨m,P⟩:∃y,AG c 1 G=y:=⟨_,rfl⟩;obtain⟨H,E⟩:∃y,Af c n 15 S=y:=⟨_,rfl⟩;obtain⟨x4,L⟩:∃y,Af c n 1 H=y:=⟨_,rfl⟩;obtain⟨t4,Q⟩:∃y,AG c 1 H=y:=⟨_,rfl⟩;have hv:AS c n i=(⟨9,m,t4,0,[]⟩,x4):=by simp[AS,N,B,C,P,E,L,Q]
 rw[hv];have Y:G.next<n:=by rw[<-B];exact AU F M
 have a0:S.next<n:=by rw[<-C];exact AU F Y
 have a1:H.next<n:=by rw[<-E];exact AU F a0
 have f:=J (KU.start d ht);have HK:=J N;have X1:=J B;have X2:=J C;have K2:=J P;have X3:=J E;have X4:=J L;have K4:=J Q;clear B C P E L Q hv d ht N F;go_enter func173,ntmps173;go_wp2_with fail;refine(AZ b g n h i c _ f.o.pa f.o.pt M).mono ?_;rw[HK.o];rintro e w0 ⟨rfl,a⟩;have V:=J (f.o.quiet a);clear a f;have f:=V;clear V;go_wp2_with fail;refine(AH b g n h 17 i c _ f.o.pa f.o.pt M).mono ?_;rw[X1.o];rintro e w1 ⟨rfl,d,a⟩;have z:=J (f.o.call d a);clear d a f;go_wp2_with fail;refine(Cy b g n h G c _ z.o.pa z.o.pt Y).mono ?_;rw[X2.o,K2.o];rintro e w2 ⟨rfl,d,a⟩;have K:=J (z.o.call d a);clear d a z;unfold J9;have a4:=Ae K.o.pa;have U:=J (W.new w2 #[.string m.d9,.int .i64 m.l7] 126);have A:=J (K.o.quiet ((O.refl _ _).alloc (.cells #[.string m.d9,.int .i64 m.l7] 126)));clear K;go_wp2_with fail;refine(AH b g n h 15 S c _ A.o.pa A.o.pt a0).mono ?_;rw[X3.o];rintro e w3 ⟨rfl,d,a⟩;have l:=J (A.o.call d a);have I:=J (U.o.d8 a Z);clear d a A U;obtain⟨n0,n1⟩:=I.o.e2 0 1;simp only[gH,gF,gG]at n0 n1;have l3:=Ae I.o;obtain⟨o,p,q,r,s,t,u,x⟩:=l.o.cN.e8 0 1 2 3 4 5 6 7;have qf:=l.o.cN.frozen;have ql:=Ae l.o.cN;simp only[gH,gF,gG]at o p q r s t u x;go_wp2_with fail;go_region_with(go_at_call 140;refine(Cy b g n h H c _ (l.o.quiet jV).pa (l.o.quiet jV).pt a1).mono ?_;rw[X4.o,K4.o];rintro e w5 ⟨rfl,d,a⟩;have j:=J ((l.o.quiet jV).call d a);have B5:=J ((W.d8 (X:=kD) I.o jV id).d8 a Z);obtain⟨a2,a3⟩:=B5.o.e2 0 1;simp only[gH,gF,gG]at a2 a3;unfold J9;clear d a o p q r s t u x qf ql;obtain⟨o,p,q,r,s,t,u,x⟩:=j.o.cN.e8 0 1 2 3 4 5 6 7;have qf:=j.o.cN.frozen;have ql:=Ae j.o.cN;simp only[gH,gF,gG]at o p q r s t u x);all_goals
  go_wp2;have R:w5.ownsRow w.heap.size 126 2 (.slice none 0 0) 0 []:=gR _ _ _ _;refine gP (v:=.agg (GD ⟨9,m,t4,0,[]⟩ (.slice none 0 0))) (by simp[results,results173,go_sem,GD,o,p,q,r,s,t,u,x]) rfl ⟨(.slice none 0 0),rfl,?_,?_,?_⟩
  .refine Ac (X:=fun k=>k=w.heap.size) R ?_ (Am R j.o.cN T);iterate 8 refine O.t9 ?_ _ _
   exact O.refl _ _
  .refine W.d8 (X:=fun k=>k=w.heap.size) j.o.pa ?_ (by have:=j.o.bl;omega);iterate 8 refine O.t9 ?_ _ _
   exact O.refl _ _
  .iterate 8 refine O.cE ?_ _ _ (gI _)
   exact j.o.d8
theorem Uz(o:Nat)(K:World)(hF:Cc o K)(b g n l:Nat)(d:PS)(a:List PT)(w:World)(U:o<=b)(S:Below o K w)(hB:o<=w.heap.size)(f:AX b g n l d w)(Y:AY g n l a w)(A:d.next<n)(t:(Aj a (n-1)).kind=0)
 (G:(Aj a d.next).kind≠4)(H:(Aj a d.next).kind≠6)(F:(Aj a d.next).kind≠17):
 Calls prog 173 #[.pointer (some ⟨b,0,none⟩)] w fun e w'=>Hc b g n l w (AS a n d) e w':=by
 obtain⟨L,q⟩:∃y,Af a n 1 d=y:=⟨_,rfl⟩;obtain⟨m,E⟩:∃y,AG a 1 d=y:=⟨_,rfl⟩;obtain⟨M,r⟩:∃y,Af a n 15 L=y:=⟨_,rfl⟩;obtain⟨s3,x3,z⟩:∃s y,Cm a n M=(s,y):=⟨_,_,rfl⟩;have hv:AS a n d=({s3 with tg:=m},x3):=by simp[AS,G,H,F,q,E,r,z]
 rw[hv];have V:L.next<n:=by rw[<-q];exact AU t A
 have a0:M.next<n:=by rw[<-r];exact AU t V
 have h:=J (KU.start f Y);have HG:=J S;have HF:=J hF;have HZ:=J t;have X1:=J q;have K1:=J E;have X2:=J r;have X3:=J z;obtain⟨I,B⟩:∃k,(Aj a d.next).kind=k:=⟨_,rfl⟩;rw[B]at G H F;have HK:=J B;have j4:((I:Int)==4)=false:=jX;have j6:((I:Int)==6)=false:=jX;have a3:((I:Int)==17)=false:=jX;clear q E r z hv f Y t B G H F S hF;go_enter func173,ntmps173;go_wp2_with fail;refine(AZ b g n l d a _ h.o.pa h.o.pt A).mono ?_;rw[HK.o];rintro e w0 ⟨rfl,c⟩;have Q:=J (h.o.quiet c);clear c h;have h:=Q;clear Q;go_wp2_with fail;refine(Cy b g n l d a _ h.o.pa h.o.pt A).mono ?_;rw[X1.o,K1.o];rintro e w1 ⟨rfl,f,c⟩;have x:=J (h.o.call f c);clear f c h;unfold J9;have a1:=Ae x.o.pa;have N:=J (W.new w1 #[.string m.d9,.int .i64 m.l7] 126);have p:=J (x.o.quiet ((O.refl _ _).alloc (.cells #[.string m.d9,.int .i64 m.l7] 126)));clear x;go_wp2_with fail;refine(AH b g n l 15 L a _ p.o.pa p.o.pt V).mono ?_;rw[X2.o];rintro e w2 ⟨rfl,f,c⟩;have i:=J (p.o.call f c);have u:=J (N.o.d8 c Z);clear f c p N;have a2:=i.o.d8.size;have l2:=Ae u.o;have a4:=Ae i.o.pa;go_wp2_with fail;refine(U8 o K HF.o b g n l M a _ U (O.keeps HG.o i.o.d8 hB U) Z i.o.pa i.o.pt a0 HZ.o).mono ?_;rw[X3.o];rintro e w3 ⟨av,rfl,C,f,c⟩;obtain⟨va,vl,vc,rfl⟩:=Ad C;have j:=J (i.o.call f c);have P:=J (u.o.d8 c Z);have R:=J (Aq C (B':=w.heap.size) Z);clear f c C i u;obtain⟨n0,n1⟩:=P.o.e2 0 1;simp only[gH,gF,gG]at n0 n1;have l3:=Ae P.o;obtain⟨q0,q1,q2,q3,q4,q5,q6,q7⟩:=j.o.cN.e8 0 1 2 3 4 5 6 7;have qf:=j.o.cN.frozen;have ql:=Ae j.o.cN;simp only[gH,gF,gG]at q0 q1 q2 q3 q4 q5 q6 q7;unfold GD;go_wp2;refine gP (v:=.agg (GD {s3 with tg:=m} (.slice va vl vc))) (by simp[results,results173,go_sem,GD,q0,q1,q2,q3,q4,q5,q6,q7,ql]) rfl ⟨.slice va vl vc,rfl,?_,?_,?_⟩
 .refine Ac (X:=fun k=>k=w.heap.size) R.o ?_ (Am R.o j.o.cN T);refine O.alloc ?_ _;iterate 8 refine O.t9 ?_ _ _
  exact O.refl _ _
 .refine W.d8 (X:=fun k=>k=w.heap.size) j.o.pa ?_ (by have:=j.o.bl;omega);refine O.alloc ?_ _;iterate 8 refine O.t9 ?_ _ _
  exact O.refl _ _
 .refine O.alloc ?_ _;iterate 8 refine O.cE ?_ _ _ (gI _)
  exact j.o.d8
theorem Uw(f l)(hF:Cc f l)(b g n d c a w)(s:f<=b)(r:Below f l w)(q:f<=w.heap.size)(i:AX b g n d c w)(j:AY g n d a w)(h:c.next<n)(k:(Aj a (n-1)).kind=0):
 Calls prog 173 #[.pointer (some ⟨b,0,none⟩)] w fun e t=>Hc b g n d w (AS a n c) e t:=by
 by_cases o:(Aj a c.next).kind=4
 .exact Nt b g n d c a w i j h k (.inl o)
 .by_cases p:(Aj a c.next).kind=6
  .exact Nt b g n d c a w i j h k (.inr p)
  .by_cases m:(Aj a c.next).kind=17
   .exact RI b g n d c a w i j h k m
   .exact Uz f l hF b g n d c a w s r q i j h k o p m
inductive TS where
 |mk (s:VS) (bl:List (Nat×List TS))
def EA(k:Nat):VS:=⟨k,BG,BG,0,[]⟩
def CQ(k:Nat):Prop:=k=4\/k=1\/k=17\/k=6\/k=7\/k=9
instance (k:Nat):Decidable (CQ k):=by unfold CQ;infer_instance
mutual
def AN(a:List PT)(n:Nat):Nat->PS->List TS->List TS×PS
 |0,x,acc=>(acc,x)
 |f+1,x,acc=>if CQ (Aj a x.next).kind then AN a n f (Bu a n f x).2 (acc++[(Bu a n f x).1])else(acc,x)
def Bu(a:List PT)(n:Nat):Nat->PS->TS×PS
 |0,x=>(.mk (EA 0) [],x)
 |f+1,x=>
  if (Aj a x.next).kind=7 then
   let x2:=Af a n 20 (Af a n 7 x)
   let r:=AN a n f (Af a n 12 x2) []
   let x3:=Af a n 13 r.2
   if (Aj a x3.next).kind=8 then
    let x4:=Af a n 8 x3
    let r2:=AN a n f (Af a n 12 x4) []
    (.mk (EA 11) [((AG a 12 x2).l7,r.1),((AG a 12 x4).l7,r2.1)],Af a n 13 r2.2)
   else(.mk (EA 11) [((AG a 12 x2).l7,r.1)],x3)
  else if (Aj a x.next).kind=9 then
   let x2:=Af a n 20 (Af a n 9 x)
   let r:=AN a n f (Af a n 12 x2) []
   (.mk (EA 12) [((AG a 12 x2).l7,r.1)],Af a n 13 r.2)
  else(.mk (AS a n x).1 [],Af a n 14 (AS a n x).2)
end
section
variable{a:List PT}{n:Nat}
def IQ(n:Nat)(x y:PS):Prop:=x.next<=y.next/\y.next<n
theorem IQ.trans{x y z:PS}(h:IQ n x y)(k:IQ n y z):IQ n x z:=⟨gW h.1 k.1,k.2⟩
theorem Ah(c:(Aj a (n-1)).kind=0)(k:Nat){x:PS}(b:x.next<n):IQ n x (Af a n k x):=by
 refine⟨?_,AU c b⟩;unfold Af;split
 .split
  .exact gI _
  .exact Nat.le_succ _
 .show x.next<=n-1;omega
theorem BY{k:Nat}{x:PS}(c:(Aj a x.next).kind=k)(b:k≠0):(Af a n k x).next=x.next+1:=by unfold Af;rw[jH c,jG b]
theorem No(c:(Aj a (n-1)).kind=0):∀(f:Nat) (x:PS) (b:List PT),x.next<n->IQ n x (DH a f x b).2
 |0,x,b,h=>⟨gI _,h⟩
 |f+1,x,b,h=>by
  simp only[DH];split
  .rename_i d;have g:x.next≠n-1:=by intro e;rw[e,c]at d;omega
   have:=No c f ⟨x.next+1,x.cH,x.cW⟩ (b++[Aj a x.next]) (by show x.next+1<n;omega);exact⟨by have:=this.1;simp only at this;omega,this.2⟩
  .exact⟨gI _,h⟩
theorem Ex(b:(Aj a (n-1)).kind=0){x:PS}(e:x.next<n):IQ n x (Br a n x).2:=by have c:=Ah b 10 e;have d:=No b a.length _ [] c.2;exact(c.trans d).trans (Ah b 11 d.2)
theorem Rb(b:(Aj a (n-1)).kind=0){x:PS}(g:x.next<n):IQ n x (IY a n x).2:=by have c:=Ah b 10 g;have d:=c.trans (Ah b 17 c.2);have e:=d.trans (Ah b 1 d.2);have f:=e.trans (Ah b 11 e.2);exact f.trans (Ex b f.2)
theorem Q6(b:(Aj a (n-1)).kind=0){x:PS}(f:x.next<n):IQ n x (EX a n x).2:=by
 have d:=Ah b 16 f;have c:=d.trans (Ah b 1 d.2);unfold EX;simp only;split
 .have e:=c.trans (Ah b 19 c.2);exact e.trans (Ah b 2 e.2)
 .exact c
theorem NI(c:(Aj a (n-1)).kind=0){x:PS}(d:x.next<n):IQ n x (Cm a n x).2:=by
 unfold Cm;split
 .exact Ah c 5 d
 .split
  .exact Q6 c d
  .split
   .have b:=Ah c 17 d;exact b.trans (Ah c 1 b.2)
   .split
    .have b:=Ah c 18 d;exact b.trans (Ah c 1 b.2)
    .split
     .exact Rb c d
     .have b:=Ah c 1 d;split
      .exact b.trans (Ex c b.2)
      .exact b
theorem Qh(c:(Aj a (n-1)).kind=0){x:PS}(g:x.next<n)(j:(Aj a x.next).kind=4\/(Aj a x.next).kind=1\/(Aj a x.next).kind=17\/(Aj a x.next).kind=6):x.next+1<=(AS a n x).2.next/\(AS a n x).2.next<n:=by
 unfold AS;split
 .rename_i h;have d:=Ah c 4 g;have e:=BY (n:=n) h Z;have b:=Ah c 1 d.2;exact⟨by have:=b.1;simp only;omega,b.2⟩
 .split
  .rename_i h;have d:=Ah c 6 g;have e:=BY (n:=n) h Z;have b:=Ah c 1 d.2;exact⟨by have:=b.1;simp only;omega,b.2⟩
  .split
   .rename_i h;have d:=Ah c 17 g;have e:=BY (n:=n) h Z;have b:=Ah c 1 d.2;have f:=b.trans (Ah c 15 b.2);have i:=f.trans (Ah c 1 f.2);exact⟨by have:=i.1;simp only;omega,i.2⟩
   .have h:(Aj a x.next).kind=1:=Z;have d:=Ah c 1 g;have e:=BY (n:=n) h Z;have b:=Ah c 15 d.2;have f:=b.trans (NI c b.2);exact⟨by have:=f.1;simp only;omega,f.2⟩
theorem Kz(c:(Aj a (n-1)).kind=0){x:PS}(e:x.next<n):IQ n x (AS a n x).2:=by
 unfold AS;split
 .have b:=Ah c 4 e;exact b.trans (Ah c 1 b.2)
 .split
  .have b:=Ah c 6 e;exact b.trans (Ah c 1 b.2)
  .split
   .have b:=Ah c 17 e;have d:=b.trans (Ah c 1 b.2);have f:=d.trans (Ah c 15 d.2);exact f.trans (Ah c 1 f.2)
   .have b:=Ah c 1 e;have d:=b.trans (Ah c 15 b.2);exact d.trans (NI c d.2)
mutual
theorem BD(hz:(Aj a (n-1)).kind=0):∀(f:Nat) (x:PS) (acc:List TS),x.next<n->IQ n x (AN a n f x acc).2
 |0,x,acc,h=>⟨gI _,h⟩
 |f+1,x,acc,h=>by
  unfold AN;split
  .have h1:=Gt hz f x h;exact h1.trans (BD hz f _ _ h1.2)
  .exact⟨gI _,h⟩
theorem Gt(hz:(Aj a (n-1)).kind=0):∀(f:Nat) (x:PS),x.next<n->IQ n x (Bu a n f x).2
 |0,x,h=>⟨gI _,h⟩
 |f+1,x,h=>by
  unfold Bu;split
  .have h1:=Ah hz 7 h;have h2:=h1.trans (Ah hz 20 h1.2);have h3:=h2.trans (Ah hz 12 h2.2);have h4:=h3.trans (BD hz f _ [] h3.2);have h5:=h4.trans (Ah hz 13 h4.2);simp only;split
   .have h6:=h5.trans (Ah hz 8 h5.2);have h7:=h6.trans (Ah hz 12 h6.2);have h8:=h7.trans (BD hz f _ [] h7.2);exact h8.trans (Ah hz 13 h8.2)
   .exact h5
  .split
   .have h1:=Ah hz 9 h;have h2:=h1.trans (Ah hz 20 h1.2);have h3:=h2.trans (Ah hz 12 h2.2);have h4:=h3.trans (BD hz f _ [] h3.2);exact h4.trans (Ah hz 13 h4.2)
   .have h1:=Kz hz h;exact h1.trans (Ah hz 14 h1.2)
end
theorem IL(b:(Aj a (n-1)).kind=0)(f:Nat){x:PS}(h:x.next<n)(q:CQ (Aj a x.next).kind):x.next+1<=(Bu a n (f+1) x).2.next:=by
 unfold Bu;split
 .rename_i k;have d:=Ah b 7 h;have e:=BY (n:=n) k Z;have c:=Ah b 20 d.2;have g:=c.trans (Ah b 12 c.2);have i:=g.trans (BD b f _ [] g.2);have j:=i.trans (Ah b 13 i.2);simp only;split
  .have l:=j.trans (Ah b 8 j.2);have m:=l.trans (Ah b 12 l.2);have o:=m.trans (BD b f _ [] m.2);have p:=o.trans (Ah b 13 o.2);have:=p.1;simp only;omega
  .have:=j.1;simp only;omega
 .split
  .rename_i k;have d:=Ah b 9 h;have e:=BY (n:=n) k Z;have c:=Ah b 20 d.2;have g:=c.trans (Ah b 12 c.2);have i:=g.trans (BD b f _ [] g.2);have j:=i.trans (Ah b 13 i.2);have:=j.1;simp only;omega
  .have d:=Qh b h (by unfold CQ at q;omega);have c:=Ah b 14 d.2;have:=c.1;simp only;omega
end
def EW(s:VS)(a b:Value):Array Value:=#[.int .i64 s.kind,.string s.tg.d9,.int .i64 s.tg.l7,.string s.sr.d9,.int .i64 s.sr.l7,.int .i64 s.field,a,b]
def BW:Nat->(Nat->Prop)->World->TS->List Value->Prop
 |0,_,_,_,_=>False
 |d+1,U,w,.mk s a,c=>∃(f l:Value) (b:List (List Value)),c=(EW s f l).toList/\w.ownsRow 0 126 2 f s.args.length (BI s.args)/\(∀k,f.ownBlock=some k->U k)/\
   w.ownsRow 0 130 2 l a.length b.flatten/\b.length=a.length/\(∀k,l.ownBlock=some k->U k)/\
   ∀i (h:i<a.length) (o:i<b.length),∃(m:Value) (e:List (List Value)),b[i]=[.int .i64 (a[i].1:Nat),m]/\w.ownsRow 0 230 8 m a[i].2.length e.flatten/\e.length=a[i].2.length/\(∀k,m.ownBlock=some k->U k)/\
    ∀j (g:j<a[i].2.length) (n:j<e.length),BW d U w a[i].2[j] e[j]
def CU(d:Nat)(U:Nat->Prop)(w:World)(sv:Value)(sts:List TS):Prop:=∃a:List (List Value),w.ownsRow 0 230 8 sv sts.length a.flatten/\a.length=sts.length/\(∀k,sv.ownBlock=some k->U k)/\∀j (g:j<sts.length) (b:j<a.length),BW d U w sts[j] a[j]
theorem BW.d8:∀{d:Nat} {U:Nat->Prop} {w f:World} {t:TS} {c:List Value} {X:Nat->Prop},BW d U w t c->O X w f->(∀k,U k->¬X k)->BW d U f t c
 |0,_,_,_,_,_,_,h,_,_=>h.elim
 |d+1,U,w,f,.mk s I,c,X,h,b,e=>by obtain⟨n,p,o,A,B,l,C,E,m,F⟩:=h;refine⟨n,p,o,A,Ac B b (fun k a=>e k (l k a)),l,Ac C b (fun k a=>e k (m k a)),E,m,fun i G H=>?_⟩;obtain⟨sv,q,r,u,v,g,x⟩:=F i G H;exact⟨sv,q,r,Ac u b (fun k a=>e k (g k a)),v,g,fun j y z=>(x j y z).d8 b e⟩
theorem BW.more:∀{d:Nat} {U U':Nat->Prop} {w:World} {t:TS} {c:List Value},BW d U w t c->(∀k,U k->U' k)->BW d U' w t c
 |0,_,_,_,_,_,h,_=>h.elim
 |d+1,U,U',w,.mk s H,c,h,b=>by obtain⟨e,g,f,v,x,y,z,A,B,C⟩:=h;refine⟨e,g,f,v,x,fun k a=>b k (y k a),z,A,fun k a=>b k (B k a),fun i E F=>?_⟩;obtain⟨G,l,m,n,o,p,q⟩:=C i E F;exact⟨G,l,m,n,o,fun k a=>b k (p k a),fun j r u=>(q j r u).more b⟩
theorem BW.up:∀{d:Nat} {U:Nat->Prop} {w:World} {t:TS} {c:List Value},BW d U w t c->BW (d+1) U w t c
 |0,_,_,_,_,h=>h.elim
 |d+1,U,w,.mk s E,c,h=>by obtain⟨a,e,b,q,r,u,v,x,y,z⟩:=h;refine⟨a,e,b,q,r,u,v,x,y,fun i A B=>?_⟩;obtain⟨C,f,g,k,l,m,n⟩:=z i A B;exact⟨C,f,g,k,l,m,fun j o p=>(n j o p).up⟩
theorem BW.dR{d e}{U:Nat->Prop}{w t c}(h:BW d U w t c)(a:d<=e):BW e U w t c:=by
 induction a with
 |refl=>exact h
 |step _ b=>exact b.up
theorem BW.length{d}{U:Nat->Prop}{w t c}(h:BW d U w t c):c.length=8:=by
 match d,t,h with
 |d+1,.mk s f,h=> obtain⟨b,g,e,a,_⟩:=h;rw[a];rfl
theorem CU.d8{d}{U:Nat->Prop}{w e sv sts}{X:Nat->Prop}(h:CU d U w sv sts)(b:O X w e)(c:∀k,U k->¬X k):CU d U e sv sts:=by obtain⟨f,l,m,a,n⟩:=h;exact⟨f,Ac l b (fun k o=>c k (a k o)),m,a,fun j g i=>(n j g i).d8 b c⟩
theorem CU.more{d}{U U':Nat->Prop}{w c b}(h:CU d U w c b)(a:∀k,U k->U' k):CU d U' w c b:=by obtain⟨e,i,l,m,n⟩:=h;exact⟨e,i,l,fun k o=>a k (m k o),fun j g f=>(n j g f).more a⟩
theorem CU.dR{d e}{U:Nat->Prop}{w b a}(h:CU d U w b a)(n:d<=e):CU e U w b a:=by obtain⟨c,i,k,l,m⟩:=h;exact⟨c,i,k,l,fun j g f=>(m j g f).dR n⟩
theorem BW.flat{U:Nat->Prop}{w s a}(h:w.ownsRow 0 126 2 a s.args.length (BI s.args))(d:∀k,a.ownBlock=some k->U k):BW 1 U w (.mk s []) (GD s a).toList:=
 ⟨a,.slice none 0 0,[],rfl,h,d,gR _ _ _ _,rfl,fun k c=>by simp[Value.ownBlock]at c,fun i b=>by simp at b⟩
theorem BW.blocks{d}{U:Nat->Prop}{w k b a svs}(n:svs.length=a.length)(h:w.ownsRow 0 130 2 b a.length (((a.zip svs).map fun p=>[Value.int .i64 (p.1.1:Nat),p.2]).flatten))(q:∀k,b.ownBlock=some k->U k)
 (o:∀i (h:i<a.length) (r:i<svs.length),CU d U w svs[i] a[i].2):BW (d+1) U w (.mk (EA k) a) (EW (EA k) (.slice none 0 0) b).toList:=by
 refine⟨.slice none 0 0,b,(a.zip svs).map fun p=>[Value.int .i64 (p.1.1:Nat),p.2],rfl,gR _ _ _ _,fun k m=>by simp[Value.ownBlock]at m,h,by simp[n],q,fun i l s=>?_⟩;obtain⟨c,e,f,g,j⟩:=o i l Z;exact⟨svs[i]'Z,c,jY,e,f,g,j⟩
def WV(b g n h:Nat)(w:World)(r:TS×PS)(e:Ending)(a:World):Prop:=
 ∃(d:Nat) (U:Nat->Prop) (s:VS) (c f:Value),e=.returned (.agg (EW s c f))/\BW d U a r.1 (EW s c f).toList/\(∀k,U k->w.heap.size<=k/\k<a.heap.size)/\AX b g n h r.2 a/\O (fun k=>k=b) w a
def aA(b g n f:Nat)(w:World)(p:Nat)(r:List TS×PS)(e:Ending)(a:World):Prop:=
 ∃(d:Nat) (U:Nat->Prop) (c:Value),e=.returned (.agg #[.int .i64 p,c])/\CU d U a c r.1/\(∀k,U k->w.heap.size<=k/\k<a.heap.size)/\AX b g n f r.2 a/\O (fun k=>k=b) w a
def He(c:Nat)(i:World)(f:Nat):Prop:=∀(b g n d:Nat) (x:PS) (a:List PT) (w:World),c<=b->Below c i w->c<=w.heap.size->AX b g n d x w->AY g n d a w->x.next<n->(Aj a (n-1)).kind=0->CQ (Aj a x.next).kind->2*(n-x.next)<=f->
 Calls prog 154 #[.pointer (some ⟨b,0,none⟩)] w fun e h=>WV b g n d w (Bu a n f x) e h
theorem BW.eH{d}{U:Nat->Prop}{w t s e f}(h:BW d U w t (EW s e f).toList):(∃a l c,e=.slice a l c)/\∃a l c,f=.slice a l c:=by
 match d,t,h with
 |d+1,.mk z x,h=> obtain⟨u,y,v,b,o,_,p,_⟩:=h;simp only[EW,List.cons.injEq]at b;obtain⟨g,q,j,m⟩:=Ad o;obtain⟨i,r,k,n⟩:=Ad p;exact⟨⟨g,q,j,by rw[<-m];exact b.2.2.2.2.2.2.1⟩,⟨i,r,k,by rw[<-n];exact b.2.2.2.2.2.2.2.1⟩⟩
structure BR(lb d:Nat)(U:Nat->Prop)(w:World)(sv:Value)(acc:List TS)(css:List (List Value)):Prop where
 row:w.ownsRow (lb+1) 230 8 sv acc.length css.flatten
 len:css.length=acc.length
 dY:∀j (g:j<acc.length) (g':j<css.length),BW d U w acc[j] css[j]
 u:∀k,U k->lb<k/\k<w.heap.size
 apart:∀k,sv.ownBlock=some k->¬U k
theorem BR.nil(a w):BR a 0 (fun _=>False) w (.slice none 0 0) [] []:=
 ⟨gR _ _ _ _,rfl,fun j g=>by simp at g,fun k h=>h.elim,fun k h=>by simp[Value.ownBlock]at h⟩
theorem BR.d8{c d}{U:Nat->Prop}{w l sv e f}{X:Nat->Prop}(h:BR c d U w sv e f)(b:O X w l)(i:∀k,c<k->k<w.heap.size->¬X k):BR c d U l sv e f:=
 ⟨Ac h.row b (fun k a=>i k (h.row.lt k a).1 (h.row.lt k a).2),h.len,fun j g m=>(h.dY j g m).d8 b (fun k a=>i k (h.u k a).1 (h.u k a).2),fun k a=>⟨(h.u k a).1,gY (h.u k a).2 b.size⟩,h.apart⟩
theorem BR.push{f d v}{U n:Nat->Prop}{w s l i r u g o t c}(h:BR f d U w i g o)(F:BW v n w t c)(b:∀k,n k->f<k/\k<w.heap.size/\¬i.ownBlock=some k)(B:O kD w s)
 (z:l.ownsRow (f+1) 230 8 r (g.length+1) (o.flatten++c))(C:s.grownBy l i.ownBlock)(E:∀k,r.ownBlock=some k->i.ownBlock=some k\/w.heap.size<=k):
 BR f (max d v) (fun k=>U k\/n k) (l.setCell ⟨f,1,none⟩ u) r (g++[t]) (o++[c]):=by
 have p:O (fun k=>i.ownBlock=some k) w l:=O.grown (B.mono (fun _ _ q=>q.elim)) C (fun k a=>.inl a);have m:=(O.refl (fun k=>k=f) l).t9 1 u;have y:=h.len;refine⟨?_,by simp[y],?_,?_,?_⟩
 .have:=Ac z m (fun k a=>by have:=(z.lt k a).1;omega);simpa using this
 .intro j A G;by_cases x:j<g.length
  .rw[iG x,iG Z];exact((((h.dY j x Z).d8 p (fun k a q=>h.apart k q a)).d8 m (fun k a=>by have:=(h.u k a).1;omega)).more (fun k a=>.inl a)).dR (Nat.le_max_left _ _)
  .have e:j=g.length:=by simp at A;omega
   subst e;rw[iE Z,iE Z];simp only[Nat.sub_self,y,iD];exact(((F.d8 p (fun k a=>(b k a).2.2)).d8 m (fun k a=>by have:=(b k a).1;omega)).more (fun k a=>.inr a)).dR (Nat.le_max_right _ _)
 .intro k a;have H:=p.size;have I:=m.size;rcases a with a|a
  .exact⟨(h.u k a).1,by have:=(h.u k a).2;omega⟩
  .exact⟨(b k a).1,by have:=(b k a).2.1;omega⟩
 .intro k a q;rcases E k a with e|e
  .rcases q with q|q
   .exact h.apart k e q
   .exact(b k q).2.2 e
  .rcases q with q|q
   .have:=(h.u k q).2;omega
   .have:=(b k q).2.1;omega
theorem Lj(b g n c x a w)(m:AX b g n c x w)(o:AY g n c a w)(j:x.next<n):
 Calls prog 153 #[.pointer (some ⟨b,0,none⟩)] w fun e p=>e=.returned (.bool (decide (CQ (Aj a x.next).kind)))/\O kD w p:=by
 obtain⟨k,d⟩:∃k,(Aj a x.next).kind=k:=⟨_,rfl⟩;rw[d];obtain⟨v,f⟩:∃v,decide (CQ k)=v:=⟨_,rfl⟩;rw[f];have h:=J d;have i:=J f;clear d f;go_enter func153,ntmps153;go_wp2_with(go_at_call 113;refine(AZ b g n c x a _ m o j).mono ?_;rw[h.o];rintro e q ⟨rfl,l⟩);all_goals
  go_ret;refine⟨Ep ?_,l⟩;rw[<-i.o];symm;simp only[beq_iff_eq,jA,ne_eq]at*;first
   |(rw[decide_eq_true_iff];unfold CQ;omega)
   |(rw[decide_eq_false_iff_not];unfold CQ;omega)
theorem Tryz.placeOf(a s p w):(Instr.field 112 (.agg #[.int .i64 a,.string s,.int .i64 p]) 2).run prog w=.ok (.int .i64 p) w:=jW
theorem Tryz.infoTS:(Tryz.prog.info? 230).map (fun i=>(i.zero,i.size,i.bytes))=some (some (.agg bA),8,112):=jW
theorem YP(s a d l f c e):∀u∈(EW s (.slice a l c) (.slice d f e)).toList,u.oneCell'=true:=by intro u b;simp[EW]at b;rcases b with rfl|rfl|rfl|rfl|rfl|rfl|rfl|rfl<;>rfl
theorem F8(B0 d7 f)(ih:∀k,k<=f->He B0 d7 k)(b g n o r c w)(hb:B0<=b)(hG:Below B0 d7 w)(hB:B0<=w.heap.size)(hr:AX b g n o r w)(ht:AY g n o c w)(c8:r.next<n)(hz:(Aj c (n-1)).kind=0)(hf:2*(n-(Af c n 12 r).next)+1<=f):
 Calls prog 142 #[.pointer (some ⟨b,0,none⟩)] w fun e w'=>aA b g n o w (AG c 12 r).l7 ((AN c n f (Af c n 12 r) []).1,Af c n 13 (AN c n f (Af c n 12 r) []).2) e w':=by
 obtain⟨i0,hi,e9,f0,f1⟩:=info_parts Tryz.infoTS;have lr:=Ae hr;have lg:=ht.lt;have hn:=ht.2.2.1;have d2:=ht.ne hr T;have c9:=AU (k:=12) hz c8;obtain⟨x1,P⟩:∃y,Af c n 12 r=y:=⟨_,rfl⟩;rw[P]at hf c9⊢;obtain⟨t,k1⟩:∃y,AG c 12 r=y:=⟨_,rfl⟩;rw[k1];obtain⟨V,hV⟩:∃V,AN c n f x1 []=V:=⟨_,rfl⟩;rw[hV];have X1:=J P;have K1:=J k1;have HV:=J hV;have HZ:=J hz;have HG:=J hG;have IH:=J ih;clear P k1 hV hz hG ih;go_enter func142,ntmps142;go_wp2_with fail;refine(AH b g n o 12 r c _ (W.alloc hr _) (ht.d8 ((O.refl kD _).alloc _) id) c8).mono ?_;rw[X1.o,K1.o];rintro e l ⟨rfl,d5,a4⟩;have f4:=a4.size;simp at f4;have c2:=J ((ht.d8 ((O.refl kD _).alloc (.cells #[.int .i64 0,.slice none 0 0] 130)) id).d8 a4 d2);have b7:D (W w.heap.size #[.int .i64 0,.slice none 0 0] 130 l):=(W.new w _ _).d8 a4 Z;have b8:=J (((O.refl (fun k=>k=b) w).alloc _).trans a4);have b9:=J d5;have f8:w.heap.size+1<=l.heap.size:=Z;clear d5 a4 hr ht;unfold WC;have e7:=Tryz.placeOf;go_wp2_with fail;clear e7;go_loopw[] (fun wr=>∃(x:PS) (z d:Nat) (U:Nat->Prop) (sv:Value) (N:List TS) (b3:List (List Value)),x.next<n/\N.length<=x.next/\z<=f/\2*(n-x.next)+1<=z/\D (AX b g n o x wr)/\D (AY g n o c wr)/\D (W w.heap.size #[.int .i64 0,.slice none 0 0] 130 wr)/\D (W l.heap.size #[.int .i64 t.l7,sv] 130 wr)/\D (BR l.heap.size d U wr sv N b3)/\D (O (fun k=>k=b) w wr)/\D (AN c n z x N=V)) (fun wr=>n-Mb b wr)
 case atStart=> exact⟨x1,f,0,fun _=>False,.slice none 0 0,[],[],c9,jY,gI _,hf,W.alloc b9.o _,c2.o.d8 ((O.refl kD _).alloc _) id,W.alloc b7.o _,W.new _ _ _,BR.nil _ _,b8.o.alloc _,HV⟩
 case round=>
  clear b9 c2 b7 b8 HV;obtain⟨x,z,d,U,sv,N,b3,hx,f5,f6,f7,Q,Y,a8,hC,a7,hO,HC⟩:=hrel;have e0:=J (ER Q.o);by_cases A:CQ (Aj c x.next).kind
  .obtain⟨p,rfl⟩:∃p,z=p+1:=⟨z-1,Z⟩;obtain⟨t3,x3,h3⟩:∃t y,Bu c n p x=(t,y):=⟨_,_,rfl⟩;have c5:AN c n p x3 (N++[t3])=V:=by have:=HC.o;rw[AN,jH A,h3]at this;exact this
   have e8:x.next+1<=x3.next/\x3.next<n:=by have g1:=Gt (n:=n) HZ.o p x hx;rw[h3]at g1;obtain⟨f3,rfl⟩:∃f3,p=f3+1:=⟨p-1,Z⟩;have g2:=IL HZ.o f3 hx A;rw[h3]at g2;exact⟨g2,g1.2⟩
   have X3:=J h3;have d9:=J c5;have d8:=J A;have a3:decide (CQ (Aj c x.next).kind)=true:=by simp[A]
   have b2:=J a3;clear HC h3 c5 A a3;go_wp2_with fail;refine(Lj b g n o x c _ Q.o Y.o hx).mono ?_;rw[b2.o];rintro e wk ⟨rfl,m⟩;have R1:=J (W.d8 Q.o m id);have T1:=J (Y.o.d8 m id);have A1:=J (a8.o.d8 m id);have M:=J (hC.o.d8 m id);have L:=J (a7.o.d8 m (fun _ _ _ q=>q));have S:=J (hO.o.dA m);clear Q Y a8 hC a7 hO m;obtain⟨C,H,F,rfl⟩:=Ad L.o.row;have c1:=M.o.cell 1;have cf:=M.o.frozen 1;have lc:=Ae M.o;have g3:=Ae R1.o;have g0:=S.o.size;simp only[gH,gF,gG]at c1;have NC:=J (fun k (i:Value.ownBlock (.slice C H F)=some k)=>(L.o.row.lt k i).1);go_wp2_with fail;go_region_law(first
    |(refine AB rfl _ _ 128 rfl (l.heap.size+1) 230 i0 (.agg bA) 8 112 underlying128 hi e9 f0 f1 rfl T _ _ _ rfl (R.o.row.alloc _) ⟨w4.heap.size,0,none⟩ 1 1 (EW s4 (.slice aa al ac) (.slice ba bl bc)).toList rfl rfl (AC rfl _ _) (YP _ _ _ _ _ _ _) T jZ Z jX ?_;intro v' K b5 a0 d3;have q1:K.cell? ⟨l.heap.size,1,none⟩=some (.slice C H F):=(gJ (a0.block l.heap.size jX (fun h=>by have:=NC.o _ h.symm;omega))).trans (by rw[<-c4];exact gJ (gS _ _ _ d6));have q2:K.frozen? ⟨l.heap.size,1,none⟩=false:=(gO (a0.block l.heap.size jX (fun h=>by have:=NC.o _ h.symm;omega))).trans (by rw[<-e1];exact gO (gS _ _ _ d6));obtain⟨E,I,G,rfl⟩:=Ad b5)
    |(go_simp;go_at_call 154;refine(IH.o p Z b g n o x c _ hb (O.keeps HG.o (S.o.dA jV) hB hb) jX (W.d8 (X:=kD) R1.o jV id) (T1.o.d8 (X:=kD) jV id) hx HZ.o d8.o Z).mono ?_;rw[X3.o];rintro e w4 ⟨d4,U4,s4,av,bv,rfl,b6,c7,a6,B⟩;obtain⟨⟨aa,al,ac,rfl⟩,⟨ba,bl,bc,rfl⟩⟩:=b6.eH;have a5:=O.trans (X:=fun k=>k=b) (a:=wk) jV B;have R:=J (L.o.d8 a5 (fun k h _=>Z));have s:=J (M.o.d8 a5 Z);have c4:=s.o.cell 1;have e1:=s.o.frozen 1;have d6:=Ae s.o;simp only[gH,gF,gG]at c4;have f9:=a5.size;have c0:=J b6;have c3:=J c7;have R4:=J a6;have O5:=J a5;clear b6 c7 a6 B a5;unfold EW;dsimp only))
   all_goals
    have a1:O (fun k=>Value.ownBlock (.slice C H F)=some k) w4 K:=O.grown ((O.refl _ _).alloc _) a0 (fun k i=>.inl i);have a9:=(O.refl (fun k=>k=l.heap.size) K).t9 1 (.slice E I G);have b4:∀j,j<l.heap.size->¬Value.ownBlock (.slice C H F)=some j:=fun j hj q=>by have:=NC.o j q;omega
    have hP:=BR.push (u:=.slice E I G) R.o c0.o (fun k i=>by have P:=c3.o k i;simp only[World.size_drew]at P;exact⟨Z,P.2,fun q=>by have:=(L.o.row.lt k q).2;omega⟩) ((O.refl _ _).alloc _) b5 a0 (fun k i=>(d3 k i).imp id (fun q=>by simp at q;omega));have c6:AX b g n o x3 (K.setCell ⟨l.heap.size,1,none⟩ (.slice E I G)):=(R4.o.d8 a1 (b4 b Z)).d8 a9 Z;have e6:AY g n o c (K.setCell ⟨l.heap.size,1,none⟩ (.slice E I G)):=((T1.o.d8 O5.o d2).d8 a1 (b4 g Z)).d8 a9 Z;have e2:=((A1.o.d8 O5.o Z).d8 a1 (b4 w.heap.size Z)).d8 a9 Z;have e3:W l.heap.size #[.int .i64 t.l7,.slice E I G] 130 (K.setCell ⟨l.heap.size,1,none⟩ (.slice E I G)):=by have:=(s.o.d8 a1 (fun q=>by have:=NC.o _ q;omega)).set 1 (.slice E I G);simpa using this
    have e5:O (fun k=>k=b) w (K.setCell ⟨l.heap.size,1,none⟩ (.slice E I G)):=(O.grown ((S.o.trans O5.o).alloc _) a0 (fun k i=>.inr (by have:=NC.o k i;omega))).cE 1 _ Z;have e4:=ER c6;clear b5 a0 d3 q1 q2 c0 c3 R s R4 a1 a9;go_wp2_with fail;go_roundw
    case rel=>exact⟨x3,p,_,_,_,N++[t3],_,e8.2,jX,Z,Z,c6,e6,e2,e3,hP,e5,d9⟩
    case measure=>rw[e4,e0.o];omega
  .have hv:V=(N,x):=by
    rw[<-HC.o];cases z with
    |zero=>rfl
    |succ z=>rw[AN,jG A]
   subst hv
   have a3:decide (CQ (Aj c x.next).kind)=false:=by simp[A]
   have b2:=J a3
   clear HC A a3
   go_wp2_with fail
   refine(Lj b g n o x c _ Q.o Y.o hx).mono ?_
   rw[b2.o]
   rintro e wk ⟨rfl,m⟩
   have R1:=J (W.d8 Q.o m id)
   have T1:=J (Y.o.d8 m id)
   have A1:=J (a8.o.d8 m id)
   have M:=J (hC.o.d8 m id)
   have L:=J (a7.o.d8 m (fun _ _ _ q=>q))
   have S:=J (hO.o.dA m)
   clear Q Y a8 hC a7 hO m
   go_wp2_with fail
   refine(AH b g n o 13 x c _ R1.o T1.o hx).mono ?_
   rintro e w4 ⟨rfl,a6,B⟩
   have A4:=J (A1.o.d8 B Z)
   have s:=J (M.o.d8 B Z)
   have R:=J (L.o.d8 B (fun k h _=>Z))
   have O4:=J (S.o.trans B)
   have R4:=J a6
   clear R1 T1 A1 M L S a6 B
   obtain⟨C,H,F,rfl⟩:=Ad R.o.row
   obtain⟨b0,b1⟩:=A4.o.e2 0 1
   have bf:=A4.o.frozen
   obtain⟨d0,d1⟩:=s.o.e2 0 1
   have lB:=Ae A4.o
   have lC:=Ae s.o
   simp only[gH,gF,gG]at b0 b1 d0 d1
   go_wp2
   refine gP (v:=.agg #[.int .i64 t.l7,.slice C H F]) (by simp[results,results142,go_sem,b0,b1]) rfl ?_
   have hs:=((O.refl (fun k=>k=w.heap.size) w4).t9 0 (.int .i64 t.l7)).t9 1 (.slice C H F)
   have a2:=R.o.d8 hs (fun k P _=>Z)
   refine⟨d,fun k=>U k\/Value.ownBlock (.slice C H F)=some k,_,rfl,⟨b3,Aq a2.row (gV _),a2.len,fun k i=>.inr i,fun j g1 g2=>(a2.dY j g1 g2).more (fun k i=>.inl i)⟩,?_,R4.o.d8 hs Z,(O4.o.cE 0 _ (gI _)).cE 1 _ (gI _)⟩
   intro k i
   rcases i with i|i
   .have:=a2.u k i;exact⟨Z,this.2⟩
   .have:=a2.row.lt k i;exact⟨Z,this.2⟩
theorem Ws{w:World}{j:Nat}(b:j=w.heap.size)(a c:Value):(w.alloc (.cells #[a,c] 130)).ownsRow 0 130 2 (.slice (some ⟨j,0,none⟩) 1 1) 1 [a,c]:=by subst b;exact⟨rfl,.inr ⟨w.heap.size,1,#[a,c],rfl,gV _,heap_alloc_new w _,gI _,jZ,rfl,rfl⟩⟩
theorem RP(s L f)(ih:∀k,k<=f->He s L k)(b g n r m a w)(V:s<=b)(R:Below s L w)(hB:s<=w.heap.size)(j:AX b g n r m w)(ht:AY g n r a w)(Y:m.next<n)(x:(Aj a (n-1)).kind=0)(c:(Aj a m.next).kind=9)(hf:2*(n-m.next)<=f+1):
 Calls prog 172 #[.pointer (some ⟨b,0,none⟩)] w fun e w'=>WV b g n r w (Bu a n (f+1) m) e w':=by
 obtain⟨M,t⟩:∃y,Af a n 9 m=y:=⟨_,rfl⟩;obtain⟨E,C⟩:∃y,Af a n 20 M=y:=⟨_,rfl⟩;obtain⟨p,K⟩:∃y,(AG a 12 E).l7=y:=⟨_,rfl⟩;obtain⟨l3,y3,F⟩:∃l y,AN a n f (Af a n 12 E) []=(l,y):=⟨_,_,rfl⟩;obtain⟨x3,G⟩:∃y,Af a n 13 y3=y:=⟨_,rfl⟩;have hv:Bu a n (f+1) m=(.mk (EA 12) [(p,l3)],x3):=by rw[Bu,jG Z,jH c];simp only[t,C,K,F,G]
 rw[hv];have P:=BY (n:=n) c Z;rw[t]at P;have a0:M.next<n:=by rw[<-t];exact AU x Y
 have B:=Ah x 20 a0;rw[C]at B;have a1:=B.2;have Q:=Ah x 12 a1;have a5:2*(n-(Af a n 12 E).next)+1<=f:=by have:=B.1;have:=Q.1;omega
 have z:=J (KU.start j ht);have HG:=J R;have IH:=J ih;have HZ:=J x;have X1:=J t;have X2:=J C;have XP:=J K;have X3:=J F;have X4:=J G;clear t C K F G hv j ht x c R ih B Q P;go_enter func172,ntmps172;go_wp2_with fail;refine(AH b g n r 9 m a _ z.o.pa z.o.pt Y).mono ?_;rw[X1.o];rintro e w1 ⟨rfl,j,u⟩;have A:=J (z.o.call j u);clear j u z;go_wp2_with fail;refine(AH b g n r 20 M a _ A.o.pa A.o.pt a0).mono ?_;rw[X2.o];rintro e w2 ⟨rfl,j,u⟩;have o:=J (A.o.call j u);clear j u A;have b0:=o.o.d8.size;have a6:=J (Ae o.o.cN);go_wp2_with fail;refine(F8 s L f IH.o b g n r E a _ V (O.keeps HG.o o.o.d8 hB V) Z o.o.pa o.o.pt a1 HZ.o a5).mono ?_;rw[XP.o,X3.o];simp only;rw[X4.o];rintro e w3 ⟨d,U,sv,rfl,H,S,a2,I⟩;have a4:=H;obtain⟨a8,a3,_⟩:=a4;obtain⟨va,vl,vc,rfl⟩:=Ad a3;have q:=J (o.o.call a2 I);have HT:=J H;have N:=J S;have b1:=I.size;clear H S a2 I a3 o;obtain⟨q0,q1,q2,q3,q4,q5,q6,q7⟩:=q.o.cN.e8 0 1 2 3 4 5 6 7;have qf:=q.o.cN.frozen;have ql:=Ae q.o.cN;simp only[gH,gF,gG]at q0 q1 q2 q3 q4 q5 q6 q7;go_wp2;refine gP (v:=.agg (EW (EA 12) (.slice none 0 0) (.slice (some ⟨w3.heap.size,0,none⟩) 1 1))) (by simp[results,results172,go_sem,EW,EA,BG,q0,q1,q2,q3,q4,q5,q6,q7,ql];try rfl) rfl ?_;have a7:b≠w.heap.size:=by have:=q.o.bl;omega
 have a9:w.heap.size<w2.heap.size:=by have:=a6.o;omega
 refine⟨d+1,fun k=>U k\/k=w3.heap.size,EA 12,_,_,rfl,?_,?_,?_,?_⟩
 .refine BW.blocks (svs:=[.slice va vl vc]) rfl (Ws jY _ _) (fun k c=>.inr (by simp[Value.ownBlock]at c;omega)) ?_;intro i h h';have e:i=0:=by simp at h;omega
  subst e;refine CU.more ?_ (fun k c=>.inl c);refine HT.o.d8 (X:=fun k=>k=w.heap.size) ?_ (fun k c=>by have:=(N.o k c).1;omega);refine O.alloc ?_ _;iterate 8 refine O.t9 ?_ _ _
  exact O.refl _ _
 .intro k c;simp only[World.size_alloc,World.size_setCell];rcases c with c|c
  .have:=N.o k c;omega
  .omega
 .refine W.d8 (X:=fun k=>k=w.heap.size) q.o.pa ?_ a7;refine O.alloc ?_ _;iterate 8 refine O.t9 ?_ _ _
  exact O.refl _ _
 .refine O.alloc ?_ _;iterate 8 refine O.cE ?_ _ _ (gI _)
  exact q.o.d8
theorem Nr{w:World}(a c:Value):(w.alloc (.cells #[a,c] 130)).ownsRow w.heap.size 130 2 (.slice (some ⟨w.heap.size,0,none⟩) 1 1) 1 [a,c]:=
 ⟨rfl,.inr ⟨w.heap.size,1,#[a,c],rfl,gI _,heap_alloc_new w _,gI _,jZ,rfl,rfl⟩⟩
theorem Tryz.infoTB:(Tryz.prog.info? 130).map (fun i=>(i.zero,i.size,i.bytes))=some (some (.agg #[.int .i64 0,.slice none 0 0]),2,32):=jW
theorem Rg(H a6 f)(ih:∀k,k<=f->He H a6 k)(b g n o x c w)(hb:H<=b)(hG:Below H a6 w)(hB:H<=w.heap.size)(m:AX b g n o x w)(ht:AY g n o c w)(b3:x.next<n)(z:(Aj c (n-1)).kind=0)(a:(Aj c x.next).kind=7)(hf:2*(n-x.next)<=f+1):
 Calls prog 171 #[.pointer (some ⟨b,0,none⟩)] w fun e w'=>WV b g n o w (Bu c n (f+1) x) e w':=by
 obtain⟨x1,I⟩:∃y,Af c n 7 x=y:=⟨_,rfl⟩;obtain⟨x2,S⟩:∃y,Af c n 20 x1=y:=⟨_,rfl⟩;obtain⟨p,hp⟩:∃y,(AG c 12 x2).l7=y:=⟨_,rfl⟩;obtain⟨l3,y3,V⟩:∃l y,AN c n f (Af c n 12 x2) []=(l,y):=⟨_,_,rfl⟩;obtain⟨E,Y⟩:∃y,Af c n 13 y3=y:=⟨_,rfl⟩;have e1:=BY (n:=n) a Z;rw[I]at e1;have b4:x1.next<n:=by rw[<-I];exact AU z b3
 have R:=Ah z 20 b4;rw[S]at R;have b5:=R.2;have g3:=Ah z 12 b5;have c4:2*(n-(Af c n 12 x2).next)+1<=f:=by have:=R.1;have:=g3.1;omega
 have g4:=BD z f (Af c n 12 x2) [] g3.2;rw[V]at g4;have g5:=Ah z 13 g4.2;rw[Y]at g5;have a9:=g5.2;have e8:x.next+1<=E.next:=by have:=R.1;have:=g3.1;have:=g4.1;have:=g5.1;omega
 have lg:=ht.lt;have F:=J (KU.start m ht);have HG:=J hG;have IH:=J ih;have HZ:=J z;have X1:=J I;have X2:=J S;have XP:=J hp;have X3:=J V;have X4:=J Y;by_cases h8:(Aj c E.next).kind=8
 .obtain⟨x4,k4⟩:∃y,Af c n 8 E=y:=⟨_,rfl⟩;obtain⟨p2,b7⟩:∃y,(AG c 12 x4).l7=y:=⟨_,rfl⟩;obtain⟨l5,y5,h5⟩:∃l y,AN c n f (Af c n 12 x4) []=(l,y):=⟨_,_,rfl⟩;obtain⟨x6,h6⟩:∃y,Af c n 13 y5=y:=⟨_,rfl⟩;have hv:Bu c n (f+1) x=(.mk (EA 11) [(p,l3),(p2,l5)],x6):=by rw[Bu,jH a];simp only[I,S,hp,V,Y,jH h8,k4,b7,h5,h6]
  rw[hv];have g6:=Ah z 8 a9;rw[k4]at g6;have c3:=g6.2;have g7:=Ah z 12 c3;have d6:2*(n-(Af c n 12 x4).next)+1<=f:=by have:=g6.1;have:=g7.1;omega
  have d4:(((Aj c E.next).kind:Int)==8)=true:=by simp[h8]
  have K4:=J k4;have d2:=J b7;have X5:=J h5;have X6:=J h6;obtain⟨i0,hi,e0,e2,e4⟩:=info_parts Tryz.infoTB;clear I S hp V Y hv m ht z a hG ih R g3 e1 g4 g5 h8 k4 b7 h5 h6 g6 g7;go_enter func171,ntmps171;go_wp2_with fail;refine(AH b g n o 7 x c _ F.o.pa F.o.pt b3).mono ?_;rw[X1.o];rintro e w1 ⟨rfl,m,s⟩;have B:=J (F.o.call m s);clear m s F;go_wp2_with fail;refine(AH b g n o 20 x1 c _ B.o.pa B.o.pt b4).mono ?_;rw[X2.o];rintro e w2 ⟨rfl,m,s⟩;have j:=J (B.o.call m s);clear m s B;have e3:=j.o.d8.size;have d8:=Ae j.o.cN;go_wp2_with fail;refine(F8 H a6 f IH.o b g n o x2 c _ hb (O.keeps HG.o j.o.d8 hB hb) Z j.o.pa j.o.pt b5 HZ.o c4).mono ?_;rw[XP.o,X3.o];simp only;rw[X4.o];rintro e A ⟨d,U,sv,rfl,L,hU,a4,M⟩;have a1:=L;obtain⟨d3,a5,_⟩:=a1;obtain⟨N,Q,P,rfl⟩:=Ad a5;have K:=(O.refl kD A).alloc (.cells #[.int .i64 p,.slice N Q P] 130);have C:=J ((j.o.call a4 M).quiet K);have HT:=J (L.d8 K (fun _ _ q=>q));have G:=J hU;have HR:=J (Nr (w:=A) (.int .i64 p) (.slice N Q P));have e5:=M.size;clear L hU a4 M a5 j K;go_wp2_with fail;refine(AZ b g n o E c _ C.o.pa C.o.pt a9).mono ?_;rintro e wk ⟨rfl,t⟩;have r:=J (C.o.quiet t);have a8:=J (HT.o.d8 t (fun _ _ q=>q));have a7:=J (Ac HR.o t (fun _ _ q=>q));have b8:=t.size;simp at b8;clear t C HT HR;go_wp2_with fail;refine(AH b g n o 8 E c _ r.o.pa r.o.pt a9).mono ?_;rw[K4.o];rintro e w4 ⟨rfl,c6,a2⟩;have F4:=J (r.o.call c6 a2);have e7:=r.o.bl;have c1:=J (a8.o.d8 a2 (fun k a=>by have:=(G.o k a).1;omega));have c0:=J (Ac a7.o a2 (fun k a=>by simp[Value.ownBlock]at a;omega));have f0:=a2.size;clear c6 a2 r a8 a7;go_wp2_with fail;refine(F8 H a6 f IH.o b g n o x4 c _ hb (O.keeps HG.o F4.o.d8 hB hb) Z F4.o.pa F4.o.pt c3 HZ.o d6).mono ?_;rw[d2.o,X5.o];simp only;rw[X6.o];rintro e w5 ⟨d5,U5,f3,rfl,b2,c2,c7,a3⟩;have a1:=b2;obtain⟨e6,c8,_⟩:=a1;obtain⟨wa,wl,b9,rfl⟩:=Ad c8;have F5:=J (F4.o.call c7 a3);have d0:=J b2;have b1:=J c2;have d1:=J (c1.o.d8 a3 (fun k a=>by have:=(G.o k a).1;omega));have c9:=J (Ac c0.o a3 (fun k a=>by simp[Value.ownBlock]at a;omega));have f1:=a3.size;clear b2 c2 c7 a3 c8 F4 c1 c0;have d9:=c9.o;go_wp2_with(at_builtin;refine iQ _ rfl _ _ 228 rfl A.heap.size 130 i0 (.agg #[.int .i64 0,.slice none 0 0]) 2 32 underlying228 hi e0 e2 e4 rfl T _ _ _ rfl (d9.alloc _) ⟨w5.heap.size,0,none⟩ 1 1 [.int .i64 p2,.slice wa wl b9] rfl rfl (AC rfl _ _) (fun u hu=>by simp at hu;rcases hu with rfl|rfl<;>rfl) jZ Z jX ?_;intro v' w6 b0 d7 e9;obtain⟨ya,yl,yc,rfl⟩:=Ad b0;have c5:(w5.alloc (.cells #[.int .i64 p2,.slice wa wl b9] 130)).grownBy w6 (some A.heap.size):=d7;have a0:O (fun k=>k=A.heap.size) w5 w6:=O.grown ((O.refl _ _).alloc _) c5 (fun k a=>.inl (jQ a).symm);have F6:=J (KU.mk (W.d8 F5.o.pa a0 Z) (F5.o.pt.d8 a0 Z) (F5.o.cN.d8 a0 Z) (O.grown (F5.o.d8.alloc _) c5 (fun k a=>.inr (by have:=jQ a;omega))) F5.o.bl);obtain⟨q0,q1,q2,q3,q4,q5,q6,q7⟩:=F6.o.cN.e8 0 1 2 3 4 5 6 7;have qf:=F6.o.cN.frozen;have ql:=Ae F6.o.cN;simp only[gH,gF,gG]at q0 q1 q2 q3 q4 q5 q6 q7);refine gP (v:=.agg (EW (EA 11) (.slice none 0 0) (.slice ya yl yc))) (by simp[results,results171,go_sem,EW,EA,BG,q0,q1,q2,q3,q4,q5,q6,q7];try rfl) rfl ?_;have b6:b≠w.heap.size:=Z;have f2:=a0.size;have T1:=d1.o.d8 a0 (fun k a=>by have:=(G.o k a).2;omega);have T2:=d0.o.d8 a0 (fun k a=>by have:=(b1.o k a).1;omega);refine⟨max d d5+1,fun k=>U k\/U5 k\/Value.ownBlock (.slice ya yl yc)=some k,EA 11,_,_,rfl,?_,?_,?_,?_⟩
  .refine BW.d8 (X:=fun k=>k=w.heap.size) (w:=w6) ?_ ?_ ?_
   .refine BW.blocks (svs:=[.slice N Q P,.slice wa wl b9]) rfl (Aq b0 (gV _)) (fun k a=>.inr (.inr a)) ?_;intro i h h';have e:i=0\/i=1:=by simp at h;omega
    rcases e with rfl|rfl
    .exact(T1.more (fun k a=>.inl a)).dR (Nat.le_max_left _ _)
    .exact(T2.more (fun k a=>.inr (.inl a))).dR (Nat.le_max_right _ _)
   .iterate 8 refine O.t9 ?_ _ _
    exact O.refl _ _
   .intro k a;rcases a with a|a|a
    .have:=(G.o k a).1;omega
    .have:=(b1.o k a).1;omega
    .have:=(b0.lt k a).1;omega
  .intro k a;simp only[World.size_setCell];rcases a with a|a|a
   .have:=G.o k a;omega
   .have:=b1.o k a;omega
   .have:=b0.lt k a;omega
  .refine W.d8 (X:=fun k=>k=w.heap.size) F6.o.pa ?_ b6;iterate 8 refine O.t9 ?_ _ _
   exact O.refl _ _
  .iterate 8 refine O.cE ?_ _ _ (gI _)
   exact F6.o.d8
 .have hv:Bu c n (f+1) x=(.mk (EA 11) [(p,l3)],E):=by rw[Bu,jH a];simp only[I,S,hp,V,Y,jG h8]
  rw[hv]
  have d4:(((Aj c E.next).kind:Int)==8)=false:=jX
  clear I S hp V Y hv m ht z a hG ih R g3 e1 g4 g5 h8
  go_enter func171,ntmps171
  go_wp2_with fail
  refine(AH b g n o 7 x c _ F.o.pa F.o.pt b3).mono ?_
  rw[X1.o]
  rintro e w1 ⟨rfl,m,s⟩
  have B:=J (F.o.call m s)
  clear m s F
  go_wp2_with fail
  refine(AH b g n o 20 x1 c _ B.o.pa B.o.pt b4).mono ?_
  rw[X2.o]
  rintro e w2 ⟨rfl,m,s⟩
  have j:=J (B.o.call m s)
  clear m s B
  have e3:=j.o.d8.size
  have d8:=Ae j.o.cN
  go_wp2_with fail
  refine(F8 H a6 f IH.o b g n o x2 c _ hb (O.keeps HG.o j.o.d8 hB hb) Z j.o.pa j.o.pt b5 HZ.o c4).mono ?_
  rw[XP.o,X3.o]
  simp only
  rw[X4.o]
  rintro e A ⟨d,U,sv,rfl,L,hU,a4,M⟩
  have a1:=L
  obtain⟨d3,a5,_⟩:=a1
  obtain⟨N,Q,P,rfl⟩:=Ad a5
  have K:=(O.refl kD A).alloc (.cells #[.int .i64 p,.slice N Q P] 130)
  have C:=J ((j.o.call a4 M).quiet K)
  have HT:=J (L.d8 K (fun _ _ q=>q))
  have G:=J hU
  have HR:=J (Nr (w:=A) (.int .i64 p) (.slice N Q P))
  have e5:=M.size
  clear L hU a4 M a5 j K
  go_wp2_with fail
  refine(AZ b g n o E c _ C.o.pa C.o.pt a9).mono ?_
  rintro e wk ⟨rfl,t⟩
  have r:=J (C.o.quiet t)
  have a8:=J (HT.o.d8 t (fun _ _ q=>q))
  have a7:=J (Ac HR.o t (fun _ _ q=>q))
  have b8:=t.size
  simp at b8
  clear t C HT HR
  obtain⟨q0,q1,q2,q3,q4,q5,q6,q7⟩:=r.o.cN.e8 0 1 2 3 4 5 6 7
  have qf:=r.o.cN.frozen
  have ql:=Ae r.o.cN
  simp only[gH,gF,gG]at q0 q1 q2 q3 q4 q5 q6 q7
  go_wp2
  refine gP (v:=.agg (EW (EA 11) (.slice none 0 0) (.slice (some ⟨A.heap.size,0,none⟩) 1 1))) (by simp[results,results171,go_sem,EW,EA,BG,q0,q1,q2,q3,q4,q5,q6,q7];try rfl) rfl ?_
  have b6:b≠w.heap.size:=by have:=r.o.bl;omega
  refine⟨d+1,fun k=>U k\/k=A.heap.size,EA 11,_,_,rfl,?_,?_,?_,?_⟩
  .refine BW.d8 (X:=fun k=>k=w.heap.size) (w:=wk) ?_ ?_ (fun k a=>by rcases a with a|a;have:=(G.o k a).1;omega;omega)
   .refine BW.blocks (svs:=[.slice N Q P]) rfl (Aq a7.o (gV _)) (fun k a=>.inr (by simp[Value.ownBlock]at a;omega)) ?_;intro i h h';have e:i=0:=by simp at h;omega
    subst e;exact a8.o.more (fun k a=>.inl a)
   .iterate 8 refine O.t9 ?_ _ _
    exact O.refl _ _
  .intro k a
   simp only[World.size_setCell];rcases a with a|a
   .have:=G.o k a;omega
   .omega
  .refine W.d8 (X:=fun k=>k=w.heap.size) r.o.pa ?_ b6
   iterate 8 refine O.t9 ?_ _ _
   exact O.refl _ _
  .iterate 8 refine O.cE ?_ _ _ (gI _)
   exact r.o.d8

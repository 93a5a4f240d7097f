/- Part of the proof: PaD TrA TrB TrC TrD TrE TrF TrG TrH TrI. -/
import Derived.Test.YtaningfhibkemaaGreatDoorG02
import Derived.Deep.RegionWith
set_option maxRecDepth 100000
set_option maxHeartbeats 2000000
namespace Go.Proofs.YtaningfhibkemaaGreatDoor
open Go.RowKit Go.Proofs.Tryz
open Option renaming none->Z,some->T
open Value renaming int->G,slice->Y
open IntKind renaming i64->A
structure VS where
 kind:Nat
 tg:PT
 sr:PT
 field:Nat
 args:List PT
def GO(s:VS)(a:Value):Array Value:=#[G A s.kind,.string s.tg.d9,G A s.tg.l7,.string s.sr.d9,G A s.sr.l7,G A s.field,a,Y Z 0 0]
abbrev bL:Array Value:=#[G A 0,.string {data:=#[]},G A 0,.string {data:=#[]},G A 0,G A 0,Y Z 0 0,Y Z 0 0]
structure K9(b g n cap:Nat)(toks:List PT)(x:PS)(w0 w:World):Prop where
 pa:AY b g n cap x w
 pt:AZ g n cap toks w
 cX:W w0.heap.size bL 230 w
 d8:O (fun k=>k=b) w0 w
 bl:b<w0.heap.size
theorem K9.start{b g n a d x w}(c:AY b g n a x w)(e:AZ g n a d w):K9 b g n a d x w (w.alloc (.cells bL 230)):=
 ⟨W.alloc c _,e.d8 ((O.refl kJ _).alloc _) id,W.new _ _ _,(O.refl _ _).alloc _,Ae c⟩
theorem K9.call{b g n a e x i f w d}(h:K9 b g n a e x f w)(j:AY b g n a i d)(c:O (fun k=>k=b) w d):K9 b g n a e i f d:=
 ⟨j,h.pt.d8 c (h.pt.ne h.pa (by decide)),h.cX.d8 c (by have:=h.bl;omega),h.d8.trans c,h.bl⟩
theorem K9.quiet{b g n c d x f w e}(h:K9 b g n c d x f w)(a:O kJ w e):K9 b g n c d x f e:=
 ⟨W.d8 h.pa a id,h.pt.d8 a id,h.cX.d8 a id,h.d8.dM a,h.bl⟩
def Hl(b g n d:Nat)(w:World)(r:VS×PS)(e:Ending)(a:World):Prop:=
 ∃c,e=.returned (.agg (GO r.1 c))/\a.ownsRow w.heap.size 126 2 c r.1.args.length (BS r.1.args)/\AY b g n d r.2 a/\O (fun k=>k=b) w a
def Jg(a:List PT)(n:Nat)(x:PS):VS×PS:=
 let b:=Af a n 17 (Af a n 10 x)
 let c:=Af a n 11 (Af a n 1 b)
 (⟨8,BO,AH a 1 b,0,(Bt a n c).1⟩,(Bt a n c).2)
theorem KZ(b g n f o d w)(a:AY b g n f o w)(ht:AZ g n f d w)(a0:o.next<n)(j:(Aj d (n-1)).kind=0):
 Calls prog 188 #[.pointer (T ⟨b,0,Z⟩)] w fun e w'=>Hl b g n f w (Jg d n o) e w':=by
 obtain⟨U,H⟩:∃y,Af d n 10 o=y:=⟨_,rfl⟩;obtain⟨M,I⟩:∃y,Af d n 17 U=y:=⟨_,rfl⟩;obtain⟨V,K⟩:∃y,Af d n 1 M=y:=⟨_,rfl⟩;obtain⟨m,S⟩:∃y,AH d 1 M=y:=⟨_,rfl⟩;obtain⟨x4,L⟩:∃y,Af d n 11 V=y:=⟨_,rfl⟩;obtain⟨l5,x5,Q⟩:∃l y,Bt d n x4=(l,y):=⟨_,_,rfl⟩;have a1:U.next<n:=by rw[<-H];exact AV j a0
 have a2:M.next<n:=by rw[<-I];exact AV j a1
 have a3:V.next<n:=by rw[<-K];exact AV j a2
 have a4:x4.next<n:=by rw[<-L];exact AV j a3
 have hv:Jg d n o=(⟨8,BO,m,0,l5⟩,x5):=by simp only[Jg,H,I,K,S,L,Q]
 rw[hv];obtain⟨B,X1,X2,X3,K3,X4,X5,HZ⟩:=En (K9.start a ht) H I K S L Q j;clear H I K S L Q hv j a ht;go_enter func188,ntmps188;go_wp2_with fail;refine(AI b g n f 10 o d _ B.o.pa B.o.pt a0).mono ?_;rw[X1.o];rintro e w1 ⟨rfl,a,c⟩;have C:=J (B.o.call a c);clear a c B;go_wp2_with fail;refine(AI b g n f 17 U d _ C.o.pa C.o.pt a1).mono ?_;rw[X2.o];rintro e w2 ⟨rfl,a,c⟩;have E:=J (C.o.call a c);clear a c C;go_wp2_with fail;refine(CG b g n f M d _ E.o.pa E.o.pt a2).mono ?_;rw[X3.o,K3.o];rintro e w3 ⟨rfl,a,c⟩;have P:=J (E.o.call a c);clear a c E;unfold Ki;have a7:=Ae P.o.pa;have B3:=J (W.new w3 #[.string m.d9,G A m.l7] 126);have F:=J (P.o.quiet ((O.refl _ _).alloc (.cells #[.string m.d9,G A m.l7] 126)));clear P;go_wp2_with fail;refine(AI b g n f 11 V d _ F.o.pa F.o.pt a3).mono ?_;rw[X4.o];rintro e w4 ⟨rfl,a,c⟩;have h:=J (F.o.call a c);have N:=J (B3.o.d8 c (by omega));clear a c F B3;obtain⟨n0,n1⟩:=N.o.e2 0 1;simp only[gR,gP,gQ]at n0 n1;have l4:=Ae N.o;obtain⟨p,q,r,s,t,u,x,z⟩:=h.o.cX.e8 0 1 2 3 4 5 6 7;have qf:=h.o.cX.frozen;have ql:=Ae h.o.cX;simp only[gR,gP,gQ]at p q r s t u x z;go_wp2_with fail;go_region_with(go_at_call 141;refine(Kh b g n f x4 d _ (h.o.quiet (by repeat first|exact BI _ _|apply BG|apply BH|apply BE)).pa (h.o.quiet (by repeat first|exact BI _ _|apply BG|apply BH|apply BE)).pt a4 HZ.o).mono ?_;rw[X5.o];rintro e w5 ⟨v5,rfl,R,a,c⟩;obtain⟨va,vl,vc,rfl⟩:=Ad R;obtain⟨i,B5,HW⟩:=Ax ((h.o.quiet (by repeat first|exact BI _ _|apply BG|apply BH|apply BE)).call a c) ((W.d8 (X:=kJ) N.o (by repeat first|exact BI _ _|apply BG|apply BH|apply BE) id).d8 c (by omega)) (Aq R (B':=w.heap.size) (by have:=h.o.d8.size;simp;omega));obtain⟨a5,a6⟩:=B5.o.e2 0 1;simp only[gR,gP,gQ]at a5 a6;clear a c R p q r s t u x z qf ql;obtain⟨p,q,r,s,t,u,x,z⟩:=i.o.cX.e8 0 1 2 3 4 5 6 7;have qf:=i.o.cX.frozen;have ql:=Ae i.o.cX;simp only[gR,gP,gQ]at p q r s t u x z);all_goals
  go_wp2;refine gZ (v:=.agg (GO ⟨8,BO,m,0,l5⟩ (Y va vl vc))) (by simp[results,results188,go_sem,GO,BO,p,q,r,s,t,u,x,z];try rfl) rfl ⟨(Y va vl vc),rfl,?_,?_,?_⟩
  .refine Ac (X:=fun k=>k=w.heap.size) HW.o ?_ (Am HW.o i.o.cX (by decide));iterate 8 refine O.t9 ?_ _ _
   exact O.refl _ _
  .refine W.d8 (X:=fun k=>k=w.heap.size) i.o.pa ?_ (by have:=i.o.bl;omega);iterate 8 refine O.t9 ?_ _ _
   exact O.refl _ _
  .iterate 8 refine O.cO ?_ _ _ (gS _)
   exact i.o.d8
def J9(t:PT):Nat:=if t.d9.toList=[49]then 1 else if t.d9.toList=[50]then 2 else if t.d9.toList=[51]then 3 else 0
def Cj(d:Nat)(h:World):Prop:=∀(b g n a:Nat) (x:PS) (c:List PT) (w:World),d<=b->Below d h w->AY b g n a x w->AZ g n a c w->x.next<n->
 Calls prog 193 #[.pointer (T ⟨b,0,Z⟩)] w fun e f=>e=.returned (G A (J9 (AH c 2 x)))/\AY b g n a (Af c n 2 x) f/\O (fun k=>k=b) w f
theorem O.keeps{a b d w c}(h:Below a d w)(f:O (fun k=>k=b) w c)(e:a<=w.heap.size)(g:a<=b):Below a d c:=h.trans (f.dI e (fun k i=>by omega))
def Fe(a:List PT)(n:Nat)(x:PS):VS×PS:=
 let b:=Af a n 16 x
 let c:=Af a n 1 b
 if (Aj a c.next).kind=19 then
  let d:=Af a n 19 c
  (⟨3,BO,AH a 1 b,J9 (AH a 2 d),[]⟩,Af a n 2 d)
 else(⟨2,BO,AH a 1 b,0,[]⟩,c)
theorem Pi(S a3)(hF:Cj S a3)(b g n i C c w)(hb:S<=b)(hG:Below S a3 w)(hB:S<=w.heap.size)(d:AY b g n i C w)(ht:AZ g n i c w)(a1:C.next<n)(N:(Aj c (n-1)).kind=0):
 Calls prog 187 #[.pointer (T ⟨b,0,Z⟩)] w fun e w'=>Hl b g n i w (Fe c n C) e w':=by
 obtain⟨Q,F⟩:∃y,Af c n 16 C=y:=⟨_,rfl⟩;obtain⟨m,H⟩:∃y,Af c n 1 Q=y:=⟨_,rfl⟩;obtain⟨h,P⟩:∃y,AH c 1 Q=y:=⟨_,rfl⟩;obtain⟨x3,K⟩:∃y,Af c n 19 m=y:=⟨_,rfl⟩;obtain⟨x4,V⟩:∃y,Af c n 2 x3=y:=⟨_,rfl⟩;obtain⟨d4,k4⟩:∃y,J9 (AH c 2 x3)=y:=⟨_,rfl⟩;have a2:Q.next<n:=by rw[<-F];exact AV N a1
 have a0:m.next<n:=by rw[<-H];exact AV N a2
 have a4:x3.next<n:=by rw[<-K];exact AV N a0
 obtain⟨o,HG,HF,X1,X2,K2,X3,X4⟩:=En (K9.start d ht) hG hF F H P K V;have K4:=J k4;by_cases L:(Aj c m.next).kind=19
 .have M:Fe c n C=(⟨3,BO,h,d4,[]⟩,x4):=by simp only[Fe,F,H,P,K,k4,V,jR L]
  rw[M];have a5:(((Aj c m.next).kind:Int) !=19)=false:=by simp[L]
  clear F H P K V k4 M N d ht L hG hF;go_enter func187,ntmps187;go_wp2_with fail;refine(AI b g n i 16 C c _ o.o.pa o.o.pt a1).mono ?_;rw[X1.o];rintro e w1 ⟨rfl,d,a⟩;have j:=J (o.o.call d a);clear d a o;go_wp2_with fail;refine(CG b g n i Q c _ j.o.pa j.o.pt a2).mono ?_;rw[X2.o,K2.o];rintro e w2 ⟨rfl,d,a⟩;have f:=J (j.o.call d a);clear d a j;unfold Ki;have a6:=Ae f.o.pa;have I:=J (W.new w2 #[.string h.d9,G A h.l7] 126);have l:=J (f.o.quiet ((O.refl _ _).alloc (.cells #[.string h.d9,G A h.l7] 126)));clear f;go_wp2_with fail;refine(A5 b g n i m c _ l.o.pa l.o.pt a0).mono ?_;rintro e wk ⟨rfl,a⟩;have f:=J (l.o.quiet a);have U:=J (I.o.d8 a id);clear a l I;go_wp2_with fail;refine(AI b g n i 19 m c _ f.o.pa f.o.pt a0).mono ?_;rw[X3.o];rintro e w3 ⟨rfl,d,a⟩;have p:=J (f.o.call d a);have B3:=J (U.o.d8 a (by omega));clear d a f U;obtain⟨n0,n1⟩:=B3.o.e2 0 1;simp only[gR,gP,gQ]at n0 n1;have l3:=Ae B3.o;have a9:=p.o.d8.size;obtain⟨q,r,s,t,u,x,z,B⟩:=p.o.cX.e8 0 1 2 3 4 5 6 7;have qf:=p.o.cX.frozen;have ql:=Ae p.o.cX;simp only[gR,gP,gQ]at q r s t u x z B;go_wp2_with fail;go_region_with(go_at_call 193;refine(HF.o b g n i x3 c _ hb (O.keeps HG.o (p.o.quiet (by repeat first|exact BI _ _|apply BG|apply BH|apply BE)).d8 hB hb) (p.o.quiet (by repeat first|exact BI _ _|apply BG|apply BH|apply BE)).pa (p.o.quiet (by repeat first|exact BI _ _|apply BG|apply BH|apply BE)).pt a4).mono ?_;rw[X4.o,K4.o];rintro e w5 ⟨rfl,d,a⟩;have E:=J ((p.o.quiet (by repeat first|exact BI _ _|apply BG|apply BH|apply BE)).call d a);have B5:=J ((W.d8 (X:=kJ) B3.o (by repeat first|exact BI _ _|apply BG|apply BH|apply BE) id).d8 a (by omega));obtain⟨a7,a8⟩:=B5.o.e2 0 1;simp only[gR,gP,gQ]at a7 a8;clear d a q r s t u x z B qf ql;obtain⟨q,r,s,t,u,x,z,B⟩:=E.o.cX.e8 0 1 2 3 4 5 6 7;have qf:=E.o.cX.frozen;have ql:=Ae E.o.cX;simp only[gR,gP,gQ]at q r s t u x z B);all_goals
   go_wp2;have R:w5.ownsRow w.heap.size 126 2 (Y Z 0 0) 0 []:=iB _ _ _ _;refine gZ (v:=.agg (GO ⟨3,BO,h,d4,[]⟩ (Y Z 0 0))) (by simp[results,results187,go_sem,GO,BO,q,r,s,t,u,x,z,B];try rfl) rfl ⟨(Y Z 0 0),rfl,?_,?_,?_⟩
   .refine Ac (X:=fun k=>k=w.heap.size) R ?_ (Am R E.o.cX (by decide));iterate 8 refine O.t9 ?_ _ _
    exact O.refl _ _
   .refine W.d8 (X:=fun k=>k=w.heap.size) E.o.pa ?_ (by have:=E.o.bl;omega);iterate 8 refine O.t9 ?_ _ _
    exact O.refl _ _
   .iterate 8 refine O.cO ?_ _ _ (gS _)
    exact E.o.d8
 .have M:Fe c n C=(⟨2,BO,h,0,[]⟩,m):=by simp only[Fe,F,H,P,jQ L]
  rw[M];have a5:(((Aj c m.next).kind:Int) !=19)=true:=by simp;omega
  clear F H P K V k4 M N d ht L hG hF;go_enter func187,ntmps187;go_wp2_with fail;refine(AI b g n i 16 C c _ o.o.pa o.o.pt a1).mono ?_;rw[X1.o];rintro e w1 ⟨rfl,d,a⟩;have j:=J (o.o.call d a);clear d a o;go_wp2_with fail;refine(CG b g n i Q c _ j.o.pa j.o.pt a2).mono ?_;rw[X2.o,K2.o];rintro e w2 ⟨rfl,d,a⟩;have f:=J (j.o.call d a);clear d a j;unfold Ki;have a6:=Ae f.o.pa;have I:=J (W.new w2 #[.string h.d9,G A h.l7] 126);have l:=J (f.o.quiet ((O.refl _ _).alloc (.cells #[.string h.d9,G A h.l7] 126)));clear f;go_wp2_with fail;refine(A5 b g n i m c _ l.o.pa l.o.pt a0).mono ?_;rintro e wk ⟨rfl,a⟩;have f:=J (l.o.quiet a);have U:=J (I.o.d8 a id);clear a l I;obtain⟨n0,n1⟩:=U.o.e2 0 1;simp only[gR,gP,gQ]at n0 n1;obtain⟨q,r,s,t,u,x,z,B⟩:=f.o.cX.e8 0 1 2 3 4 5 6 7;have qf:=f.o.cX.frozen;have ql:=Ae f.o.cX;simp only[gR,gP,gQ]at q r s t u x z B;go_wp2;have R:wk.ownsRow w.heap.size 126 2 (Y Z 0 0) 0 []:=iB _ _ _ _;refine gZ (v:=.agg (GO ⟨2,BO,h,0,[]⟩ (Y Z 0 0))) (by simp[results,results187,go_sem,GO,BO,q,r,s,t,u,x,z,B];try rfl) rfl ⟨(Y Z 0 0),rfl,?_,?_,?_⟩
  .refine Ac (X:=fun k=>k=w.heap.size) R ?_ (Am R f.o.cX (by decide));iterate 8 refine O.t9 ?_ _ _
   exact O.refl _ _
  .refine W.d8 (X:=fun k=>k=w.heap.size) f.o.pa ?_ (by have:=f.o.bl;omega);iterate 8 refine O.t9 ?_ _ _
   exact O.refl _ _
  .iterate 8 refine O.cO ?_ _ _ (gS _)
   exact f.o.d8
def Cu(a:List PT)(n:Nat)(x:PS):VS×PS:=
 if (Aj a x.next).kind=5 then(⟨1,BO,BO,0,[]⟩,Af a n 5 x)
 else if (Aj a x.next).kind=16 then Fe a n x
 else if (Aj a x.next).kind=17 then(⟨5,BO,AH a 1 (Af a n 17 x),0,[]⟩,Af a n 1 (Af a n 17 x))
 else if (Aj a x.next).kind=18 then(⟨4,BO,AH a 1 (Af a n 18 x),0,[]⟩,Af a n 1 (Af a n 18 x))
 else if (Aj a x.next).kind=10 then Jg a n x
 else if (Aj a (Af a n 1 x).next).kind=10 then(⟨7,BO,AH a 1 x,0,(Bt a n (Af a n 1 x)).1⟩,(Bt a n (Af a n 1 x)).2)
 else(⟨6,BO,AH a 1 x,0,[]⟩,Af a n 1 x)
theorem Vk(b g n h c f w)(j:AY b g n h c w)(q:AZ g n h f w)(p:c.next<n)(m:(Aj f c.next).kind=5):
 Calls prog 181 #[.pointer (T ⟨b,0,Z⟩)] w fun e I=>Hl b g n h w (Cu f n c) e I:=by
 obtain⟨L,l⟩:∃y,Af f n 5 c=y:=⟨_,rfl⟩;have r:Cu f n c=(⟨1,BO,BO,0,[]⟩,L):=by simp only[Cu,jR m,l]
 rw[r];obtain⟨a,F,H⟩:=Ax (K9.start j q) m l;clear l r j q m;go_enter func181,ntmps181;go_wp2_with fail;refine(A5 b g n h c f _ a.o.pa a.o.pt p).mono ?_;rw[F.o];rintro e P ⟨rfl,i⟩;have o:=J (a.o.quiet i);clear i a;have a:=o;clear o;go_wp2_with fail;refine(AI b g n h 5 c f _ a.o.pa a.o.pt p).mono ?_;rw[H.o];rintro e K ⟨rfl,j,i⟩;have d:=J (a.o.call j i);clear j i a;obtain⟨s,t,u,x,z,B,C,E⟩:=d.o.cX.e8 0 1 2 3 4 5 6 7;have M:=d.o.cX.frozen;have N:=Ae d.o.cX;simp only[gR,gP,gQ]at s t u x z B C E;go_wp2;have R:K.ownsRow w.heap.size 126 2 (Y Z 0 0) 0 []:=iB _ _ _ _;refine gZ (v:=.agg (GO ⟨1,BO,BO,0,[]⟩ (Y Z 0 0))) (by simp[results,results181,go_sem,GO,BO,s,t,u,x,z,B,C,E];try rfl) rfl ⟨(Y Z 0 0),rfl,?_,?_,?_⟩
 .refine Ac (X:=fun k=>k=w.heap.size) R ?_ (Am R d.o.cX (by decide));iterate 8 refine O.t9 ?_ _ _
  exact O.refl _ _
 .refine W.d8 (X:=fun k=>k=w.heap.size) d.o.pa ?_ (by have:=d.o.bl;omega);iterate 8 refine O.t9 ?_ _ _
  exact O.refl _ _
 .iterate 8 refine O.cO ?_ _ _ (gS _)
  exact d.o.d8
theorem NY(b g n l i c w)(f:AY b g n l i w)(L:AZ g n l c w)(s:i.next<n)(M:(Aj c (n-1)).kind=0)(o:(Aj c i.next).kind=17\/(Aj c i.next).kind=18):
 Calls prog 181 #[.pointer (T ⟨b,0,Z⟩)] w fun e w'=>Hl b g n l w (Cu c n i) e w':=by
 rcases o with o|o
 .obtain⟨p,m⟩:∃y,Af c n 17 i=y:=⟨_,rfl⟩;obtain⟨x2,q⟩:∃y,Af c n 1 p=y:=⟨_,rfl⟩;obtain⟨K,r⟩:∃y,AH c 1 p=y:=⟨_,rfl⟩;have u:Cu c n i=(⟨5,BO,K,0,[]⟩,x2):=by simp[Cu,o,m,q,r]
  rw[u];have U:p.next<n:=by rw[<-m];exact AV M s
  obtain⟨a,N,Q,S,P⟩:=BB (K9.start f L) o m q r;clear m q r u f L o M;go_enter func181,ntmps181;go_wp2_with fail;refine(A5 b g n l i c _ a.o.pa a.o.pt s).mono ?_;rw[N.o];rintro e w0 ⟨rfl,d⟩;have t:=J (a.o.quiet d);clear d a;have a:=t;clear t;go_wp2_with fail;refine(AI b g n l 17 i c _ a.o.pa a.o.pt s).mono ?_;rw[Q.o];rintro e w1 ⟨rfl,f,d⟩;have j:=J (a.o.call f d);clear f d a;go_wp2_with fail;refine(CG b g n l p c _ j.o.pa j.o.pt U).mono ?_;rw[S.o,P.o];rintro e V ⟨rfl,f,d⟩;have h:=J (j.o.call f d);clear f d j;obtain⟨x,z,B,C,E,F,H,I⟩:=h.o.cX.e8 0 1 2 3 4 5 6 7;have qf:=h.o.cX.frozen;have ql:=Ae h.o.cX;simp only[gR,gP,gQ]at x z B C E F H I;unfold Ki;go_wp2;have R:V.ownsRow w.heap.size 126 2 (Y Z 0 0) 0 []:=iB _ _ _ _;refine gZ (v:=.agg (GO ⟨5,BO,K,0,[]⟩ (Y Z 0 0))) (by simp[results,results181,go_sem,GO,BO,x,z,B,C,E,F,H,I];try rfl) rfl ⟨(Y Z 0 0),rfl,?_,?_,?_⟩
  .refine Ac (X:=fun k=>k=w.heap.size) R ?_ (Am R h.o.cX (by decide));iterate 8 refine O.t9 ?_ _ _
   exact O.refl _ _
  .refine W.d8 (X:=fun k=>k=w.heap.size) h.o.pa ?_ (by have:=h.o.bl;omega);iterate 8 refine O.t9 ?_ _ _
   exact O.refl _ _
  .iterate 8 refine O.cO ?_ _ _ (gS _)
   exact h.o.d8
 .obtain⟨p,m⟩:∃y,Af c n 18 i=y:=⟨_,rfl⟩;obtain⟨x2,q⟩:∃y,Af c n 1 p=y:=⟨_,rfl⟩;obtain⟨K,r⟩:∃y,AH c 1 p=y:=⟨_,rfl⟩;have u:Cu c n i=(⟨4,BO,K,0,[]⟩,x2):=by simp[Cu,o,m,q,r]
  rw[u];have U:p.next<n:=by rw[<-m];exact AV M s
  obtain⟨a,N,Q,S,P⟩:=BB (K9.start f L) o m q r;clear m q r u f L o M;go_enter func181,ntmps181;go_wp2_with fail;refine(A5 b g n l i c _ a.o.pa a.o.pt s).mono ?_;rw[N.o];rintro e w0 ⟨rfl,d⟩;have t:=J (a.o.quiet d);clear d a;have a:=t;clear t;go_wp2_with fail;refine(AI b g n l 18 i c _ a.o.pa a.o.pt s).mono ?_;rw[Q.o];rintro e w1 ⟨rfl,f,d⟩;have j:=J (a.o.call f d);clear f d a;go_wp2_with fail;refine(CG b g n l p c _ j.o.pa j.o.pt U).mono ?_;rw[S.o,P.o];rintro e V ⟨rfl,f,d⟩;have h:=J (j.o.call f d);clear f d j;obtain⟨x,z,B,C,E,F,H,I⟩:=h.o.cX.e8 0 1 2 3 4 5 6 7;have qf:=h.o.cX.frozen;have ql:=Ae h.o.cX;simp only[gR,gP,gQ]at x z B C E F H I;unfold Ki;go_wp2;have R:V.ownsRow w.heap.size 126 2 (Y Z 0 0) 0 []:=iB _ _ _ _;refine gZ (v:=.agg (GO ⟨4,BO,K,0,[]⟩ (Y Z 0 0))) (by simp[results,results181,go_sem,GO,BO,x,z,B,C,E,F,H,I];try rfl) rfl ⟨(Y Z 0 0),rfl,?_,?_,?_⟩
  .refine Ac (X:=fun k=>k=w.heap.size) R ?_ (Am R h.o.cX (by decide));iterate 8 refine O.t9 ?_ _ _
   exact O.refl _ _
  .refine W.d8 (X:=fun k=>k=w.heap.size) h.o.pa ?_ (by have:=h.o.bl;omega);iterate 8 refine O.t9 ?_ _ _
   exact O.refl _ _
  .iterate 8 refine O.cO ?_ _ _ (gS _)
   exact h.o.d8
theorem NW(p V)(hF:Cj p V)(b g n l f d w)(hb:p<=b)(S:Below p V w)(hB:p<=w.heap.size)(i:AY b g n l f w)(P:AZ g n l d w)(N:f.next<n)(U:(Aj d (n-1)).kind=0)(j:(Aj d f.next).kind=16\/(Aj d f.next).kind=10):
 Calls prog 181 #[.pointer (T ⟨b,0,Z⟩)] w fun e w'=>Hl b g n l w (Cu d n f) e w':=by
 obtain⟨HG,HF,HZ⟩:=Ax S hF U;rcases j with j|j
 .obtain⟨I,x1,m⟩:∃s y,Fe d n f=(s,y):=⟨_,_,rfl⟩;have t:Cu d n f=(I,x1):=by simp[Cu,j,m]
  rw[t];obtain⟨a,Q,R⟩:=Ax (K9.start i P) j m;clear m t i P j U S hF;go_enter func181,ntmps181;go_wp2_with fail;refine(A5 b g n l f d _ a.o.pa a.o.pt N).mono ?_;rw[Q.o];rintro e w0 ⟨rfl,h⟩;have q:=J (a.o.quiet h);clear h a;have a:=q;clear q;have a0:=a.o.d8.size;go_wp2_with fail;refine(Pi p V HF.o b g n l f d _ hb (O.keeps HG.o a.o.d8 hB hb) (by omega) a.o.pa a.o.pt N HZ.o).mono ?_;rw[R.o];rintro e w1 ⟨av,rfl,o,i,h⟩;obtain⟨K,M,L,rfl⟩:=Ad o;have c:=J (a.o.call i h);have r:=J (Aq o (B':=w.heap.size) (by omega));clear i h o a;obtain⟨u,x,z,B,C,E,F,H⟩:=c.o.cX.e8 0 1 2 3 4 5 6 7;have qf:=c.o.cX.frozen;have ql:=Ae c.o.cX;simp only[gR,gP,gQ]at u x z B C E F H;unfold GO;go_wp2;refine gZ (v:=.agg (GO I (Y K M L))) (by simp[results,results181,go_sem,GO,u,x,z,B,C,E,F,H]) rfl ⟨(Y K M L),rfl,?_,?_,?_⟩
  .refine Ac (X:=fun k=>k=w.heap.size) r.o ?_ (Am r.o c.o.cX (by decide));iterate 8 refine O.t9 ?_ _ _
   exact O.refl _ _
  .refine W.d8 (X:=fun k=>k=w.heap.size) c.o.pa ?_ (by have:=c.o.bl;omega);iterate 8 refine O.t9 ?_ _ _
   exact O.refl _ _
  .iterate 8 refine O.cO ?_ _ _ (gS _)
   exact c.o.d8
 .obtain⟨I,x1,m⟩:∃s y,Jg d n f=(s,y):=⟨_,_,rfl⟩;have t:Cu d n f=(I,x1):=by simp[Cu,j,m]
  rw[t];obtain⟨a,Q,R⟩:=Ax (K9.start i P) j m;clear m t i P j U S hF;go_enter func181,ntmps181;go_wp2_with fail;refine(A5 b g n l f d _ a.o.pa a.o.pt N).mono ?_;rw[Q.o];rintro e w0 ⟨rfl,h⟩;have q:=J (a.o.quiet h);clear h a;have a:=q;clear q;have a0:=a.o.d8.size;go_wp2_with fail;refine(KZ b g n l f d _ a.o.pa a.o.pt N HZ.o).mono ?_;rw[R.o];rintro e w1 ⟨av,rfl,o,i,h⟩;obtain⟨K,M,L,rfl⟩:=Ad o;have c:=J (a.o.call i h);have r:=J (Aq o (B':=w.heap.size) (by omega));clear i h o a;obtain⟨u,x,z,B,C,E,F,H⟩:=c.o.cX.e8 0 1 2 3 4 5 6 7;have qf:=c.o.cX.frozen;have ql:=Ae c.o.cX;simp only[gR,gP,gQ]at u x z B C E F H;unfold GO;go_wp2;refine gZ (v:=.agg (GO I (Y K M L))) (by simp[results,results181,go_sem,GO,u,x,z,B,C,E,F,H]) rfl ⟨(Y K M L),rfl,?_,?_,?_⟩
  .refine Ac (X:=fun k=>k=w.heap.size) r.o ?_ (Am r.o c.o.cX (by decide));iterate 8 refine O.t9 ?_ _ _
   exact O.refl _ _
  .refine W.d8 (X:=fun k=>k=w.heap.size) c.o.pa ?_ (by have:=c.o.bl;omega);iterate 8 refine O.t9 ?_ _ _
   exact O.refl _ _
  .iterate 8 refine O.cO ?_ _ _ (gS _)
   exact c.o.d8
theorem Sw(b g n m:Nat)(h:PS)(a:List PT)(w:World)(j:AY b g n m h w)(ht:AZ g n m a w)(I:h.next<n)(U:(Aj a (n-1)).kind=0)
 (k5:(Aj a h.next).kind≠5)(a1:(Aj a h.next).kind≠16)(a2:(Aj a h.next).kind≠17)(a3:(Aj a h.next).kind≠18)(a0:(Aj a h.next).kind≠10):
 Calls prog 181 #[.pointer (T ⟨b,0,Z⟩)] w fun e w'=>Hl b g n m w (Cu a n h) e w':=by
 obtain⟨o,M⟩:∃y,Af a n 1 h=y:=⟨_,rfl⟩;obtain⟨i,V⟩:∃y,AH a 1 h=y:=⟨_,rfl⟩;obtain⟨l2,x2,N⟩:∃l y,Bt a n o=(l,y):=⟨_,_,rfl⟩;have P:o.next<n:=by rw[<-M];exact AV U I
 obtain⟨f,X1,X2,K1,HZ⟩:=BB (K9.start j ht) M N V U;have hv:Cu a n h=if (Aj a o.next).kind=10 then(⟨7,BO,i,0,l2⟩,x2)else(⟨6,BO,i,0,[]⟩,o):=by simp[Cu,k5,a1,a2,a3,a0,M,N,V]
 rw[hv];obtain⟨L,Q⟩:∃k,(Aj a h.next).kind=k:=⟨_,rfl⟩;rw[Q]at k5 a1 a2 a3 a0;have HK:=J Q;have j5:((L:Int)==5)=false:=by simp;omega
 have a9:((L:Int)==16)=false:=by simp;omega
 have b0:((L:Int)==17)=false:=by simp;omega
 have b1:((L:Int)==18)=false:=by simp;omega
 have a8:((L:Int)==10)=false:=by simp;omega
 clear M N V hv j ht U Q k5 a1 a2 a3 a0;by_cases K:(Aj a o.next).kind=10
 .rw[jR K];have a4:(((Aj a o.next).kind:Int)==10)=true:=by simp[K]
  clear K;go_enter func181,ntmps181;go_wp2_with fail;refine(A5 b g n m h a _ f.o.pa f.o.pt I).mono ?_;rw[HK.o];rintro e w0 ⟨rfl,d⟩;have H:=J (f.o.quiet d);clear d f;have f:=H;clear H;go_wp2_with fail;refine(CG b g n m h a _ f.o.pa f.o.pt I).mono ?_;rw[X1.o,K1.o];rintro e w1 ⟨rfl,j,d⟩;have c:=J (f.o.call j d);clear j d f;unfold Ki;have a5:=Ae c.o.pa;have F:=J (W.new w1 #[.string i.d9,G A i.l7] 126);have p:=J (c.o.quiet ((O.refl _ _).alloc (.cells #[.string i.d9,G A i.l7] 126)));clear c;go_wp2_with fail;refine(A5 b g n m o a _ p.o.pa p.o.pt P).mono ?_;rintro e wk ⟨rfl,d⟩;have c:=J (p.o.quiet d);have E:=J (F.o.d8 d id);clear d p F;obtain⟨n0,n1⟩:=E.o.e2 0 1;simp only[gR,gP,gQ]at n0 n1;have l1:=Ae E.o;obtain⟨q,r,s,t,u,x,z,B⟩:=c.o.cX.e8 0 1 2 3 4 5 6 7;have qf:=c.o.cX.frozen;have ql:=Ae c.o.cX;simp only[gR,gP,gQ]at q r s t u x z B;go_wp2_with fail;go_region_with(go_at_call 141;refine(Kh b g n m o a _ (c.o.quiet (by repeat first|exact BI _ _|apply BG|apply BH|apply BE)).pa (c.o.quiet (by repeat first|exact BI _ _|apply BG|apply BH|apply BE)).pt P HZ.o).mono ?_;rw[X2.o];rintro e w5 ⟨v5,rfl,S,j,d⟩;obtain⟨va,vl,vc,rfl⟩:=Ad S;obtain⟨C,B5,HW⟩:=Ax ((c.o.quiet (by repeat first|exact BI _ _|apply BG|apply BH|apply BE)).call j d) ((W.d8 (X:=kJ) E.o (by repeat first|exact BI _ _|apply BG|apply BH|apply BE) id).d8 d (by omega)) (Aq S (B':=w.heap.size) (by have:=c.o.d8.size;simp;omega));obtain⟨a6,a7⟩:=B5.o.e2 0 1;simp only[gR,gP,gQ]at a6 a7;clear j d S q r s t u x z B qf ql;obtain⟨q,r,s,t,u,x,z,B⟩:=C.o.cX.e8 0 1 2 3 4 5 6 7;have qf:=C.o.cX.frozen;have ql:=Ae C.o.cX;simp only[gR,gP,gQ]at q r s t u x z B);all_goals
   go_wp2;refine gZ (v:=.agg (GO ⟨7,BO,i,0,l2⟩ (Y va vl vc))) (by simp[results,results181,go_sem,GO,BO,q,r,s,t,u,x,z,B];try rfl) rfl ⟨(Y va vl vc),rfl,?_,?_,?_⟩
   .refine Ac (X:=fun k=>k=w.heap.size) HW.o ?_ (Am HW.o C.o.cX (by decide));iterate 8 refine O.t9 ?_ _ _
    exact O.refl _ _
   .refine W.d8 (X:=fun k=>k=w.heap.size) C.o.pa ?_ (by have:=C.o.bl;omega);iterate 8 refine O.t9 ?_ _ _
    exact O.refl _ _
   .iterate 8 refine O.cO ?_ _ _ (gS _)
    exact C.o.d8
 .rw[jQ K];have a4:(((Aj a o.next).kind:Int)==10)=false:=by simp;omega
  clear K;go_enter func181,ntmps181;go_wp2_with fail;refine(A5 b g n m h a _ f.o.pa f.o.pt I).mono ?_;rw[HK.o];rintro e w0 ⟨rfl,d⟩;have H:=J (f.o.quiet d);clear d f;have f:=H;clear H;go_wp2_with fail;refine(CG b g n m h a _ f.o.pa f.o.pt I).mono ?_;rw[X1.o,K1.o];rintro e w1 ⟨rfl,j,d⟩;have c:=J (f.o.call j d);clear j d f;unfold Ki;have a5:=Ae c.o.pa;have F:=J (W.new w1 #[.string i.d9,G A i.l7] 126);have p:=J (c.o.quiet ((O.refl _ _).alloc (.cells #[.string i.d9,G A i.l7] 126)));clear c;go_wp2_with fail;refine(A5 b g n m o a _ p.o.pa p.o.pt P).mono ?_;rintro e wk ⟨rfl,d⟩;have c:=J (p.o.quiet d);have E:=J (F.o.d8 d id);clear d p F;obtain⟨n0,n1⟩:=E.o.e2 0 1;simp only[gR,gP,gQ]at n0 n1;have l1:=Ae E.o;obtain⟨q,r,s,t,u,x,z,B⟩:=c.o.cX.e8 0 1 2 3 4 5 6 7;have qf:=c.o.cX.frozen;have ql:=Ae c.o.cX;simp only[gR,gP,gQ]at q r s t u x z B;go_wp2;have R:wk.ownsRow w.heap.size 126 2 (Y Z 0 0) 0 []:=iB _ _ _ _;refine gZ (v:=.agg (GO ⟨6,BO,i,0,[]⟩ (Y Z 0 0))) (by simp[results,results181,go_sem,GO,BO,q,r,s,t,u,x,z,B];try rfl) rfl ⟨(Y Z 0 0),rfl,?_,?_,?_⟩
  .refine Ac (X:=fun k=>k=w.heap.size) R ?_ (Am R c.o.cX (by decide));iterate 8 refine O.t9 ?_ _ _
   exact O.refl _ _
  .refine W.d8 (X:=fun k=>k=w.heap.size) c.o.pa ?_ (by have:=c.o.bl;omega);iterate 8 refine O.t9 ?_ _ _
   exact O.refl _ _
  .iterate 8 refine O.cO ?_ _ _ (gS _)
   exact c.o.d8
theorem Vi(f l)(hF:Cj f l)(b g n d c a w)(u:f<=b)(t:Below f l w)(s:f<=w.heap.size)(i:AY b g n d c w)(j:AZ g n d a w)(h:c.next<n)(k:(Aj a (n-1)).kind=0):
 Calls prog 181 #[.pointer (T ⟨b,0,Z⟩)] w fun e v=>Hl b g n d w (Cu a n c) e v:=by
 by_cases r:(Aj a c.next).kind=5
 .exact Vk b g n d c a w i j h r
 .by_cases o:(Aj a c.next).kind=16
  .exact NW f l hF b g n d c a w u t s i j h k (.inl o)
  .by_cases p:(Aj a c.next).kind=17
   .exact NY b g n d c a w i j h k (.inl p)
   .by_cases q:(Aj a c.next).kind=18
    .exact NY b g n d c a w i j h k (.inr q)
    .by_cases m:(Aj a c.next).kind=10
     .exact NW f l hF b g n d c a w u t s i j h k (.inr m)
     .exact Sw b g n d c a w i j h k r o p q m
def AT(a:List PT)(n:Nat)(x:PS):VS×PS:=
 if (Aj a x.next).kind=4 then(⟨0,AH a 1 (Af a n 4 x),BO,0,[]⟩,Af a n 1 (Af a n 4 x))
 else if (Aj a x.next).kind=6 then(⟨10,BO,AH a 1 (Af a n 6 x),0,[]⟩,Af a n 1 (Af a n 6 x))
 else if (Aj a x.next).kind=17 then
  let b:=Af a n 17 x
  let d:=Af a n 15 (Af a n 1 b)
  (⟨9,AH a 1 b,AH a 1 d,0,[]⟩,Af a n 1 d)
 else
  let c:=Af a n 15 (Af a n 1 x)
  ({(Cu a n c).1 with tg:=AH a 1 x},(Cu a n c).2)
theorem NH(b g n l i c w)(f:AY b g n l i w)(L:AZ g n l c w)(s:i.next<n)(M:(Aj c (n-1)).kind=0)(o:(Aj c i.next).kind=4\/(Aj c i.next).kind=6):
 Calls prog 173 #[.pointer (T ⟨b,0,Z⟩)] w fun e w'=>Hl b g n l w (AT c n i) e w':=by
 rcases o with o|o
 .obtain⟨p,m⟩:∃y,Af c n 4 i=y:=⟨_,rfl⟩;obtain⟨x2,q⟩:∃y,Af c n 1 p=y:=⟨_,rfl⟩;obtain⟨K,r⟩:∃y,AH c 1 p=y:=⟨_,rfl⟩;have u:AT c n i=(⟨0,K,BO,0,[]⟩,x2):=by simp[AT,o,m,q,r]
  rw[u];have U:p.next<n:=by rw[<-m];exact AV M s
  obtain⟨a,N,Q,S,P⟩:=BB (K9.start f L) o m q r;clear m q r u f L o M;go_enter func173,ntmps173;go_wp2_with fail;refine(A5 b g n l i c _ a.o.pa a.o.pt s).mono ?_;rw[N.o];rintro e w0 ⟨rfl,d⟩;have t:=J (a.o.quiet d);clear d a;have a:=t;clear t;go_wp2_with fail;refine(AI b g n l 4 i c _ a.o.pa a.o.pt s).mono ?_;rw[Q.o];rintro e w1 ⟨rfl,f,d⟩;have j:=J (a.o.call f d);clear f d a;go_wp2_with fail;refine(CG b g n l p c _ j.o.pa j.o.pt U).mono ?_;rw[S.o,P.o];rintro e V ⟨rfl,f,d⟩;have h:=J (j.o.call f d);clear f d j;obtain⟨x,z,B,C,E,F,H,I⟩:=h.o.cX.e8 0 1 2 3 4 5 6 7;have qf:=h.o.cX.frozen;have ql:=Ae h.o.cX;simp only[gR,gP,gQ]at x z B C E F H I;unfold Ki;go_wp2;have R:V.ownsRow w.heap.size 126 2 (Y Z 0 0) 0 []:=iB _ _ _ _;refine gZ (v:=.agg (GO ⟨0,K,BO,0,[]⟩ (Y Z 0 0))) (by simp[results,results173,go_sem,GO,BO,x,z,B,C,E,F,H,I];try rfl) rfl ⟨(Y Z 0 0),rfl,?_,?_,?_⟩
  .refine Ac (X:=fun k=>k=w.heap.size) R ?_ (Am R h.o.cX (by decide));iterate 8 refine O.t9 ?_ _ _
   exact O.refl _ _
  .refine W.d8 (X:=fun k=>k=w.heap.size) h.o.pa ?_ (by have:=h.o.bl;omega);iterate 8 refine O.t9 ?_ _ _
   exact O.refl _ _
  .iterate 8 refine O.cO ?_ _ _ (gS _)
   exact h.o.d8
 .obtain⟨p,m⟩:∃y,Af c n 6 i=y:=⟨_,rfl⟩;obtain⟨x2,q⟩:∃y,Af c n 1 p=y:=⟨_,rfl⟩;obtain⟨K,r⟩:∃y,AH c 1 p=y:=⟨_,rfl⟩;have u:AT c n i=(⟨10,BO,K,0,[]⟩,x2):=by simp[AT,o,m,q,r]
  rw[u];have U:p.next<n:=by rw[<-m];exact AV M s
  obtain⟨a,N,Q,S,P⟩:=BB (K9.start f L) o m q r;clear m q r u f L o M;go_enter func173,ntmps173;go_wp2_with fail;refine(A5 b g n l i c _ a.o.pa a.o.pt s).mono ?_;rw[N.o];rintro e w0 ⟨rfl,d⟩;have t:=J (a.o.quiet d);clear d a;have a:=t;clear t;go_wp2_with fail;refine(AI b g n l 6 i c _ a.o.pa a.o.pt s).mono ?_;rw[Q.o];rintro e w1 ⟨rfl,f,d⟩;have j:=J (a.o.call f d);clear f d a;go_wp2_with fail;refine(CG b g n l p c _ j.o.pa j.o.pt U).mono ?_;rw[S.o,P.o];rintro e V ⟨rfl,f,d⟩;have h:=J (j.o.call f d);clear f d j;obtain⟨x,z,B,C,E,F,H,I⟩:=h.o.cX.e8 0 1 2 3 4 5 6 7;have qf:=h.o.cX.frozen;have ql:=Ae h.o.cX;simp only[gR,gP,gQ]at x z B C E F H I;unfold Ki;go_wp2;have R:V.ownsRow w.heap.size 126 2 (Y Z 0 0) 0 []:=iB _ _ _ _;refine gZ (v:=.agg (GO ⟨10,BO,K,0,[]⟩ (Y Z 0 0))) (by simp[results,results173,go_sem,GO,BO,x,z,B,C,E,F,H,I];try rfl) rfl ⟨(Y Z 0 0),rfl,?_,?_,?_⟩
  .refine Ac (X:=fun k=>k=w.heap.size) R ?_ (Am R h.o.cX (by decide));iterate 8 refine O.t9 ?_ _ _
   exact O.refl _ _
  .refine W.d8 (X:=fun k=>k=w.heap.size) h.o.pa ?_ (by have:=h.o.bl;omega);iterate 8 refine O.t9 ?_ _ _
   exact O.refl _ _
  .iterate 8 refine O.cO ?_ _ _ (gS _)
   exact h.o.d8
theorem RU(b g n h i c w)(d:AY b g n h i w)(ht:AZ g n h c w)(P:i.next<n)(H:(Aj c (n-1)).kind=0)(Q:(Aj c i.next).kind=17):
 Calls prog 173 #[.pointer (T ⟨b,0,Z⟩)] w fun e w'=>Hl b g n h w (AT c n i) e w':=by
 obtain⟨I,C⟩:∃y,Af c n 17 i=y:=⟨_,rfl⟩;obtain⟨V,E⟩:∃y,Af c n 1 I=y:=⟨_,rfl⟩;obtain⟨m,S⟩:∃y,AH c 1 I=y:=⟨_,rfl⟩;obtain⟨K,F⟩:∃y,Af c n 15 V=y:=⟨_,rfl⟩;obtain⟨x4,N⟩:∃y,Af c n 1 K=y:=⟨_,rfl⟩;obtain⟨t4,U⟩:∃y,AH c 1 K=y:=⟨_,rfl⟩;have hv:AT c n i=(⟨9,m,t4,0,[]⟩,x4):=by simp[AT,Q,C,E,S,F,N,U]
 rw[hv];have a1:I.next<n:=by rw[<-C];exact AV H P
 have a2:V.next<n:=by rw[<-E];exact AV H a1
 have a3:K.next<n:=by rw[<-F];exact AV H a2
 obtain⟨f,HK,X1,X2,K2,X3,X4,K4⟩:=En (K9.start d ht) Q C E S F N U;clear C E S F N U hv d ht Q H;go_enter func173,ntmps173;go_wp2_with fail;refine(A5 b g n h i c _ f.o.pa f.o.pt P).mono ?_;rw[HK.o];rintro e w0 ⟨rfl,a⟩;have a0:=J (f.o.quiet a);clear a f;have f:=a0;clear a0;go_wp2_with fail;refine(AI b g n h 17 i c _ f.o.pa f.o.pt P).mono ?_;rw[X1.o];rintro e w1 ⟨rfl,d,a⟩;have z:=J (f.o.call d a);clear d a f;go_wp2_with fail;refine(CG b g n h I c _ z.o.pa z.o.pt a1).mono ?_;rw[X2.o,K2.o];rintro e w2 ⟨rfl,d,a⟩;have M:=J (z.o.call d a);clear d a z;unfold Ki;have a6:=Ae M.o.pa;have B2:=J (W.new w2 #[.string m.d9,G A m.l7] 126);have B:=J (M.o.quiet ((O.refl _ _).alloc (.cells #[.string m.d9,G A m.l7] 126)));clear M;go_wp2_with fail;refine(AI b g n h 15 V c _ B.o.pa B.o.pt a2).mono ?_;rw[X3.o];rintro e w3 ⟨rfl,d,a⟩;have l:=J (B.o.call d a);have L:=J (B2.o.d8 a (by omega));clear d a B B2;obtain⟨n0,n1⟩:=L.o.e2 0 1;simp only[gR,gP,gQ]at n0 n1;have l3:=Ae L.o;obtain⟨o,p,q,r,s,t,u,x⟩:=l.o.cX.e8 0 1 2 3 4 5 6 7;have qf:=l.o.cX.frozen;have ql:=Ae l.o.cX;simp only[gR,gP,gQ]at o p q r s t u x;go_wp2_with fail;go_region_with(go_at_call 140;refine(CG b g n h K c _ (l.o.quiet (by repeat first|exact BI _ _|apply BG|apply BH|apply BE)).pa (l.o.quiet (by repeat first|exact BI _ _|apply BG|apply BH|apply BE)).pt a3).mono ?_;rw[X4.o,K4.o];rintro e w5 ⟨rfl,d,a⟩;have j:=J ((l.o.quiet (by repeat first|exact BI _ _|apply BG|apply BH|apply BE)).call d a);have B5:=J ((W.d8 (X:=kJ) L.o (by repeat first|exact BI _ _|apply BG|apply BH|apply BE) id).d8 a (by omega));obtain⟨a4,a5⟩:=B5.o.e2 0 1;simp only[gR,gP,gQ]at a4 a5;unfold Ki;clear d a o p q r s t u x qf ql;obtain⟨o,p,q,r,s,t,u,x⟩:=j.o.cX.e8 0 1 2 3 4 5 6 7;have qf:=j.o.cX.frozen;have ql:=Ae j.o.cX;simp only[gR,gP,gQ]at o p q r s t u x);all_goals
  go_wp2;have R:w5.ownsRow w.heap.size 126 2 (Y Z 0 0) 0 []:=iB _ _ _ _;refine gZ (v:=.agg (GO ⟨9,m,t4,0,[]⟩ (Y Z 0 0))) (by simp[results,results173,go_sem,GO,o,p,q,r,s,t,u,x]) rfl ⟨(Y Z 0 0),rfl,?_,?_,?_⟩
  .refine Ac (X:=fun k=>k=w.heap.size) R ?_ (Am R j.o.cX (by decide));iterate 8 refine O.t9 ?_ _ _
   exact O.refl _ _
  .refine W.d8 (X:=fun k=>k=w.heap.size) j.o.pa ?_ (by have:=j.o.bl;omega);iterate 8 refine O.t9 ?_ _ _
   exact O.refl _ _
  .iterate 8 refine O.cO ?_ _ _ (gS _)
   exact j.o.d8
theorem UJ(o:Nat)(M:World)(hF:Cj o M)(b g n l:Nat)(d:PS)(a:List PT)(w:World)(hb:o<=b)(V:Below o M w)(hB:o<=w.heap.size)(f:AY b g n l d w)(ht:AZ g n l a w)(B:d.next<n)(t:(Aj a (n-1)).kind=0)
 (I:(Aj a d.next).kind≠4)(K:(Aj a d.next).kind≠6)(H:(Aj a d.next).kind≠17):
 Calls prog 173 #[.pointer (T ⟨b,0,Z⟩)] w fun e w'=>Hl b g n l w (AT a n d) e w':=by
 obtain⟨N,q⟩:∃y,Af a n 1 d=y:=⟨_,rfl⟩;obtain⟨m,F⟩:∃y,AH a 1 d=y:=⟨_,rfl⟩;obtain⟨P,r⟩:∃y,Af a n 15 N=y:=⟨_,rfl⟩;obtain⟨s3,x3,z⟩:∃s y,Cu a n P=(s,y):=⟨_,_,rfl⟩;have hv:AT a n d=({s3 with tg:=m},x3):=by simp[AT,I,K,H,q,F,r,z]
 rw[hv];have a0:N.next<n:=by rw[<-q];exact AV t B
 have a1:P.next<n:=by rw[<-r];exact AV t a0
 obtain⟨h,HG,HF,HZ,X1,K1,X2,X3⟩:=En (K9.start f ht) V hF t q F r z;obtain⟨L,C⟩:∃k,(Aj a d.next).kind=k:=⟨_,rfl⟩;rw[C]at I K H;have HK:=J C;have j4:((L:Int)==4)=false:=by simp;omega
 have j6:((L:Int)==6)=false:=by simp;omega
 have a4:((L:Int)==17)=false:=by simp;omega
 clear q F r z hv f ht t C I K H V hF;go_enter func173,ntmps173;go_wp2_with fail;refine(A5 b g n l d a _ h.o.pa h.o.pt B).mono ?_;rw[HK.o];rintro e w0 ⟨rfl,c⟩;have S:=J (h.o.quiet c);clear c h;have h:=S;clear S;go_wp2_with fail;refine(CG b g n l d a _ h.o.pa h.o.pt B).mono ?_;rw[X1.o,K1.o];rintro e w1 ⟨rfl,f,c⟩;have x:=J (h.o.call f c);clear f c h;unfold Ki;have a2:=Ae x.o.pa;have Q:=J (W.new w1 #[.string m.d9,G A m.l7] 126);have p:=J (x.o.quiet ((O.refl _ _).alloc (.cells #[.string m.d9,G A m.l7] 126)));clear x;go_wp2_with fail;refine(AI b g n l 15 N a _ p.o.pa p.o.pt a0).mono ?_;rw[X2.o];rintro e w2 ⟨rfl,f,c⟩;have i:=J (p.o.call f c);have u:=J (Q.o.d8 c (by omega));clear f c p Q;have a3:=i.o.d8.size;have l2:=Ae u.o;have a5:=Ae i.o.pa;go_wp2_with fail;refine(Vi o M HF.o b g n l P a _ hb (O.keeps HG.o i.o.d8 hB hb) (by omega) i.o.pa i.o.pt a1 HZ.o).mono ?_;rw[X3.o];rintro e w3 ⟨av,rfl,E,f,c⟩;obtain⟨va,vl,vc,rfl⟩:=Ad E;obtain⟨j,R,U⟩:=Ax (i.o.call f c) (u.o.d8 c (by omega)) (Aq E (B':=w.heap.size) (by omega));clear f c E i u;obtain⟨n0,n1⟩:=R.o.e2 0 1;simp only[gR,gP,gQ]at n0 n1;have l3:=Ae R.o;obtain⟨q0,q1,q2,q3,q4,q5,q6,q7⟩:=j.o.cX.e8 0 1 2 3 4 5 6 7;have qf:=j.o.cX.frozen;have ql:=Ae j.o.cX;simp only[gR,gP,gQ]at q0 q1 q2 q3 q4 q5 q6 q7;unfold GO;go_wp2;refine gZ (v:=.agg (GO {s3 with tg:=m} (Y va vl vc))) (by simp[results,results173,go_sem,GO,q0,q1,q2,q3,q4,q5,q6,q7,ql]) rfl ⟨Y va vl vc,rfl,?_,?_,?_⟩
 .refine Ac (X:=fun k=>k=w.heap.size) U.o ?_ (Am U.o j.o.cX (by decide));refine O.alloc ?_ _;iterate 8 refine O.t9 ?_ _ _
  exact O.refl _ _
 .refine W.d8 (X:=fun k=>k=w.heap.size) j.o.pa ?_ (by have:=j.o.bl;omega);refine O.alloc ?_ _;iterate 8 refine O.t9 ?_ _ _
  exact O.refl _ _
 .refine O.alloc ?_ _;iterate 8 refine O.cO ?_ _ _ (gS _)
  exact j.o.d8
theorem UG(f l)(hF:Cj f l)(b g n d c a w)(s:f<=b)(r:Below f l w)(q:f<=w.heap.size)(i:AY b g n d c w)(j:AZ g n d a w)(h:c.next<n)(k:(Aj a (n-1)).kind=0):
 Calls prog 173 #[.pointer (T ⟨b,0,Z⟩)] w fun e t=>Hl b g n d w (AT a n c) e t:=by
 by_cases o:(Aj a c.next).kind=4
 .exact NH b g n d c a w i j h k (.inl o)
 .by_cases p:(Aj a c.next).kind=6
  .exact NH b g n d c a w i j h k (.inr p)
  .by_cases m:(Aj a c.next).kind=17
   .exact RU b g n d c a w i j h k m
   .exact UJ f l hF b g n d c a w s r q i j h k o p m
inductive TS where
 |mk (s:VS) (bl:List (Nat×List TS))
def EK(k:Nat):VS:=⟨k,BO,BO,0,[]⟩
def CZ(k:Nat):Prop:=k=4\/k=1\/k=17\/k=6\/k=7\/k=9
instance (k:Nat):Decidable (CZ k):=by unfold CZ;infer_instance
mutual
def AO(a:List PT)(n:Nat):Nat->PS->List TS->List TS×PS
 |0,x,acc=>(acc,x)
 |f+1,x,acc=>if CZ (Aj a x.next).kind then AO a n f (Bw a n f x).2 (acc++[(Bw a n f x).1])else(acc,x)
def Bw(a:List PT)(n:Nat):Nat->PS->TS×PS
 |0,x=>(.mk (EK 0) [],x)
 |f+1,x=>
  if (Aj a x.next).kind=7 then
   let x2:=Af a n 20 (Af a n 7 x)
   let r:=AO a n f (Af a n 12 x2) []
   let x3:=Af a n 13 r.2
   if (Aj a x3.next).kind=8 then
    let x4:=Af a n 8 x3
    let r2:=AO a n f (Af a n 12 x4) []
    (.mk (EK 11) [((AH a 12 x2).l7,r.1),((AH a 12 x4).l7,r2.1)],Af a n 13 r2.2)
   else(.mk (EK 11) [((AH a 12 x2).l7,r.1)],x3)
  else if (Aj a x.next).kind=9 then
   let x2:=Af a n 20 (Af a n 9 x)
   let r:=AO a n f (Af a n 12 x2) []
   (.mk (EK 12) [((AH a 12 x2).l7,r.1)],Af a n 13 r.2)
  else(.mk (AT a n x).1 [],Af a n 14 (AT a n x).2)
end
section
variable{a:List PT}{n:Nat}
def IZ(n:Nat)(x y:PS):Prop:=x.next<=y.next/\y.next<n
theorem IZ.trans{x y z:PS}(h:IZ n x y)(k:IZ n y z):IZ n x z:=⟨iG h.1 k.1,k.2⟩
theorem Ah(c:(Aj a (n-1)).kind=0)(k:Nat){x:PS}(b:x.next<n):IZ n x (Af a n k x):=by
 refine⟨?_,AV c b⟩;unfold Af;split
 .split
  .exact gS _
  .exact Nat.le_succ _
 .show x.next<=n-1;omega
theorem Cf{k:Nat}{x:PS}(c:(Aj a x.next).kind=k)(b:k≠0):(Af a n k x).next=x.next+1:=by unfold Af;rw[jR c,jQ b]
theorem Nz(c:(Aj a (n-1)).kind=0):∀(f:Nat) (x:PS) (b:List PT),x.next<n->IZ n x (DO a f x b).2
 |0,x,b,h=>⟨gS _,h⟩
 |f+1,x,b,h=>by
  simp only[DO];split
  .rename_i d;have g:x.next≠n-1:=by intro e;rw[e,c]at d;omega
   have:=Nz c f ⟨x.next+1,x.cR,x.dH⟩ (b++[Aj a x.next]) (by show x.next+1<n;omega);exact⟨by have:=this.1;simp only at this;omega,this.2⟩
  .exact⟨gS _,h⟩
theorem EH(b:(Aj a (n-1)).kind=0){x:PS}(e:x.next<n):IZ n x (Bt a n x).2:=by have c:=Ah b 10 e;have d:=Nz b a.length _ [] c.2;exact(c.trans d).trans (Ah b 11 d.2)
theorem Rk(b:(Aj a (n-1)).kind=0){x:PS}(g:x.next<n):IZ n x (Jg a n x).2:=by have c:=Ah b 10 g;have d:=c.trans (Ah b 17 c.2);have e:=d.trans (Ah b 1 d.2);have f:=e.trans (Ah b 11 e.2);exact f.trans (EH b f.2)
theorem Rf(b:(Aj a (n-1)).kind=0){x:PS}(f:x.next<n):IZ n x (Fe a n x).2:=by
 have d:=Ah b 16 f;have c:=d.trans (Ah b 1 d.2);unfold Fe;simp only;split
 .have e:=c.trans (Ah b 19 c.2);exact e.trans (Ah b 2 e.2)
 .exact c
theorem NT(c:(Aj a (n-1)).kind=0){x:PS}(d:x.next<n):IZ n x (Cu a n x).2:=by
 unfold Cu;split
 .exact Ah c 5 d
 .split
  .exact Rf c d
  .split
   .have b:=Ah c 17 d;exact b.trans (Ah c 1 b.2)
   .split
    .have b:=Ah c 18 d;exact b.trans (Ah c 1 b.2)
    .split
     .exact Rk c d
     .have b:=Ah c 1 d;split
      .exact b.trans (EH c b.2)
      .exact b
theorem Qq(c:(Aj a (n-1)).kind=0){x:PS}(g:x.next<n)(j:(Aj a x.next).kind=4\/(Aj a x.next).kind=1\/(Aj a x.next).kind=17\/(Aj a x.next).kind=6):x.next+1<=(AT a n x).2.next/\(AT a n x).2.next<n:=by
 unfold AT;split
 .rename_i h;have d:=Ah c 4 g;have e:=Cf (n:=n) h (by omega);have b:=Ah c 1 d.2;exact⟨by have:=b.1;simp only;omega,b.2⟩
 .split
  .rename_i h;have d:=Ah c 6 g;have e:=Cf (n:=n) h (by omega);have b:=Ah c 1 d.2;exact⟨by have:=b.1;simp only;omega,b.2⟩
  .split
   .rename_i h;have d:=Ah c 17 g;have e:=Cf (n:=n) h (by omega);have b:=Ah c 1 d.2;have f:=b.trans (Ah c 15 b.2);have i:=f.trans (Ah c 1 f.2);exact⟨by have:=i.1;simp only;omega,i.2⟩
   .have h:(Aj a x.next).kind=1:=by omega
    have d:=Ah c 1 g;have e:=Cf (n:=n) h (by omega);have b:=Ah c 15 d.2;have f:=b.trans (NT c b.2);exact⟨by have:=f.1;simp only;omega,f.2⟩
theorem KI(c:(Aj a (n-1)).kind=0){x:PS}(e:x.next<n):IZ n x (AT a n x).2:=by
 unfold AT;split
 .have b:=Ah c 4 e;exact b.trans (Ah c 1 b.2)
 .split
  .have b:=Ah c 6 e;exact b.trans (Ah c 1 b.2)
  .split
   .have b:=Ah c 17 e;have d:=b.trans (Ah c 1 b.2);have f:=d.trans (Ah c 15 d.2);exact f.trans (Ah c 1 f.2)
   .have b:=Ah c 1 e;have d:=b.trans (Ah c 15 b.2);exact d.trans (NT c d.2)
mutual
theorem BM(hz:(Aj a (n-1)).kind=0):∀(f:Nat) (x:PS) (acc:List TS),x.next<n->IZ n x (AO a n f x acc).2
 |0,x,acc,h=>⟨gS _,h⟩
 |f+1,x,acc,h=>by
  unfold AO;split
  .have h1:=GC hz f x h;exact h1.trans (BM hz f _ _ h1.2)
  .exact⟨gS _,h⟩
theorem GC(hz:(Aj a (n-1)).kind=0):∀(f:Nat) (x:PS),x.next<n->IZ n x (Bw a n f x).2
 |0,x,h=>⟨gS _,h⟩
 |f+1,x,h=>by
  unfold Bw;split
  .have h1:=Ah hz 7 h;have h2:=h1.trans (Ah hz 20 h1.2);have h3:=h2.trans (Ah hz 12 h2.2);have h4:=h3.trans (BM hz f _ [] h3.2);have h5:=h4.trans (Ah hz 13 h4.2);simp only;split
   .have h6:=h5.trans (Ah hz 8 h5.2);have h7:=h6.trans (Ah hz 12 h6.2);have h8:=h7.trans (BM hz f _ [] h7.2);exact h8.trans (Ah hz 13 h8.2)
   .exact h5
  .split
   .have h1:=Ah hz 9 h;have h2:=h1.trans (Ah hz 20 h1.2);have h3:=h2.trans (Ah hz 12 h2.2);have h4:=h3.trans (BM hz f _ [] h3.2);exact h4.trans (Ah hz 13 h4.2)
   .have h1:=KI hz h;exact h1.trans (Ah hz 14 h1.2)
end
theorem IV(b:(Aj a (n-1)).kind=0)(f:Nat){x:PS}(h:x.next<n)(q:CZ (Aj a x.next).kind):x.next+1<=(Bw a n (f+1) x).2.next:=by
 unfold Bw;split
 .rename_i k;have d:=Ah b 7 h;have e:=Cf (n:=n) k (by omega);have c:=Ah b 20 d.2;have g:=c.trans (Ah b 12 c.2);have i:=g.trans (BM b f _ [] g.2);have j:=i.trans (Ah b 13 i.2);simp only;split
  .have l:=j.trans (Ah b 8 j.2);have m:=l.trans (Ah b 12 l.2);have o:=m.trans (BM b f _ [] m.2);have p:=o.trans (Ah b 13 o.2);have:=p.1;simp only;omega
  .have:=j.1;simp only;omega
 .split
  .rename_i k;have d:=Ah b 9 h;have e:=Cf (n:=n) k (by omega);have c:=Ah b 20 d.2;have g:=c.trans (Ah b 12 c.2);have i:=g.trans (BM b f _ [] g.2);have j:=i.trans (Ah b 13 i.2);have:=j.1;simp only;omega
  .have d:=Qq b h (by unfold CZ at q;omega);have c:=Ah b 14 d.2;have:=c.1;simp only;omega
end
def Fc(s:VS)(a b:Value):Array Value:=#[G A s.kind,.string s.tg.d9,G A s.tg.l7,.string s.sr.d9,G A s.sr.l7,G A s.field,a,b]
def Ce:Nat->(Nat->Prop)->World->TS->List Value->Prop
 |0,_,_,_,_=>False
 |d+1,U,w,.mk s a,c=>∃(f l:Value) (b:List (List Value)),c=(Fc s f l).toList/\w.ownsRow 0 126 2 f s.args.length (BS s.args)/\(∀k,f.ownBlock=T k->U k)/\
   w.ownsRow 0 130 2 l a.length b.flatten/\b.length=a.length/\(∀k,l.ownBlock=T k->U k)/\
   ∀i (h:i<a.length) (o:i<b.length),∃(m:Value) (e:List (List Value)),b[i]=[G A (a[i].1:Nat),m]/\w.ownsRow 0 230 8 m a[i].2.length e.flatten/\e.length=a[i].2.length/\(∀k,m.ownBlock=T k->U k)/\
    ∀j (g:j<a[i].2.length) (n:j<e.length),Ce d U w a[i].2[j] e[j]
def C7(d:Nat)(U:Nat->Prop)(w:World)(sv:Value)(sts:List TS):Prop:=∃a:List (List Value),w.ownsRow 0 230 8 sv sts.length a.flatten/\a.length=sts.length/\(∀k,sv.ownBlock=T k->U k)/\∀j (g:j<sts.length) (b:j<a.length),Ce d U w sts[j] a[j]
theorem Ce.d8:∀{d:Nat} {U:Nat->Prop} {w f:World} {t:TS} {c:List Value} {X:Nat->Prop},Ce d U w t c->O X w f->(∀k,U k->¬X k)->Ce d U f t c
 |0,_,_,_,_,_,_,h,_,_=>h.elim
 |d+1,U,w,f,.mk s L,c,X,h,b,e=>by obtain⟨n,p,o,B,C,l,E,F,m,H⟩:=h;refine⟨n,p,o,B,Ac C b (fun k a=>e k (l k a)),l,Ac E b (fun k a=>e k (m k a)),F,m,fun i I K=>?_⟩;obtain⟨sv,q,r,u,v,g,x⟩:=H i I K;exact⟨sv,q,r,Ac u b (fun k a=>e k (g k a)),v,g,fun j y z=>(x j y z).d8 b e⟩
theorem Ce.more:∀{d:Nat} {U U':Nat->Prop} {w:World} {t:TS} {c:List Value},Ce d U w t c->(∀k,U k->U' k)->Ce d U' w t c
 |0,_,_,_,_,_,h,_=>h.elim
 |d+1,U,U',w,.mk s K,c,h,b=>by obtain⟨e,g,f,v,x,y,z,B,C,E⟩:=h;refine⟨e,g,f,v,x,fun k a=>b k (y k a),z,B,fun k a=>b k (C k a),fun i F H=>?_⟩;obtain⟨I,l,m,n,o,p,q⟩:=E i F H;exact⟨I,l,m,n,o,fun k a=>b k (p k a),fun j r u=>(q j r u).more b⟩
theorem Ce.up:∀{d:Nat} {U:Nat->Prop} {w:World} {t:TS} {c:List Value},Ce d U w t c->Ce (d+1) U w t c
 |0,_,_,_,_,h=>h.elim
 |d+1,U,w,.mk s F,c,h=>by obtain⟨a,e,b,q,r,u,v,x,y,z⟩:=h;refine⟨a,e,b,q,r,u,v,x,y,fun i B C=>?_⟩;obtain⟨E,f,g,k,l,m,n⟩:=z i B C;exact⟨E,f,g,k,l,m,fun j o p=>(n j o p).up⟩
theorem Ce.eC{d e}{U:Nat->Prop}{w t c}(h:Ce d U w t c)(a:d<=e):Ce e U w t c:=by
 induction a with
 |refl=>exact h
 |step _ b=>exact b.up
theorem Ce.length{d}{U:Nat->Prop}{w t c}(h:Ce d U w t c):c.length=8:=by
 match d,t,h with
 |d+1,.mk s f,h=> obtain⟨b,g,e,a,_⟩:=h;rw[a];rfl
theorem C7.d8{d}{U:Nat->Prop}{w e sv sts}{X:Nat->Prop}(h:C7 d U w sv sts)(b:O X w e)(c:∀k,U k->¬X k):C7 d U e sv sts:=by obtain⟨f,l,m,a,n⟩:=h;exact⟨f,Ac l b (fun k o=>c k (a k o)),m,a,fun j g i=>(n j g i).d8 b c⟩
theorem C7.more{d}{U U':Nat->Prop}{w c b}(h:C7 d U w c b)(a:∀k,U k->U' k):C7 d U' w c b:=by obtain⟨e,i,l,m,n⟩:=h;exact⟨e,i,l,fun k o=>a k (m k o),fun j g f=>(n j g f).more a⟩
theorem C7.eC{d e}{U:Nat->Prop}{w b a}(h:C7 d U w b a)(n:d<=e):C7 e U w b a:=by obtain⟨c,i,k,l,m⟩:=h;exact⟨c,i,k,l,fun j g f=>(m j g f).eC n⟩
theorem Ce.flat{U:Nat->Prop}{w s a}(h:w.ownsRow 0 126 2 a s.args.length (BS s.args))(d:∀k,a.ownBlock=T k->U k):Ce 1 U w (.mk s []) (GO s a).toList:=
 ⟨a,Y Z 0 0,[],rfl,h,d,iB _ _ _ _,rfl,fun k c=>by simp[Value.ownBlock]at c,fun i b=>by simp at b⟩
theorem Ce.blocks{d}{U:Nat->Prop}{w k b a svs}(n:svs.length=a.length)(h:w.ownsRow 0 130 2 b a.length (((a.zip svs).map fun p=>[Value.int .i64 (p.1.1:Nat),p.2]).flatten))(q:∀k,b.ownBlock=T k->U k)
 (o:∀i (h:i<a.length) (r:i<svs.length),C7 d U w svs[i] a[i].2):Ce (d+1) U w (.mk (EK k) a) (Fc (EK k) (Y Z 0 0) b).toList:=by
 refine⟨Y Z 0 0,b,(a.zip svs).map fun p=>[Value.int .i64 (p.1.1:Nat),p.2],rfl,iB _ _ _ _,fun k m=>by simp[Value.ownBlock]at m,h,by simp[n],q,fun i l s=>?_⟩;obtain⟨c,e,f,g,j⟩:=o i l (by omega);exact⟨svs[i]'(by omega),c,by simp,e,f,g,j⟩
def Xe(b g n h:Nat)(w:World)(r:TS×PS)(e:Ending)(a:World):Prop:=
 ∃(d:Nat) (U:Nat->Prop) (s:VS) (c f:Value),e=.returned (.agg (Fc s c f))/\Ce d U a r.1 (Fc s c f).toList/\(∀k,U k->w.heap.size<=k/\k<a.heap.size)/\AY b g n h r.2 a/\O (fun k=>k=b) w a
def aL(b g n f:Nat)(w:World)(p:Nat)(r:List TS×PS)(e:Ending)(a:World):Prop:=
 ∃(d:Nat) (U:Nat->Prop) (c:Value),e=.returned (.agg #[G A p,c])/\C7 d U a c r.1/\(∀k,U k->w.heap.size<=k/\k<a.heap.size)/\AY b g n f r.2 a/\O (fun k=>k=b) w a
def Hn(c:Nat)(i:World)(f:Nat):Prop:=∀(b g n d:Nat) (x:PS) (a:List PT) (w:World),c<=b->Below c i w->c<=w.heap.size->AY b g n d x w->AZ g n d a w->x.next<n->(Aj a (n-1)).kind=0->CZ (Aj a x.next).kind->2*(n-x.next)<=f->
 Calls prog 154 #[.pointer (T ⟨b,0,Z⟩)] w fun e h=>Xe b g n d w (Bw a n f x) e h
theorem Ce.eR{d}{U:Nat->Prop}{w t s e f}(h:Ce d U w t (Fc s e f).toList):(∃a l c,e=Y a l c)/\∃a l c,f=Y a l c:=by
 match d,t,h with
 |d+1,.mk z x,h=> obtain⟨u,y,v,b,o,_,p,_⟩:=h;simp only[Fc,List.cons.injEq]at b;obtain⟨g,q,j,m⟩:=Ad o;obtain⟨i,r,k,n⟩:=Ad p;exact⟨⟨g,q,j,by rw[<-m];exact b.2.2.2.2.2.2.1⟩,⟨i,r,k,by rw[<-n];exact b.2.2.2.2.2.2.2.1⟩⟩
structure BR(lb d:Nat)(U:Nat->Prop)(w:World)(sv:Value)(acc:List TS)(css:List (List Value)):Prop where
 row:w.ownsRow (lb+1) 230 8 sv acc.length css.flatten
 len:css.length=acc.length
 eI:∀j (g:j<acc.length) (g':j<css.length),Ce d U w acc[j] css[j]
 u:∀k,U k->lb<k/\k<w.heap.size
 apart:∀k,sv.ownBlock=T k->¬U k
theorem BR.nil(a w):BR a 0 (fun _=>False) w (Y Z 0 0) [] []:=
 ⟨iB _ _ _ _,rfl,fun j g=>by simp at g,fun k h=>h.elim,fun k h=>by simp[Value.ownBlock]at h⟩
theorem BR.d8{c d}{U:Nat->Prop}{w l sv e f}{X:Nat->Prop}(h:BR c d U w sv e f)(b:O X w l)(i:∀k,c<k->k<w.heap.size->¬X k):BR c d U l sv e f:=
 ⟨Ac h.row b (fun k a=>i k (h.row.lt k a).1 (h.row.lt k a).2),h.len,fun j g m=>(h.eI j g m).d8 b (fun k a=>i k (h.u k a).1 (h.u k a).2),fun k a=>⟨(h.u k a).1,iI (h.u k a).2 b.size⟩,h.apart⟩
theorem BR.push{f d v}{U n:Nat->Prop}{w s l i r u g o t c}(h:BR f d U w i g o)(H:Ce v n w t c)(b:∀k,n k->f<k/\k<w.heap.size/\¬i.ownBlock=T k)(C:O kJ w s)
 (z:l.ownsRow (f+1) 230 8 r (g.length+1) (o.flatten++c))(E:s.grownBy l i.ownBlock)(F:∀k,r.ownBlock=T k->i.ownBlock=T k\/w.heap.size<=k):
 BR f (max d v) (fun k=>U k\/n k) (l.setCell ⟨f,1,Z⟩ u) r (g++[t]) (o++[c]):=by
 have p:O (fun k=>i.ownBlock=T k) w l:=O.grown (C.mono (fun _ _ q=>q.elim)) E (fun k a=>.inl a);have m:=(O.refl (fun k=>k=f) l).t9 1 u;have y:=h.len;refine⟨?_,by simp[y],?_,?_,?_⟩
 .have:=Ac z m (fun k a=>by have:=(z.lt k a).1;omega);simpa using this
 .intro j B I;by_cases x:j<g.length
  .rw[iQ x,iQ (by omega)];exact((((h.eI j x (by omega)).d8 p (fun k a q=>h.apart k q a)).d8 m (fun k a=>by have:=(h.u k a).1;omega)).more (fun k a=>.inl a)).eC (Nat.le_max_left _ _)
  .have e:j=g.length:=by simp at B;omega
   subst e;rw[iO (by omega),iO (by omega)];simp only[Nat.sub_self,y,iN];exact(((H.d8 p (fun k a=>(b k a).2.2)).d8 m (fun k a=>by have:=(b k a).1;omega)).more (fun k a=>.inr a)).eC (Nat.le_max_right _ _)
 .intro k a;have K:=p.size;have L:=m.size;rcases a with a|a
  .exact⟨(h.u k a).1,by have:=(h.u k a).2;omega⟩
  .exact⟨(b k a).1,by have:=(b k a).2.1;omega⟩
 .intro k a q;rcases F k a with e|e
  .rcases q with q|q
   .exact h.apart k e q
   .exact(b k q).2.2 e
  .rcases q with q|q
   .have:=(h.u k q).2;omega
   .have:=(b k q).2.1;omega
theorem Lv(b g n c x a w)(m:AY b g n c x w)(o:AZ g n c a w)(j:x.next<n):
 Calls prog 153 #[.pointer (T ⟨b,0,Z⟩)] w fun e p=>e=.returned (.bool (decide (CZ (Aj a x.next).kind)))/\O kJ w p:=by
 obtain⟨k,d⟩:∃k,(Aj a x.next).kind=k:=⟨_,rfl⟩;rw[d];obtain⟨v,f⟩:∃v,decide (CZ k)=v:=⟨_,rfl⟩;rw[f];have h:=J d;have i:=J f;clear d f;go_enter func153,ntmps153;go_wp2_with(go_at_call 113;refine(A5 b g n c x a _ m o j).mono ?_;rw[h.o];rintro e q ⟨rfl,l⟩);all_goals
  go_ret;refine⟨Ey ?_,l⟩;rw[<-i.o];symm;simp only[beq_iff_eq,jK,ne_eq]at*;first
   |(rw[decide_eq_true_iff];unfold CZ;omega)
   |(rw[decide_eq_false_iff_not];unfold CZ;omega)
theorem Tryz.placeOf(a s p w):(Instr.field 112 (.agg #[G A a,.string s,G A p]) 2).run prog w=.ok (G A p) w:=by kernel_rfl
theorem Tryz.infoTS:(Tryz.prog.info? 230).map (fun i=>(i.zero,i.size,i.bytes))=T (T (.agg bL),8,112):=by kernel_rfl
theorem Y0(s a d l f c e):∀u∈(Fc s (Y a l c) (Y d f e)).toList,u.oneCell'=true:=by intro u b;simp[Fc]at b;rcases b with rfl|rfl|rfl|rfl|rfl|rfl|rfl|rfl<;>rfl
theorem Gi(B0 d7 f)(ih:∀k,k<=f->Hn B0 d7 k)(b g n o r c w)(hb:B0<=b)(hG:Below B0 d7 w)(hB:B0<=w.heap.size)(hr:AY b g n o r w)(ht:AZ g n o c w)(c8:r.next<n)(hz:(Aj c (n-1)).kind=0)(hf:2*(n-(Af c n 12 r).next)+1<=f):
 Calls prog 142 #[.pointer (T ⟨b,0,Z⟩)] w fun e w'=>aL b g n o w (AH c 12 r).l7 ((AO c n f (Af c n 12 r) []).1,Af c n 13 (AO c n f (Af c n 12 r) []).2) e w':=by
 obtain⟨i0,hi,e9,f0,f1⟩:=info_parts Tryz.infoTS;have lr:=Ae hr;have lg:=ht.lt;have hn:=ht.2.2.1;have d2:=ht.ne hr (by decide);have c9:=AV (k:=12) hz c8;obtain⟨x1,R⟩:∃y,Af c n 12 r=y:=⟨_,rfl⟩;rw[R]at hf c9⊢;obtain⟨t,k1⟩:∃y,AH c 12 r=y:=⟨_,rfl⟩;rw[k1];obtain⟨V,hV⟩:∃V,AO c n f x1 []=V:=⟨_,rfl⟩;rw[hV];obtain⟨X1,K1,HV,HZ,HG,IH⟩:=EF R k1 hV hz hG ih;clear R k1 hV hz hG ih;go_enter func142,ntmps142;go_wp2_with fail;refine(AI b g n o 12 r c _ (W.alloc hr _) (ht.d8 ((O.refl kJ _).alloc _) id) c8).mono ?_;rw[X1.o,K1.o];rintro e l ⟨rfl,d5,a4⟩;have f4:=a4.size;simp at f4;have c2:=J ((ht.d8 ((O.refl kJ _).alloc (.cells #[G A 0,Y Z 0 0] 130)) id).d8 a4 d2);have b7:D (W w.heap.size #[G A 0,Y Z 0 0] 130 l):=(W.new w _ _).d8 a4 (by omega);have b8:=J (((O.refl (fun k=>k=b) w).alloc _).trans a4);have b9:=J d5;have f8:w.heap.size+1<=l.heap.size:=by omega
 clear d5 a4 hr ht;unfold WO;have e7:=Tryz.placeOf;go_wp2_with fail;clear e7;go_loopw[] (fun wr=>∃(x:PS) (z d:Nat) (U:Nat->Prop) (sv:Value) (Q:List TS) (b3:List (List Value)),x.next<n/\Q.length<=x.next/\z<=f/\2*(n-x.next)+1<=z/\D (AY b g n o x wr)/\D (AZ g n o c wr)/\D (W w.heap.size #[G A 0,Y Z 0 0] 130 wr)/\D (W l.heap.size #[G A t.l7,sv] 130 wr)/\D (BR l.heap.size d U wr sv Q b3)/\D (O (fun k=>k=b) w wr)/\D (AO c n z x Q=V)) (fun wr=>n-Ml b wr)
 case atStart=> exact⟨x1,f,0,fun _=>False,Y Z 0 0,[],[],c9,by simp,gS _,hf,W.alloc b9.o _,c2.o.d8 ((O.refl kJ _).alloc _) id,W.alloc b7.o _,W.new _ _ _,BR.nil _ _,b8.o.alloc _,HV⟩
 case round=>
  clear b9 c2 b7 b8 HV;obtain⟨x,z,d,U,sv,Q,b3,hx,f5,f6,f7,S,hT,a8,hC,a7,hO,HC⟩:=hrel;have e0:=J (E8 S.o);by_cases B:CZ (Aj c x.next).kind
  .obtain⟨p,rfl⟩:∃p,z=p+1:=⟨z-1,by omega⟩;obtain⟨t3,x3,h3⟩:∃t y,Bw c n p x=(t,y):=⟨_,_,rfl⟩;have c5:AO c n p x3 (Q++[t3])=V:=by have:=HC.o;rw[AO,jR B,h3]at this;exact this
   have e8:x.next+1<=x3.next/\x3.next<n:=by have g1:=GC (n:=n) HZ.o p x hx;rw[h3]at g1;obtain⟨f3,rfl⟩:∃f3,p=f3+1:=⟨p-1,by omega⟩;have g2:=IV HZ.o f3 hx B;rw[h3]at g2;exact⟨g2,g1.2⟩
   obtain⟨X3,d9,d8⟩:=Ax h3 c5 B;have a3:decide (CZ (Aj c x.next).kind)=true:=by simp[B]
   have b2:=J a3;clear HC h3 c5 B a3;go_wp2_with fail;refine(Lv b g n o x c _ S.o hT.o hx).mono ?_;rw[b2.o];rintro e wk ⟨rfl,m⟩;obtain⟨R1,T1,A1,P,N,O1⟩:=EF (W.d8 S.o m id) (hT.o.d8 m id) (a8.o.d8 m id) (hC.o.d8 m id) (a7.o.d8 m (fun _ _ _ q=>q)) (hO.o.dM m);clear S hT a8 hC a7 hO m;obtain⟨E,K,H,rfl⟩:=Ad N.o.row;have c1:=P.o.cell 1;have cf:=P.o.frozen 1;have lc:=Ae P.o;have g3:=Ae R1.o;have g0:=O1.o.size;simp only[gR,gP,gQ]at c1;have NC:=J (fun k (i:Value.ownBlock (Y E K H)=T k)=>(N.o.row.lt k i).1);go_wp2_with fail;go_region_law(first
    |(refine AC rfl _ _ 128 rfl (l.heap.size+1) 230 i0 (.agg bL) 8 112 underlying128 hi e9 f0 f1 rfl (by decide) _ _ _ rfl (B4.o.row.alloc _) ⟨w4.heap.size,0,Z⟩ 1 1 (Fc s4 (Y aa al ac) (Y ba bl bc)).toList rfl rfl (AD rfl _ _) (Y0 _ _ _ _ _ _ _) (by decide) (by unfold maxLen;omega) (by omega) (by simp;omega) ?_;intro v' M b5 a0 d3;have q1:M.cell? ⟨l.heap.size,1,Z⟩=T (Y E K H):=(gT (a0.block l.heap.size (by simp;omega) (fun h=>by have:=NC.o _ h.symm;omega))).trans (by rw[<-c4];exact gT (iC _ _ _ d6));have q2:M.frozen? ⟨l.heap.size,1,Z⟩=false:=(gY (a0.block l.heap.size (by simp;omega) (fun h=>by have:=NC.o _ h.symm;omega))).trans (by rw[<-e1];exact gY (iC _ _ _ d6));obtain⟨F,L,I,rfl⟩:=Ad b5)
    |(go_simp;go_at_call 154;refine(IH.o p (by omega) b g n o x c _ hb (O.keeps HG.o (O1.o.dM (by repeat first|exact BI _ _|apply BG|apply BH|apply BE)) hB hb) (by simp;omega) (W.d8 (X:=kJ) R1.o (by repeat first|exact BI _ _|apply BG|apply BH|apply BE) id) (T1.o.d8 (X:=kJ) (by repeat first|exact BI _ _|apply BG|apply BH|apply BE) id) hx HZ.o d8.o (by omega)).mono ?_;rw[X3.o];rintro e w4 ⟨d4,U4,s4,av,bv,rfl,b6,c7,a6,C⟩;obtain⟨⟨aa,al,ac,rfl⟩,⟨ba,bl,bc,rfl⟩⟩:=b6.eR;have a5:=O.trans (X:=fun k=>k=b) (a:=wk) (by repeat first|exact BI _ _|apply BG|apply BH|apply BE) C;have B4:=J (N.o.d8 a5 (fun k h _=>by omega));have s:=J (P.o.d8 a5 (by omega));have c4:=s.o.cell 1;have e1:=s.o.frozen 1;have d6:=Ae s.o;simp only[gR,gP,gQ]at c4;have f9:=a5.size;obtain⟨c0,c3,R4,O5⟩:=Ba b6 c7 a6 a5;clear b6 c7 a6 C a5;unfold Fc;dsimp only))
   all_goals
    have a1:O (fun k=>Value.ownBlock (Y E K H)=T k) w4 M:=O.grown ((O.refl _ _).alloc _) a0 (fun k i=>.inl i);have a9:=(O.refl (fun k=>k=l.heap.size) M).t9 1 (Y F L I);have b4:∀j,j<l.heap.size->¬Value.ownBlock (Y E K H)=T j:=fun j hj q=>by have:=NC.o j q;omega
    have hP:=BR.push (u:=Y F L I) B4.o c0.o (fun k i=>by have R:=c3.o k i;simp only[World.size_drew]at R;exact⟨by omega,R.2,fun q=>by have:=(N.o.row.lt k q).2;omega⟩) ((O.refl _ _).alloc _) b5 a0 (fun k i=>(d3 k i).imp id (fun q=>by simp at q;omega));have c6:AY b g n o x3 (M.setCell ⟨l.heap.size,1,Z⟩ (Y F L I)):=(R4.o.d8 a1 (b4 b (by omega))).d8 a9 (by omega);have e6:AZ g n o c (M.setCell ⟨l.heap.size,1,Z⟩ (Y F L I)):=((T1.o.d8 O5.o d2).d8 a1 (b4 g (by omega))).d8 a9 (by omega);have e2:=((A1.o.d8 O5.o (by omega)).d8 a1 (b4 w.heap.size (by omega))).d8 a9 (by omega);have e3:W l.heap.size #[G A t.l7,Y F L I] 130 (M.setCell ⟨l.heap.size,1,Z⟩ (Y F L I)):=by have:=(s.o.d8 a1 (fun q=>by have:=NC.o _ q;omega)).set 1 (Y F L I);simpa using this
    have e5:O (fun k=>k=b) w (M.setCell ⟨l.heap.size,1,Z⟩ (Y F L I)):=(O.grown ((O1.o.trans O5.o).alloc _) a0 (fun k i=>.inr (by have:=NC.o k i;omega))).cO 1 _ (by omega);have e4:=E8 c6;clear b5 a0 d3 q1 q2 c0 c3 B4 s R4 a1 a9;go_wp2_with fail;go_roundw
    case rel=>exact⟨x3,p,_,_,_,Q++[t3],_,e8.2,by simp;omega,by omega,by omega,c6,e6,e2,e3,hP,e5,d9⟩
    case measure=>rw[e4,e0.o];omega
  .have hv:V=(Q,x):=by
    rw[<-HC.o];cases z with
    |zero=>rfl
    |succ z=>rw[AO,jQ B]
   subst hv
   have a3:decide (CZ (Aj c x.next).kind)=false:=by simp[B]
   have b2:=J a3
   clear HC B a3
   go_wp2_with fail
   refine(Lv b g n o x c _ S.o hT.o hx).mono ?_
   rw[b2.o]
   rintro e wk ⟨rfl,m⟩
   obtain⟨R1,T1,A1,P,N,O1⟩:=EF (W.d8 S.o m id) (hT.o.d8 m id) (a8.o.d8 m id) (hC.o.d8 m id) (a7.o.d8 m (fun _ _ _ q=>q)) (hO.o.dM m)
   clear S hT a8 hC a7 hO m
   go_wp2_with fail
   refine(AI b g n o 13 x c _ R1.o T1.o hx).mono ?_
   rintro e w4 ⟨rfl,a6,C⟩
   obtain⟨A4,s,B4,O4,R4⟩:=BB (A1.o.d8 C (by omega)) (P.o.d8 C (by omega)) (N.o.d8 C (fun k h _=>by omega)) (O1.o.trans C) a6
   clear R1 T1 A1 P N O1 a6 C
   obtain⟨E,K,H,rfl⟩:=Ad B4.o.row
   obtain⟨b0,b1⟩:=A4.o.e2 0 1
   have bf:=A4.o.frozen
   obtain⟨d0,d1⟩:=s.o.e2 0 1
   have lB:=Ae A4.o
   have lC:=Ae s.o
   simp only[gR,gP,gQ]at b0 b1 d0 d1
   go_wp2
   refine gZ (v:=.agg #[G A t.l7,Y E K H]) (by simp[results,results142,go_sem,b0,b1]) rfl ?_
   have hs:=((O.refl (fun k=>k=w.heap.size) w4).t9 0 (G A t.l7)).t9 1 (Y E K H)
   have a2:=B4.o.d8 hs (fun k R _=>by omega)
   refine⟨d,fun k=>U k\/Value.ownBlock (Y E K H)=T k,_,rfl,⟨b3,Aq a2.row (iF _),a2.len,fun k i=>.inr i,fun j g1 g2=>(a2.eI j g1 g2).more (fun k i=>.inl i)⟩,?_,R4.o.d8 hs (by omega),(O4.o.cO 0 _ (gS _)).cO 1 _ (gS _)⟩
   intro k i
   rcases i with i|i
   .have:=a2.u k i;exact⟨by omega,this.2⟩
   .have:=a2.row.lt k i;exact⟨by omega,this.2⟩
theorem WD{w:World}{j:Nat}(b:j=w.heap.size)(a c:Value):(w.alloc (.cells #[a,c] 130)).ownsRow 0 130 2 (Y (T ⟨j,0,Z⟩) 1 1) 1 [a,c]:=by subst b;exact⟨rfl,.inr ⟨w.heap.size,1,#[a,c],rfl,iF _,heap_alloc_new w _,gS _,by unfold maxLen;omega,rfl,rfl⟩⟩
theorem R8(s N f)(ih:∀k,k<=f->Hn s N k)(b g n r m a w)(hb:s<=b)(V:Below s N w)(hB:s<=w.heap.size)(j:AY b g n r m w)(ht:AZ g n r a w)(a0:m.next<n)(x:(Aj a (n-1)).kind=0)(c:(Aj a m.next).kind=9)(hf:2*(n-m.next)<=f+1):
 Calls prog 172 #[.pointer (T ⟨b,0,Z⟩)] w fun e w'=>Xe b g n r w (Bw a n (f+1) m) e w':=by
 obtain⟨P,t⟩:∃y,Af a n 9 m=y:=⟨_,rfl⟩;obtain⟨F,E⟩:∃y,Af a n 20 P=y:=⟨_,rfl⟩;obtain⟨p,M⟩:∃y,(AH a 12 F).l7=y:=⟨_,rfl⟩;obtain⟨l3,y3,H⟩:∃l y,AO a n f (Af a n 12 F) []=(l,y):=⟨_,_,rfl⟩;obtain⟨x3,I⟩:∃y,Af a n 13 y3=y:=⟨_,rfl⟩;have hv:Bw a n (f+1) m=(.mk (EK 12) [(p,l3)],x3):=by rw[Bw,jQ (by omega),jR c];simp only[t,E,M,H,I]
 rw[hv];have R:=Cf (n:=n) c (by omega);rw[t]at R;have a1:P.next<n:=by rw[<-t];exact AV x a0
 have C:=Ah x 20 a1;rw[E]at C;have a2:=C.2;have S:=Ah x 12 a2;have a6:2*(n-(Af a n 12 F).next)+1<=f:=by have:=C.1;have:=S.1;omega
 obtain⟨z,HG,IH,HZ,X1,X2,XP,X3⟩:=En (K9.start j ht) V ih x t E M H;have X4:=J I;clear t E M H I hv j ht x c V ih C S R;go_enter func172,ntmps172;go_wp2_with fail;refine(AI b g n r 9 m a _ z.o.pa z.o.pt a0).mono ?_;rw[X1.o];rintro e w1 ⟨rfl,j,u⟩;have B:=J (z.o.call j u);clear j u z;go_wp2_with fail;refine(AI b g n r 20 P a _ B.o.pa B.o.pt a1).mono ?_;rw[X2.o];rintro e w2 ⟨rfl,j,u⟩;have o:=J (B.o.call j u);clear j u B;have b1:=o.o.d8.size;have a7:=J (Ae o.o.cX);go_wp2_with fail;refine(Gi s N f IH.o b g n r F a _ hb (O.keeps HG.o o.o.d8 hB hb) (by omega) o.o.pa o.o.pt a2 HZ.o a6).mono ?_;rw[XP.o,X3.o];simp only;rw[X4.o];rintro e w3 ⟨d,U,sv,rfl,K,hU,a3,L⟩;have a5:=K;obtain⟨a9,a4,_⟩:=a5;obtain⟨va,vl,vc,rfl⟩:=Ad a4;obtain⟨q,HT,Q⟩:=Ax (o.o.call a3 L) K hU;have b2:=L.size;clear K hU a3 L a4 o;obtain⟨q0,q1,q2,q3,q4,q5,q6,q7⟩:=q.o.cX.e8 0 1 2 3 4 5 6 7;have qf:=q.o.cX.frozen;have ql:=Ae q.o.cX;simp only[gR,gP,gQ]at q0 q1 q2 q3 q4 q5 q6 q7;go_wp2;refine gZ (v:=.agg (Fc (EK 12) (Y Z 0 0) (Y (T ⟨w3.heap.size,0,Z⟩) 1 1))) (by simp[results,results172,go_sem,Fc,EK,BO,q0,q1,q2,q3,q4,q5,q6,q7,ql];try rfl) rfl ?_;have a8:b≠w.heap.size:=by have:=q.o.bl;omega
 have b0:w.heap.size<w2.heap.size:=by have:=a7.o;omega
 refine⟨d+1,fun k=>U k\/k=w3.heap.size,EK 12,_,_,rfl,?_,?_,?_,?_⟩
 .refine Ce.blocks (svs:=[Y va vl vc]) rfl (WD (by simp) _ _) (fun k c=>.inr (by simp[Value.ownBlock]at c;omega)) ?_;intro i h h';have e:i=0:=by simp at h;omega
  subst e;refine C7.more ?_ (fun k c=>.inl c);refine HT.o.d8 (X:=fun k=>k=w.heap.size) ?_ (fun k c=>by have:=(Q.o k c).1;omega);refine O.alloc ?_ _;iterate 8 refine O.t9 ?_ _ _
  exact O.refl _ _
 .intro k c;simp only[World.size_alloc,World.size_setCell];rcases c with c|c
  .have:=Q.o k c;omega
  .omega
 .refine W.d8 (X:=fun k=>k=w.heap.size) q.o.pa ?_ a8;refine O.alloc ?_ _;iterate 8 refine O.t9 ?_ _ _
  exact O.refl _ _
 .refine O.alloc ?_ _;iterate 8 refine O.cO ?_ _ _ (gS _)
  exact q.o.d8

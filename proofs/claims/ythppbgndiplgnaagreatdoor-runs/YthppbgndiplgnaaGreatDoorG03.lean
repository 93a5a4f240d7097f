/- One of the texts of the proof of runs_card_holds: PaC TrA TrB TrC. -/
import Derived.Test.YthppbgndiplgnaaGreatDoorG02
import Derived.Deep.RegionWith
set_option maxRecDepth 100000
set_option maxHeartbeats 1000000
namespace Go.Proofs.YthppbgndiplgnaaGreatDoor
open Go.RowKit
def Jd(t:PT):Value:=.agg #[.string t.i6,.int .i64 t.i9]
def E9(t:PT):List Value:=[.string t.i6,.int .i64 t.i9]
def BG(l:List PT):List Value:=l.flatMap E9
theorem Lz(l t):BG (l++[t])=BG l++E9 t:=by simp [BG]
theorem Cy(b g n d x a w)(h:A3 b g n d x w)(r:Ba g n d a w)(C:x.i8<n):
 Calls Tryz.prog 98 #[.pointer (some ⟨b,0,none⟩)] w fun e s=>e=.returned (Jd (AH a 1 x))∧A3 b g n d (Af a n 1 x) s∧Ab (fun k=>k=b) w s:=by
 have G:=Ae h;obtain ⟨t,j⟩:∃t,AH a 1 x=t:=⟨_,rfl⟩;obtain ⟨y,l⟩:∃y,Af a n 1 x=y:=⟨_,rfl⟩;rw [j,l];have A:=Aa j;have B:=Aa l;clear j l;go_enter Tryz.func98,Tryz.ntmps98;go_wp2_with fail;refine (AI b g n d 1 x a _ (Ar.alloc h _) (r.f8 ((Ab.refl (fun _=>False) _).alloc _) (fun q=>q)) C).mono ?_;rw [A.o,B.o];rintro e E ⟨rfl,p,f⟩;have c:E.heap[w.heap.size]? =some (.cells #[.string {data:=#[]},.int .i64 0] 92 (0,0)):=by rw [f.block w.heap.size (by simp) (by omega)];exact heap_alloc_new w _
 have m:=Ao c 0;have o:=Ao c 1;have F:=fun i=>Aw c i
 simp only [aU,aS,aT] at m o;have D:=Ae c;have z:=Aa p;have u:=((Ab.refl (fun k=>k=b) w).alloc _).trans f;clear p f c h r;unfold Ut;go_wp2;refine bC (v:=Jd t) (by simp [results,Tryz.results98,go_sem,Jd,m,o,D]) rfl ⟨rfl,?_,?_⟩
 ·exact Ar.f8 (X:=fun k=>k=w.heap.size) z.o (by repeat (first | exact Ab.refl _ _ | refine Ab.drew ?_ | refine Ab.alloc ?_ _ | refine Ab.p7 ?_ _ _)) (by omega)
 ·repeat (first | exact u | refine Ab.drew ?_ | refine Ab.alloc ?_ _ | refine Ab.Yc ?_ _ _ (aV _))
def Dx(b:List PT):Nat→PS→List PT→List PT×PS
 | 0,x,a=>(a,x)
 | f+1,x,a=>if (Aj b x.i8).kind=1 then Dx b f ⟨x.i8+1,x.Ye,x.Yy⟩ (a++[Aj b x.i8]) else (a,x)
theorem GR{b f x a}(h:¬(Aj b x.i8).kind=1):Dx b f x a=(a,x):=by
 cases f with
 | zero=>rfl
 | succ f=>simp only [Dx,cT h]
theorem QV{a f n x acc}(g:n-1-x.i8≤f)(d:x.i8<n)(c:(Aj a (n-1)).kind=0)(h:(Aj a x.i8).kind=1):
 x.i8+1<n∧∃b,n-1-(x.i8+1)≤b∧Dx a f x acc=Dx a b ⟨x.i8+1,x.Ye,x.Yy⟩ (acc++[Aj a x.i8]):=by
 have i:x.i8≠n-1:=by intro e;rw [e,c] at h;omega
 refine ⟨by omega,?_⟩;cases f with
 | zero=>omega
 | succ f=>exact ⟨f,by omega,by simp only [Dx];rw [cU h]⟩
theorem AY{a n k x}(c:(Aj a (n-1)).kind=0)(b:x.i8<n):(Af a n k x).i8<n:=by
 unfold Af;split
 ·rename_i h;split
  ·exact b
  ·rename_i d;have f:x.i8≠n-1:=by intro e;rw [e,c] at h;omega
   show x.i8+1<n;omega
 ·show n-1<n;omega
theorem QW{c:List PT}{n:Nat}(b:(Aj c (n-1)).kind=0):∀(f:Nat) (x:PS) (a:List PT),x.i8<n→(Dx c f x a).2.i8<n
 | 0,x,a,h=>h
 | f+1,x,a,h=>by
   simp only [Dx];split
   ·rename_i d;have g:x.i8≠n-1:=by intro e;rw [e,b] at d;omega
    exact QW b f _ _ (by show x.i8+1<n;omega)
   ·exact h
def Bm(a:List PT)(n:Nat)(x:PS):List PT×PS:=
 ((Dx a a.length (Af a n 10 x) []).1,Af a n 11 (Dx a a.length (Af a n 10 x) []).2)
theorem Sa{b n x}(a:(Aj b (n-1)).kind=0)(c:x.i8<n):(Bm b n x).2.i8<n:=
 AY a (QW a _ _ _ (AY a c))
def KL(b:Nat)(w:World):Nat:=match w.cell? ⟨b,1,none⟩ with | some v=>(intOf v).toNat | none=>0
theorem EB{b g n a x w}(h:A3 b g n a x w):KL b w=x.i8:=by have:=Ao h 1;simp only [aU,aS,aT] at this;simp [KL,this,intOf]
theorem Tryz.infoNm:(Tryz.prog.info? 92).map (fun i=>(i.zero,i.size,i.bytes))=some (some (.agg #[.string ByteArray.empty,.int .i64 0]),2,24):=by kernel_rfl
theorem Jc(b g n d x a w)(i:A3 b g n d x w)(c:Ba g n d a w)(U:x.i8<n)(N:(Aj a (n-1)).kind=0):
 Calls Tryz.prog 99 #[.pointer (some ⟨b,0,none⟩)] w fun e O=>∃v,e=.returned v∧O.ownsRow w.heap.size 92 2 v (Bm a n x).1.length (BG (Bm a n x).1)∧A3 b g n d (Bm a n x).2 O∧Ab (fun k=>k=b) w O:=by
 obtain ⟨i0,hi,b2,b3,b4⟩:=info_parts Tryz.infoNm;have hn:=c.2.2.1;have Z:=c.2.1;have Y:=c.ne i (by decide);have lr:=Ae i;have lg:=c.lt;have M:=AY (k:=10) N U;unfold Bm;generalize T:Dx a a.length (Af a n 10 x) []=V;have L:dJ (Dx a a.length (Af a n 10 x) []=V):=T;have HZ:=Aa N;have K:=Aa c;have a3:=Aa Z;have Q:=Aa i;clear T N c Z i;go_enter Tryz.func99,Tryz.ntmps99;go_wp2_with fail;refine (AI b g n d 10 x a _ Q.o K.o U).mono ?_;rintro e u ⟨rfl,p,l⟩;generalize Af a n 10 x=x1 at p L M;have D:=Aa p;have E:=Aa (K.o.f8 l Y);clear p Q K;go_wp2_with fail;go_loopw [3] (fun v wr=>∃(y:PS) (f:Nat) (o:List PT),y.i8<n∧o.length≤y.i8∧dJ (A3 b g n d y wr)∧dJ (Ba g n d a wr)∧wr.ownsRow w.heap.size 92 2 v o.length (BG o)∧Ab (fun k=>k=b) w wr∧n-1-y.i8≤f∧dJ (Dx a f y o=V)) (fun _ wr=>n-KL b wr)
 case atStart=>exact ⟨x1,a.length,[],M,by simp,D,E,bE _ _ _ _,l,by have:=a3.o;omega,L⟩
 case round=>
  obtain ⟨y,f,o,z,b5,i,c,H,F,hf,C⟩:=hrel;clear L D E l M;have a2:=Aa (EB i.o);by_cases r:(Aj a y.i8).kind=1
  ·have a4:(((Aj a y.i8).kind:Int)==1)=true:=by simp [r]
   obtain ⟨a8,R,a6,W⟩:=QV (acc:=o) hf z HZ.o r;have HF:dJ (Dx a R ⟨y.i8+1,y.Ye,y.Yy⟩ (o++[Aj a y.i8])=V):=by rw [←W];exact C.o
   have P:dJ (AH a 1 y=Aj a y.i8∧Af a n 1 y=⟨y.i8+1,y.Ye,y.Yy⟩):=⟨by simp [AH,r],by simp [Af,r]⟩;clear C W r;go_wp2_with fail;refine (A5 b g n d y a _ i.o c.o z).mono ?_;rintro e wk ⟨rfl,m⟩;have J:=i.o.f8 m (fun q=>q);have A:=c.o.f8 m (fun q=>q);have t:=Ac H m (fun _ _ q=>q);have G:=F.YF m;clear i c H F m;go_wp2_with fail;refine (Cy b g n d y a _ J A z).mono ?_;rw [P.o.1,P.o.2];rintro e u ⟨rfl,p,l⟩;have I:=Ac t l (fun j s=>by have:=(t.lt j s).1;omega);have a0:=G.trans l;have D:=Aa p;have E:=Aa (A.f8 l Y);have b7:=a0.size;have b8:b<u.heap.size:=Ae p;clear p l J A t G;unfold Jd;go_wp2_with (at_builtin;refine cD _ rfl _ _ 93 rfl w.heap.size 92 i0 (.agg #[.string ByteArray.empty,.int .i64 0]) 2 24 Tryz.underlying93 hi b2 b3 b4 rfl (by decide) _ _ _ rfl (I.alloc _) ⟨u.heap.size,0,none⟩ 1 1 [.string (Aj a y.i8).i6,.int .i64 ((Aj a y.i8).i9:Int)] rfl rfl (AN rfl _ _) (fun x hx=>by simp at hx;rcases hx with rfl | rfl<;>rfl) (by unfold maxLen;omega) (by omega) (by simp;omega) ?_;intro v' B b1 a7 b6);have X:(u.alloc (.cells #[.string (Aj a y.i8).i6,.int .i64 ((Aj a y.i8).i9:Int)] 92)).grownBy B u3.ownBlock:=a7;have a1:Ab (fun k=>u3.ownBlock=some k) u B:=Ab.grown ((Ab.refl _ _).alloc _) X (fun j s=>.inl s);have b0:Ab (fun k=>k=b) w B:=Ab.grown (a0.alloc _) X (fun j s=>.inr (I.lt j s).1);have S:A3 b g n d ⟨y.i8+1,y.Ye,y.Yy⟩ B:=Ar.f8 D.o a1 (fun h=>by have:=(I.lt _ h).1;omega);have a5:Ba g n d a B:=E.o.f8 a1 (fun h=>by have:=(I.lt _ h).1;omega);have a9:=EB S;refine ⟨⟨⟨y.i8+1,y.Ye,y.Yy⟩,R,o++[Aj a y.i8],a8,by simp;omega,S,a5,?_,b0,a6,HF⟩,?_⟩
   ·rw [Lz,aZ];exact b1
   ·rw [a9,a2.o];simp only;omega
  ·have a4:(((Aj a y.i8).kind:Int)==1)=false:=by simp;omega
   have hv:V=(o,y):=by rw [←C.o,GR r]
   subst hv;clear C r;go_wp2_with fail;refine (A5 b g n d y a _ i.o c.o z).mono ?_;rintro e wk ⟨rfl,m⟩;have J:=i.o.f8 m (fun q=>q);have A:=c.o.f8 m (fun q=>q);have t:=Ac H m (fun _ _ q=>q);have G:=F.YF m;clear i c H F m;go_wp2_with fail;refine (AI b g n d 11 y a _ J A z).mono ?_;rintro e u ⟨rfl,p,l⟩;go_wp2_with fail;go_ret;refine ⟨_,rfl,?_,p,G.trans l⟩;exact Ac t l (fun j s=>by have:=(t.lt j s).1;omega)
structure VS where
 kind:Nat
 tg:PT
 sr:PT
 field:Nat
 args:List PT
def Gl(s:VS)(a:Value):Array Value:=#[.int .i64 s.kind,.string s.tg.i6,.int .i64 s.tg.i9,.string s.sr.i6,.int .i64 s.sr.i9,.int .i64 s.field,a,.slice none 0 0]
abbrev XG:Array Value:=#[.int .i64 0,.string {data:=#[]},.int .i64 0,.string {data:=#[]},.int .i64 0,.int .i64 0,.slice none 0 0,.slice none 0 0]
structure JL(b g n cap:Nat)(toks:List PT)(x:PS)(w0 w:World):Prop where
 pa:A3 b g n cap x w
 pt:Ba g n cap toks w
 t8:Ar w0.heap.size XG 197 w
 f8:Ab (fun k=>k=b) w0 w
 bl:b<w0.heap.size
theorem JL.start{b g n a d x w}(c:A3 b g n a x w)(e:Ba g n a d w):JL b g n a d x w (w.alloc (.cells XG 197)):=
 ⟨Ar.alloc c _,e.f8 ((Ab.refl (fun _=>False) _).alloc _) (fun q=>q),Ar.new _ _ _,(Ab.refl _ _).alloc _,Ae c⟩
theorem JL.call{b g n a e x i f w d}(h:JL b g n a e x f w)(j:A3 b g n a i d)(c:Ab (fun k=>k=b) w d):JL b g n a e i f d:=
 ⟨j,h.pt.f8 c (h.pt.ne h.pa (by decide)),h.t8.f8 c (by have:=h.bl;omega),h.f8.trans c,h.bl⟩
theorem JL.quiet{b g n c d x f w e}(h:JL b g n c d x f w)(a:Ab (fun _=>False) w e):JL b g n c d x f e:=
 ⟨Ar.f8 h.pa a (fun q=>q),h.pt.f8 a (fun q=>q),h.t8.f8 a (fun q=>q),h.f8.YF a,h.bl⟩
def GG(b g n d:Nat)(w:World)(r:VS×PS)(e:Ending)(a:World):Prop:=
 ∃c,e=.returned (.agg (Gl r.1 c))∧a.ownsRow w.heap.size 92 2 c r.1.args.length (BG r.1.args)∧A3 b g n d r.2 a∧Ab (fun k=>k=b) w a
def Ih(a:List PT)(n:Nat)(x:PS):VS×PS:=
 let b:=Af a n 17 (Af a n 10 x)
 let c:=Af a n 11 (Af a n 1 b)
 (⟨8,BF,AH a 1 b,0,(Bm a n c).1⟩,(Bm a n c).2)
theorem JJ(b g n i o d w)(a:A3 b g n i o w)(ht:Ba g n i d w)(V:o.i8<n)(j:(Aj d (n-1)).kind=0):
 Calls Tryz.prog 146 #[.pointer (some ⟨b,0,none⟩)] w fun e w'=>GG b g n i w (Ih d n o) e w':=by
 obtain ⟨P,G⟩:∃y,Af d n 10 o=y:=⟨_,rfl⟩;obtain ⟨K,H⟩:∃y,Af d n 17 P=y:=⟨_,rfl⟩;obtain ⟨Q,I⟩:∃y,Af d n 1 K=y:=⟨_,rfl⟩;obtain ⟨m,O⟩:∃y,AH d 1 K=y:=⟨_,rfl⟩;obtain ⟨R,J⟩:∃y,Af d n 11 Q=y:=⟨_,rfl⟩;obtain ⟨l5,x5,M⟩:∃l y,Bm d n R=(l,y):=⟨_,_,rfl⟩;have W:P.i8<n:=by rw [←G];exact AY j V
 have Y:K.i8<n:=by rw [←H];exact AY j W
 have Z:Q.i8<n:=by rw [←I];exact AY j Y
 have a0:R.i8<n:=by rw [←J];exact AY j Z
 have hv:Ih d n o=(⟨8,BF,m,0,l5⟩,x5):=by simp only [Ih,G,H,I,O,J,M]
 rw [hv];have C:=Aa (JL.start a ht);have X1:=Aa G;have X2:=Aa H;have X3:=Aa I;have K3:=Aa O;have X4:=Aa J;have X5:=Aa M;have HZ:=Aa j;clear G H I O J M hv j a ht;go_enter Tryz.func146,Tryz.ntmps146;go_wp2_with fail;refine (AI b g n i 10 o d _ C.o.pa C.o.pt V).mono ?_;rw [X1.o];rintro e w1 ⟨rfl,a,c⟩;have D:=Aa (C.o.call a c);clear a c C;go_wp2_with fail;refine (AI b g n i 17 P d _ D.o.pa D.o.pt W).mono ?_;rw [X2.o];rintro e w2 ⟨rfl,a,c⟩;have E:=Aa (D.o.call a c);clear a c D;go_wp2_with fail;refine (Cy b g n i K d _ E.o.pa E.o.pt Y).mono ?_;rw [X3.o,K3.o];rintro e w3 ⟨rfl,a,c⟩;have L:=Aa (E.o.call a c);clear a c E;unfold Jd;have a3:=Ae L.o.pa;have S:=Aa (Ar.new w3 #[.string m.i6,.int .i64 m.i9] 92);have F:=Aa (L.o.quiet ((Ab.refl _ _).alloc (.cells #[.string m.i6,.int .i64 m.i9] 92)));clear L;go_wp2_with fail;refine (AI b g n i 11 Q d _ F.o.pa F.o.pt Z).mono ?_;rw [X4.o];rintro e w4 ⟨rfl,a,c⟩;have f:=Aa (F.o.call a c);have B:=Aa (S.o.f8 c (by omega));clear a c F S;have n0:=B.o.cell 0;have n1:=B.o.cell 1;simp only [aU,aS,aT] at n0 n1;have l4:=Ae B.o;have p:=f.o.t8.cell 0;have r:=f.o.t8.cell 1;have s:=f.o.t8.cell 2;have t:=f.o.t8.cell 3;have u:=f.o.t8.cell 4;have x:=f.o.t8.cell 5;have z:=f.o.t8.cell 6;have A:=f.o.t8.cell 7;have qf:=f.o.t8.frozen;have ql:=Ae f.o.t8;simp only [aU,aS,aT] at p r s t u x z A;go_wp2_with fail;go_region_with (go_at_call 99;refine (Jc b g n i R d _ (f.o.quiet (by repeat (first | exact Ab.refl _ _ | refine Ab.drew ?_ | refine Ab.drewN ?_ _ | refine Ab.alloc ?_ _))).pa (f.o.quiet (by repeat (first | exact Ab.refl _ _ | refine Ab.drew ?_ | refine Ab.drewN ?_ _ | refine Ab.alloc ?_ _))).pt a0 HZ.o).mono ?_;rw [X5.o];rintro e w5 ⟨v5,rfl,N,a,c⟩;obtain ⟨va,vl,vc,rfl⟩:=Ad N;have h:=Aa ((f.o.quiet (by repeat (first | exact Ab.refl _ _ | refine Ab.drew ?_ | refine Ab.drewN ?_ _ | refine Ab.alloc ?_ _))).call a c);have T:=Aa ((Ar.f8 (X:=fun _=>False) B.o (by repeat (first | exact Ab.refl _ _ | refine Ab.drew ?_ | refine Ab.drewN ?_ _ | refine Ab.alloc ?_ _)) (fun q=>q)).f8 c (by omega));have U:=Aa (Ax N (B':=w.heap.size) (by have:=f.o.f8.size;simp;omega));have a1:=T.o.cell 0;have a2:=T.o.cell 1;simp only [aU,aS,aT] at a1 a2;clear a c N p r s t u x z A qf ql;have p:=h.o.t8.cell 0;have r:=h.o.t8.cell 1;have s:=h.o.t8.cell 2;have t:=h.o.t8.cell 3;have u:=h.o.t8.cell 4;have x:=h.o.t8.cell 5;have z:=h.o.t8.cell 6;have A:=h.o.t8.cell 7;have qf:=h.o.t8.frozen;have ql:=Ae h.o.t8;simp only [aU,aS,aT] at p r s t u x z A);all_goals
  go_wp2;refine bC (v:=.agg (Gl ⟨8,BF,m,0,l5⟩ (.slice va vl vc))) (by simp [results,Tryz.results146,go_sem,Gl,BF,p,r,s,t,u,x,z,A];try rfl) rfl ⟨(.slice va vl vc),rfl,?_,?_,?_⟩
  ·refine Ac (X:=fun k=>k=w.heap.size) U.o ?_ (Ap U.o h.o.t8 (by decide));iterate 8 refine Ab.p7 ?_ _ _
   exact Ab.refl _ _
  ·refine Ar.f8 (X:=fun k=>k=w.heap.size) h.o.pa ?_ (by have:=h.o.bl;omega);iterate 8 refine Ab.p7 ?_ _ _
   exact Ab.refl _ _
  ·iterate 8 refine Ab.Yc ?_ _ _ (aV _)
   exact h.o.f8
def IX(t:PT):Nat:=if t.i6.toList=[49] then 1 else if t.i6.toList=[50] then 2 else if t.i6.toList=[51] then 3 else 0
def Cv(d:Nat)(h:World):Prop:=∀(b g n a:Nat) (x:PS) (c:List PT) (w:World),d≤b→Below d h w→A3 b g n a x w→Ba g n a c w→x.i8<n→
 Calls Tryz.prog 147 #[.pointer (some ⟨b,0,none⟩)] w fun e f=>e=.returned (.int .i64 (IX (AH c 2 x)))∧A3 b g n a (Af c n 2 x) f∧Ab (fun k=>k=b) w f
theorem Ab.keeps{a b d w c}(h:Below a d w)(f:Ab (fun k=>k=b) w c)(e:a≤w.heap.size)(g:a≤b):Below a d c:=h.trans (f.Yv e (fun k i=>by omega))
def EJ(a:List PT)(n:Nat)(x:PS):VS×PS:=
 let b:=Af a n 16 x
 let c:=Af a n 1 b
 if (Aj a c.i8).kind=19 then
  let d:=Af a n 19 c
  (⟨3,BF,AH a 1 b,IX (AH a 2 d),[]⟩,Af a n 2 d)
 else (⟨2,BF,AH a 1 b,0,[]⟩,c)
theorem Nj(O a0)(hF:Cv O a0)(b g n l D d w)(hb:O≤b)(V:Below O a0 w)(hB:O≤w.heap.size)(f:A3 b g n l D w)(Z:Ba g n l d w)(W:D.i8<n)(L:(Aj d (n-1)).kind=0):
 Calls Tryz.prog 145 #[.pointer (some ⟨b,0,none⟩)] w fun e w'=>GG b g n l w (EJ d n D) e w':=by
 obtain ⟨N,E⟩:∃y,Af d n 16 D=y:=⟨_,rfl⟩;obtain ⟨p,F⟩:∃y,Af d n 1 N=y:=⟨_,rfl⟩;obtain ⟨j,M⟩:∃y,AH d 1 N=y:=⟨_,rfl⟩;obtain ⟨U,I⟩:∃y,Af d n 19 p=y:=⟨_,rfl⟩;obtain ⟨x4,Q⟩:∃y,Af d n 2 U=y:=⟨_,rfl⟩;obtain ⟨d4,T⟩:∃y,IX (AH d 2 U)=y:=⟨_,rfl⟩;have Y:N.i8<n:=by rw [←E];exact AY L W
 have S:p.i8<n:=by rw [←F];exact AY L Y
 have a1:U.i8<n:=by rw [←I];exact AY L S
 have r:=Aa (JL.start f Z);have HG:=Aa V;have HF:=Aa hF;have X1:=Aa E;have X2:=Aa F;have K2:=Aa M;have X3:=Aa I;have X4:=Aa Q;have K4:=Aa T;by_cases J:(Aj d p.i8).kind=19
 ·have K:EJ d n D=(⟨3,BF,j,d4,[]⟩,x4):=by simp only [EJ,E,F,M,I,T,Q,cU J]
  rw [K];have a2:(((Aj d p.i8).kind:Int) !=19)=false:=by simp [J]
  clear E F M I Q T K L f Z J V hF;go_enter Tryz.func145,Tryz.ntmps145;go_wp2_with fail;refine (AI b g n l 16 D d _ r.o.pa r.o.pt W).mono ?_;rw [X1.o];rintro e w1 ⟨rfl,f,c⟩;have m:=Aa (r.o.call f c);clear f c r;go_wp2_with fail;refine (Cy b g n l N d _ m.o.pa m.o.pt Y).mono ?_;rw [X2.o,K2.o];rintro e w2 ⟨rfl,f,c⟩;have a:=Aa (m.o.call f c);clear f c m;unfold Jd;have a3:=Ae a.o.pa;have G:=Aa (Ar.new w2 #[.string j.i6,.int .i64 j.i9] 92);have o:=Aa (a.o.quiet ((Ab.refl _ _).alloc (.cells #[.string j.i6,.int .i64 j.i9] 92)));clear a;go_wp2_with fail;refine (A5 b g n l p d _ o.o.pa o.o.pt S).mono ?_;rintro e wk ⟨rfl,c⟩;have a:=Aa (o.o.quiet c);have H:=Aa (G.o.f8 c (fun q=>q));clear c o G;go_wp2_with fail;refine (AI b g n l 19 p d _ a.o.pa a.o.pt S).mono ?_;rw [X3.o];rintro e w3 ⟨rfl,f,c⟩;have h:=Aa (a.o.call f c);have P:=Aa (H.o.f8 c (by omega));clear f c a H;have n0:=P.o.cell 0;have n1:=P.o.cell 1;simp only [aU,aS,aT] at n0 n1;have l3:=Ae P.o;have a6:=h.o.f8.size;have s:=h.o.t8.cell 0;have t:=h.o.t8.cell 1;have u:=h.o.t8.cell 2;have x:=h.o.t8.cell 3;have z:=h.o.t8.cell 4;have A:=h.o.t8.cell 5;have B:=h.o.t8.cell 6;have C:=h.o.t8.cell 7;have qf:=h.o.t8.frozen;have ql:=Ae h.o.t8;simp only [aU,aS,aT] at s t u x z A B C;go_wp2_with fail;go_region_with (go_at_call 147;refine (HF.o b g n l U d _ hb (Ab.keeps HG.o (h.o.quiet (by repeat (first | exact Ab.refl _ _ | refine Ab.drew ?_ | refine Ab.drewN ?_ _ | refine Ab.alloc ?_ _))).f8 hB hb) (h.o.quiet (by repeat (first | exact Ab.refl _ _ | refine Ab.drew ?_ | refine Ab.drewN ?_ _ | refine Ab.alloc ?_ _))).pa (h.o.quiet (by repeat (first | exact Ab.refl _ _ | refine Ab.drew ?_ | refine Ab.drewN ?_ _ | refine Ab.alloc ?_ _))).pt a1).mono ?_;rw [X4.o,K4.o];rintro e w5 ⟨rfl,f,c⟩;have i:=Aa ((h.o.quiet (by repeat (first | exact Ab.refl _ _ | refine Ab.drew ?_ | refine Ab.drewN ?_ _ | refine Ab.alloc ?_ _))).call f c);have B5:=Aa ((Ar.f8 (X:=fun _=>False) P.o (by repeat (first | exact Ab.refl _ _ | refine Ab.drew ?_ | refine Ab.drewN ?_ _ | refine Ab.alloc ?_ _)) (fun q=>q)).f8 c (by omega));have a4:=B5.o.cell 0;have a5:=B5.o.cell 1;simp only [aU,aS,aT] at a4 a5;clear f c s t u x z A B C qf ql;have s:=i.o.t8.cell 0;have t:=i.o.t8.cell 1;have u:=i.o.t8.cell 2;have x:=i.o.t8.cell 3;have z:=i.o.t8.cell 4;have A:=i.o.t8.cell 5;have B:=i.o.t8.cell 6;have C:=i.o.t8.cell 7;have qf:=i.o.t8.frozen;have ql:=Ae i.o.t8;simp only [aU,aS,aT] at s t u x z A B C);all_goals
   go_wp2;have R:w5.ownsRow w.heap.size 92 2 (.slice none 0 0) 0 []:=bE _ _ _ _;refine bC (v:=.agg (Gl ⟨3,BF,j,d4,[]⟩ (.slice none 0 0))) (by simp [results,Tryz.results145,go_sem,Gl,BF,s,t,u,x,z,A,B,C];try rfl) rfl ⟨(.slice none 0 0),rfl,?_,?_,?_⟩
   ·refine Ac (X:=fun k=>k=w.heap.size) R ?_ (Ap R i.o.t8 (by decide));iterate 8 refine Ab.p7 ?_ _ _
    exact Ab.refl _ _
   ·refine Ar.f8 (X:=fun k=>k=w.heap.size) i.o.pa ?_ (by have:=i.o.bl;omega);iterate 8 refine Ab.p7 ?_ _ _
    exact Ab.refl _ _
   ·iterate 8 refine Ab.Yc ?_ _ _ (aV _)
    exact i.o.f8
 ·have K:EJ d n D=(⟨2,BF,j,0,[]⟩,p):=by simp only [EJ,E,F,M,cT J]
  rw [K];have a2:(((Aj d p.i8).kind:Int) !=19)=true:=by simp;omega
  clear E F M I Q T K L f Z J V hF;go_enter Tryz.func145,Tryz.ntmps145;go_wp2_with fail;refine (AI b g n l 16 D d _ r.o.pa r.o.pt W).mono ?_;rw [X1.o];rintro e w1 ⟨rfl,f,c⟩;have m:=Aa (r.o.call f c);clear f c r;go_wp2_with fail;refine (Cy b g n l N d _ m.o.pa m.o.pt Y).mono ?_;rw [X2.o,K2.o];rintro e w2 ⟨rfl,f,c⟩;have a:=Aa (m.o.call f c);clear f c m;unfold Jd;have a3:=Ae a.o.pa;have G:=Aa (Ar.new w2 #[.string j.i6,.int .i64 j.i9] 92);have o:=Aa (a.o.quiet ((Ab.refl _ _).alloc (.cells #[.string j.i6,.int .i64 j.i9] 92)));clear a;go_wp2_with fail;refine (A5 b g n l p d _ o.o.pa o.o.pt S).mono ?_;rintro e wk ⟨rfl,c⟩;have a:=Aa (o.o.quiet c);have H:=Aa (G.o.f8 c (fun q=>q));clear c o G;have n0:=H.o.cell 0;have n1:=H.o.cell 1;simp only [aU,aS,aT] at n0 n1;have s:=a.o.t8.cell 0;have t:=a.o.t8.cell 1;have u:=a.o.t8.cell 2;have x:=a.o.t8.cell 3;have z:=a.o.t8.cell 4;have A:=a.o.t8.cell 5;have B:=a.o.t8.cell 6;have C:=a.o.t8.cell 7;have qf:=a.o.t8.frozen;have ql:=Ae a.o.t8;simp only [aU,aS,aT] at s t u x z A B C;go_wp2;have R:wk.ownsRow w.heap.size 92 2 (.slice none 0 0) 0 []:=bE _ _ _ _;refine bC (v:=.agg (Gl ⟨2,BF,j,0,[]⟩ (.slice none 0 0))) (by simp [results,Tryz.results145,go_sem,Gl,BF,s,t,u,x,z,A,B,C];try rfl) rfl ⟨(.slice none 0 0),rfl,?_,?_,?_⟩
  ·refine Ac (X:=fun k=>k=w.heap.size) R ?_ (Ap R a.o.t8 (by decide));iterate 8 refine Ab.p7 ?_ _ _
   exact Ab.refl _ _
  ·refine Ar.f8 (X:=fun k=>k=w.heap.size) a.o.pa ?_ (by have:=a.o.bl;omega);iterate 8 refine Ab.p7 ?_ _ _
   exact Ab.refl _ _
  ·iterate 8 refine Ab.Yc ?_ _ _ (aV _)
   exact a.o.f8
def Ch(a:List PT)(n:Nat)(x:PS):VS×PS:=
 if (Aj a x.i8).kind=5 then (⟨1,BF,BF,0,[]⟩,Af a n 5 x)
 else if (Aj a x.i8).kind=16 then EJ a n x
 else if (Aj a x.i8).kind=17 then (⟨5,BF,AH a 1 (Af a n 17 x),0,[]⟩,Af a n 1 (Af a n 17 x))
 else if (Aj a x.i8).kind=18 then (⟨4,BF,AH a 1 (Af a n 18 x),0,[]⟩,Af a n 1 (Af a n 18 x))
 else if (Aj a x.i8).kind=10 then Ih a n x
 else if (Aj a (Af a n 1 x).i8).kind=10 then (⟨7,BF,AH a 1 x,0,(Bm a n (Af a n 1 x)).1⟩,(Bm a n (Af a n 1 x)).2)
 else (⟨6,BF,AH a 1 x,0,[]⟩,Af a n 1 x)
theorem SY(b g n h d f w)(j:A3 b g n h d w)(q:Ba g n h f w)(p:d.i8<n)(m:(Aj f d.i8).kind=5):
 Calls Tryz.prog 142 #[.pointer (some ⟨b,0,none⟩)] w fun e F=>GG b g n h w (Ch f n d) e F:=by
 obtain ⟨H,l⟩:∃y,Af f n 5 d=y:=⟨_,rfl⟩;have r:Ch f n d=(⟨1,BF,BF,0,[]⟩,H):=by simp only [Ch,cU m,l]
 rw [r];have c:=Aa (JL.start j q);have D:=Aa m;have E:=Aa l;clear l r j q m;go_enter Tryz.func142,Tryz.ntmps142;go_wp2_with fail;refine (A5 b g n h d f _ c.o.pa c.o.pt p).mono ?_;rw [D.o];rintro e K ⟨rfl,i⟩;have o:=Aa (c.o.quiet i);clear i c;have c:=o;clear o;go_wp2_with fail;refine (AI b g n h 5 d f _ c.o.pa c.o.pt p).mono ?_;rw [E.o];rintro e G ⟨rfl,j,i⟩;have a:=Aa (c.o.call j i);clear j i c;have s:=a.o.t8.cell 0;have t:=a.o.t8.cell 1;have u:=a.o.t8.cell 2;have x:=a.o.t8.cell 3;have z:=a.o.t8.cell 4;have A:=a.o.t8.cell 5;have B:=a.o.t8.cell 6;have C:=a.o.t8.cell 7;have I:=a.o.t8.frozen;have J:=Ae a.o.t8;simp only [aU,aS,aT] at s t u x z A B C;go_wp2;have R:G.ownsRow w.heap.size 92 2 (.slice none 0 0) 0 []:=bE _ _ _ _;refine bC (v:=.agg (Gl ⟨1,BF,BF,0,[]⟩ (.slice none 0 0))) (by simp [results,Tryz.results142,go_sem,Gl,BF,s,t,u,x,z,A,B,C];try rfl) rfl ⟨(.slice none 0 0),rfl,?_,?_,?_⟩
 ·refine Ac (X:=fun k=>k=w.heap.size) R ?_ (Ap R a.o.t8 (by decide));iterate 8 refine Ab.p7 ?_ _ _
  exact Ab.refl _ _
 ·refine Ar.f8 (X:=fun k=>k=w.heap.size) a.o.pa ?_ (by have:=a.o.bl;omega);iterate 8 refine Ab.p7 ?_ _ _
  exact Ab.refl _ _
 ·iterate 8 refine Ab.Yc ?_ _ _ (aV _)
  exact a.o.f8
theorem Ms(b g n l i d w)(h:A3 b g n l i w)(H:Ba g n l d w)(s:i.i8<n)(I:(Aj d (n-1)).kind=0)(o:(Aj d i.i8).kind=17∨(Aj d i.i8).kind=18):
 Calls Tryz.prog 142 #[.pointer (some ⟨b,0,none⟩)] w fun e T=>GG b g n l w (Ch d n i) e T:=by
 rcases o with o | o
 ·obtain ⟨p,m⟩:∃y,Af d n 17 i=y:=⟨_,rfl⟩;obtain ⟨P,q⟩:∃y,Af d n 1 p=y:=⟨_,rfl⟩;obtain ⟨G,r⟩:∃y,AH d 1 p=y:=⟨_,rfl⟩;have u:Ch d n i=(⟨5,BF,G,0,[]⟩,P):=by simp [Ch,o,m,q,r]
  rw [u];have N:p.i8<n:=by rw [←m];exact AY I s
  have c:=Aa (JL.start h H);have J:=Aa o;have L:=Aa m;have M:=Aa q;have K:=Aa r;clear m q r u h H o I;go_enter Tryz.func142,Tryz.ntmps142;go_wp2_with fail;refine (A5 b g n l i d _ c.o.pa c.o.pt s).mono ?_;rw [J.o];rintro e U ⟨rfl,f⟩;have t:=Aa (c.o.quiet f);clear f c;have c:=t;clear t;go_wp2_with fail;refine (AI b g n l 17 i d _ c.o.pa c.o.pt s).mono ?_;rw [L.o];rintro e V ⟨rfl,h,f⟩;have j:=Aa (c.o.call h f);clear h f c;go_wp2_with fail;refine (Cy b g n l p d _ j.o.pa j.o.pt N).mono ?_;rw [M.o,K.o];rintro e O ⟨rfl,h,f⟩;have a:=Aa (j.o.call h f);clear h f j;have x:=a.o.t8.cell 0;have z:=a.o.t8.cell 1;have A:=a.o.t8.cell 2;have B:=a.o.t8.cell 3;have C:=a.o.t8.cell 4;have D:=a.o.t8.cell 5;have E:=a.o.t8.cell 6;have F:=a.o.t8.cell 7;have Q:=a.o.t8.frozen;have S:=Ae a.o.t8;simp only [aU,aS,aT] at x z A B C D E F;unfold Jd;go_wp2;have R:O.ownsRow w.heap.size 92 2 (.slice none 0 0) 0 []:=bE _ _ _ _;refine bC (v:=.agg (Gl ⟨5,BF,G,0,[]⟩ (.slice none 0 0))) (by simp [results,Tryz.results142,go_sem,Gl,BF,x,z,A,B,C,D,E,F];try rfl) rfl ⟨(.slice none 0 0),rfl,?_,?_,?_⟩
  ·refine Ac (X:=fun k=>k=w.heap.size) R ?_ (Ap R a.o.t8 (by decide));iterate 8 refine Ab.p7 ?_ _ _
   exact Ab.refl _ _
  ·refine Ar.f8 (X:=fun k=>k=w.heap.size) a.o.pa ?_ (by have:=a.o.bl;omega);iterate 8 refine Ab.p7 ?_ _ _
   exact Ab.refl _ _
  ·iterate 8 refine Ab.Yc ?_ _ _ (aV _)
   exact a.o.f8
 ·obtain ⟨p,m⟩:∃y,Af d n 18 i=y:=⟨_,rfl⟩;obtain ⟨P,q⟩:∃y,Af d n 1 p=y:=⟨_,rfl⟩;obtain ⟨G,r⟩:∃y,AH d 1 p=y:=⟨_,rfl⟩;have u:Ch d n i=(⟨4,BF,G,0,[]⟩,P):=by simp [Ch,o,m,q,r]
  rw [u];have N:p.i8<n:=by rw [←m];exact AY I s
  have c:=Aa (JL.start h H);have J:=Aa o;have L:=Aa m;have M:=Aa q;have K:=Aa r;clear m q r u h H o I;go_enter Tryz.func142,Tryz.ntmps142;go_wp2_with fail;refine (A5 b g n l i d _ c.o.pa c.o.pt s).mono ?_;rw [J.o];rintro e U ⟨rfl,f⟩;have t:=Aa (c.o.quiet f);clear f c;have c:=t;clear t;go_wp2_with fail;refine (AI b g n l 18 i d _ c.o.pa c.o.pt s).mono ?_;rw [L.o];rintro e V ⟨rfl,h,f⟩;have j:=Aa (c.o.call h f);clear h f c;go_wp2_with fail;refine (Cy b g n l p d _ j.o.pa j.o.pt N).mono ?_;rw [M.o,K.o];rintro e O ⟨rfl,h,f⟩;have a:=Aa (j.o.call h f);clear h f j;have x:=a.o.t8.cell 0;have z:=a.o.t8.cell 1;have A:=a.o.t8.cell 2;have B:=a.o.t8.cell 3;have C:=a.o.t8.cell 4;have D:=a.o.t8.cell 5;have E:=a.o.t8.cell 6;have F:=a.o.t8.cell 7;have Q:=a.o.t8.frozen;have S:=Ae a.o.t8;simp only [aU,aS,aT] at x z A B C D E F;unfold Jd;go_wp2;have R:O.ownsRow w.heap.size 92 2 (.slice none 0 0) 0 []:=bE _ _ _ _;refine bC (v:=.agg (Gl ⟨4,BF,G,0,[]⟩ (.slice none 0 0))) (by simp [results,Tryz.results142,go_sem,Gl,BF,x,z,A,B,C,D,E,F];try rfl) rfl ⟨(.slice none 0 0),rfl,?_,?_,?_⟩
  ·refine Ac (X:=fun k=>k=w.heap.size) R ?_ (Ap R a.o.t8 (by decide));iterate 8 refine Ab.p7 ?_ _ _
   exact Ab.refl _ _
  ·refine Ar.f8 (X:=fun k=>k=w.heap.size) a.o.pa ?_ (by have:=a.o.bl;omega);iterate 8 refine Ab.p7 ?_ _ _
   exact Ab.refl _ _
  ·iterate 8 refine Ab.Yc ?_ _ _ (aV _)
   exact a.o.f8
theorem Mr(p P)(hF:Cv p P)(b g n l f d w)(S:p≤b)(N:Below p P w)(W:p≤w.heap.size)(i:A3 b g n l f w)(K:Ba g n l d w)(J:f.i8<n)(O:(Aj d (n-1)).kind=0)(j:(Aj d f.i8).kind=16∨(Aj d f.i8).kind=10):
 Calls Tryz.prog 142 #[.pointer (some ⟨b,0,none⟩)] w fun e w'=>GG b g n l w (Ch d n f) e w':=by
 have U:=Aa N;have T:=Aa hF;have R:=Aa O;rcases j with j | j
 ·obtain ⟨F,Q,m⟩:∃s y,EJ d n f=(s,y):=⟨_,_,rfl⟩;have t:Ch d n f=(F,Q):=by simp [Ch,j,m]
  rw [t];have c:=Aa (JL.start i K);have L:=Aa j;have M:=Aa m;clear m t i K j O N hF;go_enter Tryz.func142,Tryz.ntmps142;go_wp2_with fail;refine (A5 b g n l f d _ c.o.pa c.o.pt J).mono ?_;rw [L.o];rintro e w0 ⟨rfl,h⟩;have q:=Aa (c.o.quiet h);clear h c;have c:=q;clear q;have Y:=c.o.f8.size;go_wp2_with fail;refine (Nj p P T.o b g n l f d _ S (Ab.keeps U.o c.o.f8 W S) (by omega) c.o.pa c.o.pt J R.o).mono ?_;rw [M.o];rintro e w1 ⟨V,rfl,o,i,h⟩;obtain ⟨G,I,H,rfl⟩:=Ad o;have a:=Aa (c.o.call i h);have r:=Aa (Ax o (B':=w.heap.size) (by omega));clear i h o c;have u:=a.o.t8.cell 0;have x:=a.o.t8.cell 1;have z:=a.o.t8.cell 2;have A:=a.o.t8.cell 3;have B:=a.o.t8.cell 4;have C:=a.o.t8.cell 5;have D:=a.o.t8.cell 6;have E:=a.o.t8.cell 7;have Z:=a.o.t8.frozen;have ql:=Ae a.o.t8;simp only [aU,aS,aT] at u x z A B C D E;unfold Gl;go_wp2;refine bC (v:=.agg (Gl F (.slice G I H))) (by simp [results,Tryz.results142,go_sem,Gl,u,x,z,A,B,C,D,E]) rfl ⟨(.slice G I H),rfl,?_,?_,?_⟩
  ·refine Ac (X:=fun k=>k=w.heap.size) r.o ?_ (Ap r.o a.o.t8 (by decide));iterate 8 refine Ab.p7 ?_ _ _
   exact Ab.refl _ _
  ·refine Ar.f8 (X:=fun k=>k=w.heap.size) a.o.pa ?_ (by have:=a.o.bl;omega);iterate 8 refine Ab.p7 ?_ _ _
   exact Ab.refl _ _
  ·iterate 8 refine Ab.Yc ?_ _ _ (aV _)
   exact a.o.f8
 ·obtain ⟨F,Q,m⟩:∃s y,Ih d n f=(s,y):=⟨_,_,rfl⟩;have t:Ch d n f=(F,Q):=by simp [Ch,j,m]
  rw [t];have c:=Aa (JL.start i K);have L:=Aa j;have M:=Aa m;clear m t i K j O N hF;go_enter Tryz.func142,Tryz.ntmps142;go_wp2_with fail;refine (A5 b g n l f d _ c.o.pa c.o.pt J).mono ?_;rw [L.o];rintro e w0 ⟨rfl,h⟩;have q:=Aa (c.o.quiet h);clear h c;have c:=q;clear q;have Y:=c.o.f8.size;go_wp2_with fail;refine (JJ b g n l f d _ c.o.pa c.o.pt J R.o).mono ?_;rw [M.o];rintro e w1 ⟨V,rfl,o,i,h⟩;obtain ⟨G,I,H,rfl⟩:=Ad o;have a:=Aa (c.o.call i h);have r:=Aa (Ax o (B':=w.heap.size) (by omega));clear i h o c;have u:=a.o.t8.cell 0;have x:=a.o.t8.cell 1;have z:=a.o.t8.cell 2;have A:=a.o.t8.cell 3;have B:=a.o.t8.cell 4;have C:=a.o.t8.cell 5;have D:=a.o.t8.cell 6;have E:=a.o.t8.cell 7;have Z:=a.o.t8.frozen;have ql:=Ae a.o.t8;simp only [aU,aS,aT] at u x z A B C D E;unfold Gl;go_wp2;refine bC (v:=.agg (Gl F (.slice G I H))) (by simp [results,Tryz.results142,go_sem,Gl,u,x,z,A,B,C,D,E]) rfl ⟨(.slice G I H),rfl,?_,?_,?_⟩
  ·refine Ac (X:=fun k=>k=w.heap.size) r.o ?_ (Ap r.o a.o.t8 (by decide));iterate 8 refine Ab.p7 ?_ _ _
   exact Ab.refl _ _
  ·refine Ar.f8 (X:=fun k=>k=w.heap.size) a.o.pa ?_ (by have:=a.o.bl;omega);iterate 8 refine Ab.p7 ?_ _ _
   exact Ab.refl _ _
  ·iterate 8 refine Ab.Yc ?_ _ _ (aV _)
   exact a.o.f8
theorem Qt(b g n o:Nat)(h:PS)(c:List PT)(w:World)(m:A3 b g n o h w)(ht:Ba g n o c w)(G:h.i8<n)(O:(Aj c (n-1)).kind=0)
 (V:(Aj c h.i8).kind≠5)(S:(Aj c h.i8).kind≠16)(T:(Aj c h.i8).kind≠17)(U:(Aj c h.i8).kind≠18)(Q:(Aj c h.i8).kind≠10):
 Calls Tryz.prog 142 #[.pointer (some ⟨b,0,none⟩)] w fun e w'=>GG b g n o w (Ch c n h) e w':=by
 obtain ⟨p,J⟩:∃y,Af c n 1 h=y:=⟨_,rfl⟩;obtain ⟨j,P⟩:∃y,AH c 1 h=y:=⟨_,rfl⟩;obtain ⟨l2,x2,K⟩:∃l y,Bm c n p=(l,y):=⟨_,_,rfl⟩;have L:p.i8<n:=by rw [←J];exact AY O G
 have f:=Aa (JL.start m ht);have X1:=Aa J;have X2:=Aa K;have K1:=Aa P;have HZ:=Aa O;have hv:Ch c n h=if (Aj c p.i8).kind=10 then (⟨7,BF,j,0,l2⟩,x2) else (⟨6,BF,j,0,[]⟩,p):=by simp [Ch,V,S,T,U,Q,J,K,P]
 rw [hv];obtain ⟨I,M⟩:∃k,(Aj c h.i8).kind=k:=⟨_,rfl⟩;rw [M] at V S T U Q;have HK:=Aa M;have j5:((I:Int)==5)=false:=by simp;omega
 have a5:((I:Int)==16)=false:=by simp;omega
 have a6:((I:Int)==17)=false:=by simp;omega
 have a7:((I:Int)==18)=false:=by simp;omega
 have a4:((I:Int)==10)=false:=by simp;omega
 clear J K P hv m ht O M V S T U Q;by_cases H:(Aj c p.i8).kind=10
 ·rw [cU H];have a0:(((Aj c p.i8).kind:Int)==10)=true:=by simp [H]
  clear H;go_enter Tryz.func142,Tryz.ntmps142;go_wp2_with fail;refine (A5 b g n o h c _ f.o.pa f.o.pt G).mono ?_;rw [HK.o];rintro e w0 ⟨rfl,d⟩;have F:=Aa (f.o.quiet d);clear d f;have f:=F;clear F;go_wp2_with fail;refine (Cy b g n o h c _ f.o.pa f.o.pt G).mono ?_;rw [X1.o,K1.o];rintro e w1 ⟨rfl,m,d⟩;have a:=Aa (f.o.call m d);clear m d f;unfold Jd;have a1:=Ae a.o.pa;have E:=Aa (Ar.new w1 #[.string j.i6,.int .i64 j.i9] 92);have r:=Aa (a.o.quiet ((Ab.refl _ _).alloc (.cells #[.string j.i6,.int .i64 j.i9] 92)));clear a;go_wp2_with fail;refine (A5 b g n o p c _ r.o.pa r.o.pt L).mono ?_;rintro e wk ⟨rfl,d⟩;have a:=Aa (r.o.quiet d);have s:=Aa (E.o.f8 d (fun q=>q));clear d r E;have W:=s.o.cell 0;have Y:=s.o.cell 1;simp only [aU,aS,aT] at W Y;have l1:=Ae s.o;have t:=a.o.t8.cell 0;have u:=a.o.t8.cell 1;have x:=a.o.t8.cell 2;have z:=a.o.t8.cell 3;have A:=a.o.t8.cell 4;have B:=a.o.t8.cell 5;have C:=a.o.t8.cell 6;have D:=a.o.t8.cell 7;have Z:=a.o.t8.frozen;have ql:=Ae a.o.t8;simp only [aU,aS,aT] at t u x z A B C D;go_wp2_with fail;go_region_with (go_at_call 99;refine (Jc b g n o p c _ (a.o.quiet (by repeat (first | exact Ab.refl _ _ | refine Ab.drew ?_ | refine Ab.drewN ?_ _ | refine Ab.alloc ?_ _))).pa (a.o.quiet (by repeat (first | exact Ab.refl _ _ | refine Ab.drew ?_ | refine Ab.drewN ?_ _ | refine Ab.alloc ?_ _))).pt L HZ.o).mono ?_;rw [X2.o];rintro e w5 ⟨v5,rfl,N,m,d⟩;obtain ⟨va,vl,vc,rfl⟩:=Ad N;have i:=Aa ((a.o.quiet (by repeat (first | exact Ab.refl _ _ | refine Ab.drew ?_ | refine Ab.drewN ?_ _ | refine Ab.alloc ?_ _))).call m d);have B5:=Aa ((Ar.f8 (X:=fun _=>False) s.o (by repeat (first | exact Ab.refl _ _ | refine Ab.drew ?_ | refine Ab.drewN ?_ _ | refine Ab.alloc ?_ _)) (fun q=>q)).f8 d (by omega));have HW:=Aa (Ax N (B':=w.heap.size) (by have:=a.o.f8.size;simp;omega));have a2:=B5.o.cell 0;have a3:=B5.o.cell 1;simp only [aU,aS,aT] at a2 a3;clear m d N t u x z A B C D Z ql;have t:=i.o.t8.cell 0;have u:=i.o.t8.cell 1;have x:=i.o.t8.cell 2;have z:=i.o.t8.cell 3;have A:=i.o.t8.cell 4;have B:=i.o.t8.cell 5;have C:=i.o.t8.cell 6;have D:=i.o.t8.cell 7;have Z:=i.o.t8.frozen;have ql:=Ae i.o.t8;simp only [aU,aS,aT] at t u x z A B C D);all_goals
   go_wp2;refine bC (v:=.agg (Gl ⟨7,BF,j,0,l2⟩ (.slice va vl vc))) (by simp [results,Tryz.results142,go_sem,Gl,BF,t,u,x,z,A,B,C,D];try rfl) rfl ⟨(.slice va vl vc),rfl,?_,?_,?_⟩
   ·refine Ac (X:=fun k=>k=w.heap.size) HW.o ?_ (Ap HW.o i.o.t8 (by decide));iterate 8 refine Ab.p7 ?_ _ _
    exact Ab.refl _ _
   ·refine Ar.f8 (X:=fun k=>k=w.heap.size) i.o.pa ?_ (by have:=i.o.bl;omega);iterate 8 refine Ab.p7 ?_ _ _
    exact Ab.refl _ _
   ·iterate 8 refine Ab.Yc ?_ _ _ (aV _)
    exact i.o.f8
 ·rw [cT H];have a0:(((Aj c p.i8).kind:Int)==10)=false:=by simp;omega
  clear H;go_enter Tryz.func142,Tryz.ntmps142;go_wp2_with fail;refine (A5 b g n o h c _ f.o.pa f.o.pt G).mono ?_;rw [HK.o];rintro e w0 ⟨rfl,d⟩;have F:=Aa (f.o.quiet d);clear d f;have f:=F;clear F;go_wp2_with fail;refine (Cy b g n o h c _ f.o.pa f.o.pt G).mono ?_;rw [X1.o,K1.o];rintro e w1 ⟨rfl,m,d⟩;have a:=Aa (f.o.call m d);clear m d f;unfold Jd;have a1:=Ae a.o.pa;have E:=Aa (Ar.new w1 #[.string j.i6,.int .i64 j.i9] 92);have r:=Aa (a.o.quiet ((Ab.refl _ _).alloc (.cells #[.string j.i6,.int .i64 j.i9] 92)));clear a;go_wp2_with fail;refine (A5 b g n o p c _ r.o.pa r.o.pt L).mono ?_;rintro e wk ⟨rfl,d⟩;have a:=Aa (r.o.quiet d);have s:=Aa (E.o.f8 d (fun q=>q));clear d r E;have W:=s.o.cell 0;have Y:=s.o.cell 1;simp only [aU,aS,aT] at W Y;have l1:=Ae s.o;have t:=a.o.t8.cell 0;have u:=a.o.t8.cell 1;have x:=a.o.t8.cell 2;have z:=a.o.t8.cell 3;have A:=a.o.t8.cell 4;have B:=a.o.t8.cell 5;have C:=a.o.t8.cell 6;have D:=a.o.t8.cell 7;have Z:=a.o.t8.frozen;have ql:=Ae a.o.t8;simp only [aU,aS,aT] at t u x z A B C D;go_wp2;have R:wk.ownsRow w.heap.size 92 2 (.slice none 0 0) 0 []:=bE _ _ _ _;refine bC (v:=.agg (Gl ⟨6,BF,j,0,[]⟩ (.slice none 0 0))) (by simp [results,Tryz.results142,go_sem,Gl,BF,t,u,x,z,A,B,C,D];try rfl) rfl ⟨(.slice none 0 0),rfl,?_,?_,?_⟩
  ·refine Ac (X:=fun k=>k=w.heap.size) R ?_ (Ap R a.o.t8 (by decide));iterate 8 refine Ab.p7 ?_ _ _
   exact Ab.refl _ _
  ·refine Ar.f8 (X:=fun k=>k=w.heap.size) a.o.pa ?_ (by have:=a.o.bl;omega);iterate 8 refine Ab.p7 ?_ _ _
   exact Ab.refl _ _
  ·iterate 8 refine Ab.Yc ?_ _ _ (aV _)
   exact a.o.f8
theorem SW(f l)(hF:Cv f l)(b g n d c a w)(u:f≤b)(t:Below f l w)(s:f≤w.heap.size)(i:A3 b g n d c w)(j:Ba g n d a w)(h:c.i8<n)(k:(Aj a (n-1)).kind=0):
 Calls Tryz.prog 142 #[.pointer (some ⟨b,0,none⟩)] w fun e v=>GG b g n d w (Ch a n c) e v:=by
 by_cases r:(Aj a c.i8).kind=5
 ·exact SY b g n d c a w i j h r
 ·by_cases o:(Aj a c.i8).kind=16
  ·exact Mr f l hF b g n d c a w u t s i j h k (.inl o)
  ·by_cases p:(Aj a c.i8).kind=17
   ·exact Ms b g n d c a w i j h k (.inl p)
   ·by_cases q:(Aj a c.i8).kind=18
    ·exact Ms b g n d c a w i j h k (.inr q)
    ·by_cases m:(Aj a c.i8).kind=10
     ·exact Mr f l hF b g n d c a w u t s i j h k (.inr m)
     ·exact Qt b g n d c a w i j h k r o p q m
end Go.Proofs.YthppbgndiplgnaaGreatDoor

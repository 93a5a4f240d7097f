/- One of the texts of the proof of cut_card_holds: PaC PaD PaE. -/
import Derived.Test.YtegmjgjkcdbmkaaGreatDoorG07
set_option maxRecDepth 100000
set_option maxHeartbeats 1000000
namespace Go.Proofs.YtegmjgjkcdbmkaaGreatDoor
open Go.RowKit
def Jd(t:PT):Value:=.agg #[.string t.i6,.int .i64 t.i9]
def E9(t:PT):List Value:=[.string t.i6,.int .i64 t.i9]
def BG(l:List PT):List Value:=l.flatMap E9
theorem Lz(l t):BG (l++[t])=BG l++E9 t:=by simp [BG]
theorem Cy(b g n d x a w)(h:A3 b g n d x w)(r:Ba g n d a w)(C:x.i8<n):
 Calls Tryz.prog 139 #[.pointer (some ⟨b,0,none⟩)] w fun e s=>e=.returned (Jd (AH a 1 x))∧A3 b g n d (Af a n 1 x) s∧Ab (fun k=>k=b) w s:=by
 have G:=Ae h;obtain ⟨t,j⟩:∃t,AH a 1 x=t:=⟨_,rfl⟩;obtain ⟨y,l⟩:∃y,Af a n 1 x=y:=⟨_,rfl⟩;rw [j,l];have A:=Aa j;have B:=Aa l;clear j l;go_enter Tryz.func139,Tryz.ntmps139;go_wp2_with fail;refine (AI b g n d 1 x a _ (Ar.alloc h _) (r.f8 ((Ab.refl (fun _=>False) _).alloc _) (fun q=>q)) C).mono ?_;rw [A.o,B.o];rintro e E ⟨rfl,p,f⟩;have c:E.heap[w.heap.size]? =some (.cells #[.string {data:=#[]},.int .i64 0] 128 (0,0)):=by rw [f.block w.heap.size (by simp) (by omega)];exact heap_alloc_new w _
 have m:=Ao c 0;have o:=Ao c 1;have F:=fun i=>Aw c i
 simp only [aU,aS,aT] at m o;have D:=Ae c;have z:=Aa p;have u:=((Ab.refl (fun k=>k=b) w).alloc _).trans f;clear p f c h r;unfold Ut;go_wp2;refine bodyPost_ret (v:=Jd t) (by simp [results,Tryz.results139,go_sem,Jd,m,o,D]) rfl ⟨rfl,?_,?_⟩
 ·exact Ar.f8 (X:=fun k=>k=w.heap.size) z.o (by repeat (first | exact Ab.refl _ _ | refine Ab.drew ?_ | refine Ab.alloc ?_ _ | refine Ab.p7 ?_ _ _)) (by omega)
 ·repeat (first | exact u | refine Ab.drew ?_ | refine Ab.alloc ?_ _ | refine Ab.Yc ?_ _ _ (Nat.le_refl _))
def Dx(b:List PT):Nat→PS→List PT→List PT×PS
 | 0,x,a=>(a,x)
 | f+1,x,a=>if (Aj b x.i8).kind=1 then Dx b f ⟨x.i8+1,x.Ye,x.Yy⟩ (a++[Aj b x.i8]) else (a,x)
theorem GR{b f x a}(h:¬(Aj b x.i8).kind=1):Dx b f x a=(a,x):=by
 cases f with
 | zero=>rfl
 | succ f=>simp only [Dx,if_neg h]
theorem QV{a f n x acc}(g:n-1-x.i8≤f)(d:x.i8<n)(c:(Aj a (n-1)).kind=0)(h:(Aj a x.i8).kind=1):
 x.i8+1<n∧∃b,n-1-(x.i8+1)≤b∧Dx a f x acc=Dx a b ⟨x.i8+1,x.Ye,x.Yy⟩ (acc++[Aj a x.i8]):=by
 have i:x.i8≠n-1:=by intro e;rw [e,c] at h;omega
 refine ⟨by omega,?_⟩;cases f with
 | zero=>omega
 | succ f=>exact ⟨f,by omega,by simp only [Dx];rw [if_pos h]⟩
theorem AY{a n k x}(c:(Aj a (n-1)).kind=0)(b:x.i8<n):(Af a n k x).i8<n:=by
 unfold Af;split
 ·rename_i h;split
  ·exact b
  ·rename_i d;have f:x.i8≠n-1:=by intro e;rw [e,c] at h;omega
   show x.i8+1<n;omega
 ·show n-1<n;omega
def Bm(a:List PT)(n:Nat)(x:PS):List PT×PS:=
 ((Dx a a.length (Af a n 10 x) []).1,Af a n 11 (Dx a a.length (Af a n 10 x) []).2)
def KL(b:Nat)(w:World):Nat:=match w.cell? ⟨b,1,none⟩ with | some v=>(intOf v).toNat | none=>0
theorem EB{b g n a x w}(h:A3 b g n a x w):KL b w=x.i8:=by have:=Ao h 1;simp only [aU,aS,aT] at this;simp [KL,this,intOf]
theorem Tryz.infoNm:(Tryz.prog.info? 128).map (fun i=>(i.zero,i.size,i.bytes))=some (some (.agg #[.string ByteArray.empty,.int .i64 0]),2,24):=by kernel_rfl
theorem Jc(b g n d x a w)(i:A3 b g n d x w)(c:Ba g n d a w)(U:x.i8<n)(N:(Aj a (n-1)).kind=0):
 Calls Tryz.prog 140 #[.pointer (some ⟨b,0,none⟩)] w fun e O=>∃v,e=.returned v∧O.ownsRow w.heap.size 128 2 v (Bm a n x).1.length (BG (Bm a n x).1)∧A3 b g n d (Bm a n x).2 O∧Ab (fun k=>k=b) w O:=by
 obtain ⟨i0,hi,b2,b3,b4⟩:=info_parts Tryz.infoNm;have hn:=c.2.2.1;have Z:=c.2.1;have Y:=c.ne i (by decide);have lr:=Ae i;have lg:=c.lt;have M:=AY (k:=10) N U;unfold Bm;generalize T:Dx a a.length (Af a n 10 x) []=V;have L:dJ (Dx a a.length (Af a n 10 x) []=V):=T;have HZ:=Aa N;have K:=Aa c;have a3:=Aa Z;have Q:=Aa i;clear T N c Z i;go_enter Tryz.func140,Tryz.ntmps140;go_wp2_with fail;refine (AI b g n d 10 x a _ Q.o K.o U).mono ?_;rintro e u ⟨rfl,p,l⟩;generalize Af a n 10 x=x1 at p L M;have D:=Aa p;have E:=Aa (K.o.f8 l Y);clear p Q K;go_wp2_with fail;go_loopw [3] (fun v wr=>∃(y:PS) (f:Nat) (o:List PT),y.i8<n∧o.length≤y.i8∧dJ (A3 b g n d y wr)∧dJ (Ba g n d a wr)∧wr.ownsRow w.heap.size 128 2 v o.length (BG o)∧Ab (fun k=>k=b) w wr∧n-1-y.i8≤f∧dJ (Dx a f y o=V)) (fun _ wr=>n-KL b wr)
 case atStart=>exact ⟨x1,a.length,[],M,by simp,D,E,World.ownsRow_nil _ _ _ _,l,by have:=a3.o;omega,L⟩
 case round=>
  obtain ⟨y,f,o,z,b5,i,c,H,F,hf,C⟩:=hrel;clear L D E l M;have a2:=Aa (EB i.o);by_cases r:(Aj a y.i8).kind=1
  ·have a4:(((Aj a y.i8).kind:Int)==1)=true:=by simp [r]
   obtain ⟨a8,R,a6,W⟩:=QV (acc:=o) hf z HZ.o r;have HF:dJ (Dx a R ⟨y.i8+1,y.Ye,y.Yy⟩ (o++[Aj a y.i8])=V):=by rw [←W];exact C.o
   have P:dJ (AH a 1 y=Aj a y.i8∧Af a n 1 y=⟨y.i8+1,y.Ye,y.Yy⟩):=⟨by simp [AH,r],by simp [Af,r]⟩;clear C W r;go_wp2_with fail;refine (A5 b g n d y a _ i.o c.o z).mono ?_;rintro e wk ⟨rfl,m⟩;have J:=i.o.f8 m (fun q=>q);have A:=c.o.f8 m (fun q=>q);have t:=Ac H m (fun _ _ q=>q);have G:=F.YF m;clear i c H F m;go_wp2_with fail;refine (Cy b g n d y a _ J A z).mono ?_;rw [P.o.1,P.o.2];rintro e u ⟨rfl,p,l⟩;have I:=Ac t l (fun j s=>by have:=(t.lt j s).1;omega);have a0:=G.trans l;have D:=Aa p;have E:=Aa (A.f8 l Y);have b7:=a0.size;have b8:b<u.heap.size:=Ae p;clear p l J A t G;unfold Jd;go_wp2_with (at_builtin;refine wpList_append_own _ rfl _ _ 129 rfl w.heap.size 128 i0 (.agg #[.string ByteArray.empty,.int .i64 0]) 2 24 Tryz.underlying129 hi b2 b3 b4 rfl (by decide) _ _ _ rfl (I.alloc _) ⟨u.heap.size,0,none⟩ 1 1 [.string (Aj a y.i8).i6,.int .i64 ((Aj a y.i8).i9:Int)] rfl rfl (AN rfl _ _) (fun x hx=>by simp at hx;rcases hx with rfl | rfl<;>rfl) (by unfold maxLen;omega) (by omega) (by simp;omega) ?_;intro v' B b1 a7 b6);have X:(u.alloc (.cells #[.string (Aj a y.i8).i6,.int .i64 ((Aj a y.i8).i9:Int)] 128)).grownBy B u3.ownBlock:=a7;have a1:Ab (fun k=>u3.ownBlock=some k) u B:=Ab.grown ((Ab.refl _ _).alloc _) X (fun j s=>.inl s);have b0:Ab (fun k=>k=b) w B:=Ab.grown (a0.alloc _) X (fun j s=>.inr (I.lt j s).1);have S:A3 b g n d ⟨y.i8+1,y.Ye,y.Yy⟩ B:=Ar.f8 D.o a1 (fun h=>by have:=(I.lt _ h).1;omega);have a5:Ba g n d a B:=E.o.f8 a1 (fun h=>by have:=(I.lt _ h).1;omega);have a9:=EB S;refine ⟨⟨⟨y.i8+1,y.Ye,y.Yy⟩,R,o++[Aj a y.i8],a8,by simp;omega,S,a5,?_,b0,a6,HF⟩,?_⟩
   ·rw [Lz,List.length_append];exact b1
   ·rw [a9,a2.o];simp only;omega
  ·have a4:(((Aj a y.i8).kind:Int)==1)=false:=by simp;omega
   have hv:V=(o,y):=by rw [←C.o,GR r]
   subst hv;clear C r;go_wp2_with fail;refine (A5 b g n d y a _ i.o c.o z).mono ?_;rintro e wk ⟨rfl,m⟩;have J:=i.o.f8 m (fun q=>q);have A:=c.o.f8 m (fun q=>q);have t:=Ac H m (fun _ _ q=>q);have G:=F.YF m;clear i c H F m;go_wp2_with fail;refine (AI b g n d 11 y a _ J A z).mono ?_;rintro e u ⟨rfl,p,l⟩;go_wp2_with fail;go_ret;refine ⟨_,rfl,?_,p,G.trans l⟩;exact Ac t l (fun j s=>by have:=(t.lt j s).1;omega)
theorem Tryz.placeOf(a s p w):(Instr.field 114 (.agg #[.int .i64 a,.string s,.int .i64 p]) 2).run Tryz.prog w=.ok (.int .i64 p) w:=by kernel_rfl
structure JY(toks:List PT)(n:Nat)(x:PS):Prop where
 i8:x.i8=n-1
 kind:(Aj toks (n-1)).kind=0
 pos:0<n
theorem JY.fail{a n x}(h:JY a n x):JY a n (Gf a n x):=⟨rfl,h.kind,h.pos⟩
theorem JY.take{a n k x}(h:JY a n x)(b:k≠0):Af a n k x=Gf a n x:=by unfold Af;rw [if_neg];rw [h.i8,h.kind];omega
theorem JY.lt{a:List PT}{n:Nat}{x:PS}(h:JY a n x):x.i8<n:=by have:=h.i8;have:=h.pos;omega
theorem EV(a n x):Gf a n (Gf a n x)=Gf a n x:=by simp [Gf]
theorem FD(b g n c x a w)(k:A3 b g n c x w)(l:Ba g n c a w)(d:JY a n x):
 Calls Tryz.prog 161 #[.pointer (some ⟨b,0,none⟩)] w fun e m=>e=.returned (.bool false)∧Ab (fun _=>False) w m:=by
 have f:(Aj a x.i8).kind=0:=by rw [d.i8];exact d.kind
 have h:=Aa f;have i:=d.lt;clear f;go_enter Tryz.func161,Tryz.ntmps161;go_wp2_with (go_at_call 113;refine (A5 b g n c x a _ k l i).mono ?_;rw [h.o];rintro e o ⟨rfl,j⟩);go_ret;exact ⟨rfl,j⟩
theorem F5(b g n d x a w)(f:A3 b g n d x w)(c:Ba g n d a w)(j:JY a n x):
 Calls Tryz.prog 141 #[.pointer (some ⟨b,0,none⟩)] w fun e R=>(∃p:Int,e=.returned (.agg #[.int .i64 p,.slice none 0 0]))∧A3 b g n d (Gf a n x) R∧Ab (fun k=>k=b) w R:=by
 have lr:=Ae f;have lg:=c.lt;have a1:=c.ne f (by decide);have Z:=j.lt;have E:=j.take (k:=12) (by decide);have s:=j.fail.take (k:=13) (by decide);rw [EV] at s;have S:=Aa E;have T:=Aa s;have y:=Aa j;clear E s j;go_enter Tryz.func141,Tryz.ntmps141;go_wp2_with fail;refine (AI b g n d 12 x a _ (Ar.alloc f _) (c.f8 ((Ab.refl (fun _=>False) _).alloc _) (fun q=>q)) Z).mono ?_;rw [S.o];rintro e r ⟨rfl,M,l⟩;have a2:=l.size;simp at a2;have P:=(c.f8 ((Ab.refl (fun _=>False) _).alloc (.cells #[.int .i64 0,.slice none 0 0] 132)) (fun q=>q)).f8 l a1;have G:Ar w.heap.size #[.int .i64 0,.slice none 0 0] 132 r:=(Ar.new w _ _).f8 l (by omega);have z:=Aa (((Ab.refl (fun k=>k=b) w).alloc _).trans l);have A:=Aa M;have B:=Aa P;have u:=Aa G;have a4:b<r.heap.size:=by omega
 have a3:g<r.heap.size:=by omega
 clear M l P G f c;generalize AH a 12 x=t;unfold Ut;have a0:=Tryz.placeOf;go_wp2_with fail;clear a0;go_loopw [] (fun wr=>dJ (A3 b g n d (Gf a n x) wr)∧dJ (Ba g n d a wr)∧dJ (Ar w.heap.size #[.int .i64 0,.slice none 0 0] 132 wr)∧dJ (Ar r.heap.size #[.int .i64 t.i9,.slice none 0 0] 132 wr)∧dJ (Ab (fun k=>k=b) w wr)) (fun _=>0)
 case atStart=> refine ⟨Ar.alloc A.o _,B.o.f8 ((Ab.refl (fun _=>False) _).alloc _) (fun q=>q),Ar.alloc u.o _,Ar.new _ _ _,z.o.alloc _⟩
 case round=>
  obtain ⟨f,c,F,I,L⟩:=hrel;clear A B u z;go_wp2_with fail;refine (FD b g n d (Gf a n x) a _ f.o c.o y.o.fail).mono ?_;rintro e w3 ⟨rfl,h⟩;have N:=Aa (Ar.f8 f.o h (fun q=>q));have Q:=Aa (c.o.f8 h (fun q=>q));have H:=Aa (Ar.f8 F.o h (fun q=>q));have J:=Aa (Ar.f8 I.o h (fun q=>q));have K:=Aa (L.o.YF h);clear f c F I L h;go_wp2_with fail;refine (AI b g n d 13 (Gf a n x) a _ N.o Q.o y.o.fail.lt).mono ?_;rw [T.o];rintro e w4 ⟨rfl,O,o⟩;have i:=Ar.f8 H.o o (by omega);have m:=Ar.f8 J.o o (by omega);have U:=Aa (K.o.trans o);have V:=Aa O;have C:=i.cell 0;have D:=i.cell 1;have bf:=i.frozen;have W:=m.cell 0;have Y:=m.cell 1;have lB:=Ae i;have lC:=Ae m;simp only [aU,aS,aT] at C D W Y;clear i m o O N Q H J K;go_wp2;refine bodyPost_ret (v:=.agg #[.int .i64 t.i9,.slice none 0 0]) (by simp [results,Tryz.results141,go_sem,C,D]) rfl ⟨⟨_,rfl⟩,?_,?_⟩
  ·exact Ar.f8 (X:=fun k=>k=w.heap.size) V.o (by repeat (first | exact Ab.refl _ _ | refine Ab.drew ?_ | refine Ab.alloc ?_ _ | refine Ab.p7 ?_ _ _)) (by omega)
  ·repeat (first | exact U.o | refine Ab.drew ?_ | refine Ab.alloc ?_ _ | refine Ab.Yc ?_ _ _ (Nat.le_refl _))
theorem C9(b g n h x a w)(A:A3 b g n h x w)(l:Ba g n h a w)(hc:x.i8<n)(B:(Aj a (n-1)).kind=0)(i:JY a n (Bm a n (Af a n 1 (Af a n 3 x))).2):
 Calls Tryz.prog 112 #[.pointer (some ⟨b,0,none⟩)] w fun e w'=>(∃(s:ByteArray) (p q:Int) (M:Option Addr) (O N:Nat),e=.returned (.agg #[.string s,.int .i64 p,.slice M O N,.int .i64 q,.slice none 0 0]))∧A3 b g n h (Gf a n (Bm a n (Af a n 1 (Af a n 3 x))).2) w'∧Ab (fun k=>k=b) w w':=by
 have lr:=Ae A;have lg:=l.lt;have H:=l.ne A (by decide);have F:=AY (k:=3) B hc;have G:=AY (k:=1) B F;have HZ:=Aa B;obtain ⟨P,J⟩:∃y,Af a n 3 x=y:=⟨_,rfl⟩;rw [J] at i F G⊢;obtain ⟨x2,K⟩:∃y,Af a n 1 P=y:=⟨_,rfl⟩;rw [K] at i G⊢;obtain ⟨x3,L⟩:∃y,(Bm a n x2).2=y:=⟨_,rfl⟩;rw [L] at i⊢;have HE:=Aa i;have X1:=Aa J;have X2:=Aa K;have X3:=Aa L;clear i B J K L;go_enter Tryz.func112,Tryz.ntmps112;go_wp2_with fail;refine (AI b g n h 3 x a _ (Ar.alloc A _) (l.f8 ((Ab.refl (fun _=>False) _).alloc _) (fun q=>q)) hc).mono ?_;rw [X1.o];rintro e w2 ⟨rfl,a2,r⟩;have a0:Ar w.heap.size #[.string {data:=#[]},.int .i64 0,.slice none 0 0,.int .i64 0,.slice none 0 0] 134 w2:=(Ar.new w _ _).f8 r (by omega);have Q:=Aa a0;have R:=Aa (((Ab.refl (fun k=>k=b) w).alloc _).trans r);have I:=Aa ((l.f8 ((Ab.refl (fun _=>False) _).alloc (.cells #[.string {data:=#[]},.int .i64 0,.slice none 0 0,.int .i64 0,.slice none 0 0] 134)) (fun q=>q)).f8 r H);have S:=Aa a2;clear a2 r a0 A l;generalize AH a 3 x=t;go_wp2_with fail;refine (Cy b g n h P a _ S.o I.o F).mono ?_;rw [X2.o];rintro e w3 ⟨rfl,a3,u⟩;have C:=Aa (Q.o.f8 u (by omega));have D:=Aa (R.o.trans u);have E:=Aa (I.o.f8 u H);have T:=Aa a3;have l3:=D.o.size;have b6:=Ae C.o;clear a3 u Q R I S;generalize AH a 1 P=c;unfold Jd;go_wp2_with fail;refine (Jc b g n h x2 a _ (Ar.alloc T.o _) (E.o.f8 ((Ab.refl (fun _=>False) _).alloc _) (fun q=>q)) G HZ.o).mono ?_;rw [X3.o];rintro e w4 ⟨v,rfl,a1,a4,j⟩;obtain ⟨M,O,N,rfl⟩:=Ad a1;have m:=Aa ((Ar.new w3 #[.string c.i6,.int .i64 c.i9] 128).f8 j (by omega));have d:=Aa ((C.o.alloc (.cells #[.string c.i6,.int .i64 c.i9] 128)).f8 j (by omega));have a6:=Aa ((D.o.alloc (.cells #[.string c.i6,.int .i64 c.i9] 128)).trans j);have b5:=Aa ((E.o.f8 ((Ab.refl (fun _=>False) _).alloc (.cells #[.string c.i6,.int .i64 c.i9] 128)) (fun q=>q)).f8 j H);have a8:=Aa a4;have n0:=m.o.cell 0;have n1:=m.o.cell 1;have b0:=d.o.cell 0;have b1:=d.o.cell 1;have b2:=d.o.cell 2;have b3:=d.o.cell 3;have b4:=d.o.cell 4;have bf:=d.o.frozen;simp only [aU,aS,aT] at n0 n1 b0 b1 b2 b3 b4;have l4:=Ae m.o;have b7:=Ae d.o;clear a4 j a1 C D E T;go_wp2_with fail;go_region_with (go_at_call 141;refine (F5 b g n h x3 a _ (Ar.f8 (X:=fun _=>False) a8.o (by repeat (first | exact Ab.refl _ _ | refine Ab.drew ?_ | refine Ab.drewN ?_ _ | refine Ab.alloc ?_ _)) (fun q=>q)) (b5.o.f8 (X:=fun _=>False) (by repeat (first | exact Ab.refl _ _ | refine Ab.drew ?_ | refine Ab.drewN ?_ _ | refine Ab.alloc ?_ _)) (fun q=>q)) HE.o).mono ?_;rintro e w5 ⟨⟨p5,rfl⟩,a5,z⟩;have o:=Ar.f8 (Ar.f8 (X:=fun _=>False) m.o (by repeat (first | exact Ab.refl _ _ | refine Ab.drew ?_ | refine Ab.drewN ?_ _ | refine Ab.alloc ?_ _)) (fun q=>q)) z (by omega);have f:=Ar.f8 (Ar.f8 (X:=fun _=>False) d.o (by repeat (first | exact Ab.refl _ _ | refine Ab.drew ?_ | refine Ab.drewN ?_ _ | refine Ab.alloc ?_ _)) (fun q=>q)) z (by omega);have m0:=o.cell 0;have m1:=o.cell 1;have U:=f.cell 0;have V:=f.cell 1;have W:=f.cell 2;have Y:=f.cell 3;have Z:=f.cell 4;have df:=f.frozen;simp only [aU,aS,aT] at m0 m1 U V W Y Z;have l5:=Ae o;have b8:=Ae f;have a7:=Aa (((a6.o.trans (by repeat (first | exact Ab.refl _ _ | refine Ab.drew ?_ | refine Ab.drewN ?_ _ | refine Ab.alloc ?_ _))).trans z));have a9:=Aa a5;clear a5 z o f);all_goals
  go_wp2;refine bodyPost_ret (v:=.agg #[.string c.i6,.int .i64 c.i9,.slice M O N,.int .i64 p5,.slice none 0 0]) (by simp [results,Tryz.results112,go_sem,U,V,W,Y,Z]) rfl ⟨⟨_,_,_,_,_,_,rfl⟩,?_,?_⟩
  ·refine Ar.f8 (X:=fun k=>k=w.heap.size) a9.o ?_ (by omega);iterate 5 refine Ab.p7 ?_ _ _
   exact Ab.refl _ _
  ·iterate 5 refine Ab.Yc ?_ _ _ (Nat.le_refl _)
   exact a7.o
theorem E5(b g n d x i a w)(f:A3 b g n d x w)(c:Ba g n d a w)(hc:x.i8<n)(B:(Aj a (n-1)).kind=0)(a1:(Bm a n (Af a n 1 (Af a n 3 x))).2=i)(V:JY a n i):
 Calls Tryz.prog 71 #[.pointer (some ⟨b,0,none⟩)] w fun e w'=>(∃(p:Int) (C:Option Addr) (E D:Nat),e=.returned (.agg #[.slice C E D,.int .i64 p]))∧A3 b g n d (Gf a n i) w'∧Ab (fun k=>k=b) w w':=by
 have lr:=Ae f;have lg:=c.lt;have a5:=c.ne f (by decide);have H:=Aa V;have HZ:=Aa B;have M:=Aa a1;have z:(Aj a (Gf a n i).i8).kind=0:=B;have P:Af a n 0 (Gf a n i)=Gf a n i:=by simp [Af,z]
 have I:=Aa z;have F:=Aa P;clear V B a1 z P;obtain ⟨y,s⟩:∃y,Gf a n i=y:=⟨_,rfl⟩;have a2:y.i8<n:=by rw [←s];exact H.o.fail.lt
 rw [s] at I F⊢;have HY:=Aa s;clear s;go_enter Tryz.func71,Tryz.ntmps71;go_wp2_with fail;refine (C9 b g n d x a _ (Ar.alloc f _) (c.f8 ((Ab.refl (fun _=>False) _).alloc _) (fun q=>q)) hc HZ.o (by rw [M.o];exact H.o)).mono ?_;rw [M.o,HY.o];rintro e h ⟨⟨s2,p2,q2,C,E,D,rfl⟩,A,o⟩;have u:Ar w.heap.size #[.slice none 0 0,.int .i64 0] 82 h:=(Ar.new w _ _).f8 o (by omega);have G:=Aa u;have J:=Aa (((Ab.refl (fun k=>k=b) w).alloc _).trans o);have L:=Aa ((c.f8 ((Ab.refl (fun _=>False) _).alloc (.cells #[.slice none 0 0,.int .i64 0] 82)) (fun q=>q)).f8 o a5);have K:=Aa A;have l2:=Ae u;have a7:=Ae A;clear A o u f c;go_wp2_with fail;go_loopw [] (fun wr=>dJ (A3 b g n d y wr)∧dJ (Ba g n d a wr)∧dJ (Ar w.heap.size #[.slice none 0 0,.int .i64 0] 82 wr)∧dJ (Ar (h.heap.size+1) #[.slice (some ⟨h.heap.size,0,none⟩) 1 1,.int .i64 0] 82 wr)∧dJ (Ab (fun k=>k=b) w wr)) (fun _=>0)
 case atStart=> refine ⟨Ar.alloc (Ar.alloc K.o _) _,L.o.f8 (((Ab.refl (fun _=>False) _).alloc _).alloc _) (fun q=>q),Ar.alloc (Ar.alloc G.o _) _,?_,(J.o.alloc _).alloc _⟩;have:=Ar.new (h.alloc (.cells #[.string s2,.int .i64 p2,.slice C E D,.int .i64 q2,.slice none 0 0] 134)) #[.slice (some ⟨h.heap.size,0,none⟩) 1 1,.int .i64 0] 82;refine Aa ?_;simpa using this
 case round=>
  obtain ⟨f,c,Q,S,W⟩:=hrel;clear K L G J;go_wp2_with fail;refine (A5 b g n d y a _ f.o c.o a2).mono ?_;rw [I.o];rintro e w3 ⟨rfl,j⟩;have Y:=Aa (Ar.f8 f.o j (fun q=>q));have a0:=Aa (c.o.f8 j (fun q=>q));have R:=Aa (Ar.f8 Q.o j (fun q=>q));have T:=Aa (Ar.f8 S.o j (fun q=>q));have U:=Aa (W.o.YF j);clear f c Q S W j;go_wp2_with fail;refine (AI b g n d 0 y a _ Y.o a0.o a2).mono ?_;rw [F.o];rintro e w4 ⟨rfl,Z,r⟩;have l:=Ar.f8 R.o r (by omega);have m:=Ar.f8 T.o r (by omega);have a3:=Aa (U.o.trans r);have a4:=Aa Z;have N:=l.cell 0;have O:=l.cell 1;have bf:=l.frozen;have d0:=m.cell 0;have d1:=m.cell 1;have df:=m.frozen;have lB:=Ae l;have lC:=Ae m;simp only [aU,aS,aT] at N O d0 d1;clear l m r Z Y a0 R T U;generalize AH a 0 y=t;unfold Ut;have a6:=Tryz.placeOf;go_wp2;refine bodyPost_ret (v:=.agg #[.slice (some ⟨h.heap.size,0,none⟩) 1 1,.int .i64 t.i9]) (by simp [results,Tryz.results71,go_sem,N,O]) rfl ⟨⟨_,_,_,_,rfl⟩,?_,?_⟩
  ·refine Ar.f8 (X:=fun k=>k=w.heap.size∨k=h.heap.size+1) a4.o ?_ (by omega);exact ((((Ab.refl _ w4).setCell (.inl (.inr rfl)) _).setCell (.inl (.inl rfl)) _).setCell (.inl (.inl rfl)) _)
  ·exact ((a3.o.Yc _ _ (by omega)).Yc _ _ (Nat.le_refl _)).Yc _ _ (Nat.le_refl _)
theorem H6(g n b c a w)(l:Ba g n b a w)(G:0<n)(x:(Aj a (n-1)).kind=0)(u:(Bm a n (Af a n 1 (Af a n 3 ⟨0,false,0⟩))).2=c)(t:JY a n c):
 Calls Tryz.prog 50 #[.slice (some ⟨g,0,none⟩) n b] w fun e K=>e=.returned (.tuple #[.agg #[.slice none 0 0,.int .i64 0],.int .i64 3,.int .i64 (Gf a n c).Yy])∧Below w.heap.size w K:=by
 have P:=l.lt;have z:=Aa t;have E:=Aa x;have F:=Aa u;have i:(Gf a n c).Ye=true:=rfl;obtain ⟨y,m⟩:∃y,Gf a n c=y:=⟨_,rfl⟩;rw [m] at i⊢;have D:=Aa m;have A:=Aa i;clear m i x u t;go_enter Tryz.func50,Tryz.ntmps50;go_wp2_with fail;have h:=Ar.new (w.alloc (.cells #[.slice none 0 0,.int .i64 0] 82)) #[.slice (some ⟨g,0,none⟩) n b,.int .i64 0,.bool false,.int .i64 0] 158;simp only [World.size_alloc] at h;have s:A3 (w.heap.size+1) g n b ⟨0,false,0⟩ ((w.alloc (.cells #[.slice none 0 0,.int .i64 0] 82)).alloc (.cells #[.slice (some ⟨g,0,none⟩) n b,.int .i64 0,.bool false,.int .i64 0] 158)):=by simpa [A3] using h
 refine (E5 (w.heap.size+1) g n b ⟨0,false,0⟩ c a _ s (l.f8 (((Ab.refl (fun _=>False) _).alloc _).alloc _) (fun q=>q)) G E.o F.o z.o).mono ?_;rw [D.o];rintro e L ⟨⟨Q,R,T,S,rfl⟩,f,j⟩;have d:Ar w.heap.size #[.slice none 0 0,.int .i64 0] 82 L:=((Ar.new w #[.slice none 0 0,.int .i64 0] 82).alloc _).f8 j (by omega);have C:=Aa ((((Below.refl w.heap.size w).alloc (Nat.le_refl _) _).alloc (by simp) _).trans (j.Yv (B:=w.heap.size) (by simp;omega) (fun k N=>by omega)));have o:=d.cell 0;have r:=d.cell 1;have M:=d.frozen;have I:=Ar.cell f 2;have J:=Ar.cell f 3;simp only [aU,aS,aT,A.o] at o r I J;have H:=Ae d;have O:=Ae f;clear f j d l h s;go_wp2;go_region;go_wp2;refine bodyPost_ret (v:=.tuple #[.agg #[.slice none 0 0,.int .i64 0],.int .i64 3,.int .i64 y.Yy]) (by simp [results,Tryz.results50,go_sem,o,r,H]) rfl ⟨rfl,?_⟩;exact ((((C.o.setCell (p:=⟨w.heap.size,0,none⟩) (Nat.le_refl _) _).setCell (p:=⟨w.heap.size,1,none⟩) (Nat.le_refl _) _).alloc (by simp;omega) _)).trans ⟨rfl,rfl,rfl,Nat.le_refl _,fun _ _=>rfl⟩
end Go.Proofs.YtegmjgjkcdbmkaaGreatDoor

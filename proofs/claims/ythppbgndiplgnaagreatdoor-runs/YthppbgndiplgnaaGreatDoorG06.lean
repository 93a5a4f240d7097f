/- One of the texts of the proof of runs_card_holds: TrL TrM LexA LexB2 LexB3 LexB4 LexC. -/
import Derived.Test.YthppbgndiplgnaaGreatDoorG05
set_option maxRecDepth 100000
set_option maxHeartbeats 2000000
namespace Go.Proofs.YthppbgndiplgnaaGreatDoor
open Go.RowKit
structure TF where
 name:PT
 p8:List PT
 i9:Nat
 Yg:List TS
def IM(a:List PT)(n:Nat)(x:PS):TF×PS:=
 let b:=Af a n 3 x
 let c:=Af a n 1 b
 let y:=Bm a n c
 let r:=AO a n (2*n+1) (Af a n 12 y.2) []
 (⟨AH a 1 b,y.1,(AH a 12 y.2).i9,r.1⟩,Af a n 13 r.2)
def Lx(t:TF)(a b:Value):Array Value:=#[.string t.name.i6,.int .i64 t.name.i9,a,.int .i64 t.i9,b]
def G5(d:Nat)(U:Nat→Prop)(w:World)(t:TF)(c:List Value):Prop:=∃a b,c=(Lx t a b).toList∧w.ownsRow 0 92 2 a t.p8.length (BG t.p8)∧(∀k,a.ownBlock=some k→U k)∧CU d U w b t.Yg
theorem G5.f8{d}{U:Nat→Prop}{w w' t c}{X:Nat→Prop}(h:G5 d U w t c)(b:Ab X w w')(e:∀k,U k→¬X k):G5 d U w' t c:=by obtain ⟨f,sv,g,i,a,j⟩:=h;exact ⟨f,sv,g,Ac i b (fun k l=>e k (a k l)),a,j.f8 b e⟩
theorem G5.more{d}{U U':Nat→Prop}{w t c}(h:G5 d U w t c)(a:∀k,U k→U' k):G5 d U' w t c:=by obtain ⟨b,l,e,f,g,i⟩:=h;exact ⟨b,l,e,f,fun k j=>a k (g k j),i.more a⟩
theorem G5.YS{d e}{U:Nat→Prop}{w t c}(h:G5 d U w t c)(j:d≤e):G5 e U w t c:=by obtain ⟨a,k,b,f,g,i⟩:=h;exact ⟨a,k,b,f,g,i.YS j⟩
def Xs(b g n m:Nat)(w:World)(r:TF×PS)(e:Ending)(f:World):Prop:=
 ∃(d:Nat) (U:Nat→Prop) (a:Option Addr) (l c:Nat) (h:Option Addr) (j i:Nat),e=.returned (.agg (Lx r.1 (.slice a l c) (.slice h j i)))∧G5 d U f r.1 (Lx r.1 (.slice a l c) (.slice h j i)).toList∧(∀k,U k→w.heap.size≤k∧k<f.heap.size)∧A3 b g n m r.2 f∧Ab (fun k=>k=b) w f
theorem Fx{g n}(a:(Aj g (n-1)).kind=0){x}(h:x.i8<n):H8 n x (IM g n x).2:=by have b:=Ag a 3 h;have c:=b.trans (Ag a 1 b.2);have d:=c.trans (Eh a c.2);have e:=d.trans (Ag a 12 d.2);have f:=e.trans (BE a (2*n+1) _ [] e.2);exact f.trans (Ag a 13 f.2)
theorem Kr{b n}(a:(Aj b (n-1)).kind=0){x}(j:x.i8<n)(k:(Aj b x.i8).kind=3):x.i8+1≤(IM b n x).2.i8:=by have h:=Ag a 3 j;have e:=BW (n:=n) k (by omega);have c:=Ag a 1 h.2;have d:=c.trans (Eh a c.2);have f:=d.trans (Ag a 12 d.2);have g:=f.trans (BE a (2*n+1) _ [] f.2);have i:=g.trans (Ag a 13 g.2);have:=i.1;unfold IM;simp only;omega
abbrev Xt:Array Value:=#[.string {data:=#[]},.int .i64 0,.slice none 0 0,.int .i64 0,.slice none 0 0]
theorem Io(j G)(hF:Cv j G)(b g n i r d w)(hb:j≤b)(hG:Below j G w)(hB:j≤w.heap.size)(F:A3 b g n i r w)(u:Ba g n i d w)(a8:r.i8<n)(x:(Aj d (n-1)).kind=0):
 Calls Tryz.prog 78 #[.pointer (some ⟨b,0,none⟩)] w fun e w'=>Xs b g n i w (IM d n r) e w':=by
 have lr:=Ae F;have lg:=u.lt;have P:=u.ne F (by decide);obtain ⟨H,o⟩:∃y,Af d n 3 r=y:=⟨_,rfl⟩;obtain ⟨Y,s⟩:∃y,Af d n 1 H=y:=⟨_,rfl⟩;obtain ⟨f,S⟩:∃y,AH d 1 H=y:=⟨_,rfl⟩;obtain ⟨l3,z,C⟩:∃l y,Bm d n Y=(l,y):=⟨_,_,rfl⟩;obtain ⟨p4,T⟩:∃y,(AH d 12 z).i9=y:=⟨_,rfl⟩;obtain ⟨l4,y4,M⟩:∃l y,AO d n (2*n+1) (Af d n 12 z) []=(l,y):=⟨_,_,rfl⟩;obtain ⟨x5,N⟩:∃y,Af d n 13 y4=y:=⟨_,rfl⟩;have hv:IM d n r=(⟨f,l3,p4,l4⟩,x5):=by simp only [IM,o,s,S,C,T,M,N]
 rw [hv];have a9:H.i8<n:=by rw [←o];exact AY x a8
 have b5:Y.i8<n:=by rw [←s];exact AY x a9
 have c8:z.i8<n:=by have:=Sa x b5;rw [C] at this;exact this
 have IH:=Aa (Fn j G hF (2*n+1));have HG:=Aa hG;have HZ:=Aa x;have X1:=Aa o;have X2:=Aa s;have K2:=Aa S;have X3:=Aa C;have K4:=Aa T;have X4:=Aa M;have X5:=Aa N;clear o s S C T M N hv x hG hF;go_enter Tryz.func78,Tryz.ntmps78;go_wp2_with fail;refine (AI b g n i 3 r d _ (Ar.alloc F _) (u.f8 ((Ab.refl (fun _=>False) _).alloc _) (fun q=>q)) a8).mono ?_;rw [X1.o];rintro e w2 ⟨rfl,b7,D⟩;have Z:=Aa ((Ar.new w Xt 98).f8 D (by omega));have a1:=Aa (((Ab.refl (fun k=>k=b) w).alloc (.cells Xt 98)).trans D);have K:=Aa ((u.f8 ((Ab.refl (fun _=>False) _).alloc (.cells Xt 98)) (fun q=>q)).f8 D P);have a3:=Aa b7;clear b7 D F u;go_wp2_with fail;refine (Cy b g n i H d _ a3.o K.o a9).mono ?_;rw [X2.o,K2.o];rintro e w3 ⟨rfl,R,E⟩;have I:=Aa (Z.o.f8 E (by omega));have a2:=Aa (a1.o.trans E);have L:=Aa (K.o.f8 E P);have a4:=Aa R;have d9:=Ae I.o;have e2:=Ae R;clear R E Z a1 K a3;unfold Jd;go_wp2_with fail;refine (Jc b g n i Y d _ (Ar.alloc a4.o _) (L.o.f8 ((Ab.refl (fun _=>False) _).alloc _) (fun q=>q)) b5 HZ.o).mono ?_;rw [X3.o];rintro e w4 ⟨v,rfl,Q,b8,t⟩;obtain ⟨U,W,V,rfl⟩:=Ad Q;have A:=Aa ((Ar.new w3 #[.string f.i6,.int .i64 f.i9] 92).f8 t (by omega));have h:=Aa ((I.o.alloc (.cells #[.string f.i6,.int .i64 f.i9] 92)).f8 t (by omega));have J:=Aa ((a2.o.alloc (.cells #[.string f.i6,.int .i64 f.i9] 92)).trans t);have c5:=Aa ((L.o.f8 ((Ab.refl (fun _=>False) _).alloc (.cells #[.string f.i6,.int .i64 f.i9] 92)) (fun q=>q)).f8 t P);have c3:=Aa b8;have B:=Aa Q;have n0:=A.o.cell 0;have n1:=A.o.cell 1;have b0:=h.o.cell 0;have b1:=h.o.cell 1;have b2:=h.o.cell 2;have b3:=h.o.cell 3;have b4:=h.o.cell 4;have bf:=h.o.frozen;simp only [aU,aS,aT] at n0 n1 b0 b1 b2 b3 b4;have e0:=Ae A.o;have e1:=Ae h.o;have d7:=J.o.size;have c9:2*(n-(Af d n 12 z).i8)+1≤2*n+1:=by omega
 clear b8 t Q I a2 L a4;go_wp2_with fail;go_region_with (go_at_call 100;refine (Fw j G (2*n+1) IH.o b g n i z d _ hb (Ab.keeps HG.o (J.o.YF (by repeat (first | exact Ab.refl _ _ | refine Ab.drew ?_ | refine Ab.drewN ?_ _ | refine Ab.alloc ?_ _))) hB hb) (by simp;omega) (Ar.f8 (X:=fun _=>False) c3.o (by repeat (first | exact Ab.refl _ _ | refine Ab.drew ?_ | refine Ab.drewN ?_ _ | refine Ab.alloc ?_ _)) (fun q=>q)) (c5.o.f8 (X:=fun _=>False) (by repeat (first | exact Ab.refl _ _ | refine Ab.drew ?_ | refine Ab.drewN ?_ _ | refine Ab.alloc ?_ _)) (fun q=>q)) c8 HZ.o c9).mono ?_;rw [K4.o,X4.o];simp only;rw [X5.o];rintro e w5 ⟨d5,U5,e3,rfl,O,a7,b9,b6⟩;have c7:=O;obtain ⟨d6,c0,_⟩:=c7;obtain ⟨wa,wl,c1,rfl⟩:=Ad c0;have p:=Ab.trans (X:=fun k=>k=b) (a:=w4) (by repeat (first | exact Ab.refl _ _ | refine Ab.drew ?_ | refine Ab.drewN ?_ _ | refine Ab.alloc ?_ _)) b6;have a0:=Aa (A.o.f8 p (by omega));have m:=Aa (h.o.f8 p (by omega));have a6:=Aa (Ac B.o p (fun k c=>by have:=(B.o.lt k c).1;simp at this;omega));have m0:=a0.o.cell 0;have m1:=a0.o.cell 1;have d0:=m.o.cell 0;have d1:=m.o.cell 1;have d2:=m.o.cell 2;have d3:=m.o.cell 3;have d4:=m.o.cell 4;have df:=m.o.frozen;simp only [aU,aS,aT] at m0 m1 d0 d1 d2 d3 d4;have c6:=Aa O;have a5:=Aa a7;have c2:=Aa (J.o.trans p);have c4:=Aa b9;have d8:=p.size;clear O a7 b9 b6 p c0);all_goals
  go_wp2;refine bC (v:=.agg (Lx ⟨f,l3,p4,l4⟩ (.slice U W V) (.slice wa wl c1))) (by simp [results,Tryz.results78,go_sem,Lx,d0,d1,d2,d3,d4]) rfl ?_;refine ⟨d5,fun k=>U5 k∨Value.ownBlock (.slice U W V)=some k,U,W,V,wa,wl,c1,rfl,?_,?_,?_,?_⟩
  ·refine G5.f8 (X:=fun k=>k=w.heap.size) (w:=w5) ⟨_,_,rfl,Ax a6.o (bI _),fun k c=>.inr c,c6.o.more (fun k c=>.inl c)⟩ ?_ ?_
   ·iterate 5 refine Ab.p7 ?_ _ _
    exact Ab.refl _ _
   ·intro k c;rcases c with c | c
    ·have:=(a5.o k c).1;simp at this;omega
    ·have:=(B.o.lt k c).1;simp at this;omega
  ·intro k c;simp only [World.size_setCell];rcases c with c | c
   ·have:=a5.o k c;simp at this;omega
   ·have o:=(B.o.lt k c).1;have s:=(a6.o.lt k c).2;simp at o;omega
  ·refine Ar.f8 (X:=fun k=>k=w.heap.size) c4.o ?_ (by omega);iterate 5 refine Ab.p7 ?_ _ _
   exact Ab.refl _ _
  ·iterate 5 refine Ab.Yc ?_ _ _ (aV _)
   exact c2.o
theorem Tryz.infoTF:(Tryz.prog.info? 98).map (fun i=>(i.zero,i.size,i.bytes))=some (some (.agg Xt),5,80):=by kernel_rfl
def DZ(b:List PT)(n:Nat):Nat→PS→List TF→List TF×PS
 | 0,x,a=>(a,x)
 | f+1,x,a=>if (Aj b x.i8).kind=3 then DZ b n f (IM b n x).2 (a++[(IM b n x).1]) else (a,x)
def Dv(a:List PT)(n:Nat)(x:PS):List TF×Nat×PS:=
 let r:=DZ a n n (IM a n x).2 [(IM a n x).1]
 (r.1,(AH a 0 r.2).i9,Af a n 0 r.2)
def DF(d:Nat)(U:Nat→Prop)(w:World)(c:Value)(b:List TF):Prop:=∃a:List (List Value),w.ownsRow 0 98 5 c b.length a.flatten∧a.length=b.length∧(∀k,c.ownBlock=some k→U k)∧∀j (g:j<b.length) (e:j<a.length),G5 d U w b[j] a[j]
def Xy(b g n h:Nat)(w:World)(r:List TF×Nat×PS)(e:Ending)(f:World):Prop:=
 ∃(d:Nat) (U:Nat→Prop) (a:Option Addr) (l c:Nat),e=.returned (.agg #[.slice a l c,.int .i64 r.2.1])∧DF d U f (.slice a l c) r.1∧(∀k,U k→w.heap.size≤k∧k<f.heap.size)∧A3 b g n h r.2.2 f∧Ab (fun k=>k=b) w f
structure FW(lo lb d:Nat)(U:Nat→Prop)(w:World)(sv:Value)(acc:List TF)(css:List (List Value)):Prop where
 row:w.ownsRow lo 98 5 sv acc.length css.flatten
 len:css.length=acc.length
 YV:∀j (g:j<acc.length) (g':j<css.length),G5 d U w acc[j] css[j]
 u:∀k,U k→lo≤k∧k<w.heap.size∧k≠lb
 apart:∀k,sv.ownBlock=some k→¬U k∧k≠lb
theorem FW.f8{e c d}{U:Nat→Prop}{w w' sv f i}{X:Nat→Prop}(h:FW e c d U w sv f i)(b:Ab X w w')(l:∀k,e≤k→k<w.heap.size→k≠c→¬X k):FW e c d U w' sv f i:=
 ⟨Ac h.row b (fun k a=>l k (h.row.lt k a).1 (h.row.lt k a).2 (h.apart k a).2),h.len,fun j g m=>(h.YV j g m).f8 b (fun k a=>l k (h.u k a).1 (h.u k a).2.1 (h.u k a).2.2),fun k a=>⟨(h.u k a).1,bL (h.u k a).2.1 b.size,(h.u k a).2.2⟩,h.apart⟩
theorem FW.push{n b d v}{U p:Nat→Prop}{w W l i o u f r t c}(h:FW n b d U w i f r)(J:b<w.heap.size)(F:G5 v p w t c)(g:∀k,p k→n≤k∧k<w.heap.size∧k≠b∧¬i.ownBlock=some k)(C:Ab (fun _=>False) w W)
 (E:l.ownsRow n 98 5 o (f.length+1) (r.flatten++c))(D:W.grownBy l i.ownBlock)(A:∀k,o.ownBlock=some k→i.ownBlock=some k∨w.heap.size≤k):
 FW n b (max d v) (fun k=>U k∨p k) (l.setCell ⟨b,0,none⟩ u) o (f++[t]) (r++[c]):=by
 have s:Ab (fun k=>i.ownBlock=some k) w l:=Ab.grown (C.mono (fun _ _ q=>q.elim)) D (fun k a=>.inl a);have m:=(Ab.refl (fun k=>k=b) l).p7 0 u;have z:=h.len;have x:∀k,o.ownBlock=some k→k≠b:=fun k a=>by
  rcases A k a with e | e
  ·exact (h.apart k e).2
  ·omega
 refine ⟨?_,by simp [z],?_,?_,?_⟩
 ·have:=Ac E m x;simpa using this
 ·intro j B G;by_cases y:j<f.length
  ·rw [bT y,bT (by omega)];exact ((((h.YV j y (by omega)).f8 s (fun k a q=>(h.apart k q).1 a)).f8 m (fun k a=>(h.u k a).2.2)).more (fun k a=>.inl a)).YS (Nat.le_max_left _ _)
  ·have e:j=f.length:=by simp at B;omega
   subst e;rw [bR (by omega),bR (by omega)];simp only [Nat.sub_self,z,bQ];exact (((F.f8 s (fun k a=>(g k a).2.2.2)).f8 m (fun k a=>(g k a).2.2.1)).more (fun k a=>.inr a)).YS (Nat.le_max_right _ _)
 ·intro k a;have H:=s.size;have I:=m.size;rcases a with a | a
  ·have:=h.u k a;exact ⟨this.1,by omega,this.2.2⟩
  ·have:=g k a;exact ⟨this.1,by omega,this.2.2.1⟩
 ·intro k a;refine ⟨fun q=>?_,x k a⟩;rcases A k a with e | e
  ·rcases q with q | q
   ·exact (h.apart k e).1 q
   ·exact (g k q).2.2.2 e
  ·rcases q with q | q
   ·have:=(h.u k q).2.1;omega
   ·have:=(g k q).2.1;omega
theorem VV(t a d l f c e):∀u∈(Lx t (.slice a l c) (.slice d f e)).toList,u.oneCell'=true:=by intro u b;simp [Lx] at b;rcases b with rfl | rfl | rfl | rfl | rfl<;>rfl
theorem V8{w:World}(a:Array Value)(b:a.size=5):(w.alloc (.cells a 98)).ownsRow w.heap.size 98 5 (.slice (some ⟨w.heap.size,0,none⟩) 1 1) 1 a.toList:=
 ⟨by simpa using b,.inr ⟨w.heap.size,1,a,rfl,aV _,heap_alloc_new w _,aV _,by unfold maxLen;omega,by simpa using b,by rw [List.take_of_length_le (by simp;omega)]⟩⟩
theorem Jy(O a8)(hF:Cv O a8)(b g n r Y i w)(hb:O≤b)(hG:Below O a8 w)(hB:O≤w.heap.size)(hr:A3 b g n r Y w)(V:Ba g n r i w)(d7:Y.i8<n)(hz:(Aj i (n-1)).kind=0):
 Calls Tryz.prog 45 #[.pointer (some ⟨b,0,none⟩)] w fun e w'=>Xy b g n r w (Dv i n Y) e w':=by
 obtain ⟨i0,hi,f3,f4,f5⟩:=info_parts Tryz.infoTF;have lr:=Ae hr;have lg:=V.lt;have hn:=V.2.2.1;have d8:=V.ne hr (by decide);have z:=Fx hz d7;obtain ⟨N,x1,E⟩:∃t y,IM i n Y=(t,y):=⟨_,_,rfl⟩;rw [E] at z;have f0:=z.2;obtain ⟨l2,x2,h2⟩:∃l y,DZ i n n x1 [N]=(l,y):=⟨_,_,rfl⟩;have hv:Dv i n Y=(l2,(AH i 0 x2).i9,Af i n 0 x2):=by simp only [Dv,E,h2]
 rw [hv];have HG:=Aa hG;have HZ:=Aa hz;have HF:=Aa hF;have X1:=Aa E;have X2:=Aa h2;clear E h2 hv hz hG hF z;go_enter Tryz.func45,Tryz.ntmps45;go_wp2_with fail;refine (Io O a8 HF.o b g n r Y i _ hb (Ab.keeps HG.o ((Ab.refl (fun k=>k=b) w).alloc _) hB hb) (by simp;omega) (Ar.alloc hr _) (V.f8 ((Ab.refl (fun _=>False) _).alloc _) (fun q=>q)) d7 HZ.o).mono ?_;rw [X1.o];rintro e m ⟨d2,U2,fa,fl,fc,b3,b5,b4,rfl,e1,d5,b8,a2⟩;have f6:=a2.size;simp at f6;have c1:dJ (Ar w.heap.size #[.slice none 0 0,.int .i64 0] 44 m):=(Ar.new w _ _).f8 a2 (by omega);have c2:=Aa (((Ab.refl (fun k=>k=b) w).alloc _).trans a2);have c6:=Aa ((V.f8 ((Ab.refl (fun _=>False) _).alloc (.cells #[.slice none 0 0,.int .i64 0] 44)) (fun q=>q)).f8 a2 d8);have c3:=Aa b8;have c5:=Aa e1;have a9:=Aa d5;have g4:=Ae b8;clear b8 a2 hr V e1 d5;unfold Lx;go_wp2_with fail;go_loopw [] (fun wr=>∃(x:PS) (f d:Nat) (U:Nat→Prop) (sv:Value) (L:List TF) (b2:List (List Value)),x.i8<n∧L.length≤x.i8+1∧n-x.i8≤f∧dJ (A3 b g n r x wr)∧dJ (Ba g n r i wr)∧dJ (Ar w.heap.size #[.slice none 0 0,.int .i64 0] 44 wr)∧dJ (Ar (m.heap.size+1) #[sv,.int .i64 0] 44 wr)∧dJ (FW (w.heap.size+1) (m.heap.size+1) d U wr sv L b2)∧dJ (Ab (fun k=>k=b) w wr)∧dJ (DZ i n f x L=(l2,x2))) (fun wr=>n-KL b wr)
 case atStart=>
  refine ⟨x1,n,d2,U2,.slice (some ⟨m.heap.size,0,none⟩) 1 1,[N],[(Lx N (.slice fa fl fc) (.slice b3 b5 b4)).toList],f0,by simp,by omega,Ar.alloc (Ar.alloc c3.o _) _,c6.o.f8 (((Ab.refl (fun _=>False) _).alloc _).alloc _) (fun q=>q),Ar.alloc (Ar.alloc c1.o _) _,?_,?_,(c2.o.alloc _).alloc _,X2⟩
  ·refine Aa ?_;have:=Ar.new (m.alloc (.cells #[.string N.name.i6,.int .i64 N.name.i9,.slice fa fl fc,.int .i64 N.i9,.slice b3 b5 b4] 98)) #[.slice (some ⟨m.heap.size,0,none⟩) 1 1,.int .i64 0] 44;simpa using this
  ·refine Aa ⟨?_,rfl,?_,?_,?_⟩
   ·have:=(V8 (w:=m) (Lx N (.slice fa fl fc) (.slice b3 b5 b4)) rfl).alloc (.cells #[.slice (some ⟨m.heap.size,0,none⟩) 1 1,.int .i64 0] 44);exact Ax (by simpa [Lx] using this) (by omega)
   ·intro j z g2;have e:j=0:=by simp at z;omega
    subst e;exact c5.o.f8 (((Ab.refl (fun _=>False) _).alloc _).alloc _) (fun _ _ q=>q)
   ·intro k c;have:=a9.o k c;simp at this⊢;omega
   ·intro k c;simp [Value.ownBlock] at c;refine ⟨fun q=>?_,by omega⟩;have:=a9.o k q;omega
 case round=>
  clear c3 c6 c1 c2 X2 c5 a9;obtain ⟨x,f,d,U,sv,L,b2,W,f7,hf,M,R,a5,hC,a6,hO,HC⟩:=hrel;have e3:=Aa (EB M.o);by_cases T:(Aj i x.i8).kind=3
  ·obtain ⟨f2,rfl⟩:∃f2,f=f2+1:=⟨f-1,by omega⟩;obtain ⟨t3,x3,h3⟩:∃t y,IM i n x=(t,y):=⟨_,_,rfl⟩;have c9:DZ i n f2 x3 (L++[t3])=(l2,x2):=by have:=HC.o;rw [DZ,cU T,h3] at this;exact this
   have f1:x.i8+1≤x3.i8∧x3.i8<n:=by have z:=Fx (n:=n) HZ.o W;have g2:=Kr HZ.o W T;rw [h3] at z g2;exact ⟨g2,z.2⟩
   have X3:=Aa h3;have e2:=Aa c9;have HK:=Aa T;clear HC h3 c9 T;go_wp2_with fail;refine (A5 b g n r x i _ M.o R.o W).mono ?_;rw [HK.o];rintro e wk ⟨rfl,o⟩;have R1:=Aa (Ar.f8 M.o o (fun q=>q));have T1:=Aa (R.o.f8 o (fun q=>q));have A1:=Aa (a5.o.f8 o (fun q=>q));have K:=Aa (hC.o.f8 o (fun q=>q));have D:=Aa (a6.o.f8 o (fun _ _ _ _ q=>q));have Q:=Aa (hO.o.YF o);clear M R a5 hC a6 hO o;obtain ⟨A,C,B,rfl⟩:=Ad D.o.row;have c0:=K.o.cell 0;have cf:=K.o.frozen 0;have lc:=Ae K.o;have g5:=Ae R1.o;have g3:=Q.o.size;simp only [aU,aS] at c0;have Z:=Aa (fun k (c:Value.ownBlock (.slice A C B)=some k)=>(⟨(D.o.row.lt k c).1,(D.o.apart k c).2⟩:w.heap.size+1≤k∧k≠m.heap.size+1));go_wp2_with fail;go_region_law (first
    | (refine Ay rfl _ _ 42 rfl (w.heap.size+1) 98 i0 (.agg Xt) 5 80 Tryz.underlying42 hi f3 f4 f5 rfl (by decide) _ _ _ rfl (P.o.row.alloc _) ⟨w4.heap.size,0,none⟩ 1 1 (Lx t3 (.slice aa al ac) (.slice ba bl bc)).toList rfl rfl (AN rfl _ _) (VV _ _ _ _ _ _ _) (by decide) (by unfold maxLen;omega) (by omega) (by simp;omega) ?_;intro v' J b7 S d9;have q1:J.cell? ⟨m.heap.size+1,0,none⟩=some (.slice A C B):=(aW (S.block (m.heap.size+1) (by simp;omega) (fun h=>(Z.o _ h.symm).2 rfl))).trans (by rw [←c8];exact aW (bF _ _ _ b9));have q2:J.frozen? ⟨m.heap.size+1,0,none⟩=false:=(bB (S.block (m.heap.size+1) (by simp;omega) (fun h=>(Z.o _ h.symm).2 rfl))).trans (by rw [←e4];exact bB (bF _ _ _ b9));obtain ⟨G,I,H,rfl⟩:=Ad b7)
    | (go_simp;go_at_call 78;refine (Io O a8 HF.o b g n r x i _ hb (Ab.keeps HG.o (Q.o.YF (by repeat (first | exact Ab.refl _ _ | refine Ab.drew ?_ | refine Ab.drewN ?_ _ | refine Ab.alloc ?_ _))) hB hb) (by simp;omega) (Ar.f8 (X:=fun _=>False) R1.o (by repeat (first | exact Ab.refl _ _ | refine Ab.drew ?_ | refine Ab.drewN ?_ _ | refine Ab.alloc ?_ _)) (fun q=>q)) (T1.o.f8 (X:=fun _=>False) (by repeat (first | exact Ab.refl _ _ | refine Ab.drew ?_ | refine Ab.drewN ?_ _ | refine Ab.alloc ?_ _)) (fun q=>q)) W HZ.o).mono ?_;rw [X3.o];rintro e w4 ⟨d4,U4,aa,al,ac,ba,bl,bc,rfl,e0,d6,a4,F⟩;have a3:=Ab.trans (X:=fun k=>k=b) (a:=wk) (by repeat (first | exact Ab.refl _ _ | refine Ab.drew ?_ | refine Ab.drewN ?_ _ | refine Ab.alloc ?_ _)) F;have P:=Aa (D.o.f8 a3 (fun k h _ _=>by omega));have s:=Aa (K.o.f8 a3 (by omega));have c8:=s.o.cell 0;have e4:=s.o.frozen 0;have b9:=Ae s.o;simp only [aU,aS] at c8;have g0:=a3.size;have c4:=Aa e0;have c7:=Aa d6;have R4:=Aa a4;have O5:=Aa a3;clear e0 d6 a4 F a3;unfold Lx;dsimp only))
   all_goals
    have a0:Ab (fun k=>Value.ownBlock (.slice A C B)=some k) w4 J:=Ab.grown ((Ab.refl _ _).alloc _) S (fun k c=>.inl c);have a7:=(Ab.refl (fun k=>k=m.heap.size+1) J).p7 0 (.slice G I H);have b6:∀j,j<w.heap.size+1→¬Value.ownBlock (.slice A C B)=some j:=fun j hj q=>by have:=(Z.o j q).1;omega
    have hP:=FW.push (u:=.slice G I H) P.o b9 c4.o (fun k c=>by have E:=c7.o k c;simp only [World.size_drew] at E;exact ⟨by omega,E.2,by omega,fun q=>by have:=(D.o.row.lt k q).2;omega⟩) ((Ab.refl _ _).alloc _) b7 S (fun k c=>(d9 k c).imp id (fun q=>by simp at q;omega));have d3:A3 b g n r x3 (J.setCell ⟨m.heap.size+1,0,none⟩ (.slice G I H)):=(R4.o.f8 a0 (b6 b (by omega))).f8 a7 (by omega);have e9:Ba g n r i (J.setCell ⟨m.heap.size+1,0,none⟩ (.slice G I H)):=((T1.o.f8 O5.o d8).f8 a0 (b6 g (by omega))).f8 a7 (by omega);have e5:=((A1.o.f8 O5.o (by omega)).f8 a0 (b6 w.heap.size (by omega))).f8 a7 (by omega);have e6:Ar (m.heap.size+1) #[.slice G I H,.int .i64 0] 44 (J.setCell ⟨m.heap.size+1,0,none⟩ (.slice G I H)):=by have:=(s.o.f8 a0 (fun q=>(Z.o _ q).2 rfl)).set 0 (.slice G I H);simpa using this
    have e8:Ab (fun k=>k=b) w (J.setCell ⟨m.heap.size+1,0,none⟩ (.slice G I H)):=(Ab.grown ((Q.o.trans O5.o).alloc _) S (fun k c=>.inr (by have:=(Z.o k c).1;omega))).Yc 0 _ (by omega);have e7:=EB d3;clear b7 S d9 q1 q2 c4 c7 P s R4 a0 a7;go_wp2_with fail;go_roundw
    case rel=>exact ⟨x3,f2,_,_,_,L++[t3],_,f1.2,by simp;omega,by omega,d3,e9,e5,e6,hP,e8,e2⟩
    case measure=>rw [e7,e3.o];omega
  ·have hv:(L,x)=(l2,x2):=by
    rw [←HC.o];cases f with
    | zero=>rfl
    | succ f=>rw [DZ,cT T]
   simp only [cI] at hv
   obtain ⟨rfl,rfl⟩:=hv
   have f9:(((Aj i x.i8).kind:Int)==3)=false:=by simp;omega
   clear HC T
   go_wp2_with fail
   refine (A5 b g n r x i _ M.o R.o W).mono ?_
   rintro e wk ⟨rfl,o⟩
   have R1:=Aa (Ar.f8 M.o o (fun q=>q))
   have T1:=Aa (R.o.f8 o (fun q=>q))
   have A1:=Aa (a5.o.f8 o (fun q=>q))
   have K:=Aa (hC.o.f8 o (fun q=>q))
   have D:=Aa (a6.o.f8 o (fun _ _ _ _ q=>q))
   have Q:=Aa (hO.o.YF o)
   clear M R a5 hC a6 hO o
   go_wp2_with fail
   refine (AI b g n r 0 x i _ R1.o T1.o W).mono ?_
   rintro e w4 ⟨rfl,a4,F⟩
   have A4:=Aa (A1.o.f8 F (by omega))
   have s:=Aa (K.o.f8 F (by omega))
   have P:=Aa (D.o.f8 F (fun k h _ _=>by omega))
   have O4:=Aa (Q.o.trans F)
   have R4:=Aa a4
   clear R1 T1 A1 K D Q a4 F
   obtain ⟨A,C,B,rfl⟩:=Ad P.o.row
   have b0:=A4.o.cell 0
   have b1:=A4.o.cell 1
   have bf:=A4.o.frozen
   have d0:=s.o.cell 0
   have d1:=s.o.cell 1
   have df:=s.o.frozen
   have lB:=Ae A4.o
   have lC:=Ae s.o
   simp only [aU,aS,aT] at b0 b1 d0 d1
   obtain ⟨t,k1⟩:∃y,AH i 0 x=y:=⟨_,rfl⟩
   rw [k1]
   have K1:=Aa k1
   clear k1
   unfold Ut
   have f8:=Tryz.placeOf
   go_wp2
   refine bC (v:=.agg #[.slice A C B,.int .i64 t.i9]) (by simp [results,Tryz.results45,go_sem,b0,b1]) rfl ?_
   have hs:=(((Ab.refl (fun k=>k=w.heap.size∨k=m.heap.size+1) w4).setCell (p:=⟨m.heap.size+1,1,none⟩) (.inl (.inr rfl)) (.int .i64 t.i9)).setCell (p:=⟨w.heap.size,0,none⟩) (.inl (.inl rfl)) (.slice A C B)).setCell (p:=⟨w.heap.size,1,none⟩) (.inl (.inl rfl)) (.int .i64 t.i9)
   have a1:=P.o.f8 hs (fun k E _ h3=>by omega)
   refine ⟨d,fun k=>U k∨Value.ownBlock (.slice A C B)=some k,A,C,B,by rw [K1.o],⟨b2,Ax a1.row (bI _),a1.len,fun k c=>.inr c,fun j z g2=>(a1.YV j z g2).more (fun k c=>.inl c)⟩,?_,R4.o.f8 hs (by omega),((O4.o.Yc 1 _ (by omega)).Yc 0 _ (aV _)).Yc 1 _ (aV _)⟩
   intro k c
   rcases c with c | c
   ·have:=a1.u k c;exact ⟨by omega,this.2.1⟩
   ·have:=a1.row.lt k c;exact ⟨by omega,this.2⟩
theorem K5{a b}(h:a=b):Ending.returned (.bool a)=.returned (.bool b):=by rw [h]
def Gj(c:Int):Bool:=(decide (97≤c) && decide (c≤122)) || (decide (224≤c) && decide (c≤255) && (c !=247))
def GD(c:Int):Bool:=c==40 || c==41 || c==123 || c==125 || c==59 || c==61 || c==38 || c==42 || c==64 || c==46 || c==63
theorem Bv(c w):
 Calls Tryz.prog 28 #[.int .i64 c] w fun e a=>e=.returned (.bool (Gj c))∧a=w:=by
 go_enter Tryz.func28,Tryz.ntmps28;go_wp2;all_goals
  go_ret;exact ⟨K5 (by rw [Bool.eq_iff_iff];simp [Gj];omega),rfl⟩
theorem C3(c w):
 Calls Tryz.prog 29 #[.int .i64 c] w fun e a=>e=.returned (.bool (GD c))∧a=w:=by
 go_enter Tryz.func29,Tryz.ntmps29;go_wp2;all_goals
  go_ret;refine ⟨K5 ?_,rfl⟩;first
   | (unfold GD;rfl)
   | (simp [GD, *];done)
def Tc(l:List UInt8):Bool:=l==[102,110] || l==[118,97,114] || l==[110,101,119] || l==[114,101,116,117,114,110] || l==[105,102] || l==[101,108,115,101] || l==[119,104,105,108,101]
theorem Gu(s w):
 Calls Tryz.prog 32 #[.string s] w fun e a=>e=.returned (.bool (Tc s.toList))∧a=w:=by
 go_enter Tryz.func32,Tryz.ntmps32;go_wp2;all_goals
  go_ret;refine ⟨K5 ?_,rfl⟩;first
   | (unfold Tc;rfl)
   | (simp [Tc, *];done)
theorem Pl(s:ByteArray)(i:Nat)(d:i<s.size)(_hs:s.size≤4000)(b:bt s i<128)(w:World):
 Calls Tryz.prog 27 #[.string s,.int .i64 i] w fun e f=>e=.returned (.tuple #[.int .i64 (A8 s i).1,.int .i64 (A8 s i).2])∧f=w:=by
 have c:A8 s i=(bt s i,1):=by simp only [A8,cU b]
 have a:=El s i d;rw [c];clear c;rw [a] at b⊢;clear a;go_enter Tryz.func27,Tryz.ntmps27;go_wp2;go_ret2;exact ⟨rfl,rfl⟩
theorem TA(s:ByteArray)(i:Nat)(f:i<s.size)(_hs:s.size≤4000)(d:128≤bt s i)(a:bt s i<194∨245≤bt s i)(w:World):
 Calls Tryz.prog 27 #[.string s,.int .i64 i] w fun e h=>e=.returned (.tuple #[.int .i64 (A8 s i).1,.int .i64 (A8 s i).2])∧h=w:=by
 have c:A8 s i=(0,0):=by simp only [A8];rw [cT (by omega),cT (by omega),cT (by omega),cT (by omega)]
 have b:=El s i f;have g:=Nl s i;rw [c];clear c;rw [b] at d a g;clear b;rcases a with a | a
 all_goals
  go_enter Tryz.func27,Tryz.ntmps27;go_wp2;go_ret2;exact ⟨rfl,rfl⟩
theorem TB(s i)(x:i<s.size)(N:s.size≤4000)(n:194≤bt s i)(o:bt s i<224)(w):
 Calls Tryz.prog 27 #[.string s,.int .i64 i] w fun e B=>e=.returned (.tuple #[.int .i64 (A8 s i).1,.int .i64 (A8 s i).2])∧B=w:=by
 have r:A8 s i=D8 s i 2 128 (bt s i-192):=by simp only [A8];rw [cT (by omega),cU ⟨n,o⟩]
 have h:=El s i x;rw [r];clear r;by_cases z:s.size<i+2
 ·rw [Ho z];rw [h] at n o;clear h;go_enter Tryz.func27,Tryz.ntmps27;go_wp2;go_ret2;exact ⟨rfl,rfl⟩
 ·generalize d:D8 s i 2 128 (bt s i-192)=v;have f:dJ (D8 s i 2 128 (s[i].toNat-192)=v):=by rw [←h];exact d
  clear d;rw [h] at n o;clear h;have E:decide ((s[i].toNat:Int)<128)=false:=by simp;omega
  have F:decide ((s[i].toNat:Int)<224)=true:=by simp;omega
  have G:decide ((s.size:Int)<(i:Int)+2)=false:=by simp;omega
  go_enter Tryz.func27,Tryz.ntmps27;go_wp2;go_loop [6,9,10] (fun c k _=>∃m a:Nat,m≤1∧k=.int .i64 (m+1:Nat)∧c=.int .i64 a∧BD s i (s[i].toNat-192) m=some a) (fun _ k _=>2-(intOf k).toNat)
  case atStart=>exact ⟨0,_,by omega,rfl,by go_num,rfl⟩
  case round=>
   obtain ⟨m,a,K,rfl,rfl,b⟩:=hrel;have u:=Ki (by omega) (by omega) b;unfold Ke at u;by_cases J:m+1<2
   ·have y:i+(m+1)<s.size:=by omega
    have j:=El s (i+(m+1)) y;have M:s[i+(m+1)].toNat<256:=UInt8.toNat_lt _;by_cases g:bt s (i+1+m)<128∨191<bt s (i+1+m)
    ·have d:v=(0,0):=by rw [←f.o,IS (Fi (IV b g) (by omega))]
     subst d;clear f b;rw [show i+1+m=i+(m+1) from by omega,j] at g;clear j;rcases g with g | g
     all_goals
      go_wp2;go_ret2;exact ⟨rfl,rfl⟩
    ·have t:dJ (BD s i (s[i].toNat-192) (m+1)=some (a*64+s[i+(m+1)].toNat-128)):=by have:=D9 b (by omega) (by omega);rw [show i+1+m=i+(m+1) from by omega,j] at this;exact this
     rw [show i+1+m=i+(m+1) from by omega,j] at g
     have C:128≤s[i+(m+1)].toNat:=by omega
     have D:s[i+(m+1)].toNat≤191:=by omega
     clear g j b f
     go_wp2
     go_round
     case rel=>exact ⟨m+1,_,by omega,by go_num,by go_num,t.o⟩
     case measure=>simp [intOf];omega
   ·have A:m=2-1:=by omega
    subst A;by_cases l:a<128∨1114111<a∨(55296≤a∧a<57344)
    ·have d:v=(0,0):=by rw [←f.o,Kd b l]
     subst d;clear f b;rcases l with q | q | ⟨q,L⟩
     all_goals
      go_wp2;go_ret2;exact ⟨rfl,rfl⟩
    ·have d:v=(a,2):=by rw [←f.o,JO (by omega) b l]
     subst d;have H:128≤a:=by omega
     have I:a≤1114111:=by omega
     have p:a<55296∨57344≤a:=by omega
     clear f b l;rcases p with p | p
     all_goals
      go_wp2;go_ret2;exact ⟨rfl,rfl⟩
theorem Pm(s i)(x:i<s.size)(O:s.size≤4000)(n:224≤bt s i)(o:bt s i<240)(w):
 Calls Tryz.prog 27 #[.string s,.int .i64 i] w fun e B=>e=.returned (.tuple #[.int .i64 (A8 s i).1,.int .i64 (A8 s i).2])∧B=w:=by
 have r:A8 s i=D8 s i 3 2048 (bt s i-224):=by simp only [A8];rw [cT (by omega),cT (by omega),cU ⟨n,o⟩]
 have h:=El s i x;rw [r];clear r;by_cases z:s.size<i+3
 ·rw [Ho z];rw [h] at n o;clear h;go_enter Tryz.func27,Tryz.ntmps27;go_wp2;go_ret2;exact ⟨rfl,rfl⟩
 ·generalize d:D8 s i 3 2048 (bt s i-224)=v;have f:dJ (D8 s i 3 2048 (s[i].toNat-224)=v):=by rw [←h];exact d
  clear d;rw [h] at n o;clear h;have E:decide ((s[i].toNat:Int)<128)=false:=by simp;omega
  have F:decide ((s[i].toNat:Int)<224)=false:=by simp;omega
  have G:decide ((s[i].toNat:Int)<240)=true:=by simp;omega
  have H:decide ((s.size:Int)<(i:Int)+3)=false:=by simp;omega
  go_enter Tryz.func27,Tryz.ntmps27;go_wp2;go_loop [6,9,10] (fun c k _=>∃m a:Nat,m≤2∧k=.int .i64 (m+1:Nat)∧c=.int .i64 a∧BD s i (s[i].toNat-224) m=some a) (fun _ k _=>3-(intOf k).toNat)
  case atStart=>exact ⟨0,_,by omega,rfl,by go_num,rfl⟩
  case round=>
   obtain ⟨m,a,L,rfl,rfl,b⟩:=hrel;have u:=Ki (by omega) (by omega) b;unfold Ke at u;by_cases K:m+1<3
   ·have y:i+(m+1)<s.size:=by omega
    have j:=El s (i+(m+1)) y;have N:s[i+(m+1)].toNat<256:=UInt8.toNat_lt _;by_cases g:bt s (i+1+m)<128∨191<bt s (i+1+m)
    ·have d:v=(0,0):=by rw [←f.o,IS (Fi (IV b g) (by omega))]
     subst d;clear f b;rw [show i+1+m=i+(m+1) from by omega,j] at g;clear j;rcases g with g | g
     all_goals
      go_wp2;go_ret2;exact ⟨rfl,rfl⟩
    ·have t:dJ (BD s i (s[i].toNat-224) (m+1)=some (a*64+s[i+(m+1)].toNat-128)):=by have:=D9 b (by omega) (by omega);rw [show i+1+m=i+(m+1) from by omega,j] at this;exact this
     rw [show i+1+m=i+(m+1) from by omega,j] at g
     have C:128≤s[i+(m+1)].toNat:=by omega
     have D:s[i+(m+1)].toNat≤191:=by omega
     clear g j b f
     go_wp2
     go_round
     case rel=>exact ⟨m+1,_,by omega,by go_num,by go_num,t.o⟩
     case measure=>simp [intOf];omega
   ·have A:m=3-1:=by omega
    subst A;by_cases l:a<2048∨1114111<a∨(55296≤a∧a<57344)
    ·have d:v=(0,0):=by rw [←f.o,Kd b l]
     subst d;clear f b;rcases l with q | q | ⟨q,M⟩
     all_goals
      go_wp2;go_ret2;exact ⟨rfl,rfl⟩
    ·have d:v=(a,3):=by rw [←f.o,JO (by omega) b l]
     subst d;have I:2048≤a:=by omega
     have J:a≤1114111:=by omega
     have p:a<55296∨57344≤a:=by omega
     clear f b l;rcases p with p | p
     all_goals
      go_wp2;go_ret2;exact ⟨rfl,rfl⟩
theorem Rp(s i)(x:i<s.size)(P:s.size≤4000)(n:240≤bt s i)(o:bt s i<245)(w):
 Calls Tryz.prog 27 #[.string s,.int .i64 i] w fun e B=>e=.returned (.tuple #[.int .i64 (A8 s i).1,.int .i64 (A8 s i).2])∧B=w:=by
 have r:A8 s i=D8 s i 4 65536 (bt s i-240):=by simp only [A8];rw [cT (by omega),cT (by omega),cT (by omega),cU ⟨n,o⟩]
 have h:=El s i x;rw [r];clear r;by_cases z:s.size<i+4
 ·rw [Ho z];rw [h] at n o;clear h;go_enter Tryz.func27,Tryz.ntmps27;go_wp2;go_ret2;exact ⟨rfl,rfl⟩
 ·generalize d:D8 s i 4 65536 (bt s i-240)=v;have f:dJ (D8 s i 4 65536 (s[i].toNat-240)=v):=by rw [←h];exact d
  clear d;rw [h] at n o;clear h;have E:decide ((s[i].toNat:Int)<128)=false:=by simp;omega
  have F:decide ((s[i].toNat:Int)<224)=false:=by simp;omega
  have G:decide ((s[i].toNat:Int)<240)=false:=by simp;omega
  have H:decide ((s[i].toNat:Int)<245)=true:=by simp;omega
  have I:decide ((s.size:Int)<(i:Int)+4)=false:=by simp;omega
  go_enter Tryz.func27,Tryz.ntmps27;go_wp2;go_loop [6,9,10] (fun c k _=>∃m a:Nat,m≤3∧k=.int .i64 (m+1:Nat)∧c=.int .i64 a∧BD s i (s[i].toNat-240) m=some a) (fun _ k _=>4-(intOf k).toNat)
  case atStart=>exact ⟨0,_,by omega,rfl,by go_num,rfl⟩
  case round=>
   obtain ⟨m,a,M,rfl,rfl,b⟩:=hrel;have u:=Ki (by omega) (by omega) b;unfold Ke at u;by_cases L:m+1<4
   ·have y:i+(m+1)<s.size:=by omega
    have j:=El s (i+(m+1)) y;have O:s[i+(m+1)].toNat<256:=UInt8.toNat_lt _;by_cases g:bt s (i+1+m)<128∨191<bt s (i+1+m)
    ·have d:v=(0,0):=by rw [←f.o,IS (Fi (IV b g) (by omega))]
     subst d;clear f b;rw [show i+1+m=i+(m+1) from by omega,j] at g;clear j;rcases g with g | g
     all_goals
      go_wp2;go_ret2;exact ⟨rfl,rfl⟩
    ·have t:dJ (BD s i (s[i].toNat-240) (m+1)=some (a*64+s[i+(m+1)].toNat-128)):=by have:=D9 b (by omega) (by omega);rw [show i+1+m=i+(m+1) from by omega,j] at this;exact this
     rw [show i+1+m=i+(m+1) from by omega,j] at g
     have C:128≤s[i+(m+1)].toNat:=by omega
     have D:s[i+(m+1)].toNat≤191:=by omega
     clear g j b f
     go_wp2
     go_round
     case rel=>exact ⟨m+1,_,by omega,by go_num,by go_num,t.o⟩
     case measure=>simp [intOf];omega
   ·have A:m=4-1:=by omega
    subst A;by_cases l:a<65536∨1114111<a∨(55296≤a∧a<57344)
    ·have d:v=(0,0):=by rw [←f.o,Kd b l]
     subst d;clear f b;rcases l with q | q | ⟨q,N⟩
     all_goals
      go_wp2;go_ret2;exact ⟨rfl,rfl⟩
    ·have d:v=(a,4):=by rw [←f.o,JO (by omega) b l]
     subst d;have J:65536≤a:=by omega
     have K:a≤1114111:=by omega
     have p:a<55296∨57344≤a:=by omega
     clear f b l;rcases p with p | p
     ·omega
     ·go_wp2;go_ret2;exact ⟨rfl,rfl⟩
theorem BH(s:ByteArray)(i:Nat)(a:i<s.size)(b:s.size≤4000)(w:World):
 Calls Tryz.prog 27 #[.string s,.int .i64 i] w fun e h=>e=.returned (.tuple #[.int .i64 (A8 s i).1,.int .i64 (A8 s i).2])∧h=w:=by
 by_cases c:bt s i<128
 ·exact Pl s i a b c w
 ·by_cases d:bt s i<194∨245≤bt s i
  ·exact TA s i a b (by omega) d w
  ·by_cases f:bt s i<224
   ·exact TB s i a b (by omega) f w
   ·by_cases g:bt s i<240
    ·exact Pm s i a b (by omega) g w
    ·exact Rp s i a b (by omega) (by omega) w
def Fp(s:ByteArray):Nat→Nat→Nat×Bool
 | 0,i=>(i,true)
 | f+1,i=>if i<s.size∧bt s i≠10 then (if (A8 s i).2=0 then (i,false) else Fp s f (i+(A8 s i).2)) else (i,true)
theorem JP{s f i}(h:¬(i<s.size∧bt s i≠10)):Fp s f i=(i,true):=by
 cases f with
 | zero=>rfl
 | succ f=>simp only [Fp,cT h]
theorem QE{s f i}(c:s.size-i≤f)(h:i<s.size)(a:bt s i≠10)(b:(A8 s i).2=0):Fp s f i=(i,false):=by
 cases f with
 | zero=>omega
 | succ f=>simp only [Fp,cU (And.intro h a),cU b]
theorem MD{s f i}(d:s.size-i≤f)(h:i<s.size)(b:bt s i≠10)(c:(A8 s i).2≠0):∃a,s.size-(i+(A8 s i).2)≤a∧Fp s f i=Fp s a (i+(A8 s i).2):=by
 cases f with
 | zero=>omega
 | succ f=>exact ⟨f,by omega,by simp only [Fp,cU (And.intro h b),cT c]⟩
theorem Jn(s:ByteArray)(i d:Nat)(A:i≤s.size)(t:s.size≤4000)(y:s.size-i≤d)(w:World):
 Calls Tryz.prog 30 #[.string s,.int .i64 i] w fun e m=>e=.returned (.tuple #[.int .i64 (Fp s d i).1,.bool (Fp s d i).2])∧m=w:=by
 generalize b:Fp s d i=v;have n:dJ (Fp s d i=v):=b;clear b;go_enter Tryz.func30,Tryz.ntmps30;go_wp2;go_loop [1,6,7] (fun j _ _=>∃k f:Nat,k≤s.size∧j=.int .i64 k∧s.size-k≤f∧Fp s f k=v) (fun j _ _=>s.size-(intOf j).toNat)
 case atStart=>exact ⟨i,d,A,rfl,y,n.o⟩
 case round=>
  obtain ⟨k,f,C,rfl,q,p⟩:=hrel;have a:dJ (Fp s f k=v):=p;clear p n;by_cases g:k<s.size
  ·have h:=El s k g;by_cases c:bt s k=10
   ·have b:v=(k,true):=by rw [←a.o,JP (by omega)]
    subst b;clear a;have x:(((s[k].toNat:Nat):Int) !=10)=false:=by rw [h] at c;simp;omega
    clear h c;go_wp2;go_ret2;exact ⟨rfl,rfl⟩
   ·have x:(((s[k].toNat:Nat):Int) !=10)=true:=by rw [h] at c;simp;omega
    have D:=EK s k g;by_cases l:(A8 s k).2=0
    ·have b:v=(k,false):=by rw [←a.o,QE q g c l]
     subst b;have B:(((A8 s k).2:Int)==0)=true:=by simp [l]
     clear a h c l;go_wp2_with (go_at_call 27;refine (BH _ _ ?_ ?_ _).mono ?_;exact g;exact t;rintro e m ⟨rfl,rfl⟩);go_ret2;exact ⟨rfl,rfl⟩
    ·obtain ⟨o,z,r⟩:=MD q g c l;have u:dJ (Fp s o (k+(A8 s k).2)=v):=by rw [←r];exact a.o
     have B:(((A8 s k).2:Int)==0)=false:=by simp [l]
     clear a h c r;go_wp2_with (go_at_call 27;refine (BH _ _ ?_ ?_ _).mono ?_;exact g;exact t;rintro e m ⟨rfl,rfl⟩);go_round
     case rel=>exact ⟨k+(A8 s k).2,o,by omega,by go_num,z,u.o⟩
     case measure=>simp [intOf];omega
  ·have b:v=(k,true):=by rw [←a.o,JP (by omega)]
   subst b;clear a;go_wp2;go_ret2;exact ⟨rfl,rfl⟩
end Go.Proofs.YthppbgndiplgnaaGreatDoor

/- One of the texts of the proof: CkB CkC TrA TrB TrC. -/
import Derived.Test.YtegmjgjkcdbmkaaGreatDoorG07
import Derived.Deep.RegionWith
set_option maxRecDepth 100000
set_option maxHeartbeats 1000000
namespace Go.Proofs.YtegmjgjkcdbmkaaGreatDoor
open Go.RowKit Go.Maps
theorem I7(b g i h m n D c t w)(f:Ci b g i (.map (some m)) h c w)(l:A7 m n D w)(r:t.a9.size≤4000):
 Calls Tryz.prog 164 #[.pointer (some ⟨b,0,none⟩),Je t] w fun e p=>e=.returned (.tuple #[])∧Ci b g i (.map (some m)) h (B6 D t c) p∧Ab (fun k=>k=b) w p:=by
 have v:=Ar f 2;simp only [dM,dJ,dK] at v;have x:=Ae f;obtain ⟨z,o,_,_⟩:=Ep (w:=(w.alloc (.cells #[.string t.a9,.int .i64 t.c9] 128)).drew) (l.O (((Ab.refl (fun _=>False) w).alloc _).drew) (fun q=>q)) r;have j:=Aa f;clear f l;unfold Je;cases a:Maps.has D (Ba t.a9) with
 | true=>
   rw [a] at o;have d:B6 D t c=c:=by simp [B6,a]
   rw [d];clear d a;go_enter Tryz.func164,Tryz.ntmps164;go_wp2;go_region;go_wp2;go_end0;exact ⟨rfl,j.o.O (((Ab.refl (fun _=>False) w).alloc _).drew) (fun q=>q),((Ab.refl _ w).alloc _).drew⟩
 | false=>
   rw [a] at o;have d:B6 D t c=BA 6 t.c9 c:=by simp [B6,a]
   rw [d];clear d a;go_enter Tryz.func164,Tryz.ntmps164;go_wp2;go_region;go_wp2_with (go_at_call 75;refine (BK b 6 t.c9 g i (.map (some m)) h c _ (j.o.O (((Ab.refl (fun _=>False) w).alloc _).drew) (fun q=>q))).mono ?_);rintro e y ⟨rfl,u,s⟩;go_wp2;go_end0;exact ⟨rfl,u,(((Ab.refl _ w).alloc _).drew).trans s⟩
theorem Eg{m n p:Nat}{D:DataW Unit}{w:World}{s:ByteArray}(h:A7 m n D w)(e:s.size≤4000)(j:p≤4000)(i:n≤4000):
 ∃a,(Instr.mapUpdate 123 (.map (some m)) (.string s) (.int .i64 p)).run Tryz.prog w=.ok () a∧A7 m (n+1) (D.put (Ba s) (.lit (.int .i64 p))) a∧Ab (fun k=>k=m) w a:=by
 have g:(Lit.int .i64 (p:Int)).wf=true:=WalkArith.wf_i64 (by omega);obtain ⟨a,f,b,c⟩:=World.ownsMap.store h KL Tryz.underlying123 (by unfold maxLen;omega) (Ik e) (plainElem_int Tryz.underlying3 g);exact ⟨a,f,b,(Ab.refl _ w).grown c.grown (fun k d=>.inl (by cases d;rfl))⟩
def El(D:DataW Unit)(t:PT)(c:CS):CS:=
 let a:=if 12≤Maps.size D then BA 4 t.c9 c else c
 if Maps.has D (Ba t.a9) then BA 5 t.c9 a else a
def GJ(D:DataW Unit)(t:PT):DataW Unit:=D.put (Ba t.a9) (.lit (.int .i64 t.c9))
theorem Js(b M R P m n D c t w)(X:Ci b M R P (.map (some m)) c w)(hm:A7 m n D w)(J:t.a9.size≤4000)(U:t.c9≤4000)(T:n≤4000):
 Calls Tryz.prog 115 #[.pointer (some ⟨b,0,none⟩),Je t] w fun e w'=>e=.returned (.tuple #[])∧Ci b M R P (.map (some m)) (El D t c) w'∧A7 m (n+1) (GJ D t) w'∧Ab (fun k=>k=b∨k=m) w w':=by
 have r3:=Ar X 3;simp only [dM,dJ,dK] at r3;have lr:=Ae X;have HR:=Aa X;have HM:=Aa hm;clear X hm;unfold Je;have S:=Aa (HR.o.O ((Ab.refl (fun _=>False) w).alloc (.cells #[.string t.a9,.int .i64 t.c9] 128)) (fun q=>q));have K:=Aa (HM.o.O ((Ab.refl (fun _=>False) w).alloc (.cells #[.string t.a9,.int .i64 t.c9] 128)) (fun q=>q));have N0:=Aa (Ak.new w #[.string t.a9,.int .i64 t.c9] 128);have O0:=Aa ((Ab.refl (fun k=>k=b) w).alloc (.cells #[.string t.a9,.int .i64 t.c9] 128));have a1:=fun ty=>World.ownsMap.len K.o Tryz.underlying123 ty
 by_cases Y:12≤Maps.size D
 ·have a2:(12:Int)≤(Maps.size D:Int):=by omega
  obtain ⟨i,I⟩:∃i,BA 4 t.c9 c=i:=⟨_,rfl⟩;have N:El D t c=if Maps.has D (Ba t.a9) then BA 5 t.c9 i else i:=by simp [El,Y,I]
  rw [N];have C1:=Aa I;clear N I Y;go_enter Tryz.func115,Tryz.ntmps115;go_wp2_with (go_at_call 75;refine (BK b 4 t.c9 M R P (.map (some m)) c _ S.o).mono ?_);rw [C1.o];rintro e W ⟨rfl,kw,Z⟩;have j:=Aa kw;have l:=Aa (A7.O K.o Z (A7.ne K.o S.o));have o:=Aa (Ak.O N0.o Z (by omega));have L:=Aa (O0.o.trans Z);clear kw Z a1 r3;go_wp2;have E:=Ar j.o 3;have B:=Ar o.o 0;have C:=Ar o.o 1;simp only [dM,dJ,dK] at E B C;obtain ⟨z,p,_,_⟩:=Ep (w:=W.drew) (A7.O l.o ((Ab.refl (fun _=>False) W).drew) (fun q=>q)) J;cases d:Maps.has D (Ba t.a9) with
  | true=> rw [d] at p;have s:=Aa d;clear d;go_region;go_wp2_with (go_at_call 75;refine (BK b 5 t.c9 M R P (.map (some m)) i _ (Ak.O j.o ((Ab.refl (fun _=>False) W).drew) (fun q=>q))).mono ?_);rintro e V ⟨rfl,O,Q⟩;have r:Ab (fun k=>k=b) W V:=((Ab.refl _ W).drew).trans Q;have a:=Aa O;have f:=Aa (A7.O l.o r (A7.ne l.o j.o));have g:=Aa (Ak.O o.o r (by omega));have u:=Aa (L.o.trans r);clear O Q r p E B C;obtain ⟨v,a0,x,y⟩:=Eg (w:=V.drew) (A7.O f.o ((Ab.refl (fun _=>False) V).drew) (fun q=>q)) J U T;have H:=Ar a.o 3;have F:=Ar g.o 0;have G:=Ar g.o 1;simp only [dM,dJ,dK] at H F G;go_wp2;go_region;go_end0;have h:Ab (fun k=>k=m) V v:=((Ab.refl _ V).drew).trans y;have A:=f.o.ne a.o;rw [if_pos s.o];exact ⟨rfl,Ak.O a.o h (fun q=>A q.symm),x,(u.o.mono (fun _ _ q=>.inl q)).trans (h.mono (fun _ _ q=>.inr q))⟩
  | false=> rw [d] at p;have s:=Aa d;clear d;go_region;have a:=Aa (Ak.O j.o ((Ab.refl (fun _=>False) W).drew) (fun q=>q));have f:=Aa (A7.O l.o ((Ab.refl (fun _=>False) W).drew) (fun q=>q));have g:=Aa (Ak.O o.o ((Ab.refl (fun _=>False) W).drew) (fun q=>q));have u:=Aa (L.o.drew);generalize hV:W.drew=V at*;clear p E B C hV;obtain ⟨v,a0,x,y⟩:=Eg (w:=V.drew) (A7.O f.o ((Ab.refl (fun _=>False) V).drew) (fun q=>q)) J U T;have H:=Ar a.o 3;have F:=Ar g.o 0;have G:=Ar g.o 1;simp only [dM,dJ,dK] at H F G;go_wp2;go_region;go_end0;have h:Ab (fun k=>k=m) V v:=((Ab.refl _ V).drew).trans y;have A:=f.o.ne a.o;rw [if_neg (by rw [s.o];decide)];exact ⟨rfl,Ak.O a.o h (fun q=>A q.symm),x,(u.o.mono (fun _ _ q=>.inl q)).trans (h.mono (fun _ _ q=>.inr q))⟩
 ·have a2:¬(12:Int)≤(Maps.size D:Int):=by omega
  obtain ⟨i,I⟩:∃i,c=i:=⟨_,rfl⟩;have N:El D t c=if Maps.has D (Ba t.a9) then BA 5 t.c9 i else i:=by simp [El,Y,I]
  rw [N];clear N Y;subst I;go_enter Tryz.func115,Tryz.ntmps115;go_wp2;generalize w.alloc (.cells #[.string t.a9,.int .i64 t.c9] 128)=W at*;have j:=S;have l:=K;have o:=N0;have L:=O0;clear a1 r3 S K N0 O0;have E:=Ar j.o 3;have B:=Ar o.o 0;have C:=Ar o.o 1;simp only [dM,dJ,dK] at E B C;obtain ⟨z,p,_,_⟩:=Ep (w:=W.drew) (A7.O l.o ((Ab.refl (fun _=>False) W).drew) (fun q=>q)) J;cases d:Maps.has D (Ba t.a9) with
  | true=> rw [d] at p;have s:=Aa d;clear d;go_region;go_wp2_with (go_at_call 75;refine (BK b 5 t.c9 M R P (.map (some m)) c _ (Ak.O j.o ((Ab.refl (fun _=>False) W).drew) (fun q=>q))).mono ?_);rintro e V ⟨rfl,O,Q⟩;have r:Ab (fun k=>k=b) W V:=((Ab.refl _ W).drew).trans Q;have a:=Aa O;have f:=Aa (A7.O l.o r (A7.ne l.o j.o));have g:=Aa (Ak.O o.o r (by omega));have u:=Aa (L.o.trans r);clear O Q r p E B C;obtain ⟨v,a0,x,y⟩:=Eg (w:=V.drew) (A7.O f.o ((Ab.refl (fun _=>False) V).drew) (fun q=>q)) J U T;have H:=Ar a.o 3;have F:=Ar g.o 0;have G:=Ar g.o 1;simp only [dM,dJ,dK] at H F G;go_wp2;go_region;go_end0;have h:Ab (fun k=>k=m) V v:=((Ab.refl _ V).drew).trans y;have A:=f.o.ne a.o;rw [if_pos s.o];exact ⟨rfl,Ak.O a.o h (fun q=>A q.symm),x,(u.o.mono (fun _ _ q=>.inl q)).trans (h.mono (fun _ _ q=>.inr q))⟩
  | false=> rw [d] at p;have s:=Aa d;clear d;go_region;have a:=Aa (Ak.O j.o ((Ab.refl (fun _=>False) W).drew) (fun q=>q));have f:=Aa (A7.O l.o ((Ab.refl (fun _=>False) W).drew) (fun q=>q));have g:=Aa (Ak.O o.o ((Ab.refl (fun _=>False) W).drew) (fun q=>q));have u:=Aa (L.o.drew);generalize hV:W.drew=V at*;clear p E B C hV;obtain ⟨v,a0,x,y⟩:=Eg (w:=V.drew) (A7.O f.o ((Ab.refl (fun _=>False) V).drew) (fun q=>q)) J U T;have H:=Ar a.o 3;have F:=Ar g.o 0;have G:=Ar g.o 1;simp only [dM,dJ,dK] at H F G;go_wp2;go_region;go_end0;have h:Ab (fun k=>k=m) V v:=((Ab.refl _ V).drew).trans y;have A:=f.o.ne a.o;rw [if_neg (by rw [s.o];decide)];exact ⟨rfl,Ak.O a.o h (fun q=>A q.symm),x,(u.o.mono (fun _ _ q=>.inl q)).trans (h.mono (fun _ _ q=>.inr q))⟩
def EJ(D:DataW Unit)(l:List PT)(c:CS):CS:=l.foldl (fun c t=>B6 D t c) c
theorem N6(D:DataW Unit)(l:List PT)(k:Nat)(h:k<l.length)(c:CS):EJ D (l.drop k) c=EJ D (l.drop (k+1)) (B6 D l[k] c):=by rw [List.drop_eq_getElem_cons h];rfl
theorem EC{l i}(h:i<l.length):(Bt l)[i*2]? =some (.string l[i].a9)∧(Bt l)[i*2+1]? =some (.int .i64 l[i].c9):=by
 induction l generalizing i with
 | nil=>simp at h
 | cons t l a=>
   cases i with
   | zero=>simp [Bt,EB]
   | succ i=>
     have:=a (i:=i) (by simpa using h);simp only [Bt,List.flatMap_cons,List.getElem_cons_succ] at this⊢;have e:∀j,(EB t++List.flatMap EB l)[(i+1)*2+j]? =(List.flatMap EB l)[i*2+j]? :=by intro j;rw [List.getElem?_append_right (by simp [EB];omega)];congr 1;simp [EB];omega
     exact ⟨by rw [show (i+1)*2=(i+1)*2+0 from rfl,e];exact this.1,by rw [e];exact this.2⟩
theorem EP(b j r p m n D c l z w)(h:Ci b j r p (.map (some m)) c w)(u:A7 m n D w)(f:w.ownsRow 0 128 2 z l.length (Bt l))(K:∀t,t∈l→t.a9.size≤4000)(T:l.length≤4000):
 Calls Tryz.prog 166 #[.pointer (some ⟨b,0,none⟩),z] w fun e F=>e=.returned (.tuple #[])∧Ci b j r p (.map (some m)) (EJ D l c) F∧Ab (fun k=>k=b) w F:=by
 obtain ⟨Z,vl,vc,rfl⟩:=Ad f;have S:=Aq f;subst S;have Y:=Ae h;have N:=Aj f h (by decide);have M:=u.ne h;generalize A:EJ D l c=V;have x:dN (EJ D (l.drop 0) c=V):=A;have v:=Aa h;have G:=Aa u;have y:=Aa f;clear A h u f;go_enter Tryz.func166,Tryz.ntmps166;go_wp2;go_loopw [8] (fun i wr=>∃(k:Nat) (a:CS),k≤l.length∧i=.int .i64 k∧dN (Ci b j r p (.map (some m)) a wr)∧dN (Ab (fun k=>k=b) w wr)∧dN (EJ D (l.drop k) a=V)) (fun i _=>l.length-(intOf i).toNat)
 case atStart=>exact ⟨0,c,by omega,rfl,v,Aa (Ab.refl _ _),x⟩
 case round=>
  obtain ⟨k,a,U,rfl,C,d,E⟩:=hrel;clear x v;by_cases B:k<l.length
  ·obtain ⟨g,rfl⟩:=AA y.o (by omega);have o:=Ac y.o d.o N;have J:=Aa (A7.O G.o d.o M);have s:=EC B;have H:=o.cellAt (k*2) (by omega);have I:=o.cellAt (k*2+1) (by omega);rw [s.1] at H;rw [s.2] at I;have X:=(o.lt g rfl).2;have Q:=Aa (N6 D l k B a);have L:=K l[k] (List.getElem_mem _);generalize l[k]=t at*;have W:=d.o.size;clear s o;go_wp2_with (go_at_call 163;refine (D8 b j r p m n D a t _ (Ak.O C.o ((Ab.refl (fun _=>False) _).alloc _) (fun q=>q)) (A7.O J.o ((Ab.refl (fun _=>False) _).alloc _) (fun q=>q)) L).mono ?_;rintro e w2 ⟨rfl,P,O⟩);go_round
   case rel=>exact ⟨k+1,_,by omega,by go_num,Aa P,Aa (d.o.trans (((Ab.refl _ _).alloc _).trans O)),Aa (Q.o.symm.trans E.o)⟩
   case measure=>simp [intOf];omega
  ·have e:k=l.length:=by omega
   subst e;have R:a=V:=by have:=E.o;simpa [EJ] using this
   subst R;go_wp2;go_end0;exact ⟨rfl,C.o,d.o⟩
structure VS where
 kind:Nat
 tg:PT
 sr:PT
 field:Nat
 args:List PT
def FI(s:VS)(a:Value):Array Value:=#[.int .i64 s.kind,.string s.tg.a9,.int .i64 s.tg.c9,.string s.sr.a9,.int .i64 s.sr.c9,.int .i64 s.field,a,.slice none 0 0]
abbrev ZX:Array Value:=#[.int .i64 0,.string {data:=#[]},.int .i64 0,.string {data:=#[]},.int .i64 0,.int .i64 0,.slice none 0 0,.slice none 0 0]
structure JX(b g n cap:Nat)(toks:List PT)(x:PS)(w0 w:World):Prop where
 pa:AR b g n cap x w
 pt:AZ g n cap toks w
 l7:Ak w0.heap.size ZX 237 w
 O:Ab (fun k=>k=b) w0 w
 bl:b<w0.heap.size
theorem JX.start{b g n a d x w}(c:AR b g n a x w)(e:AZ g n a d w):JX b g n a d x w (w.alloc (.cells ZX 237)):=
 ⟨Ak.alloc c _,e.O ((Ab.refl (fun _=>False) _).alloc _) (fun q=>q),Ak.new _ _ _,(Ab.refl _ _).alloc _,Ae c⟩
theorem JX.call{b g n a e x i f w d}(h:JX b g n a e x f w)(j:AR b g n a i d)(c:Ab (fun k=>k=b) w d):JX b g n a e i f d:=
 ⟨j,h.pt.O c (h.pt.ne h.pa (by decide)),h.l7.O c (by have:=h.bl;omega),h.O.trans c,h.bl⟩
theorem JX.quiet{b g n c d x f w e}(h:JX b g n c d x f w)(a:Ab (fun _=>False) w e):JX b g n c d x f e:=
 ⟨Ak.O h.pa a (fun q=>q),h.pt.O a (fun q=>q),h.l7.O a (fun q=>q),h.O.bI a,h.bl⟩
def Gg(b g n d:Nat)(w:World)(r:VS×PS)(e:Ending)(a:World):Prop:=
 ∃c,e=.returned (.agg (FI r.1 c))∧a.ownsRow w.heap.size 128 2 c r.1.args.length (Bt r.1.args)∧AR b g n d r.2 a∧Ab (fun k=>k=b) w a
def GI(a:List PT)(n:Nat)(x:PS):VS×PS:=
 let b:=Af a n 17 (Af a n 10 x)
 let c:=Af a n 11 (Af a n 1 b)
 (⟨8,Bj,Ax a 1 b,0,(A6 a n c).1⟩,(A6 a n c).2)
theorem JO(b g n i o d w)(a:AR b g n i o w)(ht:AZ g n i d w)(V:o.next<n)(j:(Ag d (n-1)).kind=0):
 Calls Tryz.prog 188 #[.pointer (some ⟨b,0,none⟩)] w fun e w'=>Gg b g n i w (GI d n o) e w':=by
 obtain ⟨P,G⟩:∃y,Af d n 10 o=y:=⟨_,rfl⟩;obtain ⟨K,H⟩:∃y,Af d n 17 P=y:=⟨_,rfl⟩;obtain ⟨Q,I⟩:∃y,Af d n 1 K=y:=⟨_,rfl⟩;obtain ⟨m,O⟩:∃y,Ax d 1 K=y:=⟨_,rfl⟩;obtain ⟨R,J⟩:∃y,Af d n 11 Q=y:=⟨_,rfl⟩;obtain ⟨l5,x5,M⟩:∃l y,A6 d n R=(l,y):=⟨_,_,rfl⟩;have W:P.next<n:=by rw [←G];exact AO j V
 have Y:K.next<n:=by rw [←H];exact AO j W
 have Z:Q.next<n:=by rw [←I];exact AO j Y
 have a0:R.next<n:=by rw [←J];exact AO j Z
 have hv:GI d n o=(⟨8,Bj,m,0,l5⟩,x5):=by simp only [GI,G,H,I,O,J,M]
 rw [hv];have C:=Aa (JX.start a ht);have X1:=Aa G;have X2:=Aa H;have X3:=Aa I;have K3:=Aa O;have X4:=Aa J;have X5:=Aa M;have HZ:=Aa j;clear G H I O J M hv j a ht;go_enter Tryz.func188,Tryz.ntmps188;go_wp2_with fail;refine (AG b g n i 10 o d _ C.o.pa C.o.pt V).mono ?_;rw [X1.o];rintro e w1 ⟨rfl,a,c⟩;have D:=Aa (C.o.call a c);clear a c C;go_wp2_with fail;refine (AG b g n i 17 P d _ D.o.pa D.o.pt W).mono ?_;rw [X2.o];rintro e w2 ⟨rfl,a,c⟩;have E:=Aa (D.o.call a c);clear a c D;go_wp2_with fail;refine (B7 b g n i K d _ E.o.pa E.o.pt Y).mono ?_;rw [X3.o,K3.o];rintro e w3 ⟨rfl,a,c⟩;have L:=Aa (E.o.call a c);clear a c E;unfold Je;have a3:=Ae L.o.pa;have S:=Aa (Ak.new w3 #[.string m.a9,.int .i64 m.c9] 128);have F:=Aa (L.o.quiet ((Ab.refl _ _).alloc (.cells #[.string m.a9,.int .i64 m.c9] 128)));clear L;go_wp2_with fail;refine (AG b g n i 11 Q d _ F.o.pa F.o.pt Z).mono ?_;rw [X4.o];rintro e w4 ⟨rfl,a,c⟩;have f:=Aa (F.o.call a c);have B:=Aa (S.o.O c (by omega));clear a c F S;have n0:=B.o.cell 0;have n1:=B.o.cell 1;simp only [dM,dJ,dK] at n0 n1;have l4:=Ae B.o;have p:=f.o.l7.cell 0;have r:=f.o.l7.cell 1;have s:=f.o.l7.cell 2;have t:=f.o.l7.cell 3;have u:=f.o.l7.cell 4;have x:=f.o.l7.cell 5;have z:=f.o.l7.cell 6;have A:=f.o.l7.cell 7;have qf:=f.o.l7.frozen;have ql:=Ae f.o.l7;simp only [dM,dJ,dK] at p r s t u x z A;go_wp2_with fail;go_region_with (go_at_call 140;refine (Jd b g n i R d _ (f.o.quiet (by repeat (first | exact Ab.refl _ _ | refine Ab.drew ?_ | refine Ab.drewN ?_ _ | refine Ab.alloc ?_ _))).pa (f.o.quiet (by repeat (first | exact Ab.refl _ _ | refine Ab.drew ?_ | refine Ab.drewN ?_ _ | refine Ab.alloc ?_ _))).pt a0 HZ.o).mono ?_;rw [X5.o];rintro e w5 ⟨v5,rfl,N,a,c⟩;obtain ⟨va,vl,vc,rfl⟩:=Ad N;have h:=Aa ((f.o.quiet (by repeat (first | exact Ab.refl _ _ | refine Ab.drew ?_ | refine Ab.drewN ?_ _ | refine Ab.alloc ?_ _))).call a c);have T:=Aa ((Ak.O (X:=fun _=>False) B.o (by repeat (first | exact Ab.refl _ _ | refine Ab.drew ?_ | refine Ab.drewN ?_ _ | refine Ab.alloc ?_ _)) (fun q=>q)).O c (by omega));have U:=Aa (Ao N (B':=w.heap.size) (by have:=f.o.O.size;simp;omega));have a1:=T.o.cell 0;have a2:=T.o.cell 1;simp only [dM,dJ,dK] at a1 a2;clear a c N p r s t u x z A qf ql;have p:=h.o.l7.cell 0;have r:=h.o.l7.cell 1;have s:=h.o.l7.cell 2;have t:=h.o.l7.cell 3;have u:=h.o.l7.cell 4;have x:=h.o.l7.cell 5;have z:=h.o.l7.cell 6;have A:=h.o.l7.cell 7;have qf:=h.o.l7.frozen;have ql:=Ae h.o.l7;simp only [dM,dJ,dK] at p r s t u x z A);all_goals
  go_wp2;refine bodyPost_ret (v:=.agg (FI ⟨8,Bj,m,0,l5⟩ (.slice va vl vc))) (by simp [results,Tryz.results188,go_sem,FI,Bj,p,r,s,t,u,x,z,A];try rfl) rfl ⟨(.slice va vl vc),rfl,?_,?_,?_⟩
  ·refine Ac (X:=fun k=>k=w.heap.size) U.o ?_ (Aj U.o h.o.l7 (by decide));iterate 8 refine Ab.d8 ?_ _ _
   exact Ab.refl _ _
  ·refine Ak.O (X:=fun k=>k=w.heap.size) h.o.pa ?_ (by have:=h.o.bl;omega);iterate 8 refine Ab.d8 ?_ _ _
   exact Ab.refl _ _
  ·iterate 8 refine Ab.u9 ?_ _ _ (Nat.le_refl _)
   exact h.o.O
def GE(t:PT):Nat:=if t.a9.toList=[49] then 1 else if t.a9.toList=[50] then 2 else if t.a9.toList=[51] then 3 else 0
def Cf(d:Nat)(h:World):Prop:=∀(b g n a:Nat) (x:PS) (c:List PT) (w:World),d≤b→Below d h w→AR b g n a x w→AZ g n a c w→x.next<n→
 Calls Tryz.prog 189 #[.pointer (some ⟨b,0,none⟩)] w fun e f=>e=.returned (.int .i64 (GE (Ax c 2 x)))∧AR b g n a (Af c n 2 x) f∧Ab (fun k=>k=b) w f
theorem Ab.keeps{a b d w c}(h:Below a d w)(f:Ab (fun k=>k=b) w c)(e:a≤w.heap.size)(g:a≤b):Below a d c:=h.trans (f.bL e (fun k i=>by omega))
def DM(a:List PT)(n:Nat)(x:PS):VS×PS:=
 let b:=Af a n 16 x
 let c:=Af a n 1 b
 if (Ag a c.next).kind=19 then
  let d:=Af a n 19 c
  (⟨3,Bj,Ax a 1 b,GE (Ax a 2 d),[]⟩,Af a n 2 d)
 else (⟨2,Bj,Ax a 1 b,0,[]⟩,c)
theorem Nh(O a0)(hF:Cf O a0)(b g n l D d w)(hb:O≤b)(V:Below O a0 w)(hB:O≤w.heap.size)(f:AR b g n l D w)(Z:AZ g n l d w)(W:D.next<n)(L:(Ag d (n-1)).kind=0):
 Calls Tryz.prog 187 #[.pointer (some ⟨b,0,none⟩)] w fun e w'=>Gg b g n l w (DM d n D) e w':=by
 obtain ⟨N,E⟩:∃y,Af d n 16 D=y:=⟨_,rfl⟩;obtain ⟨p,F⟩:∃y,Af d n 1 N=y:=⟨_,rfl⟩;obtain ⟨j,M⟩:∃y,Ax d 1 N=y:=⟨_,rfl⟩;obtain ⟨U,I⟩:∃y,Af d n 19 p=y:=⟨_,rfl⟩;obtain ⟨x4,Q⟩:∃y,Af d n 2 U=y:=⟨_,rfl⟩;obtain ⟨d4,T⟩:∃y,GE (Ax d 2 U)=y:=⟨_,rfl⟩;have Y:N.next<n:=by rw [←E];exact AO L W
 have S:p.next<n:=by rw [←F];exact AO L Y
 have a1:U.next<n:=by rw [←I];exact AO L S
 have r:=Aa (JX.start f Z);have HG:=Aa V;have HF:=Aa hF;have X1:=Aa E;have X2:=Aa F;have K2:=Aa M;have X3:=Aa I;have X4:=Aa Q;have K4:=Aa T;by_cases J:(Ag d p.next).kind=19
 ·have K:DM d n D=(⟨3,Bj,j,d4,[]⟩,x4):=by simp only [DM,E,F,M,I,T,Q,if_pos J]
  rw [K];have a2:(((Ag d p.next).kind:Int) !=19)=false:=by simp [J]
  clear E F M I Q T K L f Z J V hF;go_enter Tryz.func187,Tryz.ntmps187;go_wp2_with fail;refine (AG b g n l 16 D d _ r.o.pa r.o.pt W).mono ?_;rw [X1.o];rintro e w1 ⟨rfl,f,c⟩;have m:=Aa (r.o.call f c);clear f c r;go_wp2_with fail;refine (B7 b g n l N d _ m.o.pa m.o.pt Y).mono ?_;rw [X2.o,K2.o];rintro e w2 ⟨rfl,f,c⟩;have a:=Aa (m.o.call f c);clear f c m;unfold Je;have a3:=Ae a.o.pa;have G:=Aa (Ak.new w2 #[.string j.a9,.int .i64 j.c9] 128);have o:=Aa (a.o.quiet ((Ab.refl _ _).alloc (.cells #[.string j.a9,.int .i64 j.c9] 128)));clear a;go_wp2_with fail;refine (AS b g n l p d _ o.o.pa o.o.pt S).mono ?_;rintro e wk ⟨rfl,c⟩;have a:=Aa (o.o.quiet c);have H:=Aa (G.o.O c (fun q=>q));clear c o G;go_wp2_with fail;refine (AG b g n l 19 p d _ a.o.pa a.o.pt S).mono ?_;rw [X3.o];rintro e w3 ⟨rfl,f,c⟩;have h:=Aa (a.o.call f c);have P:=Aa (H.o.O c (by omega));clear f c a H;have n0:=P.o.cell 0;have n1:=P.o.cell 1;simp only [dM,dJ,dK] at n0 n1;have l3:=Ae P.o;have a6:=h.o.O.size;have s:=h.o.l7.cell 0;have t:=h.o.l7.cell 1;have u:=h.o.l7.cell 2;have x:=h.o.l7.cell 3;have z:=h.o.l7.cell 4;have A:=h.o.l7.cell 5;have B:=h.o.l7.cell 6;have C:=h.o.l7.cell 7;have qf:=h.o.l7.frozen;have ql:=Ae h.o.l7;simp only [dM,dJ,dK] at s t u x z A B C;go_wp2_with fail;go_region_with (go_at_call 189;refine (HF.o b g n l U d _ hb (Ab.keeps HG.o (h.o.quiet (by repeat (first | exact Ab.refl _ _ | refine Ab.drew ?_ | refine Ab.drewN ?_ _ | refine Ab.alloc ?_ _))).O hB hb) (h.o.quiet (by repeat (first | exact Ab.refl _ _ | refine Ab.drew ?_ | refine Ab.drewN ?_ _ | refine Ab.alloc ?_ _))).pa (h.o.quiet (by repeat (first | exact Ab.refl _ _ | refine Ab.drew ?_ | refine Ab.drewN ?_ _ | refine Ab.alloc ?_ _))).pt a1).mono ?_;rw [X4.o,K4.o];rintro e w5 ⟨rfl,f,c⟩;have i:=Aa ((h.o.quiet (by repeat (first | exact Ab.refl _ _ | refine Ab.drew ?_ | refine Ab.drewN ?_ _ | refine Ab.alloc ?_ _))).call f c);have B5:=Aa ((Ak.O (X:=fun _=>False) P.o (by repeat (first | exact Ab.refl _ _ | refine Ab.drew ?_ | refine Ab.drewN ?_ _ | refine Ab.alloc ?_ _)) (fun q=>q)).O c (by omega));have a4:=B5.o.cell 0;have a5:=B5.o.cell 1;simp only [dM,dJ,dK] at a4 a5;clear f c s t u x z A B C qf ql;have s:=i.o.l7.cell 0;have t:=i.o.l7.cell 1;have u:=i.o.l7.cell 2;have x:=i.o.l7.cell 3;have z:=i.o.l7.cell 4;have A:=i.o.l7.cell 5;have B:=i.o.l7.cell 6;have C:=i.o.l7.cell 7;have qf:=i.o.l7.frozen;have ql:=Ae i.o.l7;simp only [dM,dJ,dK] at s t u x z A B C);all_goals
   go_wp2;have R:w5.ownsRow w.heap.size 128 2 (.slice none 0 0) 0 []:=World.ownsRow_nil _ _ _ _;refine bodyPost_ret (v:=.agg (FI ⟨3,Bj,j,d4,[]⟩ (.slice none 0 0))) (by simp [results,Tryz.results187,go_sem,FI,Bj,s,t,u,x,z,A,B,C];try rfl) rfl ⟨(.slice none 0 0),rfl,?_,?_,?_⟩
   ·refine Ac (X:=fun k=>k=w.heap.size) R ?_ (Aj R i.o.l7 (by decide));iterate 8 refine Ab.d8 ?_ _ _
    exact Ab.refl _ _
   ·refine Ak.O (X:=fun k=>k=w.heap.size) i.o.pa ?_ (by have:=i.o.bl;omega);iterate 8 refine Ab.d8 ?_ _ _
    exact Ab.refl _ _
   ·iterate 8 refine Ab.u9 ?_ _ _ (Nat.le_refl _)
    exact i.o.O
 ·have K:DM d n D=(⟨2,Bj,j,0,[]⟩,p):=by simp only [DM,E,F,M,if_neg J]
  rw [K];have a2:(((Ag d p.next).kind:Int) !=19)=true:=by simp;omega
  clear E F M I Q T K L f Z J V hF;go_enter Tryz.func187,Tryz.ntmps187;go_wp2_with fail;refine (AG b g n l 16 D d _ r.o.pa r.o.pt W).mono ?_;rw [X1.o];rintro e w1 ⟨rfl,f,c⟩;have m:=Aa (r.o.call f c);clear f c r;go_wp2_with fail;refine (B7 b g n l N d _ m.o.pa m.o.pt Y).mono ?_;rw [X2.o,K2.o];rintro e w2 ⟨rfl,f,c⟩;have a:=Aa (m.o.call f c);clear f c m;unfold Je;have a3:=Ae a.o.pa;have G:=Aa (Ak.new w2 #[.string j.a9,.int .i64 j.c9] 128);have o:=Aa (a.o.quiet ((Ab.refl _ _).alloc (.cells #[.string j.a9,.int .i64 j.c9] 128)));clear a;go_wp2_with fail;refine (AS b g n l p d _ o.o.pa o.o.pt S).mono ?_;rintro e wk ⟨rfl,c⟩;have a:=Aa (o.o.quiet c);have H:=Aa (G.o.O c (fun q=>q));clear c o G;have n0:=H.o.cell 0;have n1:=H.o.cell 1;simp only [dM,dJ,dK] at n0 n1;have s:=a.o.l7.cell 0;have t:=a.o.l7.cell 1;have u:=a.o.l7.cell 2;have x:=a.o.l7.cell 3;have z:=a.o.l7.cell 4;have A:=a.o.l7.cell 5;have B:=a.o.l7.cell 6;have C:=a.o.l7.cell 7;have qf:=a.o.l7.frozen;have ql:=Ae a.o.l7;simp only [dM,dJ,dK] at s t u x z A B C;go_wp2;have R:wk.ownsRow w.heap.size 128 2 (.slice none 0 0) 0 []:=World.ownsRow_nil _ _ _ _;refine bodyPost_ret (v:=.agg (FI ⟨2,Bj,j,0,[]⟩ (.slice none 0 0))) (by simp [results,Tryz.results187,go_sem,FI,Bj,s,t,u,x,z,A,B,C];try rfl) rfl ⟨(.slice none 0 0),rfl,?_,?_,?_⟩
  ·refine Ac (X:=fun k=>k=w.heap.size) R ?_ (Aj R a.o.l7 (by decide));iterate 8 refine Ab.d8 ?_ _ _
   exact Ab.refl _ _
  ·refine Ak.O (X:=fun k=>k=w.heap.size) a.o.pa ?_ (by have:=a.o.bl;omega);iterate 8 refine Ab.d8 ?_ _ _
   exact Ab.refl _ _
  ·iterate 8 refine Ab.u9 ?_ _ _ (Nat.le_refl _)
   exact a.o.O
def Bw(a:List PT)(n:Nat)(x:PS):VS×PS:=
 if (Ag a x.next).kind=5 then (⟨1,Bj,Bj,0,[]⟩,Af a n 5 x)
 else if (Ag a x.next).kind=16 then DM a n x
 else if (Ag a x.next).kind=17 then (⟨5,Bj,Ax a 1 (Af a n 17 x),0,[]⟩,Af a n 1 (Af a n 17 x))
 else if (Ag a x.next).kind=18 then (⟨4,Bj,Ax a 1 (Af a n 18 x),0,[]⟩,Af a n 1 (Af a n 18 x))
 else if (Ag a x.next).kind=10 then GI a n x
 else if (Ag a (Af a n 1 x).next).kind=10 then (⟨7,Bj,Ax a 1 x,0,(A6 a n (Af a n 1 x)).1⟩,(A6 a n (Af a n 1 x)).2)
 else (⟨6,Bj,Ax a 1 x,0,[]⟩,Af a n 1 x)
theorem T6(b g n h d f w)(j:AR b g n h d w)(q:AZ g n h f w)(p:d.next<n)(m:(Ag f d.next).kind=5):
 Calls Tryz.prog 185 #[.pointer (some ⟨b,0,none⟩)] w fun e F=>Gg b g n h w (Bw f n d) e F:=by
 obtain ⟨H,l⟩:∃y,Af f n 5 d=y:=⟨_,rfl⟩;have r:Bw f n d=(⟨1,Bj,Bj,0,[]⟩,H):=by simp only [Bw,if_pos m,l]
 rw [r];have c:=Aa (JX.start j q);have D:=Aa m;have E:=Aa l;clear l r j q m;go_enter Tryz.func185,Tryz.ntmps185;go_wp2_with fail;refine (AS b g n h d f _ c.o.pa c.o.pt p).mono ?_;rw [D.o];rintro e K ⟨rfl,i⟩;have o:=Aa (c.o.quiet i);clear i c;have c:=o;clear o;go_wp2_with fail;refine (AG b g n h 5 d f _ c.o.pa c.o.pt p).mono ?_;rw [E.o];rintro e G ⟨rfl,j,i⟩;have a:=Aa (c.o.call j i);clear j i c;have s:=a.o.l7.cell 0;have t:=a.o.l7.cell 1;have u:=a.o.l7.cell 2;have x:=a.o.l7.cell 3;have z:=a.o.l7.cell 4;have A:=a.o.l7.cell 5;have B:=a.o.l7.cell 6;have C:=a.o.l7.cell 7;have I:=a.o.l7.frozen;have J:=Ae a.o.l7;simp only [dM,dJ,dK] at s t u x z A B C;go_wp2;have R:G.ownsRow w.heap.size 128 2 (.slice none 0 0) 0 []:=World.ownsRow_nil _ _ _ _;refine bodyPost_ret (v:=.agg (FI ⟨1,Bj,Bj,0,[]⟩ (.slice none 0 0))) (by simp [results,Tryz.results185,go_sem,FI,Bj,s,t,u,x,z,A,B,C];try rfl) rfl ⟨(.slice none 0 0),rfl,?_,?_,?_⟩
 ·refine Ac (X:=fun k=>k=w.heap.size) R ?_ (Aj R a.o.l7 (by decide));iterate 8 refine Ab.d8 ?_ _ _
  exact Ab.refl _ _
 ·refine Ak.O (X:=fun k=>k=w.heap.size) a.o.pa ?_ (by have:=a.o.bl;omega);iterate 8 refine Ab.d8 ?_ _ _
  exact Ab.refl _ _
 ·iterate 8 refine Ab.u9 ?_ _ _ (Nat.le_refl _)
  exact a.o.O
theorem Mo(b g n l i d w)(h:AR b g n l i w)(H:AZ g n l d w)(s:i.next<n)(I:(Ag d (n-1)).kind=0)(o:(Ag d i.next).kind=17∨(Ag d i.next).kind=18):
 Calls Tryz.prog 185 #[.pointer (some ⟨b,0,none⟩)] w fun e T=>Gg b g n l w (Bw d n i) e T:=by
 rcases o with o | o
 ·obtain ⟨p,m⟩:∃y,Af d n 17 i=y:=⟨_,rfl⟩;obtain ⟨P,q⟩:∃y,Af d n 1 p=y:=⟨_,rfl⟩;obtain ⟨G,r⟩:∃y,Ax d 1 p=y:=⟨_,rfl⟩;have u:Bw d n i=(⟨5,Bj,G,0,[]⟩,P):=by simp [Bw,o,m,q,r]
  rw [u];have N:p.next<n:=by rw [←m];exact AO I s
  have c:=Aa (JX.start h H);have J:=Aa o;have L:=Aa m;have M:=Aa q;have K:=Aa r;clear m q r u h H o I;go_enter Tryz.func185,Tryz.ntmps185;go_wp2_with fail;refine (AS b g n l i d _ c.o.pa c.o.pt s).mono ?_;rw [J.o];rintro e U ⟨rfl,f⟩;have t:=Aa (c.o.quiet f);clear f c;have c:=t;clear t;go_wp2_with fail;refine (AG b g n l 17 i d _ c.o.pa c.o.pt s).mono ?_;rw [L.o];rintro e V ⟨rfl,h,f⟩;have j:=Aa (c.o.call h f);clear h f c;go_wp2_with fail;refine (B7 b g n l p d _ j.o.pa j.o.pt N).mono ?_;rw [M.o,K.o];rintro e O ⟨rfl,h,f⟩;have a:=Aa (j.o.call h f);clear h f j;have x:=a.o.l7.cell 0;have z:=a.o.l7.cell 1;have A:=a.o.l7.cell 2;have B:=a.o.l7.cell 3;have C:=a.o.l7.cell 4;have D:=a.o.l7.cell 5;have E:=a.o.l7.cell 6;have F:=a.o.l7.cell 7;have Q:=a.o.l7.frozen;have S:=Ae a.o.l7;simp only [dM,dJ,dK] at x z A B C D E F;unfold Je;go_wp2;have R:O.ownsRow w.heap.size 128 2 (.slice none 0 0) 0 []:=World.ownsRow_nil _ _ _ _;refine bodyPost_ret (v:=.agg (FI ⟨5,Bj,G,0,[]⟩ (.slice none 0 0))) (by simp [results,Tryz.results185,go_sem,FI,Bj,x,z,A,B,C,D,E,F];try rfl) rfl ⟨(.slice none 0 0),rfl,?_,?_,?_⟩
  ·refine Ac (X:=fun k=>k=w.heap.size) R ?_ (Aj R a.o.l7 (by decide));iterate 8 refine Ab.d8 ?_ _ _
   exact Ab.refl _ _
  ·refine Ak.O (X:=fun k=>k=w.heap.size) a.o.pa ?_ (by have:=a.o.bl;omega);iterate 8 refine Ab.d8 ?_ _ _
   exact Ab.refl _ _
  ·iterate 8 refine Ab.u9 ?_ _ _ (Nat.le_refl _)
   exact a.o.O
 ·obtain ⟨p,m⟩:∃y,Af d n 18 i=y:=⟨_,rfl⟩;obtain ⟨P,q⟩:∃y,Af d n 1 p=y:=⟨_,rfl⟩;obtain ⟨G,r⟩:∃y,Ax d 1 p=y:=⟨_,rfl⟩;have u:Bw d n i=(⟨4,Bj,G,0,[]⟩,P):=by simp [Bw,o,m,q,r]
  rw [u];have N:p.next<n:=by rw [←m];exact AO I s
  have c:=Aa (JX.start h H);have J:=Aa o;have L:=Aa m;have M:=Aa q;have K:=Aa r;clear m q r u h H o I;go_enter Tryz.func185,Tryz.ntmps185;go_wp2_with fail;refine (AS b g n l i d _ c.o.pa c.o.pt s).mono ?_;rw [J.o];rintro e U ⟨rfl,f⟩;have t:=Aa (c.o.quiet f);clear f c;have c:=t;clear t;go_wp2_with fail;refine (AG b g n l 18 i d _ c.o.pa c.o.pt s).mono ?_;rw [L.o];rintro e V ⟨rfl,h,f⟩;have j:=Aa (c.o.call h f);clear h f c;go_wp2_with fail;refine (B7 b g n l p d _ j.o.pa j.o.pt N).mono ?_;rw [M.o,K.o];rintro e O ⟨rfl,h,f⟩;have a:=Aa (j.o.call h f);clear h f j;have x:=a.o.l7.cell 0;have z:=a.o.l7.cell 1;have A:=a.o.l7.cell 2;have B:=a.o.l7.cell 3;have C:=a.o.l7.cell 4;have D:=a.o.l7.cell 5;have E:=a.o.l7.cell 6;have F:=a.o.l7.cell 7;have Q:=a.o.l7.frozen;have S:=Ae a.o.l7;simp only [dM,dJ,dK] at x z A B C D E F;unfold Je;go_wp2;have R:O.ownsRow w.heap.size 128 2 (.slice none 0 0) 0 []:=World.ownsRow_nil _ _ _ _;refine bodyPost_ret (v:=.agg (FI ⟨4,Bj,G,0,[]⟩ (.slice none 0 0))) (by simp [results,Tryz.results185,go_sem,FI,Bj,x,z,A,B,C,D,E,F];try rfl) rfl ⟨(.slice none 0 0),rfl,?_,?_,?_⟩
  ·refine Ac (X:=fun k=>k=w.heap.size) R ?_ (Aj R a.o.l7 (by decide));iterate 8 refine Ab.d8 ?_ _ _
   exact Ab.refl _ _
  ·refine Ak.O (X:=fun k=>k=w.heap.size) a.o.pa ?_ (by have:=a.o.bl;omega);iterate 8 refine Ab.d8 ?_ _ _
   exact Ab.refl _ _
  ·iterate 8 refine Ab.u9 ?_ _ _ (Nat.le_refl _)
   exact a.o.O
theorem Mn(p P)(hF:Cf p P)(b g n l f d w)(S:p≤b)(N:Below p P w)(W:p≤w.heap.size)(i:AR b g n l f w)(K:AZ g n l d w)(J:f.next<n)(O:(Ag d (n-1)).kind=0)(j:(Ag d f.next).kind=16∨(Ag d f.next).kind=10):
 Calls Tryz.prog 185 #[.pointer (some ⟨b,0,none⟩)] w fun e w'=>Gg b g n l w (Bw d n f) e w':=by
 have U:=Aa N;have T:=Aa hF;have R:=Aa O;rcases j with j | j
 ·obtain ⟨F,Q,m⟩:∃s y,DM d n f=(s,y):=⟨_,_,rfl⟩;have t:Bw d n f=(F,Q):=by simp [Bw,j,m]
  rw [t];have c:=Aa (JX.start i K);have L:=Aa j;have M:=Aa m;clear m t i K j O N hF;go_enter Tryz.func185,Tryz.ntmps185;go_wp2_with fail;refine (AS b g n l f d _ c.o.pa c.o.pt J).mono ?_;rw [L.o];rintro e w0 ⟨rfl,h⟩;have q:=Aa (c.o.quiet h);clear h c;have c:=q;clear q;have Y:=c.o.O.size;go_wp2_with fail;refine (Nh p P T.o b g n l f d _ S (Ab.keeps U.o c.o.O W S) (by omega) c.o.pa c.o.pt J R.o).mono ?_;rw [M.o];rintro e w1 ⟨V,rfl,o,i,h⟩;obtain ⟨G,I,H,rfl⟩:=Ad o;have a:=Aa (c.o.call i h);have r:=Aa (Ao o (B':=w.heap.size) (by omega));clear i h o c;have u:=a.o.l7.cell 0;have x:=a.o.l7.cell 1;have z:=a.o.l7.cell 2;have A:=a.o.l7.cell 3;have B:=a.o.l7.cell 4;have C:=a.o.l7.cell 5;have D:=a.o.l7.cell 6;have E:=a.o.l7.cell 7;have Z:=a.o.l7.frozen;have ql:=Ae a.o.l7;simp only [dM,dJ,dK] at u x z A B C D E;unfold FI;go_wp2;refine bodyPost_ret (v:=.agg (FI F (.slice G I H))) (by simp [results,Tryz.results185,go_sem,FI,u,x,z,A,B,C,D,E]) rfl ⟨(.slice G I H),rfl,?_,?_,?_⟩
  ·refine Ac (X:=fun k=>k=w.heap.size) r.o ?_ (Aj r.o a.o.l7 (by decide));iterate 8 refine Ab.d8 ?_ _ _
   exact Ab.refl _ _
  ·refine Ak.O (X:=fun k=>k=w.heap.size) a.o.pa ?_ (by have:=a.o.bl;omega);iterate 8 refine Ab.d8 ?_ _ _
   exact Ab.refl _ _
  ·iterate 8 refine Ab.u9 ?_ _ _ (Nat.le_refl _)
   exact a.o.O
 ·obtain ⟨F,Q,m⟩:∃s y,GI d n f=(s,y):=⟨_,_,rfl⟩;have t:Bw d n f=(F,Q):=by simp [Bw,j,m]
  rw [t];have c:=Aa (JX.start i K);have L:=Aa j;have M:=Aa m;clear m t i K j O N hF;go_enter Tryz.func185,Tryz.ntmps185;go_wp2_with fail;refine (AS b g n l f d _ c.o.pa c.o.pt J).mono ?_;rw [L.o];rintro e w0 ⟨rfl,h⟩;have q:=Aa (c.o.quiet h);clear h c;have c:=q;clear q;have Y:=c.o.O.size;go_wp2_with fail;refine (JO b g n l f d _ c.o.pa c.o.pt J R.o).mono ?_;rw [M.o];rintro e w1 ⟨V,rfl,o,i,h⟩;obtain ⟨G,I,H,rfl⟩:=Ad o;have a:=Aa (c.o.call i h);have r:=Aa (Ao o (B':=w.heap.size) (by omega));clear i h o c;have u:=a.o.l7.cell 0;have x:=a.o.l7.cell 1;have z:=a.o.l7.cell 2;have A:=a.o.l7.cell 3;have B:=a.o.l7.cell 4;have C:=a.o.l7.cell 5;have D:=a.o.l7.cell 6;have E:=a.o.l7.cell 7;have Z:=a.o.l7.frozen;have ql:=Ae a.o.l7;simp only [dM,dJ,dK] at u x z A B C D E;unfold FI;go_wp2;refine bodyPost_ret (v:=.agg (FI F (.slice G I H))) (by simp [results,Tryz.results185,go_sem,FI,u,x,z,A,B,C,D,E]) rfl ⟨(.slice G I H),rfl,?_,?_,?_⟩
  ·refine Ac (X:=fun k=>k=w.heap.size) r.o ?_ (Aj r.o a.o.l7 (by decide));iterate 8 refine Ab.d8 ?_ _ _
   exact Ab.refl _ _
  ·refine Ak.O (X:=fun k=>k=w.heap.size) a.o.pa ?_ (by have:=a.o.bl;omega);iterate 8 refine Ab.d8 ?_ _ _
   exact Ab.refl _ _
  ·iterate 8 refine Ab.u9 ?_ _ _ (Nat.le_refl _)
   exact a.o.O
theorem QC(b g n o:Nat)(h:PS)(c:List PT)(w:World)(m:AR b g n o h w)(ht:AZ g n o c w)(G:h.next<n)(O:(Ag c (n-1)).kind=0)
 (V:(Ag c h.next).kind≠5)(S:(Ag c h.next).kind≠16)(T:(Ag c h.next).kind≠17)(U:(Ag c h.next).kind≠18)(Q:(Ag c h.next).kind≠10):
 Calls Tryz.prog 185 #[.pointer (some ⟨b,0,none⟩)] w fun e w'=>Gg b g n o w (Bw c n h) e w':=by
 obtain ⟨p,J⟩:∃y,Af c n 1 h=y:=⟨_,rfl⟩;obtain ⟨j,P⟩:∃y,Ax c 1 h=y:=⟨_,rfl⟩;obtain ⟨l2,x2,K⟩:∃l y,A6 c n p=(l,y):=⟨_,_,rfl⟩;have L:p.next<n:=by rw [←J];exact AO O G
 have f:=Aa (JX.start m ht);have X1:=Aa J;have X2:=Aa K;have K1:=Aa P;have HZ:=Aa O;have hv:Bw c n h=if (Ag c p.next).kind=10 then (⟨7,Bj,j,0,l2⟩,x2) else (⟨6,Bj,j,0,[]⟩,p):=by simp [Bw,V,S,T,U,Q,J,K,P]
 rw [hv];obtain ⟨I,M⟩:∃k,(Ag c h.next).kind=k:=⟨_,rfl⟩;rw [M] at V S T U Q;have HK:=Aa M;have j5:((I:Int)==5)=false:=by simp;omega
 have a5:((I:Int)==16)=false:=by simp;omega
 have a6:((I:Int)==17)=false:=by simp;omega
 have a7:((I:Int)==18)=false:=by simp;omega
 have a4:((I:Int)==10)=false:=by simp;omega
 clear J K P hv m ht O M V S T U Q;by_cases H:(Ag c p.next).kind=10
 ·rw [if_pos H];have a0:(((Ag c p.next).kind:Int)==10)=true:=by simp [H]
  clear H;go_enter Tryz.func185,Tryz.ntmps185;go_wp2_with fail;refine (AS b g n o h c _ f.o.pa f.o.pt G).mono ?_;rw [HK.o];rintro e w0 ⟨rfl,d⟩;have F:=Aa (f.o.quiet d);clear d f;have f:=F;clear F;go_wp2_with fail;refine (B7 b g n o h c _ f.o.pa f.o.pt G).mono ?_;rw [X1.o,K1.o];rintro e w1 ⟨rfl,m,d⟩;have a:=Aa (f.o.call m d);clear m d f;unfold Je;have a1:=Ae a.o.pa;have E:=Aa (Ak.new w1 #[.string j.a9,.int .i64 j.c9] 128);have r:=Aa (a.o.quiet ((Ab.refl _ _).alloc (.cells #[.string j.a9,.int .i64 j.c9] 128)));clear a;go_wp2_with fail;refine (AS b g n o p c _ r.o.pa r.o.pt L).mono ?_;rintro e wk ⟨rfl,d⟩;have a:=Aa (r.o.quiet d);have s:=Aa (E.o.O d (fun q=>q));clear d r E;have W:=s.o.cell 0;have Y:=s.o.cell 1;simp only [dM,dJ,dK] at W Y;have l1:=Ae s.o;have t:=a.o.l7.cell 0;have u:=a.o.l7.cell 1;have x:=a.o.l7.cell 2;have z:=a.o.l7.cell 3;have A:=a.o.l7.cell 4;have B:=a.o.l7.cell 5;have C:=a.o.l7.cell 6;have D:=a.o.l7.cell 7;have Z:=a.o.l7.frozen;have ql:=Ae a.o.l7;simp only [dM,dJ,dK] at t u x z A B C D;go_wp2_with fail;go_region_with (go_at_call 140;refine (Jd b g n o p c _ (a.o.quiet (by repeat (first | exact Ab.refl _ _ | refine Ab.drew ?_ | refine Ab.drewN ?_ _ | refine Ab.alloc ?_ _))).pa (a.o.quiet (by repeat (first | exact Ab.refl _ _ | refine Ab.drew ?_ | refine Ab.drewN ?_ _ | refine Ab.alloc ?_ _))).pt L HZ.o).mono ?_;rw [X2.o];rintro e w5 ⟨v5,rfl,N,m,d⟩;obtain ⟨va,vl,vc,rfl⟩:=Ad N;have i:=Aa ((a.o.quiet (by repeat (first | exact Ab.refl _ _ | refine Ab.drew ?_ | refine Ab.drewN ?_ _ | refine Ab.alloc ?_ _))).call m d);have B5:=Aa ((Ak.O (X:=fun _=>False) s.o (by repeat (first | exact Ab.refl _ _ | refine Ab.drew ?_ | refine Ab.drewN ?_ _ | refine Ab.alloc ?_ _)) (fun q=>q)).O d (by omega));have HW:=Aa (Ao N (B':=w.heap.size) (by have:=a.o.O.size;simp;omega));have a2:=B5.o.cell 0;have a3:=B5.o.cell 1;simp only [dM,dJ,dK] at a2 a3;clear m d N t u x z A B C D Z ql;have t:=i.o.l7.cell 0;have u:=i.o.l7.cell 1;have x:=i.o.l7.cell 2;have z:=i.o.l7.cell 3;have A:=i.o.l7.cell 4;have B:=i.o.l7.cell 5;have C:=i.o.l7.cell 6;have D:=i.o.l7.cell 7;have Z:=i.o.l7.frozen;have ql:=Ae i.o.l7;simp only [dM,dJ,dK] at t u x z A B C D);all_goals
   go_wp2;refine bodyPost_ret (v:=.agg (FI ⟨7,Bj,j,0,l2⟩ (.slice va vl vc))) (by simp [results,Tryz.results185,go_sem,FI,Bj,t,u,x,z,A,B,C,D];try rfl) rfl ⟨(.slice va vl vc),rfl,?_,?_,?_⟩
   ·refine Ac (X:=fun k=>k=w.heap.size) HW.o ?_ (Aj HW.o i.o.l7 (by decide));iterate 8 refine Ab.d8 ?_ _ _
    exact Ab.refl _ _
   ·refine Ak.O (X:=fun k=>k=w.heap.size) i.o.pa ?_ (by have:=i.o.bl;omega);iterate 8 refine Ab.d8 ?_ _ _
    exact Ab.refl _ _
   ·iterate 8 refine Ab.u9 ?_ _ _ (Nat.le_refl _)
    exact i.o.O
 ·rw [if_neg H];have a0:(((Ag c p.next).kind:Int)==10)=false:=by simp;omega
  clear H;go_enter Tryz.func185,Tryz.ntmps185;go_wp2_with fail;refine (AS b g n o h c _ f.o.pa f.o.pt G).mono ?_;rw [HK.o];rintro e w0 ⟨rfl,d⟩;have F:=Aa (f.o.quiet d);clear d f;have f:=F;clear F;go_wp2_with fail;refine (B7 b g n o h c _ f.o.pa f.o.pt G).mono ?_;rw [X1.o,K1.o];rintro e w1 ⟨rfl,m,d⟩;have a:=Aa (f.o.call m d);clear m d f;unfold Je;have a1:=Ae a.o.pa;have E:=Aa (Ak.new w1 #[.string j.a9,.int .i64 j.c9] 128);have r:=Aa (a.o.quiet ((Ab.refl _ _).alloc (.cells #[.string j.a9,.int .i64 j.c9] 128)));clear a;go_wp2_with fail;refine (AS b g n o p c _ r.o.pa r.o.pt L).mono ?_;rintro e wk ⟨rfl,d⟩;have a:=Aa (r.o.quiet d);have s:=Aa (E.o.O d (fun q=>q));clear d r E;have W:=s.o.cell 0;have Y:=s.o.cell 1;simp only [dM,dJ,dK] at W Y;have l1:=Ae s.o;have t:=a.o.l7.cell 0;have u:=a.o.l7.cell 1;have x:=a.o.l7.cell 2;have z:=a.o.l7.cell 3;have A:=a.o.l7.cell 4;have B:=a.o.l7.cell 5;have C:=a.o.l7.cell 6;have D:=a.o.l7.cell 7;have Z:=a.o.l7.frozen;have ql:=Ae a.o.l7;simp only [dM,dJ,dK] at t u x z A B C D;go_wp2;have R:wk.ownsRow w.heap.size 128 2 (.slice none 0 0) 0 []:=World.ownsRow_nil _ _ _ _;refine bodyPost_ret (v:=.agg (FI ⟨6,Bj,j,0,[]⟩ (.slice none 0 0))) (by simp [results,Tryz.results185,go_sem,FI,Bj,t,u,x,z,A,B,C,D];try rfl) rfl ⟨(.slice none 0 0),rfl,?_,?_,?_⟩
  ·refine Ac (X:=fun k=>k=w.heap.size) R ?_ (Aj R a.o.l7 (by decide));iterate 8 refine Ab.d8 ?_ _ _
   exact Ab.refl _ _
  ·refine Ak.O (X:=fun k=>k=w.heap.size) a.o.pa ?_ (by have:=a.o.bl;omega);iterate 8 refine Ab.d8 ?_ _ _
   exact Ab.refl _ _
  ·iterate 8 refine Ab.u9 ?_ _ _ (Nat.le_refl _)
   exact a.o.O
theorem TZ(f l)(hF:Cf f l)(b g n d c a w)(u:f≤b)(t:Below f l w)(s:f≤w.heap.size)(i:AR b g n d c w)(j:AZ g n d a w)(h:c.next<n)(k:(Ag a (n-1)).kind=0):
 Calls Tryz.prog 185 #[.pointer (some ⟨b,0,none⟩)] w fun e v=>Gg b g n d w (Bw a n c) e v:=by
 by_cases r:(Ag a c.next).kind=5
 ·exact T6 b g n d c a w i j h r
 ·by_cases o:(Ag a c.next).kind=16
  ·exact Mn f l hF b g n d c a w u t s i j h k (.inl o)
  ·by_cases p:(Ag a c.next).kind=17
   ·exact Mo b g n d c a w i j h k (.inl p)
   ·by_cases q:(Ag a c.next).kind=18
    ·exact Mo b g n d c a w i j h k (.inr q)
    ·by_cases m:(Ag a c.next).kind=10
     ·exact Mn f l hF b g n d c a w u t s i j h k (.inr m)
     ·exact QC b g n d c a w i j h k r o p q m
end Go.Proofs.YtegmjgjkcdbmkaaGreatDoor

/- One of the texts of the proof: CkA CkB CkC PaC TrA TrB TrC TrD. -/
import Derived.Test.YtegmjgjkcdbmkaaGreatDoorS02
import Derived.Maps.OwnSet
import Derived.StringKeys
import Derived.Deep.RegionWith
set_option maxRecDepth 100000
set_option maxHeartbeats 1000000
namespace Go.Proofs.YtegmjgjkcdbmkaaGreatDoor
open Go.RowKit Go.Maps
def Je(t:PT):Value:=.agg #[.string t.a9,.int .i64 t.c9]
def EB(t:PT):List Value:=[.string t.a9,.int .i64 t.c9]
def Bt(l:List PT):List Value:=l.flatMap EB
theorem LC(l t):Bt (l++[t])=Bt l++EB t:=by simp [Bt]
theorem B7(b g n d x a w)(h:AR b g n d x w)(r:AZ g n d a w)(C:x.next<n):
 Calls Tryz.prog 139 #[.pointer (some ⟨b,0,none⟩)] w fun e s=>e=.returned (Je (Ax a 1 x))∧AR b g n d (Af a n 1 x) s∧Ab (fun k=>k=b) w s:=by
 have G:=Ae h;obtain ⟨t,j⟩:∃t,Ax a 1 x=t:=⟨_,rfl⟩;obtain ⟨y,l⟩:∃y,Af a n 1 x=y:=⟨_,rfl⟩;rw [j,l];have A:=Aa j;have B:=Aa l;clear j l;go_enter Tryz.func139,Tryz.ntmps139;go_wp2_with fail;refine (AG b g n d 1 x a _ (Ak.alloc h _) (r.O ((Ab.refl (fun _=>False) _).alloc _) (fun q=>q)) C).mono ?_;rw [A.o,B.o];rintro e E ⟨rfl,p,f⟩;have c:E.heap[w.heap.size]? =some (.cells #[.string {data:=#[]},.int .i64 0] 128 (0,0)):=by rw [f.block w.heap.size (by simp) (by omega)];exact heap_alloc_new w _
 have m:=Ar c 0;have o:=Ar c 1;have F:=fun i=>AE c i
 simp only [dM,dJ,dK] at m o;have D:=Ae c;have z:=Aa p;have u:=((Ab.refl (fun k=>k=b) w).alloc _).trans f;clear p f c h r;unfold Vy;go_wp2;refine bodyPost_ret (v:=Je t) (by simp [results,Tryz.results139,go_sem,Je,m,o,D]) rfl ⟨rfl,?_,?_⟩
 ·exact Ak.O (X:=fun k=>k=w.heap.size) z.o (by repeat (first | exact Ab.refl _ _ | refine Ab.drew ?_ | refine Ab.alloc ?_ _ | refine Ab.d8 ?_ _ _)) (by omega)
 ·repeat (first | exact u | refine Ab.drew ?_ | refine Ab.alloc ?_ _ | refine Ab.u9 ?_ _ _ (rN _))
def CJ(b:List PT):Nat→PS→List PT→List PT×PS
 | 0,x,a=>(a,x)
 | f+1,x,a=>if (Ag b x.next).kind=1 then CJ b f ⟨x.next+1,x.m8,x.aS⟩ (a++[Ag b x.next]) else (a,x)
theorem Fc{b f x a}(h:¬(Ag b x.next).kind=1):CJ b f x a=(a,x):=by
 cases f with
 | zero=>rfl
 | succ f=>simp only [CJ,if_neg h]
theorem Rv{a f n x acc}(g:n-1-x.next≤f)(d:x.next<n)(c:(Ag a (n-1)).kind=0)(h:(Ag a x.next).kind=1):
 x.next+1<n∧∃b,n-1-(x.next+1)≤b∧CJ a f x acc=CJ a b ⟨x.next+1,x.m8,x.aS⟩ (acc++[Ag a x.next]):=by
 have i:x.next≠n-1:=by intro e;rw [e,c] at h;omega
 refine ⟨by omega,?_⟩;cases f with
 | zero=>omega
 | succ f=>exact ⟨f,by omega,by simp only [CJ];rw [if_pos h]⟩
theorem AO{a n k x}(c:(Ag a (n-1)).kind=0)(b:x.next<n):(Af a n k x).next<n:=by
 unfold Af;split
 ·rename_i h;split
  ·exact b
  ·rename_i d;have f:x.next≠n-1:=by intro e;rw [e,c] at h;omega
   show x.next+1<n;omega
 ·show n-1<n;omega
theorem Rw{c:List PT}{n:Nat}(b:(Ag c (n-1)).kind=0):∀(f:Nat) (x:PS) (a:List PT),x.next<n→(CJ c f x a).2.next<n
 | 0,x,a,h=>h
 | f+1,x,a,h=>by
   simp only [CJ];split
   ·rename_i d;have g:x.next≠n-1:=by intro e;rw [e,b] at d;omega
    exact Rw b f _ _ (by show x.next+1<n;omega)
   ·exact h
def A6(a:List PT)(n:Nat)(x:PS):List PT×PS:=
 ((CJ a a.length (Af a n 10 x) []).1,Af a n 11 (CJ a a.length (Af a n 10 x) []).2)
theorem S8{b n x}(a:(Ag b (n-1)).kind=0)(c:x.next<n):(A6 b n x).2.next<n:=
 AO a (Rw a _ _ _ (AO a c))
def KP(b:Nat)(w:World):Nat:=match w.cell? ⟨b,1,none⟩ with | some v=>(intOf v).toNat | none=>0
theorem Ed{b g n a x w}(h:AR b g n a x w):KP b w=x.next:=by have:=Ar h 1;simp only [dM,dJ,dK] at this;simp [KP,this,intOf]
theorem Tryz.infoNm:(Tryz.prog.info? 128).map (fun i=>(i.zero,i.size,i.bytes))=some (some (.agg #[.string ByteArray.empty,.int .i64 0]),2,24):=by kernel_rfl
theorem Jd(b g n d x a w)(i:AR b g n d x w)(c:AZ g n d a w)(U:x.next<n)(N:(Ag a (n-1)).kind=0):
 Calls Tryz.prog 140 #[.pointer (some ⟨b,0,none⟩)] w fun e O=>∃v,e=.returned v∧O.ownsRow w.heap.size 128 2 v (A6 a n x).1.length (Bt (A6 a n x).1)∧AR b g n d (A6 a n x).2 O∧Ab (fun k=>k=b) w O:=by
 obtain ⟨i0,hi,b2,b3,b4⟩:=info_parts Tryz.infoNm;have hn:=c.2.2.1;have Z:=c.2.1;have Y:=c.ne i (by decide);have lr:=Ae i;have lg:=c.lt;have M:=AO (k:=10) N U;unfold A6;generalize T:CJ a a.length (Af a n 10 x) []=V;have L:dN (CJ a a.length (Af a n 10 x) []=V):=T;have HZ:=Aa N;have K:=Aa c;have a3:=Aa Z;have Q:=Aa i;clear T N c Z i;go_enter Tryz.func140,Tryz.ntmps140;go_wp2_with fail;refine (AG b g n d 10 x a _ Q.o K.o U).mono ?_;rintro e u ⟨rfl,p,l⟩;generalize Af a n 10 x=x1 at p L M;have D:=Aa p;have E:=Aa (K.o.O l Y);clear p Q K;go_wp2_with fail;go_loopw [3] (fun v wr=>∃(y:PS) (f:Nat) (o:List PT),y.next<n∧o.length≤y.next∧dN (AR b g n d y wr)∧dN (AZ g n d a wr)∧wr.ownsRow w.heap.size 128 2 v o.length (Bt o)∧Ab (fun k=>k=b) w wr∧n-1-y.next≤f∧dN (CJ a f y o=V)) (fun _ wr=>n-KP b wr)
 case atStart=>exact ⟨x1,a.length,[],M,by simp,D,E,World.ownsRow_nil _ _ _ _,l,by have:=a3.o;omega,L⟩
 case round=>
  obtain ⟨y,f,o,z,b5,i,c,H,F,hf,C⟩:=hrel;clear L D E l M;have a2:=Aa (Ed i.o);by_cases r:(Ag a y.next).kind=1
  ·have a4:(((Ag a y.next).kind:Int)==1)=true:=by simp [r]
   obtain ⟨a8,R,a6,W⟩:=Rv (acc:=o) hf z HZ.o r;have HF:dN (CJ a R ⟨y.next+1,y.m8,y.aS⟩ (o++[Ag a y.next])=V):=by rw [←W];exact C.o
   have P:dN (Ax a 1 y=Ag a y.next∧Af a n 1 y=⟨y.next+1,y.m8,y.aS⟩):=⟨by simp [Ax,r],by simp [Af,r]⟩;clear C W r;go_wp2_with fail;refine (AS b g n d y a _ i.o c.o z).mono ?_;rintro e wk ⟨rfl,m⟩;have J:=i.o.O m (fun q=>q);have A:=c.o.O m (fun q=>q);have t:=Ac H m (fun _ _ q=>q);have G:=F.bI m;clear i c H F m;go_wp2_with fail;refine (B7 b g n d y a _ J A z).mono ?_;rw [P.o.1,P.o.2];rintro e u ⟨rfl,p,l⟩;have I:=Ac t l (fun j s=>by have:=(t.lt j s).1;omega);have a0:=G.trans l;have D:=Aa p;have E:=Aa (A.O l Y);have b7:=a0.size;have b8:b<u.heap.size:=Ae p;clear p l J A t G;unfold Je;go_wp2_with (at_builtin;refine wpList_append_own _ rfl _ _ 129 rfl w.heap.size 128 i0 (.agg #[.string ByteArray.empty,.int .i64 0]) 2 24 Tryz.underlying129 hi b2 b3 b4 rfl (by decide) _ _ _ rfl (I.alloc _) ⟨u.heap.size,0,none⟩ 1 1 [.string (Ag a y.next).a9,.int .i64 ((Ag a y.next).c9:Int)] rfl rfl (A5 rfl _ _) (fun x hx=>by simp at hx;rcases hx with rfl | rfl<;>rfl) (by unfold maxLen;omega) (by omega) (by simp;omega) ?_;intro v' B b1 a7 b6);have X:(u.alloc (.cells #[.string (Ag a y.next).a9,.int .i64 ((Ag a y.next).c9:Int)] 128)).grownBy B u3.ownBlock:=a7;have a1:Ab (fun k=>u3.ownBlock=some k) u B:=Ab.grown ((Ab.refl _ _).alloc _) X (fun j s=>.inl s);have b0:Ab (fun k=>k=b) w B:=Ab.grown (a0.alloc _) X (fun j s=>.inr (I.lt j s).1);have S:AR b g n d ⟨y.next+1,y.m8,y.aS⟩ B:=Ak.O D.o a1 (fun h=>by have:=(I.lt _ h).1;omega);have a5:AZ g n d a B:=E.o.O a1 (fun h=>by have:=(I.lt _ h).1;omega);have a9:=Ed S;refine ⟨⟨⟨y.next+1,y.m8,y.aS⟩,R,o++[Ag a y.next],a8,by simp;omega,S,a5,?_,b0,a6,HF⟩,?_⟩
   ·rw [LC,rV];exact b1
   ·rw [a9,a2.o];simp only;omega
  ·have a4:(((Ag a y.next).kind:Int)==1)=false:=by simp;omega
   have hv:V=(o,y):=by rw [←C.o,Fc r]
   subst hv;clear C r;go_wp2_with fail;refine (AS b g n d y a _ i.o c.o z).mono ?_;rintro e wk ⟨rfl,m⟩;have J:=i.o.O m (fun q=>q);have A:=c.o.O m (fun q=>q);have t:=Ac H m (fun _ _ q=>q);have G:=F.bI m;clear i c H F m;go_wp2_with fail;refine (AG b g n d 11 y a _ J A z).mono ?_;rintro e u ⟨rfl,p,l⟩;go_wp2_with fail;go_ret;refine ⟨_,rfl,?_,p,G.trans l⟩;exact Ac t l (fun j s=>by have:=(t.lt j s).1;omega)
theorem KL:Keyed Tryz.prog 9:=string_keyed Tryz.underlying9
theorem M8(w):(zeroValue 3).run Tryz.prog w=.ok (.int .i64 0) w:=by kernel_rfl
structure CS where
 aR:Nat
 c9:Nat
def BA(f p:Nat)(c:CS):CS:=if c.aR=0 then ⟨f,p⟩ else c
def Ci(b:Nat)(a:Value)(f:Int)(d e:Value)(c:CS)(w:World):Prop:=Ak b #[a,.int .i64 f,d,e,.int .i64 c.aR,.int .i64 c.c9] 162 w
def Ba(s:ByteArray):Lit:=.string s.data.toList
def A7(b n:Nat)(D:DataW Unit)(w:World):Prop:=w.ownsMap Tryz.prog 9 (plainElem Tryz.prog 3) b n D
theorem BK(b f p:Nat)(j:Value)(n:Int)(l m:Value)(c:CS)(w:World)(d:Ci b j n l m c w):
 Calls Tryz.prog 75 #[.pointer (some ⟨b,0,none⟩),.int .i64 f,.int .i64 p] w fun e o=>e=.returned (.tuple #[])∧Ci b j n l m (BA f p c) o∧Ab (fun k=>k=b) w o:=by
 have r:=Ar d 4;have s:=Ar d 5;have t:=fun i=>AE d i
 simp only [dM,dJ,dK] at r s;have u:=Ae d;have h:=Aa d;clear d;by_cases a:c.aR=0
 ·have g:BA f p c=⟨f,p⟩:=by simp [BA,a]
  rw [g];have q:((c.aR:Int)==0)=true:=by simp [a]
  clear g a;go_enter Tryz.func75,Tryz.ntmps75;go_wp2;go_end0;refine ⟨rfl,?_,?_⟩
  ·have:=(Ak.set (w:=w) h.o 4 (.int .i64 f)).set 5 (.int .i64 p);simpa [Ci] using this
  ·exact ((Ab.refl _ _).d8 4 _).d8 5 _
 ·have g:BA f p c=c:=by simp [BA,a]
  rw [g];have q:((c.aR:Int)==0)=false:=by simp [a]
  clear g a;go_enter Tryz.func75,Tryz.ntmps75;go_wp2;go_end0;exact ⟨rfl,h.o,Ab.refl _ _⟩
theorem Ik{s}(a:s.size≤4000):keyOf Tryz.prog 9 (.string s)=some (Ba s):=WideMaps.keyOf_string_mk Tryz.underlying9 (by unfold maxLen;omega)
theorem Ep{m n D w s}(h:A7 m n D w)(d:s.size≤4000):
 ∃z:Int,(Instr.lookup 123 (.map (some m)) (.string s) true).run Tryz.prog w=.ok (.tuple #[.int .i64 z,.bool (Maps.has D (Ba s))]) w∧D.atKey (Ba s) (.lit (.int .i64 0))=.lit (.int .i64 z)∧(Lit.int .i64 z).wf=true:=by
 obtain ⟨v,i,e,f⟩:=World.ownsMap.look_ok h KL Tryz.underlying123 (M8 w) (plainElem_int Tryz.underlying3 (a:=0) (by decide)) (Ik d);obtain ⟨c,rfl,b,g⟩:=plainElem_int_inv Tryz.underlying3 f;exact ⟨c,e,congrArg Prod.fst b,g⟩
theorem A7.O{m n D}{X:Nat→Prop}{w w'}(h:A7 m n D w)(d:Ab X w w')(e:¬X m):A7 m n D w':=by obtain ⟨c,b,a,r⟩:=h;exact ⟨c,b,by rw [d.block m (lt_of_block a) e];exact a,r⟩
theorem A7.ne{m n b D w}(h:A7 m n D w){c t d}(a:w.heap[b]? =some (.cells c t d)):m≠b:=by obtain ⟨g,f,e,r⟩:=h;rintro rfl;rw [e] at a;cases a
def B6(D:DataW Unit)(t:PT)(c:CS):CS:=if Maps.has D (Ba t.a9) then c else BA 6 t.c9 c
theorem D8(b g i h m n D c t w)(f:Ci b g i h (.map (some m)) c w)(l:A7 m n D w)(r:t.a9.size≤4000):
 Calls Tryz.prog 163 #[.pointer (some ⟨b,0,none⟩),Je t] w fun e p=>e=.returned (.tuple #[])∧Ci b g i h (.map (some m)) (B6 D t c) p∧Ab (fun k=>k=b) w p:=by
 have v:=Ar f 3;simp only [dM,dJ,dK] at v;have x:=Ae f;obtain ⟨z,o,_,_⟩:=Ep (w:=(w.alloc (.cells #[.string t.a9,.int .i64 t.c9] 128)).drew) (l.O (((Ab.refl (fun _=>False) w).alloc _).drew) (fun q=>q)) r;have j:=Aa f;clear f l;unfold Je;cases a:Maps.has D (Ba t.a9) with
 | true=>
   rw [a] at o;have d:B6 D t c=c:=by simp [B6,a]
   rw [d];clear d a;go_enter Tryz.func163,Tryz.ntmps163;go_wp2;go_region;go_wp2;go_end0;exact ⟨rfl,j.o.O (((Ab.refl (fun _=>False) w).alloc _).drew) (fun q=>q),((Ab.refl _ w).alloc _).drew⟩
 | false=>
   rw [a] at o;have d:B6 D t c=BA 6 t.c9 c:=by simp [B6,a]
   rw [d];clear d a;go_enter Tryz.func163,Tryz.ntmps163;go_wp2;go_region;go_wp2_with (go_at_call 75;refine (BK b 6 t.c9 g i h (.map (some m)) c _ (j.o.O (((Ab.refl (fun _=>False) w).alloc _).drew) (fun q=>q))).mono ?_);rintro e y ⟨rfl,u,s⟩;go_wp2;go_end0;exact ⟨rfl,u,(((Ab.refl _ w).alloc _).drew).trans s⟩
theorem I7(b g i h m n D c t w)(f:Ci b g i (.map (some m)) h c w)(l:A7 m n D w)(r:t.a9.size≤4000):
 Calls Tryz.prog 164 #[.pointer (some ⟨b,0,none⟩),Je t] w fun e p=>e=.returned (.tuple #[])∧Ci b g i (.map (some m)) h (B6 D t c) p∧Ab (fun k=>k=b) w p:=by
 have v:=Ar f 2;simp only [dM,dJ,dK] at v;have x:=Ae f;obtain ⟨z,o,_,_⟩:=Ep (w:=(w.alloc (.cells #[.string t.a9,.int .i64 t.c9] 128)).drew) (l.O (((Ab.refl (fun _=>False) w).alloc _).drew) (fun q=>q)) r;have j:=Aa f;clear f l;unfold Je;cases a:Maps.has D (Ba t.a9) with
 | true=>
   rw [a] at o;have d:B6 D t c=c:=by simp [B6,a]
   rw [d];clear d a;go_enter Tryz.func164,Tryz.ntmps164;go_wp2;go_region;go_wp2;go_end0;exact ⟨rfl,j.o.O (((Ab.refl (fun _=>False) w).alloc _).drew) (fun q=>q),((Ab.refl _ w).alloc _).drew⟩
 | false=>
   rw [a] at o;have d:B6 D t c=BA 6 t.c9 c:=by simp [B6,a]
   rw [d];clear d a;go_enter Tryz.func164,Tryz.ntmps164;go_wp2;go_region;go_wp2_with (go_at_call 75;refine (BK b 6 t.c9 g i (.map (some m)) h c _ (j.o.O (((Ab.refl (fun _=>False) w).alloc _).drew) (fun q=>q))).mono ?_);rintro e y ⟨rfl,u,s⟩;go_wp2;go_end0;exact ⟨rfl,u,(((Ab.refl _ w).alloc _).drew).trans s⟩
theorem Eg{m n p:Nat}{D:DataW Unit}{w:World}{s:ByteArray}(h:A7 m n D w)(e:s.size≤4000)(j:p≤4000)(i:n≤4000):
 ∃a,(Instr.mapUpdate 123 (.map (some m)) (.string s) (.int .i64 p)).run Tryz.prog w=.ok () a∧A7 m (n+1) (D.put (Ba s) (.lit (.int .i64 p))) a∧Ab (fun k=>k=m) w a:=by
 have g:(Lit.int .i64 (p:Int)).wf=true:=WalkArith.wf_i64 (by omega);obtain ⟨a,f,b,c⟩:=World.ownsMap.store h KL Tryz.underlying123 (by unfold maxLen;omega) (Ik e) (plainElem_int Tryz.underlying3 g);exact ⟨a,f,b,(Ab.refl _ w).grown c.grown (fun k d=>.inl (by cases d;rfl))⟩
def El(D:DataW Unit)(t:PT)(c:CS):CS:=
 let a:=if 12≤Maps.size D then BA 4 t.c9 c else c
 if Maps.has D (Ba t.a9) then BA 5 t.c9 a else a
def GJ(D:DataW Unit)(t:PT):DataW Unit:=D.put (Ba t.a9) (.lit (.int .i64 t.c9))
theorem Js(b M R P m n D c t w)(X:Ci b M R P (.map (some m)) c w)(hm:A7 m n D w)(J:t.a9.size≤4000)(U:t.c9≤4000)(T:n≤4000):
 Calls Tryz.prog 115 #[.pointer (some ⟨b,0,none⟩),Je t] w fun e w'=>e=.returned (.tuple #[])∧Ci b M R P (.map (some m)) (El D t c) w'∧A7 m (n+1) (GJ D t) w'∧Ab (fun k=>k=b∨k=m) w w':=by
 have r3:=Ar X 3;simp only [dM,dJ,dK] at r3;have lr:=Ae X;have HR:=Aa X;have HM:=Aa hm;clear X hm;unfold Je;have S:=Aa (HR.o.O ((Ab.refl (fun _=>False) w).alloc (.cells #[.string t.a9,.int .i64 t.c9] 128)) (fun q=>q));have K:=Aa (HM.o.O ((Ab.refl (fun _=>False) w).alloc (.cells #[.string t.a9,.int .i64 t.c9] 128)) (fun q=>q));have N0:=Aa (Ak.new w #[.string t.a9,.int .i64 t.c9] 128);have O0:=Aa ((Ab.refl (fun k=>k=b) w).alloc (.cells #[.string t.a9,.int .i64 t.c9] 128));have a1:=fun ty=>World.ownsMap.len K.o Tryz.underlying123 ty
 by_cases Y:12≤Maps.size D
 ·have a2:(12:Int)≤(Maps.size D:Int):=by omega
  obtain ⟨i,I⟩:∃i,BA 4 t.c9 c=i:=⟨_,rfl⟩;have N:El D t c=if Maps.has D (Ba t.a9) then BA 5 t.c9 i else i:=by simp [El,Y,I]
  rw [N];have C1:=Aa I;clear N I Y;go_enter Tryz.func115,Tryz.ntmps115;go_wp2_with (go_at_call 75;refine (BK b 4 t.c9 M R P (.map (some m)) c _ S.o).mono ?_);rw [C1.o];rintro e W ⟨rfl,kw,Z⟩;have j:=Aa kw;have l:=Aa (A7.O K.o Z (A7.ne K.o S.o));have o:=Aa (Ak.O N0.o Z (by omega));have L:=Aa (O0.o.trans Z);clear kw Z a1 r3;go_wp2;have E:=Ar j.o 3;have B:=Ar o.o 0;have C:=Ar o.o 1;simp only [dM,dJ,dK] at E B C;obtain ⟨z,p,_,_⟩:=Ep (w:=W.drew) (A7.O l.o ((Ab.refl (fun _=>False) W).drew) (fun q=>q)) J;cases d:Maps.has D (Ba t.a9) with
  | true=> rw [d] at p;have s:=Aa d;clear d;go_region;go_wp2_with (go_at_call 75;refine (BK b 5 t.c9 M R P (.map (some m)) i _ (Ak.O j.o ((Ab.refl (fun _=>False) W).drew) (fun q=>q))).mono ?_);rintro e V ⟨rfl,O,Q⟩;have r:Ab (fun k=>k=b) W V:=((Ab.refl _ W).drew).trans Q;have a:=Aa O;have f:=Aa (A7.O l.o r (A7.ne l.o j.o));have g:=Aa (Ak.O o.o r (by omega));have u:=Aa (L.o.trans r);clear O Q r p E B C;obtain ⟨v,a0,x,y⟩:=Eg (w:=V.drew) (A7.O f.o ((Ab.refl (fun _=>False) V).drew) (fun q=>q)) J U T;have H:=Ar a.o 3;have F:=Ar g.o 0;have G:=Ar g.o 1;simp only [dM,dJ,dK] at H F G;go_wp2;go_region;go_end0;have h:Ab (fun k=>k=m) V v:=((Ab.refl _ V).drew).trans y;have A:=f.o.ne a.o;rw [if_pos s.o];exact ⟨rfl,Ak.O a.o h (fun q=>A q.symm),x,(u.o.mono (fun _ _ q=>.inl q)).trans (h.mono (fun _ _ q=>.inr q))⟩
  | false=> rw [d] at p;have s:=Aa d;clear d;go_region;have a:=Aa (Ak.O j.o ((Ab.refl (fun _=>False) W).drew) (fun q=>q));have f:=Aa (A7.O l.o ((Ab.refl (fun _=>False) W).drew) (fun q=>q));have g:=Aa (Ak.O o.o ((Ab.refl (fun _=>False) W).drew) (fun q=>q));have u:=Aa (L.o.drew);generalize hV:W.drew=V at*;clear p E B C hV;obtain ⟨v,a0,x,y⟩:=Eg (w:=V.drew) (A7.O f.o ((Ab.refl (fun _=>False) V).drew) (fun q=>q)) J U T;have H:=Ar a.o 3;have F:=Ar g.o 0;have G:=Ar g.o 1;simp only [dM,dJ,dK] at H F G;go_wp2;go_region;go_end0;have h:Ab (fun k=>k=m) V v:=((Ab.refl _ V).drew).trans y;have A:=f.o.ne a.o;rw [if_neg (by rw [s.o];decide)];exact ⟨rfl,Ak.O a.o h (fun q=>A q.symm),x,(u.o.mono (fun _ _ q=>.inl q)).trans (h.mono (fun _ _ q=>.inr q))⟩
 ·have a2:¬(12:Int)≤(Maps.size D:Int):=by omega
  obtain ⟨i,I⟩:∃i,c=i:=⟨_,rfl⟩;have N:El D t c=if Maps.has D (Ba t.a9) then BA 5 t.c9 i else i:=by simp [El,Y,I]
  rw [N];clear N Y;subst I;go_enter Tryz.func115,Tryz.ntmps115;go_wp2;generalize w.alloc (.cells #[.string t.a9,.int .i64 t.c9] 128)=W at*;have j:=S;have l:=K;have o:=N0;have L:=O0;clear a1 r3 S K N0 O0;have E:=Ar j.o 3;have B:=Ar o.o 0;have C:=Ar o.o 1;simp only [dM,dJ,dK] at E B C;obtain ⟨z,p,_,_⟩:=Ep (w:=W.drew) (A7.O l.o ((Ab.refl (fun _=>False) W).drew) (fun q=>q)) J;cases d:Maps.has D (Ba t.a9) with
  | true=> rw [d] at p;have s:=Aa d;clear d;go_region;go_wp2_with (go_at_call 75;refine (BK b 5 t.c9 M R P (.map (some m)) c _ (Ak.O j.o ((Ab.refl (fun _=>False) W).drew) (fun q=>q))).mono ?_);rintro e V ⟨rfl,O,Q⟩;have r:Ab (fun k=>k=b) W V:=((Ab.refl _ W).drew).trans Q;have a:=Aa O;have f:=Aa (A7.O l.o r (A7.ne l.o j.o));have g:=Aa (Ak.O o.o r (by omega));have u:=Aa (L.o.trans r);clear O Q r p E B C;obtain ⟨v,a0,x,y⟩:=Eg (w:=V.drew) (A7.O f.o ((Ab.refl (fun _=>False) V).drew) (fun q=>q)) J U T;have H:=Ar a.o 3;have F:=Ar g.o 0;have G:=Ar g.o 1;simp only [dM,dJ,dK] at H F G;go_wp2;go_region;go_end0;have h:Ab (fun k=>k=m) V v:=((Ab.refl _ V).drew).trans y;have A:=f.o.ne a.o;rw [if_pos s.o];exact ⟨rfl,Ak.O a.o h (fun q=>A q.symm),x,(u.o.mono (fun _ _ q=>.inl q)).trans (h.mono (fun _ _ q=>.inr q))⟩
  | false=> rw [d] at p;have s:=Aa d;clear d;go_region;have a:=Aa (Ak.O j.o ((Ab.refl (fun _=>False) W).drew) (fun q=>q));have f:=Aa (A7.O l.o ((Ab.refl (fun _=>False) W).drew) (fun q=>q));have g:=Aa (Ak.O o.o ((Ab.refl (fun _=>False) W).drew) (fun q=>q));have u:=Aa (L.o.drew);generalize hV:W.drew=V at*;clear p E B C hV;obtain ⟨v,a0,x,y⟩:=Eg (w:=V.drew) (A7.O f.o ((Ab.refl (fun _=>False) V).drew) (fun q=>q)) J U T;have H:=Ar a.o 3;have F:=Ar g.o 0;have G:=Ar g.o 1;simp only [dM,dJ,dK] at H F G;go_wp2;go_region;go_end0;have h:Ab (fun k=>k=m) V v:=((Ab.refl _ V).drew).trans y;have A:=f.o.ne a.o;rw [if_neg (by rw [s.o];decide)];exact ⟨rfl,Ak.O a.o h (fun q=>A q.symm),x,(u.o.mono (fun _ _ q=>.inl q)).trans (h.mono (fun _ _ q=>.inr q))⟩
def EJ(D:DataW Unit)(l:List PT)(c:CS):CS:=l.foldl (fun c t=>B6 D t c) c
theorem N6(D:DataW Unit)(l:List PT)(k:Nat)(h:k<l.length)(c:CS):EJ D (l.drop k) c=EJ D (l.drop (k+1)) (B6 D l[k] c):=by rw [List.drop_eq_getElem_cons h];rfl
theorem EC{l i}(h:i<l.length):(Bt l)[i*2]? =some (.string l[i].a9)∧(Bt l)[i*2+1]? =some (.int .i64 l[i].c9):=by
 induction l generalizing i with
 | nil=>simp at h
 | cons t l a=>
   cases i with
   | zero=>simp [Bt,EB]
   | succ i=>
     have:=a (i:=i) (by simpa using h);simp only [Bt,List.flatMap_cons,List.getElem_cons_succ] at this⊢;have e:∀j,(EB t++List.flatMap EB l)[(i+1)*2+j]? =(List.flatMap EB l)[i*2+j]? :=by intro j;rw [List.getElem?_append_right (by simp [EB];omega)];congr 1;simp [EB];omega
     exact ⟨by rw [show (i+1)*2=(i+1)*2+0 from rfl,e];exact this.1,by rw [e];exact this.2⟩
theorem EP(b j r p m n D c l z w)(h:Ci b j r p (.map (some m)) c w)(u:A7 m n D w)(f:w.ownsRow 0 128 2 z l.length (Bt l))(K:∀t,t∈l→t.a9.size≤4000)(T:l.length≤4000):
 Calls Tryz.prog 166 #[.pointer (some ⟨b,0,none⟩),z] w fun e F=>e=.returned (.tuple #[])∧Ci b j r p (.map (some m)) (EJ D l c) F∧Ab (fun k=>k=b) w F:=by
 obtain ⟨Z,vl,vc,rfl⟩:=Ad f;have S:=Aq f;subst S;have Y:=Ae h;have N:=Aj f h (by decide);have M:=u.ne h;generalize A:EJ D l c=V;have x:dN (EJ D (l.drop 0) c=V):=A;have v:=Aa h;have G:=Aa u;have y:=Aa f;clear A h u f;go_enter Tryz.func166,Tryz.ntmps166;go_wp2;go_loopw [8] (fun i wr=>∃(k:Nat) (a:CS),k≤l.length∧i=.int .i64 k∧dN (Ci b j r p (.map (some m)) a wr)∧dN (Ab (fun k=>k=b) w wr)∧dN (EJ D (l.drop k) a=V)) (fun i _=>l.length-(intOf i).toNat)
 case atStart=>exact ⟨0,c,by omega,rfl,v,Aa (Ab.refl _ _),x⟩
 case round=>
  obtain ⟨k,a,U,rfl,C,d,E⟩:=hrel;clear x v;by_cases B:k<l.length
  ·obtain ⟨g,rfl⟩:=AA y.o (by omega);have o:=Ac y.o d.o N;have J:=Aa (A7.O G.o d.o M);have s:=EC B;have H:=o.cellAt (k*2) (by omega);have I:=o.cellAt (k*2+1) (by omega);rw [s.1] at H;rw [s.2] at I;have X:=(o.lt g rfl).2;have Q:=Aa (N6 D l k B a);have L:=K l[k] (rQ _);generalize l[k]=t at*;have W:=d.o.size;clear s o;go_wp2_with (go_at_call 163;refine (D8 b j r p m n D a t _ (Ak.O C.o ((Ab.refl (fun _=>False) _).alloc _) (fun q=>q)) (A7.O J.o ((Ab.refl (fun _=>False) _).alloc _) (fun q=>q)) L).mono ?_;rintro e w2 ⟨rfl,P,O⟩);go_round
   case rel=>exact ⟨k+1,_,by omega,by go_num,Aa P,Aa (d.o.trans (((Ab.refl _ _).alloc _).trans O)),Aa (Q.o.symm.trans E.o)⟩
   case measure=>simp [intOf];omega
  ·have e:k=l.length:=by omega
   subst e;have R:a=V:=by have:=E.o;simpa [EJ] using this
   subst R;go_wp2;go_end0;exact ⟨rfl,C.o,d.o⟩
structure VS where
 kind:Nat
 tg:PT
 sr:PT
 field:Nat
 args:List PT
def FI(s:VS)(a:Value):Array Value:=#[.int .i64 s.kind,.string s.tg.a9,.int .i64 s.tg.c9,.string s.sr.a9,.int .i64 s.sr.c9,.int .i64 s.field,a,.slice none 0 0]
abbrev ZX:Array Value:=#[.int .i64 0,.string {data:=#[]},.int .i64 0,.string {data:=#[]},.int .i64 0,.int .i64 0,.slice none 0 0,.slice none 0 0]
structure JX(b g n cap:Nat)(toks:List PT)(x:PS)(w0 w:World):Prop where
 pa:AR b g n cap x w
 pt:AZ g n cap toks w
 l7:Ak w0.heap.size ZX 237 w
 O:Ab (fun k=>k=b) w0 w
 bl:b<w0.heap.size
theorem JX.start{b g n a d x w}(c:AR b g n a x w)(e:AZ g n a d w):JX b g n a d x w (w.alloc (.cells ZX 237)):=
 ⟨Ak.alloc c _,e.O ((Ab.refl (fun _=>False) _).alloc _) (fun q=>q),Ak.new _ _ _,(Ab.refl _ _).alloc _,Ae c⟩
theorem JX.call{b g n a e x i f w d}(h:JX b g n a e x f w)(j:AR b g n a i d)(c:Ab (fun k=>k=b) w d):JX b g n a e i f d:=
 ⟨j,h.pt.O c (h.pt.ne h.pa (by decide)),h.l7.O c (by have:=h.bl;omega),h.O.trans c,h.bl⟩
theorem JX.quiet{b g n c d x f w e}(h:JX b g n c d x f w)(a:Ab (fun _=>False) w e):JX b g n c d x f e:=
 ⟨Ak.O h.pa a (fun q=>q),h.pt.O a (fun q=>q),h.l7.O a (fun q=>q),h.O.bI a,h.bl⟩
def Gg(b g n d:Nat)(w:World)(r:VS×PS)(e:Ending)(a:World):Prop:=
 ∃c,e=.returned (.agg (FI r.1 c))∧a.ownsRow w.heap.size 128 2 c r.1.args.length (Bt r.1.args)∧AR b g n d r.2 a∧Ab (fun k=>k=b) w a
def GI(a:List PT)(n:Nat)(x:PS):VS×PS:=
 let b:=Af a n 17 (Af a n 10 x)
 let c:=Af a n 11 (Af a n 1 b)
 (⟨8,Bj,Ax a 1 b,0,(A6 a n c).1⟩,(A6 a n c).2)
theorem JO(b g n i o d w)(a:AR b g n i o w)(ht:AZ g n i d w)(V:o.next<n)(j:(Ag d (n-1)).kind=0):
 Calls Tryz.prog 188 #[.pointer (some ⟨b,0,none⟩)] w fun e w'=>Gg b g n i w (GI d n o) e w':=by
 obtain ⟨P,G⟩:∃y,Af d n 10 o=y:=⟨_,rfl⟩;obtain ⟨K,H⟩:∃y,Af d n 17 P=y:=⟨_,rfl⟩;obtain ⟨Q,I⟩:∃y,Af d n 1 K=y:=⟨_,rfl⟩;obtain ⟨m,O⟩:∃y,Ax d 1 K=y:=⟨_,rfl⟩;obtain ⟨R,J⟩:∃y,Af d n 11 Q=y:=⟨_,rfl⟩;obtain ⟨l5,x5,M⟩:∃l y,A6 d n R=(l,y):=⟨_,_,rfl⟩;have W:P.next<n:=by rw [←G];exact AO j V
 have Y:K.next<n:=by rw [←H];exact AO j W
 have Z:Q.next<n:=by rw [←I];exact AO j Y
 have a0:R.next<n:=by rw [←J];exact AO j Z
 have hv:GI d n o=(⟨8,Bj,m,0,l5⟩,x5):=by simp only [GI,G,H,I,O,J,M]
 rw [hv];have C:=Aa (JX.start a ht);have X1:=Aa G;have X2:=Aa H;have X3:=Aa I;have K3:=Aa O;have X4:=Aa J;have X5:=Aa M;have HZ:=Aa j;clear G H I O J M hv j a ht;go_enter Tryz.func188,Tryz.ntmps188;go_wp2_with fail;refine (AG b g n i 10 o d _ C.o.pa C.o.pt V).mono ?_;rw [X1.o];rintro e w1 ⟨rfl,a,c⟩;have D:=Aa (C.o.call a c);clear a c C;go_wp2_with fail;refine (AG b g n i 17 P d _ D.o.pa D.o.pt W).mono ?_;rw [X2.o];rintro e w2 ⟨rfl,a,c⟩;have E:=Aa (D.o.call a c);clear a c D;go_wp2_with fail;refine (B7 b g n i K d _ E.o.pa E.o.pt Y).mono ?_;rw [X3.o,K3.o];rintro e w3 ⟨rfl,a,c⟩;have L:=Aa (E.o.call a c);clear a c E;unfold Je;have a3:=Ae L.o.pa;have S:=Aa (Ak.new w3 #[.string m.a9,.int .i64 m.c9] 128);have F:=Aa (L.o.quiet ((Ab.refl _ _).alloc (.cells #[.string m.a9,.int .i64 m.c9] 128)));clear L;go_wp2_with fail;refine (AG b g n i 11 Q d _ F.o.pa F.o.pt Z).mono ?_;rw [X4.o];rintro e w4 ⟨rfl,a,c⟩;have f:=Aa (F.o.call a c);have B:=Aa (S.o.O c (by omega));clear a c F S;have n0:=B.o.cell 0;have n1:=B.o.cell 1;simp only [dM,dJ,dK] at n0 n1;have l4:=Ae B.o;have p:=f.o.l7.cell 0;have r:=f.o.l7.cell 1;have s:=f.o.l7.cell 2;have t:=f.o.l7.cell 3;have u:=f.o.l7.cell 4;have x:=f.o.l7.cell 5;have z:=f.o.l7.cell 6;have A:=f.o.l7.cell 7;have qf:=f.o.l7.frozen;have ql:=Ae f.o.l7;simp only [dM,dJ,dK] at p r s t u x z A;go_wp2_with fail;go_region_with (go_at_call 140;refine (Jd b g n i R d _ (f.o.quiet (by repeat (first | exact Ab.refl _ _ | refine Ab.drew ?_ | refine Ab.drewN ?_ _ | refine Ab.alloc ?_ _))).pa (f.o.quiet (by repeat (first | exact Ab.refl _ _ | refine Ab.drew ?_ | refine Ab.drewN ?_ _ | refine Ab.alloc ?_ _))).pt a0 HZ.o).mono ?_;rw [X5.o];rintro e w5 ⟨v5,rfl,N,a,c⟩;obtain ⟨va,vl,vc,rfl⟩:=Ad N;have h:=Aa ((f.o.quiet (by repeat (first | exact Ab.refl _ _ | refine Ab.drew ?_ | refine Ab.drewN ?_ _ | refine Ab.alloc ?_ _))).call a c);have T:=Aa ((Ak.O (X:=fun _=>False) B.o (by repeat (first | exact Ab.refl _ _ | refine Ab.drew ?_ | refine Ab.drewN ?_ _ | refine Ab.alloc ?_ _)) (fun q=>q)).O c (by omega));have U:=Aa (Ao N (B':=w.heap.size) (by have:=f.o.O.size;simp;omega));have a1:=T.o.cell 0;have a2:=T.o.cell 1;simp only [dM,dJ,dK] at a1 a2;clear a c N p r s t u x z A qf ql;have p:=h.o.l7.cell 0;have r:=h.o.l7.cell 1;have s:=h.o.l7.cell 2;have t:=h.o.l7.cell 3;have u:=h.o.l7.cell 4;have x:=h.o.l7.cell 5;have z:=h.o.l7.cell 6;have A:=h.o.l7.cell 7;have qf:=h.o.l7.frozen;have ql:=Ae h.o.l7;simp only [dM,dJ,dK] at p r s t u x z A);all_goals
  go_wp2;refine bodyPost_ret (v:=.agg (FI ⟨8,Bj,m,0,l5⟩ (.slice va vl vc))) (by simp [results,Tryz.results188,go_sem,FI,Bj,p,r,s,t,u,x,z,A];try rfl) rfl ⟨(.slice va vl vc),rfl,?_,?_,?_⟩
  ·refine Ac (X:=fun k=>k=w.heap.size) U.o ?_ (Aj U.o h.o.l7 (by decide));iterate 8 refine Ab.d8 ?_ _ _
   exact Ab.refl _ _
  ·refine Ak.O (X:=fun k=>k=w.heap.size) h.o.pa ?_ (by have:=h.o.bl;omega);iterate 8 refine Ab.d8 ?_ _ _
   exact Ab.refl _ _
  ·iterate 8 refine Ab.u9 ?_ _ _ (rN _)
   exact h.o.O
def GE(t:PT):Nat:=if t.a9.toList=[49] then 1 else if t.a9.toList=[50] then 2 else if t.a9.toList=[51] then 3 else 0
def Cf(d:Nat)(h:World):Prop:=∀(b g n a:Nat) (x:PS) (c:List PT) (w:World),d≤b→Below d h w→AR b g n a x w→AZ g n a c w→x.next<n→
 Calls Tryz.prog 189 #[.pointer (some ⟨b,0,none⟩)] w fun e f=>e=.returned (.int .i64 (GE (Ax c 2 x)))∧AR b g n a (Af c n 2 x) f∧Ab (fun k=>k=b) w f
theorem Ab.keeps{a b d w c}(h:Below a d w)(f:Ab (fun k=>k=b) w c)(e:a≤w.heap.size)(g:a≤b):Below a d c:=h.trans (f.bL e (fun k i=>by omega))
def DM(a:List PT)(n:Nat)(x:PS):VS×PS:=
 let b:=Af a n 16 x
 let c:=Af a n 1 b
 if (Ag a c.next).kind=19 then
  let d:=Af a n 19 c
  (⟨3,Bj,Ax a 1 b,GE (Ax a 2 d),[]⟩,Af a n 2 d)
 else (⟨2,Bj,Ax a 1 b,0,[]⟩,c)
theorem Nh(O a0)(hF:Cf O a0)(b g n l D d w)(hb:O≤b)(V:Below O a0 w)(hB:O≤w.heap.size)(f:AR b g n l D w)(Z:AZ g n l d w)(W:D.next<n)(L:(Ag d (n-1)).kind=0):
 Calls Tryz.prog 187 #[.pointer (some ⟨b,0,none⟩)] w fun e w'=>Gg b g n l w (DM d n D) e w':=by
 obtain ⟨N,E⟩:∃y,Af d n 16 D=y:=⟨_,rfl⟩;obtain ⟨p,F⟩:∃y,Af d n 1 N=y:=⟨_,rfl⟩;obtain ⟨j,M⟩:∃y,Ax d 1 N=y:=⟨_,rfl⟩;obtain ⟨U,I⟩:∃y,Af d n 19 p=y:=⟨_,rfl⟩;obtain ⟨x4,Q⟩:∃y,Af d n 2 U=y:=⟨_,rfl⟩;obtain ⟨d4,T⟩:∃y,GE (Ax d 2 U)=y:=⟨_,rfl⟩;have Y:N.next<n:=by rw [←E];exact AO L W
 have S:p.next<n:=by rw [←F];exact AO L Y
 have a1:U.next<n:=by rw [←I];exact AO L S
 have r:=Aa (JX.start f Z);have HG:=Aa V;have HF:=Aa hF;have X1:=Aa E;have X2:=Aa F;have K2:=Aa M;have X3:=Aa I;have X4:=Aa Q;have K4:=Aa T;by_cases J:(Ag d p.next).kind=19
 ·have K:DM d n D=(⟨3,Bj,j,d4,[]⟩,x4):=by simp only [DM,E,F,M,I,T,Q,if_pos J]
  rw [K];have a2:(((Ag d p.next).kind:Int) !=19)=false:=by simp [J]
  clear E F M I Q T K L f Z J V hF;go_enter Tryz.func187,Tryz.ntmps187;go_wp2_with fail;refine (AG b g n l 16 D d _ r.o.pa r.o.pt W).mono ?_;rw [X1.o];rintro e w1 ⟨rfl,f,c⟩;have m:=Aa (r.o.call f c);clear f c r;go_wp2_with fail;refine (B7 b g n l N d _ m.o.pa m.o.pt Y).mono ?_;rw [X2.o,K2.o];rintro e w2 ⟨rfl,f,c⟩;have a:=Aa (m.o.call f c);clear f c m;unfold Je;have a3:=Ae a.o.pa;have G:=Aa (Ak.new w2 #[.string j.a9,.int .i64 j.c9] 128);have o:=Aa (a.o.quiet ((Ab.refl _ _).alloc (.cells #[.string j.a9,.int .i64 j.c9] 128)));clear a;go_wp2_with fail;refine (AS b g n l p d _ o.o.pa o.o.pt S).mono ?_;rintro e wk ⟨rfl,c⟩;have a:=Aa (o.o.quiet c);have H:=Aa (G.o.O c (fun q=>q));clear c o G;go_wp2_with fail;refine (AG b g n l 19 p d _ a.o.pa a.o.pt S).mono ?_;rw [X3.o];rintro e w3 ⟨rfl,f,c⟩;have h:=Aa (a.o.call f c);have P:=Aa (H.o.O c (by omega));clear f c a H;have n0:=P.o.cell 0;have n1:=P.o.cell 1;simp only [dM,dJ,dK] at n0 n1;have l3:=Ae P.o;have a6:=h.o.O.size;have s:=h.o.l7.cell 0;have t:=h.o.l7.cell 1;have u:=h.o.l7.cell 2;have x:=h.o.l7.cell 3;have z:=h.o.l7.cell 4;have A:=h.o.l7.cell 5;have B:=h.o.l7.cell 6;have C:=h.o.l7.cell 7;have qf:=h.o.l7.frozen;have ql:=Ae h.o.l7;simp only [dM,dJ,dK] at s t u x z A B C;go_wp2_with fail;go_region_with (go_at_call 189;refine (HF.o b g n l U d _ hb (Ab.keeps HG.o (h.o.quiet (by repeat (first | exact Ab.refl _ _ | refine Ab.drew ?_ | refine Ab.drewN ?_ _ | refine Ab.alloc ?_ _))).O hB hb) (h.o.quiet (by repeat (first | exact Ab.refl _ _ | refine Ab.drew ?_ | refine Ab.drewN ?_ _ | refine Ab.alloc ?_ _))).pa (h.o.quiet (by repeat (first | exact Ab.refl _ _ | refine Ab.drew ?_ | refine Ab.drewN ?_ _ | refine Ab.alloc ?_ _))).pt a1).mono ?_;rw [X4.o,K4.o];rintro e w5 ⟨rfl,f,c⟩;have i:=Aa ((h.o.quiet (by repeat (first | exact Ab.refl _ _ | refine Ab.drew ?_ | refine Ab.drewN ?_ _ | refine Ab.alloc ?_ _))).call f c);have B5:=Aa ((Ak.O (X:=fun _=>False) P.o (by repeat (first | exact Ab.refl _ _ | refine Ab.drew ?_ | refine Ab.drewN ?_ _ | refine Ab.alloc ?_ _)) (fun q=>q)).O c (by omega));have a4:=B5.o.cell 0;have a5:=B5.o.cell 1;simp only [dM,dJ,dK] at a4 a5;clear f c s t u x z A B C qf ql;have s:=i.o.l7.cell 0;have t:=i.o.l7.cell 1;have u:=i.o.l7.cell 2;have x:=i.o.l7.cell 3;have z:=i.o.l7.cell 4;have A:=i.o.l7.cell 5;have B:=i.o.l7.cell 6;have C:=i.o.l7.cell 7;have qf:=i.o.l7.frozen;have ql:=Ae i.o.l7;simp only [dM,dJ,dK] at s t u x z A B C);all_goals
   go_wp2;have R:w5.ownsRow w.heap.size 128 2 (.slice none 0 0) 0 []:=World.ownsRow_nil _ _ _ _;refine bodyPost_ret (v:=.agg (FI ⟨3,Bj,j,d4,[]⟩ (.slice none 0 0))) (by simp [results,Tryz.results187,go_sem,FI,Bj,s,t,u,x,z,A,B,C];try rfl) rfl ⟨(.slice none 0 0),rfl,?_,?_,?_⟩
   ·refine Ac (X:=fun k=>k=w.heap.size) R ?_ (Aj R i.o.l7 (by decide));iterate 8 refine Ab.d8 ?_ _ _
    exact Ab.refl _ _
   ·refine Ak.O (X:=fun k=>k=w.heap.size) i.o.pa ?_ (by have:=i.o.bl;omega);iterate 8 refine Ab.d8 ?_ _ _
    exact Ab.refl _ _
   ·iterate 8 refine Ab.u9 ?_ _ _ (rN _)
    exact i.o.O
 ·have K:DM d n D=(⟨2,Bj,j,0,[]⟩,p):=by simp only [DM,E,F,M,if_neg J]
  rw [K];have a2:(((Ag d p.next).kind:Int) !=19)=true:=by simp;omega
  clear E F M I Q T K L f Z J V hF;go_enter Tryz.func187,Tryz.ntmps187;go_wp2_with fail;refine (AG b g n l 16 D d _ r.o.pa r.o.pt W).mono ?_;rw [X1.o];rintro e w1 ⟨rfl,f,c⟩;have m:=Aa (r.o.call f c);clear f c r;go_wp2_with fail;refine (B7 b g n l N d _ m.o.pa m.o.pt Y).mono ?_;rw [X2.o,K2.o];rintro e w2 ⟨rfl,f,c⟩;have a:=Aa (m.o.call f c);clear f c m;unfold Je;have a3:=Ae a.o.pa;have G:=Aa (Ak.new w2 #[.string j.a9,.int .i64 j.c9] 128);have o:=Aa (a.o.quiet ((Ab.refl _ _).alloc (.cells #[.string j.a9,.int .i64 j.c9] 128)));clear a;go_wp2_with fail;refine (AS b g n l p d _ o.o.pa o.o.pt S).mono ?_;rintro e wk ⟨rfl,c⟩;have a:=Aa (o.o.quiet c);have H:=Aa (G.o.O c (fun q=>q));clear c o G;have n0:=H.o.cell 0;have n1:=H.o.cell 1;simp only [dM,dJ,dK] at n0 n1;have s:=a.o.l7.cell 0;have t:=a.o.l7.cell 1;have u:=a.o.l7.cell 2;have x:=a.o.l7.cell 3;have z:=a.o.l7.cell 4;have A:=a.o.l7.cell 5;have B:=a.o.l7.cell 6;have C:=a.o.l7.cell 7;have qf:=a.o.l7.frozen;have ql:=Ae a.o.l7;simp only [dM,dJ,dK] at s t u x z A B C;go_wp2;have R:wk.ownsRow w.heap.size 128 2 (.slice none 0 0) 0 []:=World.ownsRow_nil _ _ _ _;refine bodyPost_ret (v:=.agg (FI ⟨2,Bj,j,0,[]⟩ (.slice none 0 0))) (by simp [results,Tryz.results187,go_sem,FI,Bj,s,t,u,x,z,A,B,C];try rfl) rfl ⟨(.slice none 0 0),rfl,?_,?_,?_⟩
  ·refine Ac (X:=fun k=>k=w.heap.size) R ?_ (Aj R a.o.l7 (by decide));iterate 8 refine Ab.d8 ?_ _ _
   exact Ab.refl _ _
  ·refine Ak.O (X:=fun k=>k=w.heap.size) a.o.pa ?_ (by have:=a.o.bl;omega);iterate 8 refine Ab.d8 ?_ _ _
   exact Ab.refl _ _
  ·iterate 8 refine Ab.u9 ?_ _ _ (rN _)
   exact a.o.O
def Bw(a:List PT)(n:Nat)(x:PS):VS×PS:=
 if (Ag a x.next).kind=5 then (⟨1,Bj,Bj,0,[]⟩,Af a n 5 x)
 else if (Ag a x.next).kind=16 then DM a n x
 else if (Ag a x.next).kind=17 then (⟨5,Bj,Ax a 1 (Af a n 17 x),0,[]⟩,Af a n 1 (Af a n 17 x))
 else if (Ag a x.next).kind=18 then (⟨4,Bj,Ax a 1 (Af a n 18 x),0,[]⟩,Af a n 1 (Af a n 18 x))
 else if (Ag a x.next).kind=10 then GI a n x
 else if (Ag a (Af a n 1 x).next).kind=10 then (⟨7,Bj,Ax a 1 x,0,(A6 a n (Af a n 1 x)).1⟩,(A6 a n (Af a n 1 x)).2)
 else (⟨6,Bj,Ax a 1 x,0,[]⟩,Af a n 1 x)
theorem T6(b g n h d f w)(j:AR b g n h d w)(q:AZ g n h f w)(p:d.next<n)(m:(Ag f d.next).kind=5):
 Calls Tryz.prog 185 #[.pointer (some ⟨b,0,none⟩)] w fun e F=>Gg b g n h w (Bw f n d) e F:=by
 obtain ⟨H,l⟩:∃y,Af f n 5 d=y:=⟨_,rfl⟩;have r:Bw f n d=(⟨1,Bj,Bj,0,[]⟩,H):=by simp only [Bw,if_pos m,l]
 rw [r];have c:=Aa (JX.start j q);have D:=Aa m;have E:=Aa l;clear l r j q m;go_enter Tryz.func185,Tryz.ntmps185;go_wp2_with fail;refine (AS b g n h d f _ c.o.pa c.o.pt p).mono ?_;rw [D.o];rintro e K ⟨rfl,i⟩;have o:=Aa (c.o.quiet i);clear i c;have c:=o;clear o;go_wp2_with fail;refine (AG b g n h 5 d f _ c.o.pa c.o.pt p).mono ?_;rw [E.o];rintro e G ⟨rfl,j,i⟩;have a:=Aa (c.o.call j i);clear j i c;have s:=a.o.l7.cell 0;have t:=a.o.l7.cell 1;have u:=a.o.l7.cell 2;have x:=a.o.l7.cell 3;have z:=a.o.l7.cell 4;have A:=a.o.l7.cell 5;have B:=a.o.l7.cell 6;have C:=a.o.l7.cell 7;have I:=a.o.l7.frozen;have J:=Ae a.o.l7;simp only [dM,dJ,dK] at s t u x z A B C;go_wp2;have R:G.ownsRow w.heap.size 128 2 (.slice none 0 0) 0 []:=World.ownsRow_nil _ _ _ _;refine bodyPost_ret (v:=.agg (FI ⟨1,Bj,Bj,0,[]⟩ (.slice none 0 0))) (by simp [results,Tryz.results185,go_sem,FI,Bj,s,t,u,x,z,A,B,C];try rfl) rfl ⟨(.slice none 0 0),rfl,?_,?_,?_⟩
 ·refine Ac (X:=fun k=>k=w.heap.size) R ?_ (Aj R a.o.l7 (by decide));iterate 8 refine Ab.d8 ?_ _ _
  exact Ab.refl _ _
 ·refine Ak.O (X:=fun k=>k=w.heap.size) a.o.pa ?_ (by have:=a.o.bl;omega);iterate 8 refine Ab.d8 ?_ _ _
  exact Ab.refl _ _
 ·iterate 8 refine Ab.u9 ?_ _ _ (rN _)
  exact a.o.O
theorem Mo(b g n l i d w)(h:AR b g n l i w)(H:AZ g n l d w)(s:i.next<n)(I:(Ag d (n-1)).kind=0)(o:(Ag d i.next).kind=17∨(Ag d i.next).kind=18):
 Calls Tryz.prog 185 #[.pointer (some ⟨b,0,none⟩)] w fun e T=>Gg b g n l w (Bw d n i) e T:=by
 rcases o with o | o
 ·obtain ⟨p,m⟩:∃y,Af d n 17 i=y:=⟨_,rfl⟩;obtain ⟨P,q⟩:∃y,Af d n 1 p=y:=⟨_,rfl⟩;obtain ⟨G,r⟩:∃y,Ax d 1 p=y:=⟨_,rfl⟩;have u:Bw d n i=(⟨5,Bj,G,0,[]⟩,P):=by simp [Bw,o,m,q,r]
  rw [u];have N:p.next<n:=by rw [←m];exact AO I s
  have c:=Aa (JX.start h H);have J:=Aa o;have L:=Aa m;have M:=Aa q;have K:=Aa r;clear m q r u h H o I;go_enter Tryz.func185,Tryz.ntmps185;go_wp2_with fail;refine (AS b g n l i d _ c.o.pa c.o.pt s).mono ?_;rw [J.o];rintro e U ⟨rfl,f⟩;have t:=Aa (c.o.quiet f);clear f c;have c:=t;clear t;go_wp2_with fail;refine (AG b g n l 17 i d _ c.o.pa c.o.pt s).mono ?_;rw [L.o];rintro e V ⟨rfl,h,f⟩;have j:=Aa (c.o.call h f);clear h f c;go_wp2_with fail;refine (B7 b g n l p d _ j.o.pa j.o.pt N).mono ?_;rw [M.o,K.o];rintro e O ⟨rfl,h,f⟩;have a:=Aa (j.o.call h f);clear h f j;have x:=a.o.l7.cell 0;have z:=a.o.l7.cell 1;have A:=a.o.l7.cell 2;have B:=a.o.l7.cell 3;have C:=a.o.l7.cell 4;have D:=a.o.l7.cell 5;have E:=a.o.l7.cell 6;have F:=a.o.l7.cell 7;have Q:=a.o.l7.frozen;have S:=Ae a.o.l7;simp only [dM,dJ,dK] at x z A B C D E F;unfold Je;go_wp2;have R:O.ownsRow w.heap.size 128 2 (.slice none 0 0) 0 []:=World.ownsRow_nil _ _ _ _;refine bodyPost_ret (v:=.agg (FI ⟨5,Bj,G,0,[]⟩ (.slice none 0 0))) (by simp [results,Tryz.results185,go_sem,FI,Bj,x,z,A,B,C,D,E,F];try rfl) rfl ⟨(.slice none 0 0),rfl,?_,?_,?_⟩
  ·refine Ac (X:=fun k=>k=w.heap.size) R ?_ (Aj R a.o.l7 (by decide));iterate 8 refine Ab.d8 ?_ _ _
   exact Ab.refl _ _
  ·refine Ak.O (X:=fun k=>k=w.heap.size) a.o.pa ?_ (by have:=a.o.bl;omega);iterate 8 refine Ab.d8 ?_ _ _
   exact Ab.refl _ _
  ·iterate 8 refine Ab.u9 ?_ _ _ (rN _)
   exact a.o.O
 ·obtain ⟨p,m⟩:∃y,Af d n 18 i=y:=⟨_,rfl⟩;obtain ⟨P,q⟩:∃y,Af d n 1 p=y:=⟨_,rfl⟩;obtain ⟨G,r⟩:∃y,Ax d 1 p=y:=⟨_,rfl⟩;have u:Bw d n i=(⟨4,Bj,G,0,[]⟩,P):=by simp [Bw,o,m,q,r]
  rw [u];have N:p.next<n:=by rw [←m];exact AO I s
  have c:=Aa (JX.start h H);have J:=Aa o;have L:=Aa m;have M:=Aa q;have K:=Aa r;clear m q r u h H o I;go_enter Tryz.func185,Tryz.ntmps185;go_wp2_with fail;refine (AS b g n l i d _ c.o.pa c.o.pt s).mono ?_;rw [J.o];rintro e U ⟨rfl,f⟩;have t:=Aa (c.o.quiet f);clear f c;have c:=t;clear t;go_wp2_with fail;refine (AG b g n l 18 i d _ c.o.pa c.o.pt s).mono ?_;rw [L.o];rintro e V ⟨rfl,h,f⟩;have j:=Aa (c.o.call h f);clear h f c;go_wp2_with fail;refine (B7 b g n l p d _ j.o.pa j.o.pt N).mono ?_;rw [M.o,K.o];rintro e O ⟨rfl,h,f⟩;have a:=Aa (j.o.call h f);clear h f j;have x:=a.o.l7.cell 0;have z:=a.o.l7.cell 1;have A:=a.o.l7.cell 2;have B:=a.o.l7.cell 3;have C:=a.o.l7.cell 4;have D:=a.o.l7.cell 5;have E:=a.o.l7.cell 6;have F:=a.o.l7.cell 7;have Q:=a.o.l7.frozen;have S:=Ae a.o.l7;simp only [dM,dJ,dK] at x z A B C D E F;unfold Je;go_wp2;have R:O.ownsRow w.heap.size 128 2 (.slice none 0 0) 0 []:=World.ownsRow_nil _ _ _ _;refine bodyPost_ret (v:=.agg (FI ⟨4,Bj,G,0,[]⟩ (.slice none 0 0))) (by simp [results,Tryz.results185,go_sem,FI,Bj,x,z,A,B,C,D,E,F];try rfl) rfl ⟨(.slice none 0 0),rfl,?_,?_,?_⟩
  ·refine Ac (X:=fun k=>k=w.heap.size) R ?_ (Aj R a.o.l7 (by decide));iterate 8 refine Ab.d8 ?_ _ _
   exact Ab.refl _ _
  ·refine Ak.O (X:=fun k=>k=w.heap.size) a.o.pa ?_ (by have:=a.o.bl;omega);iterate 8 refine Ab.d8 ?_ _ _
   exact Ab.refl _ _
  ·iterate 8 refine Ab.u9 ?_ _ _ (rN _)
   exact a.o.O
theorem Mn(p P)(hF:Cf p P)(b g n l f d w)(S:p≤b)(N:Below p P w)(W:p≤w.heap.size)(i:AR b g n l f w)(K:AZ g n l d w)(J:f.next<n)(O:(Ag d (n-1)).kind=0)(j:(Ag d f.next).kind=16∨(Ag d f.next).kind=10):
 Calls Tryz.prog 185 #[.pointer (some ⟨b,0,none⟩)] w fun e w'=>Gg b g n l w (Bw d n f) e w':=by
 have U:=Aa N;have T:=Aa hF;have R:=Aa O;rcases j with j | j
 ·obtain ⟨F,Q,m⟩:∃s y,DM d n f=(s,y):=⟨_,_,rfl⟩;have t:Bw d n f=(F,Q):=by simp [Bw,j,m]
  rw [t];have c:=Aa (JX.start i K);have L:=Aa j;have M:=Aa m;clear m t i K j O N hF;go_enter Tryz.func185,Tryz.ntmps185;go_wp2_with fail;refine (AS b g n l f d _ c.o.pa c.o.pt J).mono ?_;rw [L.o];rintro e w0 ⟨rfl,h⟩;have q:=Aa (c.o.quiet h);clear h c;have c:=q;clear q;have Y:=c.o.O.size;go_wp2_with fail;refine (Nh p P T.o b g n l f d _ S (Ab.keeps U.o c.o.O W S) (by omega) c.o.pa c.o.pt J R.o).mono ?_;rw [M.o];rintro e w1 ⟨V,rfl,o,i,h⟩;obtain ⟨G,I,H,rfl⟩:=Ad o;have a:=Aa (c.o.call i h);have r:=Aa (Ao o (B':=w.heap.size) (by omega));clear i h o c;have u:=a.o.l7.cell 0;have x:=a.o.l7.cell 1;have z:=a.o.l7.cell 2;have A:=a.o.l7.cell 3;have B:=a.o.l7.cell 4;have C:=a.o.l7.cell 5;have D:=a.o.l7.cell 6;have E:=a.o.l7.cell 7;have Z:=a.o.l7.frozen;have ql:=Ae a.o.l7;simp only [dM,dJ,dK] at u x z A B C D E;unfold FI;go_wp2;refine bodyPost_ret (v:=.agg (FI F (.slice G I H))) (by simp [results,Tryz.results185,go_sem,FI,u,x,z,A,B,C,D,E]) rfl ⟨(.slice G I H),rfl,?_,?_,?_⟩
  ·refine Ac (X:=fun k=>k=w.heap.size) r.o ?_ (Aj r.o a.o.l7 (by decide));iterate 8 refine Ab.d8 ?_ _ _
   exact Ab.refl _ _
  ·refine Ak.O (X:=fun k=>k=w.heap.size) a.o.pa ?_ (by have:=a.o.bl;omega);iterate 8 refine Ab.d8 ?_ _ _
   exact Ab.refl _ _
  ·iterate 8 refine Ab.u9 ?_ _ _ (rN _)
   exact a.o.O
 ·obtain ⟨F,Q,m⟩:∃s y,GI d n f=(s,y):=⟨_,_,rfl⟩;have t:Bw d n f=(F,Q):=by simp [Bw,j,m]
  rw [t];have c:=Aa (JX.start i K);have L:=Aa j;have M:=Aa m;clear m t i K j O N hF;go_enter Tryz.func185,Tryz.ntmps185;go_wp2_with fail;refine (AS b g n l f d _ c.o.pa c.o.pt J).mono ?_;rw [L.o];rintro e w0 ⟨rfl,h⟩;have q:=Aa (c.o.quiet h);clear h c;have c:=q;clear q;have Y:=c.o.O.size;go_wp2_with fail;refine (JO b g n l f d _ c.o.pa c.o.pt J R.o).mono ?_;rw [M.o];rintro e w1 ⟨V,rfl,o,i,h⟩;obtain ⟨G,I,H,rfl⟩:=Ad o;have a:=Aa (c.o.call i h);have r:=Aa (Ao o (B':=w.heap.size) (by omega));clear i h o c;have u:=a.o.l7.cell 0;have x:=a.o.l7.cell 1;have z:=a.o.l7.cell 2;have A:=a.o.l7.cell 3;have B:=a.o.l7.cell 4;have C:=a.o.l7.cell 5;have D:=a.o.l7.cell 6;have E:=a.o.l7.cell 7;have Z:=a.o.l7.frozen;have ql:=Ae a.o.l7;simp only [dM,dJ,dK] at u x z A B C D E;unfold FI;go_wp2;refine bodyPost_ret (v:=.agg (FI F (.slice G I H))) (by simp [results,Tryz.results185,go_sem,FI,u,x,z,A,B,C,D,E]) rfl ⟨(.slice G I H),rfl,?_,?_,?_⟩
  ·refine Ac (X:=fun k=>k=w.heap.size) r.o ?_ (Aj r.o a.o.l7 (by decide));iterate 8 refine Ab.d8 ?_ _ _
   exact Ab.refl _ _
  ·refine Ak.O (X:=fun k=>k=w.heap.size) a.o.pa ?_ (by have:=a.o.bl;omega);iterate 8 refine Ab.d8 ?_ _ _
   exact Ab.refl _ _
  ·iterate 8 refine Ab.u9 ?_ _ _ (rN _)
   exact a.o.O
theorem QC(b g n o:Nat)(h:PS)(c:List PT)(w:World)(m:AR b g n o h w)(ht:AZ g n o c w)(G:h.next<n)(O:(Ag c (n-1)).kind=0)
 (V:(Ag c h.next).kind≠5)(S:(Ag c h.next).kind≠16)(T:(Ag c h.next).kind≠17)(U:(Ag c h.next).kind≠18)(Q:(Ag c h.next).kind≠10):
 Calls Tryz.prog 185 #[.pointer (some ⟨b,0,none⟩)] w fun e w'=>Gg b g n o w (Bw c n h) e w':=by
 obtain ⟨p,J⟩:∃y,Af c n 1 h=y:=⟨_,rfl⟩;obtain ⟨j,P⟩:∃y,Ax c 1 h=y:=⟨_,rfl⟩;obtain ⟨l2,x2,K⟩:∃l y,A6 c n p=(l,y):=⟨_,_,rfl⟩;have L:p.next<n:=by rw [←J];exact AO O G
 have f:=Aa (JX.start m ht);have X1:=Aa J;have X2:=Aa K;have K1:=Aa P;have HZ:=Aa O;have hv:Bw c n h=if (Ag c p.next).kind=10 then (⟨7,Bj,j,0,l2⟩,x2) else (⟨6,Bj,j,0,[]⟩,p):=by simp [Bw,V,S,T,U,Q,J,K,P]
 rw [hv];obtain ⟨I,M⟩:∃k,(Ag c h.next).kind=k:=⟨_,rfl⟩;rw [M] at V S T U Q;have HK:=Aa M;have j5:((I:Int)==5)=false:=by simp;omega
 have a5:((I:Int)==16)=false:=by simp;omega
 have a6:((I:Int)==17)=false:=by simp;omega
 have a7:((I:Int)==18)=false:=by simp;omega
 have a4:((I:Int)==10)=false:=by simp;omega
 clear J K P hv m ht O M V S T U Q;by_cases H:(Ag c p.next).kind=10
 ·rw [if_pos H];have a0:(((Ag c p.next).kind:Int)==10)=true:=by simp [H]
  clear H;go_enter Tryz.func185,Tryz.ntmps185;go_wp2_with fail;refine (AS b g n o h c _ f.o.pa f.o.pt G).mono ?_;rw [HK.o];rintro e w0 ⟨rfl,d⟩;have F:=Aa (f.o.quiet d);clear d f;have f:=F;clear F;go_wp2_with fail;refine (B7 b g n o h c _ f.o.pa f.o.pt G).mono ?_;rw [X1.o,K1.o];rintro e w1 ⟨rfl,m,d⟩;have a:=Aa (f.o.call m d);clear m d f;unfold Je;have a1:=Ae a.o.pa;have E:=Aa (Ak.new w1 #[.string j.a9,.int .i64 j.c9] 128);have r:=Aa (a.o.quiet ((Ab.refl _ _).alloc (.cells #[.string j.a9,.int .i64 j.c9] 128)));clear a;go_wp2_with fail;refine (AS b g n o p c _ r.o.pa r.o.pt L).mono ?_;rintro e wk ⟨rfl,d⟩;have a:=Aa (r.o.quiet d);have s:=Aa (E.o.O d (fun q=>q));clear d r E;have W:=s.o.cell 0;have Y:=s.o.cell 1;simp only [dM,dJ,dK] at W Y;have l1:=Ae s.o;have t:=a.o.l7.cell 0;have u:=a.o.l7.cell 1;have x:=a.o.l7.cell 2;have z:=a.o.l7.cell 3;have A:=a.o.l7.cell 4;have B:=a.o.l7.cell 5;have C:=a.o.l7.cell 6;have D:=a.o.l7.cell 7;have Z:=a.o.l7.frozen;have ql:=Ae a.o.l7;simp only [dM,dJ,dK] at t u x z A B C D;go_wp2_with fail;go_region_with (go_at_call 140;refine (Jd b g n o p c _ (a.o.quiet (by repeat (first | exact Ab.refl _ _ | refine Ab.drew ?_ | refine Ab.drewN ?_ _ | refine Ab.alloc ?_ _))).pa (a.o.quiet (by repeat (first | exact Ab.refl _ _ | refine Ab.drew ?_ | refine Ab.drewN ?_ _ | refine Ab.alloc ?_ _))).pt L HZ.o).mono ?_;rw [X2.o];rintro e w5 ⟨v5,rfl,N,m,d⟩;obtain ⟨va,vl,vc,rfl⟩:=Ad N;have i:=Aa ((a.o.quiet (by repeat (first | exact Ab.refl _ _ | refine Ab.drew ?_ | refine Ab.drewN ?_ _ | refine Ab.alloc ?_ _))).call m d);have B5:=Aa ((Ak.O (X:=fun _=>False) s.o (by repeat (first | exact Ab.refl _ _ | refine Ab.drew ?_ | refine Ab.drewN ?_ _ | refine Ab.alloc ?_ _)) (fun q=>q)).O d (by omega));have HW:=Aa (Ao N (B':=w.heap.size) (by have:=a.o.O.size;simp;omega));have a2:=B5.o.cell 0;have a3:=B5.o.cell 1;simp only [dM,dJ,dK] at a2 a3;clear m d N t u x z A B C D Z ql;have t:=i.o.l7.cell 0;have u:=i.o.l7.cell 1;have x:=i.o.l7.cell 2;have z:=i.o.l7.cell 3;have A:=i.o.l7.cell 4;have B:=i.o.l7.cell 5;have C:=i.o.l7.cell 6;have D:=i.o.l7.cell 7;have Z:=i.o.l7.frozen;have ql:=Ae i.o.l7;simp only [dM,dJ,dK] at t u x z A B C D);all_goals
   go_wp2;refine bodyPost_ret (v:=.agg (FI ⟨7,Bj,j,0,l2⟩ (.slice va vl vc))) (by simp [results,Tryz.results185,go_sem,FI,Bj,t,u,x,z,A,B,C,D];try rfl) rfl ⟨(.slice va vl vc),rfl,?_,?_,?_⟩
   ·refine Ac (X:=fun k=>k=w.heap.size) HW.o ?_ (Aj HW.o i.o.l7 (by decide));iterate 8 refine Ab.d8 ?_ _ _
    exact Ab.refl _ _
   ·refine Ak.O (X:=fun k=>k=w.heap.size) i.o.pa ?_ (by have:=i.o.bl;omega);iterate 8 refine Ab.d8 ?_ _ _
    exact Ab.refl _ _
   ·iterate 8 refine Ab.u9 ?_ _ _ (rN _)
    exact i.o.O
 ·rw [if_neg H];have a0:(((Ag c p.next).kind:Int)==10)=false:=by simp;omega
  clear H;go_enter Tryz.func185,Tryz.ntmps185;go_wp2_with fail;refine (AS b g n o h c _ f.o.pa f.o.pt G).mono ?_;rw [HK.o];rintro e w0 ⟨rfl,d⟩;have F:=Aa (f.o.quiet d);clear d f;have f:=F;clear F;go_wp2_with fail;refine (B7 b g n o h c _ f.o.pa f.o.pt G).mono ?_;rw [X1.o,K1.o];rintro e w1 ⟨rfl,m,d⟩;have a:=Aa (f.o.call m d);clear m d f;unfold Je;have a1:=Ae a.o.pa;have E:=Aa (Ak.new w1 #[.string j.a9,.int .i64 j.c9] 128);have r:=Aa (a.o.quiet ((Ab.refl _ _).alloc (.cells #[.string j.a9,.int .i64 j.c9] 128)));clear a;go_wp2_with fail;refine (AS b g n o p c _ r.o.pa r.o.pt L).mono ?_;rintro e wk ⟨rfl,d⟩;have a:=Aa (r.o.quiet d);have s:=Aa (E.o.O d (fun q=>q));clear d r E;have W:=s.o.cell 0;have Y:=s.o.cell 1;simp only [dM,dJ,dK] at W Y;have l1:=Ae s.o;have t:=a.o.l7.cell 0;have u:=a.o.l7.cell 1;have x:=a.o.l7.cell 2;have z:=a.o.l7.cell 3;have A:=a.o.l7.cell 4;have B:=a.o.l7.cell 5;have C:=a.o.l7.cell 6;have D:=a.o.l7.cell 7;have Z:=a.o.l7.frozen;have ql:=Ae a.o.l7;simp only [dM,dJ,dK] at t u x z A B C D;go_wp2;have R:wk.ownsRow w.heap.size 128 2 (.slice none 0 0) 0 []:=World.ownsRow_nil _ _ _ _;refine bodyPost_ret (v:=.agg (FI ⟨6,Bj,j,0,[]⟩ (.slice none 0 0))) (by simp [results,Tryz.results185,go_sem,FI,Bj,t,u,x,z,A,B,C,D];try rfl) rfl ⟨(.slice none 0 0),rfl,?_,?_,?_⟩
  ·refine Ac (X:=fun k=>k=w.heap.size) R ?_ (Aj R a.o.l7 (by decide));iterate 8 refine Ab.d8 ?_ _ _
   exact Ab.refl _ _
  ·refine Ak.O (X:=fun k=>k=w.heap.size) a.o.pa ?_ (by have:=a.o.bl;omega);iterate 8 refine Ab.d8 ?_ _ _
   exact Ab.refl _ _
  ·iterate 8 refine Ab.u9 ?_ _ _ (rN _)
   exact a.o.O
theorem TZ(f l)(hF:Cf f l)(b g n d c a w)(u:f≤b)(t:Below f l w)(s:f≤w.heap.size)(i:AR b g n d c w)(j:AZ g n d a w)(h:c.next<n)(k:(Ag a (n-1)).kind=0):
 Calls Tryz.prog 185 #[.pointer (some ⟨b,0,none⟩)] w fun e v=>Gg b g n d w (Bw a n c) e v:=by
 by_cases r:(Ag a c.next).kind=5
 ·exact T6 b g n d c a w i j h r
 ·by_cases o:(Ag a c.next).kind=16
  ·exact Mn f l hF b g n d c a w u t s i j h k (.inl o)
  ·by_cases p:(Ag a c.next).kind=17
   ·exact Mo b g n d c a w i j h k (.inl p)
   ·by_cases q:(Ag a c.next).kind=18
    ·exact Mo b g n d c a w i j h k (.inr q)
    ·by_cases m:(Ag a c.next).kind=10
     ·exact Mn f l hF b g n d c a w u t s i j h k (.inr m)
     ·exact QC b g n d c a w i j h k r o p q m
def AF(a:List PT)(n:Nat)(x:PS):VS×PS:=
 if (Ag a x.next).kind=4 then (⟨0,Ax a 1 (Af a n 4 x),Bj,0,[]⟩,Af a n 1 (Af a n 4 x))
 else if (Ag a x.next).kind=6 then (⟨10,Bj,Ax a 1 (Af a n 6 x),0,[]⟩,Af a n 1 (Af a n 6 x))
 else if (Ag a x.next).kind=17 then
  let b:=Af a n 17 x
  let d:=Af a n 15 (Af a n 1 b)
  (⟨9,Ax a 1 b,Ax a 1 d,0,[]⟩,Af a n 1 d)
 else
  let c:=Af a n 15 (Af a n 1 x)
  ({(Bw a n c).1 with tg:=Ax a 1 x},(Bw a n c).2)
theorem Md(b g n l i d w)(h:AR b g n l i w)(H:AZ g n l d w)(s:i.next<n)(I:(Ag d (n-1)).kind=0)(o:(Ag d i.next).kind=4∨(Ag d i.next).kind=6):
 Calls Tryz.prog 179 #[.pointer (some ⟨b,0,none⟩)] w fun e T=>Gg b g n l w (AF d n i) e T:=by
 rcases o with o | o
 ·obtain ⟨p,m⟩:∃y,Af d n 4 i=y:=⟨_,rfl⟩;obtain ⟨P,q⟩:∃y,Af d n 1 p=y:=⟨_,rfl⟩;obtain ⟨G,r⟩:∃y,Ax d 1 p=y:=⟨_,rfl⟩;have u:AF d n i=(⟨0,G,Bj,0,[]⟩,P):=by simp [AF,o,m,q,r]
  rw [u];have N:p.next<n:=by rw [←m];exact AO I s
  have c:=Aa (JX.start h H);have J:=Aa o;have L:=Aa m;have M:=Aa q;have K:=Aa r;clear m q r u h H o I;go_enter Tryz.func179,Tryz.ntmps179;go_wp2_with fail;refine (AS b g n l i d _ c.o.pa c.o.pt s).mono ?_;rw [J.o];rintro e U ⟨rfl,f⟩;have t:=Aa (c.o.quiet f);clear f c;have c:=t;clear t;go_wp2_with fail;refine (AG b g n l 4 i d _ c.o.pa c.o.pt s).mono ?_;rw [L.o];rintro e V ⟨rfl,h,f⟩;have j:=Aa (c.o.call h f);clear h f c;go_wp2_with fail;refine (B7 b g n l p d _ j.o.pa j.o.pt N).mono ?_;rw [M.o,K.o];rintro e O ⟨rfl,h,f⟩;have a:=Aa (j.o.call h f);clear h f j;have x:=a.o.l7.cell 0;have z:=a.o.l7.cell 1;have A:=a.o.l7.cell 2;have B:=a.o.l7.cell 3;have C:=a.o.l7.cell 4;have D:=a.o.l7.cell 5;have E:=a.o.l7.cell 6;have F:=a.o.l7.cell 7;have Q:=a.o.l7.frozen;have S:=Ae a.o.l7;simp only [dM,dJ,dK] at x z A B C D E F;unfold Je;go_wp2;have R:O.ownsRow w.heap.size 128 2 (.slice none 0 0) 0 []:=World.ownsRow_nil _ _ _ _;refine bodyPost_ret (v:=.agg (FI ⟨0,G,Bj,0,[]⟩ (.slice none 0 0))) (by simp [results,Tryz.results179,go_sem,FI,Bj,x,z,A,B,C,D,E,F];try rfl) rfl ⟨(.slice none 0 0),rfl,?_,?_,?_⟩
  ·refine Ac (X:=fun k=>k=w.heap.size) R ?_ (Aj R a.o.l7 (by decide));iterate 8 refine Ab.d8 ?_ _ _
   exact Ab.refl _ _
  ·refine Ak.O (X:=fun k=>k=w.heap.size) a.o.pa ?_ (by have:=a.o.bl;omega);iterate 8 refine Ab.d8 ?_ _ _
   exact Ab.refl _ _
  ·iterate 8 refine Ab.u9 ?_ _ _ (rN _)
   exact a.o.O
 ·obtain ⟨p,m⟩:∃y,Af d n 6 i=y:=⟨_,rfl⟩;obtain ⟨P,q⟩:∃y,Af d n 1 p=y:=⟨_,rfl⟩;obtain ⟨G,r⟩:∃y,Ax d 1 p=y:=⟨_,rfl⟩;have u:AF d n i=(⟨10,Bj,G,0,[]⟩,P):=by simp [AF,o,m,q,r]
  rw [u];have N:p.next<n:=by rw [←m];exact AO I s
  have c:=Aa (JX.start h H);have J:=Aa o;have L:=Aa m;have M:=Aa q;have K:=Aa r;clear m q r u h H o I;go_enter Tryz.func179,Tryz.ntmps179;go_wp2_with fail;refine (AS b g n l i d _ c.o.pa c.o.pt s).mono ?_;rw [J.o];rintro e U ⟨rfl,f⟩;have t:=Aa (c.o.quiet f);clear f c;have c:=t;clear t;go_wp2_with fail;refine (AG b g n l 6 i d _ c.o.pa c.o.pt s).mono ?_;rw [L.o];rintro e V ⟨rfl,h,f⟩;have j:=Aa (c.o.call h f);clear h f c;go_wp2_with fail;refine (B7 b g n l p d _ j.o.pa j.o.pt N).mono ?_;rw [M.o,K.o];rintro e O ⟨rfl,h,f⟩;have a:=Aa (j.o.call h f);clear h f j;have x:=a.o.l7.cell 0;have z:=a.o.l7.cell 1;have A:=a.o.l7.cell 2;have B:=a.o.l7.cell 3;have C:=a.o.l7.cell 4;have D:=a.o.l7.cell 5;have E:=a.o.l7.cell 6;have F:=a.o.l7.cell 7;have Q:=a.o.l7.frozen;have S:=Ae a.o.l7;simp only [dM,dJ,dK] at x z A B C D E F;unfold Je;go_wp2;have R:O.ownsRow w.heap.size 128 2 (.slice none 0 0) 0 []:=World.ownsRow_nil _ _ _ _;refine bodyPost_ret (v:=.agg (FI ⟨10,Bj,G,0,[]⟩ (.slice none 0 0))) (by simp [results,Tryz.results179,go_sem,FI,Bj,x,z,A,B,C,D,E,F];try rfl) rfl ⟨(.slice none 0 0),rfl,?_,?_,?_⟩
  ·refine Ac (X:=fun k=>k=w.heap.size) R ?_ (Aj R a.o.l7 (by decide));iterate 8 refine Ab.d8 ?_ _ _
   exact Ab.refl _ _
  ·refine Ak.O (X:=fun k=>k=w.heap.size) a.o.pa ?_ (by have:=a.o.bl;omega);iterate 8 refine Ab.d8 ?_ _ _
   exact Ab.refl _ _
  ·iterate 8 refine Ab.u9 ?_ _ _ (rN _)
   exact a.o.O
theorem Qj(b g n j l c w)(f:AR b g n j l w)(W:AZ g n j c w)(L:l.next<n)(G:(Ag c (n-1)).kind=0)(M:(Ag c l.next).kind=17):
 Calls Tryz.prog 179 #[.pointer (some ⟨b,0,none⟩)] w fun e w'=>Gg b g n j w (AF c n l) e w':=by
 obtain ⟨H,D⟩:∃y,Af c n 17 l=y:=⟨_,rfl⟩;obtain ⟨P,E⟩:∃y,Af c n 1 H=y:=⟨_,rfl⟩;obtain ⟨m,N⟩:∃y,Ax c 1 H=y:=⟨_,rfl⟩;obtain ⟨I,F⟩:∃y,Af c n 15 P=y:=⟨_,rfl⟩;obtain ⟨x4,K⟩:∃y,Af c n 1 I=y:=⟨_,rfl⟩;obtain ⟨t4,O⟩:∃y,Ax c 1 I=y:=⟨_,rfl⟩;have Y:AF c n l=(⟨9,m,t4,0,[]⟩,x4):=by simp [AF,M,D,E,N,F,K,O]
 rw [Y];have U:H.next<n:=by rw [←D];exact AO G L
 have V:P.next<n:=by rw [←E];exact AO G U
 have a0:I.next<n:=by rw [←F];exact AO G V
 have i:=Aa (JX.start f W);have HK:=Aa M;have X1:=Aa D;have X2:=Aa E;have K2:=Aa N;have X3:=Aa F;have X4:=Aa K;have K4:=Aa O;clear D E N F K O Y f W M G;go_enter Tryz.func179,Tryz.ntmps179;go_wp2_with fail;refine (AS b g n j l c _ i.o.pa i.o.pt L).mono ?_;rw [HK.o];rintro e w0 ⟨rfl,a⟩;have T:=Aa (i.o.quiet a);clear a i;have i:=T;clear T;go_wp2_with fail;refine (AG b g n j 17 l c _ i.o.pa i.o.pt L).mono ?_;rw [X1.o];rintro e w1 ⟨rfl,f,a⟩;have B:=Aa (i.o.call f a);clear f a i;go_wp2_with fail;refine (B7 b g n j H c _ B.o.pa B.o.pt U).mono ?_;rw [X2.o,K2.o];rintro e w2 ⟨rfl,f,a⟩;have J:=Aa (B.o.call f a);clear f a B;unfold Je;have a3:=Ae J.o.pa;have Q:=Aa (Ak.new w2 #[.string m.a9,.int .i64 m.c9] 128);have C:=Aa (J.o.quiet ((Ab.refl _ _).alloc (.cells #[.string m.a9,.int .i64 m.c9] 128)));clear J;go_wp2_with fail;refine (AG b g n j 15 P c _ C.o.pa C.o.pt V).mono ?_;rw [X3.o];rintro e w3 ⟨rfl,f,a⟩;have h:=Aa (C.o.call f a);have A:=Aa (Q.o.O a (by omega));clear f a C Q;have n0:=A.o.cell 0;have n1:=A.o.cell 1;simp only [dM,dJ,dK] at n0 n1;have l3:=Ae A.o;have o:=h.o.l7.cell 0;have p:=h.o.l7.cell 1;have r:=h.o.l7.cell 2;have s:=h.o.l7.cell 3;have t:=h.o.l7.cell 4;have u:=h.o.l7.cell 5;have x:=h.o.l7.cell 6;have z:=h.o.l7.cell 7;have Z:=h.o.l7.frozen;have ql:=Ae h.o.l7;simp only [dM,dJ,dK] at o p r s t u x z;go_wp2_with fail;go_region_with (go_at_call 139;refine (B7 b g n j I c _ (h.o.quiet (by repeat (first | exact Ab.refl _ _ | refine Ab.drew ?_ | refine Ab.drewN ?_ _ | refine Ab.alloc ?_ _))).pa (h.o.quiet (by repeat (first | exact Ab.refl _ _ | refine Ab.drew ?_ | refine Ab.drewN ?_ _ | refine Ab.alloc ?_ _))).pt a0).mono ?_;rw [X4.o,K4.o];rintro e w5 ⟨rfl,f,a⟩;have d:=Aa ((h.o.quiet (by repeat (first | exact Ab.refl _ _ | refine Ab.drew ?_ | refine Ab.drewN ?_ _ | refine Ab.alloc ?_ _))).call f a);have S:=Aa ((Ak.O (X:=fun _=>False) A.o (by repeat (first | exact Ab.refl _ _ | refine Ab.drew ?_ | refine Ab.drewN ?_ _ | refine Ab.alloc ?_ _)) (fun q=>q)).O a (by omega));have a1:=S.o.cell 0;have a2:=S.o.cell 1;simp only [dM,dJ,dK] at a1 a2;unfold Je;clear f a o p r s t u x z Z ql;have o:=d.o.l7.cell 0;have p:=d.o.l7.cell 1;have r:=d.o.l7.cell 2;have s:=d.o.l7.cell 3;have t:=d.o.l7.cell 4;have u:=d.o.l7.cell 5;have x:=d.o.l7.cell 6;have z:=d.o.l7.cell 7;have Z:=d.o.l7.frozen;have ql:=Ae d.o.l7;simp only [dM,dJ,dK] at o p r s t u x z);all_goals
  go_wp2;have R:w5.ownsRow w.heap.size 128 2 (.slice none 0 0) 0 []:=World.ownsRow_nil _ _ _ _;refine bodyPost_ret (v:=.agg (FI ⟨9,m,t4,0,[]⟩ (.slice none 0 0))) (by simp [results,Tryz.results179,go_sem,FI,o,p,r,s,t,u,x,z]) rfl ⟨(.slice none 0 0),rfl,?_,?_,?_⟩
  ·refine Ac (X:=fun k=>k=w.heap.size) R ?_ (Aj R d.o.l7 (by decide));iterate 8 refine Ab.d8 ?_ _ _
   exact Ab.refl _ _
  ·refine Ak.O (X:=fun k=>k=w.heap.size) d.o.pa ?_ (by have:=d.o.bl;omega);iterate 8 refine Ab.d8 ?_ _ _
   exact Ab.refl _ _
  ·iterate 8 refine Ab.u9 ?_ _ _ (rN _)
   exact d.o.O
theorem Tm(o:Nat)(J:World)(hF:Cf o J)(b g n l:Nat)(f:PS)(a:List PT)(w:World)(Q:o≤b)(P:Below o J w)(hB:o≤w.heap.size)(h:AR b g n l f w)(S:AZ g n l a w)(B:f.next<n)(t:(Ag a (n-1)).kind=0)
 (G:(Ag a f.next).kind≠4)(H:(Ag a f.next).kind≠6)(F:(Ag a f.next).kind≠17):
 Calls Tryz.prog 179 #[.pointer (some ⟨b,0,none⟩)] w fun e w'=>Gg b g n l w (AF a n f) e w':=by
 obtain ⟨K,q⟩:∃y,Af a n 1 f=y:=⟨_,rfl⟩;obtain ⟨m,E⟩:∃y,Ax a 1 f=y:=⟨_,rfl⟩;obtain ⟨L,r⟩:∃y,Af a n 15 K=y:=⟨_,rfl⟩;obtain ⟨s3,x3,A⟩:∃s y,Bw a n L=(s,y):=⟨_,_,rfl⟩;have T:AF a n f=({s3 with tg:=m},x3):=by simp [AF,G,H,F,q,E,r,A]
 rw [T];have R:K.next<n:=by rw [←q];exact AO t B
 have a0:L.next<n:=by rw [←r];exact AO t R
 have i:=Aa (JX.start h S);have HG:=Aa P;have HF:=Aa hF;have HZ:=Aa t;have X1:=Aa q;have K1:=Aa E;have X2:=Aa r;have X3:=Aa A;obtain ⟨I,C⟩:∃k,(Ag a f.next).kind=k:=⟨_,rfl⟩;rw [C] at G H F;have HK:=Aa C;have j4:((I:Int)==4)=false:=by simp;omega
 have j6:((I:Int)==6)=false:=by simp;omega
 have a3:((I:Int)==17)=false:=by simp;omega
 clear q E r A T h S t C G H F P hF;go_enter Tryz.func179,Tryz.ntmps179;go_wp2_with fail;refine (AS b g n l f a _ i.o.pa i.o.pt B).mono ?_;rw [HK.o];rintro e w0 ⟨rfl,d⟩;have N:=Aa (i.o.quiet d);clear d i;have i:=N;clear N;go_wp2_with fail;refine (B7 b g n l f a _ i.o.pa i.o.pt B).mono ?_;rw [X1.o,K1.o];rintro e w1 ⟨rfl,h,d⟩;have z:=Aa (i.o.call h d);clear h d i;unfold Je;have a1:=Ae z.o.pa;have M:=Aa (Ak.new w1 #[.string m.a9,.int .i64 m.c9] 128);have p:=Aa (z.o.quiet ((Ab.refl _ _).alloc (.cells #[.string m.a9,.int .i64 m.c9] 128)));clear z;go_wp2_with fail;refine (AG b g n l 15 K a _ p.o.pa p.o.pt R).mono ?_;rw [X2.o];rintro e w2 ⟨rfl,h,d⟩;have j:=Aa (p.o.call h d);have u:=Aa (M.o.O d (by omega));clear h d p M;have a2:=j.o.O.size;have l2:=Ae u.o;have a4:=Ae j.o.pa;go_wp2_with fail;refine (TZ o J HF.o b g n l L a _ Q (Ab.keeps HG.o j.o.O hB Q) (by omega) j.o.pa j.o.pt a0 HZ.o).mono ?_;rw [X3.o];rintro e w3 ⟨av,rfl,D,h,d⟩;obtain ⟨va,vl,vc,rfl⟩:=Ad D;have c:=Aa (j.o.call h d);have x:=Aa (u.o.O d (by omega));have O:=Aa (Ao D (B':=w.heap.size) (by omega));clear h d D j u;have n0:=x.o.cell 0;have n1:=x.o.cell 1;simp only [dM,dJ,dK] at n0 n1;have l3:=Ae x.o;have U:=c.o.l7.cell 0;have V:=c.o.l7.cell 1;have W:=c.o.l7.cell 2;have Y:=c.o.l7.cell 3;have Z:=c.o.l7.cell 4;have q5:=c.o.l7.cell 5;have q6:=c.o.l7.cell 6;have q7:=c.o.l7.cell 7;have qf:=c.o.l7.frozen;have ql:=Ae c.o.l7;simp only [dM,dJ,dK] at U V W Y Z q5 q6 q7;unfold FI;go_wp2;refine bodyPost_ret (v:=.agg (FI {s3 with tg:=m} (.slice va vl vc))) (by simp [results,Tryz.results179,go_sem,FI,U,V,W,Y,Z,q5,q6,q7,ql]) rfl ⟨.slice va vl vc,rfl,?_,?_,?_⟩
 ·refine Ac (X:=fun k=>k=w.heap.size) O.o ?_ (Aj O.o c.o.l7 (by decide));refine Ab.alloc ?_ _;iterate 8 refine Ab.d8 ?_ _ _
  exact Ab.refl _ _
 ·refine Ak.O (X:=fun k=>k=w.heap.size) c.o.pa ?_ (by have:=c.o.bl;omega);refine Ab.alloc ?_ _;iterate 8 refine Ab.d8 ?_ _ _
  exact Ab.refl _ _
 ·refine Ab.alloc ?_ _;iterate 8 refine Ab.u9 ?_ _ _ (rN _)
  exact c.o.O
theorem Ti(f l)(hF:Cf f l)(b g n d c a w)(s:f≤b)(r:Below f l w)(q:f≤w.heap.size)(i:AR b g n d c w)(j:AZ g n d a w)(h:c.next<n)(k:(Ag a (n-1)).kind=0):
 Calls Tryz.prog 179 #[.pointer (some ⟨b,0,none⟩)] w fun e t=>Gg b g n d w (AF a n c) e t:=by
 by_cases o:(Ag a c.next).kind=4
 ·exact Md b g n d c a w i j h k (.inl o)
 ·by_cases p:(Ag a c.next).kind=6
  ·exact Md b g n d c a w i j h k (.inr p)
  ·by_cases m:(Ag a c.next).kind=17
   ·exact Qj b g n d c a w i j h k m
   ·exact Tm f l hF b g n d c a w s r q i j h k o p m
end Go.Proofs.YtegmjgjkcdbmkaaGreatDoor

/- One of the texts of the proof: CkE CkF CkG CkH CkI. -/
import Derived.Test.YtegmjgjkcdbmkaaGreatDoorG10
set_option maxRecDepth 100000
set_option maxHeartbeats 20000000
namespace Go.Proofs.YtegmjgjkcdbmkaaGreatDoor
open Go.RowKit Go.Maps
theorem Vd(n:Nat):((n:Int)==0)=(n==0):=by rw [Bool.eq_iff_iff];simp
def AW:List TF→Nat→DataW Unit→DataW Unit
 | [],_,D=>D
 | t::l,k,D=>AW l (k+1) (if Maps.has D (Ba t.name.a9) then D else D.put (Ba t.name.a9) (.lit (.int .i64 k)))
theorem NA(a:List TF)(k:Nat)(h:k<a.length)(D:DataW Unit):AW (a.drop k) k D=AW (a.drop (k+1)) (k+1) (if Maps.has D (Ba a[k].name.a9) then D else D.put (Ba a[k].name.a9) (.lit (.int .i64 k))):=by rw [List.drop_eq_getElem_cons h];rfl
theorem GZ(d)(U:Nat→Prop)(G a R w)(x:Di d U w G a)(hl:∀t,t∈a→t.name.a9.size≤4000)(hk:a.length≤4000):
 Calls Tryz.prog 72 #[.agg #[G,.int .i64 R]] w fun e S=>∃M,e=.returned (.map (some M))∧w.heap.size≤M∧A7 M a.length (AW a 0 (.map [])) S∧Ab (fun _=>False) w S:=by
 have a8:=@run_makeMap Tryz.prog;have v:=x;obtain ⟨a4,b,_⟩:=v;obtain ⟨va,vl,vc,rfl⟩:=Ad b;have a3:=Aq b;subst a3;generalize I:AW a 0 (.map [])=V;have F:dN (AW (a.drop 0) 0 (.map [])=V):=I;have T:=Aa x;clear I x b;go_enter Tryz.func72,Tryz.ntmps72;go_wp2;go_loopw [12] (fun i wr=>∃(k:Nat) (D:DataW Unit),k≤a.length∧i=.int .i64 k∧dN (A7 (w.heap.size+1) k D wr)∧dN (Ab (fun _=>False) w wr)∧dN (AW (a.drop k) k D=V)) (fun i _=>a.length-(intOf i).toNat)
 case atStart=> refine ⟨0,.map [],by omega,rfl,Aa ?_,Aa (((Ab.refl _ w).alloc _).alloc _),F⟩;have:=World.ownsMap_made (H:=Unit) (w.alloc (.cells #[.slice va a.length vc,.int .i64 R] 82)) Tryz.prog 9 (plainElem Tryz.prog 3);simpa [A7] using this
 case round=>
  obtain ⟨k,D,a7,rfl,m,n,A⟩:=hrel;clear F;by_cases N:k<a.length
  ·have y:=T.o.O n.o (fun _ _ q=>q);have v:=y;obtain ⟨a5,b,_⟩:=v;obtain ⟨g,rfl⟩:=AA b (by omega);have lg:=(b.lt g rfl).2;obtain ⟨av,sv,f,J,_,a1⟩:=y.get N;obtain ⟨r,u,s,rfl⟩:=Ad J;obtain ⟨a6,Q,_⟩:=a1;obtain ⟨B,E,C,rfl⟩:=Ad Q;have W:=f 0 (by omega);have X:=f 1 (by omega);have Y:=f 2 (by omega);have Z:=f 3 (by omega);have f4:=f 4 (by omega);simp only [Lv,dM,dJ,dK,Nat.add_zero] at W X Y Z f4;have P:=Aa (NA a k N D);have L:=hl a[k] (List.getElem_mem _);clear b Q J f y;generalize a[k]=t at*;have l1:=n.o.size;have lm:=World.ownsMap.lt m.o;obtain ⟨z,O,_,_⟩:=Ep (w:=wr.alloc (.cells #[.string t.name.a9,.int .i64 t.name.c9,.slice r u s,.int .i64 t.c9,.slice B E C] 134)) (m.o.O ((Ab.refl (fun _=>False) wr).alloc _) (fun q=>q)) L;cases h:Maps.has D (Ba t.name.a9) with
   | true=>
     rw [h] at O;have o:=Aa h;clear h;go_wp2;go_round
     case rel=>
      refine ⟨k+1,D,by omega,by go_num,Aa ?_,Aa (n.o.alloc _),Aa ?_⟩
      ·exact World.ownsMap.mono (m.o.O ((Ab.refl (fun _=>False) wr).alloc _) (fun q=>q)) (by omega)
      ·have:=P.o;rw [if_pos o.o] at this;exact this.symm.trans A.o
     case measure=>simp [intOf];omega
   | false=>
     rw [h] at O;have o:=Aa h;clear h;obtain ⟨w2,a9,a0,l⟩:=Eg (p:=k) (w:=wr.alloc (.cells #[.string t.name.a9,.int .i64 t.name.c9,.slice r u s,.int .i64 t.c9,.slice B E C] 134)) (m.o.O ((Ab.refl (fun _=>False) wr).alloc _) (fun q=>q)) L (by omega) (by omega);go_wp2;go_round
     case rel=>
      refine ⟨k+1,_,by omega,by go_num,Aa a0,Aa ?_,Aa ?_⟩
      ·have c:=n.o.alloc (.cells #[.string t.name.a9,.int .i64 t.name.c9,.slice r u s,.int .i64 t.c9,.slice B E C] 134);exact ⟨l.os.trans c.os,l.tape.trans c.tape,l.output.trans c.output,Nat.le_trans c.size l.size,fun j K _=>(l.block j (Nat.lt_of_lt_of_le K c.size) (by omega)).trans (c.block j K (fun q=>q))⟩
      ·have:=P.o;rw [if_neg (by rw [o.o];decide)] at this;exact this.symm.trans A.o
     case measure=>simp [intOf];omega
  ·have e:k=a.length:=by omega
   subst e;have a2:D=V:=by have:=A.o;simpa [AW] using this
   subst a2;go_wp2;go_ret;exact ⟨_,rfl,by omega,m.o,n.o⟩
theorem Jw(b d)(U:Nat→Prop)(q a K I m n F c w)(k:Ci b q K (.map (some m)) I c w)(v:A7 m n F w)(i:Di d U w q a)(C:Kf F a.length)(R:a.length≤4001):
 Calls Tryz.prog 74 #[.pointer (some ⟨b,0,none⟩)] w fun e L=>e=.returned (.bool (Maps.has F (Ba ⟨#[109,97,105,110]⟩) && Iv a (BI F ⟨#[109,97,105,110]⟩)==0))∧Ab (fun _=>False) w L:=by
 have A:=Ar k 0;have J:=Ar k 2;simp only [dM,dJ,dK] at A J;have T:=Ae k;obtain ⟨z,y,l,_⟩:=Ep (w:=w) (s:=⟨#[109,97,105,110]⟩) v (by decide);clear k v;cases f:Maps.has F (Ba ⟨#[109,97,105,110]⟩) with
 | false=> rw [f] at y;clear f i A;go_enter Tryz.func74,Tryz.ntmps74;go_wp2;go_ret;exact ⟨by simp,Ab.refl _ _⟩
 | true=>
   rw [f] at y;obtain ⟨j,u,o⟩:=C _ f;have H:z=(j:Int):=by rw [o] at l;simpa using l.symm
   have t:BI F ⟨#[109,97,105,110]⟩=j:=by simp [BI,o]
   have x:Iv a j=a[j].i8.length:=by simp [Iv,u]
   subst H;have E:=i;obtain ⟨Q,h,_⟩:=E;obtain ⟨W,Y,X,rfl⟩:=Ad h;obtain ⟨g,rfl⟩:=AA h (by omega);have G:=Aq h;subst G;have S:=(h.lt g rfl).2;obtain ⟨P,V,r,p,_,_⟩:=i.get u;obtain ⟨M,O,N,rfl⟩:=Ad p;have D:=Aq p;subst D;have B:=r 2 (by omega);simp only [Lv,dM,dJ,dK] at B;rw [t,x];clear h p r i l o t x f;go_enter Tryz.func74,Tryz.ntmps74;go_wp2;go_ret;exact ⟨by simp [Vd],Ab.refl _ _⟩
structure Ck(b d:Nat)(U:Nat→Prop)(fs:Value)(fns:List TF)(stop:Int)(mf nf m n:Nat)(F D:DataW Unit)(c:CS)(w:World):Prop where
 bB:Ci b fs stop (.map (some mf)) (.map (some m)) c w
 l8:A7 m n D w
 bK:A7 mf nf F w
 rows:Di d U w fs fns
 fin:Kf F fns.length
 bA:fns.length≤4001
 ne:m≠mf
 ub:¬U b
 um:¬U m
theorem Ck.O{b d}{U:Nat→Prop}{g f j e i m n F D c w l}{X:Nat→Prop}(h:Ck b d U g f j e i m n F D c w)(a:Ab X w l)(o:¬X b)(p:¬X m)(q:¬X e)(r:∀k,U k→¬X k):Ck b d U g f j e i m n F D c l:=
 ⟨Ak.O h.bB a o,h.l8.O a p,h.bK.O a q,h.rows.O a r,h.fin,h.bA,h.ne,h.ub,h.um⟩
theorem Ck.quiet{b d}{U:Nat→Prop}{e a i f g m n F D c w j}(h:Ck b d U e a i f g m n F D c w)(k:Ab (fun _=>False) w j):Ck b d U e a i f g m n F D c j:=
 h.O k (fun q=>q) (fun q=>q) (fun q=>q) (fun _ _ q=>q)
theorem Ck.step{b d}{U:Nat→Prop}{a l g f o m n F D c j w i}(h:Ck b d U a l g f o m n F D c w)(p:Ci b a g (.map (some f)) (.map (some m)) j i)(e:Ab (fun k=>k=b) w i):Ck b d U a l g f o m n F D j i:=
 ⟨p,h.l8.O e (h.l8.ne h.bB),h.bK.O e (h.bK.ne h.bB),h.rows.O e (fun _ r q=>h.ub (q▸r)),h.fin,h.bA,h.ne,h.ub,h.um⟩
theorem Ck.cF{b d}{U:Nat→Prop}{f o i g t m n s F D j c l w a}(h:Ck b d U f o i g t m n F D c w)(u:Ci b f i (.map (some g)) (.map (some m)) l a)(v:A7 m s j a)(r:Ab (fun k=>k=b∨k=m) w a):Ck b d U f o i g t m s F j l a:=
 ⟨u,v,h.bK.O r (fun q=>q.elim (h.bK.ne h.bB) (fun e=>h.ne e.symm)),h.rows.O r (fun _ p q=>q.elim (fun e=>h.ub (e▸p)) (fun e=>h.um (e▸p))),h.fin,h.bA,h.ne,h.ub,h.um⟩
structure Y5(s:VS):Prop where
 tg:s.tg.a9.size≤4000
 tp:s.tg.c9≤4000
 sr:s.sr.a9.size≤4000
 ar:∀t,t∈s.args→t.a9.size≤4000
 al:s.args.length≤4000
def Er(F:DataW Unit)(a:List TF)(s:VS)(x:DataW Unit×CS):DataW Unit×CS:=
 match s.kind with
 | 0=>(GJ x.1 s.tg,El x.1 s.tg x.2)
 | 1=>(x.1,B6 x.1 s.tg x.2)
 | 4=>(x.1,B6 F s.sr (B6 x.1 s.tg x.2))
 | 7=>(x.1,EJ x.1 s.args (DH F a s.sr s.args.length (B6 x.1 s.tg x.2)))
 | 8=>(x.1,EJ x.1 s.args (B6 x.1 s.sr (B6 x.1 s.tg x.2)))
 | 10=>(x.1,B6 x.1 s.sr x.2)
 | _=>(x.1,B6 x.1 s.sr (B6 x.1 s.tg x.2))
structure KS(b d:Nat)(U:Nat→Prop)(fs:Value)(fns:List TF)(stop:Int)(mf nf m n:Nat)(F D:DataW Unit)(sb:Nat)(sc:Array Value)(av:Value)(ar:List PT)(w0:World)(c:CS)(w:World):Prop where
 k:Ck b d U fs fns stop mf nf m n F D c w
 s:Ak sb sc 237 w
 o:Ab (fun k=>k=b∨k=m) w0 w
 a:w.ownsRow 0 128 2 av ar.length (Bt ar)
 u:∀k,av.ownBlock=some k→k≠b
 e:sb≠b
theorem KS.step{b d}{U:Nat→Prop}{e p g f r m n F D s t l j u w i c o}(h:KS b d U e p g f r m n F D s t l j u c w)(v:Ci b e g (.map (some f)) (.map (some m)) o i)(a:Ab (fun k=>k=b) w i):KS b d U e p g f r m n F D s t l j u o i:=
 ⟨h.k.step v a,Ak.O h.s a h.e,h.o.trans (a.mono (fun _ _ q=>.inl q)),Ac h.a a h.u,h.u,h.e⟩
theorem Ak.c8{b:Nat}{l:List Value}{t:TypeId}{w:World}(h:Ak b l.toArray t w):w.cell? ⟨b,0,none⟩=l[0]? ∧w.cell? ⟨b,1,none⟩=l[1]? ∧w.cell? ⟨b,2,none⟩=l[2]? ∧w.cell? ⟨b,3,none⟩=l[3]? ∧w.cell? ⟨b,4,none⟩=l[4]? ∧w.cell? ⟨b,5,none⟩=l[5]? ∧w.cell? ⟨b,6,none⟩=l[6]? ∧w.cell? ⟨b,7,none⟩=l[7]? :=by refine ⟨?_,?_,?_,?_,?_,?_,?_,?_⟩<;>rw [h.cell]<;>simp
theorem Qy(b d a4:Nat)(U:Nat→Prop)(x:Value)(H:List TF)(z:Int)(y O m n:Nat)(F D:DataW Unit)(c:CS)(s:VS)(T bv:Value)(w:World)(K:Ck b d U x H z y O m n F D c w)(I:Y5 s)(hn:n≤4000)(M:w.ownsRow 0 128 2 T s.args.length (Bt s.args))(hu:∀k,T.ownBlock=some k→U k)(a5:∃P R Q,bv=.slice P R Q)(Y:s.kind≤10):
 Calls Tryz.prog 143 #[.pointer (some ⟨b,0,none⟩),.agg (Ej s T bv),.int .i64 a4] w fun e w'=>e=.returned (.tuple #[])∧(∃n',n'≤n+1∧Ck b d U x H z y O m n' F (Er F H s (D,c)).1 (Er F H s (D,c)).2 w')∧Ab (fun k=>k=b∨k=m) w w':=by
 obtain ⟨i,J,C,a0,E⟩:=s;simp only at Y M;obtain ⟨S,l1,V,rfl⟩:=Ad M;have a7:=Aq M;subst a7;obtain ⟨P,R,Q,rfl⟩:=a5;have lb:=Ae K.bB;have Z:=I.tg;have a3:=I.tp;have N:=I.sr;have X:=I.ar;have W:=I.al;simp only at Z a3 N X W;have A:dN (KS b d U x H z y O m n F D w.heap.size #[.int .i64 i,.string J.a9,.int .i64 J.c9,.string C.a9,.int .i64 C.c9,.int .i64 a0,.slice S E.length V,.slice P R Q] (.slice S E.length V) E w c (w.alloc (.cells #[.int .i64 i,.string J.a9,.int .i64 J.c9,.string C.a9,.int .i64 C.c9,.int .i64 a0,.slice S E.length V,.slice P R Q] 237))):=
  ⟨K.quiet ((Ab.refl (fun _=>False) w).alloc _),Ak.new _ _ _,(Ab.refl _ w).alloc _,Ac M ((Ab.refl (fun _=>False) w).alloc _) (fun _ _ q=>q),fun k Y e=>K.ub (e▸hu k Y),by omega⟩
 clear K M I;have a6:i=0∨i=1∨i=2∨i=3∨i=4∨i=5∨i=6∨i=7∨i=8∨i=9∨i=10:=by omega
 rcases a6 with rfl | rfl | rfl | rfl | rfl | rfl | rfl | rfl | rfl | rfl | rfl
 all_goals
  unfold Ej Er;simp only;go_enter Tryz.func143,Tryz.ntmps143
 ·go_wp2_with (go_at_call 115;refine (Js b x z (.map (some y)) m n D _ J _ A.o.k.bB A.o.k.l8 Z a3 hn).mono ?_);rintro e G ⟨rfl,g,hv,a⟩;have f:=Aa (A.o.k.cF g hv a);have O1:=Aa (A.o.o.trans a);clear g hv a;go_wp2;go_end0;exact ⟨rfl,⟨n+1,by omega,f.o⟩,O1.o⟩
 rotate_right
 ·go_wp2_with (go_at_call 163;refine (D8 b x z (.map (some y)) m n D _ C _ A.o.k.bB A.o.k.l8 N).mono ?_);rintro e G ⟨rfl,g,a⟩;have f:=Aa (A.o.step g a);obtain ⟨j,l,o,p,r,t,u,v⟩:=f.o.s.c8;simp only [dJ,dK] at j l o p r t u v;have L:=f.o.o.size;clear g a;go_wp2;go_end0;exact ⟨rfl,⟨n,by omega,f.o.k⟩,f.o.o⟩
 all_goals
  go_wp2_with (go_at_call 163;refine (D8 b x z (.map (some y)) m n D _ J _ A.o.k.bB A.o.k.l8 Z).mono ?_);rintro e G ⟨rfl,g,a⟩;have f:=Aa (A.o.step g a);obtain ⟨j,l,o,p,r,t,u,v⟩:=f.o.s.c8;simp only [dJ,dK] at j l o p r t u v;have L:=f.o.o.size;clear g a
 ·go_wp2;go_end0;exact ⟨rfl,⟨n,by omega,f.o.k⟩,f.o.o⟩
 rotate_left 2
 ·go_wp2_with (go_at_call 164;refine (I7 b x z (.map (some m)) y O F _ C _ f.o.k.bB f.o.k.bK N).mono ?_);rintro e G ⟨rfl,g,a⟩;have h:=Aa (f.o.step g a);obtain ⟨j,l,o,p,r,t,u,v⟩:=h.o.s.c8;simp only [dJ,dK] at j l o p r t u v;have L:=h.o.o.size;clear g a;go_wp2;go_end0;exact ⟨rfl,⟨n,by omega,h.o.k⟩,h.o.o⟩
 rotate_left 2
 ·go_wp2_with (go_at_call 165;refine (Pu b d U x H z (.map (some m)) y O F _ C E.length _ f.o.k.bB f.o.k.bK f.o.k.rows f.o.k.fin N f.o.k.bA).mono ?_);rintro e G ⟨rfl,g,a⟩;have h:=Aa (f.o.step g a);obtain ⟨j,l,o,p,r,t,u,v⟩:=h.o.s.c8;simp only [dJ,dK] at j l o p r t u v;have L:=h.o.o.size;clear g a;go_wp2_with (go_at_call 166;refine (EP b x z (.map (some y)) m n D _ E _ _ h.o.k.bB h.o.k.l8 h.o.a X W).mono ?_);rintro e G ⟨rfl,g,a⟩;have B:=Aa (h.o.step g a);obtain ⟨j,l,o,p,r,t,u,v⟩:=B.o.s.c8;simp only [dJ,dK] at j l o p r t u v;have L:=B.o.o.size;clear g a;go_wp2;go_end0;exact ⟨rfl,⟨n,by omega,B.o.k⟩,B.o.o⟩
 all_goals
  go_wp2_with (go_at_call 163;refine (D8 b x z (.map (some y)) m n D _ C _ f.o.k.bB f.o.k.l8 N).mono ?_);rintro e G ⟨rfl,g,a⟩;have h:=Aa (f.o.step g a);obtain ⟨j,l,o,p,r,t,u,v⟩:=h.o.s.c8;simp only [dJ,dK] at j l o p r t u v;have L:=h.o.o.size;clear g a
 ·go_wp2_with (go_at_call 166;refine (EP b x z (.map (some y)) m n D _ E _ _ h.o.k.bB h.o.k.l8 h.o.a X W).mono ?_);rintro e G ⟨rfl,g,a⟩;have B:=Aa (h.o.step g a);obtain ⟨j,l,o,p,r,t,u,v⟩:=B.o.s.c8;simp only [dJ,dK] at j l o p r t u v;have L:=B.o.o.size;clear g a;go_wp2;go_end0;exact ⟨rfl,⟨n,by omega,B.o.k⟩,B.o.o⟩
 all_goals
  go_wp2;go_end0;exact ⟨rfl,⟨n,by omega,h.o.k⟩,h.o.o⟩
def Kn(F:DataW Unit)(b:List TF):Nat→Nat→TS→DataW Unit×CS→DataW Unit×CS
 | 0,_,_,x=>x
 | d+1,a,.mk s c,x=>
   if s.kind=11∨s.kind=12 then c.foldl (fun x q=>q.2.foldl (fun x t=>Kn F b d (a+1) t x) (x.1,if 6<a+1 then BA 4 q.1 x.2 else x.2)) x
   else Er F b s x
def Nb(F:DataW Unit)(b:List TF)(d a:Nat)(q:Nat×List TS)(x:DataW Unit×CS):DataW Unit×CS:=
 q.2.foldl (fun x t=>Kn F b d a t x) (x.1,if 6<a then BA 4 q.1 x.2 else x.2)
def DC:Nat→TS→Nat
 | 0,_=>0
 | d+1,.mk _ a=>1+(a.map (fun q=>(q.2.map (DC d)).sum)).sum
def Na:Nat→TS→Prop
 | 0,_=>False
 | d+1,.mk s a=>Y5 s∧s.kind≤12∧a.length≤4000∧∀q,q∈a→q.2.length≤4000∧∀t,t∈q.2→Na d t
def Uj(d:Nat):Prop:=∀(b h a:Nat) (U:Nat→Prop) (i:Value) (f:List TF) (p:Int) (j o m n:Nat) (F D:DataW Unit) (c:CS) (t:TS) (g:Array Value) (w:World),
 Ck b h U i f p j o m n F D c w→BD d U w t g.toList→Na d t→n+DC d t≤4000→a+d≤4001→
 Calls Tryz.prog 143 #[.pointer (some ⟨b,0,none⟩),.agg g,.int .i64 a] w fun e q=>e=.returned (.tuple #[])∧(∃l,l≤n+DC d t∧Ck b h U i f p j o m l F (Kn F f d a t (D,c)).1 (Kn F f d a t (D,c)).2 q)∧Ab (fun k=>k=b∨k=m) w q
theorem Cn.get{d}{U:Nat→Prop}{w g l c q}(h:Cn d U w (.slice (some ⟨g,0,none⟩) l c) q){j}(B:j<q.length):
 ∃(s:VS) (a:Option Addr) (m f:Nat) (b:Option Addr) (n k:Nat),(∀i,i<8→w.cell? ⟨g,j*8+i,none⟩=(Ej s (.slice a m f) (.slice b n k))[i]?)∧BD d U w q[j] (Ej s (.slice a m f) (.slice b n k)).toList:=by
 obtain ⟨p,y,O,P,z⟩:=h;have F:=Aq y;subst F;have u:j<p.length:=by omega
 have v:∀i (o:i<q.length) (A:i<p.length),∃(s:VS) (a:Option Addr) (m f:Nat) (b:Option Addr) (n k:Nat),p[i]=(Ej s (.slice a m f) (.slice b n k)).toList:=by
  intro i o A;have r:=z i o A;generalize p[i]=N at r;generalize q[i]=t at r;cases d with
  | zero=>exact r.elim
  | succ d=> obtain ⟨s,L⟩:=t;obtain ⟨J,M,K,e,H,_,I,_⟩:=r;obtain ⟨a,m,f,rfl⟩:=Ad H;obtain ⟨b,n,k,rfl⟩:=Ad I;exact ⟨s,a,m,f,b,n,k,e⟩
 have E:∀x,x∈p→x.length=8:=by intro x G;obtain ⟨i,o,rfl⟩:=List.mem_iff_getElem.1 G;obtain ⟨_,_,_,_,_,_,_,C⟩:=v i (by omega) o;rw [C];rfl
 obtain ⟨s,a,m,f,b,n,k,e⟩:=v j B u;refine ⟨s,a,m,f,b,n,k,fun i o=>?_,by rw [←e];exact z j B u⟩;have D:=y.cellAt (j*8+i) (by omega);rw [D,Cz E u o,e];simp
theorem Em{A B:Type}(f:B→A→B)(l:List A)(k:Nat)(h:k<l.length)(x:B):(l.drop k).foldl f x=(l.drop (k+1)).foldl f (f x l[k]):=by rw [List.drop_eq_getElem_cons h];rfl
theorem OK(f:TS→Nat)(l:List TS)(k:Nat)(h:k<l.length):((l.drop k).map f).sum=f l[k]+((l.drop (k+1)).map f).sum:=by rw [List.drop_eq_getElem_cons h,List.map_cons,List.sum_cons]
theorem GT(d:Nat)(hS:Uj d)(b J h p:Nat)(U:Nat→Prop)(B:Value)(j:List TF)(H:Int)(G M m n:Nat)(F D:DataW Unit)(c:CS)(a:List TS)(sv:Value)(w:World)
 (K:Ck b J U B j H G M m n F D c w)(hR:Cn d U w sv a)(hO:∀t,t∈a→Na d t)(hn:n+(a.map (DC d)).sum≤4000)(hd:h+d≤4001)(hl:a.length≤4000):
 Calls Tryz.prog 116 #[.pointer (some ⟨b,0,none⟩),.agg #[.int .i64 p,sv],.int .i64 h] w fun e w'=>e=.returned (.tuple #[])∧(∃n',n'≤n+(a.map (DC d)).sum∧Ck b J U B j H G M m n' F (Nb F j d h (p,a) (D,c)).1 (Nb F j d h (p,a) (D,c)).2 w')∧Ab (fun k=>k=b∨k=m) w w':=by
 have X:=hR;obtain ⟨b4,v,_⟩:=X;obtain ⟨va,vl,vc,rfl⟩:=Ad v;have b3:=Aq v;subst b3;have lb:=Ae K.bB;have O:=Aa (K.quiet ((Ab.refl (fun _=>False) w).alloc (.cells #[.int .i64 p,.slice va a.length vc] 132)));have S0:=Aa (Ak.new w #[.int .i64 p,.slice va a.length vc] 132);have O0:=Aa ((Ab.refl (fun k=>k=b∨k=m) w).alloc (.cells #[.int .i64 p,.slice va a.length vc] 132));have R0:=Aa hR;have HS:=Aa hS;clear K hR v hS;by_cases h6:6<h
 ·have a9:(6:Int)<(h:Int):=by omega
  obtain ⟨l,L⟩:∃l,BA 4 p c=l:=⟨_,rfl⟩;generalize T:Nb F j d h (p,a) (D,c)=V;have N:dN ((a.drop 0).foldl (fun x t=>Kn F j d h t x) (D,l)=V):=by rw [←T,Nb,if_pos h6,L];rfl
  have C1:=Aa L;clear T L h6;go_enter Tryz.func116,Tryz.ntmps116;go_wp2_with (go_at_call 75;refine (BK b 4 p B H (.map (some G)) (.map (some m)) c _ O.o.bB).mono ?_);rw [C1.o];rintro e W ⟨rfl,kw,ow⟩;have P:=Aa (O.o.step kw ow);have I:=Aa (O0.o.trans (ow.mono (fun _ _ q=>.inl q)));have s0:=Ar (Ak.O S0.o ow (by omega)) 1;simp only [dM,dJ,dK] at s0;have z1:=I.o.size;clear kw ow O O0 S0;go_wp2;go_loopw [17] (fun i wr=>∃(k u:Nat) (o:DataW Unit) (r:CS),k≤a.length∧i=.int .i64 k∧u+((a.drop k).map (DC d)).sum≤n+(a.map (DC d)).sum∧dN (Ck b J U B j H G M m u F o r wr)∧dN (Ab (fun k=>k=b∨k=m) w wr)∧dN ((a.drop k).foldl (fun x t=>Kn F j d h t x) (o,r)=V)) (fun i _=>a.length-(intOf i).toNat)
  case atStart=>exact ⟨0,n,D,l,by omega,rfl,by simp,P,I,N⟩
  case round=>
   obtain ⟨k,u,o,r,b0,rfl,a4,y,z,a0⟩:=hrel;clear N P I;by_cases E:k<a.length
   ·have C:Cn d U wr (.slice va a.length vc) a:=Cn.O R0.o z.o (fun _ Y q=>q.elim (fun e=>y.o.ub (e▸Y)) (fun e=>y.o.um (e▸Y)));have X:=C;obtain ⟨a8,v,_⟩:=X;obtain ⟨g,rfl⟩:=AA v (by omega);have lg:=(v.lt g rfl).2;obtain ⟨s,Q,l1,l,R,l2,S,f,Z⟩:=C.get E;have f0:=f 0 (by omega);have f1:=f 1 (by omega);have f2:=f 2 (by omega);have f3:=f 3 (by omega);have f4:=f 4 (by omega);have f5:=f 5 (by omega);have f6:=f 6 (by omega);have f7:=f 7 (by omega);simp only [Ej,dM,dJ,dK,Nat.add_zero] at f0 f1 f2 f3 f4 f5 f6 f7;have a6:=Aa (Em (fun x t=>Kn F j d h t x) a k E (o,r));have b2:=OK (DC d) a k E;have a5:=Aa (hO a[k] (List.getElem_mem _));have a3:=Aa Z;clear v f C Z;generalize a[k]=t at*;have l0:=z.o.size;have A:=Aa ((Ab.refl (fun _=>False) wr).alloc (.cells #[.int .i64 s.kind,.string s.tg.a9,.int .i64 s.tg.c9,.string s.sr.a9,.int .i64 s.sr.c9,.int .i64 s.field,.slice Q l1 l,.slice R l2 S] 237));go_wp2_with (go_at_call 143;refine (HS.o b J h U B j H G M m u F o r t #[.int .i64 s.kind,.string s.tg.a9,.int .i64 s.tg.c9,.string s.sr.a9,.int .i64 s.sr.c9,.int .i64 s.field,.slice Q l1 l,.slice R l2 S] _ (y.o.quiet A.o) (BD.O a3.o A.o (fun _ _ q=>q)) a5.o (by omega) hd).mono ?_;rintro e w2 ⟨rfl,⟨n2,b1,k2⟩,o2⟩);go_round
    case rel=>exact ⟨k+1,n2,_,_,by omega,by go_num,by omega,Aa k2,Aa (z.o.trans ((A.o.mono (fun _ _ q=>q.elim)).trans o2)),Aa (a6.o.symm.trans a0.o)⟩
    case measure=>simp [intOf];omega
   ·have e:k=a.length:=by omega
    subst e;have a7:(o,r)=V:=by have:=a0.o;simpa using this
    subst a7;go_wp2;go_end0;simp at a4;exact ⟨rfl,⟨u,by omega,y.o⟩,z.o⟩
 ·have a9:¬(6:Int)<(h:Int):=by omega
  obtain ⟨l,L⟩:∃l,c=l:=⟨_,rfl⟩;generalize T:Nb F j d h (p,a) (D,c)=V;have N:dN ((a.drop 0).foldl (fun x t=>Kn F j d h t x) (D,l)=V):=by rw [←T,Nb,if_neg h6,L];rfl
  subst L;clear T h6;go_enter Tryz.func116,Tryz.ntmps116;go_wp2;have P:=O;have I:=O0;clear O O0 S0;go_loopw [17] (fun i wr=>∃(k u:Nat) (o:DataW Unit) (r:CS),k≤a.length∧i=.int .i64 k∧u+((a.drop k).map (DC d)).sum≤n+(a.map (DC d)).sum∧dN (Ck b J U B j H G M m u F o r wr)∧dN (Ab (fun k=>k=b∨k=m) w wr)∧dN ((a.drop k).foldl (fun x t=>Kn F j d h t x) (o,r)=V)) (fun i _=>a.length-(intOf i).toNat)
  case atStart=>exact ⟨0,n,D,c,by omega,rfl,by simp,P,I,N⟩
  case round=>
   obtain ⟨k,u,o,r,b0,rfl,a4,y,z,a0⟩:=hrel;clear N P I;by_cases E:k<a.length
   ·have C:Cn d U wr (.slice va a.length vc) a:=Cn.O R0.o z.o (fun _ Y q=>q.elim (fun e=>y.o.ub (e▸Y)) (fun e=>y.o.um (e▸Y)));have X:=C;obtain ⟨a8,v,_⟩:=X;obtain ⟨g,rfl⟩:=AA v (by omega);have lg:=(v.lt g rfl).2;obtain ⟨s,Q,l1,l,R,l2,S,f,Z⟩:=C.get E;have f0:=f 0 (by omega);have f1:=f 1 (by omega);have f2:=f 2 (by omega);have f3:=f 3 (by omega);have f4:=f 4 (by omega);have f5:=f 5 (by omega);have f6:=f 6 (by omega);have f7:=f 7 (by omega);simp only [Ej,dM,dJ,dK,Nat.add_zero] at f0 f1 f2 f3 f4 f5 f6 f7;have a6:=Aa (Em (fun x t=>Kn F j d h t x) a k E (o,r));have b2:=OK (DC d) a k E;have a5:=Aa (hO a[k] (List.getElem_mem _));have a3:=Aa Z;clear v f C Z;generalize a[k]=t at*;have l0:=z.o.size;have A:=Aa ((Ab.refl (fun _=>False) wr).alloc (.cells #[.int .i64 s.kind,.string s.tg.a9,.int .i64 s.tg.c9,.string s.sr.a9,.int .i64 s.sr.c9,.int .i64 s.field,.slice Q l1 l,.slice R l2 S] 237));go_wp2_with (go_at_call 143;refine (HS.o b J h U B j H G M m u F o r t #[.int .i64 s.kind,.string s.tg.a9,.int .i64 s.tg.c9,.string s.sr.a9,.int .i64 s.sr.c9,.int .i64 s.field,.slice Q l1 l,.slice R l2 S] _ (y.o.quiet A.o) (BD.O a3.o A.o (fun _ _ q=>q)) a5.o (by omega) hd).mono ?_;rintro e w2 ⟨rfl,⟨n2,b1,k2⟩,o2⟩);go_round
    case rel=>exact ⟨k+1,n2,_,_,by omega,by go_num,by omega,Aa k2,Aa (z.o.trans ((A.o.mono (fun _ _ q=>q.elim)).trans o2)),Aa (a6.o.symm.trans a0.o)⟩
    case measure=>simp [intOf];omega
   ·have e:k=a.length:=by omega
    subst e;have a7:(o,r)=V:=by have:=a0.o;simpa using this
    subst a7;go_wp2;go_end0;simp at a4;exact ⟨rfl,⟨u,by omega,y.o⟩,z.o⟩
def MF(d:Nat)(q:Nat×List TS):Nat:=(q.2.map (DC d)).sum
theorem Mj(f:Nat×List TS→Nat)(l:List (Nat×List TS))(k:Nat)(h:k<l.length):((l.drop k).map f).sum=f l[k]+((l.drop (k+1)).map f).sum:=by rw [List.drop_eq_getElem_cons h,List.map_cons,List.sum_cons]
theorem MH(d:Nat)(hS:Uj d)(b H f:Nat)(U:Nat→Prop)(I:Value)(h:List TF)(M:Int)(J L m n:Nat)(F D:DataW Unit)(c:CS)(s:VS)(a:List (Nat×List TS))(cs:Array Value)(w:World)
 (K:Ck b H U I h M J L m n F D c w)(hT:BD (d+1) U w (.mk s a) cs.toList)(hO:Na (d+1) (.mk s a))(hn:n+DC (d+1) (.mk s a)≤4000)(hd:f+(d+1)≤4001)(S:s.kind=11∨s.kind=12):
 Calls Tryz.prog 143 #[.pointer (some ⟨b,0,none⟩),.agg cs,.int .i64 f] w fun e w'=>e=.returned (.tuple #[])∧(∃n',n'≤n+DC (d+1) (.mk s a)∧Ck b H U I h M J L m n' F (a.foldl (fun x q=>Nb F h d (f+1) q x) (D,c)).1 (a.foldl (fun x q=>Nb F h d (f+1) q x) (D,c)).2 w')∧Ab (fun k=>k=b∨k=m) w w':=by
 obtain ⟨av,bv,a7,b0,ha,b3,a3,c3,a8,b1⟩:=hT;obtain ⟨ho,_,c4,b2⟩:=hO;obtain ⟨a1,l1,c1,rfl⟩:=Ad ha;obtain ⟨a2,l2,c2,rfl⟩:=Ad a3;have c0:=Aq a3;subst c0;have b4:cs=Ej s (.slice a1 l1 c1) (.slice a2 a.length c2):=Array.ext' b0;subst b4;have a9:DC (d+1) (.mk s a)=1+(a.map (MF d)).sum:=rfl;rw [a9] at hn⊢;have lb:=Ae K.bB;have b6:∃kd:Nat,s.kind=kd:=⟨_,rfl⟩;generalize hV:a.foldl (fun x q=>Nb F h d (f+1) q x) (D,c)=V;have HV:dN ((a.drop 0).foldl (fun x q=>Nb F h d (f+1) q x) (D,c)=V):=hV;have HS:=Aa hS;have HI:=Aa b1;have HB:=Aa a3;clear hV hS b1 b0 ha b3 a9 b6;rcases S with S | S
 ·have B:=Aa ((Ab.refl (fun _=>False) w).alloc (.cells #[.int .i64 11,.string s.tg.a9,.int .i64 s.tg.c9,.string s.sr.a9,.int .i64 s.sr.c9,.int .i64 s.field,.slice a1 l1 c1,.slice a2 a.length c2] 237));unfold Ej;rw [S,show ((11:Nat):Int)=11 from rfl];go_enter Tryz.func143,Tryz.ntmps143;go_wp2;go_loopw [89] (fun i wr=>∃(k v:Nat) (l:DataW Unit) (o:CS),k≤a.length∧i=.int .i64 k∧v+((a.drop k).map (MF d)).sum≤n+(1+(a.map (MF d)).sum)∧dN (Ck b H U I h M J L m v F l o wr)∧dN (Ab (fun k=>k=b∨k=m) w wr)∧dN ((a.drop k).foldl (fun x q=>Nb F h d (f+1) q x) (l,o)=V)) (fun i _=>a.length-(intOf i).toNat)
  case atStart=>exact ⟨0,n,D,c,by omega,rfl,by simp,Aa (K.quiet B.o),Aa (B.o.mono (fun _ _ q=>q.elim)),HV⟩
  case round=>
   obtain ⟨k,v,l,o,b7,rfl,a4,X,y,W⟩:=hrel;clear HV B;by_cases E:k<a.length
   ·have Q:∀j,U j→¬(j=b∨j=m):=fun _ z q=>q.elim (fun e=>K.ub (e▸z)) (fun e=>K.um (e▸z))
    have p:=Ac HB.o y.o (fun j z=>Q j (a8 j z));obtain ⟨sv,a0,e,r,Y,u,Z⟩:=HI.o k E (by omega);have hR:=Aa (Cn.O (d:=d) (U:=U) (w:=w) (sv:=sv) (sts:=a[k].2) ⟨a0,r,Y,u,Z⟩ y.o Q);obtain ⟨sa,sl,sc,rfl⟩:=Ad r;obtain ⟨g,rfl⟩:=AA p (by omega);have lg:=(p.lt g rfl).2;have G:∀x,x∈a7→x.length=2:=by intro x hx;obtain ⟨i,hi,rfl⟩:=List.mem_iff_getElem.1 hx;obtain ⟨_,_,e',_⟩:=HI.o i (by omega) hi;rw [e'];rfl
    have O:=p.cellAt (k*2) (by omega);have P:=p.cellAt (k*2+1) (by omega);have C:=Cz G (j:=k) (i:=0) (by omega) (by omega);have N:=Cz G (j:=k) (i:=1) (by omega) (by omega);rw [Nat.add_zero] at C;rw [C,e] at O;rw [N,e] at P;simp only [dJ,dK] at O P;have a5:=Aa (Em (fun x q=>Nb F h d (f+1) q x) a k E (l,o));have b9:=Mj (MF d) a k E;have T:=Aa (b2 a[k] (List.getElem_mem _));clear p r Z u e C N G Y;generalize a[k]=t at*;have l0:=y.o.size;have A:=Aa ((Ab.refl (fun _=>False) wr).alloc (.cells #[.int .i64 t.1,.slice sa sl sc] 132));have R:((f:Int)+1)=((f+1:Nat):Int):=by omega
    have b5:MF d t=(t.2.map (DC d)).sum:=rfl;have HD:=Aa R;clear R;go_wp2_with (go_at_call 116;rw [HD.o];refine (GT d HS.o b H (f+1) t.1 U I h M J L m v F l o t.2 (.slice sa sl sc) _ (X.o.quiet A.o) (Cn.O hR.o A.o (fun _ _ q=>q)) T.o.2 (by omega) (by omega) T.o.1).mono ?_;rintro e w2 ⟨rfl,⟨n2,b8,k2⟩,o2⟩);go_round
    case rel=>exact ⟨k+1,n2,_,_,by omega,by go_num,by omega,Aa k2,Aa (y.o.trans ((A.o.mono (fun _ _ q=>q.elim)).trans o2)),Aa (a5.o.symm.trans W.o)⟩
    case measure=>simp [intOf];omega
   ·have e:k=a.length:=by omega
    subst e;have a6:(l,o)=V:=by have:=W.o;simpa using this
    subst a6;go_wp2;go_end0;simp at a4;exact ⟨rfl,⟨v,by omega,X.o⟩,y.o⟩
 ·have B:=Aa ((Ab.refl (fun _=>False) w).alloc (.cells #[.int .i64 12,.string s.tg.a9,.int .i64 s.tg.c9,.string s.sr.a9,.int .i64 s.sr.c9,.int .i64 s.field,.slice a1 l1 c1,.slice a2 a.length c2] 237));unfold Ej;rw [S,show ((12:Nat):Int)=12 from rfl];go_enter Tryz.func143,Tryz.ntmps143;go_wp2;go_loopw [89] (fun i wr=>∃(k v:Nat) (l:DataW Unit) (o:CS),k≤a.length∧i=.int .i64 k∧v+((a.drop k).map (MF d)).sum≤n+(1+(a.map (MF d)).sum)∧dN (Ck b H U I h M J L m v F l o wr)∧dN (Ab (fun k=>k=b∨k=m) w wr)∧dN ((a.drop k).foldl (fun x q=>Nb F h d (f+1) q x) (l,o)=V)) (fun i _=>a.length-(intOf i).toNat)
  case atStart=>exact ⟨0,n,D,c,by omega,rfl,by simp,Aa (K.quiet B.o),Aa (B.o.mono (fun _ _ q=>q.elim)),HV⟩
  case round=>
   obtain ⟨k,v,l,o,b7,rfl,a4,X,y,W⟩:=hrel;clear HV B;by_cases E:k<a.length
   ·have Q:∀j,U j→¬(j=b∨j=m):=fun _ z q=>q.elim (fun e=>K.ub (e▸z)) (fun e=>K.um (e▸z))
    have p:=Ac HB.o y.o (fun j z=>Q j (a8 j z));obtain ⟨sv,a0,e,r,Y,u,Z⟩:=HI.o k E (by omega);have hR:=Aa (Cn.O (d:=d) (U:=U) (w:=w) (sv:=sv) (sts:=a[k].2) ⟨a0,r,Y,u,Z⟩ y.o Q);obtain ⟨sa,sl,sc,rfl⟩:=Ad r;obtain ⟨g,rfl⟩:=AA p (by omega);have lg:=(p.lt g rfl).2;have G:∀x,x∈a7→x.length=2:=by intro x hx;obtain ⟨i,hi,rfl⟩:=List.mem_iff_getElem.1 hx;obtain ⟨_,_,e',_⟩:=HI.o i (by omega) hi;rw [e'];rfl
    have O:=p.cellAt (k*2) (by omega);have P:=p.cellAt (k*2+1) (by omega);have C:=Cz G (j:=k) (i:=0) (by omega) (by omega);have N:=Cz G (j:=k) (i:=1) (by omega) (by omega);rw [Nat.add_zero] at C;rw [C,e] at O;rw [N,e] at P;simp only [dJ,dK] at O P;have a5:=Aa (Em (fun x q=>Nb F h d (f+1) q x) a k E (l,o));have b9:=Mj (MF d) a k E;have T:=Aa (b2 a[k] (List.getElem_mem _));clear p r Z u e C N G Y;generalize a[k]=t at*;have l0:=y.o.size;have A:=Aa ((Ab.refl (fun _=>False) wr).alloc (.cells #[.int .i64 t.1,.slice sa sl sc] 132));have R:((f:Int)+1)=((f+1:Nat):Int):=by omega
    have b5:MF d t=(t.2.map (DC d)).sum:=rfl;have HD:=Aa R;clear R;go_wp2_with (go_at_call 116;rw [HD.o];refine (GT d HS.o b H (f+1) t.1 U I h M J L m v F l o t.2 (.slice sa sl sc) _ (X.o.quiet A.o) (Cn.O hR.o A.o (fun _ _ q=>q)) T.o.2 (by omega) (by omega) T.o.1).mono ?_;rintro e w2 ⟨rfl,⟨n2,b8,k2⟩,o2⟩);go_round
    case rel=>exact ⟨k+1,n2,_,_,by omega,by go_num,by omega,Aa k2,Aa (y.o.trans ((A.o.mono (fun _ _ q=>q.elim)).trans o2)),Aa (a5.o.symm.trans W.o)⟩
    case measure=>simp [intOf];omega
   ·have e:k=a.length:=by omega
    subst e;have a6:(l,o)=V:=by have:=W.o;simpa using this
    subst a6;go_wp2;go_end0;simp at a4;exact ⟨rfl,⟨v,by omega,X.o⟩,y.o⟩
theorem LQ:∀d,Uj d
 | 0=>fun _ _ _ _ _ _ _ _ _ _ _ _ _ _ _ _ _ _ h _ _ _=>h.elim
 | d+1=>by
   intro b u g U v f B z A m n F D c t r w K h i N M
   obtain ⟨s,a⟩:=t;by_cases j:s.kind=11∨s.kind=12
   ·have k:Kn F f (d+1) g (.mk s a) (D,c)=a.foldl (fun x q=>Nb F f d (g+1) q x) (D,c):=by simp only [Kn,if_pos j];rfl
    rw [k]
    exact MH d (LQ d) b u g U v f B z A m n F D c s a r w K h i N M j
   ·have k:Kn F f (d+1) g (.mk s a) (D,c)=Er F f s (D,c):=by simp only [Kn,if_neg j]
    rw [k];have S:DC (d+1) (.mk s a)=1+(a.map (fun q=>(q.2.map (DC d)).sum)).sum:=rfl;obtain ⟨o,Q,P,J,G,H,I,_⟩:=h;obtain ⟨l,y,p,rfl⟩:=Ad I;have L:r=Ej s o (.slice l y p):=Array.ext' J;subst L;refine (Qy b u g U v f B z A m n F D c s o _ w K i.1 (by omega) G H ⟨l,y,p,rfl⟩ (by have:=i.2.1;omega)).mono ?_;rintro e T ⟨rfl,⟨O,R,C⟩,E⟩;exact ⟨rfl,⟨O,by omega,C⟩,E⟩
def RA(l:List PT)(x:DataW Unit×CS):DataW Unit×CS:=l.foldl (fun x t=>(GJ x.1 t,El x.1 t x.2)) x
end Go.Proofs.YtegmjgjkcdbmkaaGreatDoor

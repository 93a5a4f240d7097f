/- One of the texts of the proof of runs_card_holds: CkF CkG EqG. -/
import Derived.Test.YthppbgndiplgnaaGreatDoorG14
set_option maxRecDepth 100000
set_option maxHeartbeats 20000000
namespace Go.Proofs.YthppbgndiplgnaaGreatDoor
open Go.RowKit Go.Maps
structure Ck(b d:Nat)(U:Nat→Prop)(fs:Value)(fns:List TF)(stop:Int)(mf nf m n:Nat)(F D:DataW Unit)(c:CS)(w:World):Prop where
 YC:CN b fs stop (.map (some mf)) (.map (some m)) c w
 m9:Bh m n D w
 YJ:Bh mf nf F w
 rows:DF d U w fs fns
 fin:J2 F fns.length
 Yx:fns.length≤4001
 ne:m≠mf
 ub:¬U b
 um:¬U m
theorem Ck.f8{b d}{U:Nat→Prop}{g f j e i m n F D c w w'}{X:Nat→Prop}(h:Ck b d U g f j e i m n F D c w)(a:Ab X w w')(l:¬X b)(o:¬X m)(p:¬X e)(q:∀k,U k→¬X k):Ck b d U g f j e i m n F D c w':=
 ⟨Ar.f8 h.YC a l,h.m9.f8 a o,h.YJ.f8 a p,h.rows.f8 a q,h.fin,h.Yx,h.ne,h.ub,h.um⟩
theorem Ck.quiet{b d}{U:Nat→Prop}{e a i f g m n F D c w j}(h:Ck b d U e a i f g m n F D c w)(k:Ab (fun _=>False) w j):Ck b d U e a i f g m n F D c j:=
 h.f8 k (fun q=>q) (fun q=>q) (fun q=>q) (fun _ _ q=>q)
theorem Ck.step{b d}{U:Nat→Prop}{a l g f o m n F D c j w i}(h:Ck b d U a l g f o m n F D c w)(p:CN b a g (.map (some f)) (.map (some m)) j i)(e:Ab (fun k=>k=b) w i):Ck b d U a l g f o m n F D j i:=
 ⟨p,h.m9.f8 e (h.m9.ne h.YC),h.YJ.f8 e (h.YJ.ne h.YC),h.rows.f8 e (fun _ r q=>h.ub (q▸r)),h.fin,h.Yx,h.ne,h.ub,h.um⟩
theorem Ck.ZA{b d}{U:Nat→Prop}{f o i g t m n s F D j c l w a}(h:Ck b d U f o i g t m n F D c w)(u:CN b f i (.map (some g)) (.map (some m)) l a)(v:Bh m s j a)(r:Ab (fun k=>k=b∨k=m) w a):Ck b d U f o i g t m s F j l a:=
 ⟨u,v,h.YJ.f8 r (fun q=>q.elim (h.YJ.ne h.YC) (fun e=>h.ne e.symm)),h.rows.f8 r (fun _ p q=>q.elim (fun e=>h.ub (e▸p)) (fun e=>h.um (e▸p))),h.fin,h.Yx,h.ne,h.ub,h.um⟩
structure Xf(s:VS):Prop where
 tg:s.tg.i6.size≤4000
 tp:s.tg.i9≤4000
 sr:s.sr.i6.size≤4000
 ar:∀t,t∈s.args→t.i6.size≤4000
 al:s.args.length≤4000
def ES(F:DataW Unit)(a:List TF)(s:VS)(x:DataW Unit×CS):DataW Unit×CS:=
 match s.kind with
 | 0=>(G8 x.1 s.tg,EM x.1 s.tg x.2)
 | 1=>(x.1,Cx x.1 s.tg x.2)
 | 4=>(x.1,Cx F s.sr (Cx x.1 s.tg x.2))
 | 7=>(x.1,Fj x.1 s.args (Ee F a s.sr s.args.length (Cx x.1 s.tg x.2)))
 | 8=>(x.1,Fj x.1 s.args (Cx x.1 s.sr (Cx x.1 s.tg x.2)))
 | 10=>(x.1,Cx x.1 s.sr x.2)
 | _=>(x.1,Cx x.1 s.sr (Cx x.1 s.tg x.2))
structure KS(b d:Nat)(U:Nat→Prop)(fs:Value)(fns:List TF)(stop:Int)(mf nf m n:Nat)(F D:DataW Unit)(sb:Nat)(sc:Array Value)(av:Value)(ar:List PT)(w0:World)(c:CS)(w:World):Prop where
 k:Ck b d U fs fns stop mf nf m n F D c w
 s:Ar sb sc 197 w
 o:Ab (fun k=>k=b∨k=m) w0 w
 a:w.ownsRow 0 92 2 av ar.length (BG ar)
 u:∀k,av.ownBlock=some k→k≠b
 e:sb≠b
theorem KS.step{b d}{U:Nat→Prop}{e p g f r m n F D s t l j u w i c o}(h:KS b d U e p g f r m n F D s t l j u c w)(v:CN b e g (.map (some f)) (.map (some m)) o i)(a:Ab (fun k=>k=b) w i):KS b d U e p g f r m n F D s t l j u o i:=
 ⟨h.k.step v a,Ar.f8 h.s a h.e,h.o.trans (a.mono (fun _ _ q=>.inl q)),Ac h.a a h.u,h.u,h.e⟩
theorem Ar.c8{b:Nat}{l:List Value}{t:TypeId}{w:World}(h:Ar b l.toArray t w):w.cell? ⟨b,0,none⟩=l[0]? ∧w.cell? ⟨b,1,none⟩=l[1]? ∧w.cell? ⟨b,2,none⟩=l[2]? ∧w.cell? ⟨b,3,none⟩=l[3]? ∧w.cell? ⟨b,4,none⟩=l[4]? ∧w.cell? ⟨b,5,none⟩=l[5]? ∧w.cell? ⟨b,6,none⟩=l[6]? ∧w.cell? ⟨b,7,none⟩=l[7]? :=by refine ⟨?_,?_,?_,?_,?_,?_,?_,?_⟩<;>rw [h.cell]<;>simp
theorem Qq(b d a4:Nat)(U:Nat→Prop)(x:Value)(H:List TF)(z:Int)(y O m n:Nat)(F D:DataW Unit)(c:CS)(s:VS)(T bv:Value)(w:World)(K:Ck b d U x H z y O m n F D c w)(I:Xf s)(hn:n≤4000)(M:w.ownsRow 0 92 2 T s.args.length (BG s.args))(hu:∀k,T.ownBlock=some k→U k)(a5:∃P R Q,bv=.slice P R Q)(Y:s.kind≤10):
 Calls Tryz.prog 102 #[.pointer (some ⟨b,0,none⟩),.agg (EH s T bv),.int .i64 a4] w fun e w'=>e=.returned (.tuple #[])∧(∃n',n'≤n+1∧Ck b d U x H z y O m n' F (ES F H s (D,c)).1 (ES F H s (D,c)).2 w')∧Ab (fun k=>k=b∨k=m) w w':=by
 obtain ⟨i,J,C,a0,E⟩:=s;simp only at Y M;obtain ⟨S,l1,V,rfl⟩:=Ad M;have a7:=Ah M;subst a7;obtain ⟨P,R,Q,rfl⟩:=a5;have lb:=Ae K.YC;have Z:=I.tg;have a3:=I.tp;have N:=I.sr;have X:=I.ar;have W:=I.al;simp only at Z a3 N X W;have A:dJ (KS b d U x H z y O m n F D w.heap.size #[.int .i64 i,.string J.i6,.int .i64 J.i9,.string C.i6,.int .i64 C.i9,.int .i64 a0,.slice S E.length V,.slice P R Q] (.slice S E.length V) E w c (w.alloc (.cells #[.int .i64 i,.string J.i6,.int .i64 J.i9,.string C.i6,.int .i64 C.i9,.int .i64 a0,.slice S E.length V,.slice P R Q] 197))):=
  ⟨K.quiet ((Ab.refl (fun _=>False) w).alloc _),Ar.new _ _ _,(Ab.refl _ w).alloc _,Ac M ((Ab.refl (fun _=>False) w).alloc _) (fun _ _ q=>q),fun k Y e=>K.ub (e▸hu k Y),by omega⟩
 clear K M I;have a6:i=0∨i=1∨i=2∨i=3∨i=4∨i=5∨i=6∨i=7∨i=8∨i=9∨i=10:=by omega
 rcases a6 with rfl | rfl | rfl | rfl | rfl | rfl | rfl | rfl | rfl | rfl | rfl
 all_goals
  unfold EH ES;simp only;go_enter Tryz.func102,Tryz.ntmps102
 ·go_wp2_with (go_at_call 81;refine (Jo b x z (.map (some y)) m n D _ J _ A.o.k.YC A.o.k.m9 Z a3 hn).mono ?_);rintro e G ⟨rfl,g,hv,a⟩;have f:=Aa (A.o.k.ZA g hv a);have O1:=Aa (A.o.o.trans a);clear g hv a;go_wp2;go_end0;exact ⟨rfl,⟨n+1,by omega,f.o⟩,O1.o⟩
 rotate_right
 ·go_wp2_with (go_at_call 120;refine (Ev b x z (.map (some y)) m n D _ C _ A.o.k.YC A.o.k.m9 N).mono ?_);rintro e G ⟨rfl,g,a⟩;have f:=Aa (A.o.step g a);obtain ⟨j,l,o,p,r,t,u,v⟩:=f.o.s.c8;simp only [aS,aT] at j l o p r t u v;have L:=f.o.o.size;clear g a;go_wp2;go_end0;exact ⟨rfl,⟨n,by omega,f.o.k⟩,f.o.o⟩
 all_goals
  go_wp2_with (go_at_call 120;refine (Ev b x z (.map (some y)) m n D _ J _ A.o.k.YC A.o.k.m9 Z).mono ?_);rintro e G ⟨rfl,g,a⟩;have f:=Aa (A.o.step g a);obtain ⟨j,l,o,p,r,t,u,v⟩:=f.o.s.c8;simp only [aS,aT] at j l o p r t u v;have L:=f.o.o.size;clear g a
 ·go_wp2;go_end0;exact ⟨rfl,⟨n,by omega,f.o.k⟩,f.o.o⟩
 rotate_left 2
 ·go_wp2_with (go_at_call 121;refine (I4 b x z (.map (some m)) y O F _ C _ f.o.k.YC f.o.k.YJ N).mono ?_);rintro e G ⟨rfl,g,a⟩;have h:=Aa (f.o.step g a);obtain ⟨j,l,o,p,r,t,u,v⟩:=h.o.s.c8;simp only [aS,aT] at j l o p r t u v;have L:=h.o.o.size;clear g a;go_wp2;go_end0;exact ⟨rfl,⟨n,by omega,h.o.k⟩,h.o.o⟩
 rotate_left 2
 ·go_wp2_with (go_at_call 122;refine (Pj b d U x H z (.map (some m)) y O F _ C E.length _ f.o.k.YC f.o.k.YJ f.o.k.rows f.o.k.fin N f.o.k.Yx).mono ?_);rintro e G ⟨rfl,g,a⟩;have h:=Aa (f.o.step g a);obtain ⟨j,l,o,p,r,t,u,v⟩:=h.o.s.c8;simp only [aS,aT] at j l o p r t u v;have L:=h.o.o.size;clear g a;go_wp2_with (go_at_call 123;refine (Fu b x z (.map (some y)) m n D _ E _ _ h.o.k.YC h.o.k.m9 h.o.a X W).mono ?_);rintro e G ⟨rfl,g,a⟩;have B:=Aa (h.o.step g a);obtain ⟨j,l,o,p,r,t,u,v⟩:=B.o.s.c8;simp only [aS,aT] at j l o p r t u v;have L:=B.o.o.size;clear g a;go_wp2;go_end0;exact ⟨rfl,⟨n,by omega,B.o.k⟩,B.o.o⟩
 all_goals
  go_wp2_with (go_at_call 120;refine (Ev b x z (.map (some y)) m n D _ C _ f.o.k.YC f.o.k.m9 N).mono ?_);rintro e G ⟨rfl,g,a⟩;have h:=Aa (f.o.step g a);obtain ⟨j,l,o,p,r,t,u,v⟩:=h.o.s.c8;simp only [aS,aT] at j l o p r t u v;have L:=h.o.o.size;clear g a
 ·go_wp2_with (go_at_call 123;refine (Fu b x z (.map (some y)) m n D _ E _ _ h.o.k.YC h.o.k.m9 h.o.a X W).mono ?_);rintro e G ⟨rfl,g,a⟩;have B:=Aa (h.o.step g a);obtain ⟨j,l,o,p,r,t,u,v⟩:=B.o.s.c8;simp only [aS,aT] at j l o p r t u v;have L:=B.o.o.size;clear g a;go_wp2;go_end0;exact ⟨rfl,⟨n,by omega,B.o.k⟩,B.o.o⟩
 all_goals
  go_wp2;go_end0;exact ⟨rfl,⟨n,by omega,h.o.k⟩,h.o.o⟩
def Kf(F:DataW Unit)(b:List TF):Nat→Nat→TS→DataW Unit×CS→DataW Unit×CS
 | 0,_,_,x=>x
 | d+1,a,.mk s c,x=>
   if s.kind=11∨s.kind=12 then c.foldl (fun x q=>q.2.foldl (fun x t=>Kf F b d (a+1) t x) (x.1,if 6<a+1 then BK 4 q.1 x.2 else x.2)) x
   else ES F b s x
def Nc(F:DataW Unit)(b:List TF)(d a:Nat)(q:Nat×List TS)(x:DataW Unit×CS):DataW Unit×CS:=
 q.2.foldl (fun x t=>Kf F b d a t x) (x.1,if 6<a then BK 4 q.1 x.2 else x.2)
def Cw:Nat→TS→Nat
 | 0,_=>0
 | d+1,.mk _ a=>1+(a.map (fun q=>(q.2.map (Cw d)).sum)).sum
def Nb:Nat→TS→Prop
 | 0,_=>False
 | d+1,.mk s a=>Xf s∧s.kind≤12∧a.length≤4000∧∀q,q∈a→q.2.length≤4000∧∀t,t∈q.2→Nb d t
def Te(d:Nat):Prop:=∀(b h a:Nat) (U:Nat→Prop) (i:Value) (f:List TF) (p:Int) (j o m n:Nat) (F D:DataW Unit) (c:CS) (t:TS) (g:Array Value) (w:World),
 Ck b h U i f p j o m n F D c w→BU d U w t g.toList→Nb d t→n+Cw d t≤4000→a+d≤4001→
 Calls Tryz.prog 102 #[.pointer (some ⟨b,0,none⟩),.agg g,.int .i64 a] w fun e q=>e=.returned (.tuple #[])∧(∃l,l≤n+Cw d t∧Ck b h U i f p j o m l F (Kf F f d a t (D,c)).1 (Kf F f d a t (D,c)).2 q)∧Ab (fun k=>k=b∨k=m) w q
theorem CU.get{d}{U:Nat→Prop}{w g l c q}(h:CU d U w (.slice (some ⟨g,0,none⟩) l c) q){j}(B:j<q.length):
 ∃(s:VS) (a:Option Addr) (m f:Nat) (b:Option Addr) (n k:Nat),(∀i,i<8→w.cell? ⟨g,j*8+i,none⟩=(EH s (.slice a m f) (.slice b n k))[i]?)∧BU d U w q[j] (EH s (.slice a m f) (.slice b n k)).toList:=by
 obtain ⟨p,y,O,P,z⟩:=h;have F:=Ah y;subst F;have u:j<p.length:=by omega
 have v:∀i (o:i<q.length) (A:i<p.length),∃(s:VS) (a:Option Addr) (m f:Nat) (b:Option Addr) (n k:Nat),p[i]=(EH s (.slice a m f) (.slice b n k)).toList:=by
  intro i o A;have r:=z i o A;generalize p[i]=N at r;generalize q[i]=t at r;cases d with
  | zero=>exact r.elim
  | succ d=> obtain ⟨s,L⟩:=t;obtain ⟨J,M,K,e,H,_,I,_⟩:=r;obtain ⟨a,m,f,rfl⟩:=Ad H;obtain ⟨b,n,k,rfl⟩:=Ad I;exact ⟨s,a,m,f,b,n,k,e⟩
 have E:∀x,x∈p→x.length=8:=by intro x G;obtain ⟨i,o,rfl⟩:=bS.1 G;obtain ⟨_,_,_,_,_,_,_,C⟩:=v i (by omega) o;rw [C];rfl
 obtain ⟨s,a,m,f,b,n,k,e⟩:=v j B u;refine ⟨s,a,m,f,b,n,k,fun i o=>?_,by rw [←e];exact z j B u⟩;have D:=y.cellAt (j*8+i) (by omega);rw [D,BN E u o,e];simp
theorem EP{A B:Type}(f:B→A→B)(l:List A)(k:Nat)(h:k<l.length)(x:B):(l.drop k).foldl f x=(l.drop (k+1)).foldl f (f x l[k]):=by rw [bG h];rfl
theorem OM(f:TS→Nat)(l:List TS)(k:Nat)(h:k<l.length):((l.drop k).map f).sum=f l[k]+((l.drop (k+1)).map f).sum:=by rw [bG h,bX,cF]
theorem Hn(d:Nat)(hS:Te d)(b J h p:Nat)(U:Nat→Prop)(B:Value)(j:List TF)(H:Int)(G M m n:Nat)(F D:DataW Unit)(c:CS)(a:List TS)(sv:Value)(w:World)
 (K:Ck b J U B j H G M m n F D c w)(hR:CU d U w sv a)(hO:∀t,t∈a→Nb d t)(hn:n+(a.map (Cw d)).sum≤4000)(hd:h+d≤4001)(hl:a.length≤4000):
 Calls Tryz.prog 82 #[.pointer (some ⟨b,0,none⟩),.agg #[.int .i64 p,sv],.int .i64 h] w fun e w'=>e=.returned (.tuple #[])∧(∃n',n'≤n+(a.map (Cw d)).sum∧Ck b J U B j H G M m n' F (Nc F j d h (p,a) (D,c)).1 (Nc F j d h (p,a) (D,c)).2 w')∧Ab (fun k=>k=b∨k=m) w w':=by
 have X:=hR;obtain ⟨b4,v,_⟩:=X;obtain ⟨va,vl,vc,rfl⟩:=Ad v;have b3:=Ah v;subst b3;have lb:=Ae K.YC;have O:=Aa (K.quiet ((Ab.refl (fun _=>False) w).alloc (.cells #[.int .i64 p,.slice va a.length vc] 96)));have S0:=Aa (Ar.new w #[.int .i64 p,.slice va a.length vc] 96);have O0:=Aa ((Ab.refl (fun k=>k=b∨k=m) w).alloc (.cells #[.int .i64 p,.slice va a.length vc] 96));have R0:=Aa hR;have HS:=Aa hS;clear K hR v hS;by_cases h6:6<h
 ·have a9:(6:Int)<(h:Int):=by omega
  obtain ⟨l,L⟩:∃l,BK 4 p c=l:=⟨_,rfl⟩;generalize T:Nc F j d h (p,a) (D,c)=V;have N:dJ ((a.drop 0).foldl (fun x t=>Kf F j d h t x) (D,l)=V):=by rw [←T,Nc,cU h6,L];rfl
  have C1:=Aa L;clear T L h6;go_enter Tryz.func82,Tryz.ntmps82;go_wp2_with (go_at_call 49;refine (Cg b 4 p B H (.map (some G)) (.map (some m)) c _ O.o.YC).mono ?_);rw [C1.o];rintro e W ⟨rfl,kw,ow⟩;have P:=Aa (O.o.step kw ow);have I:=Aa (O0.o.trans (ow.mono (fun _ _ q=>.inl q)));have s0:=Ao (Ar.f8 S0.o ow (by omega)) 1;simp only [aU,aS,aT] at s0;have z1:=I.o.size;clear kw ow O O0 S0;go_wp2;go_loopw [17] (fun i wr=>∃(k u:Nat) (o:DataW Unit) (r:CS),k≤a.length∧i=.int .i64 k∧u+((a.drop k).map (Cw d)).sum≤n+(a.map (Cw d)).sum∧dJ (Ck b J U B j H G M m u F o r wr)∧dJ (Ab (fun k=>k=b∨k=m) w wr)∧dJ ((a.drop k).foldl (fun x t=>Kf F j d h t x) (o,r)=V)) (fun i _=>a.length-(intOf i).toNat)
  case atStart=>exact ⟨0,n,D,l,by omega,rfl,by simp,P,I,N⟩
  case round=>
   obtain ⟨k,u,o,r,b0,rfl,a4,y,z,a0⟩:=hrel;clear N P I;by_cases E:k<a.length
   ·have C:CU d U wr (.slice va a.length vc) a:=CU.f8 R0.o z.o (fun _ Y q=>q.elim (fun e=>y.o.ub (e▸Y)) (fun e=>y.o.um (e▸Y)));have X:=C;obtain ⟨a8,v,_⟩:=X;obtain ⟨g,rfl⟩:=As v (by omega);have lg:=(v.lt g rfl).2;obtain ⟨s,Q,l1,l,R,l2,S,f,Z⟩:=C.get E;have f0:=f 0 (by omega);have f1:=f 1 (by omega);have f2:=f 2 (by omega);have f3:=f 3 (by omega);have f4:=f 4 (by omega);have f5:=f 5 (by omega);have f6:=f 6 (by omega);have f7:=f 7 (by omega);simp only [EH,aU,aS,aT,bK] at f0 f1 f2 f3 f4 f5 f6 f7;have a6:=Aa (EP (fun x t=>Kf F j d h t x) a k E (o,r));have b2:=OM (Cw d) a k E;have a5:=Aa (hO a[k] (bD _));have a3:=Aa Z;clear v f C Z;generalize a[k]=t at*;have l0:=z.o.size;have A:=Aa ((Ab.refl (fun _=>False) wr).alloc (.cells #[.int .i64 s.kind,.string s.tg.i6,.int .i64 s.tg.i9,.string s.sr.i6,.int .i64 s.sr.i9,.int .i64 s.field,.slice Q l1 l,.slice R l2 S] 197));go_wp2_with (go_at_call 102;refine (HS.o b J h U B j H G M m u F o r t #[.int .i64 s.kind,.string s.tg.i6,.int .i64 s.tg.i9,.string s.sr.i6,.int .i64 s.sr.i9,.int .i64 s.field,.slice Q l1 l,.slice R l2 S] _ (y.o.quiet A.o) (BU.f8 a3.o A.o (fun _ _ q=>q)) a5.o (by omega) hd).mono ?_;rintro e w2 ⟨rfl,⟨n2,b1,k2⟩,o2⟩);go_round
    case rel=>exact ⟨k+1,n2,_,_,by omega,by go_num,by omega,Aa k2,Aa (z.o.trans ((A.o.mono (fun _ _ q=>q.elim)).trans o2)),Aa (a6.o.symm.trans a0.o)⟩
    case measure=>simp [intOf];omega
   ·have e:k=a.length:=by omega
    subst e;have a7:(o,r)=V:=by have:=a0.o;simpa using this
    subst a7;go_wp2;go_end0;simp at a4;exact ⟨rfl,⟨u,by omega,y.o⟩,z.o⟩
 ·have a9:¬(6:Int)<(h:Int):=by omega
  obtain ⟨l,L⟩:∃l,c=l:=⟨_,rfl⟩;generalize T:Nc F j d h (p,a) (D,c)=V;have N:dJ ((a.drop 0).foldl (fun x t=>Kf F j d h t x) (D,l)=V):=by rw [←T,Nc,cT h6,L];rfl
  subst L;clear T h6;go_enter Tryz.func82,Tryz.ntmps82;go_wp2;have P:=O;have I:=O0;clear O O0 S0;go_loopw [17] (fun i wr=>∃(k u:Nat) (o:DataW Unit) (r:CS),k≤a.length∧i=.int .i64 k∧u+((a.drop k).map (Cw d)).sum≤n+(a.map (Cw d)).sum∧dJ (Ck b J U B j H G M m u F o r wr)∧dJ (Ab (fun k=>k=b∨k=m) w wr)∧dJ ((a.drop k).foldl (fun x t=>Kf F j d h t x) (o,r)=V)) (fun i _=>a.length-(intOf i).toNat)
  case atStart=>exact ⟨0,n,D,c,by omega,rfl,by simp,P,I,N⟩
  case round=>
   obtain ⟨k,u,o,r,b0,rfl,a4,y,z,a0⟩:=hrel;clear N P I;by_cases E:k<a.length
   ·have C:CU d U wr (.slice va a.length vc) a:=CU.f8 R0.o z.o (fun _ Y q=>q.elim (fun e=>y.o.ub (e▸Y)) (fun e=>y.o.um (e▸Y)));have X:=C;obtain ⟨a8,v,_⟩:=X;obtain ⟨g,rfl⟩:=As v (by omega);have lg:=(v.lt g rfl).2;obtain ⟨s,Q,l1,l,R,l2,S,f,Z⟩:=C.get E;have f0:=f 0 (by omega);have f1:=f 1 (by omega);have f2:=f 2 (by omega);have f3:=f 3 (by omega);have f4:=f 4 (by omega);have f5:=f 5 (by omega);have f6:=f 6 (by omega);have f7:=f 7 (by omega);simp only [EH,aU,aS,aT,bK] at f0 f1 f2 f3 f4 f5 f6 f7;have a6:=Aa (EP (fun x t=>Kf F j d h t x) a k E (o,r));have b2:=OM (Cw d) a k E;have a5:=Aa (hO a[k] (bD _));have a3:=Aa Z;clear v f C Z;generalize a[k]=t at*;have l0:=z.o.size;have A:=Aa ((Ab.refl (fun _=>False) wr).alloc (.cells #[.int .i64 s.kind,.string s.tg.i6,.int .i64 s.tg.i9,.string s.sr.i6,.int .i64 s.sr.i9,.int .i64 s.field,.slice Q l1 l,.slice R l2 S] 197));go_wp2_with (go_at_call 102;refine (HS.o b J h U B j H G M m u F o r t #[.int .i64 s.kind,.string s.tg.i6,.int .i64 s.tg.i9,.string s.sr.i6,.int .i64 s.sr.i9,.int .i64 s.field,.slice Q l1 l,.slice R l2 S] _ (y.o.quiet A.o) (BU.f8 a3.o A.o (fun _ _ q=>q)) a5.o (by omega) hd).mono ?_;rintro e w2 ⟨rfl,⟨n2,b1,k2⟩,o2⟩);go_round
    case rel=>exact ⟨k+1,n2,_,_,by omega,by go_num,by omega,Aa k2,Aa (z.o.trans ((A.o.mono (fun _ _ q=>q.elim)).trans o2)),Aa (a6.o.symm.trans a0.o)⟩
    case measure=>simp [intOf];omega
   ·have e:k=a.length:=by omega
    subst e;have a7:(o,r)=V:=by have:=a0.o;simpa using this
    subst a7;go_wp2;go_end0;simp at a4;exact ⟨rfl,⟨u,by omega,y.o⟩,z.o⟩
def Lt:Nat→Nat→List Nat→Prop
 | i,j,[]=>i≤j
 | i,j,p::a=>i≤p∧Lt (p+1) j a
theorem Lt.left:∀{c:List Nat} {i b j:Nat},Lt i j c→b≤i→Lt b j c
 | [],_,_,_,h,a=>bJ a h
 | _::_,_,_,_,h,a=>⟨bJ a h.1,h.2⟩
theorem Lt.right:∀{c:List Nat} {i j b:Nat},Lt i j c→j≤b→Lt i b c
 | [],_,_,_,h,a=>bJ h a
 | _::_,_,_,_,h,a=>⟨h.1,h.2.right a⟩
theorem Lt.le:∀{a:List Nat} {i j:Nat},Lt i j a→i+a.length≤j
 | [],_,_,h=>h
 | p::a,i,j,h=>by have:=h.2.le;have:=h.1;simp only [aX];omega
theorem Lt.snoc:∀{a:List Nat} {i j:Nat},Lt i j a→Lt i (j+1) (a++[j])
 | [],_,_,h=>⟨h,aV _⟩
 | _::_,_,_,h=>⟨h.1,h.2.snoc⟩
inductive Dj {A:Type} (R:Nat→Nat→A→Prop):Nat→Nat→List A→Prop
 | nil {i j:Nat} (h:i≤j):Dj R i j []
 | cons {i m j:Nat} {a:A} {l:List A} (h:R i m a) (t:Dj R m j l):Dj R i j (a::l)
theorem Dj.snoc{A:Type}{R:Nat→Nat→A→Prop}{i m j:Nat}{l:List A}{a:A}(h:Dj R i m l)(d:∀b i j a,R i j a→b≤i→R b j a)(r:R m j a)(c:m≤j):Dj R i j (l++[a]):=by
 induction h with
 | nil h=>exact .cons (d _ _ _ _ r h) (.nil (aV _))
 | cons h _ e=>exact .cons h (e r c)
theorem Dj.mono{A}{R S:Nat→Nat→A→Prop}{i j l}(h:Dj R i j l)(k:∀i j a,R i j a→S i j a):Dj S i j l:=by
 induction h with
 | nil h=>exact .nil h
 | cons h _ b=>exact .cons (k _ _ _ h) b
theorem Dj.le{A}{R:Nat→Nat→A→Prop}{i j l}(h:Dj R i j l)(k:∀i j a,R i j a→i<j):i+l.length≤j:=by
 induction h with
 | nil h=>exact h
 | cons h _ b=>have:=k _ _ _ h;simp only [aX];omega
theorem Dj.low{A}{R S:Nat→Nat→A→Prop}{i j i0 j0 l}(h:Dj R i j l)(c:∀i j a,R i j a→i<j)(k:∀a b x,i0≤a→b≤j0→R a b x→S a b x)(d:i0≤i)(e:j≤j0):Dj S i j l:=by
 induction h with
 | nil h=>exact .nil h
 | cons h t f=> have q:=c _ _ _ h;have g:=t.le c;exact .cons (k _ _ _ d (by omega) h) (f (by omega) e)
def Wo(v:VS):List PT:=if v.kind=1 then [] else if v.kind=7∨v.kind=8 then v.sr::v.args else [v.sr]
def WB(s:VS):List PT:=if s.kind=0∨s.kind=1 then [s.tg] else if s.kind=10 then [s.sr] else if s.kind=7∨s.kind=8 then s.tg::s.sr::s.args else [s.tg,s.sr]
def Ct(toks:List PT):Nat→Nat→Nat→TS→Prop
 | 0,_,_,_=>False
 | d+1,i,j,.mk s b=>i<j∧j<toks.length∧
   ((b=[]∧s.kind≤10∧Xf s∧(s.kind≠7→s.kind≠8→s.args=[])∧∃f,WB s=f.map (Aj toks)∧Lt i j f)∨
    (∃k a m,b=[((Aj toks k).i9,a)]∧(s=Eo 11∨s=Eo 12)∧i<k∧Dj (Ct toks d) (k+1) m a∧m<j)∨
    (∃k a m c g e,b=[((Aj toks k).i9,a),((Aj toks c).i9,g)]∧s=Eo 11∧i<k∧Dj (Ct toks d) (k+1) m a∧m<c∧Dj (Ct toks d) (c+1) e g∧e<j))
theorem Ct.lt{toks d i j t}(h:Ct toks d i j t):i<j:=by
 match d,t,h with
 | d+1,.mk s a,h=>exact h.1
theorem Ct.left{toks d i n j t}(h:Ct toks d i j t)(r:n≤i):Ct toks d n j t:=by
 match d,t,h with
 | d+1,.mk s z,h=>
   obtain ⟨A,p,q⟩:=h;refine ⟨by omega,p,?_⟩;rcases q with ⟨a,b,c,g,x,e,f⟩ | ⟨k,l,m,a,b,c,e⟩ | ⟨k,l,m,v,y,w,a,b,c,e⟩
   ·exact .inl ⟨a,b,c,g,x,e,f.left r⟩
   ·exact .inr (.inl ⟨k,l,m,a,b,by omega,e⟩)
   ·exact .inr (.inr ⟨k,l,m,v,y,w,a,b,by omega,e⟩)
theorem Ct.up{toks:List PT}:∀{d i j:Nat} {t:TS},Ct toks d i j t→Ct toks (d+1) i j t
 | 0,_,_,_,h=>h.elim
 | d+1,i,j,.mk s y,h=>by
   obtain ⟨n,p,q⟩:=h;refine ⟨n,p,?_⟩;rcases q with h | ⟨k,l,m,a,b,c,e,f⟩ | ⟨k,l,m,v,x,w,a,b,c,e,f,g,h⟩
   ·exact .inl h
   ·exact .inr (.inl ⟨k,l,m,a,b,c,e.mono (fun _ _ _ r=>r.up),f⟩)
   ·exact .inr (.inr ⟨k,l,m,v,x,w,a,b,c,e.mono (fun _ _ _ r=>r.up),f,g.mono (fun _ _ _ r=>r.up),h⟩)
theorem Ct.lower{toks:List PT}:∀{d i j:Nat} {t:TS} (e:Nat),Ct toks d i j t→j-i≤e→Ct toks e i j t
 | 0,_,_,_,_,h,_=>h.elim
 | d+1,i,j,.mk s n,0,h,A=>by have:=h.1;omega
 | d+1,i,j,.mk s n,e+1,h,A=>by
   obtain ⟨p,v,w⟩:=h;refine ⟨p,v,?_⟩;have L:∀(a b:Nat) (l:List TS),i+1≤a→b≤j→Dj (Ct toks d) a b l→Dj (Ct toks e) a b l:=fun a b l y z r=> r.low (i0:=i+1) (j0:=j) (fun _ _ _ q=>q.lt) (fun E F x G H q=>Ct.lower e q (by omega)) y z
   rcases w with h | ⟨k,l,m,a,b,c,q,f⟩ | ⟨k,l,m,B,D,C,a,b,c,q,f,g,h⟩
   ·exact .inl h
   ·exact .inr (.inl ⟨k,l,m,a,b,c,L _ _ _ (by omega) (by omega) q,f⟩)
   ·have:=g.le (fun _ _ _ q=>q.lt);have:=q.le (fun _ _ _ q=>q.lt);exact .inr (.inr ⟨k,l,m,B,D,C,a,b,c,L _ _ _ (by omega) (by omega) q,f,L _ _ _ (by omega) (by omega) g,h⟩)
theorem ST(toks n x):(Ch toks n x).1.kind≠7→(Ch toks n x).1.kind≠8→(Ch toks n x).1.args=[]:=by
 unfold Ch;split
 ·intro _ _;rfl
 ·split
  ·unfold EJ;simp only;split<;>(intro _ _;rfl)
  ·split
   ·intro _ _;rfl
   ·split
    ·intro _ _;rfl
    ·split
     ·intro _ h;exact dC rfl h
     ·split
      ·intro h;exact dC rfl h
      ·intro _ _;rfl
theorem Oe(toks n x):(AX toks n x).1.kind≠7→(AX toks n x).1.kind≠8→(AX toks n x).1.args=[]:=by
 unfold AX;split
 ·intro _ _;rfl
 ·split
  ·intro _ _;rfl
  ·split
   ·intro _ _;rfl
   ·exact ST _ _ _
section
variable {N : Nat} {toks : List PT} (H : TksOk N toks) (o : N ≤ 4000) (u : toks.length ≤ 4001)
include H
theorem KP(p:Nat):(Aj toks p).i6.size≤N∧(Aj toks p).i9≤N:=by
 rcases cJ p toks.length with q | q
 ·exact H.len _ (GA q)
 ·unfold Aj;rw [bV q];exact ⟨bI _,bI _⟩
theorem DV(k:Nat)(x:PS):(AH toks k x).i6.size≤N∧(AH toks k x).i9≤N:=by
 unfold AH;split
 ·exact KP H _
 ·exact ⟨bI _,bI _⟩
omit H in
theorem MM:∀(f:Nat) (x:PS) (a:List PT),∃b,(Dx toks f x a).1=a++b.map (Aj toks)∧Lt x.i8 (Dx toks f x a).2.i8 b∧(Dx toks f x a).2.Ye=x.Ye
 | 0,x,a=>⟨[],by simp [Dx],aV _,rfl⟩
 | f+1,x,a=>by
   rw [Dx];split
   ·obtain ⟨b,c,d,e⟩:=MM f ⟨x.i8+1,x.Ye,x.Yy⟩ (a++[Aj toks x.i8]);exact ⟨x.i8::b,by rw [c];simp,⟨aV _,d⟩,e⟩
   ·exact ⟨[],by simp,aV _,rfl⟩
omit H in
theorem Hw{x}(h:(Bm toks toks.length x).2.Ye=false):x.Ye=false∧∃a,(Bm toks toks.length x).1=a.map (Aj toks)∧Lt (x.i8+1) (Bm toks toks.length x).2.i8 a∧x.i8+2≤(Bm toks toks.length x).2.i8:=by unfold Bm at h⊢;simp only at h⊢;obtain ⟨a,e,c,f⟩:=MM (toks:=toks) toks.length (Af toks toks.length 10 x) [];have b:=C7 (k:=11) (by decide) h;rw [f] at b;have d:=C7 (k:=10) (by decide) b.1;have:=c.le;rw [d.2.1] at c this;exact ⟨d.1,a,by simpa using e,c.right (by rw [b.2.1];omega),by rw [b.2.1];omega⟩
theorem N6{x:PS}:∀t,t∈(Bm toks toks.length x).1→t.i6.size≤N∧t.i9≤N:=by
 intro t a;obtain ⟨c,b,_,_⟩:=MM (toks:=toks) toks.length (Af toks toks.length 10 x) [];have e:(Bm toks toks.length x).1=c.map (Aj toks):=by unfold Bm;simpa using b
 rw [e] at a;obtain ⟨p,_,rfl⟩:=cG.1 a;exact KP H p
theorem Vj{x:PS}(h:(Ch toks toks.length x).2.Ye=false):x.Ye=false∧x.i8<(Ch toks toks.length x).2.i8∧(∃d,Wo (Ch toks toks.length x).1=d.map (Aj toks)∧Lt x.i8 (Ch toks toks.length x).2.i8 d)∧(Ch toks toks.length x).1.sr.i6.size≤N∧(∀t,t∈(Ch toks toks.length x).1.args→t.i6.size≤N)∧x.i8+(Ch toks toks.length x).1.args.length≤(Ch toks toks.length x).2.i8:=by
 have T:=fun (k:Nat) (b:k≠0) {x:PS} (h:(Af toks toks.length k x).Ye=false)=>C7 b h
 have Z:(BF:PT).i6.size≤N:=bI _;unfold Ch at h⊢;split at h
 ·rename_i b;rw [cU b];have t:=T 5 (by decide) h;simp only at t⊢;exact ⟨t.1,by omega,⟨[],rfl,show x.i8≤_ by omega⟩,Z,by simp,by simp;omega⟩
 rename_i v;rw [cT v];split at h
 ·rename_i b;rw [cU b];unfold EJ at h⊢;simp only at h⊢;split at h
  ·rename_i j;rw [cU j];have m:=T 2 (by decide) h;have g:=T 19 (by decide) m.1;have c:=T 1 (by decide) g.1;have a:=T 16 (by decide) c.1;simp only;refine ⟨a.1,by omega,⟨[(Af toks toks.length 16 x).i8],by simp [Wo,c.2.2.1],⟨by omega,show _≤_ by omega⟩⟩,(DV H _ _).1,by simp,by simp;omega⟩
  ·rename_i j;rw [cT j];have c:=T 1 (by decide) h;have a:=T 16 (by decide) c.1;simp only;refine ⟨a.1,by omega,⟨[(Af toks toks.length 16 x).i8],by simp [Wo,c.2.2.1],⟨by omega,show _≤_ by omega⟩⟩,(DV H _ _).1,by simp,by simp;omega⟩
 rename_i p;rw [cT p];split at h
 ·rename_i b;rw [cU b];have c:=T 1 (by decide) h;have a:=T 17 (by decide) c.1;simp only at c⊢;refine ⟨a.1,by omega,⟨[(Af toks toks.length 17 x).i8],by simp [Wo,c.2.2.1],⟨by omega,show _≤_ by omega⟩⟩,(DV H _ _).1,by simp,by simp;omega⟩
 rename_i r;rw [cT r];split at h
 ·rename_i b;rw [cU b];have c:=T 1 (by decide) h;have a:=T 18 (by decide) c.1;simp only at c⊢;refine ⟨a.1,by omega,⟨[(Af toks toks.length 18 x).i8],by simp [Wo,c.2.2.1],⟨by omega,show _≤_ by omega⟩⟩,(DV H _ _).1,by simp,by simp;omega⟩
 rename_i s;rw [cT s];split at h
 ·rename_i b;rw [cU b];unfold Ih at h⊢;simp only at h⊢;obtain ⟨l,d,e,f,w⟩:=Hw h;have m:=T 11 (by decide) l;have g:=T 1 (by decide) m.1;have c:=T 17 (by decide) g.1;have a:=T 10 (by decide) c.1;have q:=f.le;have y:(Bm toks toks.length (Af toks toks.length 11 (Af toks toks.length 1 (Af toks toks.length 17 (Af toks toks.length 10 x))))).1.length=d.length:=by rw [e];simp
  refine ⟨a.1,by omega,⟨(Af toks toks.length 17 (Af toks toks.length 10 x)).i8::d,by simp [Wo,g.2.2.1,e],⟨by omega,f.left (by omega)⟩⟩,(DV H _ _).1,fun t i=>(N6 H t i).1,by omega⟩
 rename_i n;rw [cT n];split at h
 ·rename_i b;rw [cU b];simp only at h⊢;obtain ⟨l,d,e,f,w⟩:=Hw h;have a:=T 1 (by decide) l;have q:=f.le;have y:(Bm toks toks.length (Af toks toks.length 1 x)).1.length=d.length:=by rw [e];simp
  refine ⟨a.1,by omega,⟨x.i8::d,by simp [Wo,a.2.2.1,e],⟨by omega,f.left (by omega)⟩⟩,(DV H _ _).1,fun t i=>(N6 H t i).1,by omega⟩
 ·rename_i b;rw [cT b];have a:=T 1 (by decide) h;simp only at a⊢;refine ⟨a.1,by omega,⟨[x.i8],by simp [Wo,a.2.2.1],⟨by omega,show _≤_ by omega⟩⟩,(DV H _ _).1,by simp,by simp;omega⟩
include o u
theorem PN{x:PS}(h:(AX toks toks.length x).2.Ye=false)(e:(AX toks toks.length x).2.i8<toks.length):x.Ye=false∧x.i8<(AX toks toks.length x).2.i8∧(AX toks toks.length x).1.kind≤10∧Xf (AX toks toks.length x).1∧∃g,WB (AX toks toks.length x).1=g.map (Aj toks)∧Lt x.i8 (AX toks toks.length x).2.i8 g:=by
 have T:=fun (k:Nat) (c:k≠0) {x:PS} (h:(Af toks toks.length k x).Ye=false)=>C7 c h
 have l:(BF:PT).i6.size≤4000:=bI _;have n:(BF:PT).i9≤4000:=bI _;have d:=fun (k:Nat) (x:PS)=>bJ (DV H k x).1 o
 have i:=fun (k:Nat) (x:PS)=>bJ (DV H k x).2 o
 unfold AX at h e⊢;split at h
 ·rename_i c;rw [cU c];have a:=T 1 (by decide) h;have b:=T 4 (by decide) a.1;simp only at a⊢;exact ⟨b.1,by omega,by omega,⟨d _ _,i _ _,l,by simp,by simp⟩,[(Af toks toks.length 4 x).i8],by simp [WB,a.2.2.1],⟨by omega,show _≤_ by omega⟩⟩
 rename_i r;rw [cT r] at e⊢;split at h
 ·rename_i c;rw [cU c];have a:=T 1 (by decide) h;have b:=T 6 (by decide) a.1;simp only at a⊢;exact ⟨b.1,by omega,by omega,⟨l,n,d _ _,by simp,by simp⟩,[(Af toks toks.length 6 x).i8],by simp [WB,a.2.2.1],⟨by omega,show _≤_ by omega⟩⟩
 rename_i s;rw [cT s] at e⊢;split at h
 ·rename_i c;rw [cU c];have j:=T 1 (by decide) h;have w:=T 15 (by decide) j.1;have a:=T 1 (by decide) w.1;have b:=T 17 (by decide) a.1;simp only at j⊢;exact ⟨b.1,by omega,by omega,⟨d _ _,i _ _,d _ _,by simp,by simp⟩,[(Af toks toks.length 17 x).i8,(Af toks toks.length 15 (Af toks toks.length 1 (Af toks toks.length 17 x))).i8],by simp [WB,a.2.2.1,j.2.2.1],⟨by omega,by omega,show _≤_ by omega⟩⟩
 ·rename_i q;rw [cT q] at e⊢;simp only at h e⊢;have D:=OP toks toks.length (Af toks toks.length 15 (Af toks toks.length 1 x));obtain ⟨y,E,⟨g,z,A⟩,B,C,F⟩:=Vj H h;have a:=T 15 (by decide) y;have b:=T 1 (by decide) a.1;generalize (Ch toks toks.length (Af toks toks.length 15 (Af toks toks.length 1 x))).1=v at*;refine ⟨b.1,by omega,by omega,⟨d _ _,i _ _,bJ B o,fun t p=>bJ (C t p) o,by simp only;omega⟩,x.i8::g,?_,⟨by omega,A.left (by omega)⟩⟩;rw [bX,←z,b.2.2.1];unfold WB Wo;simp only;by_cases m:v.kind=1
  ·simp [m]
  ·rw [cT (by omega),cT (by omega),cT m];by_cases f:v.kind=7∨v.kind=8
   ·rw [cU f,cU f]
   ·rw [cT f,cT f]
omit H o u in
theorem Xp{p}(h:CQ (Aj toks p).kind):p<toks.length:=by
 rcases cJ p toks.length with q | q
 ·exact q
 ·unfold Aj at h;rw [bV q] at h;simp [CQ,BF] at h
theorem Rn:∀f:Nat,
 (∀(x:PS) (l:List TS),x.i8<toks.length→2*(toks.length-x.i8)+1≤f→(AO toks toks.length f x l).2.Ye=false→x.Ye=false∧∃j,(AO toks toks.length f x l).1=l++j∧Dj (Ct toks f) x.i8 (AO toks toks.length f x l).2.i8 j)∧
 (∀(x:PS),x.i8<toks.length→2*(toks.length-x.i8)≤f→(Bt toks toks.length f x).2.Ye=false→x.Ye=false∧Ct toks f x.i8 (Bt toks toks.length f x).2.i8 (Bt toks toks.length f x).1):=by
 have T:=fun (k:Nat) (hk:k≠0) {x:PS} (h:(Af toks toks.length k x).Ye=false)=>C7 hk h
 have c:=fun (k:Nat) {x:PS} (hc:x.i8<toks.length)=>Ag (n:=toks.length) H.end_ k hc
 intro f;induction f with
 | zero=>exact ⟨fun x l d G=>by omega,fun x d G=>by omega⟩
 | succ f s=>
   refine ⟨fun x l d G h=>?_,fun x d G h=>?_⟩
   ·rw [AO] at h⊢;split at h
    ·rename_i w;rw [cU w];obtain ⟨C,a0⟩:∃C,f=C+1:=⟨f-1,by omega⟩;have hm:x.i8+1≤(Bt toks toks.length f x).2.i8:=by subst a0;exact Hz H.end_ C d w
     have hg:=Ga H.end_ f x d;obtain ⟨A,j,O,B⟩:=s.1 _ _ hg.2 (by omega) h;obtain ⟨X,Y⟩:=s.2 x d (by omega) A;exact ⟨X,(Bt toks toks.length f x).1::j,by rw [O];simp,.cons Y.up (B.mono (fun _ _ _ q=>q.up))⟩
    ·rename_i w;rw [cT w];exact ⟨h,[],by simp,.nil (aV _)⟩
   ·have a:=(Ga H.end_ (f+1) x d).2;rw [Bt] at h a⊢;split at h
    ·rename_i y;rw [cU y] at a⊢;simp only at h a⊢;have m1:=BW (n:=toks.length) y (by decide);have F:=c 7 d;have m:=c 20 F.2;have g:=c 12 m.2;have P:=BE H.end_ f _ [] g.2;have Q:=c 13 P.2;have i1:=s.1 (Af toks toks.length 12 (Af toks toks.length 20 (Af toks toks.length 7 x))) [] g.2 (by have:=m.1;have:=g.1;omega);have N:(Af toks toks.length 13 (AO toks toks.length f (Af toks toks.length 12 (Af toks toks.length 20 (Af toks toks.length 7 x))) []).2).Ye=false→x.Ye=false∧x.i8+2=(Af toks toks.length 20 (Af toks toks.length 7 x)).i8∧(AH toks 12 (Af toks toks.length 20 (Af toks toks.length 7 x)))=Aj toks (Af toks toks.length 20 (Af toks toks.length 7 x)).i8∧Dj (Ct toks f) ((Af toks toks.length 20 (Af toks toks.length 7 x)).i8+1) (AO toks toks.length f (Af toks toks.length 12 (Af toks toks.length 20 (Af toks toks.length 7 x))) []).2.i8 (AO toks toks.length f (Af toks toks.length 12 (Af toks toks.length 20 (Af toks toks.length 7 x))) []).1∧(AO toks toks.length f (Af toks toks.length 12 (Af toks toks.length 20 (Af toks toks.length 7 x))) []).2.i8+1=(Af toks toks.length 13 (AO toks toks.length f (Af toks toks.length 12 (Af toks toks.length 20 (Af toks toks.length 7 x))) []).2).i8:=by intro h;have K:=T 13 (by decide) h;obtain ⟨t,j,e,b⟩:=i1 K.1;have i:=T 12 (by decide) t;have J:=T 20 (by decide) i.1;have v:=T 7 (by decide) J.1;simp only [cR] at e;rw [e];rw [i.2.1] at b;exact ⟨v.1,by omega,i.2.2.1,b,by omega⟩
     have a8:x.i8+1≤(Af toks toks.length 13 (AO toks toks.length f (Af toks toks.length 12 (Af toks toks.length 20 (Af toks toks.length 7 x))) []).2).i8:=by have:=m.1;have:=g.1;have:=P.1;have:=Q.1;omega
     generalize Af toks toks.length 20 (Af toks toks.length 7 x)=M at*;generalize AO toks toks.length f (Af toks toks.length 12 M) []=r at*;split at h
     ·rename_i I;rw [cU I] at a⊢;simp only at h a⊢;have R:=c 8 Q.2;have S:=c 12 R.2;have i2:=s.1 (Af toks toks.length 12 (Af toks toks.length 8 (Af toks toks.length 13 r.2))) [] S.2 (by have:=R.1;have:=S.1;omega);have w5:=T 13 (by decide) h;obtain ⟨t,a7,e,b⟩:=i2 w5.1;have L:=T 12 (by decide) t;have w2:=T 8 (by decide) L.1;obtain ⟨D,Z,E,p,f5⟩:=N w2.1;simp only [cR] at e;rw [L.2.1] at b;have l1:=p.le (fun _ _ _ q=>q.lt);have l2:=b.le (fun _ _ _ q=>q.lt);refine ⟨D,by omega,a,.inr (.inr ⟨M.i8,r.1,r.2.i8,(Af toks toks.length 8 (Af toks toks.length 13 r.2)).i8,a7,_,?_,rfl,by omega,p,by omega,b,by omega⟩)⟩;rw [E,L.2.2.1,e]
     ·rename_i I;rw [cT I] at a⊢;simp only at h a⊢;obtain ⟨D,Z,E,p,f5⟩:=N h;have l1:=p.le (fun _ _ _ q=>q.lt);refine ⟨D,by omega,a,.inr (.inl ⟨M.i8,r.1,r.2.i8,?_,.inl rfl,by omega,p,by omega⟩)⟩;rw [E]
    ·rename_i y;rw [cT y] at a⊢;split at h
     ·rename_i z;rw [cU z] at a⊢;simp only at h a⊢;have m1:=BW (n:=toks.length) z (by decide);have F:=c 9 d;have m:=c 20 F.2;have g:=c 12 m.2;have K:=T 13 (by decide) h;obtain ⟨t,j,e,b⟩:=s.1 _ [] g.2 (by have:=m.1;have:=g.1;omega) K.1;have i:=T 12 (by decide) t;have J:=T 20 (by decide) i.1;have v:=T 9 (by decide) J.1;have l2:=b.le (fun _ _ _ q=>q.lt);simp only [cR] at e;rw [i.2.1] at b;refine ⟨v.1,by omega,a,.inr (.inl ⟨(Af toks toks.length 20 (Af toks toks.length 9 x)).i8,j,_,?_,.inr rfl,by omega,b,by omega⟩)⟩;rw [i.2.2.1,e]
     ·rename_i z;rw [cT z] at a⊢;simp only at h a⊢;have v:=T 14 (by decide) h;obtain ⟨A,O,B,U,ps,V,W⟩:=PN H o u v.1 (by omega);exact ⟨A,by omega,a,.inl ⟨rfl,B,U,Oe _ _ _,ps,V,W.right (by omega)⟩⟩
end
end Go.Proofs.YthppbgndiplgnaaGreatDoor

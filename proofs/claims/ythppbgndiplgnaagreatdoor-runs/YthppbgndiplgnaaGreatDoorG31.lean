/- One of the texts of the proof of runs_card_holds: RuF RuH RuI RuJ RuK. -/
import Derived.Test.YthppbgndiplgnaaGreatDoorG30
import Derived.Test.YthppbgndiplgnaaGreatDoorG26
set_option maxRecDepth 100000
set_option maxHeartbeats 4000000
namespace Go.Proofs.YthppbgndiplgnaaGreatDoor
open Go.RowKit
theorem Dk.push{a m B d X S e l v' f p w W b cl}(h:Dk a m B d X S e l f p w)(r:Ab (fun _=>False) w W)(s:W.grownBy b e.ownBlock)(o:b.ownsRow B 123 4 v' (S.c.i7.length+1) (Jb d X S.c.i7++Tb d X S.c.i7.length cl)):
 Dk a m B d X {S with c:={S.c with i7:=S.c.i7++[cl]}} v' l f p (b.setCell ⟨a,1,none⟩ v')∧Be a B w (b.setCell ⟨a,1,none⟩ v'):=by
 have n:Ab (fun k=>e.ownBlock=some k) w b:=Ab.grown (r.mono (fun _ _ q=>q.elim)) s (fun j u=>.inl u);have hF:Be a B w b:=n.mono (fun k C q=>by
  refine .inr ⟨(h.i7.lt k q).1,?_⟩;rcases h.i7.2 with ⟨x,_⟩ | ⟨A,y,z,v,_,t,_⟩
  ·rw [x] at q;simp [Value.ownBlock] at q
  ·rw [v] at q;simp [Value.ownBlock] at q;subst q;exact ⟨_,_,t⟩)
 have i:Ab (fun k=>k=a) b (b.setCell ⟨a,1,none⟩ v'):=(Ab.refl _ _).p7 1 _;have g:Ar a (F7 m e f S l) 39 b:=h.l9.f8 n (fun q=>Ap h.i7 h.l9 (by decide) a q rfl);refine ⟨⟨g.set 1 _,h.Yz,?_,Ac (hF.row h.row h.l9 (by decide) (by decide)) i (Ap (hF.row h.row h.l9 (by decide) (by decide)) g (by decide)),h.sn,h.lb⟩,hF.trans (Be.Yu i)⟩;show (b.setCell ⟨a,1,none⟩ v').ownsRow B _ 4 v' (S.c.i7++[cl]).length (Jb d X (S.c.i7++[cl]));rw [RO,aZ];exact Ac o i (Ap o g (by decide))
theorem Be.YO{b B g f c}{U:Nat→Prop}{e j i d l X S w k}(m:Be g B w k)(a:A7 g b B l X S w)(h:Ls b B U e j i d f c w):Ls b B U e j i d f c k:=by obtain ⟨o,p,n,q,a⟩:=a;exact h.ZY m a.l9
theorem Be.ZM{m B c b i X S w f e d v n g}(l:Be c B w f)(a:A7 c m B i X S w)(h:w.ownsRow b e d v n g)(j:e≠39)(k:e≠123):f.ownsRow b e d v n g:=by obtain ⟨p,q,o,r,a⟩:=a;exact l.row h a.l9 j k
structure OZ(fn:List ByteArray)(par:List Nat)(X:List XF)(rf:List RF)(fs:List FS):Prop where
 h:Vr fn X rf
 x:XOk fn par X
 Yd:∀f (hf:f<rf.length),OY fs f (Aq X f).Yg rf[f].Yd (Aq X f).pl (Aq X f).ca
 Z6:∀f,f<rf.length→CT (Aq X f).Yg≤4001
 Yn:∀f (hf:f<rf.length),rf[f].Yn.length=(Aq X f).p8
 Z9:fs.length≤4001
def Fh(F:Nat):Prop:=∀(h j B:Nat) (U:Nat→Prop) (q s:Value) (k:List RF) (i:List FS) (r p:Nat) (a:List ByteArray) (n:List Nat) (X:List XF) (c d:Nat) (b:List TS) (l:List Nat) (m:Value) (g f K:Nat) (S:RS) (w:World),
 OZ a n X k i→A7 h j B a X S w→Ls j B U q s k i r p w→Mx K a.length S→K≤150000→S.left<F→S.m8+S.left≤5000→S.Yl≤40→S.Yi=0→c<k.length→d+(Aq X c).m9.length≤S.c.i7.length→Pa a n (Aq X c).m9 b→g+nL 1 b≤4000→f+nL 8 b≤4000→OY i c b l g f→AD B w m l→CT b≤4001→
 Calls Tryz.prog 41 #[.pointer (some ⟨h,0,none⟩),m,.int .i64 d] w fun e o=>e=.returned (.bool (AA X a F c d b g f S).1)∧A7 h j B a X (AA X a F c d b g f S).2 o∧Be h B w o
abbrev XM:Array Value:=#[.string ByteArray.empty,.int .i64 0,.int .i64 0,.int .i64 0]
theorem Tryz.infoCell:(Tryz.prog.info? 123).map (fun i=>(i.zero,i.size,i.bytes))=some (some (.agg XM),4,40):=by kernel_rfl
theorem WN(s):∀u∈[Value.string s,.int .i64 0,.int .i64 (-1),.int .i64 0],u.oneCell'=true:=by intro x a;simp only [cM,bU,or_false] at a;rcases a with rfl | rfl | rfl | rfl<;>rfl
theorem J6(l v):∀(a:Nat) (c:Co),CH (l++[v]) a c=(CH l a c).set (a+l.length) v:=by
 induction l with
 | nil=>intro a c;rfl
 | cons u l b=> intro a c;simp only [List.cons_append,CH,b,aX];congr 1;omega
theorem Mt(c:Co)(f k:Nat):{(c.m9 f k) with i7:=(c.m9 f k).i7++[⟨⟨0,f,k⟩,DL⟩]}=c.m9 f (k+1):=by unfold Co.m9;simp only [List.range_succ,dD,List.map_singleton,cX]
theorem Ot(d m B:Nat)(j:List ByteArray)(X:List XF)(f:Nat)(g:Value)(S:RS)(w:World)(b:A7 d m B j X S w)(q:∃a l c,g=.slice a l c)(k:S.Yl=40):
 Calls Tryz.prog 18 #[.pointer (some ⟨d,0,none⟩),.int .i64 f,g] w fun e n=>e=.returned (.bool false)∧A7 d m B j X {S with Yi:=4} n∧Be d B w n:=by
 obtain ⟨a,l,c,rfl⟩:=q;obtain ⟨y,z,t,A,b⟩:=b;have x:=Ae b.l9;have r:=b.l9.cell 5;have s:=b.l9.cell 6;have u:=b.l9.frozen;simp only [F7,aU,aS,aT] at r s;obtain ⟨h,i⟩:=b.wrote (S':={S with Yi:=4}) 6 (.int .i64 4) rfl b.Yz rfl rfl rfl;have o:=Aa h;have p:=Aa i;have v:((S.Yl:Int)==40)=true:=by simp [k]
 clear b h i k;go_enter Tryz.func18,Tryz.ntmps18;go_wp2;go_ret;exact ⟨rfl,⟨_,_,_,_,o.o⟩,p.o⟩
def SS(l:List Vl):List Value:=l.map fun v=>.int .i64 (DD v)
theorem KZ(F)(hL:Fh F)(m t B)(U:Nat→Prop)(fv sv d fs p0 c0 n g5 X f l av K S w)
 (hS:OZ n g5 X d fs)(hR:A7 m t B n X S w)(p:Ls t B U fv sv d fs p0 c0 w)(hm:BY n.length S.c.i7)(h1:S.c.i7.length+20*S.left+14≤K)(h2:S.c.Ys.length+S.c.Yr.length+20*S.left+14≤K)(hK:K≤150000)(hl:S.left<F)(l8:S.m8+S.left≤5000)(hd:S.Yl<40)(he:S.Yi=0)(Q:f<d.length)
 (ha:∀v,v∈l→Cn n.length S.c.i7.length v)(hn:l.length≤(Aq X f).m9.length)(a8:w.ownsRow B 37 1 av l.length (SS l)):
 Calls Tryz.prog 18 #[.pointer (some ⟨m,0,none⟩),.int .i64 f,av] w fun e w'=>e=.returned (.bool (Cu X (AA X n F) f l S).1)∧A7 m t B n X (Cu X (AA X n F) f l S).2 w'∧Be m B w w':=by
 obtain ⟨va,vl,vc,rfl⟩:=Ad a8;have k2:=Ah a8;subst k2;obtain ⟨mv,nv,ch,m8,o⟩:=hR;have lr:=Ae o.l9;have lp:=Ae p.pr;have r0:=o.l9.cell 0;have Y:=o.l9.cell 1;have r5:=o.l9.cell 5;have fz:=o.l9.frozen;have g4:=p.pr.l9.cell 0;simp only [F7,aU,aS,aT] at r0 Y r5 g4;obtain ⟨gf,lf,cf,rfl⟩:∃a b c,fv=.slice a b c:=by obtain ⟨cs,V,_⟩:=p.fn;exact Ad V
 obtain ⟨cs,a2,j9⟩:=p.fn;clear j9;have j0:=Ah a2;subst j0;obtain ⟨g,rfl⟩:=As a2 (by omega);have lg:=(a2.lt g rfl).2;have j1:g≠m:=Ap a2 o.l9 (by decide) g rfl;have j8:t≠m:=p.pr.l9.ne o.l9 (by decide);obtain ⟨tv,bv,vv,D,f8,a9,a3⟩:=p.fn.get Q;obtain ⟨t1,t2,t3,rfl⟩:=Ad f8;obtain ⟨J,b2,L,rfl⟩:=Ad a9;obtain ⟨v1,v2,v3,rfl⟩:=Ad a3;have f0:=D 0 (by decide);have f1:=D 1 (by decide);have f2:=D 2 (by decide);have f3:=D 3 (by decide);have f4:=D 4 (by decide);have f5:=D 5 (by decide);have f6:=D 6 (by decide);simp only [JB,aU,aS,aT,bK] at f0 f1 f2 f3 f4 f5 f6;have l7:S.c.i7.length≤150000:=by omega
 obtain ⟨m1,m2,m3,rfl⟩:=Ad o.i7;have j4:=Ah o.i7;subst j4;have l3:((S.Yl:Int)==40)=false:=by simp;omega
 obtain ⟨d1,M⟩:=o.wrote (S':={S with Yl:=S.Yl+1}) 5 (.int .i64 ((S.Yl:Int)+1)) (by simp only [F7];rfl) o.Yz rfl rfl rfl;have e0:=Aa d1;have d6:=Aa M;have HP:=Aa (p.ZY M o.l9);have u:=Aa hS;have HM:=Aa hm;have HA:=Aa ha;have d3:=Aa (M.row a8 o.l9 (by decide) (by decide));have d4:=Aa (M.row a9 o.l9 (by decide) (by decide));have g1:=hS.h.m9 f Q;rw [g1] at a3;have e3:=Aa (M.row a3 o.l9 (by decide) (by decide));have l9:=hS.h.ZW f;have k0:=Ah a3;subst k0;have i8:=Ah a9;subst i8;have l6:=hS.h.Yx;clear D a2 o d1 M p hS hm ha a8 a9 a3 f8 g1;obtain ⟨EX,c3⟩:∃EX,Cu X (AA X n F) f l S=EX:=⟨_,rfl⟩;rw [c3];have d5:=Aa c3;clear c3;obtain ⟨i0,j2,k4,k5,k6⟩:=info_parts Tryz.infoCell;have c8:=u.o.h.name Q;have j7:=u.o.h.ZZ f;rw [←c8] at j7;generalize d[f].name.i6=A at*;have i1:=Aa c8;clear c8;have E:=(Ab.refl (fun _=>False) (w.setCell ⟨m,5,none⟩ (.int .i64 ((S.Yl:Int)+1)))).alloc (.cells #[.string A,.int .i64 d[f].name.pos,.int .i64 d[f].name.sort,.slice t1 t2 t3,.slice J d[f].Yd.length L,.int .i64 d[f].br,.slice v1 (Aq X f).m9.length v3] 67);have I:=Aa (e0.o.p6 E);have h5:=Aa (d6.o.trans (Be.s8 E));have d9:=Aa (HP.o.p6 E);have h0:=Aa (Ac d3.o E (fun _ _ q=>q));have h4:=Aa (Ac d4.o E (fun _ _ q=>q));have i4:=Aa (Ac e3.o E (fun _ _ q=>q));have Z:=Ar.new (w.setCell ⟨m,5,none⟩ (.int .i64 ((S.Yl:Int)+1))) #[.string A,.int .i64 d[f].name.pos,.int .i64 d[f].name.sort,.slice t1 t2 t3,.slice J d[f].Yd.length L,.int .i64 d[f].br,.slice v1 (Aq X f).m9.length v3] 67;have e9:(w.setCell ⟨m,5,none⟩ (.int .i64 ((S.Yl:Int)+1))).heap.size=w.heap.size:=by simp [World.setCell]
 rw [e9] at Z;have Z:=Aa Z;have h8:=Aa hL;have c5:w.heap.size≠m:=by omega
 clear e0 d6 HP d3 d4 e3 E e9 hL;go_enter Tryz.func18,Tryz.ntmps18;go_wp2;generalize World.alloc (World.setCell _ _ _) _=W0 at*;clear r0 Y r5 fz g4 f0 f1 f2 f3 f4 f5 f6 lp lg lr j1 j8;generalize hN:(Aq X f).m9.length=N at*;have x:=Aa hN;clear hN;go_loopw [9] (fun i wr=>∃k:Nat,k≤N∧i=.int .i64 k∧dJ (A7 m t B n X {S with Yl:=S.Yl+1,c:=S.c.m9 f k} wr)∧dJ (Ar w.heap.size #[.string A,.int .i64 d[f].name.pos,.int .i64 d[f].name.sort,.slice t1 t2 t3,.slice J d[f].Yd.length L,.int .i64 d[f].br,.slice v1 N v3] 67 wr)∧dJ (Be m B W0 wr)) (fun i _=>N-(intOf i).toNat)
 case atStart=>
  have e:S.c.m9 f 0=S.c:=by simp [Co.m9]
  have R:A7 m t B n X {S with Yl:=S.Yl+1,c:=S.c.m9 f 0} W0:=by rw [e];exact ⟨_,_,_,_,I.o⟩
  exact ⟨0,by omega,rfl,R,Z,Be.refl _ _ _⟩
 case round=>
  obtain ⟨k,hk,rfl,⟨mv,k7,i5,k8,s⟩,C,a6⟩:=hrel;clear Z;by_cases T:k<N
  ·have c6:(S.c.m9 f k).i7.length=S.c.i7.length+k:=by simp [Co.m9]
   have a7:=Aa (a6.o.row i4.o I.o.l9 (by decide) (by decide));obtain ⟨gv,rfl⟩:=As a7.o (by omega);have cv:=a7.o.cellAt k (by omega);rw [bY,aY (by rw [x.o];exact T)] at cv;simp only [Option.map_some] at cv;have lv:=(a7.o.lt gv rfl).2;have m0:((Aq X f).m9[k]'(by rw [x.o];exact T)).size≤4000:=by have:=u.o.h.aM f k;unfold OU at this;rw [aY (by rw [x.o];exact T)] at this;exact this
   have i9:dJ (A++{data:=#[46]}++(Aq X f).m9[k]'(by rw [x.o];exact T)=MZ n X ⟨0,f,k⟩):=CV (by rw [i1.o];unfold Vt OU;rw [aY (by rw [x.o];exact T)];simp)
   generalize (Aq X f).m9[k]'(by rw [x.o];exact T)=vt at*;obtain ⟨g2,m5,g3,rfl⟩:=Ad s.i7;have j5:=Ah s.i7;subst j5;have Y:=s.l9.cell 1;have rz:=s.l9.frozen 1;have lr:=Ae s.l9;have b0:=C.o.cell 0;have b6:=C.o.cell 6;have lb:=Ae C.o;simp only [F7,aU,aS,aT] at Y b0 b6;have c7:=Aa (Ap s.i7 s.l9 (by decide));have e5:=Aa s;have l0:B≤wr.heap.size:=by have:=s.lb;omega
   have d8:=Aa s.i7;have k3:=Aa (Mt S.c f k);clear s a7;simp only [c6] at Y d8 c7 e5;have l1:¬(9223372036854775807<A.size+1):=by omega
   have l2:¬(9223372036854775807<A.size+1+vt.size):=by omega
   have j3:=Aa c6;clear c6;go_wp2_with fail;go_region_law (refine Ay rfl _ _ 36 rfl B 123 i0 (.agg XM) 4 40 Tryz.underlying36 j2 k4 k5 k6 rfl (by decide) _ _ _ rfl (d8.o.alloc _) ⟨wr.heap.size,0,none⟩ 1 1 [.string (A++{data:=#[46]}++vt),.int .i64 0,.int .i64 (-1),.int .i64 0] rfl rfl (AN rfl _ _) (WN _) (by decide) (by unfold maxLen;omega) (by omega) (by simp;omega) ?_;intro v' w5 b7 b5 j6;have q1:w5.cell? ⟨m,1,none⟩=some (.slice g2 (S.c.i7.length+k) g3):=(aW (b5.block m (by simp;omega) (fun h=>c7.o m h.symm rfl))).trans (by rw [←Y];exact aW (bF _ _ _ lr));have q2:w5.frozen? ⟨m,1,none⟩=false:=(bB (b5.block m (by simp;omega) (fun h=>c7.o m h.symm rfl))).trans (by rw [←rz];exact bB (bF _ _ _ lr));obtain ⟨g6,g8,g7,rfl⟩:=Ad b7);all_goals
    have e6:(wr.alloc (.cells #[.string (A++{data:=#[46]}++vt),.int .i64 0,.int .i64 (-1),.int .i64 0] 123)).drew.grownBy w5 (Value.ownBlock (.slice g2 (S.c.i7.length+k) g3)):=b5;have p:=e5.o.push (cl:=⟨⟨0,f,k⟩,DL⟩) (v':=.slice g6 g8 g7) (((Ab.refl _ wr).alloc _).drew) e6 (by rw [i9.o] at b7;simp only [j3.o];exact b7);have e4:=p.2.l9 C.o c5 (by decide);have R5:A7 m t B n X {S with Yl:=S.Yl+1,c:=S.c.m9 f (k+1)} (w5.setCell ⟨m,1,none⟩ (.slice g6 g8 g7)):=by rw [←k3.o];exact ⟨_,_,_,_,p.1⟩
    have i3:=Aa R5;have h3:=Aa e4;have h6:=Aa (a6.o.trans p.2);clear p e4 R5 b7 b5 e6 j6 q1 q2;go_wp2_with fail;go_roundw
    case rel=>exact ⟨k+1,by omega,by go_num,i3,h3,h6⟩
    case measure=>simp [intOf];omega
  ·have e:k=N:=by omega
   subst e;have i7:=x.o;have e8:(S.c.m9 f k).i7.length=S.c.i7.length+k:=by simp [Co.m9]
   have h9:=Aa e8;have e1:dJ (A7 m t B n X {S with Yl:=S.Yl+1,c:=S.c.m9 f k} wr):=⟨mv,k7,i5,k8,s⟩;have b6:=C.o.cell 6;have lb:=Ae C.o;simp only [aU,aS,aT] at b6;have b8:=Aa (MF HM.o f k);clear s e8 i7;go_wp2;clear b6 lb;go_loopw [10] (fun i d0=>∃j:Nat,j≤l.length∧i=.int .i64 j∧dJ (A7 m t B n X {S with Yl:=S.Yl+1,c:=CH (l.take j) S.c.i7.length (S.c.m9 f k)} d0)∧dJ (Ar w.heap.size #[.string A,.int .i64 d[f].name.pos,.int .i64 d[f].name.sort,.slice t1 t2 t3,.slice J d[f].Yd.length L,.int .i64 d[f].br,.slice v1 k v3] 67 d0)∧dJ (Be m B W0 d0)) (fun i _=>l.length-(intOf i).toNat)
   case atStart=>exact ⟨0,by omega,rfl,e1,C,a6⟩
   case round=>
    obtain ⟨j,hj,rfl,a4,a0,G⟩:=hrel;clear e1 C a6;obtain ⟨O,y⟩:=JQ (l.take j) S.c.i7.length (S.c.m9 f k) b8.o.1.m (fun v hv=>(HA.o v (List.mem_of_mem_take hv)).more b8.o.1.lo);have b9:=O.se;have g9:=b8.o.1.se;rw [h9.o] at y;have f9:(l.take j).length≤j:=by simp;omega
    by_cases e7:j<l.length
    ·have c1:=Aa (G.o.row h0.o I.o.l9 (by decide) (by decide));obtain ⟨ga,rfl⟩:=As c1.o (by omega);have ca:=c1.o.cellAt j (by omega);unfold SS at ca;rw [bY,aY e7] at ca;simp only [Option.map_some] at ca;have la:=(c1.o.lt ga rfl).2;have g0:=HA.o l[j] (bD _);have c9:=J6 (l.take j) l[j] S.c.i7.length (S.c.m9 f k);have f7:(l.take j).length=j:=by simp;omega
     rw [←cA e7,f7] at c9;have A2:EI m t B U (.slice (some ⟨g,0,none⟩) d.length cf) sv d fs p0 c0 n X {S with Yl:=S.Yl+1,c:=CH (l.take j) S.c.i7.length (S.c.m9 f k)} wr:=
      ⟨a4.o,Be.YO G.o ⟨_,_,_,_,I.o⟩ d9.o,u.o.h,O.m,by simp only [y];omega,by simp only;omega⟩
     have a1:=A2.put (S.c.i7.length+j) l[j] (by simp only [y];omega) (by simp only [y];exact g0.more (by omega));simp only at a1;rw [←c9] at a1;have eI:((S.c.i7.length+j:Nat):Int)=(S.c.i7.length:Int)+(j:Int):=by omega
     rw [eI] at a1;have i2:=Aa a1;clear a1 A2 c9 O y b9 g9 f9 f7 eI g0;generalize DD l[j]=z at*;go_wp2_with (go_at_call 40;refine i2.o.mono ?_;rintro e w5 ⟨rfl,s1,s2⟩);go_round
     case rel=>exact ⟨j+1,by omega,by go_num,Aa s1,Aa (s2.l9 a0.o c5 (by decide)),Aa (G.o.trans s2)⟩
     case measure=>simp [intOf];omega
    ·have e2:j=l.length:=by omega
     subst e2;rw [List.take_length] at a4 b9 y O;obtain ⟨xv,yv,xh,xs,P⟩:=a4.o;obtain ⟨w1,w2⟩:=P.wrote (S':={S with Yl:=S.Yl+1,c:=CH l S.c.i7.length (S.c.m9 f k),YA:=DL}) 8 (.int .i64 0) rfl P.Yz rfl rfl rfl;have r8:=P.l9.cell 8;have m7:=P.l9.frozen 8;have lr:=Ae P.l9;have b4:=a0.o.cell 4;have lb:=Ae a0.o;simp only [F7,aU,aS,aT] at r8 b4;have a5:CH l S.c.i7.length (S.c.m9 f k)=S.c.enter f (Aq X f).m9.length l:=by rw [x.o];rfl
     obtain ⟨r,V⟩:∃r,AA X n F f S.c.i7.length (Aq X f).Yg (Aq X f).pl (Aq X f).ca {S with c:=S.c.enter f (Aq X f).m9.length l,Yl:=S.Yl+1,YA:=DL}=r:=⟨_,rfl⟩;have c4:=Gt F (X:=X) (fn:=n) f S.c.i7.length (Aq X f).Yg (Aq X f).pl (Aq X f).ca {S with c:=S.c.enter f (Aq X f).m9.length l,Yl:=S.Yl+1,YA:=DL};rw [V] at c4;have c2:=fun (W:World) (hW:A7 m t B n X {S with Yl:=S.Yl+1,c:=CH l S.c.i7.length (S.c.m9 f k),YA:=DL} W) (p:Ls t B U (.slice (some ⟨g,0,none⟩) d.length cf) sv d fs p0 c0 W) (hI:AD B W (.slice J d[f].Yd.length L) d[f].Yd)=> h8.o m t B U _ sv d fs p0 c0 n g5 X f S.c.i7.length (Aq X f).Yg d[f].Yd (.slice J d[f].Yd.length L) (Aq X f).pl (Aq X f).ca K {S with c:=S.c.enter f (Aq X f).m9.length l,Yl:=S.Yl+1,YA:=DL} W u.o (by rw [←a5];exact hW) p (by rw [←a5];exact ⟨O.m,by simp only [y];omega,by simp only;omega,GH _ _⟩) hK hl (by simp only;omega) (by simp only;omega) he Q (by rw [←a5];simp only [y,x.o];omega) (u.o.x.us f) (u.o.x.pl f) (u.o.x.ca f) (u.o.Yd f Q) hI (u.o.Z6 f Q)
     rw [V] at c2;have hC:=c2 _ ⟨_,_,_,_,w1⟩ (Be.YO (G.o.trans w2) ⟨_,_,_,_,I.o⟩ d9.o) ((G.o.trans w2).row h4.o I.o.l9 (by decide) (by decide));have HC:=Aa hC;have k9:=Aa (w2.l9 a0.o c5 (by decide));have h7:=Aa (G.o.trans w2);have i6:EX=(r.2.Yi==0,{r.2 with Yl:=r.2.Yl-1}):=by rw [←d5.o];unfold Cu;rw [cT (by omega)];simp only [V]
     clear d5;subst i6;have d7:=Aa c4;clear hC c2 a5 V c4 O y b9 g9 f9 w1 w2 P a4 a0 G;go_wp2_with fail;refine HC.o.mono ?_;rintro e w6 ⟨rfl,s1,s2⟩;obtain ⟨n1,n2,m9,n0,H⟩:=s1;have k1:=d7.o.1;simp only at k1;obtain ⟨u1,u2⟩:=H.wrote (S':={r.2 with Yl:=r.2.Yl-1}) 5 (.int .i64 ((r.2.Yl:Int)-1)) (by simp only [F7];rw [show ((r.2.Yl-1:Nat):Int)=(r.2.Yl:Int)-1 by omega];rfl) H.Yz rfl rfl rfl;have r5:=H.l9.cell 5;have r6:=H.l9.cell 6;have m6:=H.l9.frozen;have m4:=Ae H.l9;simp only [F7,aU,aS,aT] at r5 r6;have U1:=Aa u1;have U2:=Aa (h5.o.trans (h7.o.trans (s2.trans u2)));have l4:r.2.Yl≤100:=by omega
     have hE:((r.2.Yi:Int)==0)=(r.2.Yi==0):=NH _;have l5:1≤r.2.Yl:=by omega
     clear H u1 u2 s2 HC k1 d7;go_wp2;go_ret;exact ⟨rfl,⟨_,_,_,_,U1.o⟩,U2.o⟩
theorem Ns{fn:List ByteArray}{X:List XF}:∀(F b a:Nat) (f:List TS) (d c:Nat) (S:RS),S.Yi=0→(AA X fn F b a f d c S).1=false→(AA X fn F b a f d c S).2.Yi=0
 | 0,_,_,_,_,_,_,_,h=>by cases h
 | F+1,b,a,[],d,c,S,g,_=>g
 | F+1,b,a,t::f,d,c,S,g,h=>by
   rw [AA] at h⊢;split at h
   ·cases h
   ·rename_i j;rw [cT j];simp only at h⊢;split at h
    ·cases h
    ·rename_i i;rw [cT i];refine Ns F b a f _ _ _ ?_ h;rcases Classical.em ((Bi X fn (AA X fn F) F b a t d c S.one).2.Yi=0) with e | e
     ·exact e
     ·exact dC (.inr e) i
def PY(a:Nat)(w:World):Nat:=match w.cell? ⟨a,3,none⟩ with | some v=>(intOf v).toNat | none=>0
theorem Mk{a c B b X S w}(h:A7 a c B b X S w):PY a w=S.left:=by obtain ⟨e,f,d,g,h⟩:=h;have:=h.l9.cell 3;simp only [F7,aU,aS,aT] at this;simp [PY,this,intOf]
structure Lu(rb pb B:Nat)(U:Nat→Prop)(fv sv:Value)(rf:List RF)(fs:List FS)(p0 c0:Nat)(fn:List ByteArray)(par:List Nat)(X:List XF)(fi base K F:Nat)(S:RS)(w:World):Prop where
 r:A7 rb pb B fn X S w
 p:Ls pb B U fv sv rf fs p0 c0 w
 i:Mx K fn.length S
 l:S.left<F
 YW:S.m8+S.left≤5000
 dp:S.Yl≤40
 en:S.Yi=0
 ba:base+(Aq X fi).m9.length≤S.c.i7.length
theorem Qi(F)(hL:Fh F)(k x B)(U:Nat→Prop)(O Z E A Y L d D X i j K n s p l S u I y J T l2 W M z N w)
 (hS:OZ d D X E A)(hK:K≤150000)(o:Lu k x B U O Z E A Y L d D X i j K F S w)(hn:S.left<n)(d9:i<E.length)(hU:Pa d D (Aq X i).m9 l)(b7:s+nL 1 l≤4000)(e1:p+nL 8 l≤4000)(hN:OY A i l u.Yd s p)(hI:AD B w (.slice y l2 z) u.Yd)(d6:CT l≤4001):
 Calls Tryz.prog 91 #[.pointer (some ⟨k,0,none⟩),.agg (AS u (.slice I T M) (.slice y l2 z) (.slice J W N)),.int .i64 j] w fun e w'=>e=.returned (.bool (DW (AA X d F i j l s p) n S).1)∧A7 k x B d X (DW (AA X d F i j l s p) n S).2 w'∧Be k B w w':=by
 obtain ⟨V,hV⟩:∃V,DW (AA X d F i j l s p) n S=V:=⟨_,rfl⟩;rw [hV];have e0:=Ah hI;subst e0;have HV:=Aa hV;have HL:=Aa hL;have HS:=Aa hS;have HU:=Aa hU;have HN:=Aa hN;obtain ⟨e2,a8⟩:∃cs,Ar k cs 39 w:=by obtain ⟨_,_,_,_,q⟩:=o.r;exact ⟨_,q.l9⟩
 have e7:=Ae a8;have a9:w.heap.size≠k:=by omega
 have v:=(Ab.refl (fun _=>False) w).alloc (.cells (AS u (.slice I T M) (.slice y u.Yd.length z) (.slice J W N)) 119);have HO:=Aa v;have b3:dJ (Lu k x B U O Z E A Y L d D X i j K F S (w.alloc (.cells (AS u (.slice I T M) (.slice y u.Yd.length z) (.slice J W N)) 119))):=⟨o.r.p6 v,o.p.p6 v,o.i,o.l,o.YW,o.dp,o.en,o.ba⟩;have b0:=Aa (Ar.new w (AS u (.slice I T M) (.slice y u.Yd.length z) (.slice J W N)) 119);have c4:=Aa (Ac hI v (fun _ _ q=>q));have c6:=Aa (a8.f8 v (fun q=>q));have b2:=Aa (o.r.p6 v);have b1:=Aa (o.p.p6 v);clear hV hL hS hU hN o hI v a8;unfold AS at*;go_enter Tryz.func91,Tryz.ntmps91;go_wp2;generalize w.alloc _=W0 at*;go_loopw [] (fun wr=>∃(m:Nat) (a:RS),a.left<m∧dJ (Lu k x B U O Z E A Y L d D X i j K F a wr)∧dJ (DW (AA X d F i j l s p) m a=V)∧dJ (Ar w.heap.size #[.int .i64 u.kind,.string u.p.i6,.int .i64 u.p.pos,.int .i64 u.p.sort,.string u.q.i6,.int .i64 u.q.pos,.int .i64 u.q.sort,.int .i64 u.field,.slice I T M,.int .i64 u.i9,.slice y u.Yd.length z,.slice J W N,.int .i64 u.br,.int .i64 u.YT,.int .i64 u.Yh] 119 wr)∧dJ (Be k B W0 wr)) (fun wr=>PY k wr)
 case atStart=>exact ⟨n,S,hn,b3,HV,b0,Be.refl _ _ _⟩
 case round=>
  obtain ⟨m,a,hm,f,a7,d0,d2⟩:=hrel;clear b3 HV b0;have d4:=Aa (Mk f.o.r);obtain ⟨m',rfl⟩:∃m',m=m'+1:=⟨m-1,by omega⟩;have b:=a7.o;rw [DW] at b;simp only at b;go_wp2_with fail;refine (JA k x B d X a wr f.o.r).mono ?_;rintro e w1 ⟨rfl,g,h⟩;have a0:=Aa (h.l9 d0.o a9 (by decide));have a4:=Aa (d2.o.trans h);have d5:=Aa (Be.YO h f.o.r f.o.p);cases hc:(D7 a.c.ch).1 with
  | false=> rw [cU hc] at b;subst b;have H:=Aa g;clear g h a7;go_wp2;go_ret;exact ⟨rfl,H.o,(Be.s8 HO.o).trans a4.o⟩
  | true=>
    rw [cT (by rw [hc];decide)] at b;have R:=f.o.i;have a6:Mx K d.length {a with c:={a.c with ch:=(D7 a.c.ch).2}}:=⟨R.m,R.ml,R.pl,R.gv⟩;have b4:=Iq HS.o.x F K i j l s p {a with c:={a.c with ch:=(D7 a.c.ch).2}} a6 f.o.l f.o.ba HU.o b7;have b5:=Gt F (X:=X) (fn:=d) i j l s p {a with c:={a.c with ch:=(D7 a.c.ch).2}};have a5:=Ns (X:=X) (fn:=d) F i j l s p {a with c:={a.c with ch:=(D7 a.c.ch).2}} f.o.en;have hC:=HL.o k x B U O Z E A Y L d D X i j l u.Yd (.slice y u.Yd.length z) s p K {a with c:={a.c with ch:=(D7 a.c.ch).2}} w1 HS.o g d5.o a6 hK f.o.l f.o.YW f.o.dp f.o.en d9 f.o.ba HU.o b7 e1 HN.o (a4.o.row c4.o c6.o (by decide) (by decide)) d6;generalize AA X d F i j l s p {a with c:={a.c with ch:=(D7 a.c.ch).2}}=r at b4 b5 a5 hC b;obtain ⟨j1,j2,j3⟩:=b4;obtain ⟨k1,k2⟩:=b5;simp only at j2 j3 k1 k2;have HC:=Aa hC;have e6:=f.o.YW;have d7:=f.o.dp;have e4:=f.o.ba;have e5:=f.o.l;have c9:=a0.o.cell 10;have lb:=Ae a0.o;simp only [aU,aS,aT] at c9;have c5:=Aa k1;have t:=Aa b;clear hC g h a7 R a6 k1 b;go_wp2_with fail;refine HC.o.mono ?_;rintro e w2 ⟨rfl,g,h⟩;have d1:=Aa (h.l9 a0.o a9 (by decide));have P:=Aa (a4.o.trans h);cases hr:r.1 with
    | true=> have b:=t.o;rw [cU hr] at b;subst b;have H:=Aa g;clear g h HC t;go_wp2;go_ret;exact ⟨rfl,H.o,(Be.s8 HO.o).trans P.o⟩
    | false=>
      have b:=t.o;rw [cT (by rw [hr];decide)] at b;have e3:=Aa (Be.YO P.o b2.o b1.o);have H:=Aa g;have d8:=a5 hr;have t:=Aa b;clear g h HC b a5;go_wp2_with fail;refine (Ou k x B d X r.2 w2 H.o (by omega) (by omega)).mono ?_;rintro e w3 ⟨rfl,g,h⟩;by_cases C:r.2.left=0
      ·have b:=t.o;rw [cU C] at b;subst b;rw [cU C] at g;have Q:decide (r.2.left≠0)=false:=by simp [C]
       rw [Q];have R4:=Aa g;have F4:=Aa ((Be.s8 HO.o).trans (P.o.trans h));clear g h C Q t;go_wp2;go_ret;exact ⟨rfl,R4.o,F4.o⟩
      ·have b:=t.o;rw [cT C] at b;rw [cT C] at g;have Q:decide (r.2.left≠0)=true:=by simp [C]
       rw [Q];have G:r.2.one.left=r.2.left-1:=rfl;have o2:r.2.one.m8=r.2.m8+1:=rfl;have c8:dJ (Lu k x B U O Z E A Y L d D X i j K F r.2.one w3):=⟨g,Be.YO (P.o.trans h) b2.o b1.o,⟨j1.m,by have:=j1.ml;rw [G];show r.2.c.i7.length+_≤_;omega,by have:=j1.pl;rw [G];show r.2.c.Ys.length+r.2.c.Yr.length+_≤_;omega,j1.gv⟩,by rw [G];omega,by rw [G,o2];omega,by show r.2.Yl≤40;rw [c5.o];exact d7,d8,by show j+_≤r.2.c.i7.length;omega⟩;have c7:=Aa b;have b8:=Aa (h.l9 d1.o a9 (by decide));have b9:=Aa (P.o.trans h);have d3:=Aa (Mk g);have b6:r.2.one.left<m'∧r.2.one.left<a.left:=by rw [G];omega
       clear g h Q b t G o2;go_wp2_with fail;go_roundw
       case rel=>exact ⟨m',r.2.one,b6.1,c8,c7,b8,b9⟩
       case measure=>rw [d3.o,d4.o];exact b6.2
theorem Qa(F c x B)(U:Nat→Prop)(C I H A E z a G X f d K y s v r S u g h i n o p j k l w)
 (b:Lu c x B U C I H A E z a G X f d K F S w)(Q:v.kind=0)(R:u.kind=1):
 Calls Tryz.prog 72 #[.pointer (some ⟨c,0,none⟩),.agg (AS u (.slice g n j) (.slice h o k) (.slice i p l)),.int .i64 d] w fun e J=>e=.returned (.bool (Bi X a (AA X a F) F f d (.mk v r) y s S).1)∧A7 c x B a X (Bi X a (AA X a F) F f d (.mk v r) y s S).2 J∧Be c B w J:=by
 obtain ⟨V,t⟩:∃V,Bi X a (AA X a F) F f d (.mk v r) y s S=V:=⟨_,rfl⟩;rw [t];obtain ⟨O,D⟩:∃N,Ar c N 39 w:=by obtain ⟨_,_,_,_,q⟩:=b.r;exact ⟨_,q.l9⟩
 have Y:=Ae D;have W:w.heap.size≠c:=by omega
 have m:=(Ab.refl (fun _=>False) w).alloc (.cells (AS u (.slice g n j) (.slice h o k) (.slice i p l)) 119);have L:=Aa m;have M:dJ (Lu c x B U C I H A E z a G X f d K F S (w.alloc (.cells (AS u (.slice g n j) (.slice h o k) (.slice i p l)) 119))):=⟨b.r.p6 m,b.p.p6 m,b.i,b.l,b.YW,b.dp,b.en,b.ba⟩;have T:=Aa (Ar.new w (AS u (.slice g n j) (.slice h o k) (.slice i p l)) 119);have P:V=(false,S):=by rw [←t];unfold Bi;simp only [Q,if_true]
 subst P;clear t m D O;unfold AS at*;rw [R] at*;rw [show ((1:Nat):Int)=1 from rfl] at*;go_enter Tryz.func72,Tryz.ntmps72;go_wp2;go_ret;exact ⟨rfl,M.o.r,Be.s8 L.o⟩
theorem Oy(F)(Q:Fh F)(h C B)(U:Nat→Prop)(H M A s L G b z X c g K j i q v f S u n k o x m y p l r w)
 (T:OZ b z X A s)(hK:K≤150000)(d:Lu h C B U H M A s L G b z X c g K F S w)(hk:v.kind=12)(c8:u.kind=13)(c5:c<A.length)(W:Pa b z (Aq X c).m9 f)(c6:j+nL 1 f≤4000)(c7:i+nL 8 f≤4000)(R:OY s c f u.Yd j i)(P:AD B w (.slice k m l) u.Yd)(c4:CT f≤4001):
 Calls Tryz.prog 72 #[.pointer (some ⟨h,0,none⟩),.agg (AS u (.slice n x p) (.slice k m l) (.slice o y r)),.int .i64 g] w fun e w'=>e=.returned (.bool (Bi X b (AA X b F) F c g (.mk v [(q,f)]) j i S).1)∧A7 h C B b X (Bi X b (AA X b F) F c g (.mk v [(q,f)]) j i S).2 w'∧Be h B w w':=by
 obtain ⟨E,Z⟩:∃E,[(q,f)]=E:=⟨_,rfl⟩;rw [Z];obtain ⟨V,J⟩:∃V,Bi X b (AA X b F) F c g (.mk v E) j i S=V:=⟨_,rfl⟩;rw [J];obtain ⟨a9,a0⟩:∃cs,Ar h cs 39 w:=by obtain ⟨_,_,_,_,q⟩:=d.r;exact ⟨_,q.l9⟩
 have d0:=Ae a0;have c9:w.heap.size≠h:=by omega
 have t:=(Ab.refl (fun _=>False) w).alloc (.cells (AS u (.slice n x p) (.slice k m l) (.slice o y r)) 119);have O:=Aa t;have D:dJ (Lu h C B U H M A s L G b z X c g K F S (w.alloc (.cells (AS u (.slice n x p) (.slice k m l) (.slice o y r)) 119))):=⟨d.r.p6 t,d.p.p6 t,d.i,d.l,d.YW,d.dp,d.en,d.ba⟩;have a:=Aa (Ar.new w (AS u (.slice n x p) (.slice k m l) (.slice o y r)) 119);have Y:V=DW (AA X b F c g f j i) F S:=by rw [←J,←Z];unfold Bi;simp only;rw [cT (by omega),cT (by omega),cU hk];rfl
 have I:=Qi F Q h C B U H M A s L G b z X c g K F j i f S u n k o x m y p l r _ T hK D.o D.o.l c5 W c6 c7 R (Ac P t (fun _ _ q=>q)) c4;rw [←Y] at I;have N:=Aa I;have b0:=a.o.cell 0;have b1:=a.o.cell 1;have b2:=a.o.cell 2;have b3:=a.o.cell 3;have b4:=a.o.cell 4;have b5:=a.o.cell 5;have b6:=a.o.cell 6;have b7:=a.o.cell 7;have b8:=a.o.cell 8;have b9:=a.o.cell 9;have a4:=a.o.cell 10;have a5:=a.o.cell 11;have a6:=a.o.cell 12;have a7:=a.o.cell 13;have a8:=a.o.cell 14;have lb:=Ae a.o;clear J Y t a0 a9 I Q T W R P d D a;unfold AS at*;rw [c8] at*;rw [show ((13:Nat):Int)=13 from rfl] at*;simp only [aU,aS,aT] at b0 b1 b2 b3 b4 b5 b6 b7 b8 b9 a4 a5 a6 a7 a8;go_enter Tryz.func72,Tryz.ntmps72;go_wp2_with fail;refine N.o.mono ?_;rintro e w1 ⟨rfl,s1,s2⟩;have S1:=Aa s1;have S2:=Aa ((Be.s8 O.o).trans s2);clear s1 s2 N O;go_wp2;go_ret;exact ⟨rfl,S1.o,S2.o⟩
theorem Ow(F)(hL:Fh F)(i m B)(U:Nat→Prop)(I L p o J H b G X d k K n l v M h r S u O s t R D E P x y w)
 (hS:OZ b G X p o)(hK:K≤150000)(a:Lu i m B U I L p o J H b G X d k K F S w)(hk:v.kind=11)(c7:u.kind=12)(b5:d<p.length)(h0:(M[0]?.getD (0,[])).2=h)(h1:(M[1]?.getD (0,[])).2=r)
 (hU:Pa b G (Aq X d).m9 h)(b3:Pa b G (Aq X d).m9 r)(c9:n+nL 1 h+nL 1 r≤4000)(d0:l+nL 8 h+nL 8 r≤4000)(hN:OY o d h u.Yd n l)(b2:OY o d r u.other (n+nL 1 h) (l+nL 8 h))(hI:AD B w (.slice s D x) u.Yd)(b1:AD B w (.slice t E y) u.other)(c4:CT h≤4001)(c5:CT r≤4001):
 Calls Tryz.prog 72 #[.pointer (some ⟨i,0,none⟩),.agg (AS u (.slice O R P) (.slice s D x) (.slice t E y)),.int .i64 k] w fun e w'=>e=.returned (.bool (Bi X b (AA X b F) F d k (.mk v M) n l S).1)∧A7 i m B b X (Bi X b (AA X b F) F d k (.mk v M) n l S).2 w'∧Be i B w w':=by
 obtain ⟨V,hV⟩:∃V,Bi X b (AA X b F) F d k (.mk v M) n l S=V:=⟨_,rfl⟩;rw [hV];obtain ⟨c8,a7⟩:∃cs,Ar i cs 39 w:=by obtain ⟨_,_,_,_,q⟩:=a.r;exact ⟨_,q.l9⟩
 have d2:=Ae a7;have c6:w.heap.size≠i:=by omega
 have z:=(Ab.refl (fun _=>False) w).alloc (.cells (AS u (.slice O R P) (.slice s D x) (.slice t E y)) 119);have HO:=Aa z;have a4:dJ (Lu i m B U I L p o J H b G X d k K F S (w.alloc (.cells (AS u (.slice O R P) (.slice s D x) (.slice t E y)) 119))):=⟨a.r.p6 z,a.p.p6 z,a.i,a.l,a.YW,a.dp,a.en,a.ba⟩;have W:=Aa (Ar.new w (AS u (.slice O R P) (.slice s D x) (.slice t E y)) 119);have b4:V=if (D7 S.c.ch).1 then AA X b F d k h n l {S with c:={S.c with ch:=(D7 S.c.ch).2}} else AA X b F d k r (n+nL 1 h) (l+nL 8 h) {S with c:={S.c with ch:=(D7 S.c.ch).2}}:=by rw [←hV];unfold Bi;simp only;rw [cT (by omega),cU hk,h0,h1]
 have N:=a.i;have a6:Mx K b.length {S with c:={S.c with ch:=(D7 S.c.ch).2}}:=⟨N.m,N.ml,N.pl,N.gv⟩;have HX:=Aa (JA i m B b X S _ a4.o.r);have Z:=Aa (fun (j:World) (f:A7 i m B b X {S with c:={S.c with ch:=(D7 S.c.ch).2}} j) (hP:Ls m B U I L p o J H j) (hr:AD B j (.slice s D x) u.Yd)=>hL i m B U I L p o J H b G X d k h u.Yd (.slice s D x) n l K {S with c:={S.c with ch:=(D7 S.c.ch).2}} j hS f hP a6 hK a.l a.YW a.dp a.en b5 a.ba hU (by omega) (by omega) hN hr c4);have a0:=Aa (fun (j:World) (f:A7 i m B b X {S with c:={S.c with ch:=(D7 S.c.ch).2}} j) (hP:Ls m B U I L p o J H j) (hr:AD B j (.slice t E y) u.other)=>hL i m B U I L p o J H b G X d k r u.other (.slice t E y) (n+nL 1 h) (l+nL 8 h) K {S with c:={S.c with ch:=(D7 S.c.ch).2}} j hS f hP a6 hK a.l a.YW a.dp a.en b5 a.ba b3 (by omega) (by omega) b2 hr c5);have b6:=Aa (Ac hI z (fun _ _ q=>q));have b7:=Aa (Ac b1 z (fun _ _ q=>q));have a8:=Aa (a7.f8 z (fun q=>q));have b0:=W.o.cell 0;have lb:=Ae W.o;have a9:=Aa b4;clear hV b4 z a7 hL hS hU b3 hN b2 hI b1 a N a6 h0 h1;unfold AS at*;rw [c7] at*;rw [show ((12:Nat):Int)=12 from rfl] at*;simp only [aU,aS] at b0;go_enter Tryz.func72,Tryz.ntmps72;go_wp2_with fail;refine HX.o.mono ?_;rintro e j ⟨rfl,f,g⟩;have a5:=Aa (g.l9 W.o c6 (by decide));have b8:=a5.o.cell 10;have b9:=a5.o.cell 11;have d1:=Ae a5.o;simp only [aU,aS,aT] at b8 b9;have Q:=Be.YO g a4.o.r a4.o.p;cases hc:(D7 S.c.ch).1 with
 | true=> have C:=a9.o;rw [hc,cU rfl] at C;have A:=Z.o j f Q (g.row b6.o a8.o (by decide) (by decide));rw [←C] at A;have Y:=Aa A;have S2:=Aa ((Be.s8 HO.o).trans g);clear A C f g Z a0 Q HX;go_wp2_with fail;refine Y.o.mono ?_;rintro e w2 ⟨rfl,f,g⟩;have R3:=Aa f;have T:=Aa (S2.o.trans g);clear f g;go_wp2;go_ret;exact ⟨rfl,R3.o,T.o⟩
 | false=> have C:=a9.o;rw [hc,cT (by decide)] at C;have A:=a0.o j f Q (g.row b7.o a8.o (by decide) (by decide));rw [←C] at A;have Y:=Aa A;have S2:=Aa ((Be.s8 HO.o).trans g);clear A C f g Z a0 Q HX;go_wp2_with fail;refine Y.o.mono ?_;rintro e w2 ⟨rfl,f,g⟩;have R3:=Aa f;have T:=Aa (S2.o.trans g);clear f g;go_wp2;go_ret;exact ⟨rfl,R3.o,T.o⟩
theorem MS(F d E B)(U:Nat→Prop)(I O t A N H g a4 X f K pl Q v P S u i j k o p r l m n w)
 (Y:OZ g a4 X t A)(hK:K≤150000)(c:Lu d E B U I O t A N H g a4 X u.Yh f K F S w)(hk:v.kind=10)(d4:u.kind=11)(a8:u.Yh<t.length)(hq:u.q.i6=v.sr.i6)(M:v.sr.i6∈(Aq X u.Yh).m9):
 Calls Tryz.prog 72 #[.pointer (some ⟨d,0,none⟩),.agg (AS u (.slice i o l) (.slice j p m) (.slice k r n)),.int .i64 f] w fun e w'=>e=.returned (.bool (Bi X g (AA X g F) F u.Yh f (.mk v P) pl Q S).1)∧A7 d E B g X (Bi X g (AA X g F) F u.Yh f (.mk v P) pl Q S).2 w'∧Be d B w w':=by
 obtain ⟨h,D⟩:∃h,u.Yh=h:=⟨_,rfl⟩;rw [D] at c a8 M⊢;obtain ⟨V,Z⟩:∃V,Bi X g (AA X g F) F h f (.mk v P) pl Q S=V:=⟨_,rfl⟩;rw [Z];obtain ⟨d2,c4⟩:∃cs,Ar d cs 39 w:=by obtain ⟨_,_,_,_,q⟩:=c.r;exact ⟨_,q.l9⟩
 have e5:=Ae c4;have e4:w.heap.size≠d:=by omega
 have J:=(Ab.refl (fun _=>False) w).alloc (.cells (AS u (.slice i o l) (.slice j p m) (.slice k r n)) 119);have HO:=Aa J;have x:dJ (Lu d E B U I O t A N H g a4 X h f K F S (w.alloc (.cells (AS u (.slice i o l) (.slice j p m) (.slice k r n)) 119))):=⟨c.r.p6 J,c.p.p6 J,c.i,c.l,c.YW,c.dp,c.en,c.ba⟩;have b:=Aa (Ar.new w (AS u (.slice i o l) (.slice j p m) (.slice k r n)) 119);have d3:V=(true,{S with YA:=(Ak S.c.i7 (f+vx (Aq X h).m9 v.sr.i6)).v}):=by rw [←Z];unfold Bi;simp only;rw [cT (by omega),cT (by omega),cT (by omega),cU hk]
 subst d3;obtain ⟨q1,q2⟩:=CP M;have e2:=c.i.ml;have e3:=c.i.pl;have e1:=c.ba;have d5:f+vx (Aq X h).m9 v.sr.i6<S.c.i7.length:=by omega
 have a6:EI d E B U I O t A N H g X S (w.alloc (.cells (AS u (.slice i o l) (.slice j p m) (.slice k r n)) 119)):=⟨x.o.r,x.o.p,Y.h,c.i.m,by omega,by omega⟩;obtain ⟨R,cm,r1,d6,a0,a7⟩:=a6.holds (by omega);have cq:=(a7 _ d5).1;have T:=fun (W:World) (L:Ab (fun _=>False) (w.alloc (.cells (AS u (.slice i o l) (.slice j p m) (.slice k r n)) 119)) W)=>FZ d E B U I O t A N H g X S u i j k o p r l m n f u.q W (x.o.r.p6 L) (x.o.p.p6 L) Y.h (by rw [D];exact a8) (by omega) (by rw [hq,D];exact M)
 rw [hq,D] at T;have c5:=Aa T;obtain ⟨xa,xb,xc,xd,C⟩:=x.o.r;have r8:=C.l9.cell 8;have rz:=C.l9.frozen 8;simp only [F7,aU,aS,aT] at r8;have a5:=Aa (fun (W:World) (L:Ab (fun _=>False) (w.alloc (.cells (AS u (.slice i o l) (.slice j p m) (.slice k r n)) 119)) W)=>(C.p6 L).wrote (S':={S with YA:=(Ak S.c.i7 (f+vx (Aq X h).m9 v.sr.i6)).v}) 8 (.int .i64 (DD (Ak S.c.i7 (f+vx (Aq X h).m9 v.sr.i6)).v)) rfl C.Yz rfl rfl rfl);generalize DD (Ak S.c.i7 (f+vx (Aq X h).m9 v.sr.i6)).v=z at cq a5;generalize f+vx (Aq X h).m9 v.sr.i6=zq at*;generalize DD S.YA=y at*;have b0:=b.o.cell 0;have b1:=b.o.cell 1;have b2:=b.o.cell 2;have b3:=b.o.cell 3;have b4:=b.o.cell 4;have b5:=b.o.cell 5;have b6:=b.o.cell 6;have b7:=b.o.cell 7;have b8:=b.o.cell 8;have b9:=b.o.cell 9;have c6:=b.o.cell 10;have c7:=b.o.cell 11;have c8:=b.o.cell 12;have c9:=b.o.cell 13;have d0:=b.o.cell 14;have lb:=Ae b.o;clear Z J c4 d2 T C a6 a7 c hq D M q1 q2 Y;unfold AS at*;rw [d4] at*;rw [show ((11:Nat):Int)=11 from rfl] at*;simp only [aU,aS,aT] at b0 b1 b2 b3 b4 b5 b6 b7 b8 b9 c6 c7 c8 c9 d0;generalize e0:S.c.i7.length=ML at*;go_enter Tryz.func72,Tryz.ntmps72;go_wp2_with fail;generalize w.alloc _=W1 at*;go_region_law (go_simp;go_at_call 92;refine (c5.o _ ?_).mono ?_;exact (by repeat (first | exact Ab.refl _ _ | refine Ab.drew ?_ | refine Ab.drewN ?_ _ | refine Ab.alloc ?_ _));rintro e G ⟨rfl,a9⟩;have s:=Aa (Ab.trans (X:=fun _=>False) (a:=W1) (by repeat (first | exact Ab.refl _ _ | refine Ab.drew ?_ | refine Ab.drewN ?_ _ | refine Ab.alloc ?_ _)) a9);have d7:G.cell? ⟨d,1,none⟩=some (.slice (some ⟨R,0,none⟩) ML cm):=(aW (s.o.block d a0 (fun q=>q))).trans r1;have d1:G.cell? ⟨R,zq*4+1,none⟩=some (.int .i64 z):=(aW (s.o.block R d6 (fun q=>q))).trans cq;have d8:G.cell? ⟨d,8,none⟩=some (.int .i64 y):=(aW (s.o.block d a0 (fun q=>q))).trans r8;have d9:G.frozen? ⟨d,8,none⟩=false:=(bB (s.o.block d a0 (fun q=>q))).trans rz;clear a9;dsimp only);all_goals
  obtain ⟨f1,f2⟩:=a5.o G s.o;have F1:=Aa f1;have F2:=Aa ((Be.s8 HO.o).trans ((Be.s8 s.o).trans f2));clear f1 f2 d7 d1 d8 d9;go_wp2_with fail;go_ret;exact ⟨rfl,⟨_,_,_,_,F1.o⟩,F2.o⟩
end Go.Proofs.YthppbgndiplgnaaGreatDoor

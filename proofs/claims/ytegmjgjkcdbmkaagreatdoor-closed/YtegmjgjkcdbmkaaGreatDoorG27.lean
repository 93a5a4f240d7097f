/- One of the texts of the proof: AnM AnN AnO. -/
import Derived.Test.YtegmjgjkcdbmkaaGreatDoorG26
import Derived.Deep.RegionHeld3
set_option maxRecDepth 100000
set_option maxHeartbeats 2000000
namespace Go.Proofs.YtegmjgjkcdbmkaaGreatDoor
open Go.RowKit Go.Maps
theorem Rc(P:List PFn)(v:Sv)(n g t i x:Nat):BF P (v.bN n g) t i x↔BF P v t i x∨(t=1∧i=n∧x=g):=by
 by_cases a:t=1
 ·subst a;simp [BF,Sv.bN]
 ·simp [BF,Sv.bN,a]
theorem Qr(P d fv s l c o v w)(A:AnOk P l c)(h:Dn P d fv s l c o v w)(r:Rl)(g:Nat)(av:Value)(J:AD 0 w av r.s.args)(L:WB P r)(V:g<P.length)(h1:1≤r.s.m9)(h2:r.s.m9≤c)
 (hL:(Ap P g).i8=r.s.args.length→(least P).E r.s.m9 g∧DY P r g (least P)):
 Calls Tryz.prog 159 #[.pointer (some ⟨d,0,none⟩),.agg (Hi r av),.int .i64 g] w fun e w'=>e=.returned (.tuple #[])∧Nx P d fv s l c o v w w' (fun f=>(Ap P g).i8=r.s.args.length→f.s.E r.s.m9 g∧DY P r g f.s):=by
 obtain ⟨R,al,S,rfl⟩:=Ad J;have c4:=Aq J;subst c4;have z:Ab (fun _=>False) w (w.alloc (.cells (Hi r (.slice R r.s.args.length S)) 208)):=(Ab.refl _ w).alloc _;have I:=Ak.new w (Hi r (.slice R r.s.args.length S)) 208;have t:=h.i9 z;have hI:=Ac J z (fun _ _ q=>q);have c5:¬o.own d w.heap.size:=fun q=>by have:=h.r.ownLt q;omega
 have c9:=A.bA;have hf:=L.f;have d3:=L.n;have d5:=A.lc;have d1:=A.ok.bX g;have d2:=A.ok.l8 g;obtain ⟨gf,cf,rfl,c8⟩:=h.pl.form (by omega);obtain ⟨vv,sv,a7,_,_⟩:=(t.pl).get V;have T:=a7 2 (by omega);have Y:Ap P g=P[g]:=by unfold Ap;rw [List.getElem?_eq_getElem V];rfl
 simp only [MR,dJ,dK] at T;rw [←Y] at T;have p0:=t.r.s9.cell 0;have C:=t.r.s9.cell 5;have a0:=Ae t.r.s9;simp only [Gf,dM,dJ,dK] at p0 C;have HA:=Aa A;have HL:=Aa hL;have HR:=Aa L;have HP:=Aa Y;clear h J A hL L a7 Y;go_enter Tryz.func159,Tryz.ntmps159;go_wp2_with fail;generalize w.alloc (.cells (Hi r (.slice R r.s.args.length S)) 208)=W at*;have G:=I.cell 6;have Z:=Ae I;simp only [dM,dJ,dK] at G;have d0:(g:Int)<(P.length:Int):=by omega
 have c7:=Nat.lt_of_lt_of_le c8 z.size;have N:=Aa t;have HI:=Aa hI;have HB:=Aa I;have O:=Aa z;clear t hI I z;by_cases K:(Ap P g).i8=r.s.args.length
 ·have hz:(((Ap P g).i8:Int) !=(r.s.args.length:Int))=false:=by simp [K]
  go_region;go_wp2_with fail;have B:Ab (fun _=>False) W W.drew:=(Ab.refl _ W).drew;have p:=N.o.i9 B;have H:=HB.o.O B (fun q=>q);have a5:=Ac HI.o B (fun _ _ q=>q);have O2:=Aa (O.o.trans B);clear p0 C T G a0 Z c7 B N HB HI O;generalize W.drew=m at*;have C:=p.r.s9.cell 5;have a0:=Ae p.r.s9;have b5:=H.cell 5;have Z:=Ae H;simp only [Gf,dM,dJ,dK] at C b5;obtain ⟨i,y⟩:=(p.r.d1 r.s.m9).2 ⟨h1,h2⟩;have l5:∀b,Ab (fun _=>False) m b→(Instr.lookup 91 (.map (some (o.om 1))) (.int .i64 r.s.m9) false).run Tryz.prog b=.ok (.map (some i)) b:=fun b U=>(((p.r.mp 1 (by omega)).O U (fun q=>q)).look Dw Tryz.underlying91 (Ca b) (k:=r.s.m9) (by omega) false).2 i y
  have l6:=l5 _ ((Ab.refl _ m).drew);have D:=Aa p;have a1:=Aa H;have a2:=Aa a5;have a9:∀b,Ab (fun _=>False) m b→A9 i (v.s.E r.s.m9) b:=fun b U=>((p.r.st 1 r.s.m9 i y).O U (fun q=>q)).iff fun x=>by simp [BF]
  have a3:=Aa a9;clear p H a5 a9 l5;go_cut [] (fun wx=>dN (A9 i (fun n=>v.s.E r.s.m9 n∨n=g) wx)∧dN (Ab (fun k=>k=i) m wx))
  case first=>
   go_region_law (go_simp;go_at_call 101;refine (Fg i _ g _ (a3.o _ ((Ab.refl _ m).drew)) (by omega)).mono ?_;rintro e w5 ⟨rr,rfl,_,s5,o5⟩;dsimp only);all_goals
    go_wp2_with fail;go_meet
    case rel=>exact ⟨s5,(Ab.drew (Ab.refl _ m)).trans o5⟩
  case rest=>
  obtain ⟨S5,E⟩:=hcut;have a8:Bp P d _ s l c o (v.bN r.s.m9 g) wc:=D.o.r.put (v':=v.bN r.s.m9 g) y S5.o E.o (fun x=>by rw [Rc];simp [BF]) (fun t' i' x q=>by rw [Rc];exact ⟨fun r=>r.elim id fun r=>absurd ⟨r.1,r.2.1⟩ q,.inl⟩) rfl (by nofun)
  have F:Dp P d _ s l c o o (v.bN r.s.m9 g) m wc:=⟨a8,fun _ q=>.inl q,rfl,E.o.mono fun j _ q=>by rw [q];exact .inr (.inr (.inl ⟨1,_,y⟩))⟩;have a4:=D.o.next F;have c6:¬(w.heap.size=i):=fun q=>c5 (q▸.inr (.inr (.inl ⟨1,_,y⟩)))
  have a:=a1.o.O E.o c6;have a6:=D.o.r.ints a2.o F.on;have b0:=a.cell 0;have b1:=a.cell 1;have b2:=a.cell 2;have b3:=a.cell 3;have b4:=a.cell 4;have c3:=a.cell 5;have G:=a.cell 6;have b7:=a.cell 7;have b8:=a.cell 8;have d4:=Ae a;simp only [dM,dJ,dK] at b0 b1 b2 b3 b4 c3 G b7 b8;have b9:=Aa a4;have c0:=Aa a6;have c1:=Aa F;clear a8 F a4 a a6 S5 E D a1 a2 a3 C b5 l6 a0 Z;go_wp2_with fail;refine (Np P d _ s l c o _ wc HA.o b9.o r g _ c0.o HR.o V (by omega) (HL.o K).2).mono ?_;rintro e w6 ⟨rfl,o6,v6,s6,u6,i6,q6⟩;have u:dN (Nx P d (.slice (some ⟨gf,0,none⟩) P.length cf) s l c o v w w6 (fun f=>(Ap P g).i8=r.s.args.length→f.s.E r.s.m9 g∧DY P r g f.s)):=by have M:=c1.o.trans s6;exact ⟨o6,v6,⟨M.r,fun j hj=>(M.ow j hj).imp id fun q=>Nat.le_trans O2.o.size q,M.rl,(O2.o.mono (fun _ _ q=>q.elim)).trans M.on⟩,(Sv.ent_up v _ _).tr u6,fun X q=>i6 X (q.bN (HL.o K).1),fun _=>⟨u6.le.s.e _ _ (.inr ⟨rfl,rfl⟩),q6⟩⟩
  clear s6 u6 i6 q6;go_wp2_with fail;go_end0;exact ⟨rfl,u.o⟩
 ·have hz:(((Ap P g).i8:Int) !=(r.s.args.length:Int))=true:=by simp;omega
  have u:∀Q,Ab (fun _=>False) W Q→Nx P d (.slice (some ⟨gf,0,none⟩) P.length cf) s l c o v w Q (fun f=>(Ap P g).i8=r.s.args.length→f.s.E r.s.m9 g∧DY P r g f.s):=fun Q hW=>⟨o,v,⟨(N.o.i9 hW).r,fun _ q=>.inl q,rfl,(O.o.trans hW).mono fun _ _ q=>q.elim⟩,.rf _,fun _ q=>q,fun q=>absurd q K⟩
  have u:=Aa u;go_region;go_wp2_with fail;exact bodyPost_ret (v:=.tuple #[]) (by simp [results,Tryz.results159,go_sem]) rfl ⟨rfl,u.o _ (by repeat (first | exact Ab.refl _ _ | refine Ab.drew ?_ | refine Ab.drewN ?_ _ | refine Ab.alloc ?_ _))⟩
def EM(P:List PFn)(a t:Nat):Prop:=A8 P a t∨∃g,g<P.length∧t=fN g
theorem AnOk.rl{P g b r}(A:AnOk P g b)(a:Ly P r)(c:r.s.kind≠0)(d:r.s.kind≠10)(e:r.s.kind≠11)(f:r.s.kind≠12):WB P r:=
 have h:=A.ok.ok r.f a.1 r.s a.2
 ⟨a.1,h.tg c d e f,h.args,h.bA⟩
theorem A8.isC{P b c}(h:A8 P b c)(j:P.length≤12)(a:∀f,(Ap P f).l8.length≤12):Ug c:=by
 rcases h with ⟨f,i,l,m,rfl⟩ | ⟨n,k,d,e,g,rfl⟩
 ·have:=a f;exact .inl (by unfold vN;omega)
 ·exact .inr (by unfold pN;omega)
theorem EM.cell{P a t}(h:EM P a t)(c:P.length≤12)(b:Ug t):A8 P a t:=by
 rcases h with h | ⟨g,d,rfl⟩
 ·exact h
 ·unfold Ug fN at b;omega
theorem EM.code{P c t}(h:EM P c t)(a:P.length≤12)(b:∀f,(Ap P f).l8.length≤12)(e:YF t):t-144<P.length:=by
 rcases h with h | ⟨g,d,rfl⟩
 ·have:=h.isC a b;unfold Ug YF at*;omega
 ·unfold fN;omega
theorem EM.field{P b t}(h:EM P b t)(d:P.length≤12)(c:∀f,(Ap P f).l8.length≤12)(a:156≤t):∃n k,1≤n∧n≤b∧k<4∧t=pN n k:=by
 rcases h with (⟨f,i,e,l,rfl⟩ | h) | ⟨g,j,rfl⟩
 ·have:=c f;unfold vN at a;omega
 ·exact h
 ·unfold fN at a;omega
theorem EM.lt{P a b t}(A:AnOk P a b)(h:EM P a t):t<16400:=by
 rcases h with h | ⟨g,c,rfl⟩
 ·exact h.lt A.bA A.ok.l8 A.lp
 ·have:=A.bA;unfold fN;omega
theorem MQ{P e p}(A:AnOk P e p):XW P ⟨fun c t=>A8 P e c∧EM P e t,fun a b=>A8 P e a∧A8 P e b,fun n g=>(1≤n∧n≤p)∧g<P.length⟩:=by
 have v:∀r g,WB P r→g<P.length→(Ap P g).i8=r.s.args.length→DY P r g ⟨fun c t=>A8 P e c∧EM P e t,fun a b=>A8 P e a∧A8 P e b,fun n g=>(1≤n∧n≤p)∧g<P.length⟩:=fun r g d j F=>by
  refine ⟨fun i a z=>⟨AX d.f (d.ar a (List.mem_of_getElem? z)),AX j ?_⟩,fun x C=>?_⟩
  ·have w:=(List.getElem?_eq_some_iff.1 z).1;have y:=A.ok.bX g;omega
  ·obtain ⟨s,B,D,rfl⟩:=C;exact ⟨AX j ((A.ok.ok g j s B).sr (by omega)),AX d.f d.tg⟩
 refine ⟨fun a b t h k=>⟨h.2,k.2⟩,fun r d=>?_,fun r t d o h=>?_⟩
 ·have f:=A.ok.ok r.f d.1 r.s d.2;have l:=A.bG r.f d.1 r.s d.2;refine ⟨fun q=>?_,fun q=>?_,fun q=>?_,fun q=>?_,fun q=>?_⟩
  ·have R:=A.rl d (by omega) (by omega) (by omega) (by omega);exact ⟨AX R.f R.tg,.inl (.inr ⟨_,0,(l.1 q).1,(l.1 q).2,by omega,rfl⟩)⟩
  ·have R:=A.rl d (by omega) (by omega) (by omega) (by omega);exact ⟨AX R.f R.tg,.inl (AX R.f (f.sr (by omega)))⟩
  ·have R:=A.rl d (by omega) (by omega) (by omega) (by omega);exact ⟨AX R.f R.tg,.inr ⟨_,f.func (by omega),rfl⟩⟩
  ·have R:=A.rl d (by omega) (by omega) (by omega) (by omega);exact ⟨AX R.f (f.sr (by omega)),AX R.f R.tg⟩
  ·have R:=A.rl d (by omega) (by omega) (by omega) (by omega);exact v r _ R (f.func (by omega)) (f.many q)
 ·have f:=A.ok.ok r.f d.1 r.s d.2;have l:=A.bG r.f d.1 r.s d.2;have R:=A.rl d (by unfold A2 at o;omega) (by unfold A2 at o;omega) (by unfold A2 at o;omega) (by unfold A2 at o;omega);refine ⟨fun q u m=>?_,fun q u=>?_,fun q u=>?_,fun q u m=>?_⟩
  ·obtain ⟨n,k,w,y,E,rfl⟩:=h.2.field A.bA A.ok.l8 u;refine ⟨AX R.f R.tg,.inl (.inr ⟨n,r.s.field,w,y,by have:=l.2.2;omega,?_⟩)⟩;unfold pN at m⊢;omega
  ·exact ⟨h.2.cell A.bA u,AX R.f R.tg⟩
  ·exact ⟨AX R.f (f.sr (by omega)),h.2.cell A.bA u⟩
  ·have j:=h.2.code A.bA A.ok.l8 u;exact ⟨⟨l.2.1 q,j⟩,v r _ R j m⟩
theorem Im{P a b c t}(A:AnOk P a b)(h:(least P).I c t):A8 P a c∧EM P a t:=h _ (MQ A)
theorem Xg{P c d a b}(A:AnOk P c d)(h:(least P).F a b):A8 P c a∧A8 P c b:=h _ (MQ A)
theorem MN{P b a n g}(A:AnOk P b a)(h:(least P).E n g):(1≤n∧n≤a)∧g<P.length:=h _ (MQ A)
theorem PM(P m D F l C o v w)(A:AnOk P l C)(h:Dn P m D F l C o v w)(r:Rl)(x:Nat)(av:Value)(hi:AD 0 w av r.s.args)(hr:Ly P r)(S:A2 r)(hx:(least P).I r.at x):
 Calls Tryz.prog 132 #[.pointer (some ⟨m,0,none⟩),.agg (Hi r av),.int .i64 x] w fun e f=>e=.returned (.tuple #[])∧Nx P m D F l C o v w f (fun y=>EZ P r x y.s):=by
 obtain ⟨K,al,L,rfl⟩:=Ad hi;have d0:=Aq hi;subst d0;have o1:Ab (fun _=>False) w (w.alloc (.cells (Hi r (.slice K r.s.args.length L)) 208)):=(Ab.refl _ w).alloc _;have b9:=Ak.new w (Hi r (.slice K r.s.args.length L)) 208;have hE:=h.i9 o1;have hI:=Ac hi o1 (fun _ _ q=>q);have hR:=A.rl hr (by unfold A2 at S;omega) (by unfold A2 at S;omega) (by unfold A2 at S;omega) (by unfold A2 at S;omega);have hT:=(Im A hx).2;have lx:=hT.lt A;have c1:∀k,o.own m k→k<w.heap.size:=fun k q=>h.r.ownLt q
 have d3:¬o.own m w.heap.size:=fun q=>by have:=c1 _ q;omega
 have B:=Aa A;have HR:=Aa hR;have HF:=Aa ((CU P).fol r x hr S hx);have HT:=Aa hT;have HP:=Aa hr;clear h hi A hr hR hT;go_enter Tryz.func132,Tryz.ntmps132;go_upto_block 0 with (first | (go_at_call 106;refine (ID x _ (by omega)).mono ?_;rintro e V ⟨rfl,Z⟩;dsimp only;have p:=(b9.O Z (fun q=>q)).alloc (.cells #[.int .i64 (CD x).1,.int .i64 (CD x).2.1,.int .i64 (CD x).2.2] 179);have b1:=p.cell 1;have c5:=Ae p;simp only [dM,dJ,dK] at b1));have u:Ab (fun _=>False) V (V.alloc (.cells #[.int .i64 (CD x).1,.int .i64 (CD x).2.1,.int .i64 (CD x).2.2] 179)):=(Ab.refl _ V).alloc _;have Y:=Ak.new V #[.int .i64 (CD x).1,.int .i64 (CD x).2.1,.int .i64 (CD x).2.2] 179;have a8:=hE.i9 (Z.trans u);have a9:=Ac hI (Z.trans u) (fun _ _ q=>q);have O3:=Aa (o1.trans (Z.trans u));have d4:¬o.own m V.heap.size:=fun q=>by have:=c1 _ q;have q1:=o1.size;have q2:=Z.size;omega
 clear o1 Z u hE hI b9 b1 c5;generalize V.alloc (.cells #[.int .i64 (CD x).1,.int .i64 (CD x).2.1,.int .i64 (CD x).2.2] 179)=W at*;generalize V.heap.size=tb at*;have b0:=p.cell 0;have b1:=p.cell 1;have b2:=p.cell 2;have b3:=p.cell 3;have b4:=p.cell 4;have b5:=p.cell 5;have b6:=p.cell 6;have b7:=p.cell 7;have b8:=p.cell 8;have c5:=Ae p;have t0:=Y.cell 0;have t1:=Y.cell 1;have t2:=Y.cell 2;have e2:=Ae Y;simp only [dM,dJ,dK] at b0 b1 b2 b3 b4 b5 b6 b7 b8 t0 t1 t2;have a3:=B.o.bA;have T:=HR.o.f;have c4:=HR.o.tg;have e1:=B.o.ok.l8 r.f;have O:=Aa a8;have HI:=Aa a9;have HB:=Aa p;have c7:=Aa Y;clear a8 a9 p Y hx;have a6:dN (A8 P l r.tg):=AX T c4;have d8:r.tg<16400:=D2 B.o T c4;have a5:∀(Q:Sv→Prop) (R f:World),Ab (fun _=>False) W R→Nx P m D F l C o v R f Q→Nx P m D F l C o v w f Q:=fun Q R f hW hN=>by obtain ⟨J,U,i,H,E,G⟩:=hN;have ow:=O3.o.trans hW;exact ⟨J,U,⟨i.r,fun j hj=>(i.ow j hj).imp id fun q=>Nat.le_trans ow.size q,i.rl,(ow.mono (fun _ _ q=>q.elim)).trans i.on⟩,H,E,G⟩
 have c6:∀R,Ab (fun _=>False) W R→EZ P r x v.s→Nx P m D F l C o v w R (fun y=>EZ P r x y.s):=fun R hW hq=> a5 _ _ _ hW ⟨o,v,⟨(O.o.i9 hW).r,fun _ q=>.inl q,rfl,Ab.refl _ _⟩,.rf _,fun _ q=>q,hq⟩
 have a1:=Aa a5;have a2:=Aa c6;clear a5 c6;have k0:r.s.kind=3∨r.s.kind=5∨r.s.kind=8∨r.s.kind=9:=S;clear S;rcases k0 with d | d | d | d
 ·have k3:(((r.s.kind:Nat):Int)==3)=true:=by rw [d];rfl
  have b:=Aa d;clear d;by_cases c:156≤x∧(x-156) % 4=0
  ·have s:CD x=(1,(x-156) / 4+1,(x-156) % 4):=by unfold CD;rw [if_neg (by omega),if_neg (by omega)]
   have M:((((CD x).1:Nat):Int)==1)=true:=by rw [s];rfl
   have d5:((((CD x).2.2:Nat):Int)==0)=true:=by rw [s];simp;omega
   have e0:=(B.o.bG r.f T r.s HP.o.2).2.2;have c2:pN (CD x).2.1 r.s.field=x+r.s.field:=by rw [s];unfold pN;dsimp only;omega
   have d1:1≤(CD x).2.1:=by rw [s];dsimp only;omega
   have d2:(CD x).2.1≤4001:=by obtain ⟨n,k,h1,h2,h3,e⟩:=HT.o.field a3 B.o.ok.l8 c.1;have:=B.o.lp;rw [s];dsimp only;unfold pN at e;omega
   have c9:dN ((least P).I r.tg (x+r.s.field)):=HF.o.1 b.o c.1 c.2;have N:dN (∀z,Ab (o.own m) W z→z.cell? ⟨tb,1,none⟩=some (.int .i64 (CD x).2.1)∧z.cell? ⟨w.heap.size,0,none⟩=some (.int .i64 r.f)∧z.cell? ⟨w.heap.size,1,none⟩=some (.int .i64 r.s.kind)∧z.cell? ⟨w.heap.size,2,none⟩=some (.int .i64 r.s.aQ)∧z.cell? ⟨w.heap.size,3,none⟩=some (.int .i64 r.s.r9)∧z.cell? ⟨w.heap.size,4,none⟩=some (.int .i64 r.s.field)∧z.cell? ⟨w.heap.size,5,none⟩=some (.int .i64 r.s.m9)∧z.cell? ⟨w.heap.size,6,none⟩=some (.slice K r.s.args.length L)∧z.cell? ⟨w.heap.size,7,none⟩=some (.int .i64 r.s.next)∧z.cell? ⟨w.heap.size,8,none⟩=some (.int .i64 r.s.taken)):=fun z h3=>by have q1:=(c7.o.O h3 d4).cell 1;have I:=HB.o.O h3 d3;have r0:=I.cell 0;have r1:=I.cell 1;have r2:=I.cell 2;have r3:=I.cell 3;have r4:=I.cell 4;have r5:=I.cell 5;have r6:=I.cell 6;have r7:=I.cell 7;have r8:=I.cell 8;simp only [dM,dJ,dK] at q1 r0 r1 r2 r3 r4 r5 r6 r7 r8;exact ⟨q1,r0,r1,r2,r3,r4,r5,r6,r7,r8⟩
   have d6:pN (CD x).2.1 r.s.field<19200:=by omega
   have a7:=Aa c2;clear c s c2;obtain ⟨ka,c0⟩:=(O.o.r.d0 r.tg 0 (.inl rfl)).2 a6.o;go_wp2_with fail;go_region_held3 (fun f=>f.cell? ⟨tb,1,none⟩=some (.int .i64 (CD x).2.1)∧f.cell? ⟨w.heap.size,0,none⟩=some (.int .i64 r.f)∧f.cell? ⟨w.heap.size,1,none⟩=some (.int .i64 r.s.kind)∧f.cell? ⟨w.heap.size,2,none⟩=some (.int .i64 r.s.aQ)∧f.cell? ⟨w.heap.size,3,none⟩=some (.int .i64 r.s.r9)∧f.cell? ⟨w.heap.size,4,none⟩=some (.int .i64 r.s.field)∧f.cell? ⟨w.heap.size,5,none⟩=some (.int .i64 r.s.m9)∧f.cell? ⟨w.heap.size,6,none⟩=some (.slice K r.s.args.length L)∧f.cell? ⟨w.heap.size,7,none⟩=some (.int .i64 r.s.next)∧f.cell? ⟨w.heap.size,8,none⟩=some (.int .i64 r.s.taken)) (go_keep)
    (first
      | (go_at_call 127;refine (Cb r (.slice K r.s.args.length L) _ (by omega) (by omega)).mono ?_;rintro e w3 ⟨rfl,u⟩;have O4:=Aa (Ab.trans (X:=fun _=>False) (a:=W) (by repeat (first | exact Ab.refl _ _ | refine Ab.drew ?_ | refine Ab.drewN ?_ _ | refine Ab.alloc ?_ _)) u);clear u;obtain ⟨q1,r0,r1,r2,r3,r4,r5,r6,r7,r8⟩:=N.o w3 (O4.o.mono fun _ _ q=>q.elim))
      | (go_at_call 65;refine (Iw (CD x).2.1 r.s.field _ d1 d2 (by omega)).mono ?_;rintro e f ⟨rfl,hw⟩;have hw:=hw.symm;subst hw)
      | (go_at_call 126;refine (E7 P m D F l C o v w5 r.tg ka fb _ (O.o.i9 O5.o).r c0 SF.o (by omega) (fun q=>by have:=(O.o.i9 O4.o).r.ownLt (k:=ka) (.inr (.inr (.inl ⟨0,_,c0⟩)));omega)).mono ?_;rintro e w6 ⟨rfl,J,i⟩;have SS:=Aa i;clear i;obtain ⟨q1,r0,r1,r2,r3,r4,r5,r6,r7,r8⟩:=N.o w6 ((O5.o.mono (fun _ _ q=>q.elim)).trans SS.o.on))
      | (go_at_call 98;refine (Fh (pN (CD x).2.1 r.s.field) _ d6).mono ?_;rintro e w5 ⟨fb,rfl,d9,sf,o5⟩;have O5:=Aa (O4.o.trans o5);have SF:=Aa sf;clear o5 sf;obtain ⟨q1,r0,r1,r2,r3,r4,r5,r6,r7,r8⟩:=N.o w5 (O5.o.mono fun _ _ q=>q.elim)))
   all_goals
    have g:dN (Nx P m D F l C o v w w6 (fun y=>EZ P r x y.s)):=by refine a1.o (fun y=>EZ P r x y.s) _ _ O5.o ⟨J,_,SS.o,Sv.give_up v _ _,fun X q=>q.give (fun t ht=>by rw [ht,a7.o];exact c9.o),?_⟩;refine ⟨fun _ _ _=>?_,fun q=>absurd (b.o.symm.trans q) (by decide),fun q=>absurd (b.o.symm.trans q) (by decide),fun q=>absurd (b.o.symm.trans q) (by decide)⟩;rw [←a7.o];exact .inr ⟨rfl,rfl⟩
    go_wp2_with fail;go_end0;exact ⟨rfl,g.o⟩
  ·have g:=Aa (a2.o _ (Ab.refl _ W) ⟨fun _ h1 h2=>absurd ⟨h1,h2⟩ c,fun q=>absurd (b.o.symm.trans q) (by decide),fun q=>absurd (b.o.symm.trans q) (by decide),fun q=>absurd (b.o.symm.trans q) (by decide)⟩);by_cases h1:156≤x
   ·have s:CD x=(1,(x-156) / 4+1,(x-156) % 4):=by unfold CD;rw [if_neg (by omega),if_neg (by omega)]
    have M:((((CD x).1:Nat):Int)==1)=true:=by rw [s];rfl
    have d5:((((CD x).2.2:Nat):Int)==0)=false:=by rw [s];simp;omega
    clear c s h1;go_wp2_with fail;go_end0;exact ⟨rfl,g.o⟩
   ·have M:((((CD x).1:Nat):Int)==1)=false:=by
     unfold CD;split
     ·rfl
     ·rw [if_pos (by omega)];rfl
    clear c h1
    go_wp2_with fail
    go_end0
    exact ⟨rfl,g.o⟩
 ·have k3:(((r.s.kind:Nat):Int)==3)=false:=by rw [d];rfl
  have k5:(((r.s.kind:Nat):Int)==5)=true:=by rw [d];rfl
  have b:=Aa d;clear d;by_cases c:Ug x
  ·have M:((((CD x).1:Nat):Int) !=2)=true:=by
    unfold CD;unfold Ug at c;split
    ·rfl
    ·rw [if_neg (by omega)];rfl
   have N:dN (A8 P l x):=HT.o.cell a3 c
   have a4:dN ((least P).F x r.tg):=HF.o.2.1 b.o c
   clear c
   go_wp2_with fail
   refine (Cb r (.slice K r.s.args.length L) W (by omega) (by omega)).mono ?_
   rintro e w3 ⟨rfl,u⟩
   have a0:=Aa u
   clear u
   go_wp2_with fail
   refine (FT P m D F l C o v w3 x r.tg (O.o.i9 a0.o).r N.o a6.o lx d8 a4.o).mono ?_
   rintro e w4 ⟨rfl,nx⟩
   obtain ⟨J,U,i,H,E,G⟩:=nx
   have g:=Aa (a1.o (fun y=>EZ P r x y.s) _ _ a0.o ⟨J,U,i,H,E,fun q=>absurd (b.o.symm.trans q) (by decide),fun _ _=>G,fun q=>absurd (b.o.symm.trans q) (by decide),fun q=>absurd (b.o.symm.trans q) (by decide)⟩)
   clear i H E G
   go_wp2_with fail
   go_end0
   exact ⟨rfl,g.o⟩
  ·have M:((((CD x).1:Nat):Int) !=2)=false:=by unfold CD;unfold Ug at c;rw [if_neg (by omega),if_pos (by omega)];rfl
   have g:=Aa (a2.o _ (Ab.refl _ W) ⟨fun q=>absurd (b.o.symm.trans q) (by decide),fun _ q=>absurd q c,fun q=>absurd (b.o.symm.trans q) (by decide),fun q=>absurd (b.o.symm.trans q) (by decide)⟩)
   clear c
   go_wp2_with fail
   go_end0
   exact ⟨rfl,g.o⟩
 ·have k3:(((r.s.kind:Nat):Int)==3)=false:=by rw [d];rfl
  have k5:(((r.s.kind:Nat):Int)==5)=false:=by rw [d];rfl
  have k9:(((r.s.kind:Nat):Int)==9)=false:=by rw [d];rfl
  have k8:(((r.s.kind:Nat):Int)==8)=true:=by rw [d];rfl
  have b:=Aa d;clear d;by_cases c:YF x
  ·have s:CD x=(2,x-144,0):=by unfold CD;unfold YF at c;rw [if_neg (by omega),if_pos (by omega)]
   have M:((((CD x).1:Nat):Int) !=2)=false:=by rw [s];rfl
   have hg:=HT.o.code a3 B.o.ok.l8 c;have hn:=(B.o.bG r.f T r.s HP.o.2).2.1 b.o;have HL:=Aa (HF.o.2.2.2 b.o c);have ho:(CD x).2.1=x-144:=by rw [s]
   rw [ho] at t1;have HN:=Aa hn;clear c s ho hn;go_wp2_with fail;refine (Qr P m D F l C o v W B.o O.o r (x-144) (.slice K r.s.args.length L) HI.o HR.o hg HN.o.1 HN.o.2 HL.o).mono ?_;rintro e w4 ⟨rfl,nx⟩;obtain ⟨J,U,i,H,E,G⟩:=nx;have g:=Aa (a1.o (fun y=>EZ P r x y.s) _ _ (Ab.refl _ W) ⟨J,U,i,H,E,fun q=>absurd (b.o.symm.trans q) (by decide),fun q=>absurd (b.o.symm.trans q) (by decide),fun q=>absurd (b.o.symm.trans q) (by decide),fun _ _=>G⟩);clear i H E G;go_wp2_with fail;go_end0;exact ⟨rfl,g.o⟩
  ·have M:((((CD x).1:Nat):Int) !=2)=true:=by
    unfold CD;unfold YF at c;split
    ·rfl
    ·rw [if_neg (by omega)];rfl
   have g:=Aa (a2.o _ (Ab.refl _ W) ⟨fun q=>absurd (b.o.symm.trans q) (by decide),fun q=>absurd (b.o.symm.trans q) (by decide),fun q=>absurd (b.o.symm.trans q) (by decide),fun _ q=>absurd q c⟩)
   clear c
   go_wp2_with fail
   go_end0
   exact ⟨rfl,g.o⟩
 ·have k3:(((r.s.kind:Nat):Int)==3)=false:=by rw [d];rfl
  have k5:(((r.s.kind:Nat):Int)==5)=false:=by rw [d];rfl
  have k9:(((r.s.kind:Nat):Int)==9)=true:=by rw [d];rfl
  have b:=Aa d;clear d;by_cases c:Ug x
  ·have M:((((CD x).1:Nat):Int) !=2)=true:=by
    unfold CD;unfold Ug at c;split
    ·rfl
    ·rw [if_neg (by omega)];rfl
   have N:dN (A8 P l x):=HT.o.cell a3 c
   have a4:dN ((least P).F r.sr x):=HF.o.2.2.1 b.o c
   have c3:=(B.o.ok.ok r.f T r.s HP.o.2).sr (by have:=b.o;omega)
   have c8:dN (A8 P l r.sr):=AX T c3
   have d7:r.sr<16400:=D2 B.o T c3
   clear c
   go_wp2_with fail
   refine (CV r (.slice K r.s.args.length L) W (by omega) (by omega)).mono ?_
   rintro e w3 ⟨rfl,u⟩
   have a0:=Aa u
   clear u
   go_wp2_with fail
   refine (FT P m D F l C o v w3 r.sr x (O.o.i9 a0.o).r c8.o N.o d7 lx a4.o).mono ?_
   rintro e w4 ⟨rfl,nx⟩
   obtain ⟨J,U,i,H,E,G⟩:=nx
   have g:=Aa (a1.o (fun y=>EZ P r x y.s) _ _ a0.o ⟨J,U,i,H,E,fun q=>absurd (b.o.symm.trans q) (by decide),fun q=>absurd (b.o.symm.trans q) (by decide),fun _ _=>G,fun q=>absurd (b.o.symm.trans q) (by decide)⟩)
   clear i H E G
   go_wp2_with fail
   go_end0
   exact ⟨rfl,g.o⟩
  ·have M:((((CD x).1:Nat):Int) !=2)=false:=by unfold CD;unfold Ug at c;rw [if_neg (by omega),if_pos (by omega)];rfl
   have g:=Aa (a2.o _ (Ab.refl _ W) ⟨fun q=>absurd (b.o.symm.trans q) (by decide),fun q=>absurd (b.o.symm.trans q) (by decide),fun _ q=>absurd q c,fun q=>absurd (b.o.symm.trans q) (by decide)⟩)
   clear c
   go_wp2_with fail
   go_end0
   exact ⟨rfl,g.o⟩
section
variable {P : List PFn} {a : Nat} {d : Value} {f g b : Nat} {o : So} {v : Sv} {w l : World}
def So.tk(o:So)(c:Nat):So:={o with om:=fun t=>if t=2 then c else o.om t,bk:=fun t i=>if t=2 then none else o.bk t i}
theorem So.tk_bk{o:So}{c t i k:Nat}(h:(o.tk c).bk t i=some k):t≠2∧o.bk t i=some k:=by
 unfold So.tk at h;dsimp only at h;split at h
 ·cases h
 ·next e=>exact ⟨e,h⟩
theorem So.tk_old{o:So}{c t i:Nat}(h:t≠2):(o.tk c).bk t i=o.bk t i:=by unfold So.tk;dsimp only;rw [if_neg h]
theorem So.tk_om{o:So}{c t:Nat}(h:t≠2):(o.tk c).om t=o.om t:=by unfold So.tk;dsimp only;rw [if_neg h]
theorem So.tk_2{o:So}{c:Nat}:(o.tk c).om 2=c:=rfl
theorem OP(v:Sv)(t i x:Nat)(h:t≠2):BF P v.took t i x↔BF P v t i x:=by simp [BF,Sv.took,h]
theorem Bp.took(h:Bp P a d f g b o v w){y}(R:w.heap.size≤y)(M:Bv Hb Ha y (fun _=>none) l)(J:Ak a (Gf (o.tk y) d f g b) 144 l)(A:Ab (fun k=>k=a) w l):Bp P a d f g b (o.tk y) v.took l:=by
 have E:∀t,t≤5→o.om t<w.heap.size:=fun t p=>h.ownLt (.inr (.inl ⟨t,p,rfl⟩))
 have F:∀t,t≤5→o.om t≠a:=fun t p=>by
  by_cases I:t=5
  ·subst I;obtain ⟨_,_,e⟩:=h.fm.isMap;exact (h.bR e).1
  ·obtain ⟨_,_,e⟩:=(h.mp t (by omega)).isMap;exact (h.bR e).1
 have O:∀t i k,o.bk t i=some k→k≠a:=fun t i k m=>by obtain ⟨_,_,e⟩:=(h.st t i k m).isMap;exact (h.bR e).1
 refine {h with s9:=J,mp:=fun t p=>?_,st:=fun t i k m=>?_,dj:=fun t i s N k m L=>h.dj t i s N k (So.tk_bk m).2 (So.tk_bk L).2,oj:=fun t s p B e=>?_,ne:=fun t i k s m B=>?_,t4:=fun t i k m=>h.t4 t i k (So.tk_bk m).2,d0:=fun c t p=>?_,d1:=fun n=>?_,d4:=fun n=>?_,d2:=fun c k m=>absurd rfl (So.tk_bk m).1,ins:=fun t i x p q=>?_,fm:=?_,fr:=fun c t D=>(h.fr c t D).O A (fun j K q=>?_) (fun j G Q q r=>?_),fvr:=h.fvr}
 ·by_cases e:t=2
  ·subst e;exact M
  ·rw [So.tk_om e,show (o.tk y).bk t=o.bk t from funext fun i=>So.tk_old e];exact (h.mp t p).O A (F t (by omega))
 ·obtain ⟨e,m⟩:=So.tk_bk m;exact ((h.st t i k m).O A (O t i k m)).iff fun x=>(OP v t i x e).symm
 ·by_cases z:t=2
  ·by_cases u:s=2
   ·rw [z,u]
   ·rw [z,So.tk_2,So.tk_om u] at e;have:=E s B;omega
  ·by_cases u:s=2
   ·rw [u,So.tk_2,So.tk_om z] at e;have:=E t p;omega
   ·rw [So.tk_om z,So.tk_om u] at e;exact h.oj t s p B e
 ·obtain ⟨e,m⟩:=So.tk_bk m;by_cases u:s=2
  ·rw [u,So.tk_2];have:=h.ownLt (.inr (.inr (.inl ⟨t,i,m⟩)));omega
  ·rw [So.tk_om u];exact h.ne t i k s m B
 ·rw [←h.d0 c t p,So.tk_old (by omega)]
 ·rw [←h.d1 n,So.tk_old (by omega)]
 ·rw [←h.d4 n,So.tk_old (by omega)]
 ·by_cases e:t=2
  ·subst e;simp [BF,Sv.took] at q
  ·rw [So.tk_old e];exact h.ins t i x p ((OP v t i x e).1 q)
 ·rw [So.tk_om (by omega)];exact h.fm.O A (F 5 (by omega))
 ·obtain ⟨G,H,_⟩:=h.fr c t D;exact Aj H h.s9 (by decide) j K q
 ·rw [q] at r;have C:=h.s9;unfold Ak at C;rw [r] at C;cases C
theorem Bp.outk(h:Bp P a d f g b o v w){x}(C:w.heap.size≤x):(∀c k,o.bk 2 c=some k→¬(o.tk x).own a k)∧¬(o.tk x).own a (o.om 2):=by
 have B:=(h.mp 2 (by omega)).isMap;refine ⟨fun c k m q=>?_,fun q=>?_⟩
 ·obtain ⟨z,y,e⟩:=(h.st 2 c k m).isMap;obtain ⟨s,u⟩:=h.bR e;have A:=h.ownLt (.inr (.inr (.inl ⟨2,c,m⟩)));rcases q with q | ⟨t,p,q⟩ | ⟨t,i,q⟩ | ⟨n,t,q,r⟩
  ·exact s q
  ·by_cases j:t=2
   ·rw [j,So.tk_2] at q;omega
   ·rw [So.tk_om j] at q;exact h.ne 2 c k t m p q
  ·obtain ⟨j,q⟩:=So.tk_bk q;exact j (h.dj t i 2 c k q m).1
  ·exact u n t q r
 ·obtain ⟨z,y,e⟩:=B;obtain ⟨s,u⟩:=h.bR e;have A:=h.ownLt (k:=o.om 2) (.inr (.inl ⟨2,by omega,rfl⟩));rcases q with q | ⟨t,p,q⟩ | ⟨t,i,q⟩ | ⟨n,t,q,r⟩
  ·exact s q
  ·by_cases j:t=2
   ·rw [j,So.tk_2] at q;omega
   ·rw [So.tk_om j] at q;exact j (h.oj 2 t (by omega) p q).symm
  ·obtain ⟨j,q⟩:=So.tk_bk q;exact h.ne t i _ 2 q (by omega) rfl
  ·exact u n t q r
def So.wt(o:So)(c:Nat)(t:Nat×Nat×Nat)(r:Rl):So:={o with fw:=fun x=>if x=c then some t else o.fw x,rl:=fun x=>if x=c then o.rl c++[r] else o.rl x}
def DV(o:So)(c:Nat):Value:=match o.fw c with | none=>.slice none 0 0 | some t=>DX t
theorem Bp.fwAt(h:Bp P a d f g b o v w)(c:Nat):Hn 0 w (DV o c) (o.rl c):=by
 unfold DV;cases e:o.fw c with
 | none=> rw [h.f0 c e];exact ⟨[],⟨rfl,.inl ⟨rfl,rfl⟩⟩,rfl,fun i q=>by simp at q⟩
 | some t=>exact h.fr c t e
theorem Bp.wait(h:Bp P a d f g b o v w){c:Nat}{t:Nat×Nat×Nat}{r:Rl}{z:World}(B:Ab (fun k=>(DV o c).ownBlock=some k) w z)(H:(DV o c).ownBlock=some t.1∨w.heap.size≤t.1)(hr:Hn 0 z (DX t) (o.rl c++[r]))
 (hm:Bv TB TA (o.om 5) (fun x=>if x=c then some t else o.fw x) l)(C:Ab (fun k=>k=o.om 5) z l):Bp P a d f g b (o.wt c t r) (v.wait c r) l:=by
 have S:∀k,(DV o c).ownBlock=some k→∃u,o.fw c=some u∧k=u.1:=fun k n=>by
  unfold DV at n;cases hc:o.fw c with
  | none=>rw [hc] at n;cases n
  | some u=>rw [hc] at n;unfold DX at n;cases n;exact ⟨u,rfl,rfl⟩
 have G:∀k,(DV o c).ownBlock=some k→∃s,w.heap[k]? =some (.cells s 208 (0,0)):=fun k n=>by obtain ⟨u,e,rfl⟩:=S k n;obtain ⟨s,Q,_⟩:=h.fr c u e;exact B8 Q _ rfl
 obtain ⟨a6,c5,I⟩:=h.fm.isMap;have l5:=lt_of_block I;have a1:z.heap[o.om 5]? =some (.map a6 c5):=(B.block _ l5 fun q=>by obtain ⟨s,e⟩:=G _ q;rw [I] at e;cases e).trans I;obtain ⟨n1,n2⟩:=h.bR I;have a4:∀k F E,w.heap[k]? =some (.map F E)→¬((DV o c).ownBlock=some k):=fun k F E n q=>by obtain ⟨s,e⟩:=G k q;rw [n] at e;cases e
 have a7:Ak a (Gf o d f g b) 144 z:=h.s9.O B fun q=>by obtain ⟨s,e⟩:=G _ q;have:=h.s9;unfold Ak at this;rw [e] at this;cases this
 have J:∀i m,(o.wt c t r).fw i=some m→(i=c∧m=t)∨(i≠c∧o.fw i=some m):=fun i m p=>by
  unfold So.wt at p;dsimp only at p;split at p
  ·next e=>cases p;exact .inl ⟨e,rfl⟩
  ·next e=>exact .inr ⟨e,p⟩
 refine {h with s9:=a7.O C (fun q=>n1 q.symm),mp:=fun m a2=>?_,st:=fun m T U R=>?_,ins:=h.ins,fm:=hm,fr:=fun i m p=>?_,fj:=fun M D W L a8 a0 e=>?_,f0:=fun i p=>?_,fvr:=fun i K=>?_}
 ·obtain ⟨F,E,e⟩:=(h.mp m a2).isMap;exact ((h.mp m a2).O B (a4 _ _ _ e)).O C (fun q=>absurd (h.oj m 5 (by omega) (by omega) q) (by omega))
 ·obtain ⟨F,E,e⟩:=(h.st m T U R).isMap;exact ((h.st m T U R).O B (a4 _ _ _ e)).O C (h.ne m T U 5 R (by omega))
 ·have a3:∀k s O,k=o.om 5→z.heap[k]? ≠some (.cells s 3 O):=fun k s O q r=>by rw [q,a1] at r;cases r
  rcases J i m p with ⟨rfl,rfl⟩ | ⟨e,n⟩
  ·have e:(o.wt i m r).rl i=o.rl i++[r]:=by unfold So.wt;dsimp only;rw [if_pos rfl]
   rw [e];refine hr.O C (fun j y q=>?_) a3;obtain ⟨s,Q,_⟩:=hr;obtain ⟨a5,e⟩:=B8 Q j y;rw [q,a1] at e;cases e
  ·have er:(o.wt c t r).rl i=o.rl i:=by unfold So.wt;dsimp only;rw [if_neg e]
   rw [er];refine ((h.fr i m n).O B (fun j y q=>?_) (fun j s O q r=>?_)).O C (fun j y q=>n2 i m n (by unfold DX at y;cases y;exact q.symm)) a3
   ·obtain ⟨u,N,A⟩:=S j q;unfold DX at y;cases y;exact e (h.fj i c m u n N A)
   ·obtain ⟨a5,X⟩:=G j q;rw [r] at X;cases X
 ·have Z:∀i m,i≠c→o.fw i=some m→m.1≠t.1:=fun i m a9 n q=>by
   rcases H with H | H
   ·obtain ⟨u,N,A⟩:=S _ H;exact a9 (h.fj i c m u n N (q.trans A))
   ·have:=h.ownLt (k:=m.1) (.inr (.inr (.inr ⟨i,m,n,rfl⟩)));omega
  rcases J M W a8 with ⟨rfl,rfl⟩ | ⟨A,q1⟩
  ·rcases J D L a0 with ⟨rfl,rfl⟩ | ⟨Y,V⟩
   ·rfl
   ·exact absurd e.symm (Z D L Y V)
  ·rcases J D L a0 with ⟨rfl,rfl⟩ | ⟨Y,V⟩
   ·exact absurd e (Z M W A q1)
   ·exact h.fj M D W L q1 V e
 ·unfold So.wt at p⊢;dsimp only at p⊢;split at p
  ·cases p
  ·next e=>rw [if_neg e];exact h.f0 i p
 ·show (v.W i K∨(i=c∧K=r))↔_;unfold So.wt;dsimp only;by_cases e:i=c
  ·subst e;rw [if_pos rfl,h.fvr i K];simp
  ·rw [if_neg e,h.fvr i K];simp [e]
end
end Go.Proofs.YtegmjgjkcdbmkaaGreatDoor

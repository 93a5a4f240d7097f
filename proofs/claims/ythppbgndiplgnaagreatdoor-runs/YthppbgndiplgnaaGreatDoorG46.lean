/- One of the texts of the proof of runs_card_holds: RuP RuQ RuR RwD. -/
import Derived.Test.YthppbgndiplgnaaGreatDoorG44
import Derived.Test.YthppbgndiplgnaaGreatDoorG45
set_option maxRecDepth 100000
set_option maxHeartbeats 4000000
namespace Go.Proofs.YthppbgndiplgnaaGreatDoor
open Go.RowKit
theorem SN{X d}{o:Nat→Nat→List TS→Nat→Nat→RS→Bool×RS}{n b a e g v f S}(h:v.kind≠0)(l:v.kind≠7)(m:v.kind≠8)(i:v.kind≠10)(j:v.kind≠11)(k:v.kind≠12):
 Bi X d o n b a (.mk v f) e g S=match FI v.kind (a+vx (Aq X b).m9 v.tg.i6) (a+vx (Aq X b).m9 v.sr.i6) v.field (e+1) (vx d v.sr.i6) S.c with
  | some c=>(false,{S with c:=c})
  | none=>(true,{S with Yi:=3}):=by
 unfold Bi;simp only;rw [cT h,cT j,cT k,cT i,cT l,cT m];cases FI v.kind (a+vx (Aq X b).m9 v.tg.i6) (a+vx (Aq X b).m9 v.sr.i6) v.field (e+1) (vx d v.sr.i6) S.c<;>rfl
theorem Ox(F)(hL:Fh F)(g i B)(U:Nat→Prop)(D G z A E C d Q X f K R O s S u j l m y r v k n o w)
 (hS:OZ d Q X z A)(hK:K≤150000)(J:Lu g i B U D G z A E C d Q X u.Yh f K F S w)(c7:S.c.i7.length+20*S.left+20≤K)(c8:S.c.Ys.length+S.c.Yr.length+20*S.left+20≤K)
 (a7:u.Yh<z.length)(c6:s.kind≤10)(T:XE d Q (Aq X u.Yh).m9 s)(b3:s.kind=1→R+1≤4000)(b4:s.kind=8→O+1≤4000)(a5:SC s u u.Yh)(b6:s.kind=1→u.i9=R+1)(b0:s.kind=8→u.i9=O+1)(hr:DO B w (.slice j y k) u.args):
 Calls Tryz.prog 72 #[.pointer (some ⟨g,0,none⟩),.agg (AS u (.slice j y k) (.slice l r n) (.slice m v o)),.int .i64 f] w fun e N=>e=.returned (.bool (Bi X d (AA X d F) F u.Yh f (.mk s []) R O S).1)∧A7 g i B d X (Bi X d (AA X d F) F u.Yh f (.mk s []) R O S).2 N∧Be g B w N:=by
 have a8:u.p.i6=s.tg.i6:=by rw [a5.p];rfl
 have a6:u.q.i6=s.sr.i6:=by rw [a5.q];rfl
 have I:=a5.kind;have c4:=J.ba;have b5:s.kind≠0→s.kind≠10→u.p.i6∈(Aq X u.Yh).m9:=fun a b=>by rw [a8];exact T.tg a b
 have b8:s.kind=2∨s.kind=3∨s.kind=5∨s.kind=6∨s.kind=8∨s.kind=9∨s.kind=10→u.q.i6∈(Aq X u.Yh).m9:=fun a=>by rw [a6];exact T.sr a
 have b7:s.kind≠0→s.kind≠10→f+vx (Aq X u.Yh).m9 s.tg.i6<S.c.i7.length:=fun a b=>by have:=(CP (T.tg a b)).1;omega
 have b9:s.kind=2∨s.kind=3∨s.kind=5∨s.kind=6∨s.kind=8∨s.kind=9∨s.kind=10→f+vx (Aq X u.Yh).m9 s.sr.i6<S.c.i7.length:=fun a=>by have:=(CP (T.sr a)).1;omega
 have a9:∀W,Ab (fun _=>False) w W→JH g i B U D G z A E C d Q X u.Yh f (K-4) S W:=fun W Y=>⟨hS,J.r.p6 Y,J.p.p6 Y,J.i.m,by omega,by omega,J.i.gv,by omega,J.YW,J.dp,J.en,a7,J.ba⟩
 have b2:=Ah hr;have M:∀V:Bool×RS,Bi X d (AA X d F) F u.Yh f (.mk s []) R O S=V→Calls Tryz.prog 72 #[.pointer (some ⟨g,0,none⟩),.agg (AS u (.slice j y k) (.slice l r n) (.slice m v o)),.int .i64 f] w (fun e N=>e=.returned (.bool V.1)∧A7 g i B d X V.2 N∧Be g B w N)→Calls Tryz.prog 72 #[.pointer (some ⟨g,0,none⟩),.agg (AS u (.slice j y k) (.slice l r n) (.slice m v o)),.int .i64 f] w (fun e N=>e=.returned (.bool (Bi X d (AA X d F) F u.Yh f (.mk s []) R O S).1)∧A7 g i B d X (Bi X d (AA X d F) F u.Yh f (.mk s []) R O S).2 N∧Be g B w N):=fun V e h=>by rw [e];exact h
 by_cases h0:s.kind=0
 ·exact Qa F g i B U D G z A E C d Q X u.Yh f K R O s [] S u j l m y r v k n o w J h0 (by rw [I,h0];rfl)
 by_cases a4:s.kind=10
 ·exact MS F g i B U D G z A E C d Q X f K R O s [] S u j l m y r v k n o w hS hK J a4 (by rw [I,a4];rfl) a7 a6 (T.sr (by omega))
 have hp:=b5 h0 a4;have Z:=b7 h0 a4;by_cases h7:s.kind=7
 ·refine M (E7 X (AA X d F) (vx d s.sr.i6) (BZ S.c.i7 f (s.args.map fun t=>vx (Aq X u.Yh).m9 t.i6)) (f+vx (Aq X u.Yh).m9 s.tg.i6) S) ?_ ?_
  ·unfold Bi;simp only;rw [cT h0,cT (by omega),cT (by omega),cT a4,cU h7]
  ·exact Hy g i B d X f u j l m y r v k n o w _ (.inl (by rw [I,h7];rfl)) (fun W Y=>Mh F hL g i B U D G z A E C d Q X f (K-4) O _ S S u s j l m y r v k n o W (a9 W Y) (by omega) J.l a5 (.inl h7) T (Ac hr Y (fun _ _ q=>q)) (fun h=>by omega) (fun _=>⟨rfl,rfl⟩) (fun h=>by omega))
 by_cases h8:s.kind=8
 ·have b1:=b0 h8;have c9:=b4 h8;by_cases hh:(Ak S.c.i7 (f+vx (Aq X u.Yh).m9 s.sr.i6)).v.kind=1∧(Aq X (Ak S.c.i7 (f+vx (Aq X u.Yh).m9 s.sr.i6)).v.y6).p8=s.args.length
  ·refine M (E7 X (AA X d F) (Ak S.c.i7 (f+vx (Aq X u.Yh).m9 s.sr.i6)).v.y6 (BZ S.c.i7 f (s.args.map fun t=>vx (Aq X u.Yh).m9 t.i6)) (f+vx (Aq X u.Yh).m9 s.tg.i6) {S with c:={S.c with Yr:=if S.Yl<40 then (O+1,(Ak S.c.i7 (f+vx (Aq X u.Yh).m9 s.sr.i6)).v.y6)::S.c.Yr else S.c.Yr}}) ?_ ?_
   ·unfold Bi;simp only;rw [cT h0,cT (by omega),cT (by omega),cT a4,cT h7,cU h8,cU hh]
   ·exact Hy g i B d X f u j l m y r v k n o w _ (.inr (by rw [I,h8];rfl)) (fun W Y=>Mh F hL g i B U D G z A E C d Q X f (K-4) O _ S _ u s j l m y r v k n o W (a9 W Y) (by omega) J.l a5 (.inr h8) T (Ac hr Y (fun _ _ q=>q)) (fun _=>⟨b1,by omega⟩) (fun h=>by omega) (fun _=>⟨hh.1,hh.2,rfl,rfl⟩))
  ·refine M (true,{S with Yi:=3}) ?_ ?_
   ·unfold Bi;simp only;rw [cT h0,cT (by omega),cT (by omega),cT a4,cT h7,cU h8,cT hh]
   ·subst b2;exact Hy g i B d X f u j l m _ r v k n o w _ (.inr (by rw [I,h8];rfl)) (fun W Y=>PV g i B U D G z A E C d Q X f (K-4) S u s j l m r v k n o W (a9 W Y) a5 h8 T hh)
 have P:∀V:Bool×RS,(match FI s.kind (f+vx (Aq X u.Yh).m9 s.tg.i6) (f+vx (Aq X u.Yh).m9 s.sr.i6) s.field (R+1) (vx d s.sr.i6) S.c with
  | some c=>(false,{S with c:=c})
  | none=>(true,{S with Yi:=3}))=V→Bi X d (AA X d F) F u.Yh f (.mk s []) R O S=V:=fun V e=>by rw [SN h0 h7 h8 a4 (by omega) (by omega)];exact e
 by_cases h1:s.kind=1
 ·have e1:=b6 h1;have e2:=b3 h1;refine M (false,{S with c:=(S.c.fields u.i9).set (f+vx (Aq X u.Yh).m9 u.p.i6) ⟨2,S.c.i7.length⟩}) (P _ ?_) ?_
  ·rw [e1,a8];simp only [FI,h1,if_true]
  ·exact Sw F g i B U D G z A E C d Q X f K S u j l m y r v k n o w hS hK J (by rw [I,h1];rfl) a7 hp (by omega)
 by_cases h4:s.kind=4
 ·refine M (false,{S with c:=S.c.set (f+vx (Aq X u.Yh).m9 u.p.i6) ⟨1,vx d u.q.i6⟩}) (P _ ?_) ?_
  ·rw [a8,a6];simp only [FI,h4];rfl
  ·exact Qb F g i B U D G z A E C d Q X f K S u j l m y r v k n o w hS hK J (by rw [I,h4];rfl) a7 hp (by rw [a6];exact T.func (.inl h4))
 have hq:=b8 (by omega);have a0:=b9 (by omega);rw [←a8] at Z;rw [←a6] at a0;rw [←a8,←a6] at P;have hT:∀V:Bool×RS,(∀W,EI g i B U D G z A E C d X S W→Calls Tryz.prog 95 #[.pointer (some ⟨g,0,none⟩),.agg (AS u (.slice j y k) (.slice l r n) (.slice m v o)),.int .i64 ((f+vx (Aq X u.Yh).m9 u.p.i6:Nat):Int),.int .i64 ((f+vx (Aq X u.Yh).m9 u.q.i6:Nat):Int)] W fun e N=>e=.returned (.bool V.1)∧A7 g i B d X V.2 N∧Be g B W N)→Calls Tryz.prog 72 #[.pointer (some ⟨g,0,none⟩),.agg (AS u (.slice j y k) (.slice l r n) (.slice m v o)),.int .i64 f] w (fun e N=>e=.returned (.bool V.1)∧A7 g i B d X V.2 N∧Be g B w N):=fun V h=> Sx F g i B U D G z A E C d Q X f K S u j l m y r v k n o w V hS hK J (by rw [I];unfold Gg;split<;>(try split)<;>omega) a7 hp hq h
 generalize f+vx (Aq X u.Yh).m9 u.p.i6=p at*;generalize f+vx (Aq X u.Yh).m9 u.q.i6=q at*;by_cases h2:s.kind=2
 ·refine M (false,{S with c:=S.c.set p ⟨2,q⟩}) (P _ ?_) (hT _ fun W H=>Sy g i B U D G z A E C d X S u j l m y r v k n o _ _ W H Z a0 (by rw [I,h2];rfl));simp only [FI,h2];rfl
 by_cases h3:s.kind=3
 ·have hf:=a5.field h3;have c5:=T.field h3;by_cases L:(Ak S.c.i7 q).v.kind=2
  ·by_cases g2:(Ak S.c.i7 (Ak S.c.i7 q).v.y6).nm.kind=1∧(Ak S.c.i7 (Ak S.c.i7 q).v.y6).nm.Yk=0
   ·refine M (false,{S with c:=S.c.set p ⟨2,(Ak S.c.i7 q).v.y6+u.field⟩}) (P _ ?_) (hT _ fun W H=>Qc g i B U D G z A E C d X S u j l m y r v k n o _ _ W H Z a0 (by rw [I,h3];rfl) L g2 (by omega));rw [hf,h3];have hc:(Ak S.c.i7 q).v.kind=2∧(Ak S.c.i7 (Ak S.c.i7 q).v.y6).nm.kind=1∧(Ak S.c.i7 (Ak S.c.i7 q).v.y6).nm.Yk=0:=⟨L,g2⟩;simp [FI,hc]
   ·refine M (true,{S with Yi:=3}) (P _ ?_) (hT _ fun W H=>OB g i B U D G z A E C d X S u j l m y r v k n o _ _ W H Z a0 (by rw [I,h3];rfl) L g2);have hc:¬((Ak S.c.i7 q).v.kind=2∧(Ak S.c.i7 (Ak S.c.i7 q).v.y6).nm.kind=1∧(Ak S.c.i7 (Ak S.c.i7 q).v.y6).nm.Yk=0):=fun x=>g2 x.2
    rw [h3];simp only [FI];rw [cT (by decide),cT (by decide),cU trivial,cT hc]
  ·refine M (true,{S with Yi:=3}) (P _ ?_) (hT _ fun W H=>OA g i B U D G z A E C d X S u j l m y r v k n o _ _ W H Z a0 (by rw [I,h3];rfl) L);have hc:¬((Ak S.c.i7 q).v.kind=2∧(Ak S.c.i7 (Ak S.c.i7 q).v.y6).nm.kind=1∧(Ak S.c.i7 (Ak S.c.i7 q).v.y6).nm.Yk=0):=fun x=>L x.1
   rw [h3];simp only [FI];rw [cT (by decide),cT (by decide),cU trivial,cT hc]
 by_cases h5:s.kind=5
 ·by_cases L:(Ak S.c.i7 q).v.kind=2
  ·refine M (false,{S with c:=S.c.set p (Ak S.c.i7 (Ak S.c.i7 q).v.y6).v}) (P _ ?_) (hT _ fun W H=>Sz g i B U D G z A E C d X S u j l m y r v k n o _ _ W H Z a0 (by rw [I,h5];rfl) L);rw [h5];simp [FI,L]
  ·refine M (true,{S with Yi:=3}) (P _ ?_) (hT _ fun W H=>Qd g i B U D G z A E C d X S u j l m y r v k n o _ _ W H Z a0 (by rw [I,h5];rfl) L);rw [h5];simp [FI,L]
 by_cases h6:s.kind=6
 ·refine M (false,{S with c:=S.c.set p (Ak S.c.i7 q).v}) (P _ ?_) (hT _ fun W H=>SA g i B U D G z A E C d X S u j l m y r v k n o _ _ W H Z a0 (by rw [I,h6];rfl));rw [h6];simp [FI]
 have h9:s.kind=9:=by omega
 by_cases L:(Ak S.c.i7 p).v.kind=2
 ·refine M (false,{S with c:=S.c.set (Ak S.c.i7 p).v.y6 (Ak S.c.i7 q).v}) (P _ ?_) (hT _ fun W H=>Qe g i B U D G z A E C d X S u j l m y r v k n o _ _ W H Z a0 (by rw [I,h9];rfl) L);rw [h9];simp [FI,L]
 ·refine M (true,{S with Yi:=3}) (P _ ?_) (hT _ fun W H=>OC g i B U D G z A E C d X S u j l m y r v k n o _ _ W H Z a0 (by rw [I,h9];rfl) L);rw [h9];simp [FI,L]
theorem Sv(F)(V:Fh F)(o I B)(U:Nat→Prop)(M Q r l P L a p X b j K n k i t S u v x y E G H z A C w)
 (W:OZ a p X r l)(T:K≤150000)(Y:Lu o I B U M Q r l P L a p X b j K F S w)(b1:S.c.i7.length+20*S.left+20≤K)(b2:S.c.Ys.length+S.c.Yr.length+20*S.left+20≤K)
 (Z:b<r.length)(d:XD a p (Aq X b).m9 t)(f:n+nK 1 t≤4000)(g:k+nK 8 t≤4000)(c:FN l b t i n k)(hu:l[i]? =some u)(hr:DO B w (.slice v E z) u.args)(hI:AD B w (.slice x G A) u.Yd)(a4:AD B w (.slice y H C) u.other)(D:EG t≤4001):
 Calls Tryz.prog 72 #[.pointer (some ⟨o,0,none⟩),.agg (AS u (.slice v E z) (.slice x G A) (.slice y H C)),.int .i64 j] w fun e w'=>e=.returned (.bool (Bi X a (AA X a F) F b j t n k S).1)∧A7 o I B a X (Bi X a (AA X a F) F b j t n k S).2 w'∧Be o B w w':=by
 match t,d,c,f,g,D with
 | .mk s [],d,c,f,g,D=> obtain ⟨u',m,a6,b4,a9⟩:=c;rw [hu] at m;obtain rfl:=dE m;have a0:=a6.Yh;subst a0;simp only [nK,nB,bK] at f g;exact Ox F V o I B U M Q r l P L a p X j K n k s S u v x y E G H z A C w W T Y b1 b2 Z d.1 d.2 (fun h=>by rw [cU h] at f;exact f) (fun h=>by rw [cU h] at g;exact g) a6 b4 a9 hr
 | .mk s [(q,J)],d,c,f,g,D=>
   obtain ⟨u',m,a0,b0,b3,R⟩:=c;rw [hu] at m;obtain rfl:=dE m;simp only [nK,nB,bK] at f g;simp only [EG,Lg,bK] at D;have a5:=d.2;rcases b0 with ⟨N,O⟩ | ⟨N,O⟩
   ·exact Oy F V o I B U M Q r l P L a p X b j K n k q s J S u v x y E G H z A C w W T Y N O Z a5 (by omega) (by omega) R hI (by omega)
   ·exact Ow F V o I B U M Q r l P L a p X b j K n k s [(q,J)] J [] S u v x y E G H z A C w W T Y N O Z rfl rfl a5 trivial (by simp only [nL];omega) (by simp only [nL];omega) R b3 hI a4 (by omega) (by simp [CT])
 | .mk s [(q,J),(q2,a7)],d,c,f,g,D=> obtain ⟨u',m,a0,N,O,R,a8⟩:=c;rw [hu] at m;obtain rfl:=dE m;simp only [nK,nB,bK] at f g;simp only [EG,Lg,bK] at D;exact Ow F V o I B U M Q r l P L a p X b j K n k s [(q,J),(q2,a7)] J a7 S u v x y E G H z A C w W T Y N O Z rfl rfl d.2.1 d.2.2 (by omega) (by omega) R a8 hI a4 (by omega) (by omega)
 | .mk _ (_::_::_::_),_,c,_,_,_=>exact c.elim
theorem OY.len{d:List FS}{g:Nat}:∀{a:List TS} {l:List Nat} {c b:Nat},OY d g a l c b→l.length=a.length
 | [],l,_,_,h=>by have e:l=[]:=h;rw [e];rfl
 | t::a,l,c,b,h=>by obtain ⟨j,i,e,_,f⟩:=h;rw [e,aX,aX,f.len]
theorem QQ:∀a:List TS,a.length≤CT a
 | []=>bI _
 | .mk v b::a=>by have:=QQ a;simp only [CT,EG,aX];omega
theorem Wf{a d B c X S w}(h:A7 a d B c X S w):w.cell? ⟨a,6,none⟩=some (.int .i64 (S.Yi:Int))∧a<w.heap.size:=by obtain ⟨_,_,_,_,h⟩:=h;have b:=h.l9.cell 6;simp only [F7,aU,aS,aT] at b;exact ⟨b,Ae h.l9⟩
structure XI(fs:List FS)(fn:List ByteArray)(par:List Nat)(vs:List ByteArray)(fi:Nat)(tr:List TS)(lr:List Nat)(pl ca:Nat):Prop where
 n:OY fs fi tr lr pl ca
 u:Pa fn par vs tr
 p1:pl+nL 1 tr≤4000
 p2:ca+nL 8 tr≤4000
 z:CT tr≤4001
theorem Su(F)(c8:∀G,G<F→Fh G):Fh F:=by
 intro H O B U R sv rf g p0 Q d D X c o ts l lv pl ca K S w hS hR hP hI hK hl b2 a5 d3 f7 Z hU d6 d7 hN a7 L;obtain ⟨V,hV⟩:∃V,AA X d F c o ts pl ca S=V:=⟨_,rfl⟩;rw [hV];obtain ⟨la,ll,lc,rfl⟩:=Ad a7;have f9:=Ah a7;subst f9;have g9:l.length≤4001:=by have:=QQ ts;rw [hN.len];omega
 have d9:=Aa c8;have HS:=Aa hS;have J:=Aa hV;have HR:=Aa hR;have HP:=Aa hP;have f2:=Aa a7;have b7:dJ (Lu H O B U R sv rf g p0 Q d D X c o K F S w):=⟨hR,hP,hI,hl,b2,a5,d3,Z⟩;have b4:dJ (XI g d D (Aq X c).m9 c ts l pl ca):=⟨hN,hU,d6,d7,L⟩;have g5:=hS.Z9;clear c8 hS hV hR hP a7 hI hl b2 a5 d3 Z hN hU d6 d7 L;go_enter Tryz.func41,Tryz.ntmps41;go_wp2;go_loopw [7] (fun i wr=>∃(k G:Nat) (a:RS) (y:List TS) (E z:Nat),k≤l.length∧G≤F∧i=.int .i64 k∧dJ (Lu H O B U R sv rf g p0 Q d D X c o K G a wr)∧dJ (XI g d D (Aq X c).m9 c y (l.drop k) E z)∧dJ (Be H B w wr)∧dJ (AA X d G c o y E z a=V)) (fun i _=>l.length-(intOf i).toNat)
 case atStart=>exact ⟨0,F,S,ts,pl,ca,by omega,by omega,rfl,b7,b4,Be.refl _ _ _,J⟩
 case round=>
  clear b7 b4 J;obtain ⟨k,G,a,y,E,z,hk,hG,rfl,m,HL,HF,J⟩:=hrel;obtain ⟨n,rfl⟩:∃n,G=n+1:=⟨G-1,by have:=m.o.l;omega⟩;by_cases d5:k<l.length
  ·have d2:=bG d5;have A:=HL.o;rw [d2] at A;cases y with
   | nil=> have e:l[k]::l.drop (k+1)=[]:=A.n;cases e
   | cons t y=>
     obtain ⟨j,l',e,c6,c5⟩:=A.n;obtain ⟨rfl,rfl⟩:=List.cons.inj e;obtain ⟨d1,d0⟩:=A.u;have q1:=A.p1;have q2:=A.p2;have q3:=A.z;simp only [nL,CT] at q1 q2 q3;have f0:dJ (XI g d D (Aq X c).m9 c y (l.drop (k+1)) (E+nK 1 t) (z+nK 8 t)):=⟨c5,d0,by omega,by omega,by omega⟩;have b:=J.o;rw [AA] at b;simp only at b;have b3:=Aa c6;have b5:=Aa d1;clear A c5 d0 c6 d1 HL J d2 e;have b2:=m.o.YW;have a5:=m.o.dp;have g8:=m.o.l;have Z:=m.o.ba;have g7:(k:Int)<(l.length:Int):=by omega
     go_wp2_with fail;refine (Ou H O B d X a wr m.o.r (by omega) (by omega)).mono ?_;rintro e w1 ⟨rfl,p,I⟩;have a9:=Aa (HF.o.trans I);by_cases Y:a.left=0
     ·rw [cU Y] at b p;subst b;have hd:decide (a.left≠0)=false:=by simp [Y]
      rw [hd];have R1:=Aa p;clear p I Y hd;go_wp2;go_ret;exact ⟨rfl,R1.o,a9.o⟩
     ·rw [cT Y] at b p;have hd:decide (a.left≠0)=true:=by simp [Y]
      rw [hd];have s:=Aa (Be.YO I m.o.r m.o.p);have N:a.one.left=a.left-1:=rfl;have o2:a.one.m8=a.m8+1:=rfl;have M:=m.o.i;have i1:=M.ml;have i2:=M.pl;have m1:a.one.c.i7.length+20*a.one.left+20≤K:=by rw [N];show a.c.i7.length+_+20≤K;omega
      have m2:a.one.c.Ys.length+a.one.c.Yr.length+20*a.one.left+20≤K:=by rw [N];show a.c.Ys.length+a.c.Yr.length+_+20≤K;omega
      have c7:Mx K d.length a.one:=⟨M.m,by omega,by omega,M.gv⟩;have x:Lu H O B U R sv rf g p0 Q d D X c o K n a.one w1:=⟨p,s.o,c7,by rw [N];omega,by rw [N,o2];omega,a5,m.o.en,Z⟩;obtain ⟨u,P⟩:∃u,g[l[k]]? =some u:=by
       have h:=b3.o;obtain ⟨v,bl⟩:=t;match bl,h with
       | [],h=>exact ⟨_,h.choose_spec.1⟩
       | [_],h=>exact ⟨_,h.choose_spec.1⟩
       | [_,_],h=>exact ⟨_,h.choose_spec.1⟩
       | _::_::_::_,h=>exact h.elim
      have hj:l[k]<g.length:=by
       rcases cJ l[k] g.length with q | q
       ·exact q
       ·rw [bV q] at P;cases P
      have d4:g[l[k]]=u:=by rw [aY hj] at P;simpa using P
      have a1:=a9.o.ZM HR.o f2.o (by decide) (by decide);obtain ⟨gl,rfl⟩:=As a1 (by omega);have b1:=a1.cellAt k (by omega);rw [bY,aY d5] at b1;simp only [Option.map_some] at b1;have g2:=(a1.lt gl rfl).2;obtain ⟨sa,sl,sc,g1⟩:∃sa sl sc,sv=.slice sa sl sc:=by obtain ⟨_,h,_⟩:=s.o.st;exact Ad h
      subst g1;have g0:sl=g.length:=by obtain ⟨_,h,_⟩:=s.o.st;exact Ah h
      subst g0;obtain ⟨T,rfl⟩:∃T,sa=some ⟨T,0,none⟩:=by obtain ⟨_,h,_⟩:=s.o.st;exact As h (by omega)
      have g3:T<w1.heap.size:=by obtain ⟨_,h,_⟩:=s.o.st;exact (h.lt T rfl).2
      obtain ⟨av,bv,ov,f,a3,a4,a6⟩:=s.o.st.get hj;rw [d4] at f a3 a4 a6;obtain ⟨aa,al,ac,rfl⟩:=Ad a3;obtain ⟨ba,f5,bc,rfl⟩:=Ad a4;obtain ⟨oa,ol,oc,rfl⟩:=Ad a6;have hC:=fun (W:World) (ho:Ab (fun _=>False) w1 W)=>Sv n (d9.o n (by omega)) H O B U R _ rf g p0 Q d D X c o K E z l[k] t a.one u aa ba oa al f5 ol ac bc oc W HS.o hK ⟨x.r.p6 ho,x.p.p6 ho,x.i,x.l,x.YW,x.dp,x.en,x.ba⟩ m1 m2 f7 b5.o (by omega) (by omega) b3.o P (Ac a3 ho (fun _ _ q=>q)) (Ac a4 ho (fun _ _ q=>q)) (Ac a6 ho (fun _ _ q=>q)) (by omega)
      have c4:=NJ HS.o.x (Iq HS.o.x n) (K:=K) (fi:=c) (base:=o) (pl:=E) (ca:=z) (t:=t) (S:=a.one) M.m m1 m2 M.gv (by rw [N];omega) Z b5.o (by omega);have c9:=LU (Gt (X:=X) (fn:=d) n) c o t E z a.one;generalize Bi X d (AA X d n) n c o t E z a.one=r at hC c4 c9 b;obtain ⟨j1,j2,j3⟩:=c4;obtain ⟨k1,k2⟩:=c9;rw [N,o2] at k2;rw [N] at j3;have j2:a.c.i7.length≤r.2.c.i7.length:=j2;have k1:r.2.Yl=a.Yl:=k1;have HC:=Aa hC;obtain ⟨xa,xb,xc,xd,a2⟩:=p;have r0:=a2.l9.cell 0;have lr:=Ae a2.l9;have p1:=s.o.pr.l9.cell 1;have lp:=Ae s.o.pr;simp only [F7,aU,aS,aT] at r0 p1;have e0:=f 0 (by omega);have e1:=f 1 (by omega);have e2:=f 2 (by omega);have e3:=f 3 (by omega);have e4:=f 4 (by omega);have e5:=f 5 (by omega);have e6:=f 6 (by omega);have e7:=f 7 (by omega);have e8:=f 8 (by omega);have e9:=f 9 (by omega);have b8:=f 10 (by omega);have b9:=f 11 (by omega);have c1:=f 12 (by omega);have c2:=f 13 (by omega);have c3:=f 14 (by omega);simp only [AS,aU,aS,aT,bK] at e0 e1 e2 e3 e4 e5 e6 e7 e8 e9 b8 b9 c1 c2 c3;have f1:dJ (A7 H O B d X a.one w1):=⟨_,_,_,_,a2⟩;have g6:(l[k]:Int)<(g.length:Int):=by omega
      have b6:=Aa b;have g4:=m.o.en;clear hC a2 f a3 a4 a6 a1 x c7 M I hd b P d4;generalize l[k]=j at*;unfold AS at HC;go_wp2_with fail;go_region_law (go_simp;go_at_call 72;refine (HC.o _ ?_).mono ?_;exact (by repeat (first | exact Ab.refl _ _ | refine Ab.drew ?_ | refine Ab.drewN ?_ _ | refine Ab.alloc ?_ _));rintro e w2 ⟨rfl,p,d8⟩;have I:=Aa ((Be.s8 (Ab.trans (X:=fun _=>False) (Ab.refl (fun _=>False) w1) (by repeat (first | exact Ab.refl _ _ | refine Ab.drew ?_ | refine Ab.drewN ?_ _ | refine Ab.alloc ?_ _)))).trans d8);obtain ⟨z6,h3⟩:=Wf p;clear d8;dsimp only);all_goals
       have b0:=Aa (a9.o.trans I.o);have f6:=Aa (Be.YO I.o f1.o s.o);have a8:=Aa p;have b:=b6.o;clear p I HC e0 e1 e2 e3 e4 e5 e6 e7 e8 e9 b8 b9 c1 c2 c3 r0 p1 b1 lr lp g3 g2 b6;by_cases C:r.1=true
       ·rw [cU (.inl C)] at b;subst b;rw [C];clear C;go_wp2_with fail;go_ret;exact ⟨rfl,a8.o,b0.o⟩
       ·by_cases L:r.2.Yi=0
        ·rw [cT (fun q=>q.elim C (fun q=>q L))] at b;have a0:r.1=false:=by simpa using C
         rw [a0];rw [L] at z6;have f3:=Aa b;have f4:dJ (Lu H O B U R (.slice (some ⟨T,0,none⟩) g.length sc) rf g p0 Q d D X c o K n r.2 w2):=⟨a8.o,f6.o,j1,by omega,by omega,by omega,L,by omega⟩;clear b C a0;go_wp2_with fail;go_roundw
         case rel=>exact ⟨k+1,n,r.2,y,_,_,by omega,by omega,by simp,f4,f0,b0,f3⟩
         case measure=>simp [intOf];omega
        ·rw [cU (.inr L)] at b;subst b;have a0:r.1=false:=by simpa using C
         rw [a0];have h1:((r.2.Yi:Int)==0)=false:=by simp;omega
         have h2:((r.2.Yi:Int) !=0)=true:=by simp;omega
         clear C a0;go_wp2_with fail;go_ret;exact ⟨rfl,a8.o,b0.o⟩
  ·have f8:k=l.length:=by omega
   subst f8;have hn:=HL.o.n;rw [cZ] at hn;cases y with
   | cons t y=> obtain ⟨_,_,e,_⟩:=hn;cases e
   | nil=> have b:=J.o;rw [AA] at b;subst b;have R1:=Aa m.o.r;clear m HL J hn;go_wp2_with fail;go_ret;exact ⟨rfl,R1.o,HF.o⟩
theorem T6(F):Fh F:=by
 induction F using Nat.strongRecOn with
 | ind F a=>exact Su F a
def Cd(a:Int):Nat:=if a<0 then 0 else if 5000<a then 5000 else a.toNat
theorem MK(a):Cd a≤5000:=by
 unfold Cd;split
 ·omega
 ·split<;>omega
abbrev We(b:Nat)(a:List UInt8):RS:=⟨⟨[],a,[],[]⟩,b,0,0,0,DL⟩
theorem Wg(X c m a b):Em X c m a b=if (Cu X (AA X c (a+1)) m [] (We a b)).1 then {(Cu X (AA X c (a+1)) m [] (We a b)).2 with Yi:=2} else (Cu X (AA X c (a+1)) m [] (We a b)).2:=rfl
theorem UO(j B)(U:Nat→Prop)(S sv O R Y Q b a2 X g a w)
 (P:OZ b a2 X O R)(M:Ls j B U S sv O R Y Q w)(hB:B≤w.heap.size)(hm:Br∈b):
 Calls Tryz.prog 7 #[.pointer (some ⟨j,0,none⟩),.string g,.int .i64 a] w fun e F=>∃t,w.heap.size≤t∧e=.returned (.pointer (some ⟨t,0,none⟩))∧A7 t j B b X (Em X b (vx b Br) (Cd a) g.data.toList) F∧Be t B w F:=by
 obtain ⟨Z,q2⟩:=CP hm;have a4:vx b Br<O.length:=by rw [P.h.Y0] at Z;exact Z
 have o:=Aa (Wg X b (vx b Br) (Cd a) g.data.toList);have a6:=MK a;have a1:∀(W:World),Ab (fun _=>False) w W→Calls Tryz.prog 15 #[.pointer (some ⟨j,0,none⟩),.string ⟨#[109,97,105,110]⟩] W fun e F=>e=.returned (.int .i64 ((vx b Br:Nat):Int))∧F=W:=fun W G=> (Dl B j Y Q S sv O Br W ((M.p6 G).pr) ((M.p6 G).fn) P.h.Yx).mono (fun e F h=>⟨by rw [h.1,P.h.p9,q2],h.2⟩)
 have y:=Aa a1;have a0:∀(t:Nat) (W:World),Dk t j B b X (We (Cd a) g.data.toList) (.slice none 0 0) (.slice none 0 0) g [] W→Ab (fun _=>False) w W→Calls Tryz.prog 18 #[.pointer (some ⟨t,0,none⟩),.int .i64 (vx b Br:Nat),.slice none 0 0] W fun e F=>e=.returned (.bool (Cu X (AA X b (Cd a+1)) (vx b Br) [] (We (Cd a) g.data.toList)).1)∧A7 t j B b X (Cu X (AA X b (Cd a+1)) (vx b Br) [] (We (Cd a) g.data.toList)).2 F∧Be t B W F:=fun t W c G=> KZ (Cd a+1) (T6 _) t j B U S sv O R Y Q b a2 X (vx b Br) [] (.slice none 0 0) 150000 (We (Cd a) g.data.toList) W P ⟨_,_,_,_,c⟩ (M.p6 G) ⟨fun i h=>dC h (Nat.not_lt_zero _),fun i h=>dC h (Nat.not_lt_zero _)⟩ (by simp only [bM];omega) (by simp only [bM];omega) (by omega) (Nat.lt_succ_self _) (by simp only;omega) (by simp) rfl a4 (fun v hv=>by cases hv) (by simp) (bE _ _ _ _)
 have l:=Aa a0;generalize Em X b (vx b Br) (Cd a) g.data.toList=V at*;generalize Cu X (AA X b (Cd a+1)) (vx b Br) [] (We (Cd a) g.data.toList)=r at*;generalize vx b Br=mi at*;clear a1 a0 Z q2 hm;have H:∀(L:Nat),Cd a=L→∀(W:World),Ab (fun _=>False) w W→dJ (Dk W.heap.size j B b X (We L g.data.toList) (.slice none 0 0) (.slice none 0 0) g [] (W.alloc (.cells #[.pointer (some ⟨j,0,none⟩),.slice none 0 0,.string g,.int .i64 L,.int .i64 0,.int .i64 0,.int .i64 0,.slice none 0 0,.int .i64 0] 39))):=fun L m W G=> ⟨Ar.new _ _ _,rfl,bE _ _ _ _,bE _ _ _ _,Ek.none b X,by have:=G.size;omega⟩
 have HP:=Aa M;have a5:(a<0∧Cd a=0)∨(5000<a∧Cd a=5000)∨(∃n:Nat,a=n∧n≤5000∧Cd a=n):=by
  unfold Cd;rcases Int.lt_or_le a 0 with h | h
  ·exact .inl ⟨h,by rw [cU h]⟩
  ·rcases Int.lt_or_le 5000 a with k | k
   ·exact .inr (.inl ⟨k,by rw [cT (by omega),cU k]⟩)
   ·exact .inr (.inr ⟨a.toNat,by omega,by omega,by rw [cT (by omega),cT (by omega)]⟩)
 clear M;rcases a5 with ⟨T,m⟩ | ⟨T,m⟩ | ⟨n,rfl,h2,m⟩
 ·rw [m] at l;have E:=H 0 m;have q:=Aa E;clear E H;have d1:decide (a<0)=true:=by simp [T]
  clear m;go_enter Tryz.func7,Tryz.ntmps7;have d:=Aa ((Ab.refl (fun _=>False) w).alloc (.cells #[.pointer (some ⟨j,0,none⟩),.slice none 0 0,.string g,.int .i64 0,.int .i64 0,.int .i64 0,.int .i64 0,.slice none 0 0,.int .i64 0] 39));have p:=Aa (q.o w (Ab.refl _ _));go_wp2_with fail;refine (y.o _ d.o).mono ?_;rintro e w1 ⟨rfl,s⟩;have s:=s.symm;subst s;go_wp2_with fail;refine (l.o _ _ p.o.o d.o).mono ?_;rintro e w2 ⟨rfl,u,x⟩;have z:=Aa ((Be.s8 d.o).trans x);cases D:r.1 with
  | false=> have f:=o.o;rw [D,cT (by decide)] at f;subst f;have K:=Aa u;clear u x y l d p q o;go_wp2_with fail;go_ret;exact ⟨_,aV _,rfl,K.o,z.o⟩
  | true=> have f:=o.o;rw [D,cU rfl] at f;subst f;obtain ⟨mv,nv,ch,a3,c⟩:=u;have lr:=Ae c.l9;have N:=c.l9.cell 6;have fz:=c.l9.frozen;simp only [F7,aU,aS,aT] at N;obtain ⟨A,C⟩:=c.wrote (S':={r.2 with Yi:=2}) 6 (.int .i64 2) rfl c.Yz rfl rfl rfl;have I:=Aa A;have J:=Aa (z.o.trans C);clear c A C x y l d p q o;go_wp2_with fail;go_ret;exact ⟨_,aV _,rfl,⟨_,_,_,_,I.o⟩,J.o⟩
 ·rw [m] at l;have E:=H 5000 m;have q:=Aa E;clear E H;have d1:decide (a<0)=false:=by simp;omega
  have d2:decide (5000<a)=true:=by simp [T]
  clear m;go_enter Tryz.func7,Tryz.ntmps7;have d:=Aa ((Ab.refl (fun _=>False) w).alloc (.cells #[.pointer (some ⟨j,0,none⟩),.slice none 0 0,.string g,.int .i64 5000,.int .i64 0,.int .i64 0,.int .i64 0,.slice none 0 0,.int .i64 0] 39));have p:=Aa (q.o w (Ab.refl _ _));go_wp2_with fail;refine (y.o _ d.o).mono ?_;rintro e w1 ⟨rfl,s⟩;have s:=s.symm;subst s;go_wp2_with fail;refine (l.o _ _ p.o.o d.o).mono ?_;rintro e w2 ⟨rfl,u,x⟩;have z:=Aa ((Be.s8 d.o).trans x);cases D:r.1 with
  | false=> have f:=o.o;rw [D,cT (by decide)] at f;subst f;have K:=Aa u;clear u x y l d p q o;go_wp2_with fail;go_ret;exact ⟨_,aV _,rfl,K.o,z.o⟩
  | true=> have f:=o.o;rw [D,cU rfl] at f;subst f;obtain ⟨mv,nv,ch,a3,c⟩:=u;have lr:=Ae c.l9;have N:=c.l9.cell 6;have fz:=c.l9.frozen;simp only [F7,aU,aS,aT] at N;obtain ⟨A,C⟩:=c.wrote (S':={r.2 with Yi:=2}) 6 (.int .i64 2) rfl c.Yz rfl rfl rfl;have I:=Aa A;have J:=Aa (z.o.trans C);clear c A C x y l d p q o;go_wp2_with fail;go_ret;exact ⟨_,aV _,rfl,⟨_,_,_,_,I.o⟩,J.o⟩
 ·rw [m] at l;have E:=H n m;have q:=Aa E;clear E H;have d1:decide ((n:Int)<0)=false:=by simp
  have d2:decide (5000<(n:Int))=false:=by simp;omega
  clear m;go_enter Tryz.func7,Tryz.ntmps7;have d:=Aa ((Ab.refl (fun _=>False) w).alloc (.cells #[.pointer (some ⟨j,0,none⟩),.slice none 0 0,.string g,.int .i64 (n:Int),.int .i64 0,.int .i64 0,.int .i64 0,.slice none 0 0,.int .i64 0] 39));have p:=Aa (q.o w (Ab.refl _ _));go_wp2_with fail;refine (y.o _ d.o).mono ?_;rintro e w1 ⟨rfl,s⟩;have s:=s.symm;subst s;go_wp2_with fail;refine (l.o _ _ p.o.o d.o).mono ?_;rintro e w2 ⟨rfl,u,x⟩;have z:=Aa ((Be.s8 d.o).trans x);cases D:r.1 with
  | false=> have f:=o.o;rw [D,cT (by decide)] at f;subst f;have K:=Aa u;clear u x y l d p q o;go_wp2_with fail;go_ret;exact ⟨_,aV _,rfl,K.o,z.o⟩
  | true=> have f:=o.o;rw [D,cU rfl] at f;subst f;obtain ⟨mv,nv,ch,a3,c⟩:=u;have lr:=Ae c.l9;have N:=c.l9.cell 6;have fz:=c.l9.frozen;simp only [F7,aU,aS,aT] at N;obtain ⟨A,C⟩:=c.wrote (S':={r.2 with Yi:=2}) 6 (.int .i64 2) rfl c.Yz rfl rfl rfl;have I:=Aa A;have J:=Aa (z.o.trans C);clear c A C x y l d p q o;go_wp2_with fail;go_ret;exact ⟨_,aV _,rfl,⟨_,_,_,_,I.o⟩,J.o⟩
theorem TQ{c F}(m x b a)(h:x.Ya≠none):(CE c F m x b a).2.1.Ya≠none:=by
 cases m with
 | zero=>exact h
 | succ m=> rw [CE,cT (fun q=>h q.1)];exact h
theorem VW{d}(l:(Ai d (d.length-1)).sort=0)(k x f)(r:H7 d.length x f.length)(p:(Hb d (2*d.length) k x f).2.1.Ya=none):
 Hj (fun j a b c e=>EY (2*d.length) (Hb d (2*d.length) k x f).2.2 j a b c e) (Hb d (2*d.length) k x f).1.Yd x.pl x.ca (Hb d (2*d.length) k x f).2.1.pl (Hb d (2*d.length) k x f).2.1.ca∧JM f (Hb d (2*d.length) k x f).2.2:=by
 have E:=Bb d;have C:∀(L:List UInt8) (x:St),x.s9<d.length→(Au d L x).s9<d.length:=fun L x h=>Ca rfl l h
 unfold Hb at p⊢;simp only at p⊢;have y:=(E [102,110] x).trans (Ey d 1 (Au d [102,110] x));have v:(Bq d 1 (Au d [102,110] x)).2.s9<d.length:=Eg (q:=(Bq d 1 (Au d [102,110] x)).1) rfl (by decide) l (C _ _ r.1);generalize Bq d 1 (Au d [102,110] x)=g at*;have z:=y.trans ((E [40] g.2).trans (EQ d (Au d [40] g.2)));have w:(Cc d (Au d [40] g.2)).2.s9<d.length:=Ez (q:=(Cc d (Au d [40] g.2)).1) rfl l (C _ _ v);generalize Cc d (Au d [40] g.2)=m at*;have i:=z.trans (E [123] m.2);have s:=r.YB i (C [123] m.2 w);have o:=E [125] (Az d (2*d.length) k (Au d [123] m.2) f []).2.1;have A:=(o.2.2.2 p).1;obtain ⟨D,t,u,B⟩:=(Tw (n:=d.length) l (2*d.length)).1 k (Au d [123] m.2) f [] s (fun q=>by have:=(i.2.2.2 q).2;have:=s.1;omega) A;rw [cR] at t;rw [t,o.2.1,o.2.2.1];rw [i.2.1,i.2.2.1] at u;exact ⟨u.mono (fun _ _ _ _ _ q=>q.2),B⟩
theorem Nz{a:List Tk}(g:(Ai a (a.length-1)).sort=0):∀(m:Nat) (x:St) (b:List FS) (c:List RF),H7 a.length x b.length→IQ (2*a.length) b c 0 0 x.pl x.ca→(CE a (2*a.length) m x b c).2.1.Ya=none→
 IQ (2*a.length) (CE a (2*a.length) m x b c).2.2 (CE a (2*a.length) m x b c).1 0 0 (CE a (2*a.length) m x b c).2.1.pl (CE a (2*a.length) m x b c).2.1.ca
 | 0,x,b,c,_,e,_=>e
 | m+1,x,b,c,h,e,d=>by
   rw [CE] at d⊢;split at d
   ·rename_i f;rw [cU f];have k:(Hb a (2*a.length) c.length x b).2.1.Ya=none:=Classical.byContradiction (fun q=>TQ m _ _ _ q d);obtain ⟨i,j⟩:=VW g c.length x b h k;exact Nz g m _ _ _ (Ks g _ _ x b h).1 ((e.pre j).snoc i) d
   ·rename_i f;rw [cT f];exact e
theorem QY{e:Nat}{g:List FS}:∀(l:List RF) (a:List TF) (k c b o d:Nat),l.length=a.length→(∀j (h:j<l.length) (m:j<a.length),Cz (CL (k+j) 4000 g) l[j].Yd a[j].Yg)→IQ e g l c b o d→
 ∀i (h:i<l.length) (m:i<a.length),OY g (k+i) a[i].Yg l[i].Yd (c+sK 1 a i) (b+sK 8 a i)
 | [],_,_,_,_,_,_,_,_,_,i,h,_=>by simp at h
 | f::l,[],_,_,_,_,_,n,_,_,_,_,_=>by simp at n
 | f::l,t::a,k,c,b,o,d,n,r,u,i,h,m=>by
   obtain ⟨x,s,v,w⟩:=u;have p:=r 0 (by simp) (by simp);simp only [bQ,bK] at p;obtain ⟨z,A,B⟩:=Rx 4000 e f.Yd t.Yg c b x s p v;subst A B;cases i with
   | zero=>simpa [sK] using z
   | succ i=>
     have I:=QY l a (k+1) (c+nL 1 t.Yg) (b+nL 8 t.Yg) o d (by simpa using n) (fun j q y=>by have:=r (j+1) (by simpa using q) (by simpa using y);simp only [cK] at this;rw [show k+1+j=k+(j+1) by omega];exact this) w i (by simpa using h) (by simpa using m)
     rw [show k+1+i=k+(i+1) by omega] at I;simp only [cK,sK,cL,bX,cF] at I⊢;rw [←Nat.add_assoc c,←Nat.add_assoc b];exact I
theorem Uw{a c b}(d:Pe 4000 a c b)(h:(BJ a 4000 b 0 (a,⟨0,0⟩)).2.Ym=0)(i)(k:i<(BJ a 4000 b 0 (a,⟨0,0⟩)).1.length)(l:i<a.length):(BJ a 4000 b 0 (a,⟨0,0⟩)).1[i].Yd=a[i].Yd:=by obtain ⟨f,g⟩:=Kt d;obtain ⟨n,o,p,m⟩:=JV (fs:=c) f g b 0 (a,⟨0,0⟩) (fun j e=>⟨j,_,(d.fr j (by rw [d.len];exact e) e).Yd⟩) h;exact (m i k l).2.2.1
theorem W5{b:List RF}{k:List FS}{a:List TF}{e p c:Nat}(G:GoodP a)(d:Pe 4000 b k a)(h:(BJ b 4000 a 0 (b,⟨0,0⟩)).2.Ym=0)(t:IQ e k b 0 0 p c):OZ (CC a) (Ul a) (Gm a 0 0) (BJ b 4000 a 0 (b,⟨0,0⟩)).1 k:=by
 have R:=Ux d h;have n:=Uw d h;have o:=d.len;have N:=QY b a 0 0 0 p c o (fun j q u=>by rw [cB];exact (d.fr j q u).Yd) t;generalize (BJ b 4000 a 0 (b,⟨0,0⟩)).1=x at*;have s:=R.len;have w:=G.YM.Yx;refine ⟨⟨?_,by omega,fun i=>?_,fun i j=>?_,fun i r=>?_,G.aJ.Yx⟩,G.aJ,fun f g=>?_,fun f g=>?_,fun f g=>?_,d.Z9⟩
 ·apply cO
  ·simp [CC,s]
  ·intro i l m;simp only [cH,CC];rw [R.name i (by simpa using l) (by simpa [CC] using m)];rfl
 ·unfold G7 CC;rw [bY];by_cases q:i<a.length
  ·rw [aY q];exact (G.ZK _ (bD q)).1.2
  ·rw [bV (by omega)];decide
 ·unfold OU;by_cases q:i<a.length
  ·rw [Gh a i q];simp only;by_cases v:j<(DC a[i]).length
   ·rw [aY v];exact (G.var q (bD _)).2
   ·rw [bV (by omega)];decide
  ·rw [Gd a i q];simp only [List.getElem?_nil,Option.getD_none];decide
 ·rw [R.m9 i r (by omega),Gh a i (by omega)]
 ·rw [Gh a f (by omega),n f g (by omega)];have:=N f (by omega) (by omega);simpa using this
 ·rw [Gh a f (by omega)];have:=G.Z5 (bD (show f<a.length by omega));simp only;omega
 ·rw [R.Yn f g (by omega),bW,Gh a f (by omega)]
end Go.Proofs.YthppbgndiplgnaaGreatDoor

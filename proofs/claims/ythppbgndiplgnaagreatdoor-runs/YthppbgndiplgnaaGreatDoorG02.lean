/- One of the texts of the proof of runs_card_holds: ScE ScF ScG ScH ScB ScI ScJ PaA PaB. -/
import Derived.Test.YthppbgndiplgnaaGreatDoorG01
import Derived.Lib.OthersKept
set_option maxRecDepth 100000
set_option maxHeartbeats 1000000
namespace Go.Proofs.YthppbgndiplgnaaGreatDoor
open Go.RowKit
def Et(t:PT):List Value:=[.int .i64 t.kind,.string t.i6,.int .i64 t.i9]
def CZ(l:List PT):List Value:=l.flatMap Et
theorem LA(l t):CZ (l++[t])=CZ l++Et t:=by simp [CZ]
def JN(B b:Nat)(s:ByteArray)(v:Value)(x:Sc)(w:World):Prop:=
 Ar b #[.string s,v,.bool x.rem,.int .i64 x.start,.int .i64 x.Yb] 127 w∧w.ownsRow B 184 3 v x.Yq.length (CZ x.Yq)
structure Fr(b:Nat)(v v':Value)(w w':World):Prop where
 f8:Ab (fun k=>k=b∨v.ownBlock=some k) w w'
 own:∀k,v'.ownBlock=some k→v.ownBlock=some k∨w.heap.size≤k
theorem Fr.refl(b v w):Fr b v v w w:=⟨Ab.refl _ _,fun _ h=>.inl h⟩
theorem Fr.trans{b:Nat}{u v t:Value}{w d e:World}(h:Fr b u v w d)(k:Fr b v t d e):Fr b u t w e:=by
 refine ⟨⟨k.f8.os.trans h.f8.os,k.f8.tape.trans h.f8.tape,k.f8.output.trans h.f8.output,bJ h.f8.size k.f8.size,fun i a c=>?_⟩,fun i a=>?_⟩
 ·rw [k.f8.block i (bL a h.f8.size) ?_]
  ·exact h.f8.block i a c
  ·rintro (q | q)
   ·exact c (.inl q)
   ·rcases h.own i q with q | q
    ·exact c (.inr q)
    ·omega
 ·rcases k.own i a with q | q
  ·exact h.own i q
  ·exact .inr (bJ h.f8.size q)
theorem Fr.drew{b v a w c}(h:Fr b v a w c):Fr b v a w c.drew:=⟨h.f8.drew,h.own⟩
theorem Fr.drewN{b v a w c}(h:Fr b v a w c)(n):Fr b v a w (c.drewN n):=⟨h.f8.drewN n,h.own⟩
theorem Fr.alloc{b v a w c}(h:Fr b v a w c)(o):Fr b v a w (c.alloc o):=⟨h.f8.alloc o,h.own⟩
theorem Fr.set{b v a w c}(h:Fr b v a w c)(i u):Fr b v a w (c.setCell ⟨b,i,none⟩ u):=⟨h.f8.setCell (.inl (.inl rfl)) u,h.own⟩
theorem JN.ne{B b s v x w}(h:JN B b s v x w):∀k,v.ownBlock=some k→k≠b:=Ap h.2 h.1 (by decide)
theorem JN.f8{B b s v x w w'}(h:JN B b s v x w)(a:Ab (fun _=>False) w w'):JN B b s v x w':=
 ⟨h.1.f8 a (fun q=>q),Ac h.2 a (fun _ _ q=>q)⟩
def IC(x:Sc)(t:PT):Sc:=⟨x.Yq++[t],x.rem,x.start,x.Yb⟩
theorem Tryz.infoPT:(Tryz.prog.info? 184).map (fun i=>(i.zero,i.size,i.bytes))=some (some (.agg #[.int .i64 0,.string ByteArray.empty,.int .i64 0]),3,32):=by kernel_rfl
theorem Tn{B b s v a x t w W c}(h:JN B b s v x w)(i:Ab (fun _=>False) w W)(g:c.ownsRow B 184 3 a (x.Yq.length+1) (CZ x.Yq++Et t))(j:W.grownBy c v.ownBlock)(n:∀k,a.ownBlock=some k→v.ownBlock=some k∨w.heap.size≤k):
 JN B b s a (IC x t) (c.setCell ⟨b,1,none⟩ a)∧Fr b v a w (c.setCell ⟨b,1,none⟩ a):=by
 have m:=h.ne;have e:Ab (fun k=>v.ownBlock=some k) w c:=Ab.grown (i.mono (fun _ _ q=>q.elim)) j (fun k l=>.inl l);have d:=h.1.f8 e (fun q=>m b q rfl);have f:=(Ab.refl (fun k=>k=b) c).p7 1 a;have o:∀k,a.ownBlock=some k→k≠b:=Ap g d (by decide);refine ⟨⟨?_,?_⟩,?_,n⟩
 ·have:=d.set 1 a;simpa [IC] using this
 ·have:=Ac g f o;simpa [IC,LA] using this
 ·exact (e.mono (fun k _ q=>.inr q)).trans (f.mono (fun k _ q=>.inl q))
theorem Mz(B b:Nat)(s:ByteArray)(v:Value)(x:Sc)(f a c:Nat)(w:World)(_hs:s.size≤4000)(h:JN B b s v x w)(P:B≤w.heap.size)(S:a≤c)(Q:c≤s.size)(R:x.Yq.length≤4001):
 Calls Tryz.prog 44 #[.pointer (some ⟨b,0,none⟩),.int .i64 f,.int .i64 a,.int .i64 c] w fun e o=>e=.returned (.tuple #[])∧∃g,JN B b s g (IC x ⟨f,s.extract a c,a⟩) o∧Fr b v g w o:=by
 obtain ⟨I,z,F,G,H⟩:=info_parts Tryz.infoPT;have t:=h.1.cell 0;have j:=h.1.cell 1;have y:=h.1.frozen 1;simp only [aU,aS,aT] at t j;obtain ⟨J,L,K,E⟩:=Ad h.2;subst E;have n:=Ae h.1;have D:=h.2;have i:=Aa h.ne;have r:=Aa h;clear h;go_enter Tryz.func44,Tryz.ntmps44;go_region_law (refine Ay rfl _ _ 41 rfl B 184 I (.agg #[.int .i64 0,.string ByteArray.empty,.int .i64 0]) 3 32 Tryz.underlying41 z F G H rfl (by decide) _ _ _ rfl (D.alloc _) ⟨w.heap.size,0,none⟩ 1 1 [.int .i64 f,.string (s.extract a c),.int .i64 a] rfl rfl (AN rfl _ _) (fun u m=>by simp at m;rcases m with rfl | rfl | rfl<;>rfl) (by decide) (by unfold maxLen;omega) (by omega) (by simp;omega) ?_;intro g p l d C;have T:p.cell? ⟨b,1,none⟩=some (.slice J L K):=(aW (d.block b (by simp;omega) (fun h=>i.o b h.symm rfl))).trans (by rw [←j];exact aW (bF _ _ _ n));have U:p.frozen? ⟨b,1,none⟩=false:=(bB (d.block b (by simp;omega) (fun h=>i.o b h.symm rfl))).trans (by rw [←y];exact bB (bF _ _ _ n));obtain ⟨M,O,N,rfl⟩:=Ad l);all_goals
  go_wp2_with fail;go_end0;refine ⟨rfl,.slice M O N,?_⟩;exact Tn r.o (((Ab.refl _ _).alloc _).drew) l d (fun k A=>(C k A).imp id (fun q=>by simp at q;omega))
theorem Jp(B b s v x a w)(D:s.size≤4000)(h:JN B b s v x w)(y:B≤w.heap.size)(z:a≤s.size)(g:JI a x):
 Calls Tryz.prog 43 #[.pointer (some ⟨b,0,none⟩),.int .i64 a] w fun e o=>e=.returned (.tuple #[])∧∃d,JN B b s d (Da s a x) o∧Fr b v d w o:=by
 have r:=h.1.cell 0;have t:=h.1.cell 3;have i:=h.1.cell 4;have u:=h.1.frozen 4;simp only [aU,aS,aT] at r t i;have G:=Ae h.1;have C:=g.start;have E:=g.Yb;have F:=g.many;have f:=Aa h;clear h g;by_cases p:0<x.Yb
 ·have l:Da s a x=⟨x.Yq++[⟨DX (s.extract x.start a).toList,s.extract x.start a,x.start⟩],x.rem,x.start,0⟩:=by simp [Da,p]
  rw [l];have A:decide ((0:Int)<(x.Yb:Int))=true:=by simp;omega
  go_enter Tryz.func43,Tryz.ntmps43;go_wp2;go_cut [] (fun q=>∃d,JN B b s d (IC x ⟨DX (s.extract x.start a).toList,s.extract x.start a,x.start⟩) q∧Fr b v d w q)
  case first=>
   go_region_with (first
    | (go_at_call 77;refine (M5 _ _).mono ?_;rintro e o ⟨rfl,m⟩;have m:=m.symm;subst m)
    | (go_at_call 44;refine (Mz B b s v x (DX (s.extract x.start a).toList) x.start a _ D (f.o.f8 (by repeat (first | exact Ab.refl _ _ | refine Ab.drew ?_ | refine Ab.drewN ?_ _ | refine Ab.alloc ?_ _))) (by simpa using y) C z (by omega)).mono ?_;rintro e H ⟨rfl,n,c,j⟩))
   all_goals
    go_wp2_with fail;go_meet
    case rel=>exact ⟨n,c,Fr.trans ⟨(by repeat (first | exact Ab.refl _ _ | refine Ab.drew ?_ | refine Ab.drewN ?_ _ | refine Ab.alloc ?_ _)),fun _ h=>.inl h⟩ j⟩
  case rest=>
   obtain ⟨n,c,j⟩:=hcut;have u:=c.1.frozen 4;have i:=c.1.cell 4;simp only [aU,aS,aT] at i;go_wp2;go_end0;refine ⟨rfl,n,⟨?_,?_⟩,j.set 4 _⟩
   ·have:=c.1.set 4 (.int .i64 0);simpa [IC] using this
   ·exact Ac c.2 ((Ab.refl (fun k=>k=b) _).p7 4 _) c.ne
 ·have l:Da s a x=⟨x.Yq,x.rem,x.start,0⟩:=by simp [Da,p]
  rw [l];have A:decide ((0:Int)<(x.Yb:Int))=false:=by simp;omega
  go_enter Tryz.func43,Tryz.ntmps43;go_wp2;go_end0;refine ⟨rfl,v,⟨?_,?_⟩,(Fr.refl _ _ _).set 4 _⟩
  ·have:=f.o.1.set 4 (.int .i64 0);simpa using this
  ·exact Ac f.o.2 ((Ab.refl (fun k=>k=b) _).p7 4 _) f.o.ne
theorem Li(B b:Nat)(s:ByteArray)(v:Value)(x:Sc)(p:Nat)(w:World)(h:JN B b s v x w)(n:x.Yb≤8):
 Calls Tryz.prog 75 #[.pointer (some ⟨b,0,none⟩),.int .i64 p] w fun e l=>e=.returned (.tuple #[.int .i64 ((if 8<x.Yb+1 then (Cs p x).start else 0:Nat):Int),.bool (!decide (8<x.Yb+1))])∧JN B b s v (Cs p x) l∧Fr b v v w l:=by
 have m:=h.1.cell 3;have d:=h.1.cell 4;have o:=h.1.frozen;simp only [aU,aS,aT] at m d;have r:=Ae h.1;have a:=Aa h;clear h;by_cases c:x.Yb=0
 ·have f:((x.Yb:Int)==0)=true:=by simp [c]
  have g:Cs p x=⟨x.Yq,x.rem,p,1⟩:=by simp [Cs,c]
  rw [g,c];rw [c] at d;clear c f;go_enter Tryz.func75,Tryz.ntmps75;go_wp2;go_ret2;refine ⟨rfl,⟨?_,?_⟩,((Fr.refl _ _ _).set 3 _).set 4 _⟩
  ·have:=(a.o.1.set 3 (.int .i64 p)).set 4 (.int .i64 1);simpa using this
  ·exact Ac a.o.2 (((Ab.refl (fun k=>k=b) _).p7 3 _).p7 4 _) a.o.ne
 ·have f:((x.Yb:Int)==0)=false:=by simp [c]
  have g:Cs p x=⟨x.Yq,x.rem,x.start,x.Yb+1⟩:=by simp [Cs,c]
  rw [g];by_cases i:x.Yb=8
  ·rw [i];rw [i] at d;clear c f n;go_enter Tryz.func75,Tryz.ntmps75;go_wp2;go_ret2;refine ⟨rfl,⟨?_,?_⟩,(Fr.refl _ _ _).set 4 _⟩
   ·have:=a.o.1.set 4 (.int .i64 9);simpa using this
   ·exact Ac a.o.2 ((Ab.refl (fun k=>k=b) _).p7 4 _) a.o.ne
  ·have q:decide ((8:Int)<(x.Yb:Int)+1)=false:=by simp;omega
   have j:¬8<x.Yb+1:=by omega
   simp only [j,if_false,decide_false,Bool.not_false];clear j;go_enter Tryz.func75,Tryz.ntmps75;go_wp2;go_ret2;refine ⟨rfl,⟨?_,?_⟩,(Fr.refl _ _ _).set 4 _⟩
   ·have:=a.o.1.set 4 (.int .i64 ((x.Yb:Int)+1));simpa using this
   ·exact Ac a.o.2 ((Ab.refl (fun k=>k=b) _).p7 4 _) a.o.ne
theorem MY(B b:Nat)(s:ByteArray)(v:Value)(x:Sc)(p r:Nat)(w:World)(F:s.size≤4000)(h:JN B b s v x w)(E:B≤w.heap.size)(K:p<s.size)(J:x.Yq.length≤4000):
 Calls Tryz.prog 76 #[.pointer (some ⟨b,0,none⟩),.int .i64 p,.int .i32 r] w fun e j=>e=.returned (.tuple #[.int .i64 (Dz s p r x).2.1,.bool (Dz s p r x).2.2])∧∃q,JN B b s q (Dz s p r x).1 j∧Fr b v q w j:=by
 have u:=h.1.cell 2;have I:=h.1.frozen;simp only [aU,aS,aT] at u;have L:=Ae h.1;have f:=Aa h;clear h;by_cases a:r=32∨r=9∨r=10
 ·have c:Dz s p r x=(x,0,true):=by simp [Dz,a]
  rw [c];rcases a with a | a | a
  all_goals
   subst a;go_enter Tryz.func76,Tryz.ntmps76;go_wp2;go_ret2;exact ⟨rfl,v,f.o,Fr.refl _ _ _⟩
 ·have y:((r:Int)==32)=false:=by simp;omega
  have z:((r:Int)==9)=false:=by simp;omega
  have A:((r:Int)==10)=false:=by simp;omega
  by_cases g:r=35
  ·have c:Dz s p r x=(⟨x.Yq,true,x.start,x.Yb⟩,0,true):=by simp [Dz,g]
   rw [c];subst g;clear y z A;go_enter Tryz.func76,Tryz.ntmps76;go_wp2;go_ret2;refine ⟨rfl,v,⟨?_,?_⟩,(Fr.refl _ _ _).set 2 _⟩
   ·have:=f.o.1.set 2 (.bool true);simpa using this
   ·exact Ac f.o.2 ((Ab.refl (fun k=>k=b) _).p7 2 _) f.o.ne
  ·have H:((r:Int)==35)=false:=by simp;omega
   by_cases i:BI r=0
   ·have c:Dz s p r x=(x,p,false):=by simp [Dz,a,g,i]
    rw [c];have l:dJ (BI r=0):=i;clear a g i;go_enter Tryz.func76,Tryz.ntmps76;go_wp2_with (go_at_call 97;refine (Ix _ _).mono ?_;rw [l.o];rintro e j ⟨rfl,d⟩;have d:=d.symm;subst d);go_ret2;exact ⟨rfl,v,f.o,Fr.refl _ _ _⟩
   ·have c:Dz s p r x=(IC x ⟨BI r,s.extract p (p+1),p⟩,0,true):=by simp [Dz,a,g,i,IC]
    rw [c];have n:(BI r !=0)=true:=by simp [i]
    obtain ⟨m,o⟩:∃m,BI r=m:=⟨_,rfl⟩;rw [o] at n⊢;have t:=Aa o;have l:=Aa n;clear a g i n o;go_enter Tryz.func76,Tryz.ntmps76;go_wp2_with (first
     | (go_at_call 97;refine (Ix _ _).mono ?_;rw [t.o,l.o];rintro e j ⟨rfl,d⟩;have d:=d.symm;subst d)
     | (go_at_call 44;refine (Mz B b s v x m p (p+1) _ F f.o E (by omega) (by omega) (by omega)).mono ?_;rintro e M ⟨rfl,G,C,D⟩))
    go_ret2;exact ⟨rfl,G,C,D⟩
theorem ON(B b:Nat)(s:ByteArray)(v:Value)(x:Sc)(p r:Nat)(w:World)(m:s.size≤4000)(h:JN B b s v x w)(N:B≤w.heap.size)(O:p<s.size)(D:JI p x):
 Calls Tryz.prog 42 #[.pointer (some ⟨b,0,none⟩),.int .i64 p,.int .i32 r] w fun e i=>e=.returned (.tuple #[.int .i64 (AU s p r x).2.1,.bool (AU s p r x).2.2])∧∃F,JN B b s F (AU s p r x).1 i∧Fr b v F w i:=by
 have J:=h.1.cell 0;have z:=h.1.cell 2;have S:=h.1.frozen;simp only [aU,aS,aT] at J z;have U:=Ae h.1;have j:=Aa h;have y:=Aa D;clear h D;cases c:Dd s p r with
 | true=>
   have f:AU s p r x=(x,p,false):=by simp [AU,c]
   rw [f];have n:=Aa c;clear c;go_enter Tryz.func42,Tryz.ntmps42;go_wp2_with (first | (go_at_call 73;refine (Er _ _ _ m (by omega) _).mono ?_;rw [n.o];rintro e i ⟨rfl,a⟩;have a:=a.symm;subst a));go_ret2;exact ⟨rfl,v,j.o,Fr.refl _ _ _⟩
 | false=>
   have n:=Aa c;cases g:x.rem with
   | true=>
     have f:AU s p r x=(⟨x.Yq,r !=10,x.start,x.Yb⟩,0,true):=by simp [AU,c,g]
     rw [f];rw [g] at z;have E:((r:Int) !=10)=(r !=10):=by rw [Bool.eq_iff_iff];simp;omega
     have I:=Aa E;clear c g E;go_enter Tryz.func42,Tryz.ntmps42;go_wp2_with (first | (go_at_call 73;refine (Er _ _ _ m (by omega) _).mono ?_;rw [n.o];rintro e i ⟨rfl,a⟩;have a:=a.symm;subst a));go_ret2;refine ⟨rfl,v,⟨?_,?_⟩,(Fr.refl _ _ _).set 2 _⟩
     ·have:=j.o.1.set 2 (.bool ((r:Int) !=10));rw [I.o] at this⊢;simpa using this
     ·exact Ac j.o.2 ((Ab.refl (fun k=>k=b) _).p7 2 _) j.o.ne
   | false=>
     rw [g] at z;cases l:Ja r with
     | true=>
       have u:=Aa l;have f:AU s p r x=(Cs p x,(if 8<x.Yb+1 then (Cs p x).start else 0),!decide (8<x.Yb+1)):=by simp only [AU,c,g,l];by_cases M:8<x.Yb+1<;>simp [M]
       rw [f];clear c g l f;obtain ⟨q,t⟩:∃q,(if 8<x.Yb+1 then (Cs p x).start else 0)=q:=⟨_,rfl⟩;obtain ⟨d,C⟩:∃d,(!decide (8<x.Yb+1))=d:=⟨_,rfl⟩;have H:=Aa t;have G:=Aa C;rw [t,C];clear t C;go_enter Tryz.func42,Tryz.ntmps42;go_wp2_with (first | (go_at_call 73;refine (Er _ _ _ m (by omega) _).mono ?_;rw [n.o];rintro e i ⟨rfl,a⟩;have a:=a.symm;subst a) | (go_at_call 74;refine (Ir _ _).mono ?_;rw [u.o];rintro e i ⟨rfl,a⟩;have a:=a.symm;subst a) | (go_at_call 75;refine (Li B b s v x p _ j.o y.o.Yb).mono ?_;rw [H.o,G.o];rintro e R ⟨rfl,A,o⟩));go_ret2;exact ⟨rfl,v,A,o⟩
     | false=>
       have u:=Aa l;have f:AU s p r x=Dz s p r (Da s p x):=by simp [AU,c,g,l]
       rw [f];clear c g l f;go_enter Tryz.func42,Tryz.ntmps42;go_wp2_with (first | (go_at_call 73;refine (Er _ _ _ m (by omega) _).mono ?_;rw [n.o];rintro e i ⟨rfl,a⟩;have a:=a.symm;subst a) | (go_at_call 74;refine (Ir _ _).mono ?_;rw [u.o];rintro e i ⟨rfl,a⟩;have a:=a.symm;subst a) | (go_at_call 43;refine (Jp B b s v x p _ m j.o N (by omega) y.o).mono ?_;rintro e R ⟨rfl,P,A,o⟩;have T:=o.f8.size;have t:=(y.o.YG (s:=s)).many) | (go_at_call 76;refine (MY B b s P (Da s p x) p r _ m A (by omega) O (by omega)).mono ?_;rintro e V ⟨rfl,Q,K,L⟩));go_ret2;exact ⟨rfl,Q,K,o.trans L⟩
abbrev x0:Sc:=⟨[],false,0,0⟩
def WW(w:World)(s:ByteArray)(V:Nat ⊕ Sc)(e:Ending)(a:World):Prop:=
 match V with
 | .inl p=>e=.returned (.tuple #[.slice none 0 0,.int .i64 2,.int .i64 p])∧Below w.heap.size w a
 | .inr x=>∃v,e=.returned (.tuple #[v,.int .i64 0,.int .i64 0])∧a.ownsRow w.heap.size 184 3 v (AC s x).length (CZ (AC s x))∧(AC s x).length≤4001∧Below w.heap.size w a
theorem NM{w:World}{k:Nat}{s:ByteArray}{p:Nat}(h:w.heap[k]? =some (.stringIter s p)):w.iterPos k=p:=by simp [World.iterPos,h]
theorem Jv(w k s p):Ab (fun j=>j=k) w (w.iterAt k s p):=by have h:=Lib.below_iterAt (Below.refl 0 w) (k:=k) (bI _) s p;exact ⟨h.os,h.tape,h.output,h.size,fun j _ a=>Lib.iterAt_other _ _ _ _ _ (fun e=>a e)⟩
theorem Oc{w:World}{B:Nat}{e:TypeId}{i:Nat}{v:Value}{n:Nat}{j:List Value}(h:w.ownsRow B e i v n j){b:Nat}{s:ByteArray}{p:Nat}(f:w.heap[b]? =some (.stringIter s p)):∀k,v.ownBlock=some k→k≠b:=by
 rintro k a rfl;rcases h.2 with ⟨d,_⟩ | ⟨o,l,m,g,_,c,_⟩
 ·rw [d] at a;simp [Value.ownBlock] at a
 ·rw [g] at a;simp [Value.ownBlock] at a;subst a;rw [f] at c;cases c
theorem JN.iter{B b k s t v x w p q}(h:JN B b s v x w)(c:w.heap[k]? =some (.stringIter t p))(a:b≠k):JN B b s v x (w.iterAt k t q):=
 ⟨h.1.f8 (Jv _ _ _ _) a,Ac h.2 (Jv _ _ _ _) (Oc h.2 c)⟩
theorem Fr.iter{b k B s t v f x w c p}(h:Fr b v f w c)(e:JN B b s v x w)(a:w.heap[k]? =some (.stringIter t p))(d:b≠k):c.heap[k]? =some (.stringIter t p):=by
 rw [h.f8.block k (Ae a) ?_]
 ·exact a
 ·rintro (q | q)
  ·exact d q.symm
  ·exact Oc e.2 a k q rfl
theorem Fr.below{b B s v g x w a}(h:Fr b v g w a)(f:JN B b s v x w)(c:B≤w.heap.size)(i:B≤b):Below B w a:=
 h.f8.Yv c (fun k d=>d.elim (fun e=>by omega) (fun q=>(f.2.lt k q).1))
theorem OO(s)(c:4000<s.size)(a:s.size≤maxLen)(w):
 Calls Tryz.prog 19 #[.string s] w fun e b=>e=.returned (.tuple #[.slice none 0 0,.int .i64 1,.int .i64 0])∧b=w:=by
 unfold maxLen at a;go_enter Tryz.func19,Tryz.ntmps19;go_wp2;go_ret3;exact ⟨rfl,rfl⟩
theorem Gb(s)(t:s.size≤4000)(w):
 Calls Tryz.prog 19 #[.string s] w fun e w'=>WW w s (AK s s.size 0 x0) e w':=by
 generalize F:AK s s.size 0 x0=V;have E:dJ (AK s s.size 0 x0=V):=F;clear F;go_enter Tryz.func19,Tryz.ntmps19;go_wp2;go_loopw [6,7,8,9] (fun _ _ _ _ wr=>∃(a q f:Nat) (v:Value) (x:Sc),wr.heap[w.heap.size+1]? =some (.stringIter s a)∧JN w.heap.size w.heap.size s v x wr∧Below w.heap.size w wr∧s.size-a≤f∧JI q x∧q≤a∧q≤s.size∧dJ (AK s f a x=V)) (fun _ _ _ _ wr=>s.size-wr.iterPos (w.heap.size+1))
 case atStart=>
  refine ⟨0,0,s.size,.slice none 0 0,x0,?_,?_,?_,by omega,⟨aV _,by simp,by simp⟩,aV _,bI _,E⟩
  ·have:=World.iter_heap (w.alloc (.cells #[.string s,.slice none 0 0,.bool false,.int .i64 0,.int .i64 0] 127)) s 0;simpa using this
  ·exact ⟨(Ar.new w #[.string s,.slice none 0 0,.bool false,.int .i64 0,.int .i64 0] 127).alloc _,bE _ _ _ _⟩
  ·exact ((Below.refl _ _).alloc (aV _) _).alloc (by simp) _
 case round=>
  obtain ⟨a,q,f,v,x,h,u,m,H,p,a0,a1,o⟩:=hrel;clear E;have Z:=NM h;have O:=m.size;by_cases d:a<s.size
  ·have X:∀i,(Instr.next (.pointer (some ⟨w.heap.size+1,0,none⟩)) true i).run Tryz.prog wr=_:=fun i=>Lib.run_next_any_at wr (w.heap.size+1) s a i h d
   have I:=Lib.iterAt_heap wr (w.heap.size+1) s a (a+(Utf8.decode s a).2) h;have B:=Lib.below_iterAt m (k:=w.heap.size+1) (by omega) s (a+(Utf8.decode s a).2);have M:=u.iter (q:=a+(Utf8.decode s a).2) h (by omega);have a3:=FO s a d;have K:=p.more a0;generalize wr.iterAt (w.heap.size+1) s (a+(Utf8.decode s a).2)=W1 at*;have z:=B.size;obtain ⟨y,N⟩:∃y,AU s a (Utf8.decode s a).1 x=y:=⟨_,rfl⟩;have c:=Aa N;have j:=Aa K;have b:=Aa M;have R:=Aa I;have n:=Aa B;clear h u m p K M I B N;obtain ⟨Q,y2,y3⟩:=y;cases y3 with
   | true=>
     go_wp2_with (go_at_call 42;refine (ON w.heap.size w.heap.size s v x a (Utf8.decode s a).1 _ t b.o z d j.o).mono ?_;rw [c.o];rintro e P ⟨rfl,D,l,g⟩);obtain ⟨T,W,G⟩:=Dr (x:=x) H d (by rw [c.o]);rw [c.o] at G;have Y:JI (a+1) Q:=by have:=Vc (s:=s) (r:=(Utf8.decode s a).1) j.o (by rw [c.o]);rw [c.o] at this;exact this
     have J:=g.iter b.o R.o (by omega);go_roundw
     case rel=>exact ⟨a+(Utf8.decode s a).2,a+1,T,D,Q,J,l,n.o.trans (g.below b.o z (aV _)),W,Y,by omega,by omega,by show _=_;rw [←G];exact o.o⟩
     case measure=>rw [NM J,Z];omega
   | false=>
     go_wp2_with (go_at_call 42;refine (ON w.heap.size w.heap.size s v x a (Utf8.decode s a).1 _ t b.o z d j.o).mono ?_;rw [c.o];rintro e P ⟨rfl,D,l,g⟩);go_ret3;have C:V=.inl y2:=by have:=Ej (x:=x) H d (by rw [c.o]);rw [c.o] at this;rw [←o.o,this]
     subst C;exact ⟨rfl,n.o.trans (g.below b.o z (aV _))⟩
  ·have X:∀i,(Instr.next (.pointer (some ⟨w.heap.size+1,0,none⟩)) true i).run Tryz.prog wr=_:=fun i=>Lib.run_next_end_at wr (w.heap.size+1) s a i h d
   have C:V=.inr x:=by rw [←o.o,DI d]
   subst C;have b:=Aa u;have n:=Aa m;have L:=p.more a1;have j:=Aa L;clear h u m p o L;have a2:=(j.o.YG (s:=s)).many;go_wp2_with (first
    | (go_at_call 43;refine (Jp w.heap.size w.heap.size s v x s.size _ t b.o O (aV _) j.o).mono ?_;rintro e w1 ⟨rfl,v1,l,g⟩;have a4:=g.f8.size)
    | (go_at_call 44;refine (Mz w.heap.size w.heap.size s v1 (Da s s.size x) 0 s.size s.size _ t l (by omega) (aV _) (aV _) (by omega)).mono ?_;rintro e P ⟨rfl,D,A,U⟩;have S:=A.1.cell 1;simp only [aU,aS,aT] at S;obtain ⟨va,vl,vc,rfl⟩:=Ad A.2))
   go_ret3;refine ⟨_,rfl,?_,?_,?_⟩
   ·have:=A.2;simpa [AC,IC] using this
   ·simp [AC];omega
   ·exact (n.o.trans (g.below b.o O (aV _))).trans (U.below l (by omega) (aV _))
def WD(t:PT):Prop:=t.kind=2→t.i6=⟨#[48]⟩∨t.i6=⟨#[49]⟩∨t.i6=⟨#[50]⟩∨t.i6=⟨#[51]⟩
def DigOk(l:List PT):Prop:=∀t,t∈l→WD t
theorem DigOk.snoc{l t}(h:DigOk l)(b:WD t):DigOk (l++[t]):=by
 intro u c;rcases bZ.1 c with a | a
 ·exact h u a
 ·rw [bO.1 a];exact b
theorem Vm(l):DX l≠2:=by
 unfold DX;repeat' split
 all_goals decide
theorem DigOk.YG{s e x}(h:DigOk x.Yq):DigOk (Da s e x).Yq:=by
 unfold Proofs.YthppbgndiplgnaaGreatDoor.Da;split
 ·exact h.snoc (fun a=>dC a (Vm _))
 ·exact h
theorem RM{r}(h:BI r=2):r=48∨r=49∨r=50∨r=51:=by
 unfold BI at h;split at h
 ·assumption
 ·exfalso;revert h;repeat' split
  all_goals decide
theorem Pq{s p}(a:p<s.size)(h:BI (Utf8.decode s p).1=2):s.extract p (p+1)=⟨#[48]⟩∨s.extract p (p+1)=⟨#[49]⟩∨s.extract p (p+1)=⟨#[50]⟩∨s.extract p (p+1)=⟨#[51]⟩:=by
 have c:=RM h;have k:(s[p]'a).toNat<128:=by
  by_cases f:(s[p]'a).toNat<128
  ·exact f
  ·have:=(decode_high s p a (by omega)).1;omega
 rw [decode_ascii s p a k] at c;have g:s.extract p (p+1)=⟨#[s[p]'a]⟩:=by
  apply ByteArray.ext;rw [dF];have o:p<s.data.size:=a;apply Array.ext
  ·simp;omega
  ·intro i l d;have j:i=0:=by simp at d;omega
   subst j;simp;rfl
 have b:∀n:Nat,n<256→(s[p]'a).toNat=n→s[p]'a=UInt8.ofNat n:=by intro n m e;rw [←e];simp
 rw [g];rcases c with q | q | q | q
 ·exact .inl (by rw [b _ (by decide) q];rfl)
 ·exact .inr (.inl (by rw [b _ (by decide) q];rfl))
 ·exact .inr (.inr (.inl (by rw [b _ (by decide) q];rfl)))
 ·exact .inr (.inr (.inr (by rw [b _ (by decide) q];rfl)))
theorem SO{s p x}(c:p<s.size)(h:DigOk x.Yq):DigOk (AU s p (Utf8.decode s p).1 x).1.Yq:=by
 unfold AU;split
 ·exact h
 ·split
  ·exact h
  ·split
   ·split
    ·exact h
    ·exact h
   ·have a:=h.YG (s:=s) (e:=p);unfold Dz;split
    ·exact a
    ·split
     ·exact a
     ·split
      ·exact a
      ·exact a.snoc (fun b=>Pq c b)
theorem JC(s:ByteArray):∀(f p:Nat) (x y:Sc),DigOk x.Yq→AK s f p x=.inr y→DigOk y.Yq
 | 0,_,x,y,h,e=>by have:=Sum.inr.inj e;subst this;exact h
 | f+1,p,x,y,h,e=>by
   unfold AK at e;split at e
   ·rename_i a;split at e
    ·exact JC s f _ _ y (SO a h) e
    ·cases e
   ·have:=Sum.inr.inj e;subst this;exact h
theorem Ff{s y}(h:AK s s.size 0 ⟨[],false,0,0⟩=.inr y):DigOk (AC s y):=
 (JC s _ _ _ _ (fun _ b=>dC b (by simp)) h).YG.snoc (fun a=>dC (show (0:Nat)=2 from a) (by decide))
structure PS where
 i8:Nat
 Ye:Bool
 Yy:Nat
def BF:PT:=⟨0,ByteArray.empty,0⟩
def Aj(l:List PT)(i:Nat):PT:=l[i]?.getD BF
def Gf(a:List PT)(n:Nat)(x:PS):PS:=⟨n-1,true,if x.Ye then x.Yy else (Aj a x.i8).i9⟩
def Af(a:List PT)(n k:Nat)(x:PS):PS:=if (Aj a x.i8).kind=k then (if k=0 then x else ⟨x.i8+1,x.Ye,x.Yy⟩) else Gf a n x
def AH(a:List PT)(k:Nat)(x:PS):PT:=if (Aj a x.i8).kind=k then Aj a x.i8 else BF
def A3(b g n a:Nat)(x:PS)(w:World):Prop:=Ar b #[.slice (some ⟨g,0,none⟩) n a,.int .i64 x.i8,.bool x.Ye,.int .i64 x.Yy] 133 w
def Ba(g n b:Nat)(a:List PT)(w:World):Prop:=w.ownsRow 0 184 3 (.slice (some ⟨g,0,none⟩) n b) n (CZ a)∧n=a.length∧n≤4001∧DigOk a
theorem Oj{l i}(h:i<l.length):(CZ l)[i*3]? =some (.int .i64 (Aj l i).kind)∧(CZ l)[i*3+1]? =some (.string (Aj l i).i6)∧(CZ l)[i*3+2]? =some (.int .i64 (Aj l i).i9):=by
 induction l generalizing i with
 | nil=>simp at h
 | cons t l a=>
   cases i with
   | zero=>simp [CZ,Et,Aj]
   | succ i=>
     have:=a (i:=i) (by simpa using h);simp only [CZ,List.flatMap_cons,Aj,aT] at this⊢;have e:∀j,(Et t++List.flatMap Et l)[(i+1)*3+j]? =(List.flatMap Et l)[i*3+j]? :=by intro j;rw [cV (by simp [Et];omega)];congr 1;simp [Et];omega
     exact ⟨by rw [show (i+1)*3=(i+1)*3+0 from rfl,e];exact this.1,by rw [e];exact this.2.1,by rw [e];exact this.2.2⟩
theorem Ba.cells{g n c a w}(h:Ba g n c a w){i}(d:i<n):
 w.cell? ⟨g,i*3,none⟩=some (.int .i64 (Aj a i).kind)∧w.cell? ⟨g,i*3+1,none⟩=some (.string (Aj a i).i6)∧w.cell? ⟨g,i*3+2,none⟩=some (.int .i64 (Aj a i).i9):=by
 have e:=h.2.1;have b:=Oj (l:=a) (i:=i) (by omega);exact ⟨by rw [h.1.cellAt _ (by omega)];exact b.1,by rw [h.1.cellAt _ (by omega)];exact b.2.1,by rw [h.1.cellAt _ (by omega)];exact b.2.2⟩
theorem Ba.f8{g n a c}{X:Nat→Prop}{w w'}(h:Ba g n a c w)(d:Ab X w w')(e:¬X g):Ba g n a c w':=
 ⟨Ac h.1 d (fun k b=>by simp [Value.ownBlock] at b;subst b;exact e),h.2⟩
theorem Ba.ne{g n a b j w}(h:Ba g n a j w){c t d}(f:w.heap[b]? =some (.cells c t d))(i:t≠184):g≠b:=fun e=>Ap h.1 f i g rfl e
theorem Ba.lt{g n a b w}(h:Ba g n a b w):g<w.heap.size:=(h.1.lt g rfl).2
theorem A5(b g n f x d w)(a:A3 b g n f x w)(c:Ba g n f d w)(h:x.i8<n):
 Calls Tryz.prog 79 #[.pointer (some ⟨b,0,none⟩)] w fun e k=>e=.returned (.int .i64 (Aj d x.i8).kind)∧Ab (fun _=>False) w k:=by
 obtain ⟨p,q,r⟩:=c.cells h;have l:=c.2.2.1;have i:=Ao a 0;have j:=Ao a 1;simp only [aU,aS,aT] at i j;have o:=Ae a;have m:=c.lt;clear a c;generalize Aj d x.i8=t at*;go_enter Tryz.func79,Tryz.ntmps79;go_wp2;go_region;go_wp2;go_ret;exact ⟨rfl,(by repeat (first | exact Ab.refl _ _ | refine Ab.drew ?_ | refine Ab.drewN ?_ _ | refine Ab.alloc ?_ _))⟩
theorem Sf(b g n f x j w)(a:A3 b g n f x w)(d:Ba g n f j w)(s:x.i8<n):
 Calls Tryz.prog 101 #[.pointer (some ⟨b,0,none⟩)] w fun e r=>e=.returned (.tuple #[])∧A3 b g n f (Gf j n x) r∧Ab (fun k=>k=b) w r:=by
 obtain ⟨E,F,G⟩:=d.cells s;have A:=d.2.2.1;have u:=Ao a 0;have v:=Ao a 1;have h:=Ao a 2;have y:=Ao a 3;have z:=fun i=>Aw a i
 simp only [aU,aS,aT] at u v h y;have D:=Ae a;have C:=d.lt;have B:=d.ne a (by decide);have o:=Aa a;clear a d;have p:((n:Int)-1)=((n-1:Nat):Int):=by omega
 have m:=Aa p;clear p;unfold Gf;generalize Aj j x.i8=t at*;cases c:x.Ye with
 | true=> rw [c] at h;have l:=Aa c;clear c;go_enter Tryz.func101,Tryz.ntmps101;go_wp2;go_end0;refine ⟨rfl,?_,(Ab.refl _ _).p7 1 _⟩;have:=Ar.set o.o 1 (.int .i64 ((n:Int)-1));rw [m.o] at this⊢;simpa [A3,l.o] using this
 | false=>
   rw [c] at h;have l:=Aa c;clear c;go_enter Tryz.func101,Tryz.ntmps101;go_wp2;go_region;go_wp2;go_end0;refine ⟨rfl,?_,?_⟩
   ·have:=Ar.f8 (((Ar.set (w:=w) o.o 2 (.bool true)).set 3 (.int .i64 t.i9)).set 1 (.int .i64 ((n:Int)-1))) ((Ab.refl (fun _=>False) _).drew) (fun q=>q);rw [m.o] at this⊢;simpa [A3] using this
   ·exact (((((Ab.refl (fun k=>k=b) w).drew).p7 2 _).p7 3 _).p7 1 _)
def Ut(t:PT):Value:=.agg #[.int .i64 t.kind,.string t.i6,.int .i64 t.i9]
theorem AI(b g n o k:Nat)(x:PS)(a:List PT)(w:World)(f:A3 b g n o x w)(l:Ba g n o a w)(z:x.i8<n):
 Calls Tryz.prog 80 #[.pointer (some ⟨b,0,none⟩),.int .i64 k] w fun e B=>e=.returned (Ut (AH a k x))∧A3 b g n o (Af a n k x) B∧Ab (fun k=>k=b) w B:=by
 obtain ⟨R,S,T⟩:=l.cells z;have M:=l.2.2.1;have H:=Ao f 0;have I:=Ao f 1;have K:=fun i=>Aw f i
 simp only [aU,aS,aT] at H I;have Q:=Ae f;have P:=l.lt;have N:=l.ne f (by decide);have p:=Aa f;have E:=Aa l;clear f l;by_cases c:(Aj a x.i8).kind=k
 ·have m:AH a k x=Aj a x.i8:=by simp [AH,c]
  rw [m];have G:(((Aj a x.i8).kind:Int) !=(k:Int))=false:=by simp [c]
  by_cases h:k=0
  ·have d:Af a n k x=x:=by simp [Af,c,h]
   rw [d];have F:((k:Int) !=0)=false:=by simp [h]
   clear m d c h;generalize Aj a x.i8=t at*;go_enter Tryz.func80,Tryz.ntmps80;go_wp2;go_region;go_wp2;refine bC (v:=Ut t) (by simp [results,Tryz.results80,go_sem,Ut]) rfl ⟨rfl,?_,?_⟩
   ·exact Ar.f8 (X:=fun _=>False) p.o (by repeat (first | exact Ab.refl _ _ | refine Ab.drew ?_ | refine Ab.drewN ?_ _ | refine Ab.alloc ?_ _)) (fun q=>q)
   ·exact (by repeat (first | exact Ab.refl _ _ | refine Ab.drew ?_ | refine Ab.drewN ?_ _ | refine Ab.alloc ?_ _))
  ·have d:Af a n k x=⟨x.i8+1,x.Ye,x.Yy⟩:=by simp [Af,c,h]
   rw [d];have F:((k:Int) !=0)=true:=by simp [h]
   clear m d c h;generalize Aj a x.i8=t at*;go_enter Tryz.func80,Tryz.ntmps80;go_wp2;go_region;go_wp2;refine bC (v:=Ut t) (by simp [results,Tryz.results80,go_sem,Ut]) rfl ⟨rfl,?_,?_⟩
   ·have:=Ar.f8 (X:=fun _=>False) (Ar.set p.o 1 (.int .i64 ((x.i8:Int)+1))) ((((Ab.refl _ _).alloc (.cells #[.int .i64 t.kind,.string t.i6,.int .i64 t.i9] 184)).alloc (.cells #[.int .i64 t.kind,.string t.i6,.int .i64 t.i9] 184)).drew) (fun q=>q);simpa [A3] using this
   ·exact (((((Ab.refl (fun k=>k=b) w).p7 1 _).alloc _).alloc _).drew)
 ·have m:AH a k x=BF:=by simp [AH,c]
  have d:Af a n k x=Gf a n x:=by simp [Af,c]
  rw [m,d];have G:(((Aj a x.i8).kind:Int) !=(k:Int))=true:=by simp;omega
  clear m d c;generalize Aj a x.i8=t at*;go_enter Tryz.func80,Tryz.ntmps80;go_wp2;go_region;go_wp2_with fail;refine (Sf b g n o x a _ ?_ ?_ z).mono ?_
  ·exact Ar.f8 (X:=fun _=>False) p.o (by repeat (first | exact Ab.refl _ _ | refine Ab.drew ?_ | refine Ab.drewN ?_ _ | refine Ab.alloc ?_ _)) (fun q=>q)
  ·exact E.o.f8 (X:=fun _=>False) (by repeat (first | exact Ab.refl _ _ | refine Ab.drew ?_ | refine Ab.drewN ?_ _ | refine Ab.alloc ?_ _)) (fun q=>q)
  rintro e J ⟨rfl,A,r⟩;have j:J.heap[w.heap.size]? =some (.cells #[.int .i64 0,.string {data:=#[]},.int .i64 0] 184 (0,0)):=by rw [r.block w.heap.size (by simp;omega) (by omega)];exact (bF _ _ _ (by simp)).trans (heap_alloc_new w _)
  have s:=Ao j 0;have u:=Ao j 1;have y:=Ao j 2;have L:=fun i=>Aw j i
  simp only [aU,aS,aT] at s u y;have O:=Ae j;have D:=Aa A;have C:=(((Ab.refl (fun k=>k=b) w).alloc _).alloc _).drew.trans r;clear A r j;go_wp2;refine bC (v:=Ut BF) (by simp [results,Tryz.results80,go_sem,Ut,BF,s,u,y];rfl) rfl ⟨rfl,?_,?_⟩
  ·exact Ar.f8 (X:=fun k=>k=w.heap.size) D.o (by repeat (first | exact Ab.refl _ _ | refine Ab.drew ?_ | refine Ab.alloc ?_ _ | refine Ab.p7 ?_ _ _)) (by omega)
  ·repeat (first | exact C | refine Ab.drew ?_ | refine Ab.alloc ?_ _ | refine Ab.Yc ?_ _ _ (aV _))
end Go.Proofs.YthppbgndiplgnaaGreatDoor

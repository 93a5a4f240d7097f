/- One of the texts of the proof of cut_card_holds: ScC ScD ScE ScF ScG ScH. -/
import Derived.Test.YtegmjgjkcdbmkaaGreatDoorG03
set_option maxRecDepth 100000
set_option maxHeartbeats 1000000
namespace Go.Proofs.YtegmjgjkcdbmkaaGreatDoor
open Go.RowKit
theorem Ed{a b}(h:a=b):Ending.returned (.bool a)=.returned (.bool b):=by rw [h]
theorem U0{k a b}(h:a=b):Ending.returned (.int k a)=.returned (.int k b):=by rw [h]
theorem Ir(r:Nat)(w:World):
 Calls Tryz.prog 108 #[.int .i32 r] w fun e b=>e=.returned (.bool (Ja r))∧b=w:=by
 by_cases h:(r:Int)=247
 ·have a:r=247:=by omega
  subst a;go_enter Tryz.func108,Tryz.ntmps108;go_wp2;go_ret;exact ⟨rfl,rfl⟩
 ·have a:(((r:Nat):Int)==247)=false:=by simpa using h
  go_enter Tryz.func108,Tryz.ntmps108;go_wp2;all_goals
   go_ret;exact ⟨Ed (by rw [Bool.eq_iff_iff];simp [Ja];omega),rfl⟩
theorem Py{r}(a:r≠48)(h:r≠49)(i:r≠50)(j:r≠51)(k:r≠40)(l:r≠41)(m:r≠123)(n:r≠125)(o:r≠59)(b:r≠61)(c:r≠38)(d:r≠42)(e:r≠64)(f:r≠46)(g:r≠63):BI r=0:=by simp [BI, *]
theorem Ix(r:Nat)(w:World):
 Calls Tryz.prog 138 #[.int .i32 r] w fun e d=>e=.returned (.tuple #[.int .i64 (BI r),.bool (BI r !=0)])∧d=w:=by
 generalize b:BI r=m;have c:dJ (BI r=m):=b;clear b;go_enter Tryz.func138,Tryz.ntmps138;go_wp2;all_goals
  go_ret2;refine ⟨?_,rfl⟩;have b:=c.o;simp only [beq_iff_eq,beq_eq_false_iff_ne,ne_eq] at*;first
   | (have a:r=48:=by omega
      subst a;subst b;rfl)
   | (have a:r=49:=by omega
      subst a;subst b;rfl)
   | (have a:r=50:=by omega
      subst a;subst b;rfl)
   | (have a:r=51:=by omega
      subst a;subst b;rfl)
   | (have a:r=40:=by omega
      subst a;subst b;rfl)
   | (have a:r=41:=by omega
      subst a;subst b;rfl)
   | (have a:r=123:=by omega
      subst a;subst b;rfl)
   | (have a:r=125:=by omega
      subst a;subst b;rfl)
   | (have a:r=59:=by omega
      subst a;subst b;rfl)
   | (have a:r=61:=by omega
      subst a;subst b;rfl)
   | (have a:r=38:=by omega
      subst a;subst b;rfl)
   | (have a:r=42:=by omega
      subst a;subst b;rfl)
   | (have a:r=64:=by omega
      subst a;subst b;rfl)
   | (have a:r=46:=by omega
      subst a;subst b;rfl)
   | (have a:r=63:=by omega
      subst a;subst b;rfl)
   | (have e:m=0:=by rw [←b];exact Py (by omega) (by omega) (by omega) (by omega) (by omega) (by omega) (by omega) (by omega) (by omega) (by omega) (by omega) (by omega) (by omega) (by omega) (by omega)
      subst e;rfl)
theorem M5(s w):
 Calls Tryz.prog 111 #[.string s] w fun e a=>e=.returned (.int .i64 (DX s.toList))∧a=w:=by
 go_enter Tryz.func111,Tryz.ntmps111;go_wp2;all_goals
  go_ret;refine ⟨U0 ?_,rfl⟩;first
   | (simp [DX, *];done)
   | (simp_all [DX];done)
def VY(s p:ByteArray):Bool:=decide (p.size≤s.size) && ((s.extract 0 p.size).toList==p.toList)
theorem Kv(s p:ByteArray)(_hs:s.size≤4001)(_hp:p.size≤4001)(w:World):
 Calls Tryz.prog 160 #[.string s,.string p] w fun e d=>e=.returned (.bool (VY s p))∧d=w:=by
 generalize c:VY s p=v;have a:dJ (VY s p=v):=c;clear c;by_cases h:p.size≤s.size
 ·cases b:((s.extract 0 p.size).toList==p.toList) with
  | true=> go_enter Tryz.func160,Tryz.ntmps160;go_wp2;go_ret;exact ⟨Ed (by rw [←a.o];simp only [VY,b];simp [h]),rfl⟩
  | false=> go_enter Tryz.func160,Tryz.ntmps160;go_wp2;go_ret;exact ⟨Ed (by rw [←a.o];simp only [VY,b];simp),rfl⟩
 ·have f:s.size<p.size:=by omega
  go_enter Tryz.func160,Tryz.ntmps160;go_wp2;go_ret;exact ⟨Ed (by rw [←a.o];simp [VY,h]),rfl⟩
theorem Ly(s p)(d:s.size≤4001)(c:p.size≤4001)(w):
 Calls Tryz.prog 137 #[.string s,.string p] w fun e b=>e=.returned (.bool (VY s p))∧b=w:=by
 go_enter Tryz.func137,Tryz.ntmps137;go_wp2_with (go_at_call 160;refine (Kv _ _ d c _).mono ?_;rintro e b ⟨rfl,a⟩;have a:=a.symm;subst a);go_ret;exact ⟨rfl,rfl⟩
theorem TY(s:ByteArray)(p:Nat)(f:p≤s.size):VY (s.extract p s.size) {data:=#[239,191,189]}=(decide (p+3≤s.size) && (s.extract p (p+3)).toList==[239,191,189]):=by
 have b:(s.extract p s.size).size=s.size-p:=by simp
 have c:ByteArray.size {data:=#[239,191,189]}=3:=rfl;have d:ByteArray.toList {data:=#[239,191,189]}=[239,191,189]:=by rw [ByteArray.toList_eq]
 unfold VY;rw [b,c,d];by_cases h:p+3≤s.size
 ·have a:3≤s.size-p:=by omega
  have e:(s.extract p s.size).extract 0 3=s.extract p (p+3):=by rw [ByteArray.extract_extract];congr 1;omega
  rw [e];simp [h,a]
 ·have a:¬3≤s.size-p:=by omega
  simp [h,a]
theorem Er(s:ByteArray)(p r:Nat)(j:s.size≤4000)(i:p≤s.size)(w:World):
 Calls Tryz.prog 107 #[.string s,.int .i64 p,.int .i32 r] w fun e d=>e=.returned (.bool (Dd s p r))∧d=w:=by
 have f:=Aa (TY s p i);generalize c:Dd s p r=v;have b:dJ (Dd s p r=v):=c;clear c;by_cases h:r=65533
 ·have g:(((r:Nat):Int)==65533)=true:=by simp;omega
  go_enter Tryz.func107,Tryz.ntmps107;go_wp2_with (go_at_call 137;refine (Ly _ _ (by simp;omega) (by decide) _).mono ?_;rintro e d ⟨rfl,a⟩;have a:=a.symm;subst a);go_ret;exact ⟨Ed (by rw [←b.o,f.o];simp [Dd,h]),rfl⟩
 ·have g:(((r:Nat):Int)==65533)=false:=by simp;omega
  go_enter Tryz.func107,Tryz.ntmps107;go_wp2;go_ret;exact ⟨Ed (by rw [←b.o];simp [Dd,h]),rfl⟩
def Et(t:PT):List Value:=[.int .i64 t.kind,.string t.i6,.int .i64 t.i9]
def CZ(l:List PT):List Value:=l.flatMap Et
theorem LA(l t):CZ (l++[t])=CZ l++Et t:=by simp [CZ]
def JN(B b:Nat)(s:ByteArray)(v:Value)(x:Sc)(w:World):Prop:=
 Ar b #[.string s,v,.bool x.rem,.int .i64 x.start,.int .i64 x.Yb] 152 w∧w.ownsRow B 114 3 v x.Yq.length (CZ x.Yq)
structure Fr(b:Nat)(v v':Value)(w w':World):Prop where
 f8:Ab (fun k=>k=b∨v.ownBlock=some k) w w'
 own:∀k,v'.ownBlock=some k→v.ownBlock=some k∨w.heap.size≤k
theorem Fr.refl(b v w):Fr b v v w w:=⟨Ab.refl _ _,fun _ h=>.inl h⟩
theorem Fr.trans{b:Nat}{u v t:Value}{w d e:World}(h:Fr b u v w d)(k:Fr b v t d e):Fr b u t w e:=by
 refine ⟨⟨k.f8.os.trans h.f8.os,k.f8.tape.trans h.f8.tape,k.f8.output.trans h.f8.output,Nat.le_trans h.f8.size k.f8.size,fun i a c=>?_⟩,fun i a=>?_⟩
 ·rw [k.f8.block i (Nat.lt_of_lt_of_le a h.f8.size) ?_]
  ·exact h.f8.block i a c
  ·rintro (q | q)
   ·exact c (.inl q)
   ·rcases h.own i q with q | q
    ·exact c (.inr q)
    ·omega
 ·rcases k.own i a with q | q
  ·exact h.own i q
  ·exact .inr (Nat.le_trans h.f8.size q)
theorem Fr.drew{b v a w c}(h:Fr b v a w c):Fr b v a w c.drew:=⟨h.f8.drew,h.own⟩
theorem Fr.drewN{b v a w c}(h:Fr b v a w c)(n):Fr b v a w (c.drewN n):=⟨h.f8.drewN n,h.own⟩
theorem Fr.alloc{b v a w c}(h:Fr b v a w c)(o):Fr b v a w (c.alloc o):=⟨h.f8.alloc o,h.own⟩
theorem Fr.set{b v a w c}(h:Fr b v a w c)(i u):Fr b v a w (c.setCell ⟨b,i,none⟩ u):=⟨h.f8.setCell (.inl (.inl rfl)) u,h.own⟩
theorem JN.ne{B b s v x w}(h:JN B b s v x w):∀k,v.ownBlock=some k→k≠b:=Ap h.2 h.1 (by decide)
theorem JN.f8{B b s v x w c}(h:JN B b s v x w)(a:Ab (fun _=>False) w c):JN B b s v x c:=
 ⟨h.1.f8 a (fun q=>q),Ac h.2 a (fun _ _ q=>q)⟩
def IC(x:Sc)(t:PT):Sc:=⟨x.Yq++[t],x.rem,x.start,x.Yb⟩
theorem Tryz.infoPT:(Tryz.prog.info? 114).map (fun i=>(i.zero,i.size,i.bytes))=some (some (.agg #[.int .i64 0,.string ByteArray.empty,.int .i64 0]),3,32):=by kernel_rfl
theorem Tn{B b s v a x t w W c}(h:JN B b s v x w)(i:Ab (fun _=>False) w W)(g:c.ownsRow B 114 3 a (x.Yq.length+1) (CZ x.Yq++Et t))(j:W.grownBy c v.ownBlock)(n:∀k,a.ownBlock=some k→v.ownBlock=some k∨w.heap.size≤k):
 JN B b s a (IC x t) (c.setCell ⟨b,1,none⟩ a)∧Fr b v a w (c.setCell ⟨b,1,none⟩ a):=by
 have m:=h.ne;have e:Ab (fun k=>v.ownBlock=some k) w c:=Ab.grown (i.mono (fun _ _ q=>q.elim)) j (fun k l=>.inl l);have d:=h.1.f8 e (fun q=>m b q rfl);have f:=(Ab.refl (fun k=>k=b) c).p7 1 a;have o:∀k,a.ownBlock=some k→k≠b:=Ap g d (by decide);refine ⟨⟨?_,?_⟩,?_,n⟩
 ·have:=d.set 1 a;simpa [IC] using this
 ·have:=Ac g f o;simpa [IC,LA] using this
 ·exact (e.mono (fun k _ q=>.inr q)).trans (f.mono (fun k _ q=>.inl q))
theorem Mz(B b:Nat)(s:ByteArray)(v:Value)(x:Sc)(f a c:Nat)(w:World)(_hs:s.size≤4000)(h:JN B b s v x w)(P:B≤w.heap.size)(S:a≤c)(Q:c≤s.size)(R:x.Yq.length≤4001):
 Calls Tryz.prog 70 #[.pointer (some ⟨b,0,none⟩),.int .i64 f,.int .i64 a,.int .i64 c] w fun e o=>e=.returned (.tuple #[])∧∃g,JN B b s g (IC x ⟨f,s.extract a c,a⟩) o∧Fr b v g w o:=by
 obtain ⟨I,z,F,G,H⟩:=info_parts Tryz.infoPT;have t:=h.1.cell 0;have j:=h.1.cell 1;have y:=h.1.frozen 1;simp only [aU,aS,aT] at t j;obtain ⟨J,L,K,E⟩:=Ad h.2;subst E;have n:=Ae h.1;have D:=h.2;have i:=Aa h.ne;have r:=Aa h;clear h;go_enter Tryz.func70,Tryz.ntmps70;go_region_law (refine Ay rfl _ _ 79 rfl B 114 I (.agg #[.int .i64 0,.string ByteArray.empty,.int .i64 0]) 3 32 Tryz.underlying79 z F G H rfl (by decide) _ _ _ rfl (D.alloc _) ⟨w.heap.size,0,none⟩ 1 1 [.int .i64 f,.string (s.extract a c),.int .i64 a] rfl rfl (AN rfl _ _) (fun u m=>by simp at m;rcases m with rfl | rfl | rfl<;>rfl) (by decide) (by unfold maxLen;omega) (by omega) (by simp;omega) ?_;intro g p l d C;have T:p.cell? ⟨b,1,none⟩=some (.slice J L K):=(World.cell?_of_block (d.block b (by simp;omega) (fun h=>i.o b h.symm rfl))).trans (by rw [←j];exact World.cell?_of_block (Below.heap_alloc _ _ _ n));have U:p.frozen? ⟨b,1,none⟩=false:=(World.frozen?_of_block (d.block b (by simp;omega) (fun h=>i.o b h.symm rfl))).trans (by rw [←y];exact World.frozen?_of_block (Below.heap_alloc _ _ _ n));obtain ⟨M,O,N,rfl⟩:=Ad l);all_goals
  go_wp2_with fail;go_end0;refine ⟨rfl,.slice M O N,?_⟩;exact Tn r.o (((Ab.refl _ _).alloc _).drew) l d (fun k A=>(C k A).imp id (fun q=>by simp at q;omega))
theorem Jp(B b s v x a w)(D:s.size≤4000)(h:JN B b s v x w)(y:B≤w.heap.size)(z:a≤s.size)(g:JI a x):
 Calls Tryz.prog 69 #[.pointer (some ⟨b,0,none⟩),.int .i64 a] w fun e o=>e=.returned (.tuple #[])∧∃d,JN B b s d (Da s a x) o∧Fr b v d w o:=by
 have r:=h.1.cell 0;have t:=h.1.cell 3;have i:=h.1.cell 4;have u:=h.1.frozen 4;simp only [aU,aS,aT] at r t i;have G:=Ae h.1;have C:=g.start;have E:=g.Yb;have F:=g.many;have f:=Aa h;clear h g;by_cases p:0<x.Yb
 ·have l:Da s a x=⟨x.Yq++[⟨DX (s.extract x.start a).toList,s.extract x.start a,x.start⟩],x.rem,x.start,0⟩:=by simp [Da,p]
  rw [l];have A:decide ((0:Int)<(x.Yb:Int))=true:=by simp;omega
  go_enter Tryz.func69,Tryz.ntmps69;go_wp2;go_cut [] (fun q=>∃d,JN B b s d (IC x ⟨DX (s.extract x.start a).toList,s.extract x.start a,x.start⟩) q∧Fr b v d w q)
  case first=>
   go_region_with (first
    | (go_at_call 111;refine (M5 _ _).mono ?_;rintro e o ⟨rfl,m⟩;have m:=m.symm;subst m)
    | (go_at_call 70;refine (Mz B b s v x (DX (s.extract x.start a).toList) x.start a _ D (f.o.f8 (by repeat (first | exact Ab.refl _ _ | refine Ab.drew ?_ | refine Ab.drewN ?_ _ | refine Ab.alloc ?_ _))) (by simpa using y) C z (by omega)).mono ?_;rintro e H ⟨rfl,n,c,j⟩))
   all_goals
    go_wp2_with fail;go_meet
    case rel=>exact ⟨n,c,Fr.trans ⟨(by repeat (first | exact Ab.refl _ _ | refine Ab.drew ?_ | refine Ab.drewN ?_ _ | refine Ab.alloc ?_ _)),fun _ h=>.inl h⟩ j⟩
  case rest=>
   obtain ⟨n,c,j⟩:=hcut;have u:=c.1.frozen 4;have i:=c.1.cell 4;simp only [aU,aS,aT] at i;go_wp2;go_end0;refine ⟨rfl,n,⟨?_,?_⟩,j.set 4 _⟩
   ·have:=c.1.set 4 (.int .i64 0);simpa [IC] using this
   ·exact Ac c.2 ((Ab.refl (fun k=>k=b) _).p7 4 _) c.ne
 ·have l:Da s a x=⟨x.Yq,x.rem,x.start,0⟩:=by simp [Da,p]
  rw [l];have A:decide ((0:Int)<(x.Yb:Int))=false:=by simp;omega
  go_enter Tryz.func69,Tryz.ntmps69;go_wp2;go_end0;refine ⟨rfl,v,⟨?_,?_⟩,(Fr.refl _ _ _).set 4 _⟩
  ·have:=f.o.1.set 4 (.int .i64 0);simpa using this
  ·exact Ac f.o.2 ((Ab.refl (fun k=>k=b) _).p7 4 _) f.o.ne
theorem Li(B b:Nat)(s:ByteArray)(v:Value)(x:Sc)(p:Nat)(w:World)(h:JN B b s v x w)(n:x.Yb≤8):
 Calls Tryz.prog 109 #[.pointer (some ⟨b,0,none⟩),.int .i64 p] w fun e l=>e=.returned (.tuple #[.int .i64 ((if 8<x.Yb+1 then (Cs p x).start else 0:Nat):Int),.bool (!decide (8<x.Yb+1))])∧JN B b s v (Cs p x) l∧Fr b v v w l:=by
 have m:=h.1.cell 3;have d:=h.1.cell 4;have o:=h.1.frozen;simp only [aU,aS,aT] at m d;have r:=Ae h.1;have a:=Aa h;clear h;by_cases c:x.Yb=0
 ·have f:((x.Yb:Int)==0)=true:=by simp [c]
  have g:Cs p x=⟨x.Yq,x.rem,p,1⟩:=by simp [Cs,c]
  rw [g,c];rw [c] at d;clear c f;go_enter Tryz.func109,Tryz.ntmps109;go_wp2;go_ret2;refine ⟨rfl,⟨?_,?_⟩,((Fr.refl _ _ _).set 3 _).set 4 _⟩
  ·have:=(a.o.1.set 3 (.int .i64 p)).set 4 (.int .i64 1);simpa using this
  ·exact Ac a.o.2 (((Ab.refl (fun k=>k=b) _).p7 3 _).p7 4 _) a.o.ne
 ·have f:((x.Yb:Int)==0)=false:=by simp [c]
  have g:Cs p x=⟨x.Yq,x.rem,x.start,x.Yb+1⟩:=by simp [Cs,c]
  rw [g];by_cases i:x.Yb=8
  ·rw [i];rw [i] at d;clear c f n;go_enter Tryz.func109,Tryz.ntmps109;go_wp2;go_ret2;refine ⟨rfl,⟨?_,?_⟩,(Fr.refl _ _ _).set 4 _⟩
   ·have:=a.o.1.set 4 (.int .i64 9);simpa using this
   ·exact Ac a.o.2 ((Ab.refl (fun k=>k=b) _).p7 4 _) a.o.ne
  ·have q:decide ((8:Int)<(x.Yb:Int)+1)=false:=by simp;omega
   have j:¬8<x.Yb+1:=by omega
   simp only [j,if_false,decide_false,Bool.not_false];clear j;go_enter Tryz.func109,Tryz.ntmps109;go_wp2;go_ret2;refine ⟨rfl,⟨?_,?_⟩,(Fr.refl _ _ _).set 4 _⟩
   ·have:=a.o.1.set 4 (.int .i64 ((x.Yb:Int)+1));simpa using this
   ·exact Ac a.o.2 ((Ab.refl (fun k=>k=b) _).p7 4 _) a.o.ne
theorem MY(B b:Nat)(s:ByteArray)(v:Value)(x:Sc)(p r:Nat)(w:World)(F:s.size≤4000)(h:JN B b s v x w)(E:B≤w.heap.size)(K:p<s.size)(J:x.Yq.length≤4000):
 Calls Tryz.prog 110 #[.pointer (some ⟨b,0,none⟩),.int .i64 p,.int .i32 r] w fun e j=>e=.returned (.tuple #[.int .i64 (Dz s p r x).2.1,.bool (Dz s p r x).2.2])∧∃q,JN B b s q (Dz s p r x).1 j∧Fr b v q w j:=by
 have u:=h.1.cell 2;have I:=h.1.frozen;simp only [aU,aS,aT] at u;have L:=Ae h.1;have f:=Aa h;clear h;by_cases a:r=32∨r=9∨r=10
 ·have c:Dz s p r x=(x,0,true):=by simp [Dz,a]
  rw [c];rcases a with a | a | a
  all_goals
   subst a;go_enter Tryz.func110,Tryz.ntmps110;go_wp2;go_ret2;exact ⟨rfl,v,f.o,Fr.refl _ _ _⟩
 ·have y:((r:Int)==32)=false:=by simp;omega
  have z:((r:Int)==9)=false:=by simp;omega
  have A:((r:Int)==10)=false:=by simp;omega
  by_cases g:r=35
  ·have c:Dz s p r x=(⟨x.Yq,true,x.start,x.Yb⟩,0,true):=by simp [Dz,g]
   rw [c];subst g;clear y z A;go_enter Tryz.func110,Tryz.ntmps110;go_wp2;go_ret2;refine ⟨rfl,v,⟨?_,?_⟩,(Fr.refl _ _ _).set 2 _⟩
   ·have:=f.o.1.set 2 (.bool true);simpa using this
   ·exact Ac f.o.2 ((Ab.refl (fun k=>k=b) _).p7 2 _) f.o.ne
  ·have H:((r:Int)==35)=false:=by simp;omega
   by_cases i:BI r=0
   ·have c:Dz s p r x=(x,p,false):=by simp [Dz,a,g,i]
    rw [c];have l:dJ (BI r=0):=i;clear a g i;go_enter Tryz.func110,Tryz.ntmps110;go_wp2_with (go_at_call 138;refine (Ix _ _).mono ?_;rw [l.o];rintro e j ⟨rfl,d⟩;have d:=d.symm;subst d);go_ret2;exact ⟨rfl,v,f.o,Fr.refl _ _ _⟩
   ·have c:Dz s p r x=(IC x ⟨BI r,s.extract p (p+1),p⟩,0,true):=by simp [Dz,a,g,i,IC]
    rw [c];have n:(BI r !=0)=true:=by simp [i]
    obtain ⟨m,o⟩:∃m,BI r=m:=⟨_,rfl⟩;rw [o] at n⊢;have t:=Aa o;have l:=Aa n;clear a g i n o;go_enter Tryz.func110,Tryz.ntmps110;go_wp2_with (first
     | (go_at_call 138;refine (Ix _ _).mono ?_;rw [t.o,l.o];rintro e j ⟨rfl,d⟩;have d:=d.symm;subst d)
     | (go_at_call 70;refine (Mz B b s v x m p (p+1) _ F f.o E (by omega) (by omega) (by omega)).mono ?_;rintro e M ⟨rfl,G,C,D⟩))
    go_ret2;exact ⟨rfl,G,C,D⟩
theorem ON(B b:Nat)(s:ByteArray)(v:Value)(x:Sc)(p r:Nat)(w:World)(m:s.size≤4000)(h:JN B b s v x w)(N:B≤w.heap.size)(O:p<s.size)(D:JI p x):
 Calls Tryz.prog 68 #[.pointer (some ⟨b,0,none⟩),.int .i64 p,.int .i32 r] w fun e i=>e=.returned (.tuple #[.int .i64 (AU s p r x).2.1,.bool (AU s p r x).2.2])∧∃F,JN B b s F (AU s p r x).1 i∧Fr b v F w i:=by
 have J:=h.1.cell 0;have z:=h.1.cell 2;have S:=h.1.frozen;simp only [aU,aS,aT] at J z;have U:=Ae h.1;have j:=Aa h;have y:=Aa D;clear h D;cases c:Dd s p r with
 | true=>
   have f:AU s p r x=(x,p,false):=by simp [AU,c]
   rw [f];have n:=Aa c;clear c;go_enter Tryz.func68,Tryz.ntmps68;go_wp2_with (first | (go_at_call 107;refine (Er _ _ _ m (by omega) _).mono ?_;rw [n.o];rintro e i ⟨rfl,a⟩;have a:=a.symm;subst a));go_ret2;exact ⟨rfl,v,j.o,Fr.refl _ _ _⟩
 | false=>
   have n:=Aa c;cases g:x.rem with
   | true=>
     have f:AU s p r x=(⟨x.Yq,r !=10,x.start,x.Yb⟩,0,true):=by simp [AU,c,g]
     rw [f];rw [g] at z;have E:((r:Int) !=10)=(r !=10):=by rw [Bool.eq_iff_iff];simp;omega
     have I:=Aa E;clear c g E;go_enter Tryz.func68,Tryz.ntmps68;go_wp2_with (first | (go_at_call 107;refine (Er _ _ _ m (by omega) _).mono ?_;rw [n.o];rintro e i ⟨rfl,a⟩;have a:=a.symm;subst a));go_ret2;refine ⟨rfl,v,⟨?_,?_⟩,(Fr.refl _ _ _).set 2 _⟩
     ·have:=j.o.1.set 2 (.bool ((r:Int) !=10));rw [I.o] at this⊢;simpa using this
     ·exact Ac j.o.2 ((Ab.refl (fun k=>k=b) _).p7 2 _) j.o.ne
   | false=>
     rw [g] at z;cases l:Ja r with
     | true=>
       have u:=Aa l;have f:AU s p r x=(Cs p x,(if 8<x.Yb+1 then (Cs p x).start else 0),!decide (8<x.Yb+1)):=by simp only [AU,c,g,l];by_cases M:8<x.Yb+1<;>simp [M]
       rw [f];clear c g l f;obtain ⟨q,t⟩:∃q,(if 8<x.Yb+1 then (Cs p x).start else 0)=q:=⟨_,rfl⟩;obtain ⟨d,C⟩:∃d,(!decide (8<x.Yb+1))=d:=⟨_,rfl⟩;have H:=Aa t;have G:=Aa C;rw [t,C];clear t C;go_enter Tryz.func68,Tryz.ntmps68;go_wp2_with (first | (go_at_call 107;refine (Er _ _ _ m (by omega) _).mono ?_;rw [n.o];rintro e i ⟨rfl,a⟩;have a:=a.symm;subst a) | (go_at_call 108;refine (Ir _ _).mono ?_;rw [u.o];rintro e i ⟨rfl,a⟩;have a:=a.symm;subst a) | (go_at_call 109;refine (Li B b s v x p _ j.o y.o.Yb).mono ?_;rw [H.o,G.o];rintro e R ⟨rfl,A,o⟩));go_ret2;exact ⟨rfl,v,A,o⟩
     | false=>
       have u:=Aa l;have f:AU s p r x=Dz s p r (Da s p x):=by simp [AU,c,g,l]
       rw [f];clear c g l f;go_enter Tryz.func68,Tryz.ntmps68;go_wp2_with (first | (go_at_call 107;refine (Er _ _ _ m (by omega) _).mono ?_;rw [n.o];rintro e i ⟨rfl,a⟩;have a:=a.symm;subst a) | (go_at_call 108;refine (Ir _ _).mono ?_;rw [u.o];rintro e i ⟨rfl,a⟩;have a:=a.symm;subst a) | (go_at_call 69;refine (Jp B b s v x p _ m j.o N (by omega) y.o).mono ?_;rintro e R ⟨rfl,P,A,o⟩;have T:=o.f8.size;have t:=(y.o.YG (s:=s)).many) | (go_at_call 110;refine (MY B b s P (Da s p x) p r _ m A (by omega) O (by omega)).mono ?_;rintro e V ⟨rfl,Q,K,L⟩));go_ret2;exact ⟨rfl,Q,K,o.trans L⟩
end Go.Proofs.YtegmjgjkcdbmkaaGreatDoor

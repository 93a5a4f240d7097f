/- One of the texts of the proof: CkA PaA PaB PaC ScC ScD ScE ScF ScG ScH ScI ScJ. -/
import Derived.Test.YtegmjgjkcdbmkaaGreatDoorG01
import Derived.Lib.OthersKept
import Derived.Maps.OwnSet
import Derived.StringKeys
set_option maxRecDepth 100000
set_option maxHeartbeats 1000000
namespace Go.Proofs.YtegmjgjkcdbmkaaGreatDoor
open Go.RowKit Go.Maps
theorem DG{a b}(h:a=b):Ending.returned (.bool a)=.returned (.bool b):=by rw [h]
theorem V0{k a b}(h:a=b):Ending.returned (.int k a)=.returned (.int k b):=by rw [h]
theorem Ii(r:Nat)(w:World):
 Calls Tryz.prog 108 #[.int .i32 r] w fun e b=>e=.returned (.bool (F7 r))∧b=w:=by
 by_cases h:(r:Int)=247
 ·have a:r=247:=by omega
  subst a;go_enter Tryz.func108,Tryz.ntmps108;go_wp2;go_ret;exact ⟨rfl,rfl⟩
 ·have a:(((r:Nat):Int)==247)=false:=by simpa using h
  go_enter Tryz.func108,Tryz.ntmps108;go_wp2;all_goals
   go_ret;exact ⟨DG (by rw [Bool.eq_iff_iff];simp [F7];omega),rfl⟩
theorem P7{r}(a:r≠48)(h:r≠49)(i:r≠50)(j:r≠51)(k:r≠40)(l:r≠41)(m:r≠123)(n:r≠125)(o:r≠59)(b:r≠61)(c:r≠38)(d:r≠42)(e:r≠64)(f:r≠46)(g:r≠63):Bc r=0:=by simp [Bc, *]
theorem Iq(r:Nat)(w:World):
 Calls Tryz.prog 138 #[.int .i32 r] w fun e d=>e=.returned (.tuple #[.int .i64 (Bc r),.bool (Bc r !=0)])∧d=w:=by
 generalize b:Bc r=m;have c:dN (Bc r=m):=b;clear b;go_enter Tryz.func138,Tryz.ntmps138;go_wp2;all_goals
  go_ret2;refine ⟨?_,rfl⟩;have b:=c.o;simp only [beq_iff_eq,beq_eq_false_iff_ne,ne_eq] at*;first
   | (have a:r=48:=by omega
      subst a;subst b;rfl)
   | (have a:r=49:=by omega
      subst a;subst b;rfl)
   | (have a:r=50:=by omega
      subst a;subst b;rfl)
   | (have a:r=51:=by omega
      subst a;subst b;rfl)
   | (have a:r=40:=by omega
      subst a;subst b;rfl)
   | (have a:r=41:=by omega
      subst a;subst b;rfl)
   | (have a:r=123:=by omega
      subst a;subst b;rfl)
   | (have a:r=125:=by omega
      subst a;subst b;rfl)
   | (have a:r=59:=by omega
      subst a;subst b;rfl)
   | (have a:r=61:=by omega
      subst a;subst b;rfl)
   | (have a:r=38:=by omega
      subst a;subst b;rfl)
   | (have a:r=42:=by omega
      subst a;subst b;rfl)
   | (have a:r=64:=by omega
      subst a;subst b;rfl)
   | (have a:r=46:=by omega
      subst a;subst b;rfl)
   | (have a:r=63:=by omega
      subst a;subst b;rfl)
   | (have e:m=0:=by rw [←b];exact P7 (by omega) (by omega) (by omega) (by omega) (by omega) (by omega) (by omega) (by omega) (by omega) (by omega) (by omega) (by omega) (by omega) (by omega) (by omega)
      subst e;rfl)
theorem M6(s w):
 Calls Tryz.prog 111 #[.string s] w fun e a=>e=.returned (.int .i64 (CA s.toList))∧a=w:=by
 go_enter Tryz.func111,Tryz.ntmps111;go_wp2;all_goals
  go_ret;refine ⟨V0 ?_,rfl⟩;first
   | (simp [CA, *];done)
   | (simp_all [CA];done)
def Xa(s p:ByteArray):Bool:=decide (p.size≤s.size) && ((s.extract 0 p.size).toList==p.toList)
theorem KB(s p:ByteArray)(_hs:s.size≤4001)(_hp:p.size≤4001)(w:World):
 Calls Tryz.prog 160 #[.string s,.string p] w fun e d=>e=.returned (.bool (Xa s p))∧d=w:=by
 generalize c:Xa s p=v;have a:dN (Xa s p=v):=c;clear c;by_cases h:p.size≤s.size
 ·cases b:((s.extract 0 p.size).toList==p.toList) with
  | true=> go_enter Tryz.func160,Tryz.ntmps160;go_wp2;go_ret;exact ⟨DG (by rw [←a.o];simp only [Xa,b];simp [h]),rfl⟩
  | false=> go_enter Tryz.func160,Tryz.ntmps160;go_wp2;go_ret;exact ⟨DG (by rw [←a.o];simp only [Xa,b];simp),rfl⟩
 ·have f:s.size<p.size:=by omega
  go_enter Tryz.func160,Tryz.ntmps160;go_wp2;go_ret;exact ⟨DG (by rw [←a.o];simp [Xa,h]),rfl⟩
theorem Lx(s p)(d:s.size≤4001)(c:p.size≤4001)(w):
 Calls Tryz.prog 137 #[.string s,.string p] w fun e b=>e=.returned (.bool (Xa s p))∧b=w:=by
 go_enter Tryz.func137,Tryz.ntmps137;go_wp2_with (go_at_call 160;refine (KB _ _ d c _).mono ?_;rintro e b ⟨rfl,a⟩;have a:=a.symm;subst a);go_ret;exact ⟨rfl,rfl⟩
theorem Vc(s:ByteArray)(p:Nat)(f:p≤s.size):Xa (s.extract p s.size) {data:=#[239,191,189]}=(decide (p+3≤s.size) && (s.extract p (p+3)).toList==[239,191,189]):=by
 have b:(s.extract p s.size).size=s.size-p:=by simp
 have c:ByteArray.size {data:=#[239,191,189]}=3:=rfl;have d:ByteArray.toList {data:=#[239,191,189]}=[239,191,189]:=by rw [ByteArray.toList_eq]
 unfold Xa;rw [b,c,d];by_cases h:p+3≤s.size
 ·have a:3≤s.size-p:=by omega
  have e:(s.extract p s.size).extract 0 3=s.extract p (p+3):=by rw [ByteArray.extract_extract];congr 1;omega
  rw [e];simp [h,a]
 ·have a:¬3≤s.size-p:=by omega
  simp [h,a]
theorem D5(s:ByteArray)(p r:Nat)(j:s.size≤4000)(i:p≤s.size)(w:World):
 Calls Tryz.prog 107 #[.string s,.int .i64 p,.int .i32 r] w fun e d=>e=.returned (.bool (Cy s p r))∧d=w:=by
 have f:=Aa (Vc s p i);generalize c:Cy s p r=v;have b:dN (Cy s p r=v):=c;clear c;by_cases h:r=65533
 ·have g:(((r:Nat):Int)==65533)=true:=by simp;omega
  go_enter Tryz.func107,Tryz.ntmps107;go_wp2_with (go_at_call 137;refine (Lx _ _ (by simp;omega) (by decide) _).mono ?_;rintro e d ⟨rfl,a⟩;have a:=a.symm;subst a);go_ret;exact ⟨DG (by rw [←b.o,f.o];simp [Cy,h]),rfl⟩
 ·have g:(((r:Nat):Int)==65533)=false:=by simp;omega
  go_enter Tryz.func107,Tryz.ntmps107;go_wp2;go_ret;exact ⟨DG (by rw [←b.o];simp [Cy,h]),rfl⟩
def D7(t:PT):List Value:=[.int .i64 t.kind,.string t.a9,.int .i64 t.c9]
def Cr(l:List PT):List Value:=l.flatMap D7
theorem LE(l t):Cr (l++[t])=Cr l++D7 t:=by simp [Cr]
def JY(B b:Nat)(s:ByteArray)(v:Value)(x:Sc)(w:World):Prop:=
 Ak b #[.string s,v,.bool x.rem,.int .i64 x.start,.int .i64 x.n6] 152 w∧w.ownsRow B 114 3 v x.aU.length (Cr x.aU)
structure Fr(b:Nat)(v v':Value)(w w':World):Prop where
 O:Ab (fun k=>k=b∨v.ownBlock=some k) w w'
 own:∀k,v'.ownBlock=some k→v.ownBlock=some k∨w.heap.size≤k
theorem Fr.refl(b v w):Fr b v v w w:=⟨Ab.refl _ _,fun _ h=>.inl h⟩
theorem Fr.trans{b:Nat}{u v t:Value}{w d e:World}(h:Fr b u v w d)(k:Fr b v t d e):Fr b u t w e:=by
 refine ⟨⟨k.O.os.trans h.O.os,k.O.tape.trans h.O.tape,k.O.output.trans h.O.output,Nat.le_trans h.O.size k.O.size,fun i a c=>?_⟩,fun i a=>?_⟩
 ·rw [k.O.block i (Nat.lt_of_lt_of_le a h.O.size) ?_]
  ·exact h.O.block i a c
  ·rintro (q | q)
   ·exact c (.inl q)
   ·rcases h.own i q with q | q
    ·exact c (.inr q)
    ·omega
 ·rcases k.own i a with q | q
  ·exact h.own i q
  ·exact .inr (Nat.le_trans h.O.size q)
theorem Fr.drew{b v a w c}(h:Fr b v a w c):Fr b v a w c.drew:=⟨h.O.drew,h.own⟩
theorem Fr.drewN{b v a w c}(h:Fr b v a w c)(n):Fr b v a w (c.drewN n):=⟨h.O.drewN n,h.own⟩
theorem Fr.alloc{b v a w c}(h:Fr b v a w c)(o):Fr b v a w (c.alloc o):=⟨h.O.alloc o,h.own⟩
theorem Fr.set{b v a w c}(h:Fr b v a w c)(i u):Fr b v a w (c.setCell ⟨b,i,none⟩ u):=⟨h.O.setCell (.inl (.inl rfl)) u,h.own⟩
theorem JY.ne{B b s v x w}(h:JY B b s v x w):∀k,v.ownBlock=some k→k≠b:=Aj h.2 h.1 (by decide)
theorem JY.O{B b s v x w c}(h:JY B b s v x w)(a:Ab (fun _=>False) w c):JY B b s v x c:=
 ⟨h.1.O a (fun q=>q),Ac h.2 a (fun _ _ q=>q)⟩
def Ix(x:Sc)(t:PT):Sc:=⟨x.aU++[t],x.rem,x.start,x.n6⟩
theorem Tryz.infoPT:(Tryz.prog.info? 114).map (fun i=>(i.zero,i.size,i.bytes))=some (some (.agg #[.int .i64 0,.string ByteArray.empty,.int .i64 0]),3,32):=by kernel_rfl
theorem Ur{B b s v a x t w W c}(h:JY B b s v x w)(i:Ab (fun _=>False) w W)(g:c.ownsRow B 114 3 a (x.aU.length+1) (Cr x.aU++D7 t))(j:W.grownBy c v.ownBlock)(n:∀k,a.ownBlock=some k→v.ownBlock=some k∨w.heap.size≤k):
 JY B b s a (Ix x t) (c.setCell ⟨b,1,none⟩ a)∧Fr b v a w (c.setCell ⟨b,1,none⟩ a):=by
 have m:=h.ne;have e:Ab (fun k=>v.ownBlock=some k) w c:=Ab.grown (i.mono (fun _ _ q=>q.elim)) j (fun k l=>.inl l);have d:=h.1.O e (fun q=>m b q rfl);have f:=(Ab.refl (fun k=>k=b) c).d8 1 a;have o:∀k,a.ownBlock=some k→k≠b:=Aj g d (by decide);refine ⟨⟨?_,?_⟩,?_,n⟩
 ·have:=d.set 1 a;simpa [Ix] using this
 ·have:=Ac g f o;simpa [Ix,LE] using this
 ·exact (e.mono (fun k _ q=>.inr q)).trans (f.mono (fun k _ q=>.inl q))
theorem Mu(B b:Nat)(s:ByteArray)(v:Value)(x:Sc)(f a c:Nat)(w:World)(_hs:s.size≤4000)(h:JY B b s v x w)(P:B≤w.heap.size)(S:a≤c)(Q:c≤s.size)(R:x.aU.length≤4001):
 Calls Tryz.prog 70 #[.pointer (some ⟨b,0,none⟩),.int .i64 f,.int .i64 a,.int .i64 c] w fun e o=>e=.returned (.tuple #[])∧∃g,JY B b s g (Ix x ⟨f,s.extract a c,a⟩) o∧Fr b v g w o:=by
 obtain ⟨I,z,F,G,H⟩:=info_parts Tryz.infoPT;have t:=h.1.cell 0;have j:=h.1.cell 1;have y:=h.1.frozen 1;simp only [dM,dJ,dK] at t j;obtain ⟨J,L,K,E⟩:=Ad h.2;subst E;have n:=Ae h.1;have D:=h.2;have i:=Aa h.ne;have r:=Aa h;clear h;go_enter Tryz.func70,Tryz.ntmps70;go_region_law (refine AT rfl _ _ 79 rfl B 114 I (.agg #[.int .i64 0,.string ByteArray.empty,.int .i64 0]) 3 32 Tryz.underlying79 z F G H rfl (by decide) _ _ _ rfl (D.alloc _) ⟨w.heap.size,0,none⟩ 1 1 [.int .i64 f,.string (s.extract a c),.int .i64 a] rfl rfl (A5 rfl _ _) (fun u m=>by simp at m;rcases m with rfl | rfl | rfl<;>rfl) (by decide) (by unfold maxLen;omega) (by omega) (by simp;omega) ?_;intro g p l d C;have T:p.cell? ⟨b,1,none⟩=some (.slice J L K):=(World.cell?_of_block (d.block b (by simp;omega) (fun h=>i.o b h.symm rfl))).trans (by rw [←j];exact World.cell?_of_block (Below.heap_alloc _ _ _ n));have U:p.frozen? ⟨b,1,none⟩=false:=(World.frozen?_of_block (d.block b (by simp;omega) (fun h=>i.o b h.symm rfl))).trans (by rw [←y];exact World.frozen?_of_block (Below.heap_alloc _ _ _ n));obtain ⟨M,O,N,rfl⟩:=Ad l);all_goals
  go_wp2_with fail;go_end0;refine ⟨rfl,.slice M O N,?_⟩;exact Ur r.o (((Ab.refl _ _).alloc _).drew) l d (fun k A=>(C k A).imp id (fun q=>by simp at q;omega))
theorem Jt(B b s v x a w)(D:s.size≤4000)(h:JY B b s v x w)(y:B≤w.heap.size)(z:a≤s.size)(g:JK a x):
 Calls Tryz.prog 69 #[.pointer (some ⟨b,0,none⟩),.int .i64 a] w fun e o=>e=.returned (.tuple #[])∧∃d,JY B b s d (CC s a x) o∧Fr b v d w o:=by
 have r:=h.1.cell 0;have t:=h.1.cell 3;have i:=h.1.cell 4;have u:=h.1.frozen 4;simp only [dM,dJ,dK] at r t i;have G:=Ae h.1;have C:=g.start;have E:=g.n6;have F:=g.many;have f:=Aa h;clear h g;by_cases p:0<x.n6
 ·have l:CC s a x=⟨x.aU++[⟨CA (s.extract x.start a).toList,s.extract x.start a,x.start⟩],x.rem,x.start,0⟩:=by simp [CC,p]
  rw [l];have A:decide ((0:Int)<(x.n6:Int))=true:=by simp;omega
  go_enter Tryz.func69,Tryz.ntmps69;go_wp2;go_cut [] (fun q=>∃d,JY B b s d (Ix x ⟨CA (s.extract x.start a).toList,s.extract x.start a,x.start⟩) q∧Fr b v d w q)
  case first=>
   go_region_with (first
    | (go_at_call 111;refine (M6 _ _).mono ?_;rintro e o ⟨rfl,m⟩;have m:=m.symm;subst m)
    | (go_at_call 70;refine (Mu B b s v x (CA (s.extract x.start a).toList) x.start a _ D (f.o.O (by repeat (first | exact Ab.refl _ _ | refine Ab.drew ?_ | refine Ab.drewN ?_ _ | refine Ab.alloc ?_ _))) (by simpa using y) C z (by omega)).mono ?_;rintro e H ⟨rfl,n,c,j⟩))
   all_goals
    go_wp2_with fail;go_meet
    case rel=>exact ⟨n,c,Fr.trans ⟨(by repeat (first | exact Ab.refl _ _ | refine Ab.drew ?_ | refine Ab.drewN ?_ _ | refine Ab.alloc ?_ _)),fun _ h=>.inl h⟩ j⟩
  case rest=>
   obtain ⟨n,c,j⟩:=hcut;have u:=c.1.frozen 4;have i:=c.1.cell 4;simp only [dM,dJ,dK] at i;go_wp2;go_end0;refine ⟨rfl,n,⟨?_,?_⟩,j.set 4 _⟩
   ·have:=c.1.set 4 (.int .i64 0);simpa [Ix] using this
   ·exact Ac c.2 ((Ab.refl (fun k=>k=b) _).d8 4 _) c.ne
 ·have l:CC s a x=⟨x.aU,x.rem,x.start,0⟩:=by simp [CC,p]
  rw [l];have A:decide ((0:Int)<(x.n6:Int))=false:=by simp;omega
  go_enter Tryz.func69,Tryz.ntmps69;go_wp2;go_end0;refine ⟨rfl,v,⟨?_,?_⟩,(Fr.refl _ _ _).set 4 _⟩
  ·have:=f.o.1.set 4 (.int .i64 0);simpa using this
  ·exact Ac f.o.2 ((Ab.refl (fun k=>k=b) _).d8 4 _) f.o.ne
theorem Le(B b:Nat)(s:ByteArray)(v:Value)(x:Sc)(p:Nat)(w:World)(h:JY B b s v x w)(n:x.n6≤8):
 Calls Tryz.prog 109 #[.pointer (some ⟨b,0,none⟩),.int .i64 p] w fun e l=>e=.returned (.tuple #[.int .i64 ((if 8<x.n6+1 then (BG p x).start else 0:Nat):Int),.bool (!decide (8<x.n6+1))])∧JY B b s v (BG p x) l∧Fr b v v w l:=by
 have m:=h.1.cell 3;have d:=h.1.cell 4;have o:=h.1.frozen;simp only [dM,dJ,dK] at m d;have r:=Ae h.1;have a:=Aa h;clear h;by_cases c:x.n6=0
 ·have f:((x.n6:Int)==0)=true:=by simp [c]
  have g:BG p x=⟨x.aU,x.rem,p,1⟩:=by simp [BG,c]
  rw [g,c];rw [c] at d;clear c f;go_enter Tryz.func109,Tryz.ntmps109;go_wp2;go_ret2;refine ⟨rfl,⟨?_,?_⟩,((Fr.refl _ _ _).set 3 _).set 4 _⟩
  ·have:=(a.o.1.set 3 (.int .i64 p)).set 4 (.int .i64 1);simpa using this
  ·exact Ac a.o.2 (((Ab.refl (fun k=>k=b) _).d8 3 _).d8 4 _) a.o.ne
 ·have f:((x.n6:Int)==0)=false:=by simp [c]
  have g:BG p x=⟨x.aU,x.rem,x.start,x.n6+1⟩:=by simp [BG,c]
  rw [g];by_cases i:x.n6=8
  ·rw [i];rw [i] at d;clear c f n;go_enter Tryz.func109,Tryz.ntmps109;go_wp2;go_ret2;refine ⟨rfl,⟨?_,?_⟩,(Fr.refl _ _ _).set 4 _⟩
   ·have:=a.o.1.set 4 (.int .i64 9);simpa using this
   ·exact Ac a.o.2 ((Ab.refl (fun k=>k=b) _).d8 4 _) a.o.ne
  ·have q:decide ((8:Int)<(x.n6:Int)+1)=false:=by simp;omega
   have j:¬8<x.n6+1:=by omega
   simp only [j,if_false,decide_false,Bool.not_false];clear j;go_enter Tryz.func109,Tryz.ntmps109;go_wp2;go_ret2;refine ⟨rfl,⟨?_,?_⟩,(Fr.refl _ _ _).set 4 _⟩
   ·have:=a.o.1.set 4 (.int .i64 ((x.n6:Int)+1));simpa using this
   ·exact Ac a.o.2 ((Ab.refl (fun k=>k=b) _).d8 4 _) a.o.ne
theorem MZ(B b:Nat)(s:ByteArray)(v:Value)(x:Sc)(p r:Nat)(w:World)(F:s.size≤4000)(h:JY B b s v x w)(E:B≤w.heap.size)(K:p<s.size)(J:x.aU.length≤4000):
 Calls Tryz.prog 110 #[.pointer (some ⟨b,0,none⟩),.int .i64 p,.int .i32 r] w fun e j=>e=.returned (.tuple #[.int .i64 (CR s p r x).2.1,.bool (CR s p r x).2.2])∧∃q,JY B b s q (CR s p r x).1 j∧Fr b v q w j:=by
 have u:=h.1.cell 2;have I:=h.1.frozen;simp only [dM,dJ,dK] at u;have L:=Ae h.1;have f:=Aa h;clear h;by_cases a:r=32∨r=9∨r=10
 ·have c:CR s p r x=(x,0,true):=by simp [CR,a]
  rw [c];rcases a with a | a | a
  all_goals
   subst a;go_enter Tryz.func110,Tryz.ntmps110;go_wp2;go_ret2;exact ⟨rfl,v,f.o,Fr.refl _ _ _⟩
 ·have y:((r:Int)==32)=false:=by simp;omega
  have z:((r:Int)==9)=false:=by simp;omega
  have A:((r:Int)==10)=false:=by simp;omega
  by_cases g:r=35
  ·have c:CR s p r x=(⟨x.aU,true,x.start,x.n6⟩,0,true):=by simp [CR,g]
   rw [c];subst g;clear y z A;go_enter Tryz.func110,Tryz.ntmps110;go_wp2;go_ret2;refine ⟨rfl,v,⟨?_,?_⟩,(Fr.refl _ _ _).set 2 _⟩
   ·have:=f.o.1.set 2 (.bool true);simpa using this
   ·exact Ac f.o.2 ((Ab.refl (fun k=>k=b) _).d8 2 _) f.o.ne
  ·have H:((r:Int)==35)=false:=by simp;omega
   by_cases i:Bc r=0
   ·have c:CR s p r x=(x,p,false):=by simp [CR,a,g,i]
    rw [c];have l:dN (Bc r=0):=i;clear a g i;go_enter Tryz.func110,Tryz.ntmps110;go_wp2_with (go_at_call 138;refine (Iq _ _).mono ?_;rw [l.o];rintro e j ⟨rfl,d⟩;have d:=d.symm;subst d);go_ret2;exact ⟨rfl,v,f.o,Fr.refl _ _ _⟩
   ·have c:CR s p r x=(Ix x ⟨Bc r,s.extract p (p+1),p⟩,0,true):=by simp [CR,a,g,i,Ix]
    rw [c];have n:(Bc r !=0)=true:=by simp [i]
    obtain ⟨m,o⟩:∃m,Bc r=m:=⟨_,rfl⟩;rw [o] at n⊢;have t:=Aa o;have l:=Aa n;clear a g i n o;go_enter Tryz.func110,Tryz.ntmps110;go_wp2_with (first
     | (go_at_call 138;refine (Iq _ _).mono ?_;rw [t.o,l.o];rintro e j ⟨rfl,d⟩;have d:=d.symm;subst d)
     | (go_at_call 70;refine (Mu B b s v x m p (p+1) _ F f.o E (by omega) (by omega) (by omega)).mono ?_;rintro e M ⟨rfl,G,C,D⟩))
    go_ret2;exact ⟨rfl,G,C,D⟩
theorem OM(B b:Nat)(s:ByteArray)(v:Value)(x:Sc)(p r:Nat)(w:World)(m:s.size≤4000)(h:JY B b s v x w)(N:B≤w.heap.size)(O:p<s.size)(D:JK p x):
 Calls Tryz.prog 68 #[.pointer (some ⟨b,0,none⟩),.int .i64 p,.int .i32 r] w fun e i=>e=.returned (.tuple #[.int .i64 (AI s p r x).2.1,.bool (AI s p r x).2.2])∧∃F,JY B b s F (AI s p r x).1 i∧Fr b v F w i:=by
 have J:=h.1.cell 0;have z:=h.1.cell 2;have S:=h.1.frozen;simp only [dM,dJ,dK] at J z;have U:=Ae h.1;have j:=Aa h;have y:=Aa D;clear h D;cases c:Cy s p r with
 | true=>
   have f:AI s p r x=(x,p,false):=by simp [AI,c]
   rw [f];have n:=Aa c;clear c;go_enter Tryz.func68,Tryz.ntmps68;go_wp2_with (first | (go_at_call 107;refine (D5 _ _ _ m (by omega) _).mono ?_;rw [n.o];rintro e i ⟨rfl,a⟩;have a:=a.symm;subst a));go_ret2;exact ⟨rfl,v,j.o,Fr.refl _ _ _⟩
 | false=>
   have n:=Aa c;cases g:x.rem with
   | true=>
     have f:AI s p r x=(⟨x.aU,r !=10,x.start,x.n6⟩,0,true):=by simp [AI,c,g]
     rw [f];rw [g] at z;have E:((r:Int) !=10)=(r !=10):=by rw [Bool.eq_iff_iff];simp;omega
     have I:=Aa E;clear c g E;go_enter Tryz.func68,Tryz.ntmps68;go_wp2_with (first | (go_at_call 107;refine (D5 _ _ _ m (by omega) _).mono ?_;rw [n.o];rintro e i ⟨rfl,a⟩;have a:=a.symm;subst a));go_ret2;refine ⟨rfl,v,⟨?_,?_⟩,(Fr.refl _ _ _).set 2 _⟩
     ·have:=j.o.1.set 2 (.bool ((r:Int) !=10));rw [I.o] at this⊢;simpa using this
     ·exact Ac j.o.2 ((Ab.refl (fun k=>k=b) _).d8 2 _) j.o.ne
   | false=>
     rw [g] at z;cases l:F7 r with
     | true=>
       have u:=Aa l;have f:AI s p r x=(BG p x,(if 8<x.n6+1 then (BG p x).start else 0),!decide (8<x.n6+1)):=by simp only [AI,c,g,l];by_cases M:8<x.n6+1<;>simp [M]
       rw [f];clear c g l f;obtain ⟨q,t⟩:∃q,(if 8<x.n6+1 then (BG p x).start else 0)=q:=⟨_,rfl⟩;obtain ⟨d,C⟩:∃d,(!decide (8<x.n6+1))=d:=⟨_,rfl⟩;have H:=Aa t;have G:=Aa C;rw [t,C];clear t C;go_enter Tryz.func68,Tryz.ntmps68;go_wp2_with (first | (go_at_call 107;refine (D5 _ _ _ m (by omega) _).mono ?_;rw [n.o];rintro e i ⟨rfl,a⟩;have a:=a.symm;subst a) | (go_at_call 108;refine (Ii _ _).mono ?_;rw [u.o];rintro e i ⟨rfl,a⟩;have a:=a.symm;subst a) | (go_at_call 109;refine (Le B b s v x p _ j.o y.o.n6).mono ?_;rw [H.o,G.o];rintro e R ⟨rfl,A,o⟩));go_ret2;exact ⟨rfl,v,A,o⟩
     | false=>
       have u:=Aa l;have f:AI s p r x=CR s p r (CC s p x):=by simp [AI,c,g,l]
       rw [f];clear c g l f;go_enter Tryz.func68,Tryz.ntmps68;go_wp2_with (first | (go_at_call 107;refine (D5 _ _ _ m (by omega) _).mono ?_;rw [n.o];rintro e i ⟨rfl,a⟩;have a:=a.symm;subst a) | (go_at_call 108;refine (Ii _ _).mono ?_;rw [u.o];rintro e i ⟨rfl,a⟩;have a:=a.symm;subst a) | (go_at_call 69;refine (Jt B b s v x p _ m j.o N (by omega) y.o).mono ?_;rintro e R ⟨rfl,P,A,o⟩;have T:=o.O.size;have t:=(y.o.bH (s:=s)).many) | (go_at_call 110;refine (MZ B b s P (CC s p x) p r _ m A (by omega) O (by omega)).mono ?_;rintro e V ⟨rfl,Q,K,L⟩));go_ret2;exact ⟨rfl,Q,K,o.trans L⟩
def YP(w:World)(s:ByteArray)(V:Nat ⊕ Sc)(e:Ending)(a:World):Prop:=
 match V with
 | .inl p=>e=.returned (.tuple #[.slice none 0 0,.int .i64 2,.int .i64 p])∧Below w.heap.size w a
 | .inr x=>∃v,e=.returned (.tuple #[v,.int .i64 0,.int .i64 0])∧a.ownsRow w.heap.size 114 3 v (AH s x).length (Cr (AH s x))∧(AH s x).length≤4001∧Below w.heap.size w a
theorem NN{w:World}{k:Nat}{s:ByteArray}{p:Nat}(h:w.heap[k]? =some (.stringIter s p)):w.iterPos k=p:=by simp [World.iterPos,h]
theorem JB(w k s p):Ab (fun j=>j=k) w (w.iterAt k s p):=by have h:=Lib.below_iterAt (Below.refl 0 w) (k:=k) (Nat.zero_le _) s p;exact ⟨h.os,h.tape,h.output,h.size,fun j _ a=>Lib.iterAt_other _ _ _ _ _ (fun e=>a e)⟩
theorem Oc{w:World}{B:Nat}{e:TypeId}{i:Nat}{v:Value}{n:Nat}{j:List Value}(h:w.ownsRow B e i v n j){b:Nat}{s:ByteArray}{p:Nat}(f:w.heap[b]? =some (.stringIter s p)):∀k,v.ownBlock=some k→k≠b:=by
 rintro k a rfl;rcases h.2 with ⟨d,_⟩ | ⟨o,l,m,g,_,c,_⟩
 ·rw [d] at a;simp [Value.ownBlock] at a
 ·rw [g] at a;simp [Value.ownBlock] at a;subst a;rw [f] at c;cases c
theorem JY.iter{B b k s t v x w p q}(h:JY B b s v x w)(c:w.heap[k]? =some (.stringIter t p))(a:b≠k):JY B b s v x (w.iterAt k t q):=
 ⟨h.1.O (JB _ _ _ _) a,Ac h.2 (JB _ _ _ _) (Oc h.2 c)⟩
theorem Fr.iter{b k B s t v f x w c p}(h:Fr b v f w c)(e:JY B b s v x w)(a:w.heap[k]? =some (.stringIter t p))(d:b≠k):c.heap[k]? =some (.stringIter t p):=by
 rw [h.O.block k (Ae a) ?_]
 ·exact a
 ·rintro (q | q)
  ·exact d q.symm
  ·exact Oc e.2 a k q rfl
theorem Fr.below{b B s v g x w a}(h:Fr b v g w a)(f:JY B b s v x w)(c:B≤w.heap.size)(i:B≤b):Below B w a:=
 h.O.bL c (fun k d=>d.elim (fun e=>by omega) (fun q=>(f.2.lt k q).1))
theorem QA(s)(t:s.size≤4000)(w):
 Calls Tryz.prog 49 #[.string s] w fun e w'=>YP w s (Aw s s.size 0 x0) e w':=by
 generalize F:Aw s s.size 0 x0=V;have E:dN (Aw s s.size 0 x0=V):=F;clear F;go_enter Tryz.func49,Tryz.ntmps49;go_wp2;go_loopw [6,7,8,9] (fun _ _ _ _ wr=>∃(a q f:Nat) (v:Value) (x:Sc),wr.heap[w.heap.size+1]? =some (.stringIter s a)∧JY w.heap.size w.heap.size s v x wr∧Below w.heap.size w wr∧s.size-a≤f∧JK q x∧q≤a∧q≤s.size∧dN (Aw s f a x=V)) (fun _ _ _ _ wr=>s.size-wr.iterPos (w.heap.size+1))
 case atStart=>
  refine ⟨0,0,s.size,.slice none 0 0,x0,?_,?_,?_,by omega,⟨Nat.le_refl _,by simp,by simp⟩,Nat.le_refl _,Nat.zero_le _,E⟩
  ·have:=World.iter_heap (w.alloc (.cells #[.string s,.slice none 0 0,.bool false,.int .i64 0,.int .i64 0] 152)) s 0;simpa using this
  ·exact ⟨(Ak.new w #[.string s,.slice none 0 0,.bool false,.int .i64 0,.int .i64 0] 152).alloc _,World.ownsRow_nil _ _ _ _⟩
  ·exact ((Below.refl _ _).alloc (Nat.le_refl _) _).alloc (by simp) _
 case round=>
  obtain ⟨a,q,f,v,x,h,u,m,H,p,a0,a1,o⟩:=hrel;clear E;have Z:=NN h;have O:=m.size;by_cases d:a<s.size
  ·have X:∀i,(Instr.next (.pointer (some ⟨w.heap.size+1,0,none⟩)) true i).run Tryz.prog wr=_:=fun i=>Lib.run_next_any_at wr (w.heap.size+1) s a i h d
   have I:=Lib.iterAt_heap wr (w.heap.size+1) s a (a+(Utf8.decode s a).2) h;have B:=Lib.below_iterAt m (k:=w.heap.size+1) (by omega) s (a+(Utf8.decode s a).2);have M:=u.iter (q:=a+(Utf8.decode s a).2) h (by omega);have a3:=Fp s a d;have K:=p.more a0;generalize wr.iterAt (w.heap.size+1) s (a+(Utf8.decode s a).2)=W1 at*;have z:=B.size;obtain ⟨y,N⟩:∃y,AI s a (Utf8.decode s a).1 x=y:=⟨_,rfl⟩;have c:=Aa N;have j:=Aa K;have b:=Aa M;have R:=Aa I;have n:=Aa B;clear h u m p K M I B N;obtain ⟨Q,y2,y3⟩:=y;cases y3 with
   | true=>
     go_wp2_with (go_at_call 68;refine (OM w.heap.size w.heap.size s v x a (Utf8.decode s a).1 _ t b.o z d j.o).mono ?_;rw [c.o];rintro e P ⟨rfl,D,l,g⟩);obtain ⟨T,W,G⟩:=Cm (x:=x) H d (by rw [c.o]);rw [c.o] at G;have Y:JK (a+1) Q:=by have:=V8 (s:=s) (r:=(Utf8.decode s a).1) j.o (by rw [c.o]);rw [c.o] at this;exact this
     have J:=g.iter b.o R.o (by omega);go_roundw
     case rel=>exact ⟨a+(Utf8.decode s a).2,a+1,T,D,Q,J,l,n.o.trans (g.below b.o z (Nat.le_refl _)),W,Y,by omega,by omega,by show _=_;rw [←G];exact o.o⟩
     case measure=>rw [NN J,Z];omega
   | false=>
     go_wp2_with (go_at_call 68;refine (OM w.heap.size w.heap.size s v x a (Utf8.decode s a).1 _ t b.o z d j.o).mono ?_;rw [c.o];rintro e P ⟨rfl,D,l,g⟩);go_ret3;have C:V=.inl y2:=by have:=DR (x:=x) H d (by rw [c.o]);rw [c.o] at this;rw [←o.o,this]
     subst C;exact ⟨rfl,n.o.trans (g.below b.o z (Nat.le_refl _))⟩
  ·have X:∀i,(Instr.next (.pointer (some ⟨w.heap.size+1,0,none⟩)) true i).run Tryz.prog wr=_:=fun i=>Lib.run_next_end_at wr (w.heap.size+1) s a i h d
   have C:V=.inr x:=by rw [←o.o,CP d]
   subst C;have b:=Aa u;have n:=Aa m;have L:=p.more a1;have j:=Aa L;clear h u m p o L;have a2:=(j.o.bH (s:=s)).many;go_wp2_with (first
    | (go_at_call 69;refine (Jt w.heap.size w.heap.size s v x s.size _ t b.o O (Nat.le_refl _) j.o).mono ?_;rintro e w1 ⟨rfl,v1,l,g⟩;have a4:=g.O.size)
    | (go_at_call 70;refine (Mu w.heap.size w.heap.size s v1 (CC s s.size x) 0 s.size s.size _ t l (by omega) (Nat.le_refl _) (Nat.le_refl _) (by omega)).mono ?_;rintro e P ⟨rfl,D,A,U⟩;have S:=A.1.cell 1;simp only [dM,dJ,dK] at S;obtain ⟨va,vl,vc,rfl⟩:=Ad A.2))
   go_ret3;refine ⟨_,rfl,?_,?_,?_⟩
   ·have:=A.2;simpa [AH,Ix] using this
   ·simp [AH];omega
   ·exact (n.o.trans (g.below b.o O (Nat.le_refl _))).trans (U.below l (by omega) (Nat.le_refl _))
def Yk(t:PT):Prop:=t.kind=2→t.a9=⟨#[48]⟩∨t.a9=⟨#[49]⟩∨t.a9=⟨#[50]⟩∨t.a9=⟨#[51]⟩
def DigOk(l:List PT):Prop:=∀t,t∈l→Yk t
theorem DigOk.snoc{l t}(h:DigOk l)(b:Yk t):DigOk (l++[t]):=by
 intro u c;rcases List.mem_append.1 c with a | a
 ·exact h u a
 ·rw [List.mem_singleton.1 a];exact b
theorem Wq(l):CA l≠2:=by
 unfold CA;repeat' split
 all_goals decide
theorem DigOk.bH{s e x}(h:DigOk x.aU):DigOk (CC s e x).aU:=by
 unfold Proofs.YtegmjgjkcdbmkaaGreatDoor.CC;split
 ·exact h.snoc (fun a=>absurd a (Wq _))
 ·exact h
theorem SV{r}(h:Bc r=2):r=48∨r=49∨r=50∨r=51:=by
 unfold Bc at h;split at h
 ·assumption
 ·exfalso;revert h;repeat' split
  all_goals decide
theorem PE{s p}(a:p<s.size)(h:Bc (Utf8.decode s p).1=2):s.extract p (p+1)=⟨#[48]⟩∨s.extract p (p+1)=⟨#[49]⟩∨s.extract p (p+1)=⟨#[50]⟩∨s.extract p (p+1)=⟨#[51]⟩:=by
 have c:=SV h;have k:(s[p]'a).toNat<128:=by
  by_cases f:(s[p]'a).toNat<128
  ·exact f
  ·have:=(decode_high s p a (by omega)).1;omega
 rw [decode_ascii s p a k] at c;have g:s.extract p (p+1)=⟨#[s[p]'a]⟩:=by
  apply ByteArray.ext;rw [ByteArray.data_extract];have o:p<s.data.size:=a;apply Array.ext
  ·simp;omega
  ·intro i l d;have j:i=0:=by simp at d;omega
   subst j;simp;rfl
 have b:∀n:Nat,n<256→(s[p]'a).toNat=n→s[p]'a=UInt8.ofNat n:=by intro n m e;rw [←e];simp
 rw [g];rcases c with q | q | q | q
 ·exact .inl (by rw [b _ (by decide) q];rfl)
 ·exact .inr (.inl (by rw [b _ (by decide) q];rfl))
 ·exact .inr (.inr (.inl (by rw [b _ (by decide) q];rfl)))
 ·exact .inr (.inr (.inr (by rw [b _ (by decide) q];rfl)))
theorem TM{s p x}(c:p<s.size)(h:DigOk x.aU):DigOk (AI s p (Utf8.decode s p).1 x).1.aU:=by
 unfold AI;split
 ·exact h
 ·split
  ·exact h
  ·split
   ·split
    ·exact h
    ·exact h
   ·have a:=h.bH (s:=s) (e:=p);unfold CR;split
    ·exact a
    ·split
     ·exact a
     ·split
      ·exact a
      ·exact a.snoc (fun b=>PE c b)
theorem JG(s:ByteArray):∀(f p:Nat) (x y:Sc),DigOk x.aU→Aw s f p x=.inr y→DigOk y.aU
 | 0,_,x,y,h,e=>by have:=Sum.inr.inj e;subst this;exact h
 | f+1,p,x,y,h,e=>by
   unfold Aw at e;split at e
   ·rename_i a;split at e
    ·exact JG s f _ _ y (TM a h) e
    ·cases e
   ·have:=Sum.inr.inj e;subst this;exact h
theorem JF{s y}(h:Aw s s.size 0 ⟨[],false,0,0⟩=.inr y):DigOk (AH s y):=
 (JG s _ _ _ _ (fun _ b=>absurd b (by simp)) h).bH.snoc (fun a=>absurd (show (0:Nat)=2 from a) (by decide))
structure PS where
 next:Nat
 m8:Bool
 aS:Nat
def Bj:PT:=⟨0,ByteArray.empty,0⟩
def Ag(l:List PT)(i:Nat):PT:=l[i]?.getD Bj
def GM(a:List PT)(n:Nat)(x:PS):PS:=⟨n-1,true,if x.m8 then x.aS else (Ag a x.next).c9⟩
def Af(a:List PT)(n k:Nat)(x:PS):PS:=if (Ag a x.next).kind=k then (if k=0 then x else ⟨x.next+1,x.m8,x.aS⟩) else GM a n x
def Ax(a:List PT)(k:Nat)(x:PS):PT:=if (Ag a x.next).kind=k then Ag a x.next else Bj
def AR(b g n a:Nat)(x:PS)(w:World):Prop:=Ak b #[.slice (some ⟨g,0,none⟩) n a,.int .i64 x.next,.bool x.m8,.int .i64 x.aS] 158 w
def AZ(g n b:Nat)(a:List PT)(w:World):Prop:=w.ownsRow 0 114 3 (.slice (some ⟨g,0,none⟩) n b) n (Cr a)∧n=a.length∧n≤4001∧DigOk a
theorem Oq{l i}(h:i<l.length):(Cr l)[i*3]? =some (.int .i64 (Ag l i).kind)∧(Cr l)[i*3+1]? =some (.string (Ag l i).a9)∧(Cr l)[i*3+2]? =some (.int .i64 (Ag l i).c9):=by
 induction l generalizing i with
 | nil=>simp at h
 | cons t l a=>
   cases i with
   | zero=>simp [Cr,D7,Ag]
   | succ i=>
     have:=a (i:=i) (by simpa using h);simp only [Cr,List.flatMap_cons,Ag,dK] at this⊢;have e:∀j,(D7 t++List.flatMap D7 l)[(i+1)*3+j]? =(List.flatMap D7 l)[i*3+j]? :=by intro j;rw [List.getElem?_append_right (by simp [D7];omega)];congr 1;simp [D7];omega
     exact ⟨by rw [show (i+1)*3=(i+1)*3+0 from rfl,e];exact this.1,by rw [e];exact this.2.1,by rw [e];exact this.2.2⟩
theorem AZ.cells{g n c a w}(h:AZ g n c a w){i}(d:i<n):
 w.cell? ⟨g,i*3,none⟩=some (.int .i64 (Ag a i).kind)∧w.cell? ⟨g,i*3+1,none⟩=some (.string (Ag a i).a9)∧w.cell? ⟨g,i*3+2,none⟩=some (.int .i64 (Ag a i).c9):=by
 have e:=h.2.1;have b:=Oq (l:=a) (i:=i) (by omega);exact ⟨by rw [h.1.cellAt _ (by omega)];exact b.1,by rw [h.1.cellAt _ (by omega)];exact b.2.1,by rw [h.1.cellAt _ (by omega)];exact b.2.2⟩
theorem AZ.O{g n a c}{X:Nat→Prop}{w d}(h:AZ g n a c w)(e:Ab X w d)(f:¬X g):AZ g n a c d:=
 ⟨Ac h.1 e (fun k b=>by simp [Value.ownBlock] at b;subst b;exact f),h.2⟩
theorem AZ.ne{g n a b j w}(h:AZ g n a j w){c t d}(f:w.heap[b]? =some (.cells c t d))(i:t≠114):g≠b:=fun e=>Aj h.1 f i g rfl e
theorem AZ.lt{g n a b w}(h:AZ g n a b w):g<w.heap.size:=(h.1.lt g rfl).2
theorem AS(b g n f x d w)(a:AR b g n f x w)(c:AZ g n f d w)(h:x.next<n):
 Calls Tryz.prog 113 #[.pointer (some ⟨b,0,none⟩)] w fun e k=>e=.returned (.int .i64 (Ag d x.next).kind)∧Ab (fun _=>False) w k:=by
 obtain ⟨p,q,r⟩:=c.cells h;have l:=c.2.2.1;have i:=Ar a 0;have j:=Ar a 1;simp only [dM,dJ,dK] at i j;have o:=Ae a;have m:=c.lt;clear a c;generalize Ag d x.next=t at*;go_enter Tryz.func113,Tryz.ntmps113;go_wp2;go_region;go_wp2;go_ret;exact ⟨rfl,(by repeat (first | exact Ab.refl _ _ | refine Ab.drew ?_ | refine Ab.drewN ?_ _ | refine Ab.alloc ?_ _))⟩
theorem Tf(b g n f x j w)(a:AR b g n f x w)(d:AZ g n f j w)(s:x.next<n):
 Calls Tryz.prog 142 #[.pointer (some ⟨b,0,none⟩)] w fun e r=>e=.returned (.tuple #[])∧AR b g n f (GM j n x) r∧Ab (fun k=>k=b) w r:=by
 obtain ⟨E,F,G⟩:=d.cells s;have A:=d.2.2.1;have u:=Ar a 0;have v:=Ar a 1;have h:=Ar a 2;have y:=Ar a 3;have z:=fun i=>AE a i
 simp only [dM,dJ,dK] at u v h y;have D:=Ae a;have C:=d.lt;have B:=d.ne a (by decide);have o:=Aa a;clear a d;have p:((n:Int)-1)=((n-1:Nat):Int):=by omega
 have m:=Aa p;clear p;unfold GM;generalize Ag j x.next=t at*;cases c:x.m8 with
 | true=> rw [c] at h;have l:=Aa c;clear c;go_enter Tryz.func142,Tryz.ntmps142;go_wp2;go_end0;refine ⟨rfl,?_,(Ab.refl _ _).d8 1 _⟩;have:=Ak.set o.o 1 (.int .i64 ((n:Int)-1));rw [m.o] at this⊢;simpa [AR,l.o] using this
 | false=>
   rw [c] at h;have l:=Aa c;clear c;go_enter Tryz.func142,Tryz.ntmps142;go_wp2;go_region;go_wp2;go_end0;refine ⟨rfl,?_,?_⟩
   ·have:=Ak.O (((Ak.set (w:=w) o.o 2 (.bool true)).set 3 (.int .i64 t.c9)).set 1 (.int .i64 ((n:Int)-1))) ((Ab.refl (fun _=>False) _).drew) (fun q=>q);rw [m.o] at this⊢;simpa [AR] using this
   ·exact (((((Ab.refl (fun k=>k=b) w).drew).d8 2 _).d8 3 _).d8 1 _)
def Vy(t:PT):Value:=.agg #[.int .i64 t.kind,.string t.a9,.int .i64 t.c9]
theorem AG(b g n o k:Nat)(x:PS)(a:List PT)(w:World)(f:AR b g n o x w)(l:AZ g n o a w)(z:x.next<n):
 Calls Tryz.prog 114 #[.pointer (some ⟨b,0,none⟩),.int .i64 k] w fun e B=>e=.returned (Vy (Ax a k x))∧AR b g n o (Af a n k x) B∧Ab (fun k=>k=b) w B:=by
 obtain ⟨R,S,T⟩:=l.cells z;have M:=l.2.2.1;have H:=Ar f 0;have I:=Ar f 1;have K:=fun i=>AE f i
 simp only [dM,dJ,dK] at H I;have Q:=Ae f;have P:=l.lt;have N:=l.ne f (by decide);have p:=Aa f;have E:=Aa l;clear f l;by_cases c:(Ag a x.next).kind=k
 ·have m:Ax a k x=Ag a x.next:=by simp [Ax,c]
  rw [m];have G:(((Ag a x.next).kind:Int) !=(k:Int))=false:=by simp [c]
  by_cases h:k=0
  ·have d:Af a n k x=x:=by simp [Af,c,h]
   rw [d];have F:((k:Int) !=0)=false:=by simp [h]
   clear m d c h;generalize Ag a x.next=t at*;go_enter Tryz.func114,Tryz.ntmps114;go_wp2;go_region;go_wp2;refine bodyPost_ret (v:=Vy t) (by simp [results,Tryz.results114,go_sem,Vy]) rfl ⟨rfl,?_,?_⟩
   ·exact Ak.O (X:=fun _=>False) p.o (by repeat (first | exact Ab.refl _ _ | refine Ab.drew ?_ | refine Ab.drewN ?_ _ | refine Ab.alloc ?_ _)) (fun q=>q)
   ·exact (by repeat (first | exact Ab.refl _ _ | refine Ab.drew ?_ | refine Ab.drewN ?_ _ | refine Ab.alloc ?_ _))
  ·have d:Af a n k x=⟨x.next+1,x.m8,x.aS⟩:=by simp [Af,c,h]
   rw [d];have F:((k:Int) !=0)=true:=by simp [h]
   clear m d c h;generalize Ag a x.next=t at*;go_enter Tryz.func114,Tryz.ntmps114;go_wp2;go_region;go_wp2;refine bodyPost_ret (v:=Vy t) (by simp [results,Tryz.results114,go_sem,Vy]) rfl ⟨rfl,?_,?_⟩
   ·have:=Ak.O (X:=fun _=>False) (Ak.set p.o 1 (.int .i64 ((x.next:Int)+1))) ((((Ab.refl _ _).alloc (.cells #[.int .i64 t.kind,.string t.a9,.int .i64 t.c9] 114)).alloc (.cells #[.int .i64 t.kind,.string t.a9,.int .i64 t.c9] 114)).drew) (fun q=>q);simpa [AR] using this
   ·exact (((((Ab.refl (fun k=>k=b) w).d8 1 _).alloc _).alloc _).drew)
 ·have m:Ax a k x=Bj:=by simp [Ax,c]
  have d:Af a n k x=GM a n x:=by simp [Af,c]
  rw [m,d];have G:(((Ag a x.next).kind:Int) !=(k:Int))=true:=by simp;omega
  clear m d c;generalize Ag a x.next=t at*;go_enter Tryz.func114,Tryz.ntmps114;go_wp2;go_region;go_wp2_with fail;refine (Tf b g n o x a _ ?_ ?_ z).mono ?_
  ·exact Ak.O (X:=fun _=>False) p.o (by repeat (first | exact Ab.refl _ _ | refine Ab.drew ?_ | refine Ab.drewN ?_ _ | refine Ab.alloc ?_ _)) (fun q=>q)
  ·exact E.o.O (X:=fun _=>False) (by repeat (first | exact Ab.refl _ _ | refine Ab.drew ?_ | refine Ab.drewN ?_ _ | refine Ab.alloc ?_ _)) (fun q=>q)
  rintro e J ⟨rfl,A,r⟩;have j:J.heap[w.heap.size]? =some (.cells #[.int .i64 0,.string {data:=#[]},.int .i64 0] 114 (0,0)):=by rw [r.block w.heap.size (by simp;omega) (by omega)];exact (Below.heap_alloc _ _ _ (by simp)).trans (heap_alloc_new w _)
  have s:=Ar j 0;have u:=Ar j 1;have y:=Ar j 2;have L:=fun i=>AE j i
  simp only [dM,dJ,dK] at s u y;have O:=Ae j;have D:=Aa A;have C:=(((Ab.refl (fun k=>k=b) w).alloc _).alloc _).drew.trans r;clear A r j;go_wp2;refine bodyPost_ret (v:=Vy Bj) (by simp [results,Tryz.results114,go_sem,Vy,Bj,s,u,y];rfl) rfl ⟨rfl,?_,?_⟩
  ·exact Ak.O (X:=fun k=>k=w.heap.size) D.o (by repeat (first | exact Ab.refl _ _ | refine Ab.drew ?_ | refine Ab.alloc ?_ _ | refine Ab.d8 ?_ _ _)) (by omega)
  ·repeat (first | exact C | refine Ab.drew ?_ | refine Ab.alloc ?_ _ | refine Ab.u9 ?_ _ _ (Nat.le_refl _))
def Je(t:PT):Value:=.agg #[.string t.a9,.int .i64 t.c9]
def EB(t:PT):List Value:=[.string t.a9,.int .i64 t.c9]
def Bt(l:List PT):List Value:=l.flatMap EB
theorem LC(l t):Bt (l++[t])=Bt l++EB t:=by simp [Bt]
theorem B7(b g n d x a w)(h:AR b g n d x w)(r:AZ g n d a w)(C:x.next<n):
 Calls Tryz.prog 139 #[.pointer (some ⟨b,0,none⟩)] w fun e s=>e=.returned (Je (Ax a 1 x))∧AR b g n d (Af a n 1 x) s∧Ab (fun k=>k=b) w s:=by
 have G:=Ae h;obtain ⟨t,j⟩:∃t,Ax a 1 x=t:=⟨_,rfl⟩;obtain ⟨y,l⟩:∃y,Af a n 1 x=y:=⟨_,rfl⟩;rw [j,l];have A:=Aa j;have B:=Aa l;clear j l;go_enter Tryz.func139,Tryz.ntmps139;go_wp2_with fail;refine (AG b g n d 1 x a _ (Ak.alloc h _) (r.O ((Ab.refl (fun _=>False) _).alloc _) (fun q=>q)) C).mono ?_;rw [A.o,B.o];rintro e E ⟨rfl,p,f⟩;have c:E.heap[w.heap.size]? =some (.cells #[.string {data:=#[]},.int .i64 0] 128 (0,0)):=by rw [f.block w.heap.size (by simp) (by omega)];exact heap_alloc_new w _
 have m:=Ar c 0;have o:=Ar c 1;have F:=fun i=>AE c i
 simp only [dM,dJ,dK] at m o;have D:=Ae c;have z:=Aa p;have u:=((Ab.refl (fun k=>k=b) w).alloc _).trans f;clear p f c h r;unfold Vy;go_wp2;refine bodyPost_ret (v:=Je t) (by simp [results,Tryz.results139,go_sem,Je,m,o,D]) rfl ⟨rfl,?_,?_⟩
 ·exact Ak.O (X:=fun k=>k=w.heap.size) z.o (by repeat (first | exact Ab.refl _ _ | refine Ab.drew ?_ | refine Ab.alloc ?_ _ | refine Ab.d8 ?_ _ _)) (by omega)
 ·repeat (first | exact u | refine Ab.drew ?_ | refine Ab.alloc ?_ _ | refine Ab.u9 ?_ _ _ (Nat.le_refl _))
def CJ(b:List PT):Nat→PS→List PT→List PT×PS
 | 0,x,a=>(a,x)
 | f+1,x,a=>if (Ag b x.next).kind=1 then CJ b f ⟨x.next+1,x.m8,x.aS⟩ (a++[Ag b x.next]) else (a,x)
theorem Fc{b f x a}(h:¬(Ag b x.next).kind=1):CJ b f x a=(a,x):=by
 cases f with
 | zero=>rfl
 | succ f=>simp only [CJ,if_neg h]
theorem Rv{a f n x acc}(g:n-1-x.next≤f)(d:x.next<n)(c:(Ag a (n-1)).kind=0)(h:(Ag a x.next).kind=1):
 x.next+1<n∧∃b,n-1-(x.next+1)≤b∧CJ a f x acc=CJ a b ⟨x.next+1,x.m8,x.aS⟩ (acc++[Ag a x.next]):=by
 have i:x.next≠n-1:=by intro e;rw [e,c] at h;omega
 refine ⟨by omega,?_⟩;cases f with
 | zero=>omega
 | succ f=>exact ⟨f,by omega,by simp only [CJ];rw [if_pos h]⟩
theorem AO{a n k x}(c:(Ag a (n-1)).kind=0)(b:x.next<n):(Af a n k x).next<n:=by
 unfold Af;split
 ·rename_i h;split
  ·exact b
  ·rename_i d;have f:x.next≠n-1:=by intro e;rw [e,c] at h;omega
   show x.next+1<n;omega
 ·show n-1<n;omega
theorem Rw{c:List PT}{n:Nat}(b:(Ag c (n-1)).kind=0):∀(f:Nat) (x:PS) (a:List PT),x.next<n→(CJ c f x a).2.next<n
 | 0,x,a,h=>h
 | f+1,x,a,h=>by
   simp only [CJ];split
   ·rename_i d;have g:x.next≠n-1:=by intro e;rw [e,b] at d;omega
    exact Rw b f _ _ (by show x.next+1<n;omega)
   ·exact h
def A6(a:List PT)(n:Nat)(x:PS):List PT×PS:=
 ((CJ a a.length (Af a n 10 x) []).1,Af a n 11 (CJ a a.length (Af a n 10 x) []).2)
theorem S8{b n x}(a:(Ag b (n-1)).kind=0)(c:x.next<n):(A6 b n x).2.next<n:=
 AO a (Rw a _ _ _ (AO a c))
def KP(b:Nat)(w:World):Nat:=match w.cell? ⟨b,1,none⟩ with | some v=>(intOf v).toNat | none=>0
theorem Ed{b g n a x w}(h:AR b g n a x w):KP b w=x.next:=by have:=Ar h 1;simp only [dM,dJ,dK] at this;simp [KP,this,intOf]
theorem Tryz.infoNm:(Tryz.prog.info? 128).map (fun i=>(i.zero,i.size,i.bytes))=some (some (.agg #[.string ByteArray.empty,.int .i64 0]),2,24):=by kernel_rfl
theorem Jd(b g n d x a w)(i:AR b g n d x w)(c:AZ g n d a w)(U:x.next<n)(N:(Ag a (n-1)).kind=0):
 Calls Tryz.prog 140 #[.pointer (some ⟨b,0,none⟩)] w fun e O=>∃v,e=.returned v∧O.ownsRow w.heap.size 128 2 v (A6 a n x).1.length (Bt (A6 a n x).1)∧AR b g n d (A6 a n x).2 O∧Ab (fun k=>k=b) w O:=by
 obtain ⟨i0,hi,b2,b3,b4⟩:=info_parts Tryz.infoNm;have hn:=c.2.2.1;have Z:=c.2.1;have Y:=c.ne i (by decide);have lr:=Ae i;have lg:=c.lt;have M:=AO (k:=10) N U;unfold A6;generalize T:CJ a a.length (Af a n 10 x) []=V;have L:dN (CJ a a.length (Af a n 10 x) []=V):=T;have HZ:=Aa N;have K:=Aa c;have a3:=Aa Z;have Q:=Aa i;clear T N c Z i;go_enter Tryz.func140,Tryz.ntmps140;go_wp2_with fail;refine (AG b g n d 10 x a _ Q.o K.o U).mono ?_;rintro e u ⟨rfl,p,l⟩;generalize Af a n 10 x=x1 at p L M;have D:=Aa p;have E:=Aa (K.o.O l Y);clear p Q K;go_wp2_with fail;go_loopw [3] (fun v wr=>∃(y:PS) (f:Nat) (o:List PT),y.next<n∧o.length≤y.next∧dN (AR b g n d y wr)∧dN (AZ g n d a wr)∧wr.ownsRow w.heap.size 128 2 v o.length (Bt o)∧Ab (fun k=>k=b) w wr∧n-1-y.next≤f∧dN (CJ a f y o=V)) (fun _ wr=>n-KP b wr)
 case atStart=>exact ⟨x1,a.length,[],M,by simp,D,E,World.ownsRow_nil _ _ _ _,l,by have:=a3.o;omega,L⟩
 case round=>
  obtain ⟨y,f,o,z,b5,i,c,H,F,hf,C⟩:=hrel;clear L D E l M;have a2:=Aa (Ed i.o);by_cases r:(Ag a y.next).kind=1
  ·have a4:(((Ag a y.next).kind:Int)==1)=true:=by simp [r]
   obtain ⟨a8,R,a6,W⟩:=Rv (acc:=o) hf z HZ.o r;have HF:dN (CJ a R ⟨y.next+1,y.m8,y.aS⟩ (o++[Ag a y.next])=V):=by rw [←W];exact C.o
   have P:dN (Ax a 1 y=Ag a y.next∧Af a n 1 y=⟨y.next+1,y.m8,y.aS⟩):=⟨by simp [Ax,r],by simp [Af,r]⟩;clear C W r;go_wp2_with fail;refine (AS b g n d y a _ i.o c.o z).mono ?_;rintro e wk ⟨rfl,m⟩;have J:=i.o.O m (fun q=>q);have A:=c.o.O m (fun q=>q);have t:=Ac H m (fun _ _ q=>q);have G:=F.bI m;clear i c H F m;go_wp2_with fail;refine (B7 b g n d y a _ J A z).mono ?_;rw [P.o.1,P.o.2];rintro e u ⟨rfl,p,l⟩;have I:=Ac t l (fun j s=>by have:=(t.lt j s).1;omega);have a0:=G.trans l;have D:=Aa p;have E:=Aa (A.O l Y);have b7:=a0.size;have b8:b<u.heap.size:=Ae p;clear p l J A t G;unfold Je;go_wp2_with (at_builtin;refine wpList_append_own _ rfl _ _ 129 rfl w.heap.size 128 i0 (.agg #[.string ByteArray.empty,.int .i64 0]) 2 24 Tryz.underlying129 hi b2 b3 b4 rfl (by decide) _ _ _ rfl (I.alloc _) ⟨u.heap.size,0,none⟩ 1 1 [.string (Ag a y.next).a9,.int .i64 ((Ag a y.next).c9:Int)] rfl rfl (A5 rfl _ _) (fun x hx=>by simp at hx;rcases hx with rfl | rfl<;>rfl) (by unfold maxLen;omega) (by omega) (by simp;omega) ?_;intro v' B b1 a7 b6);have X:(u.alloc (.cells #[.string (Ag a y.next).a9,.int .i64 ((Ag a y.next).c9:Int)] 128)).grownBy B u3.ownBlock:=a7;have a1:Ab (fun k=>u3.ownBlock=some k) u B:=Ab.grown ((Ab.refl _ _).alloc _) X (fun j s=>.inl s);have b0:Ab (fun k=>k=b) w B:=Ab.grown (a0.alloc _) X (fun j s=>.inr (I.lt j s).1);have S:AR b g n d ⟨y.next+1,y.m8,y.aS⟩ B:=Ak.O D.o a1 (fun h=>by have:=(I.lt _ h).1;omega);have a5:AZ g n d a B:=E.o.O a1 (fun h=>by have:=(I.lt _ h).1;omega);have a9:=Ed S;refine ⟨⟨⟨y.next+1,y.m8,y.aS⟩,R,o++[Ag a y.next],a8,by simp;omega,S,a5,?_,b0,a6,HF⟩,?_⟩
   ·rw [LC,List.length_append];exact b1
   ·rw [a9,a2.o];simp only;omega
  ·have a4:(((Ag a y.next).kind:Int)==1)=false:=by simp;omega
   have hv:V=(o,y):=by rw [←C.o,Fc r]
   subst hv;clear C r;go_wp2_with fail;refine (AS b g n d y a _ i.o c.o z).mono ?_;rintro e wk ⟨rfl,m⟩;have J:=i.o.O m (fun q=>q);have A:=c.o.O m (fun q=>q);have t:=Ac H m (fun _ _ q=>q);have G:=F.bI m;clear i c H F m;go_wp2_with fail;refine (AG b g n d 11 y a _ J A z).mono ?_;rintro e u ⟨rfl,p,l⟩;go_wp2_with fail;go_ret;refine ⟨_,rfl,?_,p,G.trans l⟩;exact Ac t l (fun j s=>by have:=(t.lt j s).1;omega)
theorem KL:Keyed Tryz.prog 9:=string_keyed Tryz.underlying9
theorem M8(w):(zeroValue 3).run Tryz.prog w=.ok (.int .i64 0) w:=by kernel_rfl
structure CS where
 aR:Nat
 c9:Nat
def BA(f p:Nat)(c:CS):CS:=if c.aR=0 then ⟨f,p⟩ else c
def Ci(b:Nat)(a:Value)(f:Int)(d e:Value)(c:CS)(w:World):Prop:=Ak b #[a,.int .i64 f,d,e,.int .i64 c.aR,.int .i64 c.c9] 162 w
def Ba(s:ByteArray):Lit:=.string s.data.toList
def A7(b n:Nat)(D:DataW Unit)(w:World):Prop:=w.ownsMap Tryz.prog 9 (plainElem Tryz.prog 3) b n D
theorem BK(b f p:Nat)(j:Value)(n:Int)(l m:Value)(c:CS)(w:World)(d:Ci b j n l m c w):
 Calls Tryz.prog 75 #[.pointer (some ⟨b,0,none⟩),.int .i64 f,.int .i64 p] w fun e o=>e=.returned (.tuple #[])∧Ci b j n l m (BA f p c) o∧Ab (fun k=>k=b) w o:=by
 have r:=Ar d 4;have s:=Ar d 5;have t:=fun i=>AE d i
 simp only [dM,dJ,dK] at r s;have u:=Ae d;have h:=Aa d;clear d;by_cases a:c.aR=0
 ·have g:BA f p c=⟨f,p⟩:=by simp [BA,a]
  rw [g];have q:((c.aR:Int)==0)=true:=by simp [a]
  clear g a;go_enter Tryz.func75,Tryz.ntmps75;go_wp2;go_end0;refine ⟨rfl,?_,?_⟩
  ·have:=(Ak.set (w:=w) h.o 4 (.int .i64 f)).set 5 (.int .i64 p);simpa [Ci] using this
  ·exact ((Ab.refl _ _).d8 4 _).d8 5 _
 ·have g:BA f p c=c:=by simp [BA,a]
  rw [g];have q:((c.aR:Int)==0)=false:=by simp [a]
  clear g a;go_enter Tryz.func75,Tryz.ntmps75;go_wp2;go_end0;exact ⟨rfl,h.o,Ab.refl _ _⟩
theorem Ik{s}(a:s.size≤4000):keyOf Tryz.prog 9 (.string s)=some (Ba s):=WideMaps.keyOf_string_mk Tryz.underlying9 (by unfold maxLen;omega)
theorem Ep{m n D w s}(h:A7 m n D w)(d:s.size≤4000):
 ∃z:Int,(Instr.lookup 123 (.map (some m)) (.string s) true).run Tryz.prog w=.ok (.tuple #[.int .i64 z,.bool (Maps.has D (Ba s))]) w∧D.atKey (Ba s) (.lit (.int .i64 0))=.lit (.int .i64 z)∧(Lit.int .i64 z).wf=true:=by
 obtain ⟨v,i,e,f⟩:=World.ownsMap.look_ok h KL Tryz.underlying123 (M8 w) (plainElem_int Tryz.underlying3 (a:=0) (by decide)) (Ik d);obtain ⟨c,rfl,b,g⟩:=plainElem_int_inv Tryz.underlying3 f;exact ⟨c,e,congrArg Prod.fst b,g⟩
theorem A7.O{m n D}{X:Nat→Prop}{w b}(h:A7 m n D w)(e:Ab X w b)(f:¬X m):A7 m n D b:=by obtain ⟨d,c,a,r⟩:=h;exact ⟨d,c,by rw [e.block m (lt_of_block a) f];exact a,r⟩
theorem A7.ne{m n b D w}(h:A7 m n D w){c t d}(a:w.heap[b]? =some (.cells c t d)):m≠b:=by obtain ⟨g,f,e,r⟩:=h;rintro rfl;rw [e] at a;cases a
def B6(D:DataW Unit)(t:PT)(c:CS):CS:=if Maps.has D (Ba t.a9) then c else BA 6 t.c9 c
theorem D8(b g i h m n D c t w)(f:Ci b g i h (.map (some m)) c w)(l:A7 m n D w)(r:t.a9.size≤4000):
 Calls Tryz.prog 163 #[.pointer (some ⟨b,0,none⟩),Je t] w fun e p=>e=.returned (.tuple #[])∧Ci b g i h (.map (some m)) (B6 D t c) p∧Ab (fun k=>k=b) w p:=by
 have v:=Ar f 3;simp only [dM,dJ,dK] at v;have x:=Ae f;obtain ⟨z,o,_,_⟩:=Ep (w:=(w.alloc (.cells #[.string t.a9,.int .i64 t.c9] 128)).drew) (l.O (((Ab.refl (fun _=>False) w).alloc _).drew) (fun q=>q)) r;have j:=Aa f;clear f l;unfold Je;cases a:Maps.has D (Ba t.a9) with
 | true=>
   rw [a] at o;have d:B6 D t c=c:=by simp [B6,a]
   rw [d];clear d a;go_enter Tryz.func163,Tryz.ntmps163;go_wp2;go_region;go_wp2;go_end0;exact ⟨rfl,j.o.O (((Ab.refl (fun _=>False) w).alloc _).drew) (fun q=>q),((Ab.refl _ w).alloc _).drew⟩
 | false=>
   rw [a] at o;have d:B6 D t c=BA 6 t.c9 c:=by simp [B6,a]
   rw [d];clear d a;go_enter Tryz.func163,Tryz.ntmps163;go_wp2;go_region;go_wp2_with (go_at_call 75;refine (BK b 6 t.c9 g i h (.map (some m)) c _ (j.o.O (((Ab.refl (fun _=>False) w).alloc _).drew) (fun q=>q))).mono ?_);rintro e y ⟨rfl,u,s⟩;go_wp2;go_end0;exact ⟨rfl,u,(((Ab.refl _ w).alloc _).drew).trans s⟩
end Go.Proofs.YtegmjgjkcdbmkaaGreatDoor

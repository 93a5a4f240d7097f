/- One of the texts of the proof of runs_card_holds: LexF RdD RdE RdI. -/
import Derived.Test.YthppbgndiplgnaaGreatDoorG07
set_option maxRecDepth 100000
set_option maxHeartbeats 2000000
namespace Go.Proofs.YthppbgndiplgnaaGreatDoor
open Go.RowKit
theorem Tryz.infoTk:(Tryz.prog.info? 64).map (fun i=>(i.zero,i.size,i.bytes))=some (some (.agg #[.string ByteArray.empty,.int .i64 0,.int .i64 0]),3,32):=by kernel_rfl
theorem Kb(w:World)(a b c:Value)(t:TypeId):∀j u,[a,b,c][j]? =some u→(w.alloc (.cells #[a,b,c] t)).cell? ((⟨w.heap.size,0,none⟩:Addr).add j)=some u:=by
 intro j u h;rcases j with _ | _ | _ | j
 ·simp at h;subst h;simp [Addr.add]
 ·simpa [Addr.add] using h
 ·simpa [Addr.add] using h
 ·simp at h
theorem C5{w:World}{g:Nat}(d:g=w.heap.size)(a b c:Value)(t:TypeId):∀j u,[a,b,c][j]? =some u→(w.alloc (.cells #[a,b,c] t)).cell? ((⟨g,0,none⟩:Addr).add j)=some u:=by subst d;exact Kb w a b c t
def Wm(w:World)(s:ByteArray)(V:Nat ⊕ List Tk)(e:Ending)(a:World):Prop:=
 match V with
 | .inl p=>e=.returned (.tuple #[.slice none 0 0,.int .i64 p,.bool false])∧Below w.heap.size w a
 | .inr l=>∃v,e=.returned (.tuple #[v,.int .i64 0,.bool true])∧a.ownsRow w.heap.size 64 3 v (l.length+1) (BC (l++[⟨ByteArray.empty,s.size,0⟩]))∧Below w.heap.size w a
theorem Fl(s)(q:s.size≤4000)(w):
 Calls Tryz.prog 12 #[.string s] w fun e b=>Wm w s (Bz s s.size 0 []) e b:=by
 obtain ⟨R,N,O,P,Q⟩:=info_parts Tryz.infoTk;generalize hV:Bz s s.size 0 []=V;have Y:dJ (Bz s s.size 0 []=V):=hV;clear hV;go_enter Tryz.func12,Tryz.ntmps12;go_wp2;go_loopw [5,6] (fun v j wr=>∃(k f:Nat) (c:List Tk),k≤s.size∧c.length≤k∧j=.int .i64 k∧wr.ownsRow w.heap.size 64 3 v c.length (BC c)∧Below w.heap.size w wr∧s.size-k≤f∧dJ (Bz s f k c=V)) (fun _ j _=>s.size-(intOf j).toNat)
 case atStart=>exact ⟨0,s.size,[],by omega,by simp,rfl,bE _ _ _ _,Below.refl _ _,by omega,Y⟩
 case round=>
  obtain ⟨k,f,c,K,a2,rfl,r,d,C,i⟩:=hrel;clear Y;by_cases h:k<s.size
  ·have b0:=EK s k h;by_cases l:(A8 s k).2=0
   ·have G:V=.inl k:=by rw [←i.o,Dm (p:=k) C h (by unfold Bf;rw [cU l])]
    subst G;have a1:(((A8 s k).2:Int)==0)=true:=by simp [l]
    clear i l;go_wp2_with (first | (go_at_call 27;refine (BH _ _ ?_ ?_ _).mono ?_;exact h;exact q;rintro e b ⟨rfl,a⟩;have a:=a.symm;subst a) | (go_at_call 28;refine (Bv _ _).mono ?_;rintro e b ⟨rfl,a⟩;have a:=a.symm;subst a) | (go_at_call 29;refine (C3 _ _).mono ?_;rintro e b ⟨rfl,a⟩;have a:=a.symm;subst a));go_ret3;exact ⟨rfl,d⟩
   ·have a1:(((A8 s k).2:Int)==0)=false:=by simp [l]
    by_cases g:(A8 s k).1=32∨(A8 s k).1=9∨(A8 s k).1=10
    ·obtain ⟨m,z,o⟩:=CI (acc:=c) C h (t:=none) (j:=k+1) (by unfold Bf;rw [cT l,cU g]);have y:dJ (Bz s m (k+1) c=V):=by rw [show c=c++(none:Option Tk).toList from by simp,←o];exact i.o
     clear i o;rcases g with g | g | g
     ·have W:(((A8 s k).1:Int)==32)=true:=by simp [g]
      clear g;go_wp2_with (first | (go_at_call 27;refine (BH _ _ ?_ ?_ _).mono ?_;exact h;exact q;rintro e b ⟨rfl,a⟩;have a:=a.symm;subst a) | (go_at_call 28;refine (Bv _ _).mono ?_;rintro e b ⟨rfl,a⟩;have a:=a.symm;subst a) | (go_at_call 29;refine (C3 _ _).mono ?_;rintro e b ⟨rfl,a⟩;have a:=a.symm;subst a));go_roundw
      case rel=>exact ⟨k+1,m,c,by omega,by omega,by go_num,r,d,z,y⟩
      case measure=>simp [intOf];omega
     ·have W:(((A8 s k).1:Int)==32)=false:=by simp [g]
      have Z:(((A8 s k).1:Int)==9)=true:=by simp [g]
      clear g;go_wp2_with (first | (go_at_call 27;refine (BH _ _ ?_ ?_ _).mono ?_;exact h;exact q;rintro e b ⟨rfl,a⟩;have a:=a.symm;subst a) | (go_at_call 28;refine (Bv _ _).mono ?_;rintro e b ⟨rfl,a⟩;have a:=a.symm;subst a) | (go_at_call 29;refine (C3 _ _).mono ?_;rintro e b ⟨rfl,a⟩;have a:=a.symm;subst a));go_roundw
      case rel=>exact ⟨k+1,m,c,by omega,by omega,by go_num,r,d,z,y⟩
      case measure=>simp [intOf];omega
     ·have W:(((A8 s k).1:Int)==32)=false:=by simp [g]
      have Z:(((A8 s k).1:Int)==9)=false:=by simp [g]
      have e3:(((A8 s k).1:Int)==10)=true:=by simp [g]
      clear g;go_wp2_with (first | (go_at_call 27;refine (BH _ _ ?_ ?_ _).mono ?_;exact h;exact q;rintro e b ⟨rfl,a⟩;have a:=a.symm;subst a) | (go_at_call 28;refine (Bv _ _).mono ?_;rintro e b ⟨rfl,a⟩;have a:=a.symm;subst a) | (go_at_call 29;refine (C3 _ _).mono ?_;rintro e b ⟨rfl,a⟩;have a:=a.symm;subst a));go_roundw
      case rel=>exact ⟨k+1,m,c,by omega,by omega,by go_num,r,d,z,y⟩
      case measure=>simp [intOf];omega
    ·have W:(((A8 s k).1:Int)==32)=false:=by simp;omega
     have Z:(((A8 s k).1:Int)==9)=false:=by simp;omega
     have e3:(((A8 s k).1:Int)==10)=false:=by simp;omega
     by_cases n:(A8 s k).1=35
     ·have e4:(((A8 s k).1:Int)==35)=true:=by simp [n]
      have a5:=Kg s s.size k K;by_cases T:(Fp s s.size k).2=true
      ·have X:Bf s k=.inr (none,(Fp s s.size k).1):=by unfold Bf;rw [cT l,cT g,cU n,cU T]
       have a3:=Gx h X;obtain ⟨m,z,o⟩:=CI (acc:=c) C h X;have y:dJ (Bz s m (Fp s s.size k).1 c=V):=by rw [show c=c++(none:Option Tk).toList from by simp,←o];exact i.o
       clear i o X n g l;go_wp2_with (first | (go_at_call 27;refine (BH _ _ ?_ ?_ _).mono ?_;exact h;exact q;rintro e b ⟨rfl,a⟩;have a:=a.symm;subst a) | (go_at_call 28;refine (Bv _ _).mono ?_;rintro e b ⟨rfl,a⟩;have a:=a.symm;subst a) | (go_at_call 29;refine (C3 _ _).mono ?_;rintro e b ⟨rfl,a⟩;have a:=a.symm;subst a) | (go_at_call 30;refine (Jn s k s.size ?_ ?_ ?_ _).mono ?_;exact K;exact q;omega;rintro e b ⟨rfl,a⟩;have a:=a.symm;subst a));go_roundw
       case rel=>exact ⟨(Fp s s.size k).1,m,c,by omega,by omega,by go_num,r,d,z,y⟩
       case measure=>simp [intOf];omega
      ·have G:V=.inl (Fp s s.size k).1:=by rw [←i.o,Dm (p:=(Fp s s.size k).1) C h (by unfold Bf;rw [cT l,cT g,cU n,cT T])]
       subst G;have a4:(Fp s s.size k).2=false:=by simpa using T
       clear i n g l T;go_wp2_with (first | (go_at_call 27;refine (BH _ _ ?_ ?_ _).mono ?_;exact h;exact q;rintro e b ⟨rfl,a⟩;have a:=a.symm;subst a) | (go_at_call 28;refine (Bv _ _).mono ?_;rintro e b ⟨rfl,a⟩;have a:=a.symm;subst a) | (go_at_call 29;refine (C3 _ _).mono ?_;rintro e b ⟨rfl,a⟩;have a:=a.symm;subst a) | (go_at_call 30;refine (Jn s k s.size ?_ ?_ ?_ _).mono ?_;exact K;exact q;omega;rintro e b ⟨rfl,a⟩;have a:=a.symm;subst a));go_ret3;exact ⟨rfl,d⟩
     ·have e4:(((A8 s k).1:Int)==35)=false:=by simp;omega
      by_cases B:Gj (A8 s k).1=true
      ·have b3:=H4 s s.size k 0 K;have b2:=Mu h l B;by_cases M:Tc (s.extract k (Di s s.size k 0).1).toList=true
       ·obtain ⟨m,z,o⟩:=CI (acc:=c) C h (t:=some ⟨s.extract k (Di s s.size k 0).1,k,2⟩) (j:=(Di s s.size k 0).1) (by unfold Bf;rw [cT l,cT g,cT n,cU B,cU M]);have y:dJ (Bz s m (Di s s.size k 0).1 (c++[⟨s.extract k (Di s s.size k 0).1,k,2⟩])=V):=by rw [show [(⟨s.extract k (Di s s.size k 0).1,k,2⟩:Tk)]=(some (⟨s.extract k (Di s s.size k 0).1,k,2⟩:Tk)).toList from by simp,←o];exact i.o
        clear i o n g l;go_wp2_with (first | (go_at_call 27;refine (BH _ _ ?_ ?_ _).mono ?_;exact h;exact q;rintro e b ⟨rfl,a⟩;have a:=a.symm;subst a) | (go_at_call 28;refine (Bv _ _).mono ?_;rintro e b ⟨rfl,a⟩;have a:=a.symm;subst a) | (go_at_call 29;refine (C3 _ _).mono ?_;rintro e b ⟨rfl,a⟩;have a:=a.symm;subst a) | (go_at_call 31;refine (Lr s k s.size ?_ ?_ ?_ _).mono ?_;exact K;exact q;omega;rintro e b ⟨rfl,a⟩;have a:=a.symm;subst a) | (go_at_call 32;refine (Gu _ _).mono ?_;rintro e b ⟨rfl,a⟩;have a:=a.symm;subst a) | (at_builtin;refine cD _ rfl _ _ 29 rfl w.heap.size 64 R (.agg #[.string ByteArray.empty,.int .i64 0,.int .i64 0]) 3 32 Tryz.underlying29 N O P Q rfl (by decide) _ _ _ rfl ((r.alloc _).alloc _) ⟨wr.heap.size+1,0,none⟩ 1 1 [.string (s.extract k (Di s s.size k 0).1),.int .i64 (k:Int),.int .i64 2] rfl rfl (C5 (by simp) _ _ _ _) (fun x u=>by simp at u;rcases u with rfl | rfl | rfl<;>rfl) (by unfold maxLen;omega) (by omega) (by have:=d.size;simp;omega) ?_;intro S H F A J));have D:Below w.heap.size w H:=Below.grown ((d.alloc d.size _).alloc (by have:=d.size;simp;omega) _) A (by have:=d.size;simp;omega) (fun j E=>(r.lt j E).1);clear A J;go_wp2;go_roundw
        case rel=>exact ⟨(Di s s.size k 0).1,m,c++[⟨s.extract k (Di s s.size k 0).1,k,2⟩],by omega,by simp;omega,by go_num,by rw [C8,aZ];exact F,D,z,y⟩
        case measure=>simp [intOf];omega
       ·have a8:Tc (s.extract k (Di s s.size k 0).1).toList=false:=by simpa using M
        by_cases a0:8<(Di s s.size k 0).2
        ·have G:V=.inl k:=by rw [←i.o,Dm (p:=k) C h (by unfold Bf;rw [cT l,cT g,cT n,cU B,cT M,cU a0])]
         subst G;clear i n g l M;go_wp2_with (first | (go_at_call 27;refine (BH _ _ ?_ ?_ _).mono ?_;exact h;exact q;rintro e b ⟨rfl,a⟩;have a:=a.symm;subst a) | (go_at_call 28;refine (Bv _ _).mono ?_;rintro e b ⟨rfl,a⟩;have a:=a.symm;subst a) | (go_at_call 29;refine (C3 _ _).mono ?_;rintro e b ⟨rfl,a⟩;have a:=a.symm;subst a) | (go_at_call 31;refine (Lr s k s.size ?_ ?_ ?_ _).mono ?_;exact K;exact q;omega;rintro e b ⟨rfl,a⟩;have a:=a.symm;subst a) | (go_at_call 32;refine (Gu _ _).mono ?_;rintro e b ⟨rfl,a⟩;have a:=a.symm;subst a));go_ret3;exact ⟨rfl,d.alloc d.size _⟩
        ·obtain ⟨m,z,o⟩:=CI (acc:=c) C h (t:=some ⟨s.extract k (Di s s.size k 0).1,k,1⟩) (j:=(Di s s.size k 0).1) (by unfold Bf;rw [cT l,cT g,cT n,cU B,cT M,cT a0]);have y:dJ (Bz s m (Di s s.size k 0).1 (c++[⟨s.extract k (Di s s.size k 0).1,k,1⟩])=V):=by rw [show [(⟨s.extract k (Di s s.size k 0).1,k,1⟩:Tk)]=(some (⟨s.extract k (Di s s.size k 0).1,k,1⟩:Tk)).toList from by simp,←o];exact i.o
         clear i o n g l M;go_wp2_with (first | (go_at_call 27;refine (BH _ _ ?_ ?_ _).mono ?_;exact h;exact q;rintro e b ⟨rfl,a⟩;have a:=a.symm;subst a) | (go_at_call 28;refine (Bv _ _).mono ?_;rintro e b ⟨rfl,a⟩;have a:=a.symm;subst a) | (go_at_call 29;refine (C3 _ _).mono ?_;rintro e b ⟨rfl,a⟩;have a:=a.symm;subst a) | (go_at_call 31;refine (Lr s k s.size ?_ ?_ ?_ _).mono ?_;exact K;exact q;omega;rintro e b ⟨rfl,a⟩;have a:=a.symm;subst a) | (go_at_call 32;refine (Gu _ _).mono ?_;rintro e b ⟨rfl,a⟩;have a:=a.symm;subst a) | (at_builtin;refine cD _ rfl _ _ 29 rfl w.heap.size 64 R (.agg #[.string ByteArray.empty,.int .i64 0,.int .i64 0]) 3 32 Tryz.underlying29 N O P Q rfl (by decide) _ _ _ rfl ((r.alloc _).alloc _) ⟨wr.heap.size+1,0,none⟩ 1 1 [.string (s.extract k (Di s s.size k 0).1),.int .i64 (k:Int),.int .i64 1] rfl rfl (C5 (by simp) _ _ _ _) (fun x u=>by simp at u;rcases u with rfl | rfl | rfl<;>rfl) (by unfold maxLen;omega) (by omega) (by have:=d.size;simp;omega) ?_;intro S H F A J));have D:Below w.heap.size w H:=Below.grown ((d.alloc d.size _).alloc (by have:=d.size;simp;omega) _) A (by have:=d.size;simp;omega) (fun j E=>(r.lt j E).1);clear A J;go_wp2;go_roundw
         case rel=>exact ⟨(Di s s.size k 0).1,m,c++[⟨s.extract k (Di s s.size k 0).1,k,1⟩],by omega,by simp;omega,by go_num,by rw [C8,aZ];exact F,D,z,y⟩
         case measure=>simp [intOf];omega
      ·have a9:Gj (A8 s k).1=false:=by simpa using B
       by_cases I:48≤(A8 s k).1∧(A8 s k).1≤51
       ·have a6:48≤(A8 s k).1:=I.1;have a7:(A8 s k).1≤51:=I.2;obtain ⟨m,z,o⟩:=CI (acc:=c) C h (t:=some ⟨s.extract k (k+1),k,3⟩) (j:=k+1) (by unfold Bf;rw [cT l,cT g,cT n,cT B,cU I]);have y:dJ (Bz s m (k+1) (c++[⟨s.extract k (k+1),k,3⟩])=V):=by rw [show [(⟨s.extract k (k+1),k,3⟩:Tk)]=(some (⟨s.extract k (k+1),k,3⟩:Tk)).toList from by simp,←o];exact i.o
        clear i o n g l B I;go_wp2_with (first | (go_at_call 27;refine (BH _ _ ?_ ?_ _).mono ?_;exact h;exact q;rintro e b ⟨rfl,a⟩;have a:=a.symm;subst a) | (go_at_call 28;refine (Bv _ _).mono ?_;rintro e b ⟨rfl,a⟩;have a:=a.symm;subst a) | (go_at_call 29;refine (C3 _ _).mono ?_;rintro e b ⟨rfl,a⟩;have a:=a.symm;subst a) | (at_builtin;refine cD _ rfl _ _ 29 rfl w.heap.size 64 R (.agg #[.string ByteArray.empty,.int .i64 0,.int .i64 0]) 3 32 Tryz.underlying29 N O P Q rfl (by decide) _ _ _ rfl (r.alloc _) ⟨wr.heap.size,0,none⟩ 1 1 [.string (s.extract k (k+1)),.int .i64 (k:Int),.int .i64 3] rfl rfl (C5 (by simp) _ _ _ _) (fun x u=>by simp at u;rcases u with rfl | rfl | rfl<;>rfl) (by unfold maxLen;omega) (by omega) (by have:=d.size;simp;omega) ?_;intro S H F A J));have D:Below w.heap.size w H:=Below.grown (d.alloc d.size _) A (by have:=d.size;simp;omega) (fun j E=>(r.lt j E).1);clear A J;go_wp2;go_roundw
        case rel=>exact ⟨k+1,m,c++[⟨s.extract k (k+1),k,3⟩],by omega,by simp;omega,by go_num,by rw [C8,aZ];exact F,D,z,y⟩
        case measure=>simp [intOf];omega
       ·have L:(A8 s k).1<48∨51<(A8 s k).1:=by omega
        by_cases U:GD (A8 s k).1=true
        ·obtain ⟨m,z,o⟩:=CI (acc:=c) C h (t:=some ⟨s.extract k (k+1),k,4⟩) (j:=k+1) (by unfold Bf;rw [cT l,cT g,cT n,cT B,cT I,cU U]);have y:dJ (Bz s m (k+1) (c++[⟨s.extract k (k+1),k,4⟩])=V):=by rw [show [(⟨s.extract k (k+1),k,4⟩:Tk)]=(some (⟨s.extract k (k+1),k,4⟩:Tk)).toList from by simp,←o];exact i.o
         clear i o n g l B I;rcases L with L | L
         all_goals
          go_wp2_with (first | (go_at_call 27;refine (BH _ _ ?_ ?_ _).mono ?_;exact h;exact q;rintro e b ⟨rfl,a⟩;have a:=a.symm;subst a) | (go_at_call 28;refine (Bv _ _).mono ?_;rintro e b ⟨rfl,a⟩;have a:=a.symm;subst a) | (go_at_call 29;refine (C3 _ _).mono ?_;rintro e b ⟨rfl,a⟩;have a:=a.symm;subst a) | (at_builtin;refine cD _ rfl _ _ 29 rfl w.heap.size 64 R (.agg #[.string ByteArray.empty,.int .i64 0,.int .i64 0]) 3 32 Tryz.underlying29 N O P Q rfl (by decide) _ _ _ rfl (r.alloc _) ⟨wr.heap.size,0,none⟩ 1 1 [.string (s.extract k (k+1)),.int .i64 (k:Int),.int .i64 4] rfl rfl (C5 (by simp) _ _ _ _) (fun x u=>by simp at u;rcases u with rfl | rfl | rfl<;>rfl) (by unfold maxLen;omega) (by omega) (by have:=d.size;simp;omega) ?_;intro S H F A J));have D:Below w.heap.size w H:=Below.grown (d.alloc d.size _) A (by have:=d.size;simp;omega) (fun j E=>(r.lt j E).1);clear A J;go_wp2;go_roundw
          case rel=>exact ⟨k+1,m,c++[⟨s.extract k (k+1),k,4⟩],by omega,by simp;omega,by go_num,by rw [C8,aZ];exact F,D,z,y⟩
          case measure=>simp [intOf];omega
        ·have G:V=.inl k:=by rw [←i.o,Dm (p:=k) C h (by unfold Bf;rw [cT l,cT g,cT n,cT B,cT I,cT U])]
         subst G;have b1:GD (A8 s k).1=false:=by simpa using U
         clear i n g l B I U;rcases L with L | L
         all_goals
          go_wp2_with (first | (go_at_call 27;refine (BH _ _ ?_ ?_ _).mono ?_;exact h;exact q;rintro e b ⟨rfl,a⟩;have a:=a.symm;subst a) | (go_at_call 28;refine (Bv _ _).mono ?_;rintro e b ⟨rfl,a⟩;have a:=a.symm;subst a) | (go_at_call 29;refine (C3 _ _).mono ?_;rintro e b ⟨rfl,a⟩;have a:=a.symm;subst a));go_ret3;exact ⟨rfl,d⟩
  ·have G:V=.inr c:=by rw [←i.o,FQ h]
   subst G;clear i;go_wp2_with ((at_builtin;refine cD _ rfl _ _ 29 rfl w.heap.size 64 R (.agg #[.string ByteArray.empty,.int .i64 0,.int .i64 0]) 3 32 Tryz.underlying29 N O P Q rfl (by decide) _ _ _ rfl (r.alloc _) ⟨wr.heap.size,0,none⟩ 1 1 [.string ByteArray.empty,.int .i64 (s.size:Int),.int .i64 0] rfl rfl (C5 (by simp) _ _ _ _) (fun x u=>by simp at u;rcases u with rfl | rfl | rfl<;>rfl) (by unfold maxLen;omega) (by omega) (by have:=d.size;simp;omega) ?_;intro S H F A J));have D:Below w.heap.size w H:=Below.grown (d.alloc d.size _) A (by have:=d.size;simp;omega) (fun j E=>(r.lt j E).1);go_wp2;go_ret3;exact ⟨S,rfl,by rw [C8];exact F,D⟩
def DK(d:List Tk):Nat→Nat→Option Nat→List Tk→List Tk×Nat×Option Nat
 | 0,a,b,c=>(c,a,b)
 | f+1,a,b,c=>if b=none∧(Ai d a).sort=1 then DK d f (a+1) b (c++[Ai d a]) else (c,a,b)
theorem Fz{d f b a c}(h:¬(a=none∧(Ai d b).sort=1)):DK d f b a c=(c,b,a):=by
 cases f with
 | zero=>rfl
 | succ f=>simp only [DK,cT h]
theorem QR{b f a n c acc}(i:n-1-a≤f)(g:a<n)(e:(Ai b (n-1)).sort=0)(h:c=none∧(Ai b a).sort=1):
 a+1<n∧∃d,n-1-(a+1)≤d∧DK b f a c acc=DK b d (a+1) c (acc++[Ai b a]):=by
 have j:a≠n-1:=by rintro rfl;rw [e] at h;omega
 refine ⟨by omega,?_⟩;cases f with
 | zero=>omega
 | succ f=>exact ⟨f,by omega,by simp only [DK];rw [cU h]⟩
theorem NU{d:List Tk}{n:Nat}(e:(Ai d (n-1)).sort=0):∀(f a:Nat) (b:Option Nat) (c:List Tk),a<n→a≤(DK d f a b c).2.1∧(DK d f a b c).2.1<n∧(DK d f a b c).2.2=b
 | 0,a,b,c,h=>by unfold DK;exact ⟨aV _,h,rfl⟩
 | f+1,a,b,c,h=>by
   simp only [DK];split
   ·rename_i g;have i:a≠n-1:=by rintro rfl;rw [e] at g;omega
    have:=NU e f (a+1) b (c++[Ai d a]) (by omega);exact ⟨by omega,this.2⟩
   ·exact ⟨aV _,h,rfl⟩
def Mi(a:Nat)(w:World):Nat:=match w.cell? ⟨a,1,none⟩ with | some v=>(intOf v).toNat | none=>0
theorem KU{b e g n d a c w}(h:AM b e g n d a c w):Mi b w=a:=by have:=Ao h 1;simp only [aU,aS,aT] at this;simp [Mi,this,intOf]
def CW(a:List Tk)(c:Nat)(b:Option Nat):List Tk×Nat×Option Nat:=
 ((DK a a.length c b []).1,EN a (DK a a.length c b []).2.1 (DK a a.length c b []).2.2 [41])
theorem NS(c s g n d q o a w)(l:AM c s g n d q o w)(m:AP g n d a w)(hc:q<n)(hz:(Ai a (n-1)).sort=0):
 Calls Tryz.prog 35 #[.pointer (some ⟨c,0,none⟩)] w fun e J=>∃v,e=.returned v∧J.ownsRow w.heap.size 64 3 v (CW a q o).1.length (BC (CW a q o).1)∧AM c s g n d (CW a q o).2.1 (CW a q o).2.2 J∧Ab (fun k=>k=c) w J:=by
 obtain ⟨i0,hi,b1,b2,b3⟩:=info_parts Tryz.infoTk;have hn:=m.2.2;have Y:=m.2.1;have a8:=m.ne l (by decide);have lr:=Ae l;have lg:g<w.heap.size:=(m.1.lt g rfl).2;unfold CW;generalize S:DK a a.length q o []=V;have P:dJ (DK a a.length q o []=V):=S;have HZ:dJ ((Ai a (n-1)).sort=0):=hz;have K:dJ (AM c s g n d q o w):=l;have N:dJ (AP g n d a w):=m;have a2:dJ (n=a.length):=Y;clear S hz l m Y;go_enter Tryz.func35,Tryz.ntmps35;go_wp2;go_loopw [3] (fun v wr=>∃(k f:Nat) (i:List Tk),k<n∧i.length≤k∧dJ (AM c s g n d k o wr)∧dJ (AP g n d a wr)∧wr.ownsRow w.heap.size 64 3 v i.length (BC i)∧Ab (fun k=>k=c) w wr∧n-1-k≤f∧dJ (DK a f k o i=V)) (fun _ wr=>n-Mi c wr)
 case atStart=>exact ⟨q,a.length,[],hc,by simp,K,N,bE _ _ _ _,Ab.refl _ _,by have:=a2.o;omega,P⟩
 case round=>
  obtain ⟨k,f,i,C,b5,l,m,u,G,hf,z⟩:=hrel;clear P K N;obtain ⟨t0,t1,t2⟩:=m.o.cells C;have r0:=Ao l.o 0;have r1:=Ao l.o 1;have F:=Ao l.o 2;simp only [aU,aS,aT] at r0 r1 F;have T:=KU l.o;have a0:dJ (Mi c wr=k):=T;clear T;cases o with
  | some b=>
    simp only [Fv] at F;have hb:decide ((b:Int)<0)=false:=by simp
    have I:V=(i,k,some b):=by rw [←z.o,Fz (by simp)]
    subst I;clear z;go_wp2_with fail;go_quiet (fail);go_wp2_with fail;refine (Ik c s g n d k (some b) a _ [41] (by simp) (wr.drewN nq) l.o m.o C).mono ?_;rintro e t ⟨rfl,y,r⟩;go_wp2_with fail;go_ret;refine ⟨_,rfl,?_,y,(G.drewN nq).trans r⟩;exact Ac (w:=wr.drewN nq) u r (fun j p=>by have:=(u.lt j p).1;omega)
  | none=>
    simp only [Fv] at F;by_cases B:(Ai a k).sort=1
    ·have R:(((Ai a k).sort:Int)==1)=true:=by simp [B]
     obtain ⟨a7,Q,a5,U⟩:=QR (acc:=i) hf C HZ.o ⟨rfl,B⟩;have HF:dJ (DK a Q (k+1) none (i++[Ai a k])=V):=by rw [←U];exact z.o
     have HG:dJ (Dg a k none 1=(Ai a k,k+1,none)):=by show _=_;simp [Dg,B]
     clear z U B;go_wp2_with fail;go_quiet (fail);go_wp2_with fail;refine (JR c s g n d k 1 none a (wr.drewN nq) l.o m.o C).mono ?_;rw [HG.o];rintro e t ⟨rfl,y,r⟩;have D:=Ac (w:=wr.drewN nq) u r (fun j p=>by have:=(u.lt j p).1;omega);have H:=(G.drewN nq).trans r;have L:dJ (AM c s g n d (k+1) none t):=y;have O:dJ (AP g n d a t):=(AP.f8 (w:=wr.drewN nq) m.o r a8);have b6:=H.size;have b4:c<t.heap.size:=Ae y;clear y r t0 t1 t2 r0 r1 F l m R;unfold HJ;go_wp2_with (at_builtin;refine cD _ rfl _ _ 29 rfl w.heap.size 64 i0 (.agg #[.string ByteArray.empty,.int .i64 0,.int .i64 0]) 3 32 Tryz.underlying29 hi b1 b2 b3 rfl (by decide) _ _ _ rfl ((D.alloc _).alloc _) ⟨t.heap.size+1,0,none⟩ 1 1 [.string (Ai a k).i6,.int .i64 ((Ai a k).pos:Int),.int .i64 ((Ai a k).sort:Int)] rfl rfl (C5 (by simp) _ _ _ _) (fun x hx=>by simp at hx;rcases hx with rfl | rfl | rfl<;>rfl) (by unfold maxLen;omega) (by omega) (by simp;omega) ?_;intro v' A Z E a9);have b0:Ab (fun k=>k=c) w A:=Ab.grown ((H.alloc _).alloc _) E (fun j p=>.inr (D.lt j p).1);have W:∀j,j<t.heap.size→some j≠u3.ownBlock→A.heap[j]? =t.heap[j]? :=fun j p a6=>(E.block j (by simp;omega) a6).trans ((bF _ _ _ (by simp;omega)).trans (bF _ _ _ p))
     have M:dJ (AM c s g n d (k+1) none A):=by show _=_;rw [W c b4 (fun h=>by have:=(D.lt _ h.symm).1;omega)];exact L.o
     have a4:dJ (AP g n d a A):=by refine AP.f8 (w:=t) (X:=fun j=>u3.ownBlock=some j) O.o ?_ (fun h=>by have:=(D.lt _ h).1;omega);exact Ab.grown (((Ab.refl _ _).alloc _).alloc _) E (fun j p=>.inl p)
     have a3:dJ (A.ownsRow w.heap.size 64 3 v' (i.length+1) (BC i++Eu (Ai a k))):=Z;have a1:dJ (Mi c A=k+1):=KU M.o;clear E a9 Z W u D L O H;go_wp2;go_roundw
     case rel=>exact ⟨k+1,Q,i++[Ai a k],a7,by simp;omega,M,a4,by rw [C8,aZ];exact a3.o,b0,a5,HF⟩
     case measure=>rw [a1.o,a0.o];omega
    ·have R:(((Ai a k).sort:Int)==1)=false:=by simp;omega
     have I:V=(i,k,none):=by rw [←z.o,Fz (fun h=>B h.2)]
     subst I;clear z;go_wp2_with fail;go_quiet (fail);go_wp2_with fail;refine (Ik c s g n d k none a _ [41] (by simp) (wr.drewN nq) l.o m.o C).mono ?_;rintro e t ⟨rfl,y,r⟩;go_wp2_with fail;go_ret;refine ⟨_,rfl,?_,y,(G.drewN nq).trans r⟩;exact Ac (w:=wr.drewN nq) u r (fun j p=>by have:=(u.lt j p).1;omega)
def AJ(t:Tk):List UInt8:=if t.sort=2∨t.sort=4 then t.i6.toList else []
structure St where
 s9:Nat
 Ya:Option Nat
 pl:Nat
 ca:Nat
def Au(d:List Tk)(l:List UInt8)(x:St):St:=⟨(EN d x.s9 x.Ya l).1,(EN d x.s9 x.Ya l).2,x.pl,x.ca⟩
def Bq(d:List Tk)(a:Nat)(x:St):Tk×St:=((Dg d x.s9 x.Ya a).1,⟨(Dg d x.s9 x.Ya a).2.1,(Dg d x.s9 x.Ya a).2.2,x.pl,x.ca⟩)
def Cc(d:List Tk)(x:St):List Tk×St:=((CW d x.s9 x.Ya).1,⟨(CW d x.s9 x.Ya).2.1,(CW d x.s9 x.Ya).2.2,x.pl,x.ca⟩)
theorem TU{d n a b c}(g:(Ai d (n-1)).sort=0)(k:b≠0)(e:a<n):a≤(Dg d a c b).2.1∧(Dg d a c b).2.1<n:=by
 unfold Dg;split
 ·rename_i h;have i:a≠n-1:=by rintro rfl;rw [g] at h;omega
  exact ⟨by simp,by simp only;omega⟩
 ·exact ⟨aV _,e⟩
theorem RE{d n a b}(g:(Ai d (n-1)).sort=0)(h:a<n):a≤(CW d a b).2.1∧(CW d a b).2.1<n:=by have c:=NU g d.length a b [] h;have e:=Nr (bad:=(DK d d.length a b []).2.2) (l:=[41]) g c.2.1;unfold CW;exact ⟨bJ c.1 e.1,e.2⟩
def Nq(l:List UInt8)(a:Nat):Nat→Nat
 | 0=>a
 | k+1=>if l=[UInt8.ofNat (48+k)] then k else Nq l a k
def Dh(d:List Tk)(x:St)(s:FS):FS×St:=
 if AJ (Ai d x.s9)=[110,101,119] then
  let b:=Au d [110,101,119] x
  ({s with kind:=2,i9:=b.pl+1},{b with pl:=b.pl+1})
 else if AJ (Ai d x.s9)=[38] then
  let b:=Au d [38] x
  let a:=Bq d 1 b
  if Bn a.2.Ya (Ai d a.2.s9) [46]=true then
   let m:=Au d [46] a.2
   let k:=Bq d 3 m
   ({s with kind:=4,q:=a.1,field:=Nq k.1.i6.toList s.field 4},k.2)
  else ({s with kind:=3,q:=a.1},a.2)
 else if AJ (Ai d x.s9)=[42] then
  let b:=Au d [42] x
  let a:=Bq d 1 b
  ({s with kind:=5,q:=a.1},a.2)
 else if AJ (Ai d x.s9)=[64] then
  let b:=Au d [64] x
  let a:=Bq d 1 b
  ({s with kind:=6,q:=a.1},a.2)
 else if AJ (Ai d x.s9)=[40] then
  let b:=Au d [40] x
  let g:=Au d [42] b
  let e:=Bq d 1 g
  let n:=Au d [41] e.2
  let h:=Au d [40] n
  let i:St:={h with ca:=h.ca+1}
  let l:=Cc d i
  ({s with kind:=9,q:=e.1,i9:=i.ca,args:=l.1},l.2)
 else
  let c:=Bq d 1 x
  if Bn c.2.Ya (Ai d c.2.s9) [40]=true then
   let g:=Au d [40] c.2
   let e:=Cc d g
   ({s with kind:=8,q:=c.1,args:=e.1},e.2)
  else ({s with kind:=7,q:=c.1},c.2)
def AS(s:FS)(a b c:Value):Array Value:=
 #[.int .i64 s.kind,.string s.p.i6,.int .i64 s.p.pos,.int .i64 s.p.sort,.string s.q.i6,.int .i64 s.q.pos,.int .i64 s.q.sort,.int .i64 s.field,a,.int .i64 s.i9,b,c,.int .i64 s.br,.int .i64 s.YT,.int .i64 s.Yh]
def Cr(f:Nat)(p v:Value)(b a:Nat)(w:World):Prop:=w.heap[f]? =some (.cells #[p,v,.int .i64 b,.int .i64 a] 62 (0,0))
theorem Cr.l9{f p v b a w}(h:Cr f p v b a w):Ar f #[p,v,.int .i64 b,.int .i64 a] 62 w:=h
theorem AM.l9{j f g n o b a w}(h:AM j f g n o b a w):Ar j #[.slice (some ⟨g,0,none⟩) n o,.int .i64 b,.int .i64 (Fv a),.pointer (some ⟨f,0,none⟩)] 110 w:=h
structure VF(j f y A g n o:Nat)(d:List Tk)(p v:Value)(x:St)(C B:Array Value)(w:World):Prop where
 rd:AM j f g n o x.s9 x.Ya w
 tk:AP g n o d w
 pr:Cr f p v x.pl x.ca w
 sx:Ar y C 119 w
 ox:Ar A B 119 w
 ne:y≠A
section
variable {j f y A g n o : Nat} {d : List Tk} {p v : Value} {x : St} {C B : Array Value} {w D : World}
theorem VF.YP(h:VF j f y A g n o d p v x C B w):g≠j∧f≠j∧y≠j∧A≠j∧g≠f∧y≠f∧A≠f∧g≠y∧g≠A:=
 ⟨h.tk.ne h.rd (by decide),h.pr.l9.ne h.rd.l9 (by decide),h.sx.ne h.rd.l9 (by decide),h.ox.ne h.rd.l9 (by decide),h.tk.ne h.pr (by decide),h.sx.ne h.pr.l9 (by decide),h.ox.ne h.pr.l9 (by decide),h.tk.ne h.sx (by decide),h.tk.ne h.ox (by decide)⟩
theorem VF.call{c b}(h:VF j f y A g n o d p v x C B w)(e:Ab (fun k=>k=j) w D)(i:AM j f g n o c b D):VF j f y A g n o d p v ⟨c,b,x.pl,x.ca⟩ C B D:=by have a:=h.YP;exact ⟨i,h.tk.f8 e a.1,h.pr.l9.f8 e a.2.1,h.sx.f8 e a.2.2.1,h.ox.f8 e a.2.2.2.1,h.ne⟩
theorem VF.quiet(h:VF j f y A g n o d p v x C B w)(a:Ab (fun _=>False) w D):VF j f y A g n o d p v x C B D:=
 ⟨h.rd.f8 a (fun q=>q),h.tk.f8 a (fun q=>q),h.pr.l9.f8 a (fun q=>q),h.sx.f8 a (fun q=>q),h.ox.f8 a (fun q=>q),h.ne⟩
theorem VF.Yo(h:VF j f y A g n o d p v x C B w)(i u):VF j f y A g n o d p v x (C.setIfInBounds i u) B (w.setCell ⟨y,i,none⟩ u):=by have a:=h.YP;exact ⟨h.rd.l9.Yt i u a.2.2.1.symm,h.tk.f8 ((Ab.refl (fun k=>k=y) w).p7 i u) a.2.2.2.2.2.2.2.1,h.pr.l9.Yt i u a.2.2.2.2.2.1.symm,h.sx.set i u,h.ox.Yt i u h.ne.symm,h.ne⟩
theorem VF.Zj(h:VF j f y A g n o d p v x C B w)(m):VF j f y A g n o d p v ⟨x.s9,x.Ya,m,x.ca⟩ C B (w.setCell ⟨f,2,none⟩ (.int .i64 m)):=by have a:=h.YP;exact ⟨h.rd.l9.Yt 2 _ a.2.1.symm,h.tk.f8 ((Ab.refl (fun k=>k=f) w).p7 2 _) a.2.2.2.2.1,h.pr.l9.set 2 _,h.sx.Yt 2 _ a.2.2.2.2.2.1,h.ox.Yt 2 _ a.2.2.2.2.2.2.1,h.ne⟩
theorem VF.ZP(h:VF j f y A g n o d p v x C B w){u:Int}{m:Nat}(a:u=m):VF j f y A g n o d p v ⟨x.s9,x.Ya,m,x.ca⟩ C B (w.setCell ⟨f,2,none⟩ (.int .i64 u)):=by subst a;exact h.Zj m
theorem VF.Zi(h:VF j f y A g n o d p v x C B w)(m):VF j f y A g n o d p v ⟨x.s9,x.Ya,x.pl,m⟩ C B (w.setCell ⟨f,3,none⟩ (.int .i64 m)):=by have a:=h.YP;exact ⟨h.rd.l9.Yt 3 _ a.2.1.symm,h.tk.f8 ((Ab.refl (fun k=>k=f) w).p7 3 _) a.2.2.2.2.1,h.pr.l9.set 3 _,h.sx.Yt 3 _ a.2.2.2.2.2.1,h.ox.Yt 3 _ a.2.2.2.2.2.2.1,h.ne⟩
theorem VF.ZO(h:VF j f y A g n o d p v x C B w){u:Int}{m:Nat}(a:u=m):VF j f y A g n o d p v ⟨x.s9,x.Ya,x.pl,m⟩ C B (w.setCell ⟨f,3,none⟩ (.int .i64 u)):=by subst a;exact h.Zi m
theorem VF.YD{L a}(h:VF j f y A g n o d p v x C B w)(e:Au d L x=a)(b:Ab (fun k=>k=j) w D)(c:AM j f g n o (EN d x.s9 x.Ya L).1 (EN d x.s9 x.Ya L).2 D):VF j f y A g n o d p v a C B D:=by subst e;exact h.call b c
theorem VF.get{k q a}(h:VF j f y A g n o d p v x C B w)(i:Bq d k x=(q,a))(b:Ab (fun k=>k=j) w D)(c:AM j f g n o (Dg d x.s9 x.Ya k).2.1 (Dg d x.s9 x.Ya k).2.2 D):VF j f y A g n o d p v a C B D:=by have e:a=⟨(Dg d x.s9 x.Ya k).2.1,(Dg d x.s9 x.Ya k).2.2,x.pl,x.ca⟩:=(congrArg Prod.snd i).symm;subst e;exact h.call b c
theorem VF.list{q a}(h:VF j f y A g n o d p v x C B w)(i:Cc d x=(q,a))(b:Ab (fun k=>k=j) w D)(c:AM j f g n o (CW d x.s9 x.Ya).2.1 (CW d x.s9 x.Ya).2.2 D):VF j f y A g n o d p v a C B D:=by have e:a=⟨(CW d x.s9 x.Ya).2.1,(CW d x.s9 x.Ya).2.2,x.pl,x.ca⟩:=(congrArg Prod.snd i).symm;subst e;exact h.call b c
end
theorem Ca{d n x a L}(c:Au d L x=a)(e:(Ai d (n-1)).sort=0)(b:x.s9<n):a.s9<n:=by subst c;exact (Nr e b).2
theorem Eg{d n k x a q}(g:Bq d k x=(q,a))(c:k≠0)(h:(Ai d (n-1)).sort=0)(b:x.s9<n):a.s9<n:=by have e:a.s9=(Dg d x.s9 x.Ya k).2.1:=congrArg (fun z=>z.2.s9) g.symm;rw [e];exact (TU h c b).2
theorem Ez{d n x a q}(c:Cc d x=(q,a))(g:(Ai d (n-1)).sort=0)(b:x.s9<n):a.s9<n:=by have e:a.s9=(CW d x.s9 x.Ya).2.1:=congrArg (fun z=>z.2.s9) c.symm;rw [e];exact (RE g b).2
theorem Ab.Zz{j f a w}(h:Ab (fun k=>k=j∨k=f) a w)(i u):Ab (fun k=>k=j∨k=f) a (w.setCell ⟨f,i,none⟩ u):=h.setCell (.inr rfl |> .inl) u
abbrev A0:Value:=.slice none 0 0
def Ra(j f g n o:Nat)(d:List Tk)(p v:Value)(w:World)(r:FS×St)(e:Ending)(D:World):Prop:=
 ∃a,e=.returned (.agg (AS r.1 a A0 A0))∧D.ownsRow w.heap.size 64 3 a r.1.args.length (BC r.1.args)∧AM j f g n o r.2.s9 r.2.Ya D∧AP g n o d D∧Cr f p v r.2.pl r.2.ca D∧Ab (fun k=>k=j∨k=f) w D
abbrev zS:Array Value:=#[.int .i64 0,.string {data:=#[]},.int .i64 0,.int .i64 0,.string {data:=#[]},.int .i64 0,.int .i64 0,.int .i64 0,A0,.int .i64 0,A0,A0,.int .i64 0,.int .i64 0,.int .i64 0]
def CG(a:Nat)(b:Int):FS:=⟨0,Ll,Ll,0,[],0,[],[],b,b,a⟩
abbrev Vs:List UInt8:=[105,102]
abbrev GI:List UInt8:=[119,104,105,108,101]
abbrev DQ:List UInt8:=[101,108,115,101]
abbrev SZ:List UInt8:=[118,97,114]
abbrev GV:List UInt8:=[114,101,116,117,114,110]
def Bo(a:List Tk)(b:Nat)(x:St):FS×St:=
 if AJ (Ai a x.s9)=SZ then
  let y:=Bq a 1 (Au a SZ x)
  ({CG b (-1) with kind:=1,p:=y.1},y.2)
 else if AJ (Ai a x.s9)=GV then
  let y:=Bq a 1 (Au a GV x)
  ({CG b (-1) with kind:=11,q:=y.1},y.2)
 else if AJ (Ai a x.s9)=[42] then
  let y:=Bq a 1 (Au a [42] x)
  let z:=Bq a 1 (Au a [61] y.2)
  ({CG b (-1) with kind:=10,p:=y.1,q:=z.1},z.2)
 else
  let y:=Bq a 1 x
  Dh a (Au a [61] y.2) {CG b (-1) with p:=y.1}
mutual
def Az(toks:List Tk):Nat→Nat→St→List FS→List Nat→List Nat×St×List FS
 | 0,_,x,fs,out=>(out,x,fs)
 | f+1,inn,x,fs,out=>
   if x.Ya≠none∨Bn x.Ya (Ai toks x.s9) [125]=true then (out,x,fs)
   else Az toks f inn (AQ toks f inn x fs).2.1 (AQ toks f inn x fs).2.2 (out++[(AQ toks f inn x fs).1])
def AQ(toks:List Tk):Nat→Nat→St→List FS→Nat×St×List FS
 | 0,_,x,fs=>(fs.length,x,fs)
 | f+1,inn,x,fs=>
   if AJ (Ai toks x.s9)=Vs∨AJ (Ai toks x.s9)=GI then
    let x2:=Au toks [63] (Au toks (AJ (Ai toks x.s9)) x)
    let r:=Az toks f inn (Au toks [123] x2) (fs++[CG 0 0]) []
    let x3:=Au toks [125] r.2.1
    let s:FS:={CG inn (-1) with kind:=13,br:=(Ai toks x2.s9).pos,Yd:=r.1}
    if AJ (Ai toks x.s9)=Vs then
     if Bn x3.Ya (Ai toks x3.s9) DQ=true then
      let x4:=Au toks DQ x3
      let r2:=Az toks f inn (Au toks [123] x4) r.2.2 []
      (fs.length,Au toks [125] r2.2.1,r2.2.2.set fs.length {s with kind:=12,YT:=(Ai toks x4.s9).pos,other:=r2.1})
     else (fs.length,x3,r.2.2.set fs.length {s with kind:=12})
    else (fs.length,x3,r.2.2.set fs.length s)
   else
    let y:=Bo toks inn x
    (fs.length,Au toks [59] y.2,(fs++[CG 0 0]).set fs.length y.1)
end
def AD(B:Nat)(w:World)(v:Value)(l:List Nat):Prop:=w.ownsRow B 3 1 v l.length (l.map fun i:Nat=>Value.int .i64 (i:Int))
def DO(B:Nat)(w:World)(v:Value)(l:List Tk):Prop:=w.ownsRow B 64 3 v l.length (BC l)
def E0(B:Nat)(U:Nat→Prop)(w:World)(c:List Value)(s:FS):Prop:=
 ∃a b d,c=(AS s a b d).toList∧DO B w a s.args∧AD B w b s.Yd∧AD B w d s.other∧∀k,(a.ownBlock=some k∨b.ownBlock=some k∨d.ownBlock=some k)→U k
def BA(B:Nat)(U:Nat→Prop)(w:World)(c:Value)(b:List FS):Prop:=
 ∃a:List (List Value),w.ownsRow B 119 15 c b.length a.flatten∧a.length=b.length∧∀i (h:i<a.length) (d:i<b.length),E0 B U w a[i] b[i]
theorem E0.f8{B:Nat}{U:Nat→Prop}{w w':World}{c:List Value}{s:FS}{X:Nat→Prop}(h:E0 B U w c s)(e:Ab X w w')(f:∀k a t b,X k→w.heap[k]? =some (.cells a t b)→t≠3∧t≠64):E0 B U w' c s:=by obtain ⟨g,i,p,m,j,l,n,o⟩:=h;exact ⟨g,i,p,m,Am j e (fun k a b d q=>(f k a _ b d q).2 rfl),Am l e (fun k a b d q=>(f k a _ b d q).1 rfl),Am n e (fun k a b d q=>(f k a _ b d q).1 rfl),o⟩
theorem E0.Zg{B:Nat}{U:Nat→Prop}{w f:World}{c:List Value}{s:FS}{X:Nat→Prop}(h:E0 B U w c s)(d:Ab X w f)(e:∀k,U k→¬X k):E0 B U f c s:=by obtain ⟨g,i,o,m,j,l,n,b⟩:=h;exact ⟨g,i,o,m,Ac j d (fun k a=>e k (b k (.inl a))),Ac l d (fun k a=>e k (b k (.inr (.inl a)))),Ac n d (fun k a=>e k (b k (.inr (.inr a)))),b⟩
theorem E0.more{B:Nat}{U U':Nat→Prop}{w:World}{c:List Value}{s:FS}(h:E0 B U w c s)(l:∀k,U k→U' k):E0 B U' w c s:=by obtain ⟨a,b,m,g,e,f,j,d⟩:=h;exact ⟨a,b,m,g,e,f,j,fun k i=>l k (d k i)⟩
theorem E0.length{B:Nat}{U:Nat→Prop}{w:World}{c:List Value}{s:FS}(h:E0 B U w c s):c.length=15:=by obtain ⟨a,b,d,rfl,_⟩:=h;rfl
end Go.Proofs.YthppbgndiplgnaaGreatDoor

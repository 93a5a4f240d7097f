/- One of the texts of the proof of texts_card_holds: LexF RdD RdE RdI. -/
import Derived.Test.YtmaankfbhhbeoaaGreatDoorG09
set_option maxRecDepth 100000
set_option maxHeartbeats 2000000
namespace Go.Proofs.YtmaankfbhhbeoaaGreatDoor
open Go.RowKit
theorem Tryz.infoTk:(Tryz.prog.info? 52).map (fun i=>(i.zero,i.size,i.bytes))=some (some (.agg #[.string ByteArray.empty,.int .i64 0,.int .i64 0]),3,32):=by kernel_rfl
theorem FM(w:World)(a b c:Value)(t:TypeId):∀j u,[a,b,c][j]? =some u→(w.alloc (.cells #[a,b,c] t)).cell? ((⟨w.heap.size,0,none⟩:Addr).add j)=some u:=by
 intro j u h;rcases j with _ | _ | _ | j
 ·simp at h;subst h;simp [Addr.add]
 ·simpa [Addr.add] using h
 ·simpa [Addr.add] using h
 ·simp at h
theorem BJ{w:World}{g:Nat}(d:g=w.heap.size)(a b c:Value)(t:TypeId):∀j u,[a,b,c][j]? =some u→(w.alloc (.cells #[a,b,c] t)).cell? ((⟨g,0,none⟩:Addr).add j)=some u:=by subst d;exact FM w a b c t
def LN(w:World)(s:ByteArray)(V:Nat ⊕ List Tk)(e:Ending)(a:World):Prop:=
 match V with
 | .inl p=>e=.returned (.tuple #[.slice none 0 0,.int .i64 p,.bool false])∧Below w.heap.size w a
 | .inr l=>∃v,e=.returned (.tuple #[v,.int .i64 0,.bool true])∧a.ownsRow w.heap.size 52 3 v (l.length+1) (A3 (l++[⟨ByteArray.empty,s.size,0⟩]))∧Below w.heap.size w a
theorem Dp(s)(q:s.size≤4000)(w):
 Calls Tryz.prog 11 #[.string s] w fun e b=>LN w s (AZ s s.size 0 []) e b:=by
 obtain ⟨R,N,O,P,Q⟩:=info_parts Tryz.infoTk;generalize hV:AZ s s.size 0 []=V;have Y:Nj (AZ s s.size 0 []=V):=hV;clear hV;go_enter Tryz.func11,Tryz.ntmps11;go_wp2;go_loopw [5,6] (fun v j wr=>∃(k f:Nat) (c:List Tk),k≤s.size∧c.length≤k∧j=.int .i64 k∧wr.ownsRow w.heap.size 52 3 v c.length (A3 c)∧Below w.heap.size w wr∧s.size-k≤f∧Nj (AZ s f k c=V)) (fun _ j _=>s.size-(intOf j).toNat)
 case atStart=>exact ⟨0,s.size,[],by omega,by simp,rfl,World.ownsRow_nil _ _ _ _,Below.refl _ _,by omega,Y⟩
 case round=>
  obtain ⟨k,f,c,K,a2,rfl,r,d,C,i⟩:=hrel;clear Y;by_cases h:k<s.size
  ·have b0:=CY s k h;by_cases l:(AM s k).2=0
   ·have G:V=.inl k:=by rw [←i.o,BV (p:=k) C h (by unfold AQ;rw [if_pos l])]
    subst G;have a1:(((AM s k).2:Int)==0)=true:=by simp [l]
    clear i l;go_wp2_with (first | (go_at_call 21;refine (A9 _ _ ?_ ?_ _).mono ?_;exact h;exact q;rintro e b ⟨rfl,a⟩;have a:=a.symm;subst a) | (go_at_call 22;refine (AX _ _).mono ?_;rintro e b ⟨rfl,a⟩;have a:=a.symm;subst a) | (go_at_call 23;refine (BH _ _).mono ?_;rintro e b ⟨rfl,a⟩;have a:=a.symm;subst a));go_ret3;exact ⟨rfl,d⟩
   ·have a1:(((AM s k).2:Int)==0)=false:=by simp [l]
    by_cases g:(AM s k).1=32∨(AM s k).1=9∨(AM s k).1=10
    ·obtain ⟨m,z,o⟩:=Bu (acc:=c) C h (t:=none) (j:=k+1) (by unfold AQ;rw [if_neg l,if_pos g]);have y:Nj (AZ s m (k+1) c=V):=by rw [show c=c++(none:Option Tk).toList from by simp,←o];exact i.o
     clear i o;rcases g with g | g | g
     ·have W:(((AM s k).1:Int)==32)=true:=by simp [g]
      clear g;go_wp2_with (first | (go_at_call 21;refine (A9 _ _ ?_ ?_ _).mono ?_;exact h;exact q;rintro e b ⟨rfl,a⟩;have a:=a.symm;subst a) | (go_at_call 22;refine (AX _ _).mono ?_;rintro e b ⟨rfl,a⟩;have a:=a.symm;subst a) | (go_at_call 23;refine (BH _ _).mono ?_;rintro e b ⟨rfl,a⟩;have a:=a.symm;subst a));go_roundw
      case rel=>exact ⟨k+1,m,c,by omega,by omega,by go_num,r,d,z,y⟩
      case measure=>simp [intOf];omega
     ·have W:(((AM s k).1:Int)==32)=false:=by simp [g]
      have Z:(((AM s k).1:Int)==9)=true:=by simp [g]
      clear g;go_wp2_with (first | (go_at_call 21;refine (A9 _ _ ?_ ?_ _).mono ?_;exact h;exact q;rintro e b ⟨rfl,a⟩;have a:=a.symm;subst a) | (go_at_call 22;refine (AX _ _).mono ?_;rintro e b ⟨rfl,a⟩;have a:=a.symm;subst a) | (go_at_call 23;refine (BH _ _).mono ?_;rintro e b ⟨rfl,a⟩;have a:=a.symm;subst a));go_roundw
      case rel=>exact ⟨k+1,m,c,by omega,by omega,by go_num,r,d,z,y⟩
      case measure=>simp [intOf];omega
     ·have W:(((AM s k).1:Int)==32)=false:=by simp [g]
      have Z:(((AM s k).1:Int)==9)=false:=by simp [g]
      have e3:(((AM s k).1:Int)==10)=true:=by simp [g]
      clear g;go_wp2_with (first | (go_at_call 21;refine (A9 _ _ ?_ ?_ _).mono ?_;exact h;exact q;rintro e b ⟨rfl,a⟩;have a:=a.symm;subst a) | (go_at_call 22;refine (AX _ _).mono ?_;rintro e b ⟨rfl,a⟩;have a:=a.symm;subst a) | (go_at_call 23;refine (BH _ _).mono ?_;rintro e b ⟨rfl,a⟩;have a:=a.symm;subst a));go_roundw
      case rel=>exact ⟨k+1,m,c,by omega,by omega,by go_num,r,d,z,y⟩
      case measure=>simp [intOf];omega
    ·have W:(((AM s k).1:Int)==32)=false:=by simp;omega
     have Z:(((AM s k).1:Int)==9)=false:=by simp;omega
     have e3:(((AM s k).1:Int)==10)=false:=by simp;omega
     by_cases n:(AM s k).1=35
     ·have e4:(((AM s k).1:Int)==35)=true:=by simp [n]
      have a5:=FU s s.size k K;by_cases T:(Dr s s.size k).2=true
      ·have X:AQ s k=.inr (none,(Dr s s.size k).1):=by unfold AQ;rw [if_neg l,if_neg g,if_pos n,if_pos T]
       have a3:=DR h X;obtain ⟨m,z,o⟩:=Bu (acc:=c) C h X;have y:Nj (AZ s m (Dr s s.size k).1 c=V):=by rw [show c=c++(none:Option Tk).toList from by simp,←o];exact i.o
       clear i o X n g l;go_wp2_with (first | (go_at_call 21;refine (A9 _ _ ?_ ?_ _).mono ?_;exact h;exact q;rintro e b ⟨rfl,a⟩;have a:=a.symm;subst a) | (go_at_call 22;refine (AX _ _).mono ?_;rintro e b ⟨rfl,a⟩;have a:=a.symm;subst a) | (go_at_call 23;refine (BH _ _).mono ?_;rintro e b ⟨rfl,a⟩;have a:=a.symm;subst a) | (go_at_call 24;refine (Fd s k s.size ?_ ?_ ?_ _).mono ?_;exact K;exact q;omega;rintro e b ⟨rfl,a⟩;have a:=a.symm;subst a));go_roundw
       case rel=>exact ⟨(Dr s s.size k).1,m,c,by omega,by omega,by go_num,r,d,z,y⟩
       case measure=>simp [intOf];omega
      ·have G:V=.inl (Dr s s.size k).1:=by rw [←i.o,BV (p:=(Dr s s.size k).1) C h (by unfold AQ;rw [if_neg l,if_neg g,if_pos n,if_neg T])]
       subst G;have a4:(Dr s s.size k).2=false:=by simpa using T
       clear i n g l T;go_wp2_with (first | (go_at_call 21;refine (A9 _ _ ?_ ?_ _).mono ?_;exact h;exact q;rintro e b ⟨rfl,a⟩;have a:=a.symm;subst a) | (go_at_call 22;refine (AX _ _).mono ?_;rintro e b ⟨rfl,a⟩;have a:=a.symm;subst a) | (go_at_call 23;refine (BH _ _).mono ?_;rintro e b ⟨rfl,a⟩;have a:=a.symm;subst a) | (go_at_call 24;refine (Fd s k s.size ?_ ?_ ?_ _).mono ?_;exact K;exact q;omega;rintro e b ⟨rfl,a⟩;have a:=a.symm;subst a));go_ret3;exact ⟨rfl,d⟩
     ·have e4:(((AM s k).1:Int)==35)=false:=by simp;omega
      by_cases B:DL (AM s k).1=true
      ·have b3:=Ex s s.size k 0 K;have b2:=Hj h l B;by_cases M:Ks (s.extract k (BP s s.size k 0).1).toList=true
       ·obtain ⟨m,z,o⟩:=Bu (acc:=c) C h (t:=some ⟨s.extract k (BP s s.size k 0).1,k,2⟩) (j:=(BP s s.size k 0).1) (by unfold AQ;rw [if_neg l,if_neg g,if_neg n,if_pos B,if_pos M]);have y:Nj (AZ s m (BP s s.size k 0).1 (c++[⟨s.extract k (BP s s.size k 0).1,k,2⟩])=V):=by rw [show [(⟨s.extract k (BP s s.size k 0).1,k,2⟩:Tk)]=(some (⟨s.extract k (BP s s.size k 0).1,k,2⟩:Tk)).toList from by simp,←o];exact i.o
        clear i o n g l;go_wp2_with (first | (go_at_call 21;refine (A9 _ _ ?_ ?_ _).mono ?_;exact h;exact q;rintro e b ⟨rfl,a⟩;have a:=a.symm;subst a) | (go_at_call 22;refine (AX _ _).mono ?_;rintro e b ⟨rfl,a⟩;have a:=a.symm;subst a) | (go_at_call 23;refine (BH _ _).mono ?_;rintro e b ⟨rfl,a⟩;have a:=a.symm;subst a) | (go_at_call 25;refine (GF s k s.size ?_ ?_ ?_ _).mono ?_;exact K;exact q;omega;rintro e b ⟨rfl,a⟩;have a:=a.symm;subst a) | (go_at_call 26;refine (DQ _ _).mono ?_;rintro e b ⟨rfl,a⟩;have a:=a.symm;subst a) | (at_builtin;refine wpList_append_own _ rfl _ _ 27 rfl w.heap.size 52 R (.agg #[.string ByteArray.empty,.int .i64 0,.int .i64 0]) 3 32 Tryz.underlying27 N O P Q rfl (by decide) _ _ _ rfl ((r.alloc _).alloc _) ⟨wr.heap.size+1,0,none⟩ 1 1 [.string (s.extract k (BP s s.size k 0).1),.int .i64 (k:Int),.int .i64 2] rfl rfl (BJ (by simp) _ _ _ _) (fun x u=>by simp at u;rcases u with rfl | rfl | rfl<;>rfl) (by unfold maxLen;omega) (by omega) (by have:=d.size;simp;omega) ?_;intro S H F A J));have D:Below w.heap.size w H:=Below.grown ((d.alloc d.size _).alloc (by have:=d.size;simp;omega) _) A (by have:=d.size;simp;omega) (fun j E=>(r.lt j E).1);clear A J;go_wp2;go_roundw
        case rel=>exact ⟨(BP s s.size k 0).1,m,c++[⟨s.extract k (BP s s.size k 0).1,k,2⟩],by omega,by simp;omega,by go_num,by rw [BM,List.length_append];exact F,D,z,y⟩
        case measure=>simp [intOf];omega
       ·have a8:Ks (s.extract k (BP s s.size k 0).1).toList=false:=by simpa using M
        by_cases a0:8<(BP s s.size k 0).2
        ·have G:V=.inl k:=by rw [←i.o,BV (p:=k) C h (by unfold AQ;rw [if_neg l,if_neg g,if_neg n,if_pos B,if_neg M,if_pos a0])]
         subst G;clear i n g l M;go_wp2_with (first | (go_at_call 21;refine (A9 _ _ ?_ ?_ _).mono ?_;exact h;exact q;rintro e b ⟨rfl,a⟩;have a:=a.symm;subst a) | (go_at_call 22;refine (AX _ _).mono ?_;rintro e b ⟨rfl,a⟩;have a:=a.symm;subst a) | (go_at_call 23;refine (BH _ _).mono ?_;rintro e b ⟨rfl,a⟩;have a:=a.symm;subst a) | (go_at_call 25;refine (GF s k s.size ?_ ?_ ?_ _).mono ?_;exact K;exact q;omega;rintro e b ⟨rfl,a⟩;have a:=a.symm;subst a) | (go_at_call 26;refine (DQ _ _).mono ?_;rintro e b ⟨rfl,a⟩;have a:=a.symm;subst a));go_ret3;exact ⟨rfl,d.alloc d.size _⟩
        ·obtain ⟨m,z,o⟩:=Bu (acc:=c) C h (t:=some ⟨s.extract k (BP s s.size k 0).1,k,1⟩) (j:=(BP s s.size k 0).1) (by unfold AQ;rw [if_neg l,if_neg g,if_neg n,if_pos B,if_neg M,if_neg a0]);have y:Nj (AZ s m (BP s s.size k 0).1 (c++[⟨s.extract k (BP s s.size k 0).1,k,1⟩])=V):=by rw [show [(⟨s.extract k (BP s s.size k 0).1,k,1⟩:Tk)]=(some (⟨s.extract k (BP s s.size k 0).1,k,1⟩:Tk)).toList from by simp,←o];exact i.o
         clear i o n g l M;go_wp2_with (first | (go_at_call 21;refine (A9 _ _ ?_ ?_ _).mono ?_;exact h;exact q;rintro e b ⟨rfl,a⟩;have a:=a.symm;subst a) | (go_at_call 22;refine (AX _ _).mono ?_;rintro e b ⟨rfl,a⟩;have a:=a.symm;subst a) | (go_at_call 23;refine (BH _ _).mono ?_;rintro e b ⟨rfl,a⟩;have a:=a.symm;subst a) | (go_at_call 25;refine (GF s k s.size ?_ ?_ ?_ _).mono ?_;exact K;exact q;omega;rintro e b ⟨rfl,a⟩;have a:=a.symm;subst a) | (go_at_call 26;refine (DQ _ _).mono ?_;rintro e b ⟨rfl,a⟩;have a:=a.symm;subst a) | (at_builtin;refine wpList_append_own _ rfl _ _ 27 rfl w.heap.size 52 R (.agg #[.string ByteArray.empty,.int .i64 0,.int .i64 0]) 3 32 Tryz.underlying27 N O P Q rfl (by decide) _ _ _ rfl ((r.alloc _).alloc _) ⟨wr.heap.size+1,0,none⟩ 1 1 [.string (s.extract k (BP s s.size k 0).1),.int .i64 (k:Int),.int .i64 1] rfl rfl (BJ (by simp) _ _ _ _) (fun x u=>by simp at u;rcases u with rfl | rfl | rfl<;>rfl) (by unfold maxLen;omega) (by omega) (by have:=d.size;simp;omega) ?_;intro S H F A J));have D:Below w.heap.size w H:=Below.grown ((d.alloc d.size _).alloc (by have:=d.size;simp;omega) _) A (by have:=d.size;simp;omega) (fun j E=>(r.lt j E).1);clear A J;go_wp2;go_roundw
         case rel=>exact ⟨(BP s s.size k 0).1,m,c++[⟨s.extract k (BP s s.size k 0).1,k,1⟩],by omega,by simp;omega,by go_num,by rw [BM,List.length_append];exact F,D,z,y⟩
         case measure=>simp [intOf];omega
      ·have a9:DL (AM s k).1=false:=by simpa using B
       by_cases I:48≤(AM s k).1∧(AM s k).1≤51
       ·have a6:48≤(AM s k).1:=I.1;have a7:(AM s k).1≤51:=I.2;obtain ⟨m,z,o⟩:=Bu (acc:=c) C h (t:=some ⟨s.extract k (k+1),k,3⟩) (j:=k+1) (by unfold AQ;rw [if_neg l,if_neg g,if_neg n,if_neg B,if_pos I]);have y:Nj (AZ s m (k+1) (c++[⟨s.extract k (k+1),k,3⟩])=V):=by rw [show [(⟨s.extract k (k+1),k,3⟩:Tk)]=(some (⟨s.extract k (k+1),k,3⟩:Tk)).toList from by simp,←o];exact i.o
        clear i o n g l B I;go_wp2_with (first | (go_at_call 21;refine (A9 _ _ ?_ ?_ _).mono ?_;exact h;exact q;rintro e b ⟨rfl,a⟩;have a:=a.symm;subst a) | (go_at_call 22;refine (AX _ _).mono ?_;rintro e b ⟨rfl,a⟩;have a:=a.symm;subst a) | (go_at_call 23;refine (BH _ _).mono ?_;rintro e b ⟨rfl,a⟩;have a:=a.symm;subst a) | (at_builtin;refine wpList_append_own _ rfl _ _ 27 rfl w.heap.size 52 R (.agg #[.string ByteArray.empty,.int .i64 0,.int .i64 0]) 3 32 Tryz.underlying27 N O P Q rfl (by decide) _ _ _ rfl (r.alloc _) ⟨wr.heap.size,0,none⟩ 1 1 [.string (s.extract k (k+1)),.int .i64 (k:Int),.int .i64 3] rfl rfl (BJ (by simp) _ _ _ _) (fun x u=>by simp at u;rcases u with rfl | rfl | rfl<;>rfl) (by unfold maxLen;omega) (by omega) (by have:=d.size;simp;omega) ?_;intro S H F A J));have D:Below w.heap.size w H:=Below.grown (d.alloc d.size _) A (by have:=d.size;simp;omega) (fun j E=>(r.lt j E).1);clear A J;go_wp2;go_roundw
        case rel=>exact ⟨k+1,m,c++[⟨s.extract k (k+1),k,3⟩],by omega,by simp;omega,by go_num,by rw [BM,List.length_append];exact F,D,z,y⟩
        case measure=>simp [intOf];omega
       ·have L:(AM s k).1<48∨51<(AM s k).1:=by omega
        by_cases U:DV (AM s k).1=true
        ·obtain ⟨m,z,o⟩:=Bu (acc:=c) C h (t:=some ⟨s.extract k (k+1),k,4⟩) (j:=k+1) (by unfold AQ;rw [if_neg l,if_neg g,if_neg n,if_neg B,if_neg I,if_pos U]);have y:Nj (AZ s m (k+1) (c++[⟨s.extract k (k+1),k,4⟩])=V):=by rw [show [(⟨s.extract k (k+1),k,4⟩:Tk)]=(some (⟨s.extract k (k+1),k,4⟩:Tk)).toList from by simp,←o];exact i.o
         clear i o n g l B I;rcases L with L | L
         all_goals
          go_wp2_with (first | (go_at_call 21;refine (A9 _ _ ?_ ?_ _).mono ?_;exact h;exact q;rintro e b ⟨rfl,a⟩;have a:=a.symm;subst a) | (go_at_call 22;refine (AX _ _).mono ?_;rintro e b ⟨rfl,a⟩;have a:=a.symm;subst a) | (go_at_call 23;refine (BH _ _).mono ?_;rintro e b ⟨rfl,a⟩;have a:=a.symm;subst a) | (at_builtin;refine wpList_append_own _ rfl _ _ 27 rfl w.heap.size 52 R (.agg #[.string ByteArray.empty,.int .i64 0,.int .i64 0]) 3 32 Tryz.underlying27 N O P Q rfl (by decide) _ _ _ rfl (r.alloc _) ⟨wr.heap.size,0,none⟩ 1 1 [.string (s.extract k (k+1)),.int .i64 (k:Int),.int .i64 4] rfl rfl (BJ (by simp) _ _ _ _) (fun x u=>by simp at u;rcases u with rfl | rfl | rfl<;>rfl) (by unfold maxLen;omega) (by omega) (by have:=d.size;simp;omega) ?_;intro S H F A J));have D:Below w.heap.size w H:=Below.grown (d.alloc d.size _) A (by have:=d.size;simp;omega) (fun j E=>(r.lt j E).1);clear A J;go_wp2;go_roundw
          case rel=>exact ⟨k+1,m,c++[⟨s.extract k (k+1),k,4⟩],by omega,by simp;omega,by go_num,by rw [BM,List.length_append];exact F,D,z,y⟩
          case measure=>simp [intOf];omega
        ·have G:V=.inl k:=by rw [←i.o,BV (p:=k) C h (by unfold AQ;rw [if_neg l,if_neg g,if_neg n,if_neg B,if_neg I,if_neg U])]
         subst G;have b1:DV (AM s k).1=false:=by simpa using U
         clear i n g l B I U;rcases L with L | L
         all_goals
          go_wp2_with (first | (go_at_call 21;refine (A9 _ _ ?_ ?_ _).mono ?_;exact h;exact q;rintro e b ⟨rfl,a⟩;have a:=a.symm;subst a) | (go_at_call 22;refine (AX _ _).mono ?_;rintro e b ⟨rfl,a⟩;have a:=a.symm;subst a) | (go_at_call 23;refine (BH _ _).mono ?_;rintro e b ⟨rfl,a⟩;have a:=a.symm;subst a));go_ret3;exact ⟨rfl,d⟩
  ·have G:V=.inr c:=by rw [←i.o,DH h]
   subst G;clear i;go_wp2_with ((at_builtin;refine wpList_append_own _ rfl _ _ 27 rfl w.heap.size 52 R (.agg #[.string ByteArray.empty,.int .i64 0,.int .i64 0]) 3 32 Tryz.underlying27 N O P Q rfl (by decide) _ _ _ rfl (r.alloc _) ⟨wr.heap.size,0,none⟩ 1 1 [.string ByteArray.empty,.int .i64 (s.size:Int),.int .i64 0] rfl rfl (BJ (by simp) _ _ _ _) (fun x u=>by simp at u;rcases u with rfl | rfl | rfl<;>rfl) (by unfold maxLen;omega) (by omega) (by have:=d.size;simp;omega) ?_;intro S H F A J));have D:Below w.heap.size w H:=Below.grown (d.alloc d.size _) A (by have:=d.size;simp;omega) (fun j E=>(r.lt j E).1);go_wp2;go_ret3;exact ⟨S,rfl,by rw [BM];exact F,D⟩
def Cs(d:List Tk):Nat→Nat→Option Nat→List Tk→List Tk×Nat×Option Nat
 | 0,a,b,c=>(c,a,b)
 | f+1,a,b,c=>if b=none∧(Ai d a).sort=1 then Cs d f (a+1) b (c++[Ai d a]) else (c,a,b)
theorem DC{d f b a c}(h:¬(a=none∧(Ai d b).sort=1)):Cs d f b a c=(c,b,a):=by
 cases f with
 | zero=>rfl
 | succ f=>simp only [Cs,if_neg h]
theorem JJ{b f a n c acc}(i:n-1-a≤f)(g:a<n)(e:(Ai b (n-1)).sort=0)(h:c=none∧(Ai b a).sort=1):
 a+1<n∧∃d,n-1-(a+1)≤d∧Cs b f a c acc=Cs b d (a+1) c (acc++[Ai b a]):=by
 have j:a≠n-1:=by rintro rfl;rw [e] at h;omega
 refine ⟨by omega,?_⟩;cases f with
 | zero=>omega
 | succ f=>exact ⟨f,by omega,by simp only [Cs];rw [if_pos h]⟩
theorem Iw{d:List Tk}{n:Nat}(e:(Ai d (n-1)).sort=0):∀(f a:Nat) (b:Option Nat) (c:List Tk),a<n→a≤(Cs d f a b c).2.1∧(Cs d f a b c).2.1<n∧(Cs d f a b c).2.2=b
 | 0,a,b,c,h=>by unfold Cs;exact ⟨Nat.le_refl _,h,rfl⟩
 | f+1,a,b,c,h=>by
   simp only [Cs];split
   ·rename_i g;have i:a≠n-1:=by rintro rfl;rw [e] at g;omega
    have:=Iw e f (a+1) b (c++[Ai d a]) (by omega);exact ⟨by omega,this.2⟩
   ·exact ⟨Nat.le_refl _,h,rfl⟩
def Hb(a:Nat)(w:World):Nat:=match w.cell? ⟨a,1,none⟩ with | some v=>(intOf v).toNat | none=>0
theorem Gp{b e g n d a c w}(h:Ax b e g n d a c w):Hb b w=a:=by have:=Aj h 1;simp only [Ni,Ng,Nh] at this;simp [Hb,this,intOf]
def BE(a:List Tk)(c:Nat)(b:Option Nat):List Tk×Nat×Option Nat:=
 ((Cs a a.length c b []).1,C0 a (Cs a a.length c b []).2.1 (Cs a a.length c b []).2.2 [41])
theorem Iu(c s g n d q o a w)(l:Ax c s g n d q o w)(m:AA g n d a w)(hc:q<n)(hz:(Ai a (n-1)).sort=0):
 Calls Tryz.prog 29 #[.pointer (some ⟨c,0,none⟩)] w fun e J=>∃v,e=.returned v∧J.ownsRow w.heap.size 52 3 v (BE a q o).1.length (A3 (BE a q o).1)∧Ax c s g n d (BE a q o).2.1 (BE a q o).2.2 J∧Ab (fun k=>k=c) w J:=by
 obtain ⟨i0,hi,b1,b2,b3⟩:=info_parts Tryz.infoTk;have hn:=m.2.2;have Y:=m.2.1;have a8:=m.ne l (by decide);have lr:=Ad l;have lg:g<w.heap.size:=(m.1.lt g rfl).2;unfold BE;generalize S:Cs a a.length q o []=V;have P:Nj (Cs a a.length q o []=V):=S;have HZ:Nj ((Ai a (n-1)).sort=0):=hz;have K:Nj (Ax c s g n d q o w):=l;have N:Nj (AA g n d a w):=m;have a2:Nj (n=a.length):=Y;clear S hz l m Y;go_enter Tryz.func29,Tryz.ntmps29;go_wp2;go_loopw [3] (fun v wr=>∃(k f:Nat) (i:List Tk),k<n∧i.length≤k∧Nj (Ax c s g n d k o wr)∧Nj (AA g n d a wr)∧wr.ownsRow w.heap.size 52 3 v i.length (A3 i)∧Ab (fun k=>k=c) w wr∧n-1-k≤f∧Nj (Cs a f k o i=V)) (fun _ wr=>n-Hb c wr)
 case atStart=>exact ⟨q,a.length,[],hc,by simp,K,N,World.ownsRow_nil _ _ _ _,Ab.refl _ _,by have:=a2.o;omega,P⟩
 case round=>
  obtain ⟨k,f,i,C,b5,l,m,u,G,hf,z⟩:=hrel;clear P K N;obtain ⟨t0,t1,t2⟩:=m.o.cells C;have r0:=Aj l.o 0;have r1:=Aj l.o 1;have F:=Aj l.o 2;simp only [Ni,Ng,Nh] at r0 r1 F;have T:=Gp l.o;have a0:Nj (Hb c wr=k):=T;clear T;cases o with
  | some b=>
    simp only [Dv] at F;have hb:decide ((b:Int)<0)=false:=by simp
    have I:V=(i,k,some b):=by rw [←z.o,DC (by simp)]
    subst I;clear z;go_wp2_with fail;go_quiet (fail);go_wp2_with fail;refine (EG c s g n d k (some b) a _ [41] (by simp) (wr.drewN nq) l.o m.o C).mono ?_;rintro e t ⟨rfl,y,r⟩;go_wp2_with fail;go_ret;refine ⟨_,rfl,?_,y,(G.drewN nq).trans r⟩;exact Ac (w:=wr.drewN nq) u r (fun j p=>by have:=(u.lt j p).1;omega)
  | none=>
    simp only [Dv] at F;by_cases B:(Ai a k).sort=1
    ·have R:(((Ai a k).sort:Int)==1)=true:=by simp [B]
     obtain ⟨a7,Q,a5,U⟩:=JJ (acc:=i) hf C HZ.o ⟨rfl,B⟩;have HF:Nj (Cs a Q (k+1) none (i++[Ai a k])=V):=by rw [←U];exact z.o
     have HG:Nj (BO a k none 1=(Ai a k,k+1,none)):=by show _=_;simp [BO,B]
     clear z U B;go_wp2_with fail;go_quiet (fail);go_wp2_with fail;refine (FE c s g n d k 1 none a (wr.drewN nq) l.o m.o C).mono ?_;rw [HG.o];rintro e t ⟨rfl,y,r⟩;have D:=Ac (w:=wr.drewN nq) u r (fun j p=>by have:=(u.lt j p).1;omega);have H:=(G.drewN nq).trans r;have L:Nj (Ax c s g n d (k+1) none t):=y;have O:Nj (AA g n d a t):=(AA.d7 (w:=wr.drewN nq) m.o r a8);have b6:=H.size;have b4:c<t.heap.size:=Ad y;clear y r t0 t1 t2 r0 r1 F l m R;unfold EW;go_wp2_with (at_builtin;refine wpList_append_own _ rfl _ _ 27 rfl w.heap.size 52 i0 (.agg #[.string ByteArray.empty,.int .i64 0,.int .i64 0]) 3 32 Tryz.underlying27 hi b1 b2 b3 rfl (by decide) _ _ _ rfl ((D.alloc _).alloc _) ⟨t.heap.size+1,0,none⟩ 1 1 [.string (Ai a k).d9,.int .i64 ((Ai a k).pos:Int),.int .i64 ((Ai a k).sort:Int)] rfl rfl (BJ (by simp) _ _ _ _) (fun x hx=>by simp at hx;rcases hx with rfl | rfl | rfl<;>rfl) (by unfold maxLen;omega) (by omega) (by simp;omega) ?_;intro v' A Z E a9);have b0:Ab (fun k=>k=c) w A:=Ab.grown ((H.alloc _).alloc _) E (fun j p=>.inr (D.lt j p).1);have W:∀j,j<t.heap.size→some j≠u3.ownBlock→A.heap[j]? =t.heap[j]? :=fun j p a6=>(E.block j (by simp;omega) a6).trans ((Below.heap_alloc _ _ _ (by simp;omega)).trans (Below.heap_alloc _ _ _ p))
     have M:Nj (Ax c s g n d (k+1) none A):=by show _=_;rw [W c b4 (fun h=>by have:=(D.lt _ h.symm).1;omega)];exact L.o
     have a4:Nj (AA g n d a A):=by refine AA.d7 (w:=t) (X:=fun j=>u3.ownBlock=some j) O.o ?_ (fun h=>by have:=(D.lt _ h).1;omega);exact Ab.grown (((Ab.refl _ _).alloc _).alloc _) E (fun j p=>.inl p)
     have a3:Nj (A.ownsRow w.heap.size 52 3 v' (i.length+1) (A3 i++CT (Ai a k))):=Z;have a1:Nj (Hb c A=k+1):=Gp M.o;clear E a9 Z W u D L O H;go_wp2;go_roundw
     case rel=>exact ⟨k+1,Q,i++[Ai a k],a7,by simp;omega,M,a4,by rw [BM,List.length_append];exact a3.o,b0,a5,HF⟩
     case measure=>rw [a1.o,a0.o];omega
    ·have R:(((Ai a k).sort:Int)==1)=false:=by simp;omega
     have I:V=(i,k,none):=by rw [←z.o,DC (fun h=>B h.2)]
     subst I;clear z;go_wp2_with fail;go_quiet (fail);go_wp2_with fail;refine (EG c s g n d k none a _ [41] (by simp) (wr.drewN nq) l.o m.o C).mono ?_;rintro e t ⟨rfl,y,r⟩;go_wp2_with fail;go_ret;refine ⟨_,rfl,?_,y,(G.drewN nq).trans r⟩;exact Ac (w:=wr.drewN nq) u r (fun j p=>by have:=(u.lt j p).1;omega)
def AB(t:Tk):List UInt8:=if t.sort=2∨t.sort=4 then t.d9.toList else []
structure St where
 i9:Nat
 l6:Option Nat
 pl:Nat
 ca:Nat
def Ao(d:List Tk)(l:List UInt8)(x:St):St:=⟨(C0 d x.i9 x.l6 l).1,(C0 d x.i9 x.l6 l).2,x.pl,x.ca⟩
def Bc(d:List Tk)(a:Nat)(x:St):Tk×St:=((BO d x.i9 x.l6 a).1,⟨(BO d x.i9 x.l6 a).2.1,(BO d x.i9 x.l6 a).2.2,x.pl,x.ca⟩)
def Bv(d:List Tk)(x:St):List Tk×St:=((BE d x.i9 x.l6).1,⟨(BE d x.i9 x.l6).2.1,(BE d x.i9 x.l6).2.2,x.pl,x.ca⟩)
theorem KM{d n a b c}(g:(Ai d (n-1)).sort=0)(k:b≠0)(e:a<n):a≤(BO d a c b).2.1∧(BO d a c b).2.1<n:=by
 unfold BO;split
 ·rename_i h;have i:a≠n-1:=by rintro rfl;rw [g] at h;omega
  exact ⟨by simp,by simp only;omega⟩
 ·exact ⟨Nat.le_refl _,e⟩
theorem J2{d n a b}(g:(Ai d (n-1)).sort=0)(h:a<n):a≤(BE d a b).2.1∧(BE d a b).2.1<n:=by have c:=Iw g d.length a b [] h;have e:=Ii (bad:=(Cs d d.length a b []).2.2) (l:=[41]) g c.2.1;unfold BE;exact ⟨Nat.le_trans c.1 e.1,e.2⟩
def Ih(l:List UInt8)(a:Nat):Nat→Nat
 | 0=>a
 | k+1=>if l=[UInt8.ofNat (48+k)] then k else Ih l a k
def CM(d:List Tk)(x:St)(s:FS):FS×St:=
 if AB (Ai d x.i9)=[110,101,119] then
  let b:=Ao d [110,101,119] x
  ({s with kind:=2,f8:=b.pl+1},{b with pl:=b.pl+1})
 else if AB (Ai d x.i9)=[38] then
  let b:=Ao d [38] x
  let a:=Bc d 1 b
  if AW a.2.l6 (Ai d a.2.i9) [46]=true then
   let m:=Ao d [46] a.2
   let k:=Bc d 3 m
   ({s with kind:=4,q:=a.1,field:=Ih k.1.d9.toList s.field 4},k.2)
  else ({s with kind:=3,q:=a.1},a.2)
 else if AB (Ai d x.i9)=[42] then
  let b:=Ao d [42] x
  let a:=Bc d 1 b
  ({s with kind:=5,q:=a.1},a.2)
 else if AB (Ai d x.i9)=[64] then
  let b:=Ao d [64] x
  let a:=Bc d 1 b
  ({s with kind:=6,q:=a.1},a.2)
 else if AB (Ai d x.i9)=[40] then
  let b:=Ao d [40] x
  let g:=Ao d [42] b
  let e:=Bc d 1 g
  let n:=Ao d [41] e.2
  let h:=Ao d [40] n
  let i:St:={h with ca:=h.ca+1}
  let l:=Bv d i
  ({s with kind:=9,q:=e.1,f8:=i.ca,args:=l.1},l.2)
 else
  let c:=Bc d 1 x
  if AW c.2.l6 (Ai d c.2.i9) [40]=true then
   let g:=Ao d [40] c.2
   let e:=Bv d g
   ({s with kind:=8,q:=c.1,args:=e.1},e.2)
  else ({s with kind:=7,q:=c.1},c.2)
def Cr(s:FS)(a b c:Value):Array Value:=
 #[.int .i64 s.kind,.string s.p.d9,.int .i64 s.p.pos,.int .i64 s.p.sort,.string s.q.d9,.int .i64 s.q.pos,.int .i64 s.q.sort,.int .i64 s.field,a,.int .i64 s.f8,b,c,.int .i64 s.br,.int .i64 s.y8,.int .i64 s.r9]
def Bj(f:Nat)(p v:Value)(b a:Nat)(w:World):Prop:=w.heap[f]? =some (.cells #[p,v,.int .i64 b,.int .i64 a] 50 (0,0))
theorem Bj.i6{f p v b a w}(h:Bj f p v b a w):Aq f #[p,v,.int .i64 b,.int .i64 a] 50 w:=h
theorem Ax.i6{j f g n o b a w}(h:Ax j f g n o b a w):Aq j #[.slice (some ⟨g,0,none⟩) n o,.int .i64 b,.int .i64 (Dv a),.pointer (some ⟨f,0,none⟩)] 78 w:=h
structure VF(j f y A g n o:Nat)(d:List Tk)(p v:Value)(x:St)(C B:Array Value)(w:World):Prop where
 rd:Ax j f g n o x.i9 x.l6 w
 tk:AA g n o d w
 pr:Bj f p v x.pl x.ca w
 sx:Aq y C 87 w
 ox:Aq A B 87 w
 ne:y≠A
section
variable {j f y A g n o : Nat} {d : List Tk} {p v : Value} {x : St} {C B : Array Value} {w D : World}
theorem VF.u5(h:VF j f y A g n o d p v x C B w):g≠j∧f≠j∧y≠j∧A≠j∧g≠f∧y≠f∧A≠f∧g≠y∧g≠A:=
 ⟨h.tk.ne h.rd (by decide),h.pr.i6.ne h.rd.i6 (by decide),h.sx.ne h.rd.i6 (by decide),h.ox.ne h.rd.i6 (by decide),h.tk.ne h.pr (by decide),h.sx.ne h.pr.i6 (by decide),h.ox.ne h.pr.i6 (by decide),h.tk.ne h.sx (by decide),h.tk.ne h.ox (by decide)⟩
theorem VF.call{c b}(h:VF j f y A g n o d p v x C B w)(e:Ab (fun k=>k=j) w D)(i:Ax j f g n o c b D):VF j f y A g n o d p v ⟨c,b,x.pl,x.ca⟩ C B D:=by have a:=h.u5;exact ⟨i,h.tk.d7 e a.1,h.pr.i6.d7 e a.2.1,h.sx.d7 e a.2.2.1,h.ox.d7 e a.2.2.2.1,h.ne⟩
theorem VF.quiet(h:VF j f y A g n o d p v x C B w)(a:Ab (fun _=>False) w D):VF j f y A g n o d p v x C B D:=
 ⟨h.rd.d7 a (fun q=>q),h.tk.d7 a (fun q=>q),h.pr.i6.d7 a (fun q=>q),h.sx.d7 a (fun q=>q),h.ox.d7 a (fun q=>q),h.ne⟩
theorem VF.m9(h:VF j f y A g n o d p v x C B w)(i u):VF j f y A g n o d p v x (C.setIfInBounds i u) B (w.setCell ⟨y,i,none⟩ u):=by have a:=h.u5;exact ⟨h.rd.i6.r7 i u a.2.2.1.symm,h.tk.d7 ((Ab.refl (fun k=>k=y) w).i7 i u) a.2.2.2.2.2.2.2.1,h.pr.i6.r7 i u a.2.2.2.2.2.1.symm,h.sx.set i u,h.ox.r7 i u h.ne.symm,h.ne⟩
theorem VF.MF(h:VF j f y A g n o d p v x C B w)(m):VF j f y A g n o d p v ⟨x.i9,x.l6,m,x.ca⟩ C B (w.setCell ⟨f,2,none⟩ (.int .i64 m)):=by have a:=h.u5;exact ⟨h.rd.i6.r7 2 _ a.2.1.symm,h.tk.d7 ((Ab.refl (fun k=>k=f) w).i7 2 _) a.2.2.2.2.1,h.pr.i6.set 2 _,h.sx.r7 2 _ a.2.2.2.2.2.1,h.ox.r7 2 _ a.2.2.2.2.2.2.1,h.ne⟩
theorem VF.MV(h:VF j f y A g n o d p v x C B w){u:Int}{m:Nat}(a:u=m):VF j f y A g n o d p v ⟨x.i9,x.l6,m,x.ca⟩ C B (w.setCell ⟨f,2,none⟩ (.int .i64 u)):=by subst a;exact h.MF m
theorem VF.ME(h:VF j f y A g n o d p v x C B w)(m):VF j f y A g n o d p v ⟨x.i9,x.l6,x.pl,m⟩ C B (w.setCell ⟨f,3,none⟩ (.int .i64 m)):=by have a:=h.u5;exact ⟨h.rd.i6.r7 3 _ a.2.1.symm,h.tk.d7 ((Ab.refl (fun k=>k=f) w).i7 3 _) a.2.2.2.2.1,h.pr.i6.set 3 _,h.sx.r7 3 _ a.2.2.2.2.2.1,h.ox.r7 3 _ a.2.2.2.2.2.2.1,h.ne⟩
theorem VF.MU(h:VF j f y A g n o d p v x C B w){u:Int}{m:Nat}(a:u=m):VF j f y A g n o d p v ⟨x.i9,x.l6,x.pl,m⟩ C B (w.setCell ⟨f,3,none⟩ (.int .i64 u)):=by subst a;exact h.ME m
theorem VF.s8{L a}(h:VF j f y A g n o d p v x C B w)(e:Ao d L x=a)(b:Ab (fun k=>k=j) w D)(c:Ax j f g n o (C0 d x.i9 x.l6 L).1 (C0 d x.i9 x.l6 L).2 D):VF j f y A g n o d p v a C B D:=by subst e;exact h.call b c
theorem VF.get{k q a}(h:VF j f y A g n o d p v x C B w)(i:Bc d k x=(q,a))(b:Ab (fun k=>k=j) w D)(c:Ax j f g n o (BO d x.i9 x.l6 k).2.1 (BO d x.i9 x.l6 k).2.2 D):VF j f y A g n o d p v a C B D:=by have e:a=⟨(BO d x.i9 x.l6 k).2.1,(BO d x.i9 x.l6 k).2.2,x.pl,x.ca⟩:=(congrArg Prod.snd i).symm;subst e;exact h.call b c
theorem VF.list{q a}(h:VF j f y A g n o d p v x C B w)(i:Bv d x=(q,a))(b:Ab (fun k=>k=j) w D)(c:Ax j f g n o (BE d x.i9 x.l6).2.1 (BE d x.i9 x.l6).2.2 D):VF j f y A g n o d p v a C B D:=by have e:a=⟨(BE d x.i9 x.l6).2.1,(BE d x.i9 x.l6).2.2,x.pl,x.ca⟩:=(congrArg Prod.snd i).symm;subst e;exact h.call b c
end
theorem Bo{d n x a L}(c:Ao d L x=a)(e:(Ai d (n-1)).sort=0)(b:x.i9<n):a.i9<n:=by subst c;exact (Ii e b).2
theorem C5{d n k x a q}(g:Bc d k x=(q,a))(c:k≠0)(h:(Ai d (n-1)).sort=0)(b:x.i9<n):a.i9<n:=by have e:a.i9=(BO d x.i9 x.l6 k).2.1:=congrArg (fun z=>z.2.i9) g.symm;rw [e];exact (KM h c b).2
theorem DB{d n x a q}(c:Bv d x=(q,a))(g:(Ai d (n-1)).sort=0)(b:x.i9<n):a.i9<n:=by have e:a.i9=(BE d x.i9 x.l6).2.1:=congrArg (fun z=>z.2.i9) c.symm;rw [e];exact (J2 g b).2
theorem Ab.ML{j f a w}(h:Ab (fun k=>k=j∨k=f) a w)(i u):Ab (fun k=>k=j∨k=f) a (w.setCell ⟨f,i,none⟩ u):=h.setCell (.inr rfl |> .inl) u
abbrev AG:Value:=.slice none 0 0
def JO(j f g n o:Nat)(d:List Tk)(p v:Value)(w:World)(r:FS×St)(e:Ending)(D:World):Prop:=
 ∃a,e=.returned (.agg (Cr r.1 a AG AG))∧D.ownsRow w.heap.size 52 3 a r.1.args.length (A3 r.1.args)∧Ax j f g n o r.2.i9 r.2.l6 D∧AA g n o d D∧Bj f p v r.2.pl r.2.ca D∧Ab (fun k=>k=j∨k=f) w D
abbrev zS:Array Value:=#[.int .i64 0,.string {data:=#[]},.int .i64 0,.int .i64 0,.string {data:=#[]},.int .i64 0,.int .i64 0,.int .i64 0,AG,.int .i64 0,AG,AG,.int .i64 0,.int .i64 0,.int .i64 0]
def BQ(a:Nat)(b:Int):FS:=⟨0,GE,GE,0,[],0,[],[],b,b,a⟩
abbrev LV:List UInt8:=[105,102]
abbrev Ew:List UInt8:=[119,104,105,108,101]
abbrev Dg:List UInt8:=[101,108,115,101]
abbrev Kq:List UInt8:=[118,97,114]
abbrev Ea:List UInt8:=[114,101,116,117,114,110]
def Bw(a:List Tk)(b:Nat)(x:St):FS×St:=
 if AB (Ai a x.i9)=Kq then
  let y:=Bc a 1 (Ao a Kq x)
  ({BQ b (-1) with kind:=1,p:=y.1},y.2)
 else if AB (Ai a x.i9)=Ea then
  let y:=Bc a 1 (Ao a Ea x)
  ({BQ b (-1) with kind:=11,q:=y.1},y.2)
 else if AB (Ai a x.i9)=[42] then
  let y:=Bc a 1 (Ao a [42] x)
  let z:=Bc a 1 (Ao a [61] y.2)
  ({BQ b (-1) with kind:=10,p:=y.1,q:=z.1},z.2)
 else
  let y:=Bc a 1 x
  CM a (Ao a [61] y.2) {BQ b (-1) with p:=y.1}
mutual
def As(toks:List Tk):Nat→Nat→St→List FS→List Nat→List Nat×St×List FS
 | 0,_,x,fs,out=>(out,x,fs)
 | f+1,inn,x,fs,out=>
   if x.l6≠none∨AW x.l6 (Ai toks x.i9) [125]=true then (out,x,fs)
   else As toks f inn (AO toks f inn x fs).2.1 (AO toks f inn x fs).2.2 (out++[(AO toks f inn x fs).1])
def AO(toks:List Tk):Nat→Nat→St→List FS→Nat×St×List FS
 | 0,_,x,fs=>(fs.length,x,fs)
 | f+1,inn,x,fs=>
   if AB (Ai toks x.i9)=LV∨AB (Ai toks x.i9)=Ew then
    let x2:=Ao toks [63] (Ao toks (AB (Ai toks x.i9)) x)
    let r:=As toks f inn (Ao toks [123] x2) (fs++[BQ 0 0]) []
    let x3:=Ao toks [125] r.2.1
    let s:FS:={BQ inn (-1) with kind:=13,br:=(Ai toks x2.i9).pos,p8:=r.1}
    if AB (Ai toks x.i9)=LV then
     if AW x3.l6 (Ai toks x3.i9) Dg=true then
      let x4:=Ao toks Dg x3
      let r2:=As toks f inn (Ao toks [123] x4) r.2.2 []
      (fs.length,Ao toks [125] r2.2.1,r2.2.2.set fs.length {s with kind:=12,y8:=(Ai toks x4.i9).pos,other:=r2.1})
     else (fs.length,x3,r.2.2.set fs.length {s with kind:=12})
    else (fs.length,x3,r.2.2.set fs.length s)
   else
    let y:=Bw toks inn x
    (fs.length,Ao toks [59] y.2,(fs++[BQ 0 0]).set fs.length y.1)
end
def Bs(B:Nat)(w:World)(v:Value)(l:List Nat):Prop:=w.ownsRow B 3 1 v l.length (l.map fun i:Nat=>Value.int .i64 (i:Int))
def CP(B:Nat)(w:World)(v:Value)(l:List Tk):Prop:=w.ownsRow B 52 3 v l.length (A3 l)
def De(B:Nat)(U:Nat→Prop)(w:World)(c:List Value)(s:FS):Prop:=
 ∃a b d,c=(Cr s a b d).toList∧CP B w a s.args∧Bs B w b s.p8∧Bs B w d s.other∧∀k,(a.ownBlock=some k∨b.ownBlock=some k∨d.ownBlock=some k)→U k
def A2(B:Nat)(U:Nat→Prop)(w:World)(c:Value)(b:List FS):Prop:=
 ∃a:List (List Value),w.ownsRow B 87 15 c b.length a.flatten∧a.length=b.length∧∀i (h:i<a.length) (d:i<b.length),De B U w a[i] b[i]
theorem De.d7{B:Nat}{U:Nat→Prop}{w g:World}{c:List Value}{s:FS}{X:Nat→Prop}(h:De B U w c s)(e:Ab X w g)(f:∀k a t b,X k→w.heap[k]? =some (.cells a t b)→t≠3∧t≠52):De B U g c s:=by obtain ⟨i,j,r,n,l,m,o,p⟩:=h;exact ⟨i,j,r,n,Am l e (fun k a b d q=>(f k a _ b d q).2 rfl),Am m e (fun k a b d q=>(f k a _ b d q).1 rfl),Am o e (fun k a b d q=>(f k a _ b d q).1 rfl),p⟩
theorem De.MC{B:Nat}{U:Nat→Prop}{w f:World}{c:List Value}{s:FS}{X:Nat→Prop}(h:De B U w c s)(d:Ab X w f)(e:∀k,U k→¬X k):De B U f c s:=by obtain ⟨g,i,o,m,j,l,n,b⟩:=h;exact ⟨g,i,o,m,Ac j d (fun k a=>e k (b k (.inl a))),Ac l d (fun k a=>e k (b k (.inr (.inl a)))),Ac n d (fun k a=>e k (b k (.inr (.inr a)))),b⟩
theorem De.more{B:Nat}{U U':Nat→Prop}{w:World}{c:List Value}{s:FS}(h:De B U w c s)(l:∀k,U k→U' k):De B U' w c s:=by obtain ⟨a,b,m,g,e,f,j,d⟩:=h;exact ⟨a,b,m,g,e,f,j,fun k i=>l k (d k i)⟩
theorem De.length{B:Nat}{U:Nat→Prop}{w:World}{c:List Value}{s:FS}(h:De B U w c s):c.length=15:=by obtain ⟨a,b,d,rfl,_⟩:=h;rfl
end Go.Proofs.YtmaankfbhhbeoaaGreatDoor

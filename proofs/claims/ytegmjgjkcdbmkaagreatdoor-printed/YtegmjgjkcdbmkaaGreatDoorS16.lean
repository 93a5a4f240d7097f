/- One of the texts of the proof: AnW AnX AnY AnZ ArA ArB ArC. -/
import Derived.Test.YtegmjgjkcdbmkaaGreatDoorS15
import Derived.Test.YtegmjgjkcdbmkaaGreatDoorS20
set_option maxRecDepth 100000
set_option maxHeartbeats 4000000
namespace Go.Proofs.YtegmjgjkcdbmkaaGreatDoor
open Go.RowKit Go.Maps
def Sv.zero:Sv:=⟨⟨fun _ _=>False,fun _ _=>False,fun _ _=>False⟩,fun _ _=>False,fun _ _=>False⟩
theorem XT(P:List PFn)(X):Bs P X Sv.zero:=⟨⟨fun _ _ q=>q.elim,fun _ _ q=>q.elim,fun _ _ q=>q.elim⟩,fun _ _ q=>q.elim,fun _ _ _ q=>q.elim,fun _ _ _ q=>q.elim⟩
theorem XU(P:List PFn){o:So}(h:∀c,o.rl c=[]):Ph P o Sv.zero (fun _=>False) 0:=⟨fun _ _ q=>q.elim,XT P _,fun _ _ q=>q.elim,fun _ q=>q.elim,fun c=>by rw [h];exact rN _⟩
def So.ini(n:Nat):So:=⟨fun t=>if t=4 then n+6 else if t=5 then n+5 else n+1+t,fun _ _=>none,fun _=>none,fun _=>[]⟩
theorem So.ini_inj{n t a:Nat}(_ht:t≤5)(_ht':a≤5)(h:(So.ini n).om t=(So.ini n).om a):t=a:=by unfold So.ini at h;dsimp only at h;split at h<;>split at h<;>(try split at h)<;>(try split at h)<;>omega
theorem So.ini_own{n a k:Nat}(h:(So.ini n).own a k)(b:a=n+7):n<k∧k≤n+7:=by
 rcases h with q | ⟨t,d,q⟩ | ⟨t,i,q⟩ | ⟨c,t,q,_⟩
 ·omega
 ·unfold So.ini at q;dsimp only at q;split at q
  ·omega
  ·split at q<;>omega
 ·cases q
 ·cases q
theorem Dl.ini{n:Nat}{g:Value}{j l f:Nat}{w:World}(o:Ak (n+7) (Gf (So.ini n) g j l f) 144 w)(h:∀k,n<k→k≤n+6→w.heap[k]? =some (.map #[] 0)):Dl (n+7) g j l f (So.ini n) (fun _ _=>False) (fun _ _=>False) w:=by
 have b:∀t,t≤5→n<(So.ini n).om t∧(So.ini n).om t≤n+6:=fun t c=>by
  unfold So.ini;dsimp only;split
  ·omega
  ·split<;>omega
 exact {s9:=o,mp:=fun t c=>Bv.new (h _ (b t (by omega)).1 (b t (by omega)).2),st:=fun t i k a=>(by cases a),dj:=fun t i m r k a=>(by cases a),oj:=fun t m c p e=>So.ini_inj c p e,ne:=fun t i k m a=>(by cases a),t4:=fun t i k a=>(by cases a),d:=fun t i=>⟨fun ⟨k,a⟩=>(by cases a),fun q=>q.elim⟩,fm:=Bv.new (h _ (b 5 (by omega)).1 (b 5 (by omega)).2),f0:=fun _=>rfl,r0:=fun _=>rfl}
theorem VJ{P:List PFn}{f x:Nat}(h:Ey P f x):f<P.length:=by obtain ⟨s,a,_⟩:=h;apply Classical.byContradiction;intro q;unfold Ap at a;rw [List.getElem?_eq_none (by omega)] at a;cases a
theorem Eb{a:Nat}{W:World}(h:∀k,a≤k→k<W.heap.size→W.heap[k]? =some (.map #[] 0)):∀k,a≤k→k<(W.alloc (.map #[] 0)).heap.size→(W.alloc (.map #[] 0)).heap[k]? =some (.map #[] 0):=fun k b c=>by
 by_cases e:k=W.heap.size
 ·rw [e];exact heap_alloc_new W _
 ·simp only [World.size_alloc] at c;rw [Below.heap_alloc _ _ _ (by omega)];exact h k b (by omega)
theorem Dl.fin{P:List PFn}{z:Nat}{m:Value}{v j g:Nat}{o:So}{a l:Nat→Nat→Prop}{w:World}(h:Dl z m v j g o a l w)(A:∀c t,t=0∨t=3→(a t c↔A8 P j c))(B:∀n,a 1 n↔1≤n∧n≤g)(p:∀f,a 4 f↔f<P.length)(C:∀c,¬a 2 c)(s:∀i x,l i x↔Ey P i x):Bp P z m v j g o Sv.zero w:=by
 have y:∀c k,o.bk 2 c≠some k:=fun c k q=>C c ((h.d 2 c).1 ⟨k,q⟩)
 refine {s9:=h.s9,mp:=h.mp,st:=fun t i k d=>(h.st t i k d).iff fun x=>?_,dj:=h.dj,oj:=h.oj,ne:=h.ne,t4:=h.t4,d0:=fun c t u=>(h.d t c).trans (A c t u),d1:=fun n=>(h.d 1 n).trans (B n),d4:=fun f=>(h.d 4 f).trans (p f),d2:=fun c k d=>absurd d (y c k),ins:=fun t i x u q=>?_,fm:=h.fm,fr:=fun c t b=>(by rw [h.f0] at b;cases b),fj:=fun c E t F b=>(by rw [h.f0] at b;cases b),f0:=fun c _=>h.r0 c,fvr:=fun c r=>by rw [h.r0];simp [Sv.zero]}
 ·have D:=h.t4 t i k d;have G:t≠2:=fun e=>y i k (e▸d)
  constructor
  ·rintro ⟨e,q⟩;subst e;simp only [BF,Nat.reduceEqDiff,false_implies,true_and,forall_const];exact (s i x).1 q
  ·intro q;by_cases e:t=4
   ·exact ⟨e,(s i x).2 (q.2.2.2.2 e)⟩
   ·have:t=0∨t=1∨t=3:=by omega
    rcases this with e | e | e
    ·exact (q.1 e).elim
    ·exact (q.2.1 e).elim
    ·exact (q.2.2.2.1 e).elim
 ·have:t=0∨t=1∨t=2∨t=3∨t=4:=by omega
  rcases this with e | e | e | e | e
  ·exact (q.1 e).elim
  ·exact (q.2.1 e).elim
  ·exact (q.2.2.1 e).elim
  ·exact (q.2.2.2.1 e).elim
  ·subst e;exact (h.d 4 i).2 ((p i).2 (VJ (q.2.2.2.2 rfl)))
theorem LB(P:List PFn)(T:Value)(m d g:Nat)(w:World)(A:AnOk P d g)(hp:Bh 0 w T P)(tb:JL w)(tl:0<w.heap.size):
 Calls Tryz.prog 58 #[.agg #[T,.int .i64 m,.int .i64 d,.int .i64 g]] w fun e w'=>∃u o,e=.returned (.pointer (some ⟨u,0,none⟩))∧Dn P u T m d g o Sv.zero w'∧(∀k,o.own u k→w.heap.size≤k)∧Ab (fun _=>False) w w'∧Ph P o Sv.zero (fun _=>False) 0:=by
 obtain ⟨p,fl,r,c5,c3⟩:∃a l c,T=.slice a l c∧l=P.length:=by obtain ⟨cs,q,_⟩:=hp;obtain ⟨a,l,c,e⟩:=Ad q;rw [e] at q;exact ⟨a,l,c,e,Aq q⟩
 subst c3;subst c5;have d3:=A.bA;have d7:=A.lp;have d6:=A.lc;have d5:=@run_makeMap Tryz.prog;have HA:=Aa A;have HP:=Aa hp;have HT:=Aa tb;clear A hp tb;go_enter Tryz.func58,Tryz.ntmps58;go_upto_region 2 with fail;have Z:(((((((w.alloc (.cells #[.slice p P.length r,.int .i64 m,.int .i64 d,.int .i64 g] 89)).alloc (.map #[] 0)).alloc (.map #[] 0)).alloc (.map #[] 0)).alloc (.map #[] 0)).alloc (.map #[] 0)).alloc (.map #[] 0)).heap.size=w.heap.size+7:=by simp
 have b0:Ak (w.heap.size+7) (Gf (So.ini w.heap.size) (.slice p P.length r) m d g) 144 ((((((((w.alloc (.cells #[.slice p P.length r,.int .i64 m,.int .i64 d,.int .i64 g] 89)).alloc (.map #[] 0)).alloc (.map #[] 0)).alloc (.map #[] 0)).alloc (.map #[] 0)).alloc (.map #[] 0)).alloc (.map #[] 0)).alloc (.cells #[.slice p P.length r,.int .i64 m,.int .i64 d,.int .i64 g,.map (some (w.heap.size+1)),.map (some (w.heap.size+1+1)),.map (some (w.heap.size+1+1+1)),.map (some (w.heap.size+1+1+1+1)),.map (some (w.heap.size+1+1+1+1+1)),.map (some (w.heap.size+1+1+1+1+1+1))] 144)):=by have q:=Ak.new (((((((w.alloc (.cells #[.slice p P.length r,.int .i64 m,.int .i64 d,.int .i64 g] 89)).alloc (.map #[] 0)).alloc (.map #[] 0)).alloc (.map #[] 0)).alloc (.map #[] 0)).alloc (.map #[] 0)).alloc (.map #[] 0)) #[.slice p P.length r,.int .i64 m,.int .i64 d,.int .i64 g,.map (some (w.heap.size+1)),.map (some (w.heap.size+1+1)),.map (some (w.heap.size+1+1+1)),.map (some (w.heap.size+1+1+1+1)),.map (some (w.heap.size+1+1+1+1+1)),.map (some (w.heap.size+1+1+1+1+1+1))] 144;rw [Z] at q;exact q
 have V:Ak w.heap.size #[.slice p P.length r,.int .i64 m,.int .i64 d,.int .i64 g] 89 ((((((((w.alloc (.cells #[.slice p P.length r,.int .i64 m,.int .i64 d,.int .i64 g] 89)).alloc (.map #[] 0)).alloc (.map #[] 0)).alloc (.map #[] 0)).alloc (.map #[] 0)).alloc (.map #[] 0)).alloc (.map #[] 0)).alloc (.cells #[.slice p P.length r,.int .i64 m,.int .i64 d,.int .i64 g,.map (some (w.heap.size+1)),.map (some (w.heap.size+1+1)),.map (some (w.heap.size+1+1+1)),.map (some (w.heap.size+1+1+1+1)),.map (some (w.heap.size+1+1+1+1+1)),.map (some (w.heap.size+1+1+1+1+1+1))] 144)):=(((((((Ak.new w _ _).alloc _).alloc _).alloc _).alloc _).alloc _).alloc _).alloc _;have b3:∀k,w.heap.size<k→k≤w.heap.size+6→((((((((w.alloc (.cells #[.slice p P.length r,.int .i64 m,.int .i64 d,.int .i64 g] 89)).alloc (.map #[] 0)).alloc (.map #[] 0)).alloc (.map #[] 0)).alloc (.map #[] 0)).alloc (.map #[] 0)).alloc (.map #[] 0)).alloc (.cells #[.slice p P.length r,.int .i64 m,.int .i64 d,.int .i64 g,.map (some (w.heap.size+1)),.map (some (w.heap.size+1+1)),.map (some (w.heap.size+1+1+1)),.map (some (w.heap.size+1+1+1+1)),.map (some (w.heap.size+1+1+1+1+1)),.map (some (w.heap.size+1+1+1+1+1+1))] 144)).heap[k]? =some (.map #[] 0):=fun k h1 h2=>by rw [Below.heap_alloc _ _ _ (by rw [Z];omega)];refine Eb (a:=w.heap.size+1) (Eb (Eb (Eb (Eb (Eb (fun k b h=>?_)))))) k (by omega) (by rw [Z];omega);simp only [World.size_alloc] at h;omega
 have a2:Ab (fun _=>False) w ((((((((w.alloc (.cells #[.slice p P.length r,.int .i64 m,.int .i64 d,.int .i64 g] 89)).alloc (.map #[] 0)).alloc (.map #[] 0)).alloc (.map #[] 0)).alloc (.map #[] 0)).alloc (.map #[] 0)).alloc (.map #[] 0)).alloc (.cells #[.slice p P.length r,.int .i64 m,.int .i64 d,.int .i64 g,.map (some (w.heap.size+1)),.map (some (w.heap.size+1+1)),.map (some (w.heap.size+1+1+1)),.map (some (w.heap.size+1+1+1+1)),.map (some (w.heap.size+1+1+1+1+1)),.map (some (w.heap.size+1+1+1+1+1+1))] 144)):=(by repeat (first | exact Ab.refl _ _ | refine Ab.drew ?_ | refine Ab.drewN ?_ _ | refine Ab.alloc ?_ _));have d1:((((((((w.alloc (.cells #[.slice p P.length r,.int .i64 m,.int .i64 d,.int .i64 g] 89)).alloc (.map #[] 0)).alloc (.map #[] 0)).alloc (.map #[] 0)).alloc (.map #[] 0)).alloc (.map #[] 0)).alloc (.map #[] 0)).alloc (.cells #[.slice p P.length r,.int .i64 m,.int .i64 d,.int .i64 g,.map (some (w.heap.size+1)),.map (some (w.heap.size+1+1)),.map (some (w.heap.size+1+1+1)),.map (some (w.heap.size+1+1+1+1)),.map (some (w.heap.size+1+1+1+1+1)),.map (some (w.heap.size+1+1+1+1+1+1))] 144)).heap.size=w.heap.size+8:=by simp
 have U:=Dl.ini b0 b3;clear b0 b3 Z;obtain ⟨u,a5⟩:∃u,u=w.heap.size+1+1+1+1+1+1+1:=⟨_,rfl⟩;have Y:u=w.heap.size+7:=a5;rw [←Y] at U;rw [←a5];generalize ((((((((w.alloc (.cells #[.slice p P.length r,.int .i64 m,.int .i64 d,.int .i64 g] 89)).alloc (.map #[] 0)).alloc (.map #[] 0)).alloc (.map #[] 0)).alloc (.map #[] 0)).alloc (.map #[] 0)).alloc (.map #[] 0)).alloc (.cells #[.slice p P.length r,.int .i64 m,.int .i64 d,.int .i64 g,.map (some (w.heap.size+1)),.map (some (w.heap.size+1+1)),.map (some (w.heap.size+1+1+1)),.map (some (w.heap.size+1+1+1+1)),.map (some (w.heap.size+1+1+1+1+1)),.map (some (w.heap.size+1+1+1+1+1+1))] 144))=z at*;have a1:¬(So.ini w.heap.size).own u w.heap.size:=fun q=>by have:=So.ini_own q Y;omega
 have b1:∀k,(So.ini w.heap.size).own u k→w.heap.size≤k:=fun k q=>by have:=So.ini_own q Y;omega
 generalize So.ini w.heap.size=D at*;have f0:=V.cell 0;have b7:=Ae V;simp only [dM,dJ] at f0;have c1:=Aa (HP.o.i9 a2);have c0:=Aa U;have S:=Aa V;have I:=Aa a2;have a7:=Aa b1;have d2:w.heap.size<z.heap.size:=by omega
 have M0:dN (Cv u (.slice p P.length r) m d g D D (fun t i=>((t=0∨t=3)∧∃f j,f<0∧j<(Ap P f).l8.length∧i=vN f j)∨(t=4∧i<0)) (fun i x=>i<0∧Ey P i x) z z):=(Cv.rf U).iff (fun t i=>⟨False.elim,fun q=>by rcases q with ⟨_,f,j,q,_⟩ | ⟨_,q⟩<;>omega⟩) (fun i x=>⟨False.elim,fun q=>by omega⟩)
 clear U V a2 a5 Y d1 b1;obtain ⟨nb,X⟩:∃nb,nb=w.heap.size:=⟨_,rfl⟩;rw [←X] at a1 d2 f0 b7⊢;have S:dN (Ak nb #[.slice p P.length r,.int .i64 m,.int .i64 d,.int .i64 g] 89 z):=by rw [X];exact S.o
 have a8:=Aa X;clear X;go_wp2_with fail;clear f0 b7;go_loopw [20] (fun i wr=>∃(k:Nat) (O:So),k≤P.length∧i=.int .i64 k∧dN (Cv u (.slice p P.length r) m d g D O (fun t i=>((t=0∨t=3)∧∃f j,f<k∧j<(Ap P f).l8.length∧i=vN f j)∨(t=4∧i<k)) (fun i x=>i<k∧Ey P i x) z wr)) (fun i _=>P.length-(intOf i).toNat)
 case atStart=>exact ⟨0,D,by omega,rfl,M0⟩
 case round=>
  clear M0;obtain ⟨k,O,hk,rfl,G⟩:=hrel;by_cases W:k<P.length
  ·have a0:(k:Int)<(P.length:Int):=by omega
   have M:k+1≤P.length:=W;have c2:=Aa (c1.o.O G.o.on c0.o.noPlan);have hD:∀t,t=0∨t=3→∀i,i<12→¬(fun t i=>((t=0∨t=3)∧∃f j,f<k∧j<(Ap P f).l8.length∧i=vN f j)∨(t=4∧i<k)) t (vN k i):=fun t ht i hi q=>by
    rcases q with ⟨_,f,j,b,h,s⟩ | ⟨q,_⟩
    ·have:=HA.o.ok.l8 f;unfold vN at s;omega
    ·omega
   have HD:=Aa hD;clear hD;go_wp2_with fail;refine (JM P u (.slice p P.length r) m d g O (fun t i=>((t=0∨t=3)∧∃f j,f<k∧j<(Ap P f).l8.length∧i=vN f j)∨(t=4∧i<k)) (fun i x=>i<k∧Ey P i x) wr HA.o G.o.c c2.o k W (fun i hi=>⟨HD.o 0 (.inl rfl) i hi,HD.o 3 (.inr rfl) i hi⟩) (fun x q=>by omega)).mono ?_;rintro e w2 ⟨rfl,F,s2⟩;have H:dN (Cv u (.slice p P.length r) m d g D F (fun t i=>((t=0∨t=3)∧∃f j,f<k+1∧j<(Ap P f).l8.length∧i=vN f j)∨(t=4∧i<k+1)) (fun i x=>i<k+1∧Ey P i x) z w2):=(G.o.trans s2).iff (fun t i=>by
    constructor
    ·rintro ((⟨b,f,j,h,s⟩ | ⟨b,h⟩) | ⟨b,j,h,s⟩ | ⟨b,h⟩)
     ·exact .inl ⟨b,f,j,by omega,s⟩
     ·exact .inr ⟨b,by omega⟩
     ·exact .inl ⟨b,k,j,by omega,h,s⟩
     ·exact .inr ⟨b,by omega⟩
    ·rintro (⟨b,f,j,h,s,E⟩ | ⟨b,h⟩)
     ·by_cases e:f=k
      ·subst e;exact .inr (.inl ⟨b,j,s,E⟩)
      ·exact .inl (.inl ⟨b,f,j,by omega,s,E⟩)
     ·by_cases e:i=k
      ·exact .inr (.inr ⟨b,e⟩)
      ·exact .inl (.inr ⟨b,by omega⟩)) (fun i x=>by
    constructor
    ·rintro (⟨b,h⟩ | ⟨b,h⟩)
     ·exact ⟨by omega,h⟩
     ·exact ⟨by omega,by rw [b];exact h⟩
    ·rintro ⟨b,h⟩;by_cases e:i=k
     ·subst e;exact .inr ⟨rfl,h⟩
     ·exact .inl ⟨by omega,h⟩)
   clear s2 G;go_wp2_with fail;go_roundw
   case rel=>exact ⟨k+1,F,M,by go_num,H⟩
   case measure=>simp [intOf];omega
  ·have e:k=P.length:=by omega
   subst e;have a0:decide ((P.length:Int)<(P.length:Int))=false:=by simp
   have J:=S.o.O G.o.on a1;have f2:=J.cell 2;have a6:=Ae J;simp only [dM,dJ,dK] at f2;have M2:dN (Cv u (.slice p P.length r) m d g D O (fun t i=>(((t=0∨t=3)∧∃f j,f<P.length∧j<(Ap P f).l8.length∧i=vN f j)∨(t=4∧i<P.length))∨((t=0∨t=3)∧∃n j,1≤n∧n≤0∧j<4∧i=pN n j)) (fun i x=>i<P.length∧Ey P i x) z wr):=G.o.iff (fun t i=>⟨.inl,fun q=>q.elim id fun ⟨_,n,j,b,h,_⟩=>by omega⟩) (fun _ _=>Iff.rfl);clear J G;go_wp2_with fail;clear f2 a6;go_loopw [29] (fun i R=>∃(k:Nat) (F:So),k≤d∧i=.int .i64 k∧dN (Cv u (.slice p P.length r) m d g D F (fun t i=>(((t=0∨t=3)∧∃f j,f<P.length∧j<(Ap P f).l8.length∧i=vN f j)∨(t=4∧i<P.length))∨((t=0∨t=3)∧∃n j,1≤n∧n≤k∧j<4∧i=pN n j)) (fun i x=>i<P.length∧Ey P i x) z R)) (fun i _=>d-(intOf i).toNat)
   case atStart=>exact ⟨0,O,by omega,rfl,M2⟩
   case round=>
    clear M2;obtain ⟨k,F,hk,rfl,H⟩:=hrel;by_cases W:k<d
    ·have a0:(k:Int)<(d:Int):=by omega
     have M:k+1≤d:=W;have L:dN (Cv u (.slice p P.length r) m d g D F (fun t i=>((((t=0∨t=3)∧∃f j,f<P.length∧j<(Ap P f).l8.length∧i=vN f j)∨(t=4∧i<P.length))∨((t=0∨t=3)∧∃n j,1≤n∧n≤k∧j<4∧i=pN n j))∨((t=0∨t=3)∧∃C,C<0∧i=pN (k+1) C)) (fun i x=>i<P.length∧Ey P i x) z wr):=H.o.iff (fun t i=>⟨.inl,fun q=>q.elim id fun ⟨_,j,b,_⟩=>by omega⟩) (fun _ _=>Iff.rfl);clear H;go_wp2_with fail;go_loopw [32] (fun i R=>∃(j:Nat) (y:So),j≤4∧i=.int .i64 j∧dN (Cv u (.slice p P.length r) m d g D y (fun t i=>((((t=0∨t=3)∧∃f j,f<P.length∧j<(Ap P f).l8.length∧i=vN f j)∨(t=4∧i<P.length))∨((t=0∨t=3)∧∃n j,1≤n∧n≤k∧j<4∧i=pN n j))∨((t=0∨t=3)∧∃C,C<j∧i=pN (k+1) C)) (fun i x=>i<P.length∧Ey P i x) z R)) (fun i _=>4-(intOf i).toNat)
     case atStart=>exact ⟨0,F,by omega,rfl,L⟩
     case round=>
      clear L;obtain ⟨j,y,hj,rfl,v⟩:=hrel;by_cases c8:j<4
      ·have d4:(j:Int)<4:=by omega
       have c6:j+1≤4:=c8;have d0:pN (k+1) j<20000:=by unfold pN;omega
       have b5:∀t,t=0∨t=3→¬(fun t i=>((((t=0∨t=3)∧∃f j,f<P.length∧j<(Ap P f).l8.length∧i=vN f j)∨(t=4∧i<P.length))∨((t=0∨t=3)∧∃n j,1≤n∧n≤k∧j<4∧i=pN n j))∨((t=0∨t=3)∧∃C,C<j∧i=pN (k+1) C)) t (pN (k+1) j):=fun t ht q=>by
        rcases q with ((⟨_,f,B,b,h,s⟩ | ⟨q,_⟩) | ⟨_,n,B,b,h,s,E⟩) | ⟨_,B,b,h⟩
        ·have:=HA.o.ok.l8 f;unfold vN pN at s;omega
        ·omega
        ·unfold pN at E;omega
        ·unfold pN at h;omega
       have a9:=Aa b5;clear b5;go_wp2_with (first | (go_at_call 65;refine (Iw (k+1) j _ (by omega) (by omega) (by omega)).mono ?_;rintro e w' ⟨rfl,hw⟩;have hw:=hw.symm;subst hw));refine (Jp u (.slice p P.length r) m d g y (fun t i=>((((t=0∨t=3)∧∃f j,f<P.length∧j<(Ap P f).l8.length∧i=vN f j)∨(t=4∧i<P.length))∨((t=0∨t=3)∧∃n j,1≤n∧n≤k∧j<4∧i=pN n j))∨((t=0∨t=3)∧∃C,C<j∧i=pN (k+1) C)) (fun i x=>i<P.length∧Ey P i x) wr (pN (k+1) j) v.o.c d0 (a9.o 0 (.inl rfl)) (a9.o 3 (.inr rfl))).mono ?_;rintro e w4 ⟨rfl,Q,c4,b9,b8⟩;have K:dN (Cv u (.slice p P.length r) m d g D Q (fun t i=>((((t=0∨t=3)∧∃f j,f<P.length∧j<(Ap P f).l8.length∧i=vN f j)∨(t=4∧i<P.length))∨((t=0∨t=3)∧∃n j,1≤n∧n≤k∧j<4∧i=pN n j))∨((t=0∨t=3)∧∃C,C<j+1∧i=pN (k+1) C)) (fun i x=>i<P.length∧Ey P i x) z w4):=(v.o.trans ⟨c4,b9,b8⟩).iff (fun t i=>by
        constructor
        ·rintro ((q | ⟨b,B,h,s⟩) | ⟨b,h⟩)
         ·exact .inl q
         ·exact .inr ⟨b,B,by omega,s⟩
         ·exact .inr ⟨b,j,by omega,h⟩
        ·rintro (q | ⟨b,B,h,s⟩)
         ·exact .inl (.inl q)
         ·by_cases e:B=j
          ·subst e;exact .inr ⟨b,s⟩
          ·exact .inl (.inr ⟨b,B,by omega,s⟩)) (fun _ _=>Iff.rfl)
       clear c4 b9 b8 v;go_wp2_with fail;go_roundw
       case rel=>exact ⟨j+1,Q,c6,by go_num,K⟩
       case measure=>simp [intOf];omega
      ·have e:j=4:=by omega
       subst e;have K:dN (Cv u (.slice p P.length r) m d g D y (fun t i=>(((t=0∨t=3)∧∃f j,f<P.length∧j<(Ap P f).l8.length∧i=vN f j)∨(t=4∧i<P.length))∨((t=0∨t=3)∧∃n j,1≤n∧n≤k+1∧j<4∧i=pN n j)) (fun i x=>i<P.length∧Ey P i x) z wr):=v.o.iff (fun t i=>by
        constructor
        ·rintro ((q | ⟨b,n,B,h,s,E⟩) | ⟨b,B,h,s⟩)
         ·exact .inl q
         ·exact .inr ⟨b,n,B,h,by omega,E⟩
         ·exact .inr ⟨b,k+1,B,by omega,by omega,h,s⟩
        ·rintro (q | ⟨b,n,B,h,s,E,q5⟩)
         ·exact .inl (.inl q)
         ·by_cases e:n=k+1
          ·subst e;exact .inr ⟨b,B,E,q5⟩
          ·exact .inl (.inr ⟨b,n,B,h,by omega,E,q5⟩)) (fun _ _=>Iff.rfl)
       clear v;go_wp2_with fail;go_roundw
       case rel=>exact ⟨k+1,y,M,by go_num,K⟩
       case measure=>simp [intOf];omega
    ·have e:d=k:=by omega
     subst e;have a0:decide ((d:Int)<(d:Int))=false:=by simp
     have J:=S.o.O H.o.on a1;have f3:=J.cell 3;have a6:=Ae J;simp only [dM,dJ,dK] at f3;have L:dN (Cv u (.slice p P.length r) m d g D F (fun t i=>((((t=0∨t=3)∧∃f j,f<P.length∧j<(Ap P f).l8.length∧i=vN f j)∨(t=4∧i<P.length))∨((t=0∨t=3)∧∃n j,1≤n∧n≤d∧j<4∧i=pN n j))∨(t=1∧1≤i∧i≤0)) (fun i x=>i<P.length∧Ey P i x) z wr):=H.o.iff (fun t i=>⟨.inl,fun q=>q.elim id fun ⟨_,b,h⟩=>by omega⟩) (fun _ _=>Iff.rfl);clear J H;go_wp2_with fail;clear f3 a6;go_loopw [45] (fun i R=>∃(k:Nat) (y:So),k≤g∧i=.int .i64 k∧dN (Cv u (.slice p P.length r) m d g D y (fun t i=>((((t=0∨t=3)∧∃f j,f<P.length∧j<(Ap P f).l8.length∧i=vN f j)∨(t=4∧i<P.length))∨((t=0∨t=3)∧∃n j,1≤n∧n≤d∧j<4∧i=pN n j))∨(t=1∧1≤i∧i≤k)) (fun i x=>i<P.length∧Ey P i x) z R)) (fun i _=>g-(intOf i).toNat)
     case atStart=>exact ⟨0,F,by omega,rfl,L⟩
     case round=>
      clear L;obtain ⟨k,y,hk,rfl,v⟩:=hrel;by_cases c9:k<g
      ·have c7:(k:Int)<(g:Int):=by omega
       have M:k+1≤g:=c9;have p5:=v.o.c.s9.cell 5;have d8:=Ae v.o.c.s9;simp only [Gf,dM,dJ,dK] at p5;have oa:Ab (fun _=>False) wr (wr.alloc (.map #[] 0)):=(Ab.refl _ wr).alloc _;obtain ⟨w4,b6,b2,a3⟩:=((v.o.c.mp 1 (by omega)).O oa (fun q=>q)).put Dw Tryz.underlying91 (k:=k+1) (a:=wr.heap.size) (by omega) trivial;unfold GG at b6;rw [show (((k+1:Nat):Nat):Int)=(k:Int)+1 by omega] at b6;have n4:wr.heap.size≠y.om 1:=fun q=>by have:=v.o.c.ownLt (k:=y.om 1) (.inr (.inl ⟨1,by omega,rfl⟩));omega
       have b4:w4.heap[wr.heap.size]? =some (.map #[] 0):=(a3.block _ (by simp) n4).trans (heap_alloc_new wr _);obtain ⟨Q,s4⟩:=v.o.c.one (t:=1) (i:=k+1) (by omega) (rN _) b4 b2 ((oa.mono (fun _ _ q=>q.elim)).trans a3) (fun q=>by omega);have K:dN (Cv u (.slice p P.length r) m d g D Q (fun t i=>((((t=0∨t=3)∧∃f j,f<P.length∧j<(Ap P f).l8.length∧i=vN f j)∨(t=4∧i<P.length))∨((t=0∨t=3)∧∃n j,1≤n∧n≤d∧j<4∧i=pN n j))∨(t=1∧1≤i∧i≤k+1)) (fun i x=>i<P.length∧Ey P i x) z w4):=(v.o.trans s4).iff (fun t i=>by
        constructor
        ·rintro ((q | ⟨b,h,s⟩) | ⟨b,h⟩)
         ·exact .inl q
         ·exact .inr ⟨b,h,by omega⟩
         ·exact .inr ⟨b,by omega,by omega⟩
        ·rintro (q | ⟨b,h,s⟩)
         ·exact .inl (.inl q)
         ·by_cases e:i=k+1
          ·exact .inr ⟨b,e⟩
          ·exact .inl (.inr ⟨b,h,by omega⟩)) (fun _ _=>Iff.rfl)
       clear b2 a3 oa b4 s4 v;go_wp2_with fail;go_roundw
       case rel=>exact ⟨k+1,Q,M,by go_num,K⟩
       case measure=>simp [intOf];omega
      ·have e:g=k:=by omega
       subst e;have c7:decide ((g:Int)<(g:Int))=false:=by simp
       have hR:Bp P u (.slice p P.length r) m d g y Sv.zero wr:=v.o.c.fin (fun c t ht=>by
        constructor
        ·rintro (((⟨_,f,j,b,h,s⟩ | ⟨q,_⟩) | ⟨_,n,j,b,h,s,E⟩) | ⟨q,_⟩)
         ·exact .inl ⟨f,j,b,h,s⟩
         ·omega
         ·exact .inr ⟨n,j,b,h,s,E⟩
         ·omega
        ·rintro (⟨f,j,b,h,s⟩ | ⟨n,j,b,h,s,E⟩)
         ·exact .inl (.inl (.inl ⟨ht,f,j,b,h,s⟩))
         ·exact .inl (.inr ⟨ht,n,j,b,h,s,E⟩)) (fun n=>by
        constructor
        ·rintro (((⟨q,_⟩ | ⟨q,_⟩) | ⟨q,_⟩) | ⟨_,q⟩)
         ·omega
         ·omega
         ·omega
         ·exact q
        ·exact fun q=>.inr ⟨rfl,q⟩) (fun f=>by
        constructor
        ·rintro (((⟨q,_⟩ | ⟨_,q⟩) | ⟨q,_⟩) | ⟨q,_⟩)
         ·omega
         ·exact q
         ·omega
         ·omega
        ·exact fun q=>.inl (.inl (.inr ⟨rfl,q⟩))) (fun c q=>by
        rcases q with ((⟨q,_⟩ | ⟨q,_⟩) | ⟨q,_⟩) | ⟨q,_⟩<;>omega) (fun i x=>⟨fun q=>q.2,fun q=>⟨VJ q,q⟩⟩)
       have N:Ab (fun _=>False) w wr:=⟨v.o.on.os.trans I.o.os,v.o.on.tape.trans I.o.tape,v.o.on.output.trans I.o.output,rO I.o.size v.o.on.size,fun j hj _=>(v.o.on.block j (rP hj I.o.size) (fun q=>by have:=a7.o j q;have:=a8.o;omega)).trans (I.o.block j hj (fun q=>q))⟩;have a4:∀j,y.own u j→w.heap.size≤j:=fun j q=>(v.o.ow j q).elim (fun q=>by have:=a7.o j q;have:=a8.o;omega) fun q=>rO I.o.size q
       have HX:dN (Dn P u (.slice p P.length r) m d g y Sv.zero wr∧(∀j,y.own u j→w.heap.size≤j)∧Ab (fun _=>False) w wr∧Ph P y Sv.zero (fun _=>False) 0):=⟨⟨hR,HP.o.i9 N,HT.o.O N (fun q=>q) tl,rP tl N.size,fun q=>by have:=a4 _ q;omega⟩,a4,N,XU P v.o.c.r0⟩;clear hR N a4;go_wp2_with fail;go_ret;exact ⟨u,y,rfl,HX.o⟩
def Ht(P:List PFn)(S:Sy)(f g:Nat):Prop:=∃s,s∈(Ap P f).b9∧((s.kind=7∧g=s.r9)∨(s.kind=8∧S.E s.m9 g))
theorem Nq(P G fv mn pn cn o v w)(A:AnOk P pn cn)(h:Dn P G fv mn pn cn o v w)(f:Nat)(R:f<P.length):
 Calls Tryz.prog 99 #[.pointer (some ⟨G,0,none⟩),.int .i64 f] w fun e M=>∃b,e=.returned (.map (some b))∧w.heap.size≤b∧A9 b (Ht P v.s f) M∧Ab (fun _=>False) w M:=by
 obtain ⟨gf,fc,rfl,b6⟩:=h.pl.form (by omega);obtain ⟨vv,sv,a8,_,S⟩:=h.pl.get R;obtain ⟨sa,sc,rfl,a2⟩:=S.form;have u:=a8 3 (by omega);simp only [MR,dJ,dK] at u;have b1:Ap P f=P[f]:=by unfold Ap;rw [rU R];rfl
 rw [←b1] at u S a2;have e8:=A.bA;have f3:=A.lc;have f0:=A.ok.many f;have l:Ab (fun _=>False) w (w.alloc (.map #[] 0)):=(Ab.refl _ w).alloc _;have p0:=(h.r.s9.O l (fun q=>q)).cell 0;have b8:=Ae (h.r.s9.O l (fun q=>q));simp only [Gf,dM,dJ] at p0;have d7:(w.alloc (.map #[] 0)).cell? ⟨gf,f*4+3,none⟩=some (.slice sa (Ap P f).b9.length sc):=(rM (l.block gf b6 (fun q=>q))).trans u;have e3:gf<(w.alloc (.map #[] 0)).heap.size:=rP b6 l.size;have e9:(f:Int)<(P.length:Int):=by omega
 have d9:=@run_makeMap Tryz.prog;have b4:=A9.made w;have a5:=Aa b4;have a3:=Aa l;have HA:=Aa A;have H:=Aa h;have d5:=Aa S;have d2:=Aa a2;have e1:∀k,k<w.heap.size→k≠w.heap.size:=fun k q=>by omega
 clear h S a2 b1 a8 A l b4 u;go_enter Tryz.func99,Tryz.ntmps99;go_wp2_with fail;clear p0 d7 e3 b8 d9;obtain ⟨a,Q⟩:∃a,a=w.heap.size:=⟨_,rfl⟩;have S0:dN (A9 a (fun g=>∃s i,i<0∧(Ap P f).b9[i]? =some s∧((s.kind=7∧g=s.r9)∨(s.kind=8∧v.s.E s.m9 g))) (w.alloc (.map #[] 0))):=by rw [Q];exact a5.o.iff fun n=>⟨False.elim,fun ⟨_,_,q,_⟩=>by omega⟩
 rw [←Q];have I:=Aa Q;clear Q e1 a5;generalize w.alloc (.map #[] 0)=W0 at*;go_loopw [19] (fun i wr=>∃j:Nat,j≤(Ap P f).b9.length∧i=.int .i64 j∧dN (A9 a (fun g=>∃s i,i<j∧(Ap P f).b9[i]? =some s∧((s.kind=7∧g=s.r9)∨(s.kind=8∧v.s.E s.m9 g))) wr)∧dN (Ab (fun _=>False) w wr)) (fun i _=>(Ap P f).b9.length-(intOf i).toNat)
 case atStart=>exact ⟨0,by omega,rfl,S0,a3⟩
 case round=>
  clear S0 a3;obtain ⟨j,hj,rfl,N,J⟩:=hrel;by_cases K:j<(Ap P f).b9.length
  ·obtain ⟨gs,rfl,b7⟩:=d2.o (by omega);have b5:=d5.o.O J.o (fun _ _ _ _ q=>q.elim);have e4:gs<wr.heap.size:=rP b7 J.o.size;obtain ⟨av,r,hI⟩:=b5.get K;have c0:=r 0 (by omega);have c1:=r 1 (by omega);have c2:=r 2 (by omega);have u:=r 3 (by omega);have c4:=r 4 (by omega);have c5:=r 5 (by omega);have c6:=r 6 (by omega);have c7:=r 7 (by omega);simp only [Hk,dJ,dK,Nat.add_zero] at c0 c1 c2 u c4 c5 c6 c7;have b0:=HA.o.ok.ok f R _ (rQ K);have a9:=HA.o.bG f R _ (rQ K);have HG:=Aa (rU K);have d8:(j:Int)<((Ap P f).b9.length:Int):=by omega
   have a0:j+1≤(Ap P f).b9.length:=K;obtain ⟨X,Z,Y,rfl⟩:=Ad hI;clear b5 r hI b7;generalize (Ap P f).b9[j]=s at*;have l:Ab (fun _=>False) wr (wr.alloc (.cells #[.int .i64 s.kind,.int .i64 s.aQ,.int .i64 s.r9,.int .i64 s.field,.int .i64 s.m9,.slice X Z Y,.int .i64 s.next,.int .i64 s.taken] 190)):=(Ab.refl _ wr).alloc _;have E:=Ak.new wr #[.int .i64 s.kind,.int .i64 s.aQ,.int .i64 s.r9,.int .i64 s.field,.int .i64 s.m9,.slice X Z Y,.int .i64 s.next,.int .i64 s.taken] 190;have a7:=N.o.O l (fun q=>q);have a6:=J.o.trans l;go_upto_region 5 with fail;generalize wr.alloc (.cells #[.int .i64 s.kind,.int .i64 s.aQ,.int .i64 s.r9,.int .i64 s.field,.int .i64 s.m9,.slice X Z Y,.int .i64 s.next,.int .i64 s.taken] 190)=d at*;have f2:a<w.heap.size+1:=by have:=I.o;omega
   have e2:wr.heap.size≠a:=fun q=>by have:=N.o.lt;omega
   generalize wr.heap.size=tb at*;have t0:=E.cell 0;have t2:=E.cell 2;have t4:=E.cell 4;have f6:=Ae E;simp only [dM,dJ,dK] at t0 t2 t4;have U:=Aa a7;have a4:=Aa a6;have c8:=Aa E;have d1:=Aa b0;have d0:=Aa a9;clear c0 c1 c2 u c4 c5 c6 c7 a7 a6 E l e4 b0 a9 N J;have b9:∀(m:Nat→Prop) (p:World),Ab (fun k=>k=a) d p→A9 a m p→(∀g,m g↔(∃s i,i<j∧(Ap P f).b9[i]? =some s∧((s.kind=7∧g=s.r9)∨(s.kind=8∧v.s.E s.m9 g)))∨((s.kind=7∧g=s.r9)∨(s.kind=8∧v.s.E s.m9 g)))→A9 a (fun g=>∃s i,i<j+1∧(Ap P f).b9[i]? =some s∧((s.kind=7∧g=s.r9)∨(s.kind=8∧v.s.E s.m9 g))) p∧Ab (fun _=>False) w p:=fun m p C D e6=>by
    refine ⟨D.iff fun g=>(e6 g).trans ⟨?_,?_⟩,a4.o.thn C fun k hk q=>by have:=I.o;omega⟩
    ·rintro (⟨s',i,q1,t⟩ | q)
     ·exact ⟨s',i,by omega,t⟩
     ·exact ⟨s,j,by omega,HG.o,q⟩
    ·rintro ⟨s',i,q1,t,F⟩;by_cases e:i=j
     ·subst e;rw [HG.o] at t;cases t;exact .inr F
     ·exact .inl ⟨s',i,by omega,t,F⟩
   have V:=Aa b9;clear b9;by_cases y:s.kind=7
   ·have k7:(((s.kind:Nat):Int)==7)=true:=by rw [y];rfl
    have f1:=d1.o.func (.inr y);have H7:=Aa y;clear y;go_wp2_with fail;refine (Fg a _ s.r9 d U.o (by omega)).mono ?_;rintro e p ⟨rb,rfl,_,D,C⟩;have c:=Aa (V.o _ p C D fun g=>⟨fun q=>q.imp id fun q=>.inl ⟨H7.o,q⟩,fun q=>q.imp id fun q=>q.elim (fun q=>q.2) fun q=>absurd (H7.o.symm.trans q.1) (by decide)⟩);clear D C;go_wp2_with fail;go_roundw
    case rel=>exact ⟨j+1,a0,by go_num,c.o.1,c.o.2⟩
    case measure=>simp [intOf];omega
   ·by_cases z:s.kind=8
    ·have k7:(((s.kind:Nat):Int)==7)=false:=by rw [z];rfl
     have k8:(((s.kind:Nat):Int)==8)=true:=by rw [z];rfl
     have e0:=d0.o.2.1 z;have H8:=Aa z;clear y z;have B:=(H.o.i9 a4.o).r;obtain ⟨L,a1⟩:=(B.d1 s.m9).2 e0;have f4:=H.o.r.ownLt (.inr (.inr (.inl ⟨1,s.m9,a1⟩)));have f5:=H.o.r.ownLt (k:=G) (.inl rfl);have p5:=B.s9.cell 5;have b8:=Ae B.s9;simp only [Gf,dM,dJ,dK] at p5;have T:Ab (fun _=>False) d d.drew:=(Ab.refl _ d).drew;have l5:=(((B.mp 1 (by omega)).O T (fun q=>q)).look Dw Tryz.underlying91 (Ca d.drew) (k:=s.m9) (by omega) false).2 L a1;unfold GG at l5;have b3:A9 L (v.s.E s.m9) d.drew:=((B.st 1 s.m9 L a1).O T (fun q=>q)).iff fun x=>by simp [BF]
     have b2:=U.o.O T (fun q=>q);have e7:G≠a:=by have:=I.o;omega
     have e5:a≠L:=by have:=I.o;omega
     have d4:=Aa b3;have d3:=Aa b2;have c9:=Aa B.s9;have d6:dN (∀O,Ab (fun k=>k=a) d O→O.cell? ⟨G,5,none⟩=some (.map (some (o.om 1)))∧O.cell? ⟨tb,4,none⟩=some (.int .i64 s.m9)):=fun O h6=>by have r1:=(c9.o.O h6 e7).cell 5;have r2:=(c8.o.O h6 e2).cell 4;simp only [Gf,dM,dJ,dK] at r1 r2;exact ⟨r1,r2⟩
     clear b3 b2 B T;go_wp2_with fail;go_region_held3 (fun M=>M.cell? ⟨G,5,none⟩=some (.map (some (o.om 1)))∧M.cell? ⟨tb,4,none⟩=some (.int .i64 s.m9)) (go_keep)
      (first
        | (go_at_call 133;refine (Gd a L _ _ _ d3.o d4.o e5).mono ?_;rintro e p ⟨fb,rfl,_,_,D,C⟩;have S6:=Aa D;have W:=Aa ((Ab.drew (Ab.refl (fun k=>k=a) d)).trans C);clear D C;obtain ⟨r1,r2⟩:=d6.o p W.o))
     all_goals
      have c:=Aa (V.o _ p W.o S6.o fun g=>⟨fun q=>q.imp id fun q=>.inr ⟨H8.o,q⟩,fun q=>q.imp id fun q=>q.elim (fun q=>absurd (H8.o.symm.trans q.1) (by decide)) fun q=>q.2⟩);clear S6 W;go_wp2_with fail;go_roundw
      case rel=>exact ⟨j+1,a0,by go_num,c.o.1,c.o.2⟩
      case measure=>simp [intOf];omega
    ·have k7:(((s.kind:Nat):Int)==7)=false:=by simp;omega
     have k8:(((s.kind:Nat):Int)==8)=false:=by simp;omega
     have c:=Aa (V.o _ d (Ab.refl _ _) U.o fun g=>⟨.inl,fun q=>q.elim id fun q=>q.elim (fun q=>absurd q.1 y) fun q=>absurd q.1 z⟩);clear y z;go_wp2_with fail;go_roundw
     case rel=>exact ⟨j+1,a0,by go_num,c.o.1,c.o.2⟩
     case measure=>simp [intOf];omega
  ·have e:j=(Ap P f).b9.length:=by omega
   subst e;have d8:decide (((Ap P f).b9.length:Int)<((Ap P f).b9.length:Int))=false:=by simp
   have c:dN (A9 a (Ht P v.s f) wr):=N.o.iff fun g=>by
    constructor
    ·rintro ⟨s,i,q1,t,F⟩;exact ⟨s,List.mem_of_getElem? t,F⟩
    ·rintro ⟨s,t,F⟩;obtain ⟨i,hi,e⟩:=List.mem_iff_getElem.1 t;exact ⟨s,i,hi,by rw [rU hi,e],F⟩
   go_wp2_with fail;go_ret;exact ⟨a,rfl,by have:=I.o;omega,c.o,J.o⟩
def FG(P:List PFn)(S:Sy)(m g:Nat):Prop:=∀X:Nat→Prop,X m→(∀f g,X f→Ht P S f g→X g)→X g
theorem FG.rf(P:List PFn)(S:Sy)(m:Nat):FG P S m m:=fun _ h _=>h
theorem FG.step{P S m f g}(h:FG P S m f)(k:Ht P S f g):FG P S m g:=fun X b a=>a f g (h X b a) k
theorem Ht.iff{P}{S T:Sy}(h:S.le T)(k:T.le S)(f g:Nat):Ht P S f g↔Ht P T f g:=
 ⟨fun ⟨s,q,r⟩=>⟨s,q,r.imp id fun r=>⟨r.1,h.e _ _ r.2⟩⟩,fun ⟨s,q,r⟩=>⟨s,q,r.imp id fun r=>⟨r.1,k.e _ _ r.2⟩⟩⟩
theorem FG.iff{P}{S T:Sy}(h:S.le T)(k:T.le S)(m g:Nat):FG P S m g↔FG P T m g:=
 ⟨fun q X a b=>q X a fun f g e c=>b f g e ((Ht.iff h k f g).1 c),fun q X a b=>q X a fun f g e c=>b f g e ((Ht.iff h k f g).2 c)⟩
theorem Ht.lt{P j a}{S:Sy}(A:AnOk P j a)(h:S.le (least P)){f g:Nat}(e:f<P.length)(k:Ht P S f g):g<P.length:=by
 obtain ⟨s,i,⟨b,rfl⟩ | ⟨_,c⟩⟩:=k
 ·exact (A.ok.ok f e s i).func (.inr b)
 ·exact (MN A (h.e _ _ c)).2
structure Bf(P:List PFn)(S:Sy)(m:Nat)(d:Nat→Prop)(Q:List Nat)(C:Nat→Prop):Prop where
 hm:d m
 le:∀g,d g→FG P S m g
 q:∀g,g∈Q→d g
 cl:∀f g,d f→f∉Q→¬C f→Ht P S f g→d g
section
variable {P : List PFn} {S : Sy} {m c g : Nat} {d : Nat → Prop} {Q : List Nat}
theorem Bf.start(P:List PFn)(S:Sy)(m:Nat):Bf P S m (fun g=>g=m) [m] (fun _=>False):=
 ⟨rfl,fun g e=>e▸FG.rf P S m,fun g h=>by simpa using h,fun f g e h=>absurd (by rw [e];simp) h⟩
theorem Bf.pop(h:Bf P S m d (c::Q) (fun _=>False)):Bf P S m d Q (fun f=>f=c)∧d c:=
 ⟨⟨h.hm,h.le,fun g e=>h.q g (rT _ e),fun f g b i a=>h.cl f g b (fun q=>(List.mem_cons.1 q).elim a i) (fun q=>q)⟩,h.q c List.mem_cons_self⟩
theorem Bf.old(h:Bf P S m d Q (fun f=>f=c))(a:d g):Bf P S m (fun x=>d x∨x=g) Q (fun f=>f=c):=by
 have e:(fun x=>d x∨x=g)=d:=funext fun x=>propext ⟨fun q=>q.elim id fun q=>q▸a,.inl⟩
 rw [e];exact h
theorem Bf.add(h:Bf P S m d Q (fun f=>f=c))(j:d c)(k:Ht P S c g):Bf P S m (fun x=>d x∨x=g) (Q++[g]) (fun f=>f=c):=by
 refine ⟨.inl h.hm,fun x b=>b.elim (h.le x) fun q=>q▸(h.le c j).step k,fun x b=>?_,fun f x a e i l=>?_⟩
 ·rcases List.mem_append.1 b with q | q
  ·exact .inl (h.q x q)
  ·exact .inr (by simpa using q)
 ·rcases a with a | rfl
  ·exact .inl (h.cl f x a (fun q=>e (List.mem_append.2 (.inl q))) i l)
  ·exact absurd (List.mem_append.2 (.inr (by simp))) e
theorem Bf.fin(h:Bf P S m d Q (fun f=>f=c))(b:∀g,Ht P S c g→d g):Bf P S m d Q (fun _=>False):=by
 refine ⟨h.hm,h.le,h.q,fun f g i j _ a=>?_⟩;by_cases e:f=c
 ·exact b g (e▸a)
 ·exact h.cl f g i j e a
theorem Bf.done(h:Bf P S m d [] (fun _=>False))(g:Nat):d g↔FG P S m g:=
 ⟨h.le g,fun q=>q d h.hm fun f x a b=>h.cl f x a (by simp) (fun q=>q) b⟩
def Ls(d:Nat→Prop)(l n:Nat):Prop:=n=2*((List.range 12).countP fun i=>@decide (¬d i) (Classical.propDecidable _))+l
theorem UC(e:g<12)(f:¬d g){l a b:Nat}(h:Ls d l a)(k:Ls (fun x=>d x∨x=g) (l+1) b):b<a:=by
 unfold Ls at h k;have:=IV (p:=fun i=>@decide (¬(d i∨i=g)) (Classical.propDecidable _)) (q:=fun i=>@decide (¬d i) (Classical.propDecidable _)) (List.range 12) (fun x _ c=>by simp only [decide_eq_true_eq] at c⊢;exact fun q=>c (.inl q)) ⟨g,List.mem_range.2 e,by simp only [decide_eq_true_eq];exact f,by simp⟩
 dsimp only at this h k;omega
end
def IF(B:Nat)(w:World)(v:Value)(l:List Nat):Prop:=
 ∃g o a b,v=.slice (some ⟨g,o,none⟩) l.length a∧B≤g∧w.heap[g]? =some (.cells b 3 (0,0))∧l.length≤a∧o+a≤b.size∧a≤maxLen∧∀j (h:j<l.length),b[o+j]? =some (.int .i64 (l[j]:Int))
theorem IF.O{B}{X:Nat→Prop}{w w' v l}(h:IF B w v l)(f:Ab X w w')(i:∀k,v.ownBlock=some k→¬X k):IF B w' v l:=by obtain ⟨g,o,b,c,rfl,d,a,e⟩:=h;exact ⟨g,o,b,c,rfl,d,by rw [f.block g (Ae a) (i g rfl)];exact a,e⟩
theorem IF.kind{B w v l}(h:IF B w v l):∀k,v.ownBlock=some k→B≤k∧∃a,w.heap[k]? =some (.cells a 3 (0,0)):=by obtain ⟨g,o,e,a,rfl,b,c,_⟩:=h;intro k d;cases d;exact ⟨b,a,c⟩
theorem IF.form{B w v l}(h:IF B w v l):∃g o a,v=.slice (some ⟨g,o,none⟩) l.length a∧B≤g∧g<w.heap.size∧l.length≤a∧a≤maxLen:=by obtain ⟨g,o,a,f,rfl,b,c,d,_,e,_⟩:=h;exact ⟨g,o,a,rfl,b,Ae c,d,e⟩
theorem IF.head{B w g o n a c l}(h:IF B w (.slice (some ⟨g,o,none⟩) n a) (c::l)):w.cell? ⟨g,o,none⟩=some (.int .i64 (c:Int)):=by obtain ⟨g,o,a,b,e,i,d,j,_,k,f⟩:=h;cases e;rw [cell_of_row w g o b _ _ d];have:=f 0 (by simp);simpa using this
theorem IF.tail{B w g o n a c l}(h:IF B w (.slice (some ⟨g,o,none⟩) n a) (c::l)):∃m,(if a=1 then some (⟨g,o,none⟩:Addr) else some (⟨g,o+1,none⟩:Addr))=some ⟨g,m,none⟩∧IF B w (.slice (some ⟨g,m,none⟩) l.length (a-1)) l:=by
 obtain ⟨g,o,a,d,e,i,k,p,s,r,q⟩:=h;cases e;rw [rW] at p;by_cases f:a=1
 ·have:l=[]:=List.eq_nil_of_length_eq_zero (by omega);subst this;exact ⟨o,by rw [if_pos f],g,o,a-1,d,rfl,i,k,by simp,by omega,by omega,fun j b=>absurd b (by simp)⟩
 ·refine ⟨o+1,by rw [if_neg f],g,o+1,a-1,d,rfl,i,k,by omega,by omega,by omega,fun j b=>?_⟩;have:=q (j+1) (by simpa using b);rw [Nat.add_assoc,Nat.add_comm 1 j];simpa using this
theorem IF.of{B w v l}(h:AD B w v l)(c:l≠[]):IF B w v l:=by
 have o:l.length≠0:=fun q=>c (List.eq_nil_of_length_eq_zero q)
 rcases h.2 with ⟨_,q⟩ | ⟨g,b,a,rfl,d,f,i,k,p,m⟩
 ·exact absurd q o
 ·refine ⟨g,0,b,a,rfl,d,f,i,by omega,k,fun j n=>?_⟩;have e:(a.toList.take (l.length*1))[j]? =some (.int .i64 (l[j]:Int)):=by rw [m];simp [n]
  rw [List.getElem?_take,if_pos (by omega)] at e;simpa using e
theorem IF.push(F:TypeId)(b:Addr)(c:Nat){B w v l}(S:IF B w v l)(n:Nat)(Q:w.cell? b=some (.int .i64 (n:Int)))(J:b.add 0=b)(Y:l.length≤100000)(I:B≤w.heap.size):
 ∃g o a s,(Builtin.append_ #[37,37] F #[v,.slice (some b) 1 c]).run Tryz.prog w=.ok (.slice (some ⟨g,o,none⟩) (l.length+1) a) s∧IF B s (.slice (some ⟨g,o,none⟩) (l.length+1) a) (l++[n])∧Ab (fun k=>v.ownBlock=some k) w s∧(v.ownBlock=some g∨w.heap.size≤g):=by
 obtain ⟨r,z,U,m,V⟩:=info_parts Tryz.infoInt;obtain ⟨g,o,a,d,rfl,G,p,W,X,H,t⟩:=S;have A:∀j u,[Value.int .i64 (n:Int)][j]? =some u→w.cell? (b.add j)=some u:=fun j u q=>by
  match j,q with
  | 0,q=> rw [J,Q];simpa using q
 have Z:=Ae p;by_cases C:l.length+1≤a
 ·have y:=run_firstCells_some (P:=Tryz.prog) w r.size 1 b 1 c [.int .i64 (n:Int)] (by rw [m];rfl) A;have D:=run_storeCells_at Tryz.prog g (o+l.length) 3 [.int .i64 (n:Int)] 0 d w p (by simp;omega) (fun x E=>by simp at E;subst E;rfl);simp only [Nat.add_zero,List.length_singleton] at D;refine ⟨g,o,a,w.setRow g (d.toList.take (o+l.length)++[Value.int .i64 (n:Int)]++d.toList.drop (o+l.length+1)).toArray,?_,⟨g,o,a,_,by rw [rV];rfl,G,setRow_heap w g d _ _ _ p,by rw [rV];exact C,?_,H,fun j f=>?_⟩,⟨rfl,rfl,rfl,by simp,fun k _ M=>setRow_other w g k _ (fun e=>M (by rw [e];rfl))⟩,.inl rfl⟩
  ·rw [m] at y;simp [Builtin.append_,run_underlying Tryz.underlying37,sizeOf,typeInfo,z,m,Builtin.lenOf,C,y,Addr.add_lit,D]
  ·simp only [List.size_toArray,rV,List.length_take,List.length_drop,Array.length_toList,List.length_singleton];omega
  ·simp only [dM];rw [rV,List.length_singleton] at f;by_cases e:j=l.length
   ·subst e;have O:min (o+l.length) d.size=o+l.length:=by omega
    rw [List.getElem?_append_left (by simp;omega),List.getElem?_append_right (by rw [List.length_take];omega)];simp [O]
   ·have h:j<l.length:=by omega
    rw [List.getElem?_append_left (by simp;omega),List.getElem?_append_left (by simp;omega),List.getElem?_take,if_pos (by omega)];have:=t j h;rw [List.getElem_append_left h];simpa using this
 ·have N:(l.map fun i:Nat=>Value.int .i64 (i:Int)).length=l.length*r.size:=by rw [m];simp
  have R:∀j v,(l.map fun i:Nat=>Value.int .i64 (i:Int))[j]? =some v→w.cell? ((⟨g,o,none⟩:Addr).add j)=some v:=fun j v T=>by rw [Addr.add_lit,cell_of_row w g (o+j) d _ _ p];obtain ⟨f,e⟩:=List.getElem?_eq_some_iff.1 T;rw [rX] at f;rw [t j f,←e];simp
  have L:=run_append_grow (P:=Tryz.prog) w 37 F 3 r (.int .i64 0) Tryz.underlying37 z U ⟨g,o,none⟩ l.length a _ N R b 1 c [.int .i64 (n:Int)] (by rw [m];rfl) A (by omega) (by omega) (growslice_fits (by omega) (by rw [V];omega));have K:=grownCap_ge w (l.length+1) a 3;refine ⟨_,0,_,_,L,⟨w.heap.size,0,_,_,by rw [rV];rfl,I,heap_alloc_new w.drew _,by rw [rV];exact K,?_,grownCap_le_maxLen w _ _ _ (by unfold maxLen;omega),fun j f=>?_⟩,((Ab.refl _ w).drew).alloc _,.inr (rN _)⟩
  ·simp only [Array.size_append,List.size_toArray,size_zeroCells,rX,List.length_singleton,Nat.zero_add,Value.cells];simp;omega
  ·rw [rV,List.length_singleton] at f;rw [Nat.zero_add];by_cases e:j=l.length
   ·subst e;rw [Array.getElem?_append_left (by simp),Array.getElem?_append_right (by simp)];simp
   ·have h:j<l.length:=by omega
    rw [List.getElem_append_left h,Array.getElem?_append_left (by simp;omega),Array.getElem?_append_left (by simpa using h)];simp [h]
theorem Jl{i:Array Oper}{j:List Oper}{d:Oper}{a:Act}{Q:Exit→Act→World→Prop}(w:World)(y:d.guard=none)(s x:Operand)
 (C:d.op=.call {callee:=.builtin .append,args:=#[s,x],argTypes:=#[37,37]}){B:Nat}{v:Value}{l:List Nat}(F:a.eval s=v)(D:IF B w v l)(n:Nat)(b:Addr)(c:Nat)(G:a.eval x=.slice (some b) 1 c)
 (A:w.cell? b=some (.int .i64 (n:Int)))(u:b.add 0=b)(z:l.length≤100000)(r:B≤w.heap.size)
 (h:∀g o f e,IF B e (.slice (some ⟨g,o,none⟩) (l.length+1) f) (l++[n])→Ab (fun k=>v.ownBlock=some k) w e→(v.ownBlock=some g∨w.heap.size≤g)→wpList Tryz.prog i Q j (a.put d.dst (.slice (some ⟨g,o,none⟩) (l.length+1) f)) e):
 wpList Tryz.prog i Q (d::j) a w:=by
 refine wpList_plain y fun K t=>?_
 obtain ⟨g,o,f,e,E,m,p,q⟩:=D.push d.type b c n A u z r;unfold Oper.wp execOp;simp only [C,resolve,invoke,builtin,Sem.run_bind,Sem.run_pure,Result.andThen_ok,List.map_toArray,List.map_cons,List.map_nil,F,G,E];exact t _ _ (h g o f e m p q)
def Cg(f:PFn):PFn:=⟨f.name,f.l8,f.i8,[]⟩
theorem Dg(P:List PFn)(i:Nat):Ap (P.map Cg) i=Cg (Ap P i):=by unfold Ap;rw [List.getElem?_map];cases P[i]? <;>rfl
theorem Wh(P:List PFn)(t:Tg):GQ (P.map Cg) t=GQ P t:=by unfold GQ QE;rw [Dg];rfl
theorem Ms.bare{P:List PFn}(h:Ms P):Ms (P.map Cg):=
 ⟨by rw [rX];exact h.bA,fun i=>by rw [Dg];exact h.l8 i,fun i=>by rw [Dg];exact h.bX i,fun i=>by rw [Dg];exact rR _,fun i _ s a=>by rw [Dg] at a;cases a⟩
theorem PnOk.bare{P:List PFn}(h:PnOk P):PnOk (P.map Cg):=
 ⟨fun i=>by rw [Dg];exact h.name i,fun i j=>by have:=h.l8 i j;unfold QE at this⊢;rw [Dg];exact this⟩
theorem Kh.bare{P:List PFn}{t}(h:Kh P t):Kh (P.map Cg) t:=by unfold Kh at h⊢;rw [rX,Dg];exact h
def ON(x:Nat):Tg:=⟨(CD x).1,(CD x).2.1,(CD x).2.2⟩
def EF(P:List PFn)(x:Nat):ByteArray:=⟨(GQ P (ON x)).toArray⟩
theorem Qz{P:List PFn}{j x:Nat}(o:P.length≤12)(l:∀f,(Ap P f).l8.length≤12)(p:j≤4000)(h:EM P j x):Kh P (ON x):=by
 rcases h with (⟨f,i,c,d,rfl⟩ | ⟨n,k,c,d,m,rfl⟩) | ⟨g,c,rfl⟩
 ·have:=l f;have e:CD (vN f i)=(0,f,i):=by
   unfold CD vN;rw [if_pos (by omega)];have a:(f*12+i) / 12=f:=by omega
   have b:(f*12+i) % 12=i:=by omega
   rw [a,b]
  unfold ON;rw [e];exact .inl ⟨rfl,c,d⟩
 ·have e:CD (pN n k)=(1,n,k):=by
   unfold CD pN;rw [if_neg (by omega),if_neg (by omega)];have a:(156+(n-1)*4+k-156) / 4+1=n:=by omega
   have b:(156+(n-1)*4+k-156) % 4=k:=by omega
   rw [a,b]
  unfold ON
  rw [e]
  exact .inr (.inl ⟨rfl,by show n≤4000;omega,by show k≤3;omega⟩)
 ·have e:CD (fN g)=(2,g,0):=by
   unfold CD fN;rw [if_neg (by omega),if_pos (by omega)];have a:144+g-144=g:=by omega
   rw [a]
  unfold ON
  rw [e]
  exact .inr (.inr ⟨rfl,c,rfl⟩)
structure SetsAt(P:List PFn)(S:Sy)(fv:Value)(mn pn cn pb eb rb:Nat)(w:World):Prop where
 pl:Bh 0 w fv (P.map Cg)
 pm:∃bk,Bv Hb Ha pb bk w∧(∀c,(∃k,bk c=some k)↔A8 P pn c)∧∀c k,bk c=some k→A9 k (S.I c) w
 em:∃bk,Bv Hb Ha eb bk w∧(∀n,(∃k,bk n=some k)↔1≤n∧n≤cn)∧∀n k,bk n=some k→A9 k (S.E n) w
 rs:A9 rb (FG P S mn) w
 tb:JL w
 tl:0<w.heap.size
def D0(c:Value)(d f a e b g:Nat):Array Value:=#[c,.int .i64 d,.int .i64 f,.int .i64 a,.map (some e),.map (some b),.map (some g)]
theorem SetsAt.i9{P S d e g a f b i w j}(h:SetsAt P S d e g a f b i w)(k:Ab (fun _=>False) w j):SetsAt P S d e g a f b i j:=by obtain ⟨l,p,n,s⟩:=h.pm;obtain ⟨m,r,o,t⟩:=h.em;exact ⟨h.pl.i9 k,⟨l,p.O k (fun q=>q),n,fun c x q=>(s c x q).O k (fun q=>q)⟩,⟨m,r.O k (fun q=>q),o,fun c x q=>(t c x q).O k (fun q=>q)⟩,h.rs.O k (fun q=>q),h.tb.O k (fun q=>q) h.tl,rP h.tl k.size⟩
theorem FG.lt{P d a}{S:Sy}(A:AnOk P d a)(h:S.le (least P)){m g:Nat}(c:m<P.length)(k:FG P S m g):g<P.length:=k (fun x=>x<P.length) c fun _ _ b q=>q.lt A h b
theorem IF.new(B:Nat)(w:World)(n:Nat)(a:B≤w.heap.size):IF B (w.alloc (.cells #[.int .i64 (n:Nat)] 3)) (.slice (some ⟨w.heap.size,0,none⟩) 1 1) [n]:=
 ⟨w.heap.size,0,1,_,rfl,a,heap_alloc_new w _,rN _,by simp,by decide,fun j b=>by
   have:j=0:=by simpa using b
   subst this;rfl⟩
theorem IF.ne{B w v l b m}(h:IF B w v l)(k:A9 b m w):∀x,v.ownBlock=some x→x≠b:=by rintro x d rfl;obtain ⟨_,f,e⟩:=h.kind x d;obtain ⟨g,c,a⟩:=k.isMap;rw [e] at a;cases a
theorem Ov(P S fv d pn cn o v w)(A:AnOk P pn cn)(h:Dn P S fv d pn cn o v w)(hm:d<P.length)(e4:v.s.le (least P)):
 Calls Tryz.prog 60 #[.pointer (some ⟨S,0,none⟩)] w fun e w'=>∃b,e=.returned (.map (some b))∧w.heap.size≤b∧A9 b (FG P v.s d) w'∧Ab (fun _=>False) w w':=by
 have p1:=h.r.s9.cell 1;have b7:=Ae h.r.s9;simp only [Gf,dM,dJ,dK] at p1;have h0:=A.bA;have a6:=Aa (fun g (k:FG P v.s d g)=>k.lt A e4 hm);have H:=Aa h;have HA:=Aa A;clear h A e4;go_enter Tryz.func60,Tryz.ntmps60;go_wp2_with fail;refine (Fh d w (by omega)).mono ?_;rintro e D ⟨O,rfl,h9,s2,W⟩;have p2:D.cell? ⟨S,1,none⟩=some (.int .i64 d):=(rM (W.block S b7 (fun q=>q))).trans p1;have i1:S<D.heap.size:=rP b7 W.size;have q3:=IF.new w.heap.size D d W.size;have o3:Ab (fun _=>False) w (D.alloc (.cells #[.int .i64 d] 3)):=W.alloc _;have s3:A9 O (fun g=>g=d) (D.alloc (.cells #[.int .i64 d] 3)):=s2.O ((Ab.refl (fun _=>False) D).alloc _) (fun q=>q);have d1:=Aa q3;have c9:=Aa o3;have d5:=Aa s3;clear q3 o3 s3 s2 W p1 b7;go_wp2_with fail;clear p2 i1;generalize D.alloc (.cells #[.int .i64 d] 3)=W3 at*;generalize D.heap.size=g3 at*;obtain ⟨mf,e6⟩:=Ru;obtain ⟨J,hJ⟩:∃J:Nat→Value→World→Prop,J=fun n q u=>∃(E:Nat→Prop) (l:List Nat),dN (IF w.heap.size u q l)∧dN (A9 O E u)∧dN (Bf P v.s d E l (fun _=>False))∧dN (Ls E l.length n)∧dN (n≤25)∧dN (Ab (fun _=>False) w u):=⟨_,rfl⟩
 have c4:dN (∃n,J n (.slice (some ⟨g3,0,none⟩) 1 1) W3):=⟨_,by rw [hJ];refine ⟨_,[d],d1,d5,Bf.start P v.s d,rfl,?_,c9⟩;show _+[d].length≤25;have:List.countP (fun i=>@decide (¬(i=d)) (Classical.propDecidable _)) (List.range 12)≤(List.range 12).length:=List.countP_le_length;rw [List.length_range] at this;simp only [List.length_singleton];omega⟩
 have HJ:=Aa hJ;have c7:=Aa e6;clear d1 d5 c9 hJ e6;go_loopw [4] (fun q u=>∃R,R=q∧∃n,J n R u) (fun q u=>mf (fun n=>J n q u))
 case atStart=>exact ⟨_,rfl,c4.o⟩
 case round=>
  clear c4;obtain ⟨q,rfl,n0,e7⟩:=hrel;have e8:=(c7.o (fun n=>J n q wr) n0 e7).1;obtain ⟨L,b6⟩:∃L,L=mf (fun n=>J n q wr):=⟨_,rfl⟩;have e9:J L q wr:=by rw [b6];exact e8
  rw [HJ.o] at e9;obtain ⟨E,l,z,B,p,G,b9,C⟩:=e9;have g4:=Aa b6;clear e7 e8 b6 n0;obtain ⟨g,oo,b0,e,j0,j1,lc,lm⟩:=z.o.form;subst e;cases l with
  | nil=> have HX:=Aa (B.o.iff p.o.done);rw [List.length_nil];go_wp2_with fail;go_ret;exact ⟨O,rfl,h9,HX.o,C.o⟩
  | cons c l=>
    have c0:=z.o.head;obtain ⟨o5,e5,Q5⟩:=z.o.tail;rw [rW] at lc⊢;have hp:(0:Int)<(l.length:Int)+1:=by omega
    have h4:c<P.length:=a6.o c (p.o.le c p.o.pop.2);have hE:=H.o.i9 C.o;have HE:=Aa hE;have d2:=Aa Q5;have c3:=Aa e5;clear Q5 e5 hE;go_upto_region 6 with fail;rw [c3.o];clear c0 c3;go_wp2_with fail;refine (Nq P S fv d pn cn o v wr HA.o HE.o c h4).mono ?_;rintro e w5 ⟨kb,rfl,j2,s5,b8⟩;have b1:=HE.o.i9 b8;have a8:=Aa b8;have d8:=Aa b1.tb;have d9:=Aa b1.tl;have d6:=Aa s5;clear s5 b8 b1;go_wp2_with fail;refine (Df kb _ w5 d6.o d8.o d9.o).mono ?_;rintro e w6 ⟨cv,a,rfl,hI,f1,b5,o6⟩;obtain ⟨ca,i2,N,rfl⟩:=Ad hI;have h8:=Aq hI;subst h8;have i4:a.length≤12:=C8 12 a f1 fun x hx=>rP (a6.o _ ((p.o.le c p.o.pop.2).step ((b5 x).1 hx))) h0
    have hO:=a8.o.trans o6;have i7:=a8.o.size;have q6:IF w.heap.size w6 (.slice (some ⟨g,o5,none⟩) l.length (b0-1)) l:=d2.o.O hO (fun _ _ q=>q);have s6:A9 O E w6:=B.o.O hO (fun q=>q);have a5:=Aa hI;have a9:=Aa q6;have d7:=Aa s6;have d0:=Aa (C.o.trans hO);have c6:=Aa b5;have F:dN (∀k s,Value.ownBlock (.slice (some ⟨g,o5,none⟩) l.length (b0-1))=some k→Value.ownBlock (.slice ca a.length N)=some s→k≠s):=fun k s I U=>by cases I;have:=(a5.o.lt s U).1;show g≠s;omega
    have c1:=Aa p.o.pop;have c8:dN (∀n,Ls E l.length n→n<L):=fun n h=>by have I:=G.o;unfold Ls at h I;rw [rW] at I;omega
    clear hI f1 b5 o6 hO q6 s6 z B p C G d2 HE d8 d9 d6 a8;go_wp2_with fail;obtain ⟨qv,f6⟩:∃qv,qv=Value.slice (some ⟨g,o5,none⟩) l.length (b0-1):=⟨_,rfl⟩;rw [←f6] at a9 F⊢;clear f6;generalize w5.heap.size=B5 at*;go_loopw [4,33] (fun q i u=>∃(j:Nat) (m:Nat→Prop) (r:List Nat) (R:Value),R=q∧j≤a.length∧i=.int .i64 j∧dN (IF w.heap.size u R r)∧dN (A9 O m u)∧dN (Bf P v.s d m r (fun f=>f=c)∧m c)∧dN (∀t x,t<j→a[t]? =some x→m x)∧dN (∀n,Ls m r.length n→n<L)∧dN (AD B5 u (.slice ca a.length N) a)∧dN (∀k s,R.ownBlock=some k→Value.ownBlock (.slice ca a.length N)=some s→k≠s)∧dN (Ab (fun _=>False) w u)) (fun _ i _=>a.length-(intOf i).toNat)
    case atStart=>exact ⟨0,E,l,qv,rfl,by omega,rfl,a9,d7,c1,fun t x ht=>by omega,c8,a5,F,d0⟩
    case round=>
     clear a9 d7 c1 c8 a5 F d0;obtain ⟨j,m,r,q,rfl,hj,rfl,z,B,p,HD,G,X,F,C⟩:=hrel;by_cases b4:j<a.length
     ·have a2:=X.o;obtain ⟨gl,rfl⟩:=AA a2 (by omega);have b2:=a2.cellAt j (by omega);rw [List.getElem?_map,rU b4] at b2;simp only [Option.map_some] at b2;have i0:=(a2.lt gl rfl).2;have HG:=Aa (rU b4);have b3:=(c6.o a[j]).1 (rQ _);have g0:=Aa b3;have i6:(j:Int)<(a.length:Int):=by omega
      have Z:=Aa (show j+1≤a.length from b4);have i9:a[j]<P.length:=a6.o _ ((p.o.1.le c p.o.2).step b3);have h5:r.length≤100000:=by
       have I:=G.o _ rfl;have U:=b9.o;have h3:r.length≤2*((List.range 12).countP fun i=>@decide (¬m i) (Classical.propDecidable _))+r.length:=by omega
       omega
      clear a2 b3;generalize a[j]=x at*;go_wp2_with fail;refine (Fg O m x wr B.o (by omega)).mono ?_;rintro e M ⟨rb,rfl,f7,s7,o7⟩;have V:=z.o.ne B.o;have f4:=z.o.O o7 (fun k K q=>V k K q);have e3:AD B5 M (.slice (some ⟨gl,0,none⟩) a.length N) a:=Ac X.o o7 (fun k K q=>by obtain ⟨i3,e1⟩:=B8 X.o k K;obtain ⟨es,c',e2⟩:=B.o.isMap;rw [←q,e1] at e2;cases e2)
      have f2:Ab (fun _=>False) w M:=C.o.thn o7 (fun k K q=>by omega);have c2:dN (∀t y,t<j+1→a[t]? =some y→(m y∨y=x)):=fun t y ht hy=>by
       by_cases e:t=j
       ·subst e;rw [HG.o] at hy;cases hy;exact .inr rfl
       ·exact .inl (HD.o t y (by omega) hy)
      have T:=Aa f4;have Y:=Aa e3;have a0:=Aa f2;have a1:=Aa s7;have d4:=Aa f7;clear f4 e3 f2 s7 o7 f7 V B C X z HD b2 i0;cases rb
      ·have f3:m x:=Classical.byContradiction fun q=>by have:=d4.o.2 q;cases this
       have a4:=Aa (p.o.1.old f3);have a7:dN (∀n,Ls (fun y=>m y∨y=x) r.length n→n<L):=by
        have e:(fun y=>m y∨y=x)=m:=funext fun y=>propext ⟨fun q=>q.elim id fun q=>q▸f3,.inl⟩
        rw [e];exact G.o
       go_wp2_with fail;go_roundw
       case rel=>exact ⟨j+1,_,r,q,rfl,Z.o,by go_num,T,a1,⟨a4.o,.inl p.o.2⟩,c2,a7,Y,F,a0⟩
       case measure=>have:=Z.o;simp [intOf];omega
      ·have h7:¬m x:=d4.o.1 rfl;have a4:=Aa (p.o.1.add p.o.2 g0.o);have a7:dN (∀n,Ls (fun y=>m y∨y=x) (r++[x]).length n→n<L):=fun n h=>by rw [rV,List.length_singleton] at h;exact rP (UC (by omega) h7 rfl h) (Nat.le_of_lt (G.o _ rfl))
       have f5:IF w.heap.size (M.alloc (.cells #[.int .i64 (x:Nat)] 3)) q r:=T.o.O ((Ab.refl (fun _=>False) M).alloc _) (fun _ _ q=>q);have i8:=a0.o.size;have d3:=Aa f5;clear f5;go_wp2_with (at_builtin;refine Jl _ rfl _ _ rfl rfl d3.o x ⟨M.heap.size,0,none⟩ 1 rfl (by simp) (Addr.add_lit _ _ _) h5 (by simp;omega) ?_;intro g9 o9 g8 w9 q9 f8 e0);have a3:Ab (fun k=>q.ownBlock=some k) M w9:=((Ab.refl _ M).alloc _).trans f8;have V:=T.o.ne a1.o;have g6:=Aa q9;have g7:=Aa (a1.o.O a3 (fun q=>V _ q rfl));have g2:dN (AD B5 w9 (.slice (some ⟨gl,0,none⟩) a.length N) a):=Ac Y.o a3 (fun k K q=>F.o k k q K rfl);have g5:dN (Ab (fun _=>False) w w9):=a0.o.thn a3 (fun k K q=>by have:=(T.o.kind k q).1;omega);have g1:dN (∀k s,Value.ownBlock (.slice (some ⟨g9,o9,none⟩) (r.length+1) g8)=some k→Value.ownBlock (.slice (some ⟨gl,0,none⟩) a.length N)=some s→k≠s):=fun k s I U=>by
        cases I;rcases e0 with h | h
        ·exact F.o _ _ h U
        ·have:=(Y.o.lt s U).2;simp at h;show g9≠s;omega
       clear q9 f8 e0 a3 V d3 T a1 Y a0;go_wp2_with fail;go_roundw
       case rel=>exact ⟨j+1,_,r++[x],_,rfl,Z.o,by go_num,g6,g7,⟨a4.o,.inl p.o.2⟩,c2,a7,g2,g1,g5⟩
       case measure=>have:=Z.o;simp [intOf];omega
     ·have e:j=a.length:=by omega
      subst e;have i5:decide ((a.length:Int)<(a.length:Int))=false:=by simp
      have f9:dN (Bf P v.s d m r (fun _=>False)):=p.o.1.fin fun x hx=>by obtain ⟨t,ht,e⟩:=List.mem_iff_getElem.1 ((c6.o x).2 hx);exact HD.o t x ht (by rw [rU ht,e])
      obtain ⟨Q,f0⟩:∃n,Ls m r.length n:=⟨_,rfl⟩;have h6:=G.o Q f0;have c5:dN (J Q q wr):=by show J Q q wr;rw [HJ.o];exact ⟨m,r,z,B,f9,f0,by have:=b9.o;show Q≤25;omega,C⟩
      go_wp2_with fail;go_roundw
      case rel=>exact ⟨q,rfl,Q,c5.o⟩
      case measure=> refine Nat.lt_of_le_of_lt (c7.o (fun n=>J n q wr) Q c5.o).2 (rP h6 (Nat.le_of_eq ?_));exact g4.o
def RZ:Prop:=∀(s:ByteArray) (W:World),s.size≤4000→Calls Tryz.prog 102 #[.string s] W fun e a=>e=.returned (.string s)∧Ab (fun _=>False) W a
theorem MB(z:RZ)(B N l w)(h:Au B w N l)(hl:l.length≤4000)(G:∀s,s∈l→s.size≤4000):
 Calls Tryz.prog 103 #[N] w fun e O=>∃v,e=.returned v∧Au w.heap.size O v l∧Ab (fun _=>False) w O:=by
 obtain ⟨L,C,I,J,K⟩:=info_parts Tryz.infoStr;obtain ⟨va,vl,vc,rfl⟩:=Ad h;have a3:=Aq h;subst a3;obtain ⟨Q,a0,M,y⟩:=run_make_own (P:=Tryz.prog) w w.heap.size 28 9 L (.string ByteArray.empty) 1 Tryz.underlying28 C I J .i64 .i64 l.length (by rw [K];omega) (by unfold maxLen;omega) (rN _);have t:dN (Au w.heap.size Q (.slice (some ⟨w.heap.size,0,none⟩) 0 l.length) (l.take 0)):=M;have p:dN (Ab (fun _=>False) w Q):=Ab.grown (Ab.refl _ w) y (fun k D=>by cases D);have X:=Aa h;have T:=Aa z;have V:=Aa G;clear M y h z G;go_enter Tryz.func103,Tryz.ntmps103;go_wp2_with fail;clear a0;go_loopw [3,11] (fun v i wr=>∃(k:Nat) (a:Value),a=v∧k≤l.length∧i=.int .i64 k∧dN (Au w.heap.size wr a (l.take k))∧dN (Ab (fun _=>False) w wr)) (fun _ i _=>l.length-(intOf i).toNat)
 case atStart=>exact ⟨0,_,rfl,by omega,rfl,t,p⟩
 case round=>
  clear t p;obtain ⟨k,v,rfl,D,rfl,f,b⟩:=hrel;by_cases d:k<l.length
  ·have c:=Ac X.o b.o (fun _ _ q=>q);obtain ⟨Z,rfl⟩:=AA c (by omega);have m:=c.cellAt k (by omega);rw [List.getElem?_map,rU d] at m;simp only [Option.map_some] at m;have a4:=(c.lt Z rfl).2;have a6:(k:Int)<(l.length:Int):=by omega
   have r:=Aa (show k+1≤l.length from d);have a2:=V.o _ (rQ d);have W:dN (l.take (k+1)=l.take k++[l[k]]):=List.take_succ_eq_append_getElem d;have a7:(l.take k).length≤4000:=by rw [List.length_take];omega
   clear c;generalize l[k]=x at*;go_wp2_with fail;refine (T.o x wr a2).mono ?_;rintro e R ⟨rfl,o⟩;have F:Au w.heap.size R v (l.take k):=Ac f.o o (fun _ _ q=>q);have n:=b.o.trans o;have a8:=n.size;have u:=Aa F;have U:=Aa n;clear F n o f b m a4;go_wp2_with (at_builtin;refine wpList_append_own _ rfl _ _ 28 rfl w.heap.size 9 L (.string ByteArray.empty) 1 16 Tryz.underlying28 C I J K rfl (by decide) _ _ _ rfl (u.o.alloc _) ⟨R.heap.size,0,none⟩ 1 1 [.string x] rfl rfl (A5 (by simp) _ _) (fun x H=>by simp at H;subst H;rfl) (by unfold maxLen;omega) (by omega) (by simp;omega) ?_;intro a S E A a1);have Y:dN (Ab (fun _=>False) w S):=Ab.grown (U.o.alloc _) A (fun j hj=>.inr (u.o.lt j hj).1);have g:dN (Au w.heap.size S a (l.take (k+1))):=by show Au _ _ _ _;rw [W.o];unfold Au;rw [rV,List.map_append];exact E
   clear A a1 E;go_wp2_with fail;go_roundw
   case rel=>exact ⟨k+1,a,rfl,r.o,by go_num,g,Y⟩
   case measure=>have:=r.o;simp [intOf];omega
  ·have e:k=l.length:=by omega
   subst e;have a5:decide ((l.length:Int)<(l.length:Int))=false:=by simp
   have g:dN (Au w.heap.size wr v l):=by have:=f.o;rw [List.take_length] at this;exact this
   go_wp2_with fail;go_ret;exact ⟨v,rfl,g.o,b.o⟩
end Go.Proofs.YtegmjgjkcdbmkaaGreatDoor

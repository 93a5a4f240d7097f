/- Part of the proof: AnW AnX AnY AnZ ArA. -/
import Derived.Test.YtaningfhibkemaaGreatDoorG32
import Derived.Test.YtaningfhibkemaaGreatDoorG24
set_option maxRecDepth 100000
set_option maxHeartbeats 4000000
namespace Go.Proofs.YtaningfhibkemaaGreatDoor
open Go.RowKit Go.Maps Go.Proofs.Tryz
def Sv.zero:Sv:=⟨⟨fun _ _=>False,fun _ _=>False,fun _ _=>False⟩,fun _ _=>False,fun _ _=>False⟩
theorem YS(P:List PFn)(X):BH P X Sv.zero:=⟨⟨fun _ _ q=>q.elim,fun _ _ q=>q.elim,fun _ _ q=>q.elim⟩,fun _ _ q=>q.elim,fun _ _ _ q=>q.elim,fun _ _ _ q=>q.elim⟩
theorem YT(P:List PFn){o:So}(h:∀c,o.rl c=[]):Ph P o Sv.zero (fun _=>False) 0:=⟨fun _ _ q=>q.elim,YS P _,fun _ _ q=>q.elim,fun _ q=>q.elim,fun c=>by rw[h];exact gI _⟩
def So.ini(n:Nat):So:=⟨fun t=>if t=4 then n+6 else if t=5 then n+5 else n+1+t,fun _ _=>none,fun _=>none,fun _=>[]⟩
theorem So.ini_inj{n t a:Nat}(_ht:t<=5)(_ht':a<=5)(h:(So.ini n).om t=(So.ini n).om a):t=a:=by unfold So.ini at h;dsimp only at h;split at h<;>split at h<;>(try split at h)<;>(try split at h)<;>omega
theorem So.ini_own{n a k:Nat}(h:(So.ini n).own a k)(b:a=n+7):n<k/\k<=n+7:=by
 rcases h with q|⟨t,d,q⟩|⟨t,i,q⟩|⟨c,t,q,_⟩
 .omega
 .unfold So.ini at q;dsimp only at q;split at q
  .omega
  .split at q<;>omega
 .cases q
 .cases q
theorem D5.ini{n:Nat}{g:Value}{j l f:Nat}{w:World}(o:W (n+7) (G7 (So.ini n) g j l f) 120 w)(h:∀k,n<k->k<=n+6->w.heap[k]? =some (.map #[] 0)):D5 (n+7) g j l f (So.ini n) (fun _ _=>False) (fun _ _=>False) w:=by
 have b:∀t,t<=5->n<(So.ini n).om t/\(So.ini n).om t<=n+6:=fun t c=>by
  unfold So.ini;dsimp only;split
  .omega
  .split<;>omega
 exact{bY:=o,mp:=fun t c=>BK.new (h _ (b t Z).1 (b t Z).2),st:=fun t i k a=>(by cases a),dj:=fun t i m r k a=>(by cases a),oj:=fun t m c p e=>So.ini_inj c p e,ne:=fun t i k m a=>(by cases a),t4:=fun t i k a=>(by cases a),d:=fun t i=>⟨fun⟨k,a⟩=>(by cases a),fun q=>q.elim⟩,fm:=BK.new (h _ (b 5 Z).1 (b 5 Z).2),f0:=fun _=>rfl,r0:=fun _=>rfl}
theorem WO{P:List PFn}{f x:Nat}(h:Fg P f x):f<P.length:=by obtain⟨s,a,_⟩:=h;apply Classical.byContradiction;intro q;unfold As at a;rw[iI Z]at a;cases a
theorem EP{a:Nat}{b:World}(h:∀k,a<=k->k<b.heap.size->b.heap[k]? =some (.map #[] 0)):∀k,a<=k->k<(b.alloc (.map #[] 0)).heap.size->(b.alloc (.map #[] 0)).heap[k]? =some (.map #[] 0):=fun k c d=>by
 by_cases e:k=b.heap.size
 .rw[e];exact heap_alloc_new b _
 .simp only[World.size_alloc]at d;rw[gS _ _ _ Z];exact h k c Z
theorem D5.fin{P:List PFn}{z:Nat}{m:Value}{v j g:Nat}{o:So}{a l:Nat->Nat->Prop}{w:World}(h:D5 z m v j g o a l w)(A:∀c t,t=0\/t=3->(a t c↔AK P j c))(B:∀n,a 1 n↔1<=n/\n<=g)(p:∀f,a 4 f↔f<P.length)(C:∀c,¬a 2 c)(s:∀i x,l i x↔Fg P i x):BE P z m v j g o Sv.zero w:=by
 have y:∀c k,o.bk 2 c≠some k:=fun c k q=>C c ((h.d 2 c).1 ⟨k,q⟩)
 refine{bY:=h.bY,mp:=h.mp,st:=fun t i k d=>(h.st t i k d).iff fun x=>?_,dj:=h.dj,oj:=h.oj,ne:=h.ne,t4:=h.t4,d0:=fun c t u=>(h.d t c).trans (A c t u),d1:=fun n=>(h.d 1 n).trans (B n),d4:=fun f=>(h.d 4 f).trans (p f),d2:=fun c k d=>jO d (y c k),ins:=fun t i x u q=>?_,fm:=h.fm,fr:=fun c t b=>(by rw[h.f0]at b;cases b),fj:=fun c F t G b=>(by rw[h.f0]at b;cases b),f0:=fun c _=>h.r0 c,fvr:=fun c r=>by rw[h.r0];simp[Sv.zero]}
 .have E:=h.t4 t i k d;have H:t≠2:=fun e=>y i k (e▸d)
  constructor
  .rintro⟨e,q⟩;subst e;simp only[Ca,Nat.reduceEqDiff,false_implies,true_and,forall_const];exact(s i x).1 q
  .intro q;by_cases e:t=4
   .exact⟨e,(s i x).2 (q.2.2.2.2 e)⟩
   .have:t=0\/t=1\/t=3:=Z;rcases this with e|e|e
    .exact(q.1 e).elim
    .exact(q.2.1 e).elim
    .exact(q.2.2.2.1 e).elim
 .have:t=0\/t=1\/t=2\/t=3\/t=4:=Z;rcases this with e|e|e|e|e
  .exact(q.1 e).elim
  .exact(q.2.1 e).elim
  .exact(q.2.2.1 e).elim
  .exact(q.2.2.2.1 e).elim
  .subst e;exact(h.d 4 i).2 ((p i).2 (WO (q.2.2.2.2 rfl)))
theorem MP(P:List PFn)(Y:Value)(m d g:Nat)(w:World)(A:AnOk P d g)(hp:Bv 0 w Y P)(tb:JQ w)(tl:0<w.heap.size):
 Calls prog 40 #[.agg #[Y,.int .i64 m,.int .i64 d,.int .i64 g]] w fun e w'=>∃u o,e=.returned (.pointer (some ⟨u,0,none⟩))/\D6 P u Y m d g o Sv.zero w'/\(∀k,o.own u k->w.heap.size<=k)/\O kD w w'/\Ph P o Sv.zero (fun _=>False) 0:=by
 obtain⟨p,fl,r,d0,c9⟩:∃a l c,Y=.slice a l c/\l=P.length:=by obtain⟨cs,q,_⟩:=hp;obtain⟨a,l,c,e⟩:=Ad q;rw[e]at q;exact⟨a,l,c,e,Ag q⟩
 subst c9;subst d0;have d8:=A.cR;have e2:=A.lp;have e1:=A.lc;have e0:=@run_makeMap prog;have HA:=J A;have HP:=J hp;have HT:=J tb;clear A hp tb;go_enter func40,ntmps40;go_upto_region 2 with fail;have a4:(((((((w.alloc (.cells #[.slice p P.length r,.int .i64 m,.int .i64 d,.int .i64 g] 66)).alloc (.map #[] 0)).alloc (.map #[] 0)).alloc (.map #[] 0)).alloc (.map #[] 0)).alloc (.map #[] 0)).alloc (.map #[] 0)).heap.size=w.heap.size+7:=jY;have b5:W (w.heap.size+7) (G7 (So.ini w.heap.size) (.slice p P.length r) m d g) 120 ((((((((w.alloc (.cells #[.slice p P.length r,.int .i64 m,.int .i64 d,.int .i64 g] 66)).alloc (.map #[] 0)).alloc (.map #[] 0)).alloc (.map #[] 0)).alloc (.map #[] 0)).alloc (.map #[] 0)).alloc (.map #[] 0)).alloc (.cells #[.slice p P.length r,.int .i64 m,.int .i64 d,.int .i64 g,.map (some (w.heap.size+1)),.map (some (w.heap.size+1+1)),.map (some (w.heap.size+1+1+1)),.map (some (w.heap.size+1+1+1+1)),.map (some (w.heap.size+1+1+1+1+1)),.map (some (w.heap.size+1+1+1+1+1+1))] 120)):=by have q:=W.new (((((((w.alloc (.cells #[.slice p P.length r,.int .i64 m,.int .i64 d,.int .i64 g] 66)).alloc (.map #[] 0)).alloc (.map #[] 0)).alloc (.map #[] 0)).alloc (.map #[] 0)).alloc (.map #[] 0)).alloc (.map #[] 0)) #[.slice p P.length r,.int .i64 m,.int .i64 d,.int .i64 g,.map (some (w.heap.size+1)),.map (some (w.heap.size+1+1)),.map (some (w.heap.size+1+1+1)),.map (some (w.heap.size+1+1+1+1)),.map (some (w.heap.size+1+1+1+1+1)),.map (some (w.heap.size+1+1+1+1+1+1))] 120;rw[a4]at q;exact q
 have a0:W w.heap.size #[.slice p P.length r,.int .i64 m,.int .i64 d,.int .i64 g] 66 ((((((((w.alloc (.cells #[.slice p P.length r,.int .i64 m,.int .i64 d,.int .i64 g] 66)).alloc (.map #[] 0)).alloc (.map #[] 0)).alloc (.map #[] 0)).alloc (.map #[] 0)).alloc (.map #[] 0)).alloc (.map #[] 0)).alloc (.cells #[.slice p P.length r,.int .i64 m,.int .i64 d,.int .i64 g,.map (some (w.heap.size+1)),.map (some (w.heap.size+1+1)),.map (some (w.heap.size+1+1+1)),.map (some (w.heap.size+1+1+1+1)),.map (some (w.heap.size+1+1+1+1+1)),.map (some (w.heap.size+1+1+1+1+1+1))] 120)):=(((((((W.new w _ _).alloc _).alloc _).alloc _).alloc _).alloc _).alloc _).alloc _;have b8:∀k,w.heap.size<k->k<=w.heap.size+6->((((((((w.alloc (.cells #[.slice p P.length r,.int .i64 m,.int .i64 d,.int .i64 g] 66)).alloc (.map #[] 0)).alloc (.map #[] 0)).alloc (.map #[] 0)).alloc (.map #[] 0)).alloc (.map #[] 0)).alloc (.map #[] 0)).alloc (.cells #[.slice p P.length r,.int .i64 m,.int .i64 d,.int .i64 g,.map (some (w.heap.size+1)),.map (some (w.heap.size+1+1)),.map (some (w.heap.size+1+1+1)),.map (some (w.heap.size+1+1+1+1)),.map (some (w.heap.size+1+1+1+1+1)),.map (some (w.heap.size+1+1+1+1+1+1))] 120)).heap[k]? =some (.map #[] 0):=fun k h1 h2=>by rw[gS _ _ _ (by rw[a4];omega)];refine EP (a:=w.heap.size+1) (EP (EP (EP (EP (EP (fun k b h=>?_)))))) k Z (by rw[a4];omega);simp only[World.size_alloc]at h;omega
 have a7:O kD w ((((((((w.alloc (.cells #[.slice p P.length r,.int .i64 m,.int .i64 d,.int .i64 g] 66)).alloc (.map #[] 0)).alloc (.map #[] 0)).alloc (.map #[] 0)).alloc (.map #[] 0)).alloc (.map #[] 0)).alloc (.map #[] 0)).alloc (.cells #[.slice p P.length r,.int .i64 m,.int .i64 d,.int .i64 g,.map (some (w.heap.size+1)),.map (some (w.heap.size+1+1)),.map (some (w.heap.size+1+1+1)),.map (some (w.heap.size+1+1+1+1)),.map (some (w.heap.size+1+1+1+1+1)),.map (some (w.heap.size+1+1+1+1+1+1))] 120)):=jV;have d6:((((((((w.alloc (.cells #[.slice p P.length r,.int .i64 m,.int .i64 d,.int .i64 g] 66)).alloc (.map #[] 0)).alloc (.map #[] 0)).alloc (.map #[] 0)).alloc (.map #[] 0)).alloc (.map #[] 0)).alloc (.map #[] 0)).alloc (.cells #[.slice p P.length r,.int .i64 m,.int .i64 d,.int .i64 g,.map (some (w.heap.size+1)),.map (some (w.heap.size+1+1)),.map (some (w.heap.size+1+1+1)),.map (some (w.heap.size+1+1+1+1)),.map (some (w.heap.size+1+1+1+1+1)),.map (some (w.heap.size+1+1+1+1+1+1))] 120)).heap.size=w.heap.size+8:=jY;have hC:=D5.ini b5 b8;clear b5 b8 a4;obtain⟨u,b0⟩:∃u,u=w.heap.size+1+1+1+1+1+1+1:=⟨_,rfl⟩;have a3:u=w.heap.size+7:=b0;rw[<-a3]at hC;rw[<-b0];generalize ((((((((w.alloc (.cells #[.slice p P.length r,.int .i64 m,.int .i64 d,.int .i64 g] 66)).alloc (.map #[] 0)).alloc (.map #[] 0)).alloc (.map #[] 0)).alloc (.map #[] 0)).alloc (.map #[] 0)).alloc (.map #[] 0)).alloc (.cells #[.slice p P.length r,.int .i64 m,.int .i64 d,.int .i64 g,.map (some (w.heap.size+1)),.map (some (w.heap.size+1+1)),.map (some (w.heap.size+1+1+1)),.map (some (w.heap.size+1+1+1+1)),.map (some (w.heap.size+1+1+1+1+1)),.map (some (w.heap.size+1+1+1+1+1+1))] 120))=z at*;have a6:¬(So.ini w.heap.size).own u w.heap.size:=fun q=>by have:=So.ini_own q a3;omega
 have b6:∀k,(So.ini w.heap.size).own u k->w.heap.size<=k:=fun k q=>by have:=So.ini_own q a3;omega
 generalize So.ini w.heap.size=E at*;have f0:=a0.cell 0;have c2:=Ae a0;simp only[gH,gF]at f0;have c7:=J (HP.o.s9 a7);have c6:=J hC;have X:=J a0;have K:=J a7;have b2:=J b6;have d7:w.heap.size<z.heap.size:=Z;have M0:D (Db u (.slice p P.length r) m d g E E (fun t i=>((t=0\/t=3)/\∃f j,f<0/\j<(As P f).t8.length/\i=vN f j)\/(t=4/\i<0)) (fun i x=>i<0/\Fg P i x) z z):=(Db.rf hC).iff (fun t i=>⟨False.elim,fun q=>by rcases q with⟨_,f,j,q,_⟩|⟨_,q⟩<;>omega⟩) (fun i x=>⟨False.elim,fun q=>Z⟩)
 clear hC a0 a7 b0 a3 d6 b6;obtain⟨nb,a2⟩:∃nb,nb=w.heap.size:=⟨_,rfl⟩;rw[<-a2]at a6 d7 f0 c2⊢;have X:D (W nb #[.slice p P.length r,.int .i64 m,.int .i64 d,.int .i64 g] 66 z):=by rw[a2];exact X.o
 have b3:=J a2;clear a2;go_wp2_with fail;clear f0 c2;go_loopw[20] (fun i wr=>∃(k:Nat) (S:So),k<=P.length/\i=.int .i64 k/\D (Db u (.slice p P.length r) m d g E S (fun t i=>((t=0\/t=3)/\∃f j,f<k/\j<(As P f).t8.length/\i=vN f j)\/(t=4/\i<k)) (fun i x=>i<k/\Fg P i x) z wr)) (fun i _=>P.length-(intOf i).toNat)
 case atStart=>exact⟨0,E,Z,rfl,M0⟩
 case round=>
  clear M0;obtain⟨k,S,hk,rfl,H⟩:=hrel;by_cases a1:k<P.length
  .have a5:(k:Int)<(P.length:Int):=Z;have Q:k+1<=P.length:=a1;have c8:=J (c7.o.d8 H.o.on c6.o.noPlan);have hD:∀t,t=0\/t=3->∀i,i<12->¬(fun t i=>((t=0\/t=3)/\∃f j,f<k/\j<(As P f).t8.length/\i=vN f j)\/(t=4/\i<k)) t (vN k i):=fun t ht i hi q=>by
    rcases q with⟨_,f,j,b,h,s⟩|⟨q,_⟩
    .have:=HA.o.ok.t8 f;unfold vN at s;omega
    .omega
   have HD:=J hD;clear hD;go_wp2_with fail;refine(KJ P u (.slice p P.length r) m d g S (fun t i=>((t=0\/t=3)/\∃f j,f<k/\j<(As P f).t8.length/\i=vN f j)\/(t=4/\i<k)) (fun i x=>i<k/\Fg P i x) wr HA.o H.o.c c8.o k a1 (fun i hi=>⟨HD.o 0 (.inl rfl) i hi,HD.o 3 (.inr rfl) i hi⟩) (fun x q=>Z)).mono ?_;rintro e w2 ⟨rfl,G,s2⟩;have I:D (Db u (.slice p P.length r) m d g E G (fun t i=>((t=0\/t=3)/\∃f j,f<k+1/\j<(As P f).t8.length/\i=vN f j)\/(t=4/\i<k+1)) (fun i x=>i<k+1/\Fg P i x) z w2):=(H.o.trans s2).iff (fun t i=>by
    constructor
    .rintro((⟨b,f,j,h,s⟩|⟨b,h⟩)|⟨b,j,h,s⟩|⟨b,h⟩)
     .exact .inl ⟨b,f,j,Z,s⟩
     .exact .inr ⟨b,Z⟩
     .exact .inl ⟨b,k,j,Z,h,s⟩
     .exact .inr ⟨b,Z⟩
    .rintro(⟨b,f,j,h,s,F⟩|⟨b,h⟩)
     .by_cases e:f=k
      .subst e;exact .inr (.inl ⟨b,j,s,F⟩)
      .exact .inl (.inl ⟨b,f,j,Z,s,F⟩)
     .by_cases e:i=k
      .exact .inr (.inr ⟨b,e⟩)
      .exact .inl (.inr ⟨b,Z⟩)) (fun i x=>by
    constructor
    .rintro(⟨b,h⟩|⟨b,h⟩)
     .exact⟨Z,h⟩
     .exact⟨Z,by rw[b];exact h⟩
    .rintro⟨b,h⟩;by_cases e:i=k
     .subst e;exact .inr ⟨rfl,h⟩
     .exact .inl ⟨Z,h⟩)
   clear s2 H;go_wp2_with fail;go_roundw
   case rel=>exact⟨k+1,G,Q,by go_num,I⟩
   case measure=>simp[intOf];omega
  .have e:k=P.length:=Z;subst e;have a5:decide ((P.length:Int)<(P.length:Int))=false:=jY;have L:=X.o.d8 H.o.on a6;have f2:=L.cell 2;have b1:=Ae L;simp only[gH,gF,gG]at f2;have M2:D (Db u (.slice p P.length r) m d g E S (fun t i=>(((t=0\/t=3)/\∃f j,f<P.length/\j<(As P f).t8.length/\i=vN f j)\/(t=4/\i<P.length))\/((t=0\/t=3)/\∃n j,1<=n/\n<=0/\j<4/\i=pN n j)) (fun i x=>i<P.length/\Fg P i x) z wr):=H.o.iff (fun t i=>⟨.inl,fun q=>q.elim id fun⟨_,n,j,b,h,_⟩=>Z⟩) (fun _ _=>Iff.rfl);clear L H;go_wp2_with fail;clear f2 b1;go_loopw[29] (fun i V=>∃(k:Nat) (G:So),k<=d/\i=.int .i64 k/\D (Db u (.slice p P.length r) m d g E G (fun t i=>(((t=0\/t=3)/\∃f j,f<P.length/\j<(As P f).t8.length/\i=vN f j)\/(t=4/\i<P.length))\/((t=0\/t=3)/\∃n j,1<=n/\n<=k/\j<4/\i=pN n j)) (fun i x=>i<P.length/\Fg P i x) z V)) (fun i _=>d-(intOf i).toNat)
   case atStart=>exact⟨0,S,Z,rfl,M2⟩
   case round=>
    clear M2;obtain⟨k,G,hk,rfl,I⟩:=hrel;by_cases a1:k<d
    .have a5:(k:Int)<(d:Int):=Z;have Q:k+1<=d:=a1;have N:D (Db u (.slice p P.length r) m d g E G (fun t i=>((((t=0\/t=3)/\∃f j,f<P.length/\j<(As P f).t8.length/\i=vN f j)\/(t=4/\i<P.length))\/((t=0\/t=3)/\∃n j,1<=n/\n<=k/\j<4/\i=pN n j))\/((t=0\/t=3)/\∃C,C<0/\i=pN (k+1) C)) (fun i x=>i<P.length/\Fg P i x) z wr):=I.o.iff (fun t i=>⟨.inl,fun q=>q.elim id fun⟨_,j,b,_⟩=>Z⟩) (fun _ _=>Iff.rfl);clear I;go_wp2_with fail;go_loopw[32] (fun i V=>∃(j:Nat) (y:So),j<=4/\i=.int .i64 j/\D (Db u (.slice p P.length r) m d g E y (fun t i=>((((t=0\/t=3)/\∃f j,f<P.length/\j<(As P f).t8.length/\i=vN f j)\/(t=4/\i<P.length))\/((t=0\/t=3)/\∃n j,1<=n/\n<=k/\j<4/\i=pN n j))\/((t=0\/t=3)/\∃C,C<j/\i=pN (k+1) C)) (fun i x=>i<P.length/\Fg P i x) z V)) (fun i _=>4-(intOf i).toNat)
     case atStart=>exact⟨0,G,Z,rfl,N⟩
     case round=>
      clear N;obtain⟨j,y,hj,rfl,v⟩:=hrel;by_cases d3:j<4
      .have d9:(j:Int)<4:=Z;have d1:j+1<=4:=d3;have d5:pN (k+1) j<20000:=by unfold pN;omega
       have c0:∀t,t=0\/t=3->¬(fun t i=>((((t=0\/t=3)/\∃f j,f<P.length/\j<(As P f).t8.length/\i=vN f j)\/(t=4/\i<P.length))\/((t=0\/t=3)/\∃n j,1<=n/\n<=k/\j<4/\i=pN n j))\/((t=0\/t=3)/\∃C,C<j/\i=pN (k+1) C)) t (pN (k+1) j):=fun t ht q=>by
        rcases q with((⟨_,f,B,b,h,s⟩|⟨q,_⟩)|⟨_,n,B,b,h,s,F⟩)|⟨_,B,b,h⟩
        .have:=HA.o.ok.t8 f;unfold vN pN at s;omega
        .omega
        .unfold pN at F;omega
        .unfold pN at h;omega
       have b4:=J c0;clear c0;go_wp2_with(first|(go_at_call 85;refine(Jv (k+1) j _ Z Z Z).mono ?_;rintro e w' ⟨rfl,hw⟩;have hw:=hw.symm;subst hw));refine(Kn u (.slice p P.length r) m d g y (fun t i=>((((t=0\/t=3)/\∃f j,f<P.length/\j<(As P f).t8.length/\i=vN f j)\/(t=4/\i<P.length))\/((t=0\/t=3)/\∃n j,1<=n/\n<=k/\j<4/\i=pN n j))\/((t=0\/t=3)/\∃C,C<j/\i=pN (k+1) C)) (fun i x=>i<P.length/\Fg P i x) wr (pN (k+1) j) v.o.c d5 (b4.o 0 (.inl rfl)) (b4.o 3 (.inr rfl))).mono ?_;rintro e w4 ⟨rfl,U,c4,c5,c3⟩;have M:D (Db u (.slice p P.length r) m d g E U (fun t i=>((((t=0\/t=3)/\∃f j,f<P.length/\j<(As P f).t8.length/\i=vN f j)\/(t=4/\i<P.length))\/((t=0\/t=3)/\∃n j,1<=n/\n<=k/\j<4/\i=pN n j))\/((t=0\/t=3)/\∃C,C<j+1/\i=pN (k+1) C)) (fun i x=>i<P.length/\Fg P i x) z w4):=(v.o.trans ⟨c4,c5,c3⟩).iff (fun t i=>by
        constructor
        .rintro((q|⟨b,B,h,s⟩)|⟨b,h⟩)
         .exact .inl q
         .exact .inr ⟨b,B,Z,s⟩
         .exact .inr ⟨b,j,Z,h⟩
        .rintro(q|⟨b,B,h,s⟩)
         .exact .inl (.inl q)
         .by_cases e:B=j
          .subst e;exact .inr ⟨b,s⟩
          .exact .inl (.inr ⟨b,B,Z,s⟩)) (fun _ _=>Iff.rfl)
       clear c4 c5 c3 v;go_wp2_with fail;go_roundw
       case rel=>exact⟨j+1,U,d1,by go_num,M⟩
       case measure=>simp[intOf];omega
      .have e:j=4:=Z;subst e;have M:D (Db u (.slice p P.length r) m d g E y (fun t i=>(((t=0\/t=3)/\∃f j,f<P.length/\j<(As P f).t8.length/\i=vN f j)\/(t=4/\i<P.length))\/((t=0\/t=3)/\∃n j,1<=n/\n<=k+1/\j<4/\i=pN n j)) (fun i x=>i<P.length/\Fg P i x) z wr):=v.o.iff (fun t i=>by
        constructor
        .rintro((q|⟨b,n,B,h,s,F⟩)|⟨b,B,h,s⟩)
         .exact .inl q
         .exact .inr ⟨b,n,B,h,Z,F⟩
         .exact .inr ⟨b,k+1,B,Z,Z,h,s⟩
        .rintro(q|⟨b,n,B,h,s,F,q5⟩)
         .exact .inl (.inl q)
         .by_cases e:n=k+1
          .subst e;exact .inr ⟨b,B,F,q5⟩
          .exact .inl (.inr ⟨b,n,B,h,Z,F,q5⟩)) (fun _ _=>Iff.rfl)
       clear v;go_wp2_with fail;go_roundw
       case rel=>exact⟨k+1,y,Q,by go_num,M⟩
       case measure=>simp[intOf];omega
    .have e:d=k:=Z;subst e;have a5:decide ((d:Int)<(d:Int))=false:=jY;have L:=X.o.d8 I.o.on a6;have f3:=L.cell 3;have b1:=Ae L;simp only[gH,gF,gG]at f3;have N:D (Db u (.slice p P.length r) m d g E G (fun t i=>((((t=0\/t=3)/\∃f j,f<P.length/\j<(As P f).t8.length/\i=vN f j)\/(t=4/\i<P.length))\/((t=0\/t=3)/\∃n j,1<=n/\n<=d/\j<4/\i=pN n j))\/(t=1/\1<=i/\i<=0)) (fun i x=>i<P.length/\Fg P i x) z wr):=I.o.iff (fun t i=>⟨.inl,fun q=>q.elim id fun⟨_,b,h⟩=>Z⟩) (fun _ _=>Iff.rfl);clear L I;go_wp2_with fail;clear f3 b1;go_loopw[45] (fun i V=>∃(k:Nat) (y:So),k<=g/\i=.int .i64 k/\D (Db u (.slice p P.length r) m d g E y (fun t i=>((((t=0\/t=3)/\∃f j,f<P.length/\j<(As P f).t8.length/\i=vN f j)\/(t=4/\i<P.length))\/((t=0\/t=3)/\∃n j,1<=n/\n<=d/\j<4/\i=pN n j))\/(t=1/\1<=i/\i<=k)) (fun i x=>i<P.length/\Fg P i x) z V)) (fun i _=>g-(intOf i).toNat)
     case atStart=>exact⟨0,G,Z,rfl,N⟩
     case round=>
      clear N;obtain⟨k,y,hk,rfl,v⟩:=hrel;by_cases d4:k<g
      .have d2:(k:Int)<(g:Int):=Z;have Q:k+1<=g:=d4;have p5:=v.o.c.bY.cell 5;have e3:=Ae v.o.c.bY;simp only[G7,gH,gF,gG]at p5;have oa:O kD wr (wr.alloc (.map #[] 0)):=(O.refl _ wr).alloc _;obtain⟨w4,c1,b7,a8⟩:=((v.o.c.mp 1 Z).d8 oa id).put Ea underlying67 (k:=k+1) (a:=wr.heap.size) Z trivial;unfold GY at c1;rw[show(((k+1:Nat):Nat):Int)=(k:Int)+1 by omega]at c1;have n4:wr.heap.size≠y.om 1:=fun q=>by have:=v.o.c.ownLt (k:=y.om 1) (.inr (.inl ⟨1,Z,rfl⟩));omega
       have b9:w4.heap[wr.heap.size]? =some (.map #[] 0):=(a8.block _ jY n4).trans (heap_alloc_new wr _);obtain⟨U,s4⟩:=v.o.c.one (t:=1) (i:=k+1) Z (gI _) b9 b7 ((oa.mono (fun _ _ q=>q.elim)).trans a8) (fun q=>Z);have M:D (Db u (.slice p P.length r) m d g E U (fun t i=>((((t=0\/t=3)/\∃f j,f<P.length/\j<(As P f).t8.length/\i=vN f j)\/(t=4/\i<P.length))\/((t=0\/t=3)/\∃n j,1<=n/\n<=d/\j<4/\i=pN n j))\/(t=1/\1<=i/\i<=k+1)) (fun i x=>i<P.length/\Fg P i x) z w4):=(v.o.trans s4).iff (fun t i=>by
        constructor
        .rintro((q|⟨b,h,s⟩)|⟨b,h⟩)
         .exact .inl q
         .exact .inr ⟨b,h,Z⟩
         .exact .inr ⟨b,Z,Z⟩
        .rintro(q|⟨b,h,s⟩)
         .exact .inl (.inl q)
         .by_cases e:i=k+1
          .exact .inr ⟨b,e⟩
          .exact .inl (.inr ⟨b,h,Z⟩)) (fun _ _=>Iff.rfl)
       clear b7 a8 oa b9 s4 v;go_wp2_with fail;go_roundw
       case rel=>exact⟨k+1,U,Q,by go_num,M⟩
       case measure=>simp[intOf];omega
      .have e:g=k:=Z;subst e;have d2:decide ((g:Int)<(g:Int))=false:=jY;have hR:BE P u (.slice p P.length r) m d g y Sv.zero wr:=v.o.c.fin (fun c t ht=>by
        constructor
        .rintro(((⟨_,f,j,b,h,s⟩|⟨q,_⟩)|⟨_,n,j,b,h,s,F⟩)|⟨q,_⟩)
         .exact .inl ⟨f,j,b,h,s⟩
         .omega
         .exact .inr ⟨n,j,b,h,s,F⟩
         .omega
        .rintro(⟨f,j,b,h,s⟩|⟨n,j,b,h,s,F⟩)
         .exact .inl (.inl (.inl ⟨ht,f,j,b,h,s⟩))
         .exact .inl (.inr ⟨ht,n,j,b,h,s,F⟩)) (fun n=>by
        constructor
        .rintro(((⟨q,_⟩|⟨q,_⟩)|⟨q,_⟩)|⟨_,q⟩)
         .omega
         .omega
         .omega
         .exact q
        .exact fun q=>.inr ⟨rfl,q⟩) (fun f=>by
        constructor
        .rintro(((⟨q,_⟩|⟨_,q⟩)|⟨q,_⟩)|⟨q,_⟩)
         .omega
         .exact q
         .omega
         .omega
        .exact fun q=>.inl (.inl (.inr ⟨rfl,q⟩))) (fun c q=>by
        rcases q with((⟨q,_⟩|⟨q,_⟩)|⟨q,_⟩)|⟨q,_⟩<;>omega) (fun i x=>⟨fun q=>q.2,fun q=>⟨WO q,q⟩⟩)
       have R:O kD w wr:=⟨v.o.on.os.trans K.o.os,v.o.on.tape.trans K.o.tape,v.o.on.output.trans K.o.output,gW K.o.size v.o.on.size,fun j hj _=>(v.o.on.block j (gY hj K.o.size) (fun q=>by have:=b2.o j q;have:=b3.o;omega)).trans (K.o.block j hj id)⟩;have a9:∀j,y.own u j->w.heap.size<=j:=fun j q=>(v.o.ow j q).elim (fun q=>by have:=b2.o j q;have:=b3.o;omega) fun q=>gW K.o.size q
       have HX:D (D6 P u (.slice p P.length r) m d g y Sv.zero wr/\(∀j,y.own u j->w.heap.size<=j)/\O kD w wr/\Ph P y Sv.zero (fun _=>False) 0):=⟨⟨hR,HP.o.s9 R,HT.o.d8 R id tl,gY tl R.size,fun q=>by have:=a9 _ q;omega⟩,a9,R,YT P v.o.c.r0⟩;clear hR R a9;go_wp2_with fail;go_ret;exact⟨u,y,rfl,HX.o⟩
def IX(P:List PFn)(S:Sy)(f g:Nat):Prop:=∃s,s∈(As P f).r9/\((s.kind=7/\g=s.cC)\/(s.kind=8/\S.E s.cA g))
theorem Pf(P G fv mn pn cn o v w)(A:AnOk P pn cn)(h:D6 P G fv mn pn cn o v w)(f:Nat)(V:f<P.length):
 Calls prog 89 #[.pointer (some ⟨G,0,none⟩),.int .i64 f] w fun e N=>∃b,e=.returned (.map (some b))/\w.heap.size<=b/\Bl b (IX P v.s f) N/\O kD w N:=by
 obtain⟨gf,fc,rfl,b8⟩:=h.pl.form Z;obtain⟨vv,sv,b0,_,X⟩:=h.pl.get V;obtain⟨sa,sc,rfl,a4⟩:=X.form;have u:=b0 3 Z;simp only[Oo,gF,gG]at u;have b3:As P f=P[f]:=by unfold As;rw[gL V];rfl
 rw[<-b3]at u X a4;have f0:=A.cR;have f5:=A.lc;have f2:=A.ok.many f;have l:O kD w (w.alloc (.map #[] 0)):=(O.refl _ w).alloc _;have p0:=(h.r.bY.d8 l id).cell 0;have c8:=Ae (h.r.bY.d8 l id);simp only[G7,gH,gF]at p0;have d9:(w.alloc (.map #[] 0)).cell? ⟨gf,f*4+3,none⟩=some (.slice sa (As P f).r9.length sc):=(gJ (l.block gf b8 id)).trans u;have e5:gf<(w.alloc (.map #[] 0)).heap.size:=gY b8 l.size;have f1:(f:Int)<(P.length:Int):=Z;have e1:=@run_makeMap prog;have b6:=Bl.made w;have a7:=J b6;have a5:=J l;have HA:=J A;have H:=J h;have d7:=J X;have d4:=J a4;have e3:∀k,k<w.heap.size->k≠w.heap.size:=fun k q=>Z
 clear h X a4 b3 b0 A l b6 u;go_enter func89,ntmps89;go_wp2_with fail;clear p0 d9 e5 c8 e1;obtain⟨a,S⟩:∃a,a=w.heap.size:=⟨_,rfl⟩;have S0:D (Bl a (fun g=>∃s i,i<0/\(As P f).r9[i]? =some s/\((s.kind=7/\g=s.cC)\/(s.kind=8/\v.s.E s.cA g))) (w.alloc (.map #[] 0))):=by rw[S];exact a7.o.iff fun n=>⟨False.elim,fun⟨_,_,q,_⟩=>Z⟩
 rw[<-S];have I:=J S;clear S e3 a7;generalize w.alloc (.map #[] 0)=W0 at*;go_loopw[19] (fun i wr=>∃j:Nat,j<=(As P f).r9.length/\i=.int .i64 j/\D (Bl a (fun g=>∃s i,i<j/\(As P f).r9[i]? =some s/\((s.kind=7/\g=s.cC)\/(s.kind=8/\v.s.E s.cA g))) wr)/\D (O kD w wr)) (fun i _=>(As P f).r9.length-(intOf i).toNat)
 case atStart=>exact⟨0,Z,rfl,S0,a5⟩
 case round=>
  clear S0 a5;obtain⟨j,hj,rfl,Q,K⟩:=hrel;by_cases L:j<(As P f).r9.length
  .obtain⟨gs,rfl,b9⟩:=d4.o Z;have b7:=d7.o.d8 K.o (fun _ _ _ _ q=>q.elim);have e7:gs<wr.heap.size:=gY b9 K.o.size;obtain⟨av,r,hI⟩:=b7.get L;have c0:=r 0 Z;have c1:=r 1 Z;have c2:=r 2 Z;have u:=r 3 Z;have c4:=r 4 Z;have c5:=r 5 Z;have c6:=r 6 Z;have c7:=r 7 Z;simp only[Ki,gF,gG,gX]at c0 c1 c2 u c4 c5 c6 c7;have b2:=HA.o.ok.ok f V _ (gQ L);have b1:=HA.o.dF f V _ (gQ L);have HG:=J (gL L);have e0:(j:Int)<((As P f).r9.length:Int):=Z;have a2:j+1<=(As P f).r9.length:=L;obtain⟨aa,al,ac,rfl⟩:=Ad hI;clear b7 r hI b9;generalize (As P f).r9[j]=s at*;have l:O kD wr (wr.alloc (.cells #[.int .i64 s.kind,.int .i64 s.cO,.int .i64 s.cC,.int .i64 s.field,.int .i64 s.cA,.slice aa al ac,.int .i64 s.next,.int .i64 s.taken] 189)):=(O.refl _ wr).alloc _;have U:=W.new wr #[.int .i64 s.kind,.int .i64 s.cO,.int .i64 s.cC,.int .i64 s.field,.int .i64 s.cA,.slice aa al ac,.int .i64 s.next,.int .i64 s.taken] 189;have a9:=Q.o.d8 l id;have a8:=K.o.trans l;go_upto_region 5 with fail;generalize wr.alloc (.cells #[.int .i64 s.kind,.int .i64 s.cO,.int .i64 s.cC,.int .i64 s.field,.int .i64 s.cA,.slice aa al ac,.int .i64 s.next,.int .i64 s.taken] 189)=d at*;have f4:a<w.heap.size+1:=by have:=I.o;omega
   have e4:wr.heap.size≠a:=fun q=>by have:=Q.o.lt;omega
   generalize wr.heap.size=tb at*;obtain⟨t0,t2,t4⟩:=U.e3 0 2 4;have f8:=Ae U;simp only[gH,gF,gG]at t0 t2 t4;have a0:=J a9;have a6:=J a8;have d0:=J U;have d3:=J b2;have d2:=J b1;clear c0 c1 c2 u c4 c5 c6 c7 a9 a8 U l e7 b2 b1 Q K;have c9:∀(m:Nat->Prop) (p:World),O (fun k=>k=a) d p->Bl a m p->(∀g,m g↔(∃s i,i<j/\(As P f).r9[i]? =some s/\((s.kind=7/\g=s.cC)\/(s.kind=8/\v.s.E s.cA g)))\/((s.kind=7/\g=s.cC)\/(s.kind=8/\v.s.E s.cA g)))->Bl a (fun g=>∃s i,i<j+1/\(As P f).r9[i]? =some s/\((s.kind=7/\g=s.cC)\/(s.kind=8/\v.s.E s.cA g))) p/\O kD w p:=fun m p C E e6=>by
    refine⟨E.iff fun g=>(e6 g).trans ⟨?_,?_⟩,a6.o.thn C fun k hk q=>by have:=I.o;omega⟩
    .rintro(⟨s',i,q1,t⟩|q)
     .exact⟨s',i,Z,t⟩
     .exact⟨s,j,Z,HG.o,q⟩
    .rintro⟨s',i,q1,t,F⟩;by_cases e:i=j
     .subst e;rw[HG.o]at t;cases t;exact .inr F
     .exact .inl ⟨s',i,Z,t,F⟩
   have a1:=J c9;clear c9;by_cases y:s.kind=7
   .have k7:(((s.kind:Nat):Int)==7)=true:=by rw[y];rfl
    have f3:=d3.o.func (.inr y);have H7:=J y;clear y;go_wp2_with fail;refine(Gf a _ s.cC d a0.o Z).mono ?_;rintro e p ⟨rb,rfl,_,E,C⟩;have c:=J (a1.o _ p C E fun g=>⟨fun q=>q.imp id fun q=>.inl ⟨H7.o,q⟩,fun q=>q.imp id fun q=>q.elim (fun q=>q.2) fun q=>jO (H7.o.symm.trans q.1) T⟩);clear E C;go_wp2_with fail;go_roundw
    case rel=>exact⟨j+1,a2,by go_num,c.o.1,c.o.2⟩
    case measure=>simp[intOf];omega
   .by_cases z:s.kind=8
    .have k7:(((s.kind:Nat):Int)==7)=false:=by rw[z];rfl
     have k8:(((s.kind:Nat):Int)==8)=true:=by rw[z];rfl
     have e2:=d2.o.2.1 z;have H8:=J z;clear y z;have B:=(H.o.s9 a6.o).r;obtain⟨M,a3⟩:=(B.d1 s.cA).2 e2;have f6:=H.o.r.ownLt (.inr (.inr (.inl ⟨1,s.cA,a3⟩)));have f7:=H.o.r.ownLt (k:=G) (.inl rfl);have p5:=B.bY.cell 5;have c8:=Ae B.bY;simp only[G7,gH,gF,gG]at p5;have Y:O kD d d.drew:=(O.refl _ d).drew;have l5:=(((B.mp 1 Z).d8 Y id).look Ea underlying67 (Ci d.drew) (k:=s.cA) Z false).2 M a3;unfold GY at l5;have b5:Bl M (v.s.E s.cA) d.drew:=((B.st 1 s.cA M a3).d8 Y id).iff fun x=>by simp[Ca]
     have b4:=a0.o.d8 Y id;have e9:G≠a:=by have:=I.o;omega
     have e8:a≠M:=by have:=I.o;omega
     have d6:=J b5;have d5:=J b4;have d1:=J B.bY;have d8:D (∀R,O (fun k=>k=a) d R->R.cell? ⟨G,5,none⟩=some (.map (some (o.om 1)))/\R.cell? ⟨tb,4,none⟩=some (.int .i64 s.cA)):=fun R h6=>by have r1:=(d1.o.d8 h6 e9).cell 5;have r2:=(d0.o.d8 h6 e4).cell 4;simp only[G7,gH,gF,gG]at r1 r2;exact⟨r1,r2⟩
     clear b5 b4 B Y;go_wp2_with fail;go_region_held3(fun N=>N.cell? ⟨G,5,none⟩=some (.map (some (o.om 1)))/\N.cell? ⟨tb,4,none⟩=some (.int .i64 s.cA)) (go_keep)
      (first
        |(go_at_call 127;refine(G5 a M _ _ _ d5.o d6.o e8).mono ?_;rintro e p ⟨fb,rfl,_,_,E,C⟩;have S6:=J E;have O6:=J ((O.drew (O.refl (fun k=>k=a) d)).trans C);clear E C;obtain⟨r1,r2⟩:=d8.o p O6.o))
     all_goals
      have c:=J (a1.o _ p O6.o S6.o fun g=>⟨fun q=>q.imp id fun q=>.inr ⟨H8.o,q⟩,fun q=>q.imp id fun q=>q.elim (fun q=>jO (H8.o.symm.trans q.1) T) fun q=>q.2⟩);clear S6 O6;go_wp2_with fail;go_roundw
      case rel=>exact⟨j+1,a2,by go_num,c.o.1,c.o.2⟩
      case measure=>simp[intOf];omega
    .have k7:(((s.kind:Nat):Int)==7)=false:=jX;have k8:(((s.kind:Nat):Int)==8)=false:=jX;have c:=J (a1.o _ d (O.refl _ _) a0.o fun g=>⟨.inl,fun q=>q.elim id fun q=>q.elim (fun q=>jO q.1 y) fun q=>jO q.1 z⟩);clear y z;go_wp2_with fail;go_roundw
     case rel=>exact⟨j+1,a2,by go_num,c.o.1,c.o.2⟩
     case measure=>simp[intOf];omega
  .have e:j=(As P f).r9.length:=Z;subst e;have e0:decide (((As P f).r9.length:Int)<((As P f).r9.length:Int))=false:=jY;have c:D (Bl a (IX P v.s f) wr):=Q.o.iff fun g=>by
    constructor
    .rintro⟨s,i,q1,t,F⟩;exact⟨s,List.mem_of_getElem? t,F⟩
    .rintro⟨s,t,F⟩;obtain⟨i,hi,e⟩:=iF.1 t;exact⟨s,i,hi,by rw[gL hi,e],F⟩
   go_wp2_with fail;go_ret;exact⟨a,rfl,by have:=I.o;omega,c.o,K.o⟩
def Gz(P:List PFn)(S:Sy)(m g:Nat):Prop:=∀X:Nat->Prop,X m->(∀f g,X f->IX P S f g->X g)->X g
theorem Gz.rf(P:List PFn)(S:Sy)(m:Nat):Gz P S m m:=fun _ h _=>h
theorem Gz.step{P S m f g}(h:Gz P S m f)(k:IX P S f g):Gz P S m g:=fun X b a=>a f g (h X b a) k
theorem IX.iff{P}{S a:Sy}(h:S.le a)(k:a.le S)(f g:Nat):IX P S f g↔IX P a f g:=
 ⟨fun⟨s,q,r⟩=>⟨s,q,r.imp id fun r=>⟨r.1,h.e _ _ r.2⟩⟩,fun⟨s,q,r⟩=>⟨s,q,r.imp id fun r=>⟨r.1,k.e _ _ r.2⟩⟩⟩
theorem Gz.iff{P}{S a:Sy}(h:S.le a)(k:a.le S)(m g:Nat):Gz P S m g↔Gz P a m g:=
 ⟨fun q X b c=>q X b fun f g i e=>c f g i ((IX.iff h k f g).1 e),fun q X b c=>q X b fun f g i e=>c f g i ((IX.iff h k f g).2 e)⟩
theorem IX.lt{P j a}{S:Sy}(A:AnOk P j a)(h:S.le (least P)){f g:Nat}(e:f<P.length)(k:IX P S f g):g<P.length:=by
 obtain⟨s,i,⟨b,rfl⟩|⟨_,c⟩⟩:=k
 .exact(A.ok.ok f e s i).func (.inr b)
 .exact(Hl A (h.e _ _ c)).2
structure Bf(P:List PFn)(S:Sy)(m:Nat)(d:Nat->Prop)(Q:List Nat)(C:Nat->Prop):Prop where
 hm:d m
 le:∀g,d g->Gz P S m g
 q:∀g,g∈Q->d g
 cl:∀f g,d f->f∉Q->¬C f->IX P S f g->d g
section
variable{P:List PFn}{S:Sy}{m c g:Nat}{d:Nat->Prop}{Q:List Nat}
theorem Bf.start(P:List PFn)(S:Sy)(m:Nat):Bf P S m (fun g=>g=m) [m] (fun _=>False):=
 ⟨rfl,fun g e=>e▸Gz.rf P S m,fun g h=>by simpa using h,fun f g e h=>jO (by rw[e];simp) h⟩
theorem Bf.pop(h:Bf P S m d (c::Q) (fun _=>False)):Bf P S m d Q (fun f=>f=c)/\d c:=
 ⟨⟨h.hm,h.le,fun g e=>h.q g (iA _ e),fun f g b i a=>h.cl f g b (fun q=>(iZ.1 q).elim a i) id⟩,h.q c jF⟩
theorem Bf.old(h:Bf P S m d Q (fun f=>f=c))(a:d g):Bf P S m (fun x=>d x\/x=g) Q (fun f=>f=c):=by
 have e:(fun x=>d x\/x=g)=d:=funext fun x=>propext ⟨fun q=>q.elim id fun q=>q▸a,.inl⟩
 rw[e];exact h
theorem Bf.add(h:Bf P S m d Q (fun f=>f=c))(j:d c)(k:IX P S c g):Bf P S m (fun x=>d x\/x=g) (Q++[g]) (fun f=>f=c):=by
 refine⟨.inl h.hm,fun x b=>b.elim (h.le x) fun q=>q▸(h.le c j).step k,fun x b=>?_,fun f x a e i l=>?_⟩
 .rcases iM.1 b with q|q
  .exact .inl (h.q x q)
  .exact .inr (by simpa using q)
 .rcases a with a|rfl
  .exact .inl (h.cl f x a (fun q=>e (iM.2 (.inl q))) i l)
  .exact jO (iM.2 (.inr jY)) e
theorem Bf.fin(h:Bf P S m d Q (fun f=>f=c))(b:∀g,IX P S c g->d g):Bf P S m d Q (fun _=>False):=by
 refine⟨h.hm,h.le,h.q,fun f g i j _ a=>?_⟩;by_cases e:f=c
 .exact b g (e▸a)
 .exact h.cl f g i j e a
theorem Bf.done(h:Bf P S m d [] (fun _=>False))(g:Nat):d g↔Gz P S m g:=
 ⟨h.le g,fun q=>q d h.hm fun f x a b=>h.cl f x a jY id b⟩
def MJ(d:Nat->Prop)(l n:Nat):Prop:=n=2*((List.range 12).countP fun i=>@decide (¬d i) (Classical.propDecidable _))+l
theorem Vy(e:g<12)(f:¬d g){l a b:Nat}(h:MJ d l a)(k:MJ (fun x=>d x\/x=g) (l+1) b):b<a:=by
 unfold MJ at h k;have:=Hh (p:=fun i=>@decide (¬(d i\/i=g)) (Classical.propDecidable _)) (q:=fun i=>@decide (¬d i) (Classical.propDecidable _)) (List.range 12) (fun x _ c=>by simp only[jD]at c⊢;exact fun q=>c (.inl q)) ⟨g,List.mem_range.2 e,by simp only[jD];exact f,jY⟩
 dsimp only at this h k;omega
end
def JJ(B:Nat)(w:World)(v:Value)(l:List Nat):Prop:=
 ∃g o a b,v=.slice (some ⟨g,o,none⟩) l.length a/\B<=g/\w.heap[g]? =some (.cells b 3 (0,0))/\l.length<=a/\o+a<=b.size/\a<=maxLen/\∀j (h:j<l.length),b[o+j]? =some (.int .i64 (l[j]:Int))
theorem JJ.d8{B}{X:Nat->Prop}{w b v l}(h:JJ B w v l)(i:O X w b)(j:∀k,v.ownBlock=some k->¬X k):JJ B b v l:=by obtain⟨g,o,c,d,rfl,e,a,f⟩:=h;exact⟨g,o,c,d,rfl,e,by rw[i.block g (Ae a) (j g rfl)];exact a,f⟩
theorem JJ.kind{B w v l}(h:JJ B w v l):∀k,v.ownBlock=some k->B<=k/\∃a,w.heap[k]? =some (.cells a 3 (0,0)):=by obtain⟨g,o,e,a,rfl,b,c,_⟩:=h;intro k d;cases d;exact⟨b,a,c⟩
theorem JJ.form{B w v l}(h:JJ B w v l):∃g o a,v=.slice (some ⟨g,o,none⟩) l.length a/\B<=g/\g<w.heap.size/\l.length<=a/\a<=maxLen:=by obtain⟨g,o,a,f,rfl,b,c,d,_,e,_⟩:=h;exact⟨g,o,a,rfl,b,Ae c,d,e⟩
theorem JJ.head{B w g o n a c l}(h:JJ B w (.slice (some ⟨g,o,none⟩) n a) (c::l)):w.cell? ⟨g,o,none⟩=some (.int .i64 (c:Int)):=by obtain⟨g,o,a,b,e,i,d,j,_,k,f⟩:=h;cases e;rw[cell_of_row w g o b _ _ d];have:=f 0 jY;simpa using this
theorem JJ.tail{B w g o n a c l}(h:JJ B w (.slice (some ⟨g,o,none⟩) n a) (c::l)):∃m,(if a=1 then some (⟨g,o,none⟩:Addr)else some (⟨g,o+1,none⟩:Addr))=some ⟨g,m,none⟩/\JJ B w (.slice (some ⟨g,m,none⟩) l.length (a-1)) l:=by
 obtain⟨g,o,a,d,e,i,k,p,s,r,q⟩:=h;cases e;rw[gK]at p;by_cases f:a=1
 .have:l=[]:=List.eq_nil_of_length_eq_zero Z;subst this;exact⟨o,by rw[jH f],g,o,a-1,d,rfl,i,k,jY,Z,Z,fun j b=>jO b jY⟩
 .refine⟨o+1,by rw[jG f],g,o+1,a-1,d,rfl,i,k,Z,Z,Z,fun j b=>?_⟩;have:=q (j+1) (by simpa using b);rw[Nat.add_assoc,Nat.add_comm 1 j];simpa using this
theorem JJ.of{B w v l}(h:Ax B w v l)(c:l≠[]):JJ B w v l:=by
 have o:l.length≠0:=fun q=>c (List.eq_nil_of_length_eq_zero q)
 rcases h.2 with⟨_,q⟩|⟨g,b,a,rfl,d,f,i,k,p,m⟩
 .exact jO q o
 .refine⟨g,0,b,a,rfl,d,f,i,Z,k,fun j n=>?_⟩;have e:(a.toList.take (l.length*1))[j]? =some (.int .i64 (l[j]:Int)):=by rw[m];simp[n]
  rw[List.getElem?_take,jH Z]at e;simpa using e
theorem JJ.push(G:TypeId)(b:Addr)(c:Nat){B w v l}(X:JJ B w v l)(n:Nat)(U:w.cell? b=some (.int .i64 (n:Int)))(L:b.add 0=b)(hl:l.length<=100000)(K:B<=w.heap.size):
 ∃g o a s,(Builtin.append_ #[50,50] G #[v,.slice (some b) 1 c]).run prog w=.ok (.slice (some ⟨g,o,none⟩) (l.length+1) a) s/\JJ B s (.slice (some ⟨g,o,none⟩) (l.length+1) a) (l++[n])/\O (fun k=>v.ownBlock=some k) w s/\(v.ownBlock=some g\/w.heap.size<=g):=by
 obtain⟨r,z,a0,m,a1⟩:=info_parts Tryz.infoInt;obtain⟨g,o,a,d,rfl,H,p,h3,h4,I,t⟩:=X;have A:∀j u,[Value.int .i64 (n:Int)][j]? =some u->w.cell? (b.add j)=some u:=fun j u q=>by
  match j,q with
  |0,q=> rw[L,U];simpa using q
 have lw:=Ae p;by_cases C:l.length+1<=a
 .have y:=run_firstCells_some (P:=prog) w r.size 1 b 1 c [.int .i64 (n:Int)] (by rw[m];rfl) A;have E:=run_storeCells_at prog g (o+l.length) 3 [.int .i64 (n:Int)] 0 d w p jX (fun x F=>by simp at F;subst F;rfl);simp only[gX,iC]at E;refine⟨g,o,a,w.setRow g (d.toList.take (o+l.length)++[Value.int .i64 (n:Int)]++d.toList.drop (o+l.length+1)).toArray,?_,⟨g,o,a,_,by rw[gM];rfl,H,setRow_heap w g d _ _ _ p,by rw[gM];exact C,?_,I,fun j f=>?_⟩,⟨rfl,rfl,rfl,jY,fun k _ Q=>setRow_other w g k _ (fun e=>Q (by rw[e];rfl))⟩,.inl rfl⟩
  .rw[m]at y;simp[Builtin.append_,run_underlying underlying50,sizeOf,typeInfo,z,m,Builtin.lenOf,C,y,Addr.add_lit,E]
  .simp only[List.size_toArray,gM,List.length_take,List.length_drop,Array.length_toList,iC];omega
  .simp only[gH];rw[gM,iC]at f;by_cases e:j=l.length
   .subst e;have S:min (o+l.length) d.size=o+l.length:=Z;rw[jJ jX,jI (by rw[List.length_take];omega)];simp[S]
   .have h:j<l.length:=Z;rw[jJ jX,jJ jX,List.getElem?_take,jH Z];have:=t j h;rw[iG h];simpa using this
 .have R:(l.map fun i:Nat=>Value.int .i64 (i:Int)).length=l.length*r.size:=by rw[m];simp
  have V:∀j v,(l.map fun i:Nat=>Value.int .i64 (i:Int))[j]? =some v->w.cell? ((⟨g,o,none⟩:Addr).add j)=some v:=fun j v Y=>by rw[Addr.add_lit,cell_of_row w g (o+j) d _ _ p];obtain⟨f,e⟩:=List.getElem?_eq_some_iff.1 Y;rw[iJ]at f;rw[t j f,<-e];simp
  have N:=run_append_grow (P:=prog) w 50 G 3 r (.int .i64 0) underlying50 z a0 ⟨g,o,none⟩ l.length a _ R V b 1 c [.int .i64 (n:Int)] (by rw[m];rfl) A Z Z (growslice_fits Z (by rw[a1];omega));have M:=grownCap_ge w (l.length+1) a 3;refine⟨_,0,_,_,N,⟨w.heap.size,0,_,_,by rw[gM];rfl,K,heap_alloc_new w.drew _,by rw[gM];exact M,?_,grownCap_le_maxLen w _ _ _ jZ,fun j f=>?_⟩,((O.refl _ w).drew).alloc _,.inr (gI _)⟩
  .simp only[Array.size_append,List.size_toArray,size_zeroCells,iJ,iC,iO,Value.cells];simp;omega
  .rw[gM,iC]at f;rw[iO];by_cases e:j=l.length
   .subst e;rw[Array.getElem?_append_left jY,Array.getElem?_append_right jY];simp
   .have h:j<l.length:=Z;rw[iG h,Array.getElem?_append_left jX,Array.getElem?_append_left (by simpa using h)];simp[h]
theorem Kk{i:Array Oper}{j:List Oper}{d:Oper}{a:Act}{Q:Exit->Act->World->Prop}(w:World)(y:d.guard=none)(s x:Operand)
 (C:d.op=.call {callee:=.builtin .append,args:=#[s,x],argTypes:=#[50,50]}){B:Nat}{v:Value}{l:List Nat}(G:a.eval s=v)(E:JJ B w v l)(n:Nat)(b:Addr)(c:Nat)(H:a.eval x=.slice (some b) 1 c)
 (A:w.cell? b=some (.int .i64 (n:Int)))(u:b.add 0=b)(z:l.length<=100000)(r:B<=w.heap.size)
 (h:∀g o f e,JJ B e (.slice (some ⟨g,o,none⟩) (l.length+1) f) (l++[n])->O (fun k=>v.ownBlock=some k) w e->(v.ownBlock=some g\/w.heap.size<=g)->wpList prog i Q j (a.put d.dst (.slice (some ⟨g,o,none⟩) (l.length+1) f)) e):
 wpList prog i Q (d::j) a w:=by
 refine wpList_plain y fun K t=>?_
 obtain⟨g,o,f,e,F,m,p,q⟩:=E.push d.type b c n A u z r;unfold Oper.wp execOp;simp only[C,resolve,invoke,builtin,Sem.run_bind,Sem.run_pure,Result.andThen_ok,List.map_toArray,iK,List.map_nil,G,H,F];exact t _ _ (h g o f e m p q)
def CG(f:PFn):PFn:=⟨f.name,f.t8,f.u9,[]⟩
theorem DT(P:List PFn)(i:Nat):As (P.map CG) i=CG (As P i):=by unfold As;rw[iL];cases P[i]? <;>rfl
theorem Xr(P:List PFn)(t:Tg):IN (P.map CG) t=IN P t:=by unfold IN Hx;rw[DT];rfl
theorem NR.bare{P:List PFn}(h:NR P):NR (P.map CG):=
 ⟨by rw[iJ];exact h.cR,fun i=>by rw[DT];exact h.t8 i,fun i=>by rw[DT];exact h.dX i,fun i=>by rw[DT];exact gV _,fun i _ s a=>by rw[DT]at a;cases a⟩
theorem PnOk.bare{P:List PFn}(h:PnOk P):PnOk (P.map CG):=
 ⟨fun i=>by rw[DT];exact h.name i,fun i j=>by have:=h.t8 i j;unfold Hx at this⊢;rw[DT];exact this⟩
theorem Lh.bare{P:List PFn}{t}(h:Lh P t):Lh (P.map CG) t:=by unfold Lh at h⊢;rw[iJ,DT];exact h
def QT(x:Nat):Tg:=⟨(Ds x).1,(Ds x).2.1,(Ds x).2.2⟩
def BU(P:List PFn)(x:Nat):ByteArray:=⟨(IN P (QT x)).toArray⟩
theorem Sj{P:List PFn}{j x:Nat}(o:P.length<=12)(l:∀f,(As P f).t8.length<=12)(p:j<=4000)(h:Er P j x):Lh P (QT x):=by
 rcases h with(⟨f,i,c,d,rfl⟩|⟨n,k,c,d,m,rfl⟩)|⟨g,c,rfl⟩
 .have:=l f;have e:Ds (vN f i)=(0,f,i):=by unfold Ds vN;rw[jH Z];have a:(f*12+i) / 12=f:=Z;have b:(f*12+i) % 12=i:=Z;rw[a,b]
  unfold QT;rw[e];exact .inl ⟨rfl,c,d⟩
 .have e:Ds (pN n k)=(1,n,k):=by unfold Ds pN;rw[jG Z,jG Z];have a:(156+(n-1)*4+k-156) / 4+1=n:=Z;have b:(156+(n-1)*4+k-156) % 4=k:=Z;rw[a,b]
  unfold QT
  rw[e]
  exact .inr (.inl ⟨rfl,by show n<=4000;omega,by show k<=3;omega⟩)
 .have e:Ds (fN g)=(2,g,0):=by unfold Ds fN;rw[jG Z,jH Z];have a:144+g-144=g:=Z;rw[a]
  unfold QT
  rw[e]
  exact .inr (.inr ⟨rfl,c,rfl⟩)
structure SetsAt(P:List PFn)(S:Sy)(fv:Value)(mn pn cn pb eb rb:Nat)(w:World):Prop where
 pl:Bv 0 w fv (P.map CG)
 pm:∃bk,BK IK IJ pb bk w/\(∀c,(∃k,bk c=some k)↔AK P pn c)/\∀c k,bk c=some k->Bl k (S.I c) w
 em:∃bk,BK IK IJ eb bk w/\(∀n,(∃k,bk n=some k)↔1<=n/\n<=cn)/\∀n k,bk n=some k->Bl k (S.E n) w
 rs:Bl rb (Gz P S mn) w
 tb:JQ w
 tl:0<w.heap.size
def DO(c:Value)(d f a e b g:Nat):Array Value:=#[c,.int .i64 d,.int .i64 f,.int .i64 a,.map (some e),.map (some b),.map (some g)]
theorem SetsAt.s9{P S d e g a f b i w j}(h:SetsAt P S d e g a f b i w)(k:O kD w j):SetsAt P S d e g a f b i j:=by obtain⟨l,p,n,s⟩:=h.pm;obtain⟨m,r,o,t⟩:=h.em;exact⟨h.pl.s9 k,⟨l,p.d8 k id,n,fun c x q=>(s c x q).d8 k id⟩,⟨m,r.d8 k id,o,fun c x q=>(t c x q).d8 k id⟩,h.rs.d8 k id,h.tb.d8 k id h.tl,gY h.tl k.size⟩

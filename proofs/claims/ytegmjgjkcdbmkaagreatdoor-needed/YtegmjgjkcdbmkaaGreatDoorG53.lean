/- One of the texts of the proof: GrA GrB GrC GrD GrE GrF GrG. -/
import Derived.Test.YtegmjgjkcdbmkaaGreatDoorG24
import Derived.Test.YtegmjgjkcdbmkaaGreatDoorG52
set_option maxRecDepth 100000
set_option maxHeartbeats 4000000
namespace Go.Proofs.YtegmjgjkcdbmkaaGreatDoor
open Go.RowKit Go.Maps
structure eE(T U:Tb):Prop where
 fl:T.F.length≤U.F.length
 el:T.E.length≤U.E.length
 v:∀f v,f<4→v<4→Fj (FD T f v) (FD U f v)=true
 f:∀i (h:i<T.F.length) (h':i<U.F.length),Fj T.F[i] U.F[i]=true
 e:∀i (h:i<T.E.length) (h':i<U.E.length),Fj T.E[i] U.E[i]=true
structure fG(w:World)(cs ds:Array Value)(wr:World):Prop where
 b0:Ak w.heap.size cs 33 wr
 b1:Ak (w.heap.size+1) ds 33 wr
 o:Ab (fun _=>False) w wr
theorem fG.go{w a b wr c}(h:fG w a b wr)(k:Ab (fun _=>False) wr c):fG w a b c:=⟨h.b0.O k (fun q=>q),h.b1.O k (fun q=>q),h.o.trans k⟩
theorem eF(vs us:List Value)(Z X Y V:Value)(T U:Tb)(w:World)(h:Ek w vs Z X T)(k:Ek w us Y V U)(R:eE T U):
 Calls Tryz.prog 15 #[.agg (Fv vs Z X),.agg (Fv us Y V)] w fun e w'=>e=.returned (.bool true)∧Ab (fun _=>False) w w':=by
 have HS:=Aa h;have HU:=Aa k;have S:=Aa R;obtain ⟨fa,fc,O,f2⟩:=h.fld;obtain ⟨ea,ec,N,e2⟩:=h.bN;obtain ⟨ga,gc,P,g2⟩:=k.fld;obtain ⟨ha,hc,Q,h2⟩:=k.bN;have b1:=R.fl;have b0:=R.el;have b9:=k.fl;have b8:=k.el;obtain ⟨C,a8⟩:∃n,T.F.length=n:=⟨_,rfl⟩;obtain ⟨B,a7⟩:∃n,T.E.length=n:=⟨_,rfl⟩;obtain ⟨mF,a6⟩:∃n,U.F.length=n:=⟨_,rfl⟩;obtain ⟨mE,a5⟩:∃n,U.E.length=n:=⟨_,rfl⟩;have F2:=Aa f2;have E2:=Aa e2;have G2:=Aa g2;have H2:=Aa h2;rw [a8] at b1 O;rw [a7] at b0 N;rw [a6] at b1 b9 P;rw [a5] at b0 b8 Q;obtain ⟨o,a0⟩:∃c,Fv vs Z X=c:=⟨_,rfl⟩;obtain ⟨q,a3⟩:∃c,Fv us Y V=c:=⟨_,rfl⟩;rw [a0] at O N⊢;rw [a3] at P Q⊢;have b2:=Aa a0;have b3:=Aa a3;have F1:=Aa O;have E1:=Aa N;have G1:=Aa P;have H1:=Aa Q;have b7:=Aa a8;have b6:=Aa a7;have b5:=Aa a6;have b4:=Aa a5;clear h k R f2 e2 g2 h2 a0 a3 O N P Q a8 a7 a6 a5;have a:dN (fG w o q ((w.alloc (.cells o 33)).alloc (.cells q 33))):=by refine ⟨(Ak.new w o _).alloc _,?_,((Ab.refl _ w).alloc _).alloc _⟩;have:=Ak.new (w.alloc (.cells o 33)) q 33;simpa using this
 go_enter Tryz.func15,Tryz.ntmps15;go_upto_region 1 with fail;generalize (w.alloc (.cells o 33)).alloc (.cells q 33)=W at a⊢;have r:=Ae a.o.b0;have s:=Ae a.o.b1;have z:=a.o.b0.cell 16;have F:=a.o.b0.cell 17;have A:=a.o.b1.cell 16;have G:=a.o.b1.cell 17;rw [F1.o] at z;rw [E1.o] at F;rw [G1.o] at A;rw [H1.o] at G;have t1:decide ((mF:Int)<(C:Int))=false:=by simp;omega
 have t2:decide ((mE:Int)<(B:Int))=false:=by simp;omega
 go_wp2_with fail;clear r s z F A G;go_loopw [5] (fun i wr=>∃(f:Nat),f≤4∧i=.int .i64 f∧dN (fG w o q wr)) (fun i _=>4-(intOf i).toNat)
 case atStart=>exact ⟨0,by omega,rfl,a⟩
 case round=>
  clear a;obtain ⟨f,hf,rfl,a⟩:=hrel;by_cases a4:f<4
  ·have tf:decide ((f:Int)<4)=true:=by simp;omega
   go_wp2_with fail;go_loopw [6] (fun i wr=>∃(v:Nat),v≤4∧i=.int .i64 v∧dN (fG w o q wr)) (fun i _=>4-(intOf i).toNat)
   case atStart=>exact ⟨0,by omega,rfl,a⟩
   case round=>
    clear a;obtain ⟨v,hv,rfl,a⟩:=hrel;by_cases a9:v<4
    ·have tv:decide ((v:Int)<4)=true:=by simp;omega
     have r:=Ae a.o.b0;have s:=Ae a.o.b1;obtain ⟨a1,x1,p1,s1⟩:=(HS.o.i9 a.o.o).var a4 a9;obtain ⟨a2,x2,p2,s2⟩:=(HU.o.i9 a.o.o).var a4 a9;have q1:=a.o.b0.cell (f*4+v);have q2:=a.o.b1.cell (f*4+v);rw [←b2.o,p1] at q1;rw [←b3.o,p2] at q2;have S1:=Aa s1;have S2:=Aa s2;have m:=Aa (S.o.v f v a4 a9);clear p1 p2 s1 s2;go_wp2_with fail;go_quiet ((go_at_call 18;exact Calls.quiet_of_same (Ev 0 _ _ _ _ _ S1.o S2.o)));rw [m.o];have p:=Aa (a.o.go ((Ab.refl _ wr).drewN nq));generalize wr.drewN nq=w1 at p⊢;clear a r s q1 q2 S1 S2 m;go_wp2_with fail;go_roundw
     case rel=>exact ⟨v+1,by omega,by go_num,p⟩
     case measure=>simp [intOf];omega
    ·have tv:decide ((v:Int)<4)=false:=by simp;omega
     go_wp2_with fail;go_roundw
     case rel=>exact ⟨f+1,by omega,by go_num,a⟩
     case measure=>simp [intOf];omega
  ·have tf:decide ((f:Int)<4)=false:=by simp;omega
   go_wp2_with fail;go_loopw [8] (fun i wr=>∃(J:Nat),J≤C∧i=.int .i64 J∧dN (fG w o q wr)) (fun i _=>C-(intOf i).toNat)
   case atStart=>exact ⟨0,by omega,rfl,a⟩
   case round=>
    clear a;obtain ⟨i,hi,rfl,a⟩:=hrel;have r:=Ae a.o.b0;have s:=Ae a.o.b1;have z:=a.o.b0.cell 16;have A:=a.o.b1.cell 16;rw [F1.o] at z;rw [G1.o] at A;by_cases c1:i<C
    ·have ti:decide ((i:Int)<(C:Int))=true:=by simp;omega
     have t:i<T.F.length:=by rw [b7.o];exact c1
     have u:i<U.F.length:=by rw [b5.o];omega
     obtain ⟨g,b,d,rfl,K,y2,x⟩:=(F2.o.i9 a.o.o).get t;obtain ⟨g',b',d',rfl,M,z2,y⟩:=(G2.o.i9 a.o.o).get u;have hm:i<mF:=by omega
     have m:=Aa (S.o.f i t u);obtain ⟨L,H⟩:∃l,T.F[i]=l:=⟨_,rfl⟩;obtain ⟨L2,I⟩:∃l,U.F[i]=l:=⟨_,rfl⟩;rw [H] at K x m;rw [I] at M y m;have D:=Aa x;have E:=Aa y;clear x y H I t u;go_wp2_with fail;go_quiet ((go_at_call 18;exact Calls.quiet_of_same (Ev 0 _ _ _ _ _ D.o E.o)));rw [m.o];have p:=Aa (a.o.go ((Ab.refl _ wr).drewN nq));generalize wr.drewN nq=w1 at p⊢;clear a r s z A D E m K y2 M z2;go_wp2_with fail;go_roundw
     case rel=>exact ⟨i+1,by omega,by go_num,p⟩
     case measure=>simp [intOf];omega
    ·have ti:decide ((i:Int)<(C:Int))=false:=by simp;omega
     go_wp2_with fail;clear r s z A;go_loopw [10] (fun j wr=>∃(J:Nat),J≤B∧j=.int .i64 J∧dN (fG w o q wr)) (fun j _=>B-(intOf j).toNat)
     case atStart=>exact ⟨0,by omega,rfl,a⟩
     case round=>
      clear a;obtain ⟨j,hj,rfl,a⟩:=hrel;have r:=Ae a.o.b0;have s:=Ae a.o.b1;have F:=a.o.b0.cell 17;have G:=a.o.b1.cell 17;rw [E1.o] at F;rw [H1.o] at G;by_cases c0:j<B
      ·have tj:decide ((j:Int)<(B:Int))=true:=by simp;omega
       have t:j<T.E.length:=by rw [b6.o];exact c0
       have u:j<U.E.length:=by rw [b4.o];omega
       obtain ⟨g,b,d,rfl,K,y2,x⟩:=(E2.o.i9 a.o.o).get t;obtain ⟨g',b',d',rfl,M,z2,y⟩:=(H2.o.i9 a.o.o).get u;have hm:j<mE:=by omega
       have m:=Aa (S.o.e j t u);obtain ⟨L,H⟩:∃l,T.E[j]=l:=⟨_,rfl⟩;obtain ⟨L2,I⟩:∃l,U.E[j]=l:=⟨_,rfl⟩;rw [H] at K x m;rw [I] at M y m;have D:=Aa x;have E:=Aa y;clear x y H I t u;go_wp2_with fail;go_quiet ((go_at_call 18;exact Calls.quiet_of_same (Ev 0 _ _ _ _ _ D.o E.o)));rw [m.o];have p:=Aa (a.o.go ((Ab.refl _ wr).drewN nq));generalize wr.drewN nq=w1 at p⊢;clear a r s F G D E m K y2 M z2;go_wp2_with fail;go_roundw
       case rel=>exact ⟨j+1,by omega,by go_num,p⟩
       case measure=>simp [intOf];omega
      ·have tj:decide ((j:Int)<(B:Int))=false:=by simp;omega
       go_wp2_with fail;go_ret;exact ⟨rfl,a.o.o⟩
theorem dQ{d:List Sm}{P:List PFn}(M:MadeP (fsOf d) 0 0 P){r:Rl}(h:Ly P r):(r.s.kind=0∨r.s.kind=11∨r.s.kind=12)∨∃x,x∈Ch (Cd d) 0 0∧x.1.aW=r.f∧Mt x.1 x.2 r.s:=by
 have t:=Ip M;have l:r.f<4:=by have:=h.1;omega
 have b:r.f<(fsOf d).length:=by rw [Ic];exact l
 obtain ⟨_,_,_,n⟩:=M.at_ r.f b;rcases n.of r.s h.2 with q | ⟨x,c,m⟩
 ·exact .inl q
 ·refine .inr ⟨x,?_,?_,m⟩
  ·have p:∀(a:List (Nat×List Sm)) (g f i:Nat) (b:i<a.length),x∈Ch (a[i]).2 (g+DS ((a.take i).flatMap (·.2))) (f+DT ((a.take i).flatMap (·.2)))→x∈Ch (a.flatMap (·.2)) g f:=by
    intro a;induction a with
    | nil=>intro g f i b;simp at b
    | cons q a o=>
      intro g f i b c;rw [List.flatMap_cons,It];rcases i with _ | i
      ·exact List.mem_append_left _ (by simpa [DS,DT] using c)
      ·refine List.mem_append_right _ (o _ _ i (by simpa using b) ?_);simp only [List.getElem_cons_succ,List.take_succ_cons,List.flatMap_cons,QZ,Q4] at c;rw [←Nat.add_assoc,←Nat.add_assoc] at c;exact c
   exact p (fsOf d) 0 0 r.f b c
  ·have j:=(Ga c).1;have e:((fsOf d)[r.f]).2=d.filter fun s=>s.aW==r.f:=by simp [fsOf]
   rw [e] at j;have k:=(List.mem_filter.1 j).2;simpa using k
theorem eB{s c:Sm}{n:Nat}{u d:AY}(h:Mt s n u)(b:Mt c n d)(x:s.kind≤9)(j:c.kind=s.kind)(k:c.p=s.p)(l:c.q=s.q)(m:c.g=s.g)(o:c.k=s.k)(p:c.args=s.args):
 d.kind=u.kind∧(u.kind≠10→d.aQ=u.aQ)∧(u.kind≠1→d.r9=u.r9)∧(u.kind=3→d.field=u.field)∧(u.kind=1∨u.kind=8→d.m9=u.m9)∧(u.kind=7∨u.kind=8→d.args=u.args):=by
 have a:=h.kd;have i:=b.kd;rw [j] at i;have g:s.kind=0∨s.kind=1∨s.kind=2∨s.kind=3∨s.kind=4∨s.kind=5∨s.kind=6∨s.kind=7∨s.kind=8∨s.kind=9:=by omega
 refine ⟨i.trans a.symm,fun q=>?_,fun q=>?_,fun q=>?_,fun q=>?_,fun q=>?_⟩
 ·have v:s.kind≤8:=by
   rcases Nat.lt_or_ge 8 s.kind with r | r
   ·have:s.kind=9:=by omega
    rw [this] at a;exact absurd a q
   ·exact r
  rw [b.tg (by omega),h.tg v,k]
 ·by_cases t:s.kind=2∨s.kind=7
  ·rw [b.sf (by omega),h.sf t,m]
  ·have w:s.kind≠0:=fun r=>by rw [r] at a;exact q a
   rw [b.sr (by omega),h.sr (by omega),l]
 ·have f:s.kind=4:=by rcases g with e | e | e | e | e | e | e | e | e | e<;>rw [e] at a<;>simp only [kM] at a<;>omega
  rw [b.fd (by omega),h.fd f,o]
 ·have f:s.kind=0∨s.kind=8:=by rcases g with e | e | e | e | e | e | e | e | e | e<;>rw [e] at a<;>simp only [kM] at a<;>omega
  rw [b.nm (by omega),h.nm f]
 ·have f:s.kind=7∨s.kind=8:=by rcases g with e | e | e | e | e | e | e | e | e | e<;>rw [e] at a<;>simp only [kM] at a<;>omega
  rw [b.ar (by omega),h.ar f,p]
structure SmS(x y:Sm×Nat):Prop where
 n:y.2=x.2
 aW:y.1.aW=x.1.aW
 kind:y.1.kind=x.1.kind
 p:y.1.p=x.1.p
 q:y.1.q=x.1.q
 g:y.1.g=x.1.g
 k:y.1.k=x.1.k
 args:y.1.args=x.1.args
section
variable {l m : List Sm} {P Q : List PFn} (M : MadeP (fsOf l) 0 0 P) (c : MadeP (fsOf m) 0 0 Q) (d : ∀ s, s ∈ l → s.In) (j : ∀ x, x ∈ Ch (Cd l) 0 0 → ∃ y, y ∈ Ch (Cd m) 0 0 ∧ SmS x y)
include M c d j
theorem dP{r:Rl}(h:Ly P r):(r.s.kind=0∨r.s.kind=11∨r.s.kind=12)∨∃a,Ly Q a∧a.f=r.f∧a.s.kind=r.s.kind∧(r.s.kind≠10→a.s.aQ=r.s.aQ)∧(r.s.kind≠1→a.s.r9=r.s.r9)∧(r.s.kind=3→a.s.field=r.s.field)∧(r.s.kind=1∨r.s.kind=8→a.s.m9=r.s.m9)∧(r.s.kind=7∨r.s.kind=8→a.s.args=r.s.args):=by
 rcases dQ M h with q | ⟨x,f,i,k⟩
 ·exact .inl q
 ·obtain ⟨y,o,e⟩:=j x f;obtain ⟨a,n,g,b⟩:=L3 c o;rw [e.n] at b;have:=eB k b (Qa d (Ga f).1).ok.kind e.kind e.p e.q e.g e.k e.args;exact .inr ⟨a,n,by rw [g,e.aW,i],this⟩
omit d j in
theorem dY(f:Nat):(Ap P f).i8=(Ap Q f).i8:=by
 rcases Nat.lt_or_ge f 4 with h | h
 ·rw [(Fu M h).2.2,(Fu c h).2.2]
 ·have a:P[f]? =none:=List.getElem?_eq_none (by rw [Ip M];exact h);have b:Q[f]? =none:=List.getElem?_eq_none (by rw [Ip c];exact h);unfold Ap;rw [a,b]
theorem eC{g x:Nat}(h:Ey P g x):Ey Q g x:=by
 obtain ⟨s,a,e,rfl⟩:=h;have n:g<P.length:=by
  rcases Nat.lt_or_ge g P.length with q | q
  ·exact q
  ·unfold Ap at a;rw [List.getElem?_eq_none q] at a;cases a
 rcases dP M c d j (r:=⟨g,s⟩) ⟨n,a⟩ with q | ⟨f,o,b,k,_,i,_⟩
 ·simp only [e] at q;omega
 ·simp only [e] at k i;have b:f.f=g:=b;exact ⟨f.s,by rw [←b];exact o.2,k,by rw [i (by omega)]⟩
theorem dT{r b:Rl}{g:Nat}{S:Sy}(e:b.f=r.f)(k:b.s.aQ=r.s.aQ)(f:b.s.args=r.s.args)(h:DY Q b g S):DY P r g S:=by
 refine ⟨fun i a q=>?_,fun x q=>?_⟩
 ·have:=h.1 i a (by rw [f];exact q);rwa [e] at this
 ·have:=h.2 x (eC M c d j q);unfold Rl.tg at this⊢;rwa [e,k] at this
theorem dZ{S:Sy}(C:XW Q S):XW P S:=by
 refine ⟨C.flow,fun r v=>?_,fun r t v s z=>?_⟩
 ·rcases dP M c d j v with q | ⟨g,w,h,k,o,n,_,x,p⟩
  ·exact ⟨fun e=>by omega,fun e=>by omega,fun e=>by omega,fun e=>by omega,fun e=>by omega⟩
  ·have B:=C.beg g w;have f:r.s.kind≠10→g.tg=r.tg:=fun e=>by unfold Rl.tg;rw [h,o e]
   have i:r.s.kind≠1→g.sr=r.sr:=fun e=>by unfold Rl.sr;rw [h,n e]
   refine ⟨fun e=>?_,fun e=>?_,fun e=>?_,fun e=>?_,fun e=>?_⟩
   ·have:=B.1 (k.trans e);rwa [f (by omega),x (.inl e)] at this
   ·have:=B.2.1 (k.trans e);rwa [f (by omega),i (by omega)] at this
   ·have:=B.2.2.1 (k.trans e);rwa [f (by omega),n (by omega)] at this
   ·have:=B.2.2.2.1 (k.trans e);rwa [f (by omega),i (by omega)] at this
   ·have:=B.2.2.2.2 (k.trans e);rw [n (by omega)] at this;exact dT M c d j h (o (by omega)) (p (.inl e)) this
 ·rcases dP M c d j v with q | ⟨g,w,h,k,o,n,y,x,p⟩
  ·unfold A2 at s;omega
  ·have u:r.s.kind≠10∧r.s.kind≠1:=by unfold A2 at s;omega
   have f:g.tg=r.tg:=by unfold Rl.tg;rw [h,o u.1]
   have i:g.sr=r.sr:=by unfold Rl.sr;rw [h,n u.2]
   have A:g.at=r.at:=by unfold Rl.at;rw [k,f,i]
   have F:=C.fol g t w (by unfold A2 at s⊢;rw [k];exact s) (by rw [A];exact z);refine ⟨fun e a b=>?_,fun e a=>?_,fun e a=>?_,fun e a b=>?_⟩
   ·have:=F.1 (k.trans e) a b;rwa [f,y e] at this
   ·have:=F.2.1 (k.trans e) a;rwa [f] at this
   ·have:=F.2.2.1 (k.trans e) a;rwa [i] at this
   ·have:=F.2.2.2 (k.trans e) a (by rw [←dY M c,p (.inr e)];exact b);rw [x (.inr e)] at this;exact ⟨this.1,dT M c d j h (o u.1) (p (.inr e)) this.2⟩
theorem eD:(least P).le (least Q):=Vg (dZ M c d j (CU Q))
end
section
variable {w x : List Sm} {P Q : List PFn} (M : MadeP (fsOf w) 0 0 P) (b : MadeP (fsOf x) 0 0 Q) {u j e : Nat} (Y : AnHy P u j e)
include M b Y
theorem dW{c t:Nat}(h:(least P).I c t):EF Q t=EF P t:=by
 have E:=Ip M;rcases (Im Y.ok h).2 with (⟨f,v,C,A,rfl⟩ | ⟨n,k,s,_,y,rfl⟩) | ⟨g,D,rfl⟩
 ·have i:f<4:=by omega
  have B:v<4:=by rw [(Fu M i).2.1] at A;exact A
  rw [Wg M i B,Wg b i B]
 ·rw [OQ s y,OQ s y]
 ·have z:g<4:=by omega
  rw [Yh M z,Yh b z]
variable {q l : Nat} {T U : Tb} (B : TbP P j e T) (m : T.V.length = 16) (a : TbP Q q l U) (o : U.V.length = 16) (d : (least P).le (least Q)) (r : j ≤ q) (p : e ≤ l)
include B m a o d r p
theorem eH:eE T U:=by
 refine ⟨by rw [B.fl,a.fl];omega,by rw [B.el,a.el];exact p,fun f v y C=>Lj.2 fun s c=>?_,fun i h n=>Lj.2 fun s c=>?_,fun i h n=>Lj.2 fun s c=>?_⟩
 ·obtain ⟨t,k,rfl⟩:=(QB B m y C).1 c;exact (QB a o y C).2 ⟨t,d.i _ _ k,(dW M b Y k).symm⟩
 ·obtain ⟨t,k,rfl⟩:=(B.f i h).aY.1 c;exact (a.f i n).aY.2 ⟨t,d.i _ _ k,(dW M b Y k).symm⟩
 ·obtain ⟨g,z,rfl⟩:=(B.e i h).aY.1 c;have A:g<4:=by have:=(MN Y.ok z).2;rw [Ip M] at this;exact this
  refine (a.e i n).aY.2 ⟨g,d.e _ _ z,?_⟩;unfold Ex;rw [(Fu M A).1,(Fu b A).1]
end
theorem SmS.rf(x:Sm×Nat):SmS x x:=⟨rfl,rfl,rfl,rfl,rfl,rfl,rfl,rfl⟩
def eY(l:Ln):List Value:=[.int .i64 l.a0,.int .i64 l.a1,.int .i64 l.a2,.int .i64 l.a3,.int .i64 l.a4,.int .i64 l.a5]
def eP(B:Nat)(w:World)(v:Value)(a:List Ln):Prop:=w.ownsRow B 44 6 v a.length (a.flatMap eY)
theorem fH:∀(a:List Ln) (i:Nat) (h:i<a.length) (j:Nat),j<6→(a.flatMap eY)[i*6+j]? =(eY a[i])[j]?
 | [],i,h,_,_=>by simp at h
 | y::a,0,_,j,b=>by rw [List.flatMap_cons,Nat.zero_mul,Nat.zero_add,List.getElem?_append_left (by simpa [eY] using b)];rfl
 | y::a,i+1,h,j,b=>by
   rw [List.flatMap_cons,List.getElem?_append_right (by simp [eY];omega)];have e:(i+1)*6+j-(eY y).length=i*6+j:=by simp [eY];omega
   rw [e,fH a i (by simpa using h) j b];rfl
theorem eP.nil(B:Nat)(w:World):eP B w (.slice none 0 0) []:=World.ownsRow_nil _ _ _ _
theorem eP.quiet{B w b v a}(h:eP B w v a)(k:Ab (fun _=>False) w b):eP B b v a:=Ac h k (fun _ _ q=>q)
theorem eP.snoc{B w v a}{l:Ln}(h:w.ownsRow B 44 6 v (a.length+1) (a.flatMap eY++eY l)):eP B w v (a++[l]):=by unfold eP;rw [List.length_append,List.flatMap_append];simpa using h
theorem eP.form{B w v b}(h:eP B w v b):∃a c,v=.slice a b.length c∧b.length≤c:=by
 rcases h.2 with ⟨e,q⟩ | ⟨g,d,f,e,_,_,q,_⟩
 ·exact ⟨none,0,by rw [q];exact e,by omega⟩
 ·exact ⟨_,d,e,q⟩
theorem eP.at{B w v d}(h:eP B w v d):Wy v d w:=by
 obtain ⟨a,c,rfl,e⟩:=h.form;refine ⟨a,c,rfl,e,?_⟩;rcases Nat.eq_zero_or_pos d.length with q | q
 ·exact .inl (List.length_eq_zero_iff.1 q)
 ·obtain ⟨g,rfl⟩:=AA h q;have k:∀i (b:i<d.length) j,j<6→w.cell? ⟨g,i*6+j,none⟩=(eY d[i])[j]? :=fun i b j f=>by rw [h.cellAt (i*6+j) (show i*6+j<d.length*6 by omega),fH d i b j f]
  refine .inr ⟨g,0,rfl,fun _=>(h.lt g rfl).2,fun i b=>?_,fun i b=>?_,fun i b=>?_,fun i b=>?_,fun i b=>?_,fun i b=>?_⟩
  ·rw [Nat.zero_add];exact k i b 0 (by omega)
  ·rw [Nat.zero_add];exact k i b 1 (by omega)
  ·rw [Nat.zero_add];exact k i b 2 (by omega)
  ·rw [Nat.zero_add];exact k i b 3 (by omega)
  ·rw [Nat.zero_add];exact k i b 4 (by omega)
  ·rw [Nat.zero_add];exact k i b 5 (by omega)
theorem fC{P:Program}{b:Array Oper}{c:List Oper}{o:Oper}{a:Act}{w:World}{Q:Exit→Act→World→Prop}(e:Region.wanted o (yielded b a.tmps)=true)
 (h:∀K:Act→World→Prop,(∀a w,wpList P b Q c a w→K a w)→o.wp P a w K Q):wpList P b Q (o::c) a w:=
 wpList_step fun K d=>by rw [if_pos e];exact h K d
theorem eV{f:Array Oper}{g:List Oper}{e:Oper}{a:Act}{w:World}{Q:Exit→Act→World→Prop}(p:Region.wanted e (yielded f a.tmps)=true)(x:Operand)(m:e.op=.load 33 x)(b:Nat)(q:a.eval x=.pointer (some ⟨b,0,none⟩))(c:Array Value)(r:c.size=18)(i:Ak b c 33 w)
 (h:wpList Tryz.prog f Q g (a.put e.dst (.agg c)) w):wpList Tryz.prog f Q (e::g) a w:=by
 obtain ⟨d,n,l⟩:=Tryz.rowSets;refine fC p fun K k=>wp_load_mid _ x m b 0 q c.toList d (fun j v o=>?_) n l ?_ (k _ _ ?_)
 ·rw [Nat.zero_add,i.cell j];simpa using o
 ·rw [Tryz.infoSets];simp [r]
 ·simpa using h
theorem eR{w wr W b:World}{a:Value}{h:List Ln}(g:eP w.heap.size wr a h)(c:Ab (fun _=>False) w wr)(d:Ab (fun _=>False) wr W)(e:W.grownBy b a.ownBlock):Ab (fun _=>False) w b:=
 Ab.grown (c.trans d) e (fun _ f=>.inr (g.lt _ f).1)
theorem fA{B b:Nat}{c:Array Value}{T:TypeId}{wr W e:World}{a:Value}{l:List Ln}(j:eP B wr a l)(d:Ak b c T wr)(f:T≠44)(g:Ab (fun _=>False) wr W)(h:W.grownBy e a.ownBlock):Ak b c T e:=
 d.O (Ab.grown (X:=fun k=>a.ownBlock=some k) (g.mono fun _ _ q=>q.elim) h (fun _ i=>.inl i)) (fun q=>Aj j d f _ q rfl)
end Go.Proofs.YtegmjgjkcdbmkaaGreatDoor

/- One of the texts of the proof of runs_card_holds: EqI EqJ EqK EqL EqM. -/
import Derived.Test.YthppbgndiplgnaaGreatDoorG24
namespace Go.Proofs.YthppbgndiplgnaaGreatDoor
open Go.Maps
section
variable {N : Nat} {f : List PT} (H : TksOk N f)
include H
theorem Od{p q:Nat}(h:p<q)(a:q<f.length):(Aj f p).i9<(Aj f q).i9:=by have:=List.pairwise_iff_getElem.1 H.Zc p q (by omega) a h;unfold Aj;rw [aY (by omega),aY a];exact this
theorem Dn{p q:Nat}(h:p≤q)(a:q<f.length):(Aj f p).i9≤(Aj f q).i9:=by
 rcases cJ p q with l | l
 ·exact Nat.le_of_lt (Od H l a)
 ·have:p=q:=by omega
  rw [this];exact aV _
theorem DN.to{i p j:Nat}{D a:DataW Unit}{c b:CS}{l m:List ByteArray}{d e:CS}(h:DN (Aj f i).i9 D c l d)(r:∀k,DN k D c l d→k≤(Aj f p).i9→DN ((Aj f p).i9+1) a b m e)(o:i≤p)(s:p+1≤j)(q:j<f.length):DN (Aj f j).i9 a b m e:=
 (r _ h (Dn H o (by omega))).mono (Od H (by omega) q)
theorem DN.args{D:DataW Unit}{k:List ByteArray}:∀(b:List Nat) {i j:Nat} {c d:CS},DN (Aj f i).i9 D c k d→Lt i j b→j<f.length→DN (Aj f j).i9 D (Fj D (b.map (Aj f)) c) k (((b.map (Aj f)).map An).foldl (fun c t=>DB k t c) d)
 | [],i,j,c,d,h,a,e=>h.mono (Dn H a e)
 | p::b,i,j,c,d,h,a,e=>by have o:=a.2.le;have l:=h.to H (p:=p) (j:=p+1) (fun r q m=>q.name (Aj f p) m) a.1 (aV _) (by omega);exact DN.args b l a.2 e
variable {F : DataW Unit} {n : List TF} {g : List RF} (L : Lk F n g)
include L
theorem DN.plain{s:VS}{G:List Nat}{i j:Nat}(hk:s.kind≤10)(S:s.kind≠7→s.kind≠8→s.args=[])(o:WB s=G.map (Aj f))(d:Lt i j G)(I:j<f.length){D:DataW Unit}{c:CS}{R:List ByteArray}{O:CS}(h:DN (Aj f i).i9 D c R O):
 DN (Aj f j).i9 (ES F n s (D,c)).1 (ES F n s (D,c)).2 (Db g s (R,O)).1 (Db g s (R,O)).2:=by
 obtain ⟨m,v,y,X,N⟩:=s;simp only at hk S o⊢;have U:∀t:PT,[t]=G.map (Aj f)→∃p,G=[p]∧t=Aj f p:=by
  intro t e;rcases G with _ | ⟨p,_ | ⟨q,r⟩⟩
  ·simp at e
  ·simp only [bX,List.map_nil,List.cons.injEq,and_true] at e;exact ⟨p,rfl,e⟩
  ·simp at e
 have V:∀(t u:PT) (l:List PT),t::u::l=G.map (Aj f)→∃p q r,G=p::q::r∧t=Aj f p∧u=Aj f q∧l=r.map (Aj f):=by
  intro t u l e;rcases G with _ | ⟨p,_ | ⟨q,r⟩⟩
  ·simp at e
  ·simp at e
  ·simp only [bX,List.cons.injEq] at e;exact ⟨p,q,r,rfl,e.1,e.2.1,e.2.2⟩
 unfold WB at o;simp only at o;have W:∀(t u:PT),(m≠0∧m≠1∧m≠10∧m≠7∧m≠8)→∃p q,G=[p,q]∧v=Aj f p∧y=Aj f q:=by
  intro t u M;rw [cT (by omega),cT (by omega),cT (by omega)] at o;obtain ⟨p,q,r,B,C,E,K⟩:=V v y [] o;have:r=[]:=by cases r with | nil=>rfl | cons a b=>simp at K
  subst this;exact ⟨p,q,B,C,E⟩
 have P:(m≠0∧m≠1∧m≠10∧m≠7∧m≠8∧m≠4)→DN (Aj f j).i9 D (Cx D y (Cx D v c)) (Db g ⟨m,v,y,X,N⟩ (R,O)).1 (Db g ⟨m,v,y,X,N⟩ (R,O)).2:=by intro M;obtain ⟨p,q,B,C,E⟩:=W v y ⟨M.1,M.2.1,M.2.2.1,M.2.2.2.1,M.2.2.2.2.1⟩;subst B;have T:=S (by omega) (by omega);subst T;have Y:=d.1;have Z:=d.2.1;have A:q+1≤j:=d.2.2;have x:=h.to H (p:=p) (j:=p+1) (fun w z k=>z.name (Aj f p) k) Y (aV _) (by omega);have J:=x.to H (p:=q) (j:=j) (fun w z k=>z.name (Aj f q) k) Z A I;unfold Db La;simp only;rw [cT (by omega),cT (by omega),cT (by omega),cT (by omega),cT (by omega)];rw [C,E];exact J
 rcases m with _ | _ | _ | _ | _ | _ | _ | _ | _ | _ | _ | m
 ·obtain ⟨p,rfl,e⟩:=U v (by simpa using o);have A:p+1≤j:=d.2;simp only [ES,Db,if_true];rw [e];exact h.to H (p:=p) (fun w z k=>z.decl (Aj f p) k) d.1 A I
 ·obtain ⟨p,rfl,e⟩:=U v (by simpa using o);have A:p+1≤j:=d.2;simp only [ES,Db,La];rw [e];exact h.to H (p:=p) (fun w z k=>z.name (Aj f p) k) d.1 A I
 ·exact P (by omega)
 ·exact P (by omega)
 ·obtain ⟨p,q,B,C,E⟩:=W v y (by omega);subst B;have T:=S (by omega) (by omega);subst T;have A:q+1≤j:=d.2.2;have x:=h.to H (p:=p) (j:=p+1) (fun w z k=>z.name (Aj f p) k) d.1 (aV _) (by have:=d.2.1;omega);have J:=x.to H (p:=q) (j:=j) (fun w z k=>z.fun L (Aj f q) k) d.2.1 A I;simp only [ES,Db,La];rw [C,E];exact J
 ·exact P (by omega)
 ·exact P (by omega)
 ·rw [cT (by omega),cT (by omega),cU (by omega)] at o;obtain ⟨p,q,r,B,C,E,K⟩:=V v y N o;subst B;have hl:=d.2.2.le;have x:=h.to H (p:=p) (j:=p+1) (fun w z k=>z.name (Aj f p) k) d.1 (aV _) (by have:=d.2.1;omega);have J:=x.to H (p:=q) (j:=q+1) (fun w z k=>z.called L (Aj f q) N.length k) d.2.1 (aV _) (by omega);have Q:=DN.args H r J d.2.2 I;simp only [ES,Db,La];rw [C,E,←K] at*;rw [←K] at Q;exact Q
 ·rw [cT (by omega),cT (by omega),cU (by omega)] at o;obtain ⟨p,q,r,B,C,E,K⟩:=V v y N o;subst B;have hl:=d.2.2.le;have x:=h.to H (p:=p) (j:=p+1) (fun w z k=>z.name (Aj f p) k) d.1 (aV _) (by have:=d.2.1;omega);have J:=x.to H (p:=q) (j:=q+1) (fun w z k=>z.name (Aj f q) k) d.2.1 (aV _) (by omega);have Q:=DN.args H r J d.2.2 I;rw [←K,←C,←E] at Q;exact Q
 ·exact P (by omega)
 ·obtain ⟨p,rfl,e⟩:=U y (by simpa using o);have A:p+1≤j:=d.2;have x:=h.to H (p:=p) (fun w z k=>z.name (Aj f p) k) d.1 A I;rw [←e] at x;exact x
 ·omega
theorem DN.stmt:∀{d i j:Nat} {t:TS},Ct f d i j t→∀(c:Nat) (x:DataW Unit×CS) (y:List ByteArray×CS),DN (Aj f i).i9 x.1 x.2 y.1 y.2→DN (Aj f j).i9 (Kf F n d c t x).1 (Kf F n d c t x).2 (Fe g d c t y).1 (Fe g d c t y).2
 | 0,_,_,_,h=>h.elim
 | d+1,i,j,.mk s X,P=>by
   intro c x y h;obtain ⟨Y,B,M⟩:=P;have C:∀(a b:Nat) (l:List TS),b<f.length→Dj (Ct f d) a b l→∀(x:DataW Unit×CS) (y:List ByteArray×CS),DN (Aj f a).i9 x.1 x.2 y.1 y.2→DN (Aj f b).i9 (l.foldl (fun x t=>Kf F n d (c+1) t x) x).1 (l.foldl (fun x t=>Kf F n d (c+1) t x) x).2 (l.foldl (fun x t=>Fe g d (c+1) t x) y).1 (l.foldl (fun x t=>Fe g d (c+1) t x) y).2:=by
    intro a b l E r;induction r with
    | nil h=>intro x y e;exact e.mono (Dn H h E)
    | cons h _ U=>intro x y e;exact U E _ _ (DN.stmt h (c+1) x y e)
   have v:∀(k:Nat) (x:DataW Unit×CS) (y:List ByteArray×CS) (i:Nat),i≤k→k+1<f.length→DN (Aj f i).i9 x.1 x.2 y.1 y.2→DN (Aj f (k+1)).i9 x.1 (if 6<c+1 then BK 4 (Aj f k).i9 x.2 else x.2) y.1 (if 6<c+1 then Bg 4 (Aj f k).i9 y.2 else y.2):=by
    intro k x y i Q u e;split
    ·exact e.to H (p:=k) (fun lo z D=>z.YV D (by decide) _ _) Q (aV _) u
    ·exact e.mono (Dn H (by omega) u)
   rcases M with ⟨rfl,u,_,N,ps,D,O⟩ | ⟨k,l,m,rfl,e,R,r,T⟩ | ⟨k,l,m,G,W,V,rfl,e,R,r,T,I,a0⟩
   ·rw [Kf,Fe,cT (by omega),cT (by omega)];exact DN.plain H L u N D O B h
   ·have S:=r.le (fun _ _ _ q=>q.lt);have o:s.kind=11∨s.kind=12:=by rcases e with rfl | rfl<;>simp [Eo]
    rw [Kf,Fe,cU o,cU o];simp only [cE,cP];have w:=v k x y i (by omega) (by omega) h;have A:=C (k+1) m l (by omega) r (x.1,if 6<c+1 then BK 4 (Aj f k).i9 x.2 else x.2) (y.1,if 6<c+1 then Bg 4 (Aj f k).i9 y.2 else y.2) w;exact A.mono (Dn H (by omega) B)
   ·have S:=r.le (fun _ _ _ q=>q.lt);have Z:=I.le (fun _ _ _ q=>q.lt);have o:s.kind=11∨s.kind=12:=by rw [e];simp [Eo]
    rw [Kf,Fe,cU o,cU o];simp only [cE,cP];have w:=v k x y i (by omega) (by omega) h;have A:=C (k+1) m l (by omega) r (x.1,if 6<c+1 then BK 4 (Aj f k).i9 x.2 else x.2) (y.1,if 6<c+1 then Bg 4 (Aj f k).i9 y.2 else y.2) w;have J:=v G _ _ m (by omega) (by omega) A;have K:=C (G+1) V W (by omega) I (_,_) (_,_) J;exact K.mono (Dn H (by omega) B)
end
def UL(n:Nat)(b:List FS):Prop:=∀u,u∈b→u.args.length≤n∧u.Yd.length≤n∧u.other.length≤n
theorem UL.snoc{n b u}(h:UL n b)(d:u.args.length≤n∧u.Yd.length≤n∧u.other.length≤n):UL n (b++[u]):=by
 intro v e;rcases bZ.1 e with q | q
 ·exact h v q
 ·rw [bO.1 q];exact d
theorem UL.set{n b u}(h:UL n b)(i)(d:u.args.length≤n∧u.Yd.length≤n∧u.other.length≤n):UL n (b.set i u):=by
 intro v e;rcases List.mem_or_eq_of_mem_set e with q | q
 ·exact h v q
 ·rw [q];exact d
theorem NW(a:List Tk):∀(f d:Nat) (e:Option Nat) (b:List Tk),(DK a f d e b).1.length≤b.length+f
 | 0,d,e,b=>by unfold DK;simp
 | f+1,d,e,b=>by
   unfold DK;split
   ·have:=NW a f (d+1) e (b++[Ai a d]);simp only [aZ,bP] at this;omega
   ·simp
theorem LW(a x):(Cc a x).1.length≤a.length:=by have:=NW a a.length x.s9 x.Ya [];unfold Cc CW;simpa using this
theorem Vh(a x s)(h:s.args.length≤a.length):(Dh a x s).1.args.length≤a.length:=by
 unfold Dh;split
 ·exact h
 ·split
  ·simp only;split<;>exact h
  ·split
   ·exact h
   ·split
    ·exact h
    ·split
     ·exact LW _ _
     ·simp only;split
      ·exact LW _ _
      ·exact h
theorem PK(a d x):(Bo a d x).1.args.length≤a.length∧(Bo a d x).1.Yd.length≤a.length∧(Bo a d x).1.other.length≤a.length:=by
 unfold Bo;split
 ·simp [CG]
 ·split
  ·simp [CG]
  ·split
   ·simp [CG]
   ·simp only;have b:=Mq a (Au a [61] (Bq a 1 x).2) {CG d (-1) with p:=(Bq a 1 x).1};refine ⟨Vh _ _ _ (by simp [CG]),by rw [b.1];simp [CG],by rw [b.2];simp [CG]⟩
theorem Tv{a n}(P:a.length=n)(p:(Ai a (n-1)).sort=0):∀f:Nat,
 (∀(i:Nat) (x:St) (d:List FS) (j:List Nat),H7 n x d.length→UL n d→UL n (Az a f i x d j).2.2∧(Az a f i x d j).1.length≤j.length+((Az a f i x d j).2.1.s9-x.s9)+1)∧
 (∀(i:Nat) (x:St) (d:List FS),H7 n x d.length→x.Ya=none→UL n d→UL n (AQ a f i x d).2.2):=by
 have E:=Bb a;have C:∀(L:List UInt8) (x:St),x.s9<n→(Au a L x).s9<n:=fun L x h=>Ca rfl p h
 have Z:(CG 0 0).args.length≤n∧(CG 0 0).Yd.length≤n∧(CG 0 0).other.length≤n:=by simp [CG]
 intro f;induction f with
 | zero=>
   refine ⟨fun i x d j _ h=>?_,fun i x d _ _ h=>?_⟩
   ·rw [Az];exact ⟨h,by simp only;omega⟩
   ·rw [AQ];exact h
 | succ f t=>
   refine ⟨fun i x d j o h=>?_,fun i x d o s h=>?_⟩
   ·rw [Az];split
    ·exact ⟨h,by simp only;omega⟩
    ·rename_i O;have s:x.Ya=none:=by
      cases Q:x.Ya with
      | none=>rfl
      | some b=>exact dC (.inl (by simp [Q])) O
     have S:=t.2 i x d o s h;obtain ⟨k,z,U,I⟩:=(DG p f).2 i x d o s;obtain ⟨A,B,V⟩:=(DG p f).1 i _ _ (j++[(AQ a f i x d).1]) k;obtain ⟨J,v⟩:=t.1 i (AQ a f i x d).2.1 (AQ a f i x d).2.2 (j++[(AQ a f i x d).1]) k S;refine ⟨J,?_⟩;simp only [aZ,bP] at v;by_cases D:f=0
     ·subst D;rw [Az];simp only [aZ,bP];omega
     ·cases m:(AQ a f i x d).2.1.Ya with
      | none=>have:=I D m;omega
      | some b=> rw [CA _ _ _ _ _ m];simp only [aZ,bP];omega
   ·rw [AQ];split
    ·simp only;have H:=((E (AJ (Ai a x.s9)) x).trans (E [63] _)).trans (E [123] (Au a [63] (Au a (AJ (Ai a x.s9)) x)));have v:=C [63] _ (C (AJ (Ai a x.s9)) x o.1);have K:=C [123] _ v;generalize Au a [63] (Au a (AJ (Ai a x.s9)) x)=T at*;generalize Au a [123] T=u at*;have y:H7 n u (d++[CG 0 0]).length:=by obtain ⟨W,X,Y,M⟩:=H;obtain ⟨h1,h2,h3,h4,N⟩:=o;have h6:=N s;refine ⟨K,by omega,by omega,by simp;omega,fun e=>?_⟩;have:=M e;simp only [aZ,aX,bM];omega
     obtain ⟨k,z⟩:=t.1 i u (d++[CG 0 0]) [] y (h.snoc Z);obtain ⟨w,p2,p3⟩:=(DG p f).1 i u (d++[CG 0 0]) [] y;generalize Az a f i u (d++[CG 0 0]) []=r at*;have m:r.1.length≤n:=by have:=w.1;simp only [bM] at z;omega
     have F:=w.YB (E [125] r.2.1) (C [125] _ w.1);split
     ·split
      ·have G:=F.YB ((E DQ _).trans (E [123] _)) (C [123] _ (C DQ _ F.1));obtain ⟨A,B⟩:=t.1 i (Au a [123] (Au a DQ (Au a [125] r.2.1))) r.2.2 [] G k;obtain ⟨R,q2,q3⟩:=(DG p f).1 i (Au a [123] (Au a DQ (Au a [125] r.2.1))) r.2.2 [] G;refine A.set _ ⟨by simp [CG],m,?_⟩;have:=R.1;simp only [bM] at B;simp only;omega
      ·exact k.set _ ⟨by simp [CG],m,by simp [CG]⟩
     ·exact k.set _ ⟨by simp [CG],m,by simp [CG]⟩
    ·simp only;have q:=PK a i x;rw [P] at q;exact (h.snoc Z).set _ q
structure Jm(a:List PT)(d i j:Nat)(t:TF):Prop where
 w:∃kn ps kb m,i≤kn∧t.name=Aj a kn∧t.p8=ps.map (Aj a)∧Lt (kn+1) kb ps∧t.i9=(Aj a kb).i9∧Dj (Ct a d) (kb+1) m t.Yg∧m<j
 lt:i<j
 top:j<a.length
structure WE(d:Nat)(fs:List FS)(i:Nat)(f:RF)(t:TF):Prop where
 name:f.name=An t.name
 Yn:f.Yn=t.p8.map An
 Yd:Cz (CL i d fs) f.Yd t.Yg
 m9:f.m9=[]
section
variable {N : Nat} {a : List PT} (H : TksOk N a) (c : DigOk a) (g : N ≤ 4000) (l : a.length ≤ 4001)
include H
include g l in
theorem QK{x:PS}(m:x.i8<a.length)(h:(IM a a.length x).2.Ye=false):x.Ye=false∧Jm a (2*a.length+1) x.i8 (IM a a.length x).2.i8 (IM a a.length x).1:=by
 have T:=fun (k:Nat) (t:k≠0) {x:PS} (h:(Af a a.length k x).Ye=false)=>C7 t h
 have b:=Fx H.end_ m;have f:=Ag (n:=a.length) H.end_ 3 m;have i:=f.trans (Ag H.end_ 1 f.2);have j:=i.trans (Eh H.end_ i.2);have s:=j.trans (Ag H.end_ 12 j.2);unfold IM at h b⊢;simp only at h b⊢;have A:=T 13 (by decide) h;obtain ⟨y,E,p,d⟩:=(Rn H g l (2*a.length+1)).1 _ [] s.2 (by omega) A.1;have e:=T 12 (by decide) y;obtain ⟨u,w,v,o,D⟩:=Hw e.1;have r:=T 1 (by decide) u;have z:=T 3 (by decide) r.1;simp only [cR] at p;rw [e.2.1] at d;have B:=d.le (fun _ _ _ q=>q.lt);have C:=o.le;refine ⟨z.1,⟨⟨(Af a a.length 3 x).i8,w,(Bm a a.length (Af a a.length 1 (Af a a.length 3 x))).2.i8,_,by omega,r.2.2.1,v,?_,by simp only;rw [e.2.2.1],by rw [p];exact d,by omega⟩,by omega,b.2⟩⟩;exact o.left (by omega)
include c
theorem Wx{x:PS}{y:St}(k:Nat)(b:List FS)(A:Al a.length x y):Al a.length (IM a a.length x).2 (Hb (a.map An) (2*a.length) k y b).2.1∧
 ((Hb (a.map An) (2*a.length) k y b).2.1.Ya=none→WE (2*a.length+1) (Hb (a.map An) (2*a.length) k y b).2.2 k (Hb (a.map An) (2*a.length) k y b).1 (IM a a.length x).1∧JM b (Hb (a.map An) (2*a.length) k y b).2.2):=by
 have E:=fun (k:Nat) (v:3≤k) (u:k≤20) {x:PS} {y:St} (h:Al a.length x y)=>Hm H v u h
 have d:=E 3 (by decide) (by decide) A;obtain ⟨f,m⟩:=MA H (k:=1) (so:=1) (by decide) d;have i:=E 10 (by decide) (by decide) f;obtain ⟨j,n⟩:=MB H i;simp only [CY,Nat.reduceEqDiff,if_true,if_false] at d f m i j n;have o:Al a.length (Bm a a.length (Af a a.length 1 (Af a a.length 3 x))).2 (Cc (a.map An) (Au (a.map An) [40] (Bq (a.map An) 1 (Au (a.map An) [102,110] y)).2)).2:=j;obtain ⟨p,q⟩:=Ib H (VH H c (2*a.length+1)).1 (f2:=2*a.length) k b o (fun _=>by omega);unfold IM Hb;simp only;refine ⟨p,fun e=>?_⟩;obtain ⟨s,t,w,z⟩:=q e;exact ⟨⟨m,n,s.mono (fun _ _ r=>r.2),rfl⟩,t⟩
end
section
variable {N : Nat} {toks : List PT} (H : TksOk N toks) (a : DigOk toks) (b : N ≤ 4000) (c : toks.length ≤ 4001)
include H a
structure LC(fs:List FS)(rf:List RF)(tf:List TF):Prop where
 len:rf.length=tf.length
 each:∀i (h:i<rf.length) (h':i<tf.length),WE (2*toks.length+1) fs i rf[i] tf[i]
omit H a in
theorem LC.snoc{k g:List FS}{d:List RF}{m:List TF}{f:RF}{t:TF}(h:LC (toks:=toks) k d m)(o:JM k g)(r:WE (2*toks.length+1) g d.length f t):LC (toks:=toks) g (d++[f]) (m++[t]):=by
 have j:=h.len;refine ⟨by simp [j],fun i n p=>?_⟩;by_cases l:i<d.length
 ·rw [bT l,bT (by omega)];have q:=h.each i l (by omega);exact ⟨q.name,q.Yn,q.Yd.mono (fun _ _ z=>z.pre o),q.m9⟩
 ·have e:i=d.length:=by simp at n;omega
  subst e;rw [bR (aV _),bR (by omega)];simp only [Nat.sub_self,j,bQ];rw [←j];exact r
theorem WI:∀(j h:Nat) (x:PS) (y:St) (f:List FS) (l:List TF) (d:List RF),Al toks.length x y→d≠[]→(x.Ye=false→toks.length-x.i8≤j∧toks.length-x.i8≤h)→(y.Ya=none→LC (toks:=toks) f d l)→
 Al toks.length (Af toks toks.length 0 (DZ toks toks.length j x l).2) (CE (toks.map An) (2*toks.length) h y f d).2.1∧((CE (toks.map An) (2*toks.length) h y f d).2.1.Ya=none→LC (toks:=toks) (CE (toks.map An) (2*toks.length) h y f d).2.2 (CE (toks.map An) (2*toks.length) h y f d).1 (DZ toks toks.length j x l).1):=by
 have w:∀(m:Nat) (y:St) (f:List FS) (d:List RF) (p:Nat),y.Ya=some p→CE (toks.map An) (2*toks.length) m y f d=(d,y,f):=by
  intro m y f d p g;cases m with
  | zero=>rw [CE]
  | succ m=>rw [CE,cT (by rw [g];simp)]
 intro j;induction j with
 | zero=>
   intro h x y f l d A C u hrel;rcases A with A | ⟨p,i,g⟩
   ·have:=u A.1;have:=A.2.2.2;omega
   ·rw [w _ _ _ _ _ g,DZ];refine ⟨.inr ⟨p,?_,g⟩,fun e=>by rw [g] at e;cases e⟩;unfold Af;rw [cU (by rw [i.2.2];exact H.end_),cU rfl];exact i
 | succ j L=>
   intro h x y f l d A C u hrel;rcases A with A | ⟨p,i,g⟩
   ·obtain ⟨O,P⟩:=u A.1;have K:=A.2.2.2;obtain ⟨s,J⟩:∃s,h=s+1:=⟨h-1,by omega⟩;subst J;have v:(Ai (toks.map An) y.s9).sort=0↔(Aj toks x.i8).kind=0:=by rw [A.2.2.1,Bx];exact Qn _
    by_cases r:(Aj toks x.i8).kind=3
    ·rw [DZ,cU r,CE,cU ⟨A.2.1,.inr (by rw [Ne,v];omega)⟩];obtain ⟨E,F⟩:=Wx H a d.length f (.inl A);have Q:=Kr (n:=toks.length) H.end_ K r;refine L s _ _ _ _ _ E (by simp) (fun _=>by omega) (fun e=>?_);obtain ⟨M,N⟩:=F e;exact (hrel A.2.1).snoc N M
    ·rw [DZ,cT r];by_cases o:(Aj toks x.i8).kind=0
     ·rw [CE,cT (fun q=>q.2.elim C (fun z=>z (v.2 o)))];refine ⟨?_,hrel⟩;unfold Af;rw [cU o,cU rfl];exact .inl A
     ·rw [CE,cU ⟨A.2.1,.inr (fun z=>o (v.1 z))⟩];have t:(Hb (toks.map An) (2*toks.length) d.length y f).2.1.Ya=some (Aj toks x.i8).i9:=by
       have D:=GL H (k:=3) (by decide) (by decide) (.inl A:Al toks.length x y);simp only [CY,Nat.reduceEqDiff,if_true,if_false] at D;have G:(Au (toks.map An) [102,110] y).Ya=some (Aj toks x.i8).i9:=by unfold Au EN;rw [cT (fun z=>r (D.1 z)),A.2.2.1,Bx,A.2.1];rfl
       unfold Hb;simp only;refine Dq _ _ ?_;have I:=GT (toks.map An) (Dq (toks.map An) [40] (ID (toks.map An) 1 G));have B:=Dq (toks.map An) [123] I;rw [CA _ _ _ _ _ B];exact B
      rw [w _ _ _ _ _ t];refine ⟨.inr ⟨_,?_,t⟩,fun e=>by simp only at e;rw [t] at e;cases e⟩;unfold Af;rw [cT o];exact ⟨rfl,by simp [Gf,A.1],rfl⟩
   ·rw [w _ _ _ _ _ g,DZ,cT (by rw [i.2.2,H.end_];decide)];refine ⟨.inr ⟨p,?_,g⟩,fun e=>by rw [g] at e;cases e⟩;unfold Af;rw [cU (by rw [i.2.2];exact H.end_),cU rfl];exact i
theorem VI:Al toks.length (Dv toks toks.length ⟨0,false,0⟩).2.2 (CE (toks.map An) (2*toks.length) toks.length ⟨0,none,0,0⟩ [] []).2.1∧((CE (toks.map An) (2*toks.length) toks.length ⟨0,none,0,0⟩ [] []).2.1.Ya=none→LC (toks:=toks) (CE (toks.map An) (2*toks.length) toks.length ⟨0,none,0,0⟩ [] []).2.2 (CE (toks.map An) (2*toks.length) toks.length ⟨0,none,0,0⟩ [] []).1 (Dv toks toks.length ⟨0,false,0⟩).1):=by
 have h:=H.pos;obtain ⟨f,o⟩:∃f,toks.length=f+1:=⟨toks.length-1,by omega⟩;have A:Al toks.length (⟨0,false,0⟩:PS) (⟨0,none,0,0⟩:St):=.inl ⟨rfl,rfl,rfl,h⟩;obtain ⟨j,r⟩:=Wx H a 0 [] A;have y:=Fx (n:=toks.length) H.end_ (x:=⟨0,false,0⟩) h;have e:CE (toks.map An) (2*toks.length) toks.length ⟨0,none,0,0⟩ [] []=CE (toks.map An) (2*toks.length) f (Hb (toks.map An) (2*toks.length) 0 ⟨0,none,0,0⟩ []).2.1 (Hb (toks.map An) (2*toks.length) 0 ⟨0,none,0,0⟩ []).2.2 [(Hb (toks.map An) (2*toks.length) 0 ⟨0,none,0,0⟩ []).1]:=by
  conv=>lhs;rw [show toks.length=f+1 from o]
  rw [CE,cU ⟨rfl,.inl rfl⟩];simp [o]
 rw [e];unfold Dv;simp only;refine WI H a toks.length f _ _ _ _ _ j (by simp) (fun v=>⟨by omega,?_⟩) (fun d=>?_)
 ·have t:=C7 (k:=3) (by decide) (x:=(⟨0,false,0⟩:PS)) (toks:=toks);by_cases p:(Aj toks 0).kind=3
  ·have:=Kr (n:=toks.length) H.end_ (x:=⟨0,false,0⟩) h p;simp only at this;omega
  ·exfalso;have:=(Tq j v);have d:=this.2.1;have q:=GL H (k:=3) (by decide) (by decide) A;simp only [CY,Nat.reduceEqDiff,if_true,if_false] at q;have g:(Au (toks.map An) [102,110] ⟨0,none,0,0⟩).Ya=some (Aj toks 0).i9:=by unfold Au EN;rw [cT (fun z=>p (q.1 z))];simp only [Bx];rfl
   have l:=GT (toks.map An) (Dq (toks.map An) [40] (ID (toks.map An) 1 g));have m:=Dq (toks.map An) [123] l;unfold Hb at d;simp only at d;rw [CA _ _ _ _ _ m] at d;have u:=Dq (toks.map An) [125] m;rw [u] at d;cases d
 ·obtain ⟨w,B⟩:=r d;refine ⟨rfl,fun i g l=>?_⟩;have s:i=0:=by simp at g;omega
  subst s;exact w
end
theorem Hr(s:ByteArray):∀(l:List TF) (k:Nat) (D:DataW Unit),IsMap D→(has (A9 l k D) (Bj s)=true↔has D (Bj s)=true∨0≤CB (l.map fun t=>t.name.i6) s k)
 | [],k,D,_=>by simp [A9,CB]
 | t::l,k,D,c=>by
   rw [A9,bX,CB];have d:t.name.i6.toList=s.toList↔s=t.name.i6:=⟨fun h=>(Ex h).symm,fun h=>by rw [h]⟩;by_cases b:has D (Bj t.name.i6)=true
   ·rw [cU b,Hr s l (k+1) D c];by_cases a:s=t.name.i6
    ·subst a;rw [cU rfl];simp [b]
    ·rw [cT (fun q=>a (d.1 q))]
   ·rw [cT b,Hr s l (k+1) _ (c.put _ _)];by_cases a:s=t.name.i6
    ·subst a;rw [cU rfl,has_put_same c (Fy _)];simp
    ·rw [cT (fun q=>a (d.1 q)),has_put_other (fun q=>a (It q))]
theorem GP(s:ByteArray)(z:DataW Unit):∀(l:List TF) (k:Nat) (D:DataW Unit),IsMap D→(has D (Bj s)=true→(A9 l k D).atKey (Bj s) z=D.atKey (Bj s) z)∧(¬has D (Bj s)=true→0≤CB (l.map fun t=>t.name.i6) s k→(A9 l k D).atKey (Bj s) z=.lit (.int .i64 (CB (l.map fun t=>t.name.i6) s k)))
 | [],k,D,_=>by simp [A9,CB]
 | t::l,k,D,g=>by
   rw [A9,bX,CB];have j:t.name.i6.toList=s.toList↔s=t.name.i6:=⟨fun h=>(Ex h).symm,fun h=>by rw [h]⟩;by_cases f:has D (Bj t.name.i6)=true
   ·rw [cU f];obtain ⟨a,b⟩:=GP s z l (k+1) D g;refine ⟨a,fun c e=>?_⟩;by_cases d:s=t.name.i6
    ·subst d;exact dC f c
    ·rw [cT (fun q=>d (j.1 q))] at e⊢;exact b c e
   ·rw [cT f];obtain ⟨a,b⟩:=GP s z l (k+1) (D.put (Bj t.name.i6) (.lit (.int .i64 k))) (g.put _ _);by_cases d:s=t.name.i6
    ·subst d;rw [cU rfl];refine ⟨fun c=>dC c f,fun _ _=>?_⟩;rw [a (has_put_same g (Fy _) _),atKey_put_same g (Fy _)]
    ·have i:Bj s≠Bj t.name.i6:=fun q=>d (It q)
     rw [cT (fun q=>d (j.1 q))];refine ⟨fun c=>?_,fun c e=>b (by rw [has_put_other i];exact c) e⟩;rw [a (by rw [has_put_other i];exact c),atKey_put_other i]
theorem Xv{u a}(b:a.map (fun f=>f.name.i6)=u.map (fun t=>t.name.i6))(g:a.map (fun f=>f.Yn.length)=u.map (fun t=>t.p8.length)):Lk (A9 u 0 (.map [])) u a:=by
 have d:∀s,¬has (DataW.map []:DataW Unit) (Bj s)=true:=fun s=>by simp [has_eq]
 refine ⟨fun s=>?_,fun s c=>?_⟩
 ·rw [b,Hr s u 0 _ isMap_empty];exact ⟨fun q=>q.elim (fun z=>dC z (d s)) id,.inr⟩
 ·rw [b] at c⊢;rw [g];have e:Ce (A9 u 0 (.map [])) s=(CB (u.map fun t=>t.name.i6) s 0).toNat:=by unfold Ce;rw [(GP s _ u 0 _ isMap_empty).2 (d s) c]
  rw [e];unfold IB;rw [bY]
def Pf(b:Nat)(c a:CS):Prop:=c=a∧(c.Ym=0∨c.i9<b)
theorem DN.c{b D c d a}(h:DN b D c d a):Pf b c a:=⟨h.1,h.2.imp (fun q=>q.1) (fun q=>q.2)⟩
theorem Pf.start{d c b}(h:Pf d c b):DN d (.map []) c [] b:=by
 refine ⟨h.1,?_⟩;by_cases a:c.Ym=0
 ·exact .inl ⟨a,tidy_empty,fun s=>by simp [has_eq],rfl⟩
 ·exact .inr ⟨a,h.2.resolve_left a⟩
section
variable {N : Nat} {o : List PT} (H : TksOk N o)
include H
theorem DN.YN:∀(a:List Nat) {i j:Nat} {x:DataW Unit×CS} {y:List ByteArray×CS},DN (Aj o i).i9 x.1 x.2 y.1 y.2→Lt i j a→j<o.length→DN (Aj o j).i9 (Q0 (a.map (Aj o)) x).1 (Q0 (a.map (Aj o)) x).2 (CJ (a.map (Aj o)) y).1 (CJ (a.map (Aj o)) y).2
 | [],i,j,x,y,h,b,c=>h.mono (Dn H b c)
 | p::a,i,j,x,y,h,b,c=>by have f:=b.2.le;have d:=h.to H (p:=p) (j:=p+1) (fun g q e=>q.decl (Aj o p) e) b.1 (aV _) (by omega);exact DN.YN a (x:=(G8 x.1 (Aj o p),EM x.1 (Aj o p) x.2)) (y:=(y.1++[(Aj o p).i6],De y.1 (An (Aj o p)) y.2)) d b.2 c
variable {F : DataW Unit} {u : List TF} {v : List RF} (L : Lk F u v)
include L
theorem DN.stmts{d dep:Nat}:∀{a b:Nat} {c:List TS},Dj (Ct o d) a b c→b<o.length→∀(x:DataW Unit×CS) (y:List ByteArray×CS),DN (Aj o a).i9 x.1 x.2 y.1 y.2→DN (Aj o b).i9 (c.foldl (fun x t=>Kf F u d dep t x) x).1 (c.foldl (fun x t=>Kf F u d dep t x) x).2 (FH v d dep c y).1 (FH v d dep c y).2:=by
 intro a b c r;induction r with
 | nil h=>intro e x y f;exact f.mono (Dn H h e)
 | cons h _ g=>intro e x y f;exact g e _ _ (DN.stmt H L h dep x y f)
theorem Wl{d i j idx:Nat}{t:TF}(g:Jm o d i j t)(P:Ce F t.name.i6=idx↔CB (v.map fun f=>f.name.i6) t.name.i6 0=(idx:Int)){c r:CS}(h:Pf (Aj o i).i9 c r):Pf (Aj o j).i9 (Pu F u d idx t c) (Ei v d idx t r).2:=by
 obtain ⟨l,S,X,m,K,M,N,C,T,D,U⟩:=g.w;have V:=C.le;have W:=D.le (fun _ _ _ q=>q.lt);have R:=g.top;have I:DN (Aj o (l+1)).i9 (.map []) (if Ce F t.name.i6=idx then (if 12≤idx then BK 4 t.name.i9 c else c) else BK 5 t.name.i9 (if 12≤idx then BK 4 t.name.i9 c else c)) [] (Fm v idx t r):=by
  unfold Fm;have O:(Ce F t.name.i6=idx)=(CB (v.map fun f=>f.name.i6) t.name.i6 0=(idx:Int)):=propext P;simp only [O];refine h.start.to H (p:=l) (fun Y q k=>?_) K (aV _) (by omega);rw [M];by_cases b:12≤idx
  ·rw [cU b,cU b];have E:=q.YV (e:=4) k (by decide) (.map []) [];split
   ·exact E
   ·by_cases a:c.Ym=0
    ·have G:BK 4 (Aj o l).i9 c=⟨4,(Aj o l).i9⟩:=by simp [BK,a]
     rw [←E.1,G];exact ⟨by simp [BK,Bg],.inr (by simp [BK])⟩
    ·have s:=q.Ya k a 4;have n:=q.Ya k a 5;have Q:=q.1;rw [s.1,s.2,n.1];rw [←Q] at n;rw [n.2];exact ⟨rfl,q.2.imp (fun z=>dC z.1 a) (fun z=>⟨z.1,by omega⟩)⟩
  ·rw [cT b,cT b];split
   ·exact q.mono (by omega)
   ·exact q.YV k (by decide) _ _
 have B:=DN.YN H S (x:=(.map [],_)) (y:=([],_)) I C (by omega);rw [←N] at B;have J:=DN.stmts H L (dep:=1) D (by omega) _ _ (B.mono (Dn H (by omega) (by omega)));unfold Pu Ei Nc;simp only [show¬(6<1) by decide,if_false];exact (J.mono (Dn H (by omega) R)).c
theorem Wk{d:Nat}:∀{i j:Nat} {l:List TF},Dj (Jm o d) i j l→j<o.length→∀(k:Nat) (c:CS) (x:List RF×CS),(∀m (s:m<l.length),Ce F l[m].name.i6=k+m↔CB (v.map fun f=>f.name.i6) l[m].name.i6 0=((k+m:Nat):Int))→Pf (Aj o i).i9 c x.2→Pf (Aj o j).i9 (Gq F u d l k c) (BJ v d l k x).2:=by
 intro i j l r;induction r with
 | nil h=>intro b k c x _ a;exact ⟨a.1,a.2.imp id (fun q=>bL q (Dn H h b))⟩
 | @cons i m j t l h _ n=> intro b k c x e a;have p:=Wl H L h (idx:=k) (by have:=e 0 (by simp);simpa using this) a;rw [Gq,BJ];refine n b (k+1) _ _ (fun q g=>?_) p;have:=e (q+1) (by simpa using g);simp only [cK] at this;rw [show k+1+q=k+(q+1) by omega];exact this
end
section
variable {N : Nat} {o : List PT} (H : TksOk N o) (w : N ≤ 4000) (A : o.length ≤ 4001)
include H w A
theorem NA:∀(m:Nat) (x:PS) (d:List TF),x.i8<o.length→(Af o o.length 0 (DZ o o.length m x d).2).Ye=false→x.Ye=false∧∃f,(DZ o o.length m x d).1=d++f∧Dj (Jm o (2*o.length+1)) x.i8 (DZ o o.length m x d).2.i8 f∧(Aj o (DZ o o.length m x d).2.i8).kind=0∧(DZ o o.length m x d).2.i8<o.length
 | 0,x,d,e,h=>by rw [DZ] at h⊢;obtain ⟨a,b,c⟩:=FG h;exact ⟨b,[],by simp,.nil (aV _),a,e⟩
 | m+1,x,d,e,h=>by
   rw [DZ] at h⊢;split at h
   ·rename_i g;rw [cU g];have s:=Fx (n:=o.length) H.end_ e;obtain ⟨i,f,j,k,l,p⟩:=NA m _ _ s.2 h;obtain ⟨q,r⟩:=QK H w A e i;exact ⟨q,(IM o o.length x).1::f,by rw [j];simp,.cons r k,l,p⟩
   ·rename_i g;rw [cT g];obtain ⟨a,b,c⟩:=FG h;exact ⟨b,[],by simp,.nil (aV _),a,e⟩
theorem Mg(h:(Dv o o.length ⟨0,false,0⟩).2.2.Ye=false):Dj (Jm o (2*o.length+1)) 0 (o.length-1) (Dv o o.length ⟨0,false,0⟩).1∧(Dv o o.length ⟨0,false,0⟩).2.1=N∧(Aj o (o.length-1)).i9=N:=by
 have d:=H.pos;obtain ⟨B,k,s,t,l⟩:=H.last;have e:(Aj o (o.length-1)).i9=N:=by unfold Aj;rw [k];exact l
 unfold Dv at h⊢;simp only at h⊢;have j:=Fx (n:=o.length) H.end_ (x:=⟨0,false,0⟩) d;obtain ⟨f,C,g,b,a,p⟩:=NA H w A o.length _ _ j.2 h;obtain ⟨r,i⟩:=QK H w A (x:=⟨0,false,0⟩) d f;have c:(DZ o o.length o.length (IM o o.length ⟨0,false,0⟩).2 [(IM o o.length ⟨0,false,0⟩).1]).2.i8=o.length-1:=by
  rcases cJ (DZ o o.length o.length (IM o o.length ⟨0,false,0⟩).2 [(IM o o.length ⟨0,false,0⟩).1]).2.i8 (o.length-1) with q | q
  ·have:=H.f8 _ _ q (aY (by omega));exfalso;apply this;unfold Aj at a;rw [aY (by omega)] at a;exact a
  ·omega
 obtain ⟨y,z,m⟩:=FG h;rw [m,c,g];rw [c] at b;exact ⟨.cons i b,e,e⟩
end
theorem Cz.i7{A B}{R S:A→B→Prop}{l m}(h:Cz R l m)(k:∀a b,b∈m→R a b→S a b):Cz S l m:=by
 induction h with
 | nil=>exact .nil
 | cons h _ e=>exact .cons (k _ _ (cS ..) h) (e (fun a b d=>k a b (bN _ d)))
section
variable {N : Nat} {c : List PT} (H : TksOk N c) (D : DigOk c) (n : N ≤ 4000) (o : c.length ≤ 4001)
include H
theorem Ny:∀(m:Nat) (y:St) (a:List FS) (b:List RF),H7 c.length y a.length→UL c.length a→H7 c.length (CE (c.map An) (2*c.length) m y a b).2.1 (CE (c.map An) (2*c.length) m y a b).2.2.length∧UL c.length (CE (c.map An) (2*c.length) m y a b).2.2
 | 0,y,a,b,d,g=>by rw [CE];exact ⟨d,g⟩
 | m+1,y,a,b,d,g=>by
   have e:(Ai (c.map An) (c.length-1)).sort=0:=by rw [Bx];simp [An,H.end_,CO]
   rw [CE];split
   ·have r:=(Ks e (2*c.length) b.length y a d).1;refine Ny m _ _ _ r ?_;unfold Hb;simp only;have E:=Bb (c.map An);have C:∀(L:List UInt8) (x:St),x.s9<c.length→(Au (c.map An) L x).s9<c.length:=fun L x h=>Ca rfl e h
    have l:=(E [102,110] y).trans (Ey (c.map An) 1 (Au (c.map An) [102,110] y));have j:(Bq (c.map An) 1 (Au (c.map An) [102,110] y)).2.s9<c.length:=Eg (q:=(Bq (c.map An) 1 (Au (c.map An) [102,110] y)).1) rfl (by decide) e (C _ _ d.1);generalize (Bq (c.map An) 1 (Au (c.map An) [102,110] y)).2=f at*;have p:=l.trans ((E [40] f).trans (EQ (c.map An) (Au (c.map An) [40] f)));have k:(Cc (c.map An) (Au (c.map An) [40] f)).2.s9<c.length:=Ez (q:=(Cc (c.map An) (Au (c.map An) [40] f)).1) rfl e (C _ _ j);generalize (Cc (c.map An) (Au (c.map An) [40] f)).2=i at*;have s:=d.YB (p.trans (E [123] i)) (C [123] i k);exact ((Tv (by simp) e (2*c.length)).1 b.length _ a [] s g).1
   ·exact ⟨d,g⟩
include D n o
theorem Sl(h:List TF)(b3:Nat)(x:PS)(hP:Dv c c.length ⟨0,false,0⟩=(h,b3,x))(k:List RF)(y:St)(fs:List FS)(hR:CE (c.map An) (2*c.length) c.length ⟨0,none,0,0⟩ [] []=(k,y,fs)):
 (x.Ye=true→y.Ya=some x.Yy)∧
 (x.Ye=false→y.Ya=none∧Pe 4000 k fs h∧Tl 4000 h∧(∀d U w v,DF d U w v h→DF 4000 U w v h)∧Kc h 4000 b3=MJ k N (BJ k 4000 h 0 (k,⟨0,0⟩)).2):=by
 have hp:=H.pos;obtain ⟨R,a2⟩:=VI H D;rw [hP,hR] at R a2;simp only at R a2;refine ⟨fun Q=>?_,fun Q=>?_⟩
 ·rcases R with a | ⟨p,a,b⟩
  ·rw [a.1] at Q;cases Q
  ·rw [b,a.2.1]
 have b2:y.Ya=none:=(Tq R Q).2.1;have hrel:=a2 b2;have a5:=Mg H n o (by rw [hP];exact Q);rw [hP] at a5;obtain ⟨a4,b1,b9⟩:=a5;simp only at a4 b1;have M:Dj (Jm c 4000) 0 (c.length-1) h:=a4.mono (fun i j t g=>⟨by obtain ⟨Z,ps,Y,m,S,J,E,K,T,A,V⟩:=g.w;refine ⟨Z,ps,Y,m,S,J,E,K,T,?_,V⟩;have c3:=g.top;exact A.low (i0:=0) (j0:=4000) (fun _ _ _ q=>q.lt) (fun a b z _ F q=>Ct.lower 4000 q (by omega)) (bI _) (by omega),g.lt,g.top⟩)
 have c4:=M.le (fun _ _ _ q=>q.lt);have a0:∀t,t∈h→∀s,s∈t.Yg→∃a b,Ct c 4000 a b s:=by intro t l s I;obtain ⟨i,j,g⟩:=M.each t l;obtain ⟨Z,ps,Y,m,S,J,E,K,T,A,V⟩:=g.w;exact A.each s I
 have W:∀t,t∈h→t.p8.length+(t.Yg.map (Cw 4000)).sum≤4000∧t.Yg.length≤4000:=by intro t l;obtain ⟨i,j,g⟩:=M.each t l;obtain ⟨Z,ps,Y,m,S,J,E,K,T,A,V⟩:=g.w;have c3:=g.top;have l1:=K.le;have l2:=Ii (f:=Cw 4000) (fun _ _ _ q=>q.ZX) A;have l3:=A.le (fun _ _ _ q=>q.lt);rw [E];simp only [bW];exact ⟨by omega,by omega⟩
 have hT:Tl 4000 h:=by
  refine ⟨by omega,by decide,fun t l=>?_⟩;obtain ⟨i,j,g⟩:=M.each t l;obtain ⟨Z,ps,Y,m,S,J,E,K,T,A,V⟩:=g.w;refine ⟨by rw [J];exact bJ (KP H _).1 n,fun s I=>?_,fun p a9=>?_,(W t l).1,(W t l).2⟩
  ·obtain ⟨a,b,O⟩:=a0 t l s I;exact O.tok o
  ·rw [E] at a9;obtain ⟨q,_,rfl⟩:=cG.1 a9;exact ⟨bJ (KP H _).1 n,bJ (KP H _).2 n⟩
 have a8:k.map (fun f=>f.name.i6)=h.map (fun t=>t.name.i6):=by
  apply cO
  ·simp [hrel.len]
  ·intro i B C;simp only [cH,(hrel.each i (by simpa using B) (by simpa using C)).name];rfl
 have c2:k.map (fun f=>f.Yn.length)=h.map (fun t=>t.p8.length):=by
  apply cO
  ·simp [hrel.len]
  ·intro i B C;simp only [cH,(hrel.each i (by simpa using B) (by simpa using C)).Yn,bW]
 have L:=Xv a8 c2;have X:=Ny H c.length ⟨0,none,0,0⟩ [] [] ⟨hp,bI _,bI _,bI _,fun _=>⟨aV _,aV _,aV _⟩⟩ (fun u hu=>by cases hu);rw [hR] at X;simp only at X;refine ⟨b2,⟨hrel.len,by rw [hrel.len];omega,by have:=X.1.2.2.2.1;omega,fun u hu=>?_,fun i B C=>?_,by decide⟩,hT,fun d U w v c0=>?_,?_⟩
 ·have:=X.2 u hu;omega
 ·have r:=hrel.each i B C;have P:h[i]∈h:=bD _;refine ⟨r.name,r.Yn,r.Yd.i7 (fun a b F q=>?_),r.m9,?_,?_⟩
  ·obtain ⟨p,q',O⟩:=a0 _ P b F;exact O.flat q
  ·rw [r.Yd.length];have:=(W _ P).2;omega
  ·have:=(W _ P).1;omega
 ·obtain ⟨b4,B,C,h3,h4⟩:=c0;refine ⟨b4,B,C,h3,fun j g g'=>?_⟩;obtain ⟨av,sv,e1,e2,e3,b5,e4,e5,e6,e7⟩:=h4 j g g';refine ⟨av,sv,e1,e2,e3,b5,e4,e5,e6,fun m gm b6=>?_⟩;obtain ⟨p,q,O⟩:=a0 h[j] (bD _) _ (bD gm);exact O.ZV (e7 m gm b6)
 ·have b7:∀m (P:m<h.length),Ce (A9 h 0 (.map [])) h[m].name.i6=0+m↔CB (k.map fun f=>f.name.i6) h[m].name.i6 0=((0+m:Nat):Int):=by
   intro m P;have b8:0≤CB (h.map fun t=>t.name.i6) h[m].name.i6 0:=(Dt _ _ 0).1.2 (cG.2 ⟨h[m],bD _,rfl⟩);have e:Ce (A9 h 0 (.map [])) h[m].name.i6=(CB (h.map fun t=>t.name.i6) h[m].name.i6 0).toNat:=by unfold Ce;rw [(GP _ _ h 0 _ isMap_empty).2 (by simp [has_eq]) b8]
   rw [e,a8];omega
  have I:=Wk H L M (by omega) 0 ⟨0,0⟩ (k,⟨0,0⟩) b7 ⟨rfl,.inl rfl⟩
  rw [b9] at I
  unfold Kc MJ
  rw [b1]
  have a6:=L.nm ⟨#[109,97,105,110]⟩
  have a7:=L.ar ⟨#[109,97,105,110]⟩
  obtain ⟨b0,c1⟩:=I
  by_cases G:0≤CB (k.map fun f=>f.name.i6) ⟨#[109,97,105,110]⟩ 0∧((k.map fun f=>f.Yn.length)[(CB (k.map fun f=>f.name.i6) ⟨#[109,97,105,110]⟩ 0).toNat]?).getD 0=0
  ·have F:(has (A9 h 0 (.map [])) (Bj ⟨#[109,97,105,110]⟩) && IB h (Ce (A9 h 0 (.map [])) ⟨#[109,97,105,110]⟩)==0)=true:=by rw [Bool.and_eq_true,beq_iff_eq];exact ⟨a6.2 G.1,by rw [a7 G.1];exact G.2⟩
   rw [cU F,cU G]
   exact b0
  ·have F:¬(has (A9 h 0 (.map [])) (Bj ⟨#[109,97,105,110]⟩) && IB h (Ce (A9 h 0 (.map [])) ⟨#[109,97,105,110]⟩)==0)=true:=by rw [Bool.and_eq_true,beq_iff_eq];rintro ⟨q1,q2⟩;have q3:=a6.1 q1;exact G ⟨q3,by rw [←a7 q3];exact q2⟩
   rw [cT F,cT G,←b0]
   rcases c1 with h0 | h0
   ·simp [BK,Bg,h0]
   ·by_cases a3:(Gq (A9 h 0 (.map [])) h 4000 h 0 ⟨0,0⟩).Ym=0
    ·simp [BK,Bg,a3]
    ·have e1:BK 6 N (Gq (A9 h 0 (.map [])) h 4000 h 0 ⟨0,0⟩)=Gq (A9 h 0 (.map [])) h 4000 h 0 ⟨0,0⟩:=by simp [BK,a3]
     have e2:Bg 6 N (Gq (A9 h 0 (.map [])) h 4000 h 0 ⟨0,0⟩)=Gq (A9 h 0 (.map [])) h 4000 h 0 ⟨0,0⟩:=by unfold Bg;rw [cT (by omega)]
     rw [e1,e2]
end
end Go.Proofs.YthppbgndiplgnaaGreatDoor

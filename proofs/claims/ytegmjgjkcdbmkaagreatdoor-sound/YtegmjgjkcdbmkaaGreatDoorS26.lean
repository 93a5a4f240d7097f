/- One of the texts of the proof: KlA KlB KlC KlD SnA. -/
import Derived.Test.YtegmjgjkcdbmkaaGreatDoorS30
set_option maxRecDepth 100000
set_option maxHeartbeats 4000000
namespace Go.Proofs.YtegmjgjkcdbmkaaGreatDoor
open Go.RowKit
def jD(t:Tg):Nat:=if t.kind=0 then vN t.aV t.aX else if t.kind=1 then pN t.aV t.aX else fN t.aV
def kK(P:List PFn)(o w:Nat)(t:Tg):Prop:=
 (t.kind=0∧t.aV<P.length∧t.aX<(Ap P t.aV).l8.length∧FG P (least P) o t.aV)∨(t.kind=1∧1≤t.aV∧t.aV≤w∧t.aX≤3)
def iH(P:List PFn)(a:List Cl)(c:Nat)(v:Vl):Prop:=
 (v.kind=1→v.bG<P.length∧(least P).I c (fN v.bG))∧(v.kind=2→v.bG<a.length∧(least P).I c (jD (DB a v.bG).nm))
structure iM(P:List PFn)(o w:Nat)(c:Co):Prop where
 nm:∀i,i<c.aY.length→kK P o w (DB c.aY i).nm
 v:∀i,i<c.aY.length→iH P c.aY (jD (DB c.aY i).nm) (DB c.aY i).v
 f:∀i,i<c.aY.length→(DB c.aY i).nm.kind=1→(DB c.aY i).nm.aX=0→∀k,k<4→i+k<c.aY.length∧(DB c.aY (i+k)).nm=⟨1,(DB c.aY i).nm.aV,k⟩
 cU:∀p,p∈c.cU→kK P o w p.1∧(kK P o w p.2∨(p.2.kind=2∧p.2.aV<P.length∧p.2.aX=0))∧(least P).I (jD p.1) (jD p.2)
 bN:∀e,e∈c.bN→(least P).E e.1 e.2∧FG P (least P) o e.2
structure nD(P:List PFn)(o:Nat)(mem:List Cl)(f:Ue):Prop where
 fn:f.fn<P.length
 rc:FG P (least P) o f.fn
 var:∀j,j<(Ap P f.fn).l8.length→f.base+j<mem.length∧(DB mem (f.base+j)).nm=⟨0,f.fn,j⟩
def iI(P:List PFn)(a:List Cl):List Ue→Prop
 | []=>True
 | [_]=>True
 | f::g::r=>(f.answer<a.length∧∀x,Ey P f.fn x→(least P).F x (jD (DB a f.answer).nm))∧iI P a (g::r)
structure iG(P:List PFn)(o w:Nat)(m:Mc):Prop where
 c:iM P o w m.c
 fr:∀f,f∈m.bS→nD P o m.c.aY f
 t8:iI P m.c.aY m.bS
 en:1≤m.bM∧m.bM≤4
structure VC(a b:List Cl):Prop where
 le:a.length≤b.length
 nm:∀i,i<a.length→(DB b i).nm=(DB a i).nm
theorem VC.rf(a:List Cl):VC a a:=⟨rN _,fun _ _=>rfl⟩
theorem VC.tr{a b c}(h:VC a b)(k:VC b c):VC a c:=⟨rO h.le k.le,fun i d=>(k.nm i (rP d h.le)).trans (h.nm i d)⟩
theorem VC.set(c:Co)(a:Nat)(v:Vl):VC c.aY (c.set a v).aY:=⟨by rw [Lw];exact rN _,fun i _=>iD c a i v⟩
theorem iP{a b:List Cl}{i:Nat}(h:i<a.length):DB (a++b) i=DB a i:=by unfold DB;rw [List.getElem?_append_left h]
theorem gZ{a b:List Cl}{i:Nat}:DB (a++b) (a.length+i)=DB b i:=by unfold DB;rw [List.getElem?_append_right (by omega),show a.length+i-a.length=i by omega]
theorem VC.app(a b:List Cl):VC a (a++b):=⟨by simp,fun i c=>by rw [iP c]⟩
theorem iH.up{P a b c v}(h:iH P a c v)(k:VC a b):iH P b c v:=
 ⟨h.1,fun q=>by obtain ⟨d,e⟩:=h.2 q;exact ⟨rP d k.le,by rw [k.nm _ d];exact e⟩⟩
theorem iH.flow{P a c d v}(h:iH P a c v)(k:(least P).F c d):iH P a d v:=
 ⟨fun q=>⟨(h.1 q).1,(CU P).flow _ _ _ k (h.1 q).2⟩,fun q=>⟨(h.2 q).1,(CU P).flow _ _ _ k (h.2 q).2⟩⟩
theorem iH.zero(P:List PFn)(a c):iH P a c Uh:=⟨fun q=>(by cases q),fun q=>(by cases q)⟩
theorem nD.up{P o a b f}(h:nD P o a f)(k:VC a b):nD P o b f:=
 ⟨h.fn,h.rc,fun j e=>by obtain ⟨c,d⟩:=h.var j e;exact ⟨rP c k.le,by rw [k.nm _ c];exact d⟩⟩
theorem iI.up{P a b}(k:VC a b):∀{l:List Ue},iI P a l→iI P b l
 | [],_=>trivial
 | [_],_=>trivial
 | _::_::_,h=>⟨⟨rP h.1.1 k.le,by rw [k.nm _ h.1.1];exact h.1.2⟩,iI.up k h.2⟩
theorem iI.tail{P a}{f:Ue}:∀{l:List Ue},iI P a (f::l)→iI P a l
 | [],_=>trivial
 | _::_,h=>h.2
theorem iI.head{P a}{f f':Ue}(e:f'.answer=f.answer)(b:f'.fn=f.fn):∀{l:List Ue},iI P a (f::l)→iI P a (f'::l)
 | [],_=>trivial
 | _::_,h=>⟨by rw [e,b];exact h.1,h.2⟩
theorem nM{c:Co}{a i:Nat}{v:Vl}(b:a<c.aY.length):(DB (c.set a v).aY i).v=if i=a then v else (DB c.aY i).v:=by
 unfold Co.set DB;simp only;rw [List.getElem?_set];by_cases h:a=i
 ·rw [if_pos h,if_pos b,if_pos h.symm];rfl
 ·rw [if_neg h,if_neg (fun q=>h q.symm)]
theorem pD(g:Nat):jD ⟨2,g,0⟩=fN g:=rfl
theorem mB(f j:Nat):jD ⟨0,f,j⟩=vN f j:=rfl
theorem mA(n k:Nat):jD ⟨1,n,k⟩=pN n k:=rfl
section
variable {P : List PFn} {o w y : Nat}
theorem iM.set{c:Co}{a:Nat}{v:Vl}(h:iM P o w c)(j:a<c.aY.length)(f:iH P c.aY (jD (DB c.aY a).nm) v):iM P o w (c.set a v):=by
 have U:=VC.set c a v;have g:=Lw c a v;refine ⟨fun i b=>?_,fun i b=>?_,fun i b l m k n=>?_,fun p d=>?_,h.bN⟩
 ·rw [g] at b;rw [iD];exact h.nm i b
 ·rw [g] at b;rw [iD,nM j];split
  ·rename_i e;subst e;exact f.up U
  ·exact (h.v i b).up U
 ·rw [g] at b;rw [iD] at l m;obtain ⟨r,s⟩:=h.f i b l m k n;rw [g,iD,iD];exact ⟨r,s⟩
 ·unfold Co.set at d;simp only at d;split at d
  ·rename_i e;rcases List.mem_cons.1 d with rfl | q
   ·exact ⟨h.nm a j,.inr ⟨rfl,(f.1 e).1,rfl⟩,(f.1 e).2⟩
   ·exact h.cU p q
  ·split at d
   ·rename_i e;rcases List.mem_cons.1 d with rfl | q
    ·exact ⟨h.nm a j,.inl (h.nm _ (f.2 e).1),(f.2 e).2⟩
    ·exact h.cU p q
   ·exact h.cU p d
theorem iM.app{c:Co}{b:List Cl}(h:iM P o w c)(l:∀i,i<b.length→kK P o w (DB b i).nm∧(DB b i).v=Uh)
 (p:∀i,i<b.length→(DB b i).nm.kind=1→(DB b i).nm.aX=0→∀k,k<4→i+k<b.length∧(DB b (i+k)).nm=⟨1,(DB b i).nm.aV,k⟩):iM P o w {c with aY:=c.aY++b}:=by
 have U:=VC.app c.aY b;have f:∀i,i<(c.aY++b).length→i<c.aY.length∨∃j,j<b.length∧i=c.aY.length+j:=fun i a=>by
  rw [rV] at a;rcases Nat.lt_or_ge i c.aY.length with q | q
  ·exact .inl q
  ·exact .inr ⟨i-c.aY.length,by omega,by omega⟩
 refine ⟨fun i a=>?_,fun i a=>?_,fun i a d e k m=>?_,h.cU,h.bN⟩
 ·rcases f i a with q | ⟨j,q,rfl⟩
  ·show kK P o w (DB (c.aY++b) i).nm;rw [iP q];exact h.nm i q
  ·show kK P o w (DB (c.aY++b) (c.aY.length+j)).nm;rw [gZ];exact (l j q).1
 ·rcases f i a with q | ⟨j,q,rfl⟩
  ·show iH P (c.aY++b) (jD (DB (c.aY++b) i).nm) (DB (c.aY++b) i).v;rw [iP q];exact (h.v i q).up U
  ·show iH P (c.aY++b) (jD (DB (c.aY++b) (c.aY.length+j)).nm) (DB (c.aY++b) (c.aY.length+j)).v;rw [gZ,(l j q).2];exact iH.zero _ _ _
 ·change (DB (c.aY++b) i).nm.kind=1 at d;change (DB (c.aY++b) i).nm.aX=0 at e;show i+k<(c.aY++b).length∧(DB (c.aY++b) (i+k)).nm=⟨1,(DB (c.aY++b) i).nm.aV,k⟩;rcases f i a with q | ⟨j,q,rfl⟩
  ·rw [iP q] at d e⊢;obtain ⟨n,g⟩:=h.f i q d e k m;rw [iP n,rV];exact ⟨by omega,g⟩
  ·rw [gZ] at d e⊢;obtain ⟨n,g⟩:=p j q d e k m;rw [Nat.add_assoc,gZ,rV];exact ⟨by omega,g⟩
theorem iM.fields{c:Co}(h:iM P o w c){n:Nat}(d:1≤n)(e:n≤w):iM P o w (c.fields n):=by
 refine h.app (fun i a=>?_) (fun i a j b k g=>?_)
 ·have:i=0∨i=1∨i=2∨i=3:=by simp at a;omega
  rcases this with rfl | rfl | rfl | rfl<;>exact ⟨.inr ⟨rfl,d,e,by simp [DB]⟩,rfl⟩
 ·have:i=0∨i=1∨i=2∨i=3:=by simp at a;omega
  have f:k=0∨k=1∨k=2∨k=3:=by omega
  rcases this with rfl | rfl | rfl | rfl
  ·rcases f with rfl | rfl | rfl | rfl<;>exact ⟨by simp,rfl⟩
  ·cases b
  ·cases b
  ·cases b
theorem iM.l8{c:Co}(h:iM P o w c){f:Nat}(e:f<P.length)(g:FG P (least P) o f):iM P o w (c.l8 f (Ap P f).l8.length):=by
 have b:∀i,i<(Ap P f).l8.length→DB ((List.range (Ap P f).l8.length).map fun i=>⟨⟨0,f,i⟩,Uh⟩) i=⟨⟨0,f,i⟩,Uh⟩:=fun i a=>by unfold DB;rw [List.getElem?_map,List.getElem?_range a];rfl
 refine h.app (fun i a=>?_) (fun i a d l k j=>?_)
 ·rw [rX,List.length_range] at a;rw [b i a];exact ⟨.inl ⟨rfl,e,a,g⟩,rfl⟩
 ·rw [rX,List.length_range] at a;rw [b i a] at d;cases d
theorem mD(c:Co)(f n:Nat){i:Nat}(h:i<n):c.aY.length+i<(c.l8 f n).aY.length∧(DB (c.l8 f n).aY (c.aY.length+i)).nm=⟨0,f,i⟩:=by unfold Co.l8;simp only;refine ⟨by rw [rV,rX,List.length_range];omega,?_⟩;rw [gZ];unfold DB;rw [List.getElem?_map,List.getElem?_range h];rfl
theorem lU:∀(b:List Vl) (a:Nat) (c:Co),iM P o w c→(∀i v,b[i]? =some v→a+i<c.aY.length∧iH P c.aY (jD (DB c.aY (a+i)).nm) v)→iM P o w (XZ b a c)∧VC c.aY (XZ b a c).aY
 | [],_,c,h,_=>⟨h,VC.rf _⟩
 | v::l,a,c,h,d=>by
   obtain ⟨g,j⟩:=d 0 v rfl;have U:=VC.set c a v;obtain ⟨m,n⟩:=lU l (a+1) (c.set a v) (h.set g j) fun i u k=>by obtain ⟨e,f⟩:=d (i+1) u (by simpa using k);rw [show a+(i+1)=a+1+i by omega] at e f;rw [Lw,iD];exact ⟨e,f.up U⟩
   exact ⟨m,U.tr n⟩
theorem iG.enter{m:Mc}(h:iG P o w m){g:Nat}(n:g<P.length)(s:FG P (least P) o g)(args:List Vl)(ans:Nat)
 (t:∀i v,args[i]? =some v→i<(Ap P g).l8.length∧iH P m.c.aY (vN g i) v)(B:m.bS=[]∨(ans<m.c.aY.length∧∀x,Ey P g x→(least P).F x (jD (DB m.c.aY ans).nm))):iG P o w (UR P m g args ans):=by
 unfold UR;split
 ·exact ⟨h.c,h.fr,h.t8,show (1:Nat)≤4∧(4:Nat)≤4 by decide⟩
 ·have k:VC m.c.aY (m.c.l8 g (Ap P g).l8.length).aY:=VC.app _ _;obtain ⟨D,e⟩:=lU args m.c.aY.length (m.c.l8 g (Ap P g).l8.length) (h.c.l8 n s) fun i v z=>by obtain ⟨a,c⟩:=t i v z;obtain ⟨b,d⟩:=mD m.c g (Ap P g).l8.length a;rw [d,mB];exact ⟨b,c.up k⟩
  have U:=k.tr e;refine ⟨D,fun f u=>?_,?_,h.en⟩
  ·rcases List.mem_cons.1 u with rfl | q
   ·refine ⟨n,s,fun j A=>?_⟩;obtain ⟨b,d⟩:=mD m.c g (Ap P g).l8.length A;exact ⟨rP b e.le,by rw [←d];exact e.nm _ b⟩
   ·exact (h.fr f q).up U
  ·have l:=h.t8.up U;change iI P _ (_::m.bS);rcases p:m.bS with _ | ⟨f,r⟩
   ·trivial
   ·rw [p] at l;rcases B with q | ⟨a,c⟩
    ·rw [p] at q;cases q
    ·exact ⟨⟨rP a U.le,fun x C=>by have:=c x C;rw [←U.nm _ a] at this;exact this⟩,l⟩
theorem iG.leave{m:Mc}(h:iG P o w m){v:Vl}(e:∀f r,m.bS=f::r→v=Uh∨∃x,Ey P f.fn x∧iH P m.c.aY x v):iG P o w (KF m v):=by
 unfold KF;split
 ·exact h
 ·exact ⟨h.c,fun _ q=>(by cases q),trivial,show (1:Nat)≤2∧(2:Nat)≤4 by decide⟩
 ·rename_i f g r b;have a:=h.t8;rw [b] at a;have i:iH P m.c.aY (jD (DB m.c.aY f.answer).nm) v:=by
   rcases e f _ b with rfl | ⟨x,j,d⟩
   ·exact iH.zero _ _ _
   ·exact d.flow (a.1.2 x j)
  exact ⟨h.c.set a.1.1 i,fun k c=>(h.fr k (by rw [b];exact rT _ c)).up (VC.set _ _ _),a.2.up (VC.set _ _ _),h.en⟩
theorem iG.norm:∀(n:Nat) {m:Mc},iG P o w m→iG P o w (KO P n m)
 | 0,_,h=>h
 | n+1,m,h=>by
   rw [KO];split
   ·split
    ·exact h
    ·split
     ·exact h
     ·exact iG.norm n (h.leave fun _ _ _=>.inl rfl)
   ·exact h
variable (A : AnOk P w y)
include A
theorem pK{c z:Co}(h:iM P o w c){f:Ue}(d:nD P o c.aY f){s:AY}(C:s∈(Ap P f.fn).b9)
 (a:aJ s.kind (f.base+s.aQ) (f.base+s.r9) s.field s.m9 s.r9 c=some z):iM P o w z∧VC c.aY z.aY:=by
 have t:Ly P ⟨f.fn,s⟩:=⟨d.fn,C⟩;have S:=A.ok.ok f.fn d.fn s C;have r:=(CU P).beg _ t;have G:=A.bG f.fn d.fn s C;have m:∀(x:Co) (v:Vl),iM P o w x→VC c.aY x.aY→s.aQ<(Ap P f.fn).l8.length→iH P x.aY (vN f.fn s.aQ) v→iM P o w (x.set (f.base+s.aQ) v)∧VC c.aY (x.set (f.base+s.aQ) v).aY:=fun x v J U p b=>by obtain ⟨g,j⟩:=(d.up U).var _ p;exact ⟨J.set g (by rw [j];exact b),U.tr (VC.set _ _ _)⟩
 have u:s.r9<(Ap P f.fn).l8.length→iH P c.aY (vN f.fn s.r9) (DB c.aY (f.base+s.r9)).v:=fun p=>by obtain ⟨g,j⟩:=d.var _ p;have:=h.v _ g;rw [j] at this;exact this
 have O:s.aQ<(Ap P f.fn).l8.length→iH P c.aY (vN f.fn s.aQ) (DB c.aY (f.base+s.aQ)).v:=fun p=>by obtain ⟨g,j⟩:=d.var _ p;have:=h.v _ g;rw [j] at this;exact this
 have D:∀i,i<c.aY.length→Ug (jD (DB c.aY i).nm):=fun i H=>by
  rcases h.nm i H with ⟨K,R,Q,_⟩ | ⟨L,_⟩
  ·have:=A.bA;have:=A.ok.l8 (DB c.aY i).nm.aV;unfold jD;rw [if_pos K];left;unfold vN;omega
  ·unfold jD;rw [if_neg (by omega),if_pos L];right;unfold pN;omega
 unfold aJ at a;split at a
 ·rename_i k;cases a;refine m _ _ (h.fields (G.1 k).1 (G.1 k).2) (VC.app _ _) (S.tg (by omega) (by omega) (by omega) (by omega)) ⟨fun q=>(by cases q),fun _=>⟨by simp [Co.fields],?_⟩⟩;have:(DB (c.fields s.m9).aY c.aY.length).nm=⟨1,s.m9,0⟩:=by have:=@gZ c.aY [⟨⟨1,s.m9,0⟩,Uh⟩,⟨⟨1,s.m9,1⟩,Uh⟩,⟨⟨1,s.m9,2⟩,Uh⟩,⟨⟨1,s.m9,3⟩,Uh⟩] 0;rw [Nat.add_zero] at this;exact congrArg Cl.nm this
  simp only;rw [this];exact r.1 k
 split at a
 ·rename_i k;cases a;refine m _ _ h (VC.rf _) (S.tg (by omega) (by omega) (by omega) (by omega)) ⟨fun q=>(by cases q),fun _=>?_⟩;obtain ⟨g,j⟩:=d.var _ (S.sr (.inl k));exact ⟨g,by rw [show (DB c.aY (⟨2,f.base+s.r9⟩:Vl).bG).nm=_ from j];exact r.2.1 k⟩
 split at a
 ·rename_i k;split at a
  ·rename_i n;cases a;obtain ⟨I,E,F⟩:=n;have b:=(u (S.sr (.inr (.inl k)))).2 I;obtain ⟨M,N⟩:=h.f _ b.1 E F s.field (by have:=S.field;omega);have B:jD (DB c.aY (DB c.aY (f.base+s.r9)).v.bG).nm=pN (DB c.aY (DB c.aY (f.base+s.r9)).v.bG).nm.aV 0:=by unfold jD;rw [if_neg (by omega),if_pos E,F]
   have l:=((CU P).fol _ _ t (.inl k) (by unfold Rl.at;rw [if_neg (show¬s.kind=9 by omega)];exact b.2)).1 k (by rw [B];unfold pN;omega) (by rw [B];unfold pN;omega);refine m _ _ h (VC.rf _) (S.tg (by omega) (by omega) (by omega) (by omega)) ⟨fun q=>(by cases q),fun _=>⟨M,?_⟩⟩;simp only;rw [N,mA];rw [B] at l;have e:pN (DB c.aY (DB c.aY (f.base+s.r9)).v.bG).nm.aV 0+s.field=pN (DB c.aY (DB c.aY (f.base+s.r9)).v.bG).nm.aV s.field:=by unfold pN;omega
   rw [←e];exact l
  ·cases a
 split at a
 ·rename_i k;cases a;exact m _ _ h (VC.rf _) (S.tg (by omega) (by omega) (by omega) (by omega)) ⟨fun _=>⟨S.func (.inl k),r.2.2.1 k⟩,fun q=>by cases q⟩
 split at a
 ·rename_i k;split at a
  ·rename_i n;cases a;have b:=(u (S.sr (.inr (.inr (.inl k))))).2 n;have l:=((CU P).fol _ _ t (.inr (.inl k)) (by unfold Rl.at;rw [if_neg (show¬s.kind=9 by omega)];exact b.2)).2.1 k (D _ b.1);exact m _ _ h (VC.rf _) (S.tg (by omega) (by omega) (by omega) (by omega)) ((h.v _ b.1).flow l)
  ·cases a
 split at a
 ·rename_i k;cases a;exact m _ _ h (VC.rf _) (S.tg (by omega) (by omega) (by omega) (by omega)) ((u (S.sr (.inr (.inr (.inr (.inl k)))))).flow (r.2.2.2.1 k))
 split at a
 ·rename_i k;split at a
  ·rename_i n;cases a;have b:=(O (S.tg (by omega) (by omega) (by omega) (by omega))).2 n;have l:=((CU P).fol _ _ t (.inr (.inr (.inr k))) (by unfold Rl.at;rw [if_pos (show s.kind=9 from k)];exact b.2)).2.2.1 k (D _ b.1);exact ⟨h.set b.1 ((u (S.sr (.inr (.inr (.inr (.inr (.inr (.inl k)))))))).flow l),VC.set _ _ _⟩
  ·cases a
 ·cases a;exact ⟨h,VC.rf _⟩
theorem iG.step{m:Mc}(h:iG P o w m):iG P o w (V5 P m):=by
 unfold V5;split
 ·exact h
 rename_i f r D;have b:=h.fr f (by rw [D];exact List.mem_cons_self);have d:∀x,iG P o w {m with bS:={f with next:=x}::r}:=fun x=>by
  refine ⟨h.c,fun g C=>?_,?_,h.en⟩
  ·rcases List.mem_cons.1 C with rfl | q
   ·exact ⟨b.fn,b.rc,b.var⟩
   ·exact h.fr g (by rw [D];exact rT _ q)
  ·have:=h.t8;rw [D] at this;exact iI.head (f:=f) (f':=⟨f.fn,f.base,x,f.answer⟩) rfl rfl this
 have H:∀(s:AY) (g:Nat),s∈(Ap P f.fn).b9→(Ap P g).i8=s.args.length→DY P ⟨f.fn,s⟩ g (least P)→∀i v,(WH m.c.aY f.base s.args)[i]? =some v→i<(Ap P g).l8.length∧iH P m.c.aY (vN g i) v:=fun s g j Y l i v u=>by
  unfold WH at u;rw [List.getElem?_map] at u;rcases z:s.args[i]? with _ | a
  ·rw [z] at u;cases u
  ·rw [z] at u;cases u;have I:=(List.getElem?_eq_some_iff.1 z).1;have X:=A.ok.bX g;have Q:=(A.ok.ok f.fn b.fn s j).args a (List.mem_of_getElem? z);obtain ⟨p,t⟩:=b.var a Q;have:=h.c.v _ p;rw [t] at this;exact ⟨by omega,this.flow (l.1 i a z)⟩
 dsimp only;rcases F:(Ap P f.fn).b9[f.next]? with _ | s
 ·have e:YW (Ap P f.fn).b9 f.next=⟨0,0,0,0,0,[],0,0⟩:=by unfold YW;rw [F];rfl
  rw [e];simp only [show¬(0:Nat)=7 by omega,show¬(0:Nat)=8 by omega,show¬(0:Nat)=10 by omega,show¬((0:Nat)=11∨(0:Nat)=12) by omega,if_false];exact d 0
 have e:YW (Ap P f.fn).b9 f.next=s:=by unfold YW;rw [F];rfl
 have j:s∈(Ap P f.fn).b9:=List.mem_of_getElem? F;rw [e];have K:Ly P ⟨f.fn,s⟩:=⟨b.fn,j⟩;have S:=A.ok.ok f.fn b.fn s j;have N:=(CU P).beg _ K;have G:s.aQ<(Ap P f.fn).l8.length→∀g,DY P ⟨f.fn,s⟩ g (least P)→f.base+s.aQ<m.c.aY.length∧∀x,Ey P g x→(least P).F x (jD (DB m.c.aY (f.base+s.aQ)).nm):=fun T g l=>by obtain ⟨p,t⟩:=b.var _ T;refine ⟨p,fun x U=>?_⟩;rw [t];exact l.2 x U
 split
 ·rename_i k;have l:=N.2.2.2.2 k;exact (d s.next).enter (S.func (.inr k)) (b.rc.step ⟨s,j,.inl ⟨k,rfl⟩⟩) _ _ (H s _ j (S.many k) l) (.inr (G (S.tg (by omega) (by omega) (by omega) (by omega)) _ l))
 split
 ·rename_i k;split
  ·rename_i E;split
   ·exact ⟨h.c,(d s.next).fr,(d s.next).t8,by first | exact (show (1:Nat)≤3∧(3:Nat)≤4 by decide) | exact (show (1:Nat)≤4∧(4:Nat)≤4 by decide)⟩
   ·obtain ⟨p,t⟩:=b.var _ (S.sr (.inr (.inr (.inr (.inr (.inl k))))));have n:=h.c.v _ p;rw [t] at n;have n:=n.1 E.1;obtain ⟨J,l⟩:=mK K k (by unfold Rl.at;rw [if_neg (show¬s.kind=9 by omega)];exact n.2) (by have:=A.bA;omega) E.2;have L:=b.rc.step ⟨s,j,.inr ⟨k,J⟩⟩;have I:iG P o w {m with bS:={f with next:=s.next}::r,c:={m.c with bN:=(s.m9,(DB m.c.aY (f.base+s.r9)).v.bG)::m.c.bN}}:=by
     have:=d s.next;refine ⟨⟨h.c.nm,h.c.v,h.c.f,h.c.cU,fun e B=>?_⟩,this.fr,this.t8,h.en⟩;rcases List.mem_cons.1 B with rfl | q
     ·exact ⟨J,L⟩
     ·exact h.c.bN e q
    exact I.enter n.1 L _ _ (H s _ j E.2 l) (.inr (G (S.tg (by omega) (by omega) (by omega) (by omega)) _ l))
  ·exact ⟨h.c,(d s.next).fr,(d s.next).t8,by first | exact (show (1:Nat)≤3∧(3:Nat)≤4 by decide) | exact (show (1:Nat)≤4∧(4:Nat)≤4 by decide)⟩
 split
 ·rename_i k;refine (d s.next).leave fun O Z R=>.inr ?_
  cases R;obtain ⟨p,t⟩:=b.var _ (S.sr (.inr (.inr (.inr (.inr (.inr (.inr k)))))));have n:=h.c.v _ p;rw [t] at n;exact ⟨_,⟨s,j,k,rfl⟩,n⟩
 split
 ·have:=d (if (Pv m.c.ch).1 then s.taken else s.next);exact ⟨⟨h.c.nm,h.c.v,h.c.f,h.c.cU,h.c.bN⟩,this.fr,this.t8,h.en⟩
 split
 ·rename_i W B;obtain ⟨V,M⟩:=pK A h.c b j B;have:=d s.next;exact ⟨V,fun g C=>(this.fr g C).up M,this.t8.up M,h.en⟩
 ·exact ⟨h.c,(d s.next).fr,(d s.next).t8,by first | exact (show (1:Nat)≤3∧(3:Nat)≤4 by decide) | exact (show (1:Nat)≤4∧(4:Nat)≤4 by decide)⟩
theorem iG.go:∀(n:Nat) {m:Mc},iG P o w m→iG P o w (PO P n m).1
 | 0,m,h=>by rw [PO];exact h.norm 41
 | n+1,m,h=>by
   rw [PO];split
   ·exact iG.go n ((h.norm 41).step A)
   ·exact h.norm 41
theorem pT(e:o<P.length)(c:Nat)(b:List UInt8):iG P o w (gY P o c b).1:=by
 unfold gY;have d:iG P o w ⟨⟨[],b,[],[]⟩,[],1⟩:=
  ⟨⟨fun i a=>absurd a (Nat.not_lt_zero i),fun i a=>absurd a (Nat.not_lt_zero i),fun i a=>absurd a (Nat.not_lt_zero i),fun _ q=>(List.not_mem_nil q).elim,fun _ q=>(List.not_mem_nil q).elim⟩,fun _ q=>(List.not_mem_nil q).elim,trivial,show (1:Nat)≤1∧(1:Nat)≤4 by decide⟩
 exact iG.go A c (d.enter e (FG.rf P _ o) [] 0 (fun i v a=>by simp at a) (.inl rfl))
end
theorem Gv{B w g c}{l:List ByteArray}(h:Au B w (.slice (some ⟨g,0,none⟩) l.length c) l)(k:Nat)(a:k<l.length):w.cell? ⟨g,k,none⟩=some (.string l[k]):=by have:=h.cellAt (k*1) (by simpa using a);rw [Nat.mul_one] at this;rw [this];simp [a]
theorem Qb{w:World}{B:Nat}{e:TypeId}{b:Nat}{v:Value}{n:Nat}{c:List Value}(h:w.ownsRow B e b v n c):n≤9223372036854775807:=by
 rcases h.2 with ⟨_,f⟩ | ⟨_,d,_,_,_,_,g,a,_⟩
 ·omega
 ·unfold maxLen at a;omega
def FY(l:List ByteArray)(s:ByteArray):Bool:=l.any fun a=>a.toList==s.toList
theorem Ih{l:List ByteArray}{s:ByteArray}:FY l s=true↔s∈l:=by
 unfold FY;rw [List.any_eq_true];constructor
 ·rintro ⟨a,b,e⟩;rw [←Dd (beq_iff_eq.1 e)];exact b
 ·exact fun h=>⟨s,h,by simp⟩
theorem SE(l:List ByteArray)(s:ByteArray)(k:Nat)(h:k<l.length):FY (l.drop k) s=((l[k].toList==s.toList) || FY (l.drop (k+1)) s):=by unfold FY;rw [List.drop_eq_getElem_cons h,List.any_cons]
theorem Fs(B:Nat)(v:Value)(l:List ByteArray)(s:ByteArray)(w:World)(h:Au B w v l):
 Calls Tryz.prog 22 #[v,.string s] w fun e p=>e=.returned (.bool (FY l s))∧p=w:=by
 obtain ⟨x,z,y,rfl⟩:=Ad h;have o:=Aq h;subst o;obtain ⟨r,c⟩:∃r,FY l s=r:=⟨_,rfl⟩;rw [c];have d:=Aa c;have u:=Qb h;clear c;go_enter Tryz.func22,Tryz.ntmps22;go_wp2;go_loop [5] (fun i=>∃(k:Nat),k≤l.length∧i=.int .i64 k∧dN (FY (l.drop k) s=r)) (fun i=>l.length-(intOf i).toNat)
 case atStart=>exact ⟨0,by omega,rfl,by rw [List.drop_zero];exact d⟩
 case round=>
  obtain ⟨k,t,rfl,b⟩:=hrel;by_cases j:k<l.length
  ·obtain ⟨g,rfl⟩:=AA h (by omega);have q:=Gv h k j;have a:=b.o;rw [SE l s k j] at a;cases f:(l[k].toList==s.toList) with
   | true=> rw [f,Bool.true_or] at a;subst a;go_wp2;go_ret;exact ⟨rfl,rfl⟩
   | false=>
     rw [f,Bool.false_or] at a;have m:=Aa a;clear a b;go_wp2;go_round
     case rel=>exact ⟨k+1,by omega,by go_num,m⟩
     case measure=>simp [intOf];omega
  ·have a:=b.o;rw [List.drop_of_length_le (by omega)] at a;have n:false=r:=a;subst n;clear a b d;go_wp2;go_ret;exact ⟨rfl,rfl⟩
def Fj(l m:List ByteArray):Bool:=l.all fun s=>FY m s
theorem Lj{l m:List ByteArray}:Fj l m=true↔∀s,s∈l→s∈m:=by unfold Fj;rw [List.all_eq_true];exact ⟨fun h s a=>Ih.1 (h s a),fun h s a=>Ih.2 (h s a)⟩
theorem Xj(n:Nat)(h:n≤4000):Lib.nDigits n≤4:=by
 rw [Lib.nDigits];split
 ·omega
 ·rw [Lib.nDigits];split
  ·omega
  ·rw [Lib.nDigits];split
   ·omega
   ·rw [Lib.nDigits];split
    ·omega
    ·omega
theorem FP(n:Nat)(h:n≤4000):(JR n).size≤4:=by have:=Lib.decDigits_length n;have a:=Xj n h;unfold JR;simp [ByteArray.size];omega
theorem PG:∀(n:Nat),n≤100000→∀(w:World),Calls Tryz.prog 24 #[.int .i64 n] w fun e t=>e=.returned (.string ⟨(Lib.decDigits n).toArray⟩)∧∃m,t=w.drewN m:=by
 intro n;induction n using Nat.strongRecOn with
 | ind n g=>
   intro v w;by_cases h:n<10
   ·have k:decide ((n:Int)<10)=true:=by simp;omega
    have c:dN (Wa.extract n (n+1)=⟨(Lib.decDigits n).toArray⟩):=FN (by rw [RN n h,Lib.decDigits_one h]);clear g;go_enter Tryz.func24,Tryz.ntmps24;go_wp2;go_ret;exact ⟨congrArg (fun s=>Ending.returned (Value.string s)) c.o,0,rfl⟩
   ·have k:decide ((n:Int)<10)=false:=by simp;omega
    obtain ⟨L,d⟩:∃L,Lib.decDigits (n / 10)=L:=⟨_,rfl⟩;have l:=Hw (n / 10);have a:=g (n / 10) (by omega) (by omega);rw [d] at l a;have a:=Aa a;obtain ⟨r,i⟩:∃r,n % 10=r:=⟨_,rfl⟩;have j:r<10:=by omega
    have o:=TQ r j;obtain ⟨x,f⟩:∃x,Wa.extract r (r+1)=x:=⟨_,rfl⟩;have b:=RN r j;have A:x.size=1:=by
     have:x.data.toList.length=1:=by rw [←f,b];rfl
     simpa using this
    rw [f] at b o;have c:dN ((⟨L.toArray⟩:ByteArray)++x=⟨(Lib.decDigits n).toArray⟩):=FN (by
     have e:Lib.decDigits n=Lib.decDigits (n / 10)++[UInt8.ofNat (48+n % 10)]:=by conv=>lhs;rw [Lib.decDigits,dif_neg h]
     rw [e,i,d];simp only [ByteArray.data_append,Array.toList_append,b])
    have p:dN ((n:Int) / 10=((n / 10:Nat):Int)):=by show _=_;omega
    have q:dN (IntKind.i64.wrap ((n:Int) / 10)=((n / 10:Nat):Int)):=by show _=_;rw [IntKind.wrap_i64];omega
    have z:(n:Int).tmod 10=(r:Int):=by rw [Int.tmod_eq_emod_of_nonneg (by omega)];omega
    have y:IntKind.i64.wrap ((r:Int)+1)=(r:Int)+1:=by rw [IntKind.wrap_i64];omega
    have u:¬9223372036854775807<L.length+1:=by omega
    clear g i d f b;go_enter Tryz.func24,Tryz.ntmps24;go_wp2;go_quiet ((go_at_call 24;(first | rw [q.o] | rw [p.o]);exact Calls.quiet_of (a.o _)));go_wp2;go_ret;exact ⟨congrArg (fun s=>Ending.returned (Value.string s)) c.o,nq,rfl⟩
theorem GY(n:Nat)(h:n≤4000)(w:World):Calls Tryz.prog 24 #[.int .i64 n] w fun e a=>e=.returned (.string (JR n))∧∃m,a=w.drewN m:=PG n (by omega) w
theorem FQ(n:Nat)(h:n≤4000)(w:World):Calls Tryz.prog 24 #[.int .i64 n] w fun e c=>e=.returned (.string (JR n))∧Ab (fun _=>False) w c:=
 (GY n h w).mono fun _ _ ⟨a,m,b⟩=>⟨a,by rw [b];exact (Ab.refl _ _).drewN m⟩
structure Tb where
 V:List (List ByteArray)
 F:List (List ByteArray)
 E:List (List ByteArray)
def Dj(w:World)(v:Value)(a:List (List ByteArray)):Prop:=∃b:List Value,b.length=a.length∧w.ownsRow 0 28 1 v a.length b∧∀i (h:i<b.length) (c:i<a.length),Au 0 w b[i] a[i]
theorem Dj.i9{w b v a}(h:Dj w v a)(k:Ab (fun _=>False) w b):Dj b v a:=by obtain ⟨g,e,f,d⟩:=h;exact ⟨g,e,Ac f k (fun _ _ q=>q),fun i h c=>Ac (d i h c) k (fun _ _ q=>q)⟩
def Fv(c:List Value)(b a:Value):Array Value:=(c++[b,a]).toArray
structure Ek(w:World)(vs:List Value)(fv ev:Value)(T:Tb):Prop where
 v16:vs.length=16
 t16:T.V.length=16
 v:∀i (h:i<vs.length) (h':i<T.V.length),Au 0 w vs[i] T.V[i]
 f:Dj w fv T.F
 e:Dj w ev T.E
 fl:T.F.length≤1000
 el:T.E.length≤1000
theorem Ek.i9{w d c b a T}(h:Ek w c b a T)(k:Ab (fun _=>False) w d):Ek d c b a T:=
 ⟨h.v16,h.t16,fun i e f=>Ac (h.v i e f) k (fun _ _ q=>q),h.f.i9 k,h.e.i9 k,h.fl,h.el⟩
def FD(T:Tb)(f v:Nat):List ByteArray:=T.V[f*4+v]?.getD []
theorem Ek.var{w g j i T}(h:Ek w g j i T){f v:Nat}(m:f<4)(n:v<4):∃a c,(Fv g j i)[f*4+v]? =some (.slice a (FD T f v).length c)∧Au 0 w (.slice a (FD T f v).length c) (FD T f v):=by
 have d:f*4+v<g.length:=by rw [h.v16];omega
 have k:f*4+v<T.V.length:=by rw [h.t16];omega
 have b:=h.v _ d k;have e:FD T f v=T.V[f*4+v]:=by unfold FD;rw [rU k];rfl
 rw [←e] at b;obtain ⟨a,l,c,q⟩:=Ad b;rw [q] at b;have:=Aq b;subst this;refine ⟨a,c,?_,b⟩;unfold Fv;rw [dM,List.getElem?_append_left d,rU d,q]
theorem Ek.fld{w g f d T}(h:Ek w g f d T):∃a c,(Fv g f d)[16]? =some (.slice a T.F.length c)∧Dj w (.slice a T.F.length c) T.F:=by obtain ⟨j,e,b,i⟩:=h.f;obtain ⟨a,l,c,rfl⟩:=Ad b;have:=Aq b;subst this;refine ⟨a,c,?_,j,e,b,i⟩;unfold Fv;rw [dM,List.getElem?_append_right (by rw [h.v16];omega),h.v16];rfl
theorem Ek.bN{w g f d T}(h:Ek w g f d T):∃a c,(Fv g f d)[17]? =some (.slice a T.E.length c)∧Dj w (.slice a T.E.length c) T.E:=by obtain ⟨j,e,b,i⟩:=h.e;obtain ⟨a,l,c,rfl⟩:=Ad b;have:=Aq b;subst this;refine ⟨a,c,?_,j,e,b,i⟩;unfold Fv;rw [dM,List.getElem?_append_right (by rw [h.v16];omega),h.v16];rfl
theorem Dj.get{w a c f}(h:Dj w (.slice a f.length c) f){i:Nat}(o:i<f.length):∃g b d,a=some ⟨g,0,none⟩∧w.cell? ⟨g,i,none⟩=some (.slice b f[i].length d)∧g<w.heap.size∧Au 0 w (.slice b f[i].length d) f[i]:=by obtain ⟨p,e,k,n⟩:=h;obtain ⟨g,rfl⟩:=AA k (by omega);have j:=n i (by omega) o;obtain ⟨b,l,d,q⟩:=Ad j;rw [q] at j;have:=Aq j;subst this;have m:=k.cellAt (i*1) (by omega);rw [Nat.mul_one] at m;refine ⟨g,b,d,rfl,?_,(k.lt g rfl).2,j⟩;rw [m,rU (by omega),q]
def GD(f v:Nat):ByteArray:=Kz f++⟨#[46]⟩++GA v
def EX(n k:Nat):ByteArray:=JR n++⟨#[46]⟩++JR k
theorem KH{s:ByteArray}{l:List UInt8}(h:s.data.toList=l):s=⟨l.toArray⟩:=by subst h;cases s;simp
theorem Ia(f:Nat):(Kz f).size≤4:=by have:=J5 f;simpa [Kz,ByteArray.size] using this
theorem OY(v:Nat):(GA v).size=1:=by have:=Gz v;simpa [GA,ByteArray.size] using this
theorem Gm(v:Nat)(d:v<4)(w:World):Calls Tryz.prog 26 #[.int .i64 v] w fun e f=>e=.returned (.string (Kz v))∧f=w:=
 (I4 v d w).mono fun _ _ ⟨⟨s,a,b,_⟩,c⟩=>⟨by rw [a,KH b];rfl,c⟩
theorem Kc(v:Nat)(d:v<4)(w:World):Calls Tryz.prog 28 #[.int .i64 v] w fun e f=>e=.returned (.string (GA v))∧f=w:=
 (Ei v d w).mono fun _ _ ⟨⟨s,a,b,_⟩,c⟩=>⟨by rw [a,KH b];rfl,c⟩
def ZZ(T:Tb)(s:ByteArray)(w:World)(e:Ending)(c:World):Prop:=
 (∃(a:Value) (b:Bool) (l:List ByteArray),e=.returned (.tuple #[a,.bool b])∧Au 0 c a l∧
   (b=true→(∃f v,f<4∧v<4∧s=GD f v∧l=FD T f v)∨∃i,∃h:i<T.F.length,s=EX (i / 4+1) (i % 4)∧l=T.F[i])∧
   (b=false→(∀f v,f<4→v<4→s≠GD f v)∧∀i,i<T.F.length→s≠EX (i / 4+1) (i % 4)))∧Ab (fun _=>False) w c
theorem ER{a b:ByteArray}:(a.toList==b.toList)=true↔a=b:=⟨fun h=>Dd (beq_iff_eq.1 h),fun h=>by rw [h];simp⟩
theorem UG(vs:List Value)(fv ev:Value)(T:Tb)(s:ByteArray)(w:World)(h:Ek w vs fv ev T):
 Calls Tryz.prog 25 #[.agg (Fv vs fv ev),.string s] w fun e R=>ZZ T s w e R:=by
 have HS:=Aa h;clear h;obtain ⟨H,a1⟩:∃c,Fv vs fv ev=c:=⟨_,rfl⟩;rw [a1];have HC:=Aa a1;clear a1;have m:=Aa ((Ab.refl (fun _=>False) w).alloc (.cells H 33));have o:=Aa (Ak.new w H 33);go_enter Tryz.func25,Tryz.ntmps25;go_wp2_with fail;generalize w.alloc (.cells H 33)=W at*;go_loopw [6] (fun i wr=>∃(f:Nat),f≤4∧i=.int .i64 f∧dN (Ab (fun _=>False) w wr)∧dN (Ak w.heap.size H 33 wr)∧dN (∀u v,u<f→v<4→s≠GD u v)) (fun i _=>4-(intOf i).toNat)
 case atStart=>exact ⟨0,by omega,rfl,m,o,fun _ _ q=>by omega⟩
 case round=>
  clear m o;obtain ⟨f,hf,rfl,m,o,HN⟩:=hrel;by_cases Y:f<4
  ·have tf:decide ((f:Int)<4)=true:=by simp;omega
   go_wp2_with fail;go_loopw [7] (fun i wr=>∃(v:Nat),v≤4∧i=.int .i64 v∧dN (Ab (fun _=>False) w wr)∧dN (Ak w.heap.size H 33 wr)∧dN (∀t,t<v→s≠GD f t)) (fun i _=>4-(intOf i).toNat)
   case atStart=>exact ⟨0,by omega,rfl,m,o,fun _ q=>by omega⟩
   case round=>
    clear m o;obtain ⟨v,hv,rfl,m,o,K⟩:=hrel;by_cases a0:v<4
    ·obtain ⟨F,hF⟩:∃x,Kz f=x:=⟨_,rfl⟩;obtain ⟨V,X⟩:∃x,GA v=x:=⟨_,rfl⟩;have z1:=Ia f;have z2:=OY v;have b0:GD f v=F++{data:=#[46]}++V:=by unfold GD;rw [hF,X]
     rw [hF] at z1;rw [X] at z2;have HF:=Aa hF;have HV:=Aa X;have a5:=Aa b0;clear hF X b0;cases P:(s.toList==(F++{data:=#[46]}++V).toList) with
     | true=>
       have G:dN (s=GD f v):=by rw [a5.o];exact ER.1 P
       obtain ⟨a,c,z,N⟩:=HS.o.var Y a0;rw [HC.o] at z;have I:=o.o.cell (f*4+v);rw [z] at I;have Q:=Ae o.o;have HR:=Aa (Ac N m.o (fun _ _ q=>q));clear z N;go_wp2_with (first
        | (go_at_call 26;refine (Gm _ Y _).mono ?_;rw [HF.o];rintro e R ⟨rfl,p⟩;have p:=p.symm;subst p)
        | (go_at_call 28;refine (Kc _ a0 _).mono ?_;rw [HV.o];rintro e R ⟨rfl,p⟩;have p:=p.symm;subst p))
       refine bodyPost_ret (v:=.tuple #[.slice a (FD T f v).length c,.bool true]) (by simp [results,Tryz.results25,go_sem]) rfl ⟨⟨_,true,FD T f v,rfl,HR.o,fun _=>.inl ⟨f,v,Y,a0,G.o,rfl⟩,fun q=>by cases q⟩,m.o⟩
     | false=>
       have G:dN (s≠GD f v):=fun q=>by rw [a5.o] at q;have:=ER.2 q;rw [P] at this;cases this
       go_wp2_with (first
        | (go_at_call 26;refine (Gm _ Y _).mono ?_;rw [HF.o];rintro e R ⟨rfl,p⟩;have p:=p.symm;subst p)
        | (go_at_call 28;refine (Kc _ a0 _).mono ?_;rw [HV.o];rintro e R ⟨rfl,p⟩;have p:=p.symm;subst p))
       go_roundw
       case rel=>
        refine ⟨v+1,by omega,by go_num,m,o,fun t q=>?_⟩;rcases Nat.lt_or_ge t v with y | y
        ·exact K.o t y
        ·have:t=v:=by omega
         rw [this];exact G.o
       case measure=>simp [intOf];omega
    ·go_wp2_with fail;go_roundw
     case rel=>
      refine ⟨f+1,by omega,by go_num,m,o,fun u t q q'=>?_⟩;rcases Nat.lt_or_ge u f with y | y
      ·exact HN.o u t y q'
      ·have:u=f:=by omega
       rw [this];exact K.o t (by omega)
     case measure=>simp [intOf];omega
  ·have tf:decide ((f:Int)<4)=false:=by simp;omega
   have b7:dN (∀f v,f<4→v<4→s≠GD f v):=fun u v q q'=>HN.o u v (by omega) q'
   clear HN;obtain ⟨fa,fc,z,N⟩:=HS.o.fld;rw [HC.o] at z;have b6:=Aa N;have a4:=Aa z;have b8:=HS.o.fl;clear z N;obtain ⟨J,a3⟩:∃n,T.F.length=n:=⟨_,rfl⟩;rw [a3] at b8 a4;have a9:=Aa a3;clear a3;go_wp2_with fail;go_loopw [8] (fun i wr=>∃(k:Nat),k≤J∧i=.int .i64 k∧dN (Ab (fun _=>False) w wr)∧dN (Ak w.heap.size H 33 wr)∧dN (∀C,C<k→s≠EX (C / 4+1) (C % 4))) (fun i _=>J-(intOf i).toNat)
   case atStart=>exact ⟨0,by omega,rfl,m,o,fun _ q=>by omega⟩
   case round=>
    clear m o;obtain ⟨k,hk,rfl,m,o,K⟩:=hrel;have Q:=Ae o.o;have I:=o.o.cell 16;rw [a4.o] at I;by_cases c0:k<J
    ·obtain ⟨n,hn⟩:∃x,k / 4=x:=⟨_,rfl⟩;obtain ⟨j,Z⟩:∃x,k % 4=x:=⟨_,rfl⟩;have e1:(k:Int).tdiv 4=(n:Int):=by rw [←hn];rfl
     have e2:(k:Int).tmod 4=(j:Int):=by rw [←Z];rfl
     have c6:n≤250:=by omega
     have c5:j<4:=by omega
     obtain ⟨D,S⟩:∃x,JR (n+1)=x:=⟨_,rfl⟩;obtain ⟨E,U⟩:∃x,JR j=x:=⟨_,rfl⟩;have z1:=FP (n+1) (by omega);have z2:=FP j (by omega);have b1:EX (k / 4+1) (k % 4)=D++{data:=#[46]}++E:=by unfold EX;rw [hn,Z,S,U]
     rw [S] at z1;rw [U] at z2;have HD:=Aa S;have G:=Aa U;have a6:=Aa b1;have b5:dN (∀r,Ab (fun _=>False) wr r→r.cell? ⟨w.heap.size,16,none⟩=some (.slice fa J fc)∧w.heap.size<r.heap.size):=fun r O=>⟨(rM (O.block _ Q (fun q=>q))).trans I,rP Q O.size⟩
     have c2:=Aa hn;have c1:=Aa Z;clear S U b1 hn Z;have tk:decide ((k:Int)<(J:Int))=true:=by simp;omega
     cases P:(s.toList==(D++{data:=#[46]}++E).toList) with
     | true=>
       have HQ:dN (s=EX (k / 4+1) (k % 4)):=by rw [a6.o];exact ER.1 P
       have b4:k<T.F.length:=by rw [a9.o];exact c0
       obtain ⟨g,b,d,b9,b2,a2,b3⟩:=Dj.get (w:=w) (by have:=b6.o;exact this) b4;subst b9;have a7:dN (∀r,Ab (fun _=>False) w r→r.cell? ⟨g,k,none⟩=some (.slice b T.F[k].length d)∧g<r.heap.size):=fun r O=>⟨(rM (O.block _ a2 (fun q=>q))).trans b2,rP a2 O.size⟩
       have a8:=Aa b3;clear b2 b3 a2;obtain ⟨L,hL⟩:∃l,T.F[k]=l:=⟨_,rfl⟩;rw [hL] at a7 a8;have HL:=Aa hL;clear hL;go_wp2_with fail;refine (FQ (n+1) (by omega) _).mono ?_;rw [HD.o];rintro e w2 ⟨rfl,A⟩;have O2:=Aa (m.o.trans A);go_wp2_with fail;refine (FQ j (by omega) _).mono ?_;rw [G.o];rintro e w3 ⟨rfl,B⟩;obtain ⟨c3,c7⟩:=b5.o w3 (A.trans B);have M:=Aa (O2.o.trans B);obtain ⟨c4,c8⟩:=a7.o w3 M.o;clear A B I Q;go_wp2_with fail;refine bodyPost_ret (v:=.tuple #[.slice b L.length d,.bool true]) (by simp [results,Tryz.results25,go_sem]) rfl ⟨⟨_,true,L,rfl,Ac a8.o M.o (fun _ _ q=>q),fun _=>.inr ⟨k,b4,HQ.o,HL.o.symm⟩,fun q=>by cases q⟩,M.o⟩
     | false=>
       have HQ:dN (s≠EX (k / 4+1) (k % 4)):=fun q=>by rw [a6.o] at q;have:=ER.2 q;rw [P] at this;cases this
       go_wp2_with fail;refine (FQ (n+1) (by omega) _).mono ?_;rw [HD.o];rintro e w2 ⟨rfl,A⟩;go_wp2_with fail;refine (FQ j (by omega) _).mono ?_;rw [G.o];rintro e w3 ⟨rfl,B⟩;have M:=Aa (m.o.trans (A.trans B));have B3:=Aa (o.o.O (A.trans B) (fun q=>q));clear A B I Q;go_wp2_with fail;go_roundw
       case rel=>
        refine ⟨k+1,by omega,by go_num,M,B3,fun C q=>?_⟩;rcases Nat.lt_or_ge C k with y | y
        ·exact K.o C y
        ·have:C=k:=by omega
         rw [this];exact HQ.o
       case measure=>simp [intOf];omega
    ·have tk:decide ((k:Int)<(J:Int))=false:=by simp;omega
     go_wp2_with fail;refine bodyPost_ret (v:=.tuple #[.slice none 0 0,.bool false]) (by simp [results,Tryz.results25,go_sem]) rfl ⟨⟨_,false,[],rfl,World.ownsRow_nil _ _ _ _,(fun q=>absurd q (by decide)),fun _=>⟨b7.o,fun i hi=>K.o i (by have:=a9.o;omega)⟩⟩,m.o⟩
def Vs(d:ByteArray)(c:Value)(b a:Nat):Array Value:=#[.string d,c,.int .i64 b,.int .i64 a]
abbrev K6(x:Sm×Nat)(a:Value):Array Value:=#[.int .i64 x.1.aW,.int .i64 x.1.kind,.int .i64 x.1.p,.int .i64 x.1.q,.int .i64 x.1.g,.int .i64 x.1.k,.int .i64 x.2,a]
theorem X8:∀(a:List ((Sm×Nat)×Value)) (i:Nat) (h:i<a.length) (j:Nat),j<8→(a.flatMap fun y=>Wu y.1 y.2)[i*8+j]? =(Wu (a[i]).1 (a[i]).2)[j]?
 | [],i,h,_,_=>by simp at h
 | y::a,0,_,j,b=>by rw [List.flatMap_cons,Nat.zero_mul,Nat.zero_add,List.getElem?_append_left (by simpa [Wu] using b)];rfl
 | y::a,i+1,h,j,b=>by
   rw [List.flatMap_cons,List.getElem?_append_right (by simp [Wu];omega)];have e:(i+1)*8+j-(Wu y.1 y.2).length=i*8+j:=by simp [Wu];omega
   rw [e,X8 a i (by simpa using h) j b];rfl
theorem J2.get{w a c f}(h:J2 0 w (.slice a f.length c) f){i:Nat}(v:i<f.length):∃g b l d,a=some ⟨g,0,none⟩∧g<w.heap.size∧BT 0 w (.slice b l d) f[i].1.args∧∀j,j<8→w.cell? ⟨g,i*8+j,none⟩=(K6 f[i] (.slice b l d))[j]? :=by
 obtain ⟨k,e,m,p⟩:=h;have u:k.length=f.length:=by rw [←e];simp
 rw [←u] at m;obtain ⟨g,rfl⟩:=AA m (by omega);have s:i<k.length:=by omega
 have o:(k[i]).1=f[i]:=by simp [←e]
 have n:=p k[i] (rQ _);obtain ⟨b,l,d,q⟩:=Ad n;rw [q,o] at n;refine ⟨g,b,l,d,rfl,(m.lt g rfl).2,n,fun j t=>?_⟩;have r:=m.cellAt (i*8+j) (show i*8+j<k.length*8 by omega);rw [r,X8 k i s j t,o,q,dM];rfl
end Go.Proofs.YtegmjgjkcdbmkaaGreatDoor

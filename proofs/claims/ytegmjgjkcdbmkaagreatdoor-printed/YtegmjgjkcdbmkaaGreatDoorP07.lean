/- One of the texts of the proof: PlE RwF. -/
import Derived.Test.YtegmjgjkcdbmkaaGreatDoorP06
set_option maxRecDepth 100000
set_option maxHeartbeats 1000000
namespace Go.Proofs.YtegmjgjkcdbmkaaGreatDoor
open Go.RowKit
abbrev pF:Array Value:=#[.int .i64 0,.int .i64 0,.slice none 0 0]
def jT(a:Nat)(b:World):Prop:=∀W:World,(∀k,k<a→W.heap[k]? =b.heap[k]?)→ItOk W
structure kY(u u':AY):Prop where
 kd:u'.kind=u.kind
 tg:u.kind≠10→u'.aQ=u.aQ
 sr:u.kind≠1→u.kind≠0→u'.r9=u.r9
 fd:u.kind=3→u'.field=u.field
 nm:u'.m9=u.m9
 ar:u'.args=u.args
 nx:u'.next=u.next
 tk:u'.taken=u.taken
theorem kY.rf(u:AY):kY u u:=⟨rfl,fun _=>rfl,fun _ _=>rfl,fun _=>rfl,rfl,rfl,rfl,rfl⟩
def iW(l a:List AY):Prop:=a.length=l.length∧∀i (h:i<l.length) (b:i<a.length),kY l[i] a[i]
theorem iW.snoc{l a u b}(h:iW l a)(k:kY u b):iW (l++[u]) (a++[b]):=by
 have f:=h.1;refine ⟨by simp [f],fun i d g=>?_⟩;rcases Nat.lt_or_ge i l.length with q | q
 ·rw [List.getElem_append_left q,List.getElem_append_left (by omega)];exact h.2 i q (by omega)
 ·have e:i=l.length:=by simp at d;omega
  subst e;rw [List.getElem_append_right (rN _),List.getElem_append_right (by omega)];simpa using k
theorem iW.mod{l d}(h:iW l d)(i:Nat){f:AY→AY}(g:∀u e,kY u e→kY (f u) (f e)):iW (l.modify i f) (d.modify i f):=by
 refine ⟨by simp [h.1],fun j a b=>?_⟩;simp only [List.length_modify] at a b;rw [List.getElem_modify,List.getElem_modify];split
 ·exact g _ _ (h.2 j a b)
 ·exact h.2 j a b
structure jE(b b':Bd):Prop where
 d9:b'.d9=b.d9
 st:iW b.b9 b'.b9
 pl:b'.pl=b.pl
 ca:b'.ca=b.ca
theorem jE.tk{b a}(h:jE b a)(i n:Nat):jE (b.tk i n) (a.tk i n):=⟨h.d9,h.st.mod i fun _ _ k=>⟨k.kd,k.tg,k.sr,k.fd,k.nm,k.ar,k.nx,rfl⟩,h.pl,h.ca⟩
theorem jE.nx{b a}(h:jE b a)(i n:Nat):jE (b.nx i n) (a.nx i n):=⟨h.d9,h.st.mod i fun _ _ k=>⟨k.kd,k.tg,k.sr,k.fd,k.nm,k.ar,rfl,k.tk⟩,h.pl,h.ca⟩
structure oK(v v':VS):Prop where
 kd:v'.kind=v.kind
 tg:v.kind≠10→v'.tg.a9=v.tg.a9
 sr:v.kind≠1→v.kind≠0→v'.sr.a9=v.sr.a9
 fd:v.kind=3→v'.field=v.field
 ar:(v'.args.map fun t=>t.a9)=v.args.map fun t=>t.a9
theorem oK.rf(v:VS):oK v v:=⟨rfl,fun _=>rfl,fun _ _=>rfl,fun _=>rfl,rfl⟩
theorem oK.step{v d b e}(f:List ByteArray)(h:oK v d)(k:jE b e)(a:Nat):jE (Am f v a b) (Am f d a e):=by
 have i:v.kind=0→d.tg.a9=v.tg.a9:=fun q=>h.tg (by omega)
 refine ⟨?_,?_,?_,?_⟩
 ·show (if d.kind=0 then e.d9++[d.tg.a9] else e.d9)=if v.kind=0 then b.d9++[v.tg.a9] else b.d9
  rw [h.kd,k.d9];split
  ·rename_i q;rw [i q]
  ·rfl
 ·refine k.st.snoc ⟨h.kd,fun q=>?_,fun q g=>?_,h.fd,?_,?_,rfl,rfl⟩
  ·have q:v.kind≠10:=q;show (if d.kind=0 then e.d9.length else vx e.d9 d.tg.a9)=if v.kind=0 then b.d9.length else vx b.d9 v.tg.a9
   rw [h.kd,k.d9,h.tg q]
  ·have q:v.kind≠1:=q;have g:v.kind≠0:=g;show (if d.kind=4∨d.kind=7 then vx f d.sr.a9 else vx e.d9 d.sr.a9)=if v.kind=4∨v.kind=7 then vx f v.sr.a9 else vx b.d9 v.sr.a9
   rw [h.kd,k.d9,h.sr q g]
  ·show (if d.kind=1 then e.pl+1 else if d.kind=8 then e.ca+1 else 0)=if v.kind=1 then b.pl+1 else if v.kind=8 then b.ca+1 else 0
   rw [h.kd,k.pl,k.ca]
  ·show (d.args.map fun t=>vx e.d9 t.a9)=v.args.map fun t=>vx b.d9 t.a9
   rw [k.d9];have:=congrArg (List.map (vx b.d9)) h.ar;rw [List.map_map,List.map_map] at this;exact this
 ·show (if d.kind=1 then e.pl+1 else e.pl)=if v.kind=1 then b.pl+1 else b.pl
  rw [h.kd,k.pl]
 ·show (if d.kind=8 then e.ca+1 else e.ca)=if v.kind=8 then b.ca+1 else b.ca
  rw [h.kd,k.ca]
theorem jJ{t a:PT}{l:List UInt8}(h:tx t=l)(b:tx a=l):a.a9=t.a9:=by rw [Et h,Et b]
theorem kF:∀{l a:List PT},l.map tx=a.map tx→(a.map fun t=>t.a9)=l.map fun t=>t.a9
 | [],[],_=>rfl
 | [],_::_,h=>by simp at h
 | _::_,[],h=>by simp at h
 | t::l,b::a,h=>by simp only [List.map_cons,List.cons.injEq] at h⊢;exact ⟨jJ rfl h.1.symm,kF h.2⟩
theorem pZ{a p q g k:Nat}{e:List Nat}{v i:VS}(m:a≤9)(h:Ng a p q g k e v)(b:Ng a p q g k e i):oK v i:=by
 have l:a=0∨a=1∨a=2∨a=3∨a=4∨a=5∨a=6∨a=7∨a=8∨a=9:=by omega
 have d:=h.kd;refine ⟨b.kd.trans h.kd.symm,fun q=>?_,fun q _=>?_,fun _=>b.fd.trans h.fd.symm,kF (h.ar.trans b.ar.symm)⟩
 ·have:a≤8:=by
   rcases Nat.lt_or_ge 8 a with r | r
   ·have:a=9:=by omega
    rw [this] at d;exact absurd d q
   ·exact r
  exact jJ (h.tg this) (b.tg this)
 ·by_cases f:a=2∨a=7
  ·exact jJ (h.sf f) (b.sf f)
  ·have j:a≠0:=fun r=>by rw [r] at d;exact q d
   exact jJ (h.sr (by omega)) (b.sr (by omega))
structure qB(t t':TS):Prop where
 sz:Ez t'=Ez t
 lay:∀a b b',jE b b'→jE (BP fnL t a b) (BP fnL t' a b')
theorem qB.bare{v d:VS}(h:oK v d):qB (.mk v []) (.mk d []):=⟨rfl,fun a b e k=>by rw [BP,BP];exact h.step fnL k a⟩
theorem pU{s:Sm}{t o:TS}(E:s.kind≤9)(h:ZQ s t)(A:ZQ s o):qB t o:=by
 obtain ⟨v,F,j⟩:=h;obtain ⟨u,G,g⟩:=A;have V:=pZ E F G;split at j
 ·rename_i e;rw [e] at g;obtain ⟨p,rfl⟩:=j;obtain ⟨r,rfl⟩:=g;refine ⟨rfl,fun a b l k=>?_⟩;have i:=(oK.rf (Dh 11)).step fnL k a;rw [BP,BP,if_pos (show (Dh 11).kind=11 from rfl),if_pos (show (Dh 11).kind=11 from rfl),AP,AP,BP,BP,k.st.1];have y:AJ [TS.mk u []] a (Am fnL (Dh 11) a l)=AJ [TS.mk v []] a (Am fnL (Dh 11) a b):=by unfold AJ;rw [if_neg (by simp),if_neg (by simp),i.st.1]
  rw [y];exact (V.step fnL i a).tk _ _
 ·rename_i e;rw [e] at g;obtain ⟨p,H,rfl⟩:=j;obtain ⟨r,I,rfl⟩:=g;refine ⟨rfl,fun a b l k=>?_⟩;have i:=(oK.rf (Dh 11)).step fnL k a;have w:∀d,AP fnL [] a d=d:=fun d=>by rw [AP]
  have x:∀f d,AP fnL [.mk f []] a d=Am fnL f a d:=fun f d=>by rw [AP,BP]
  rw [BP,BP,if_pos (show (Dh 11).kind=11 from rfl),if_pos (show (Dh 11).kind=11 from rfl)];simp only [w,x];have z:∀d,AJ [] a d=a:=fun d=>by unfold AJ;rw [if_pos (by simp)]
  simp only [z];rw [k.st.1];have q:=i.tk b.b9.length a;have m:∀f d,AJ [TS.mk f []] a d=d.b9.length:=fun f d=>by unfold AJ;rw [if_neg (by simp)]
  simp only [m];rw [q.st.1];exact (V.step fnL q a).nx _ _
 ·rename_i e;rw [e] at g;obtain ⟨p,rfl⟩:=j;obtain ⟨r,rfl⟩:=g;refine ⟨rfl,fun a b l k=>?_⟩;have i:=(oK.rf (Dh 12)).step fnL k a;rw [BP,BP,if_neg (show¬(Dh 12).kind=11 by decide),if_neg (show¬(Dh 12).kind=11 by decide),if_pos (show (Dh 12).kind=12 from rfl),if_pos (show (Dh 12).kind=12 from rfl),AP,AP,BP,BP,k.st.1];have m:∀f n d,AJ [TS.mk f []] n d=d.b9.length:=fun f n d=>by unfold AJ;rw [if_neg (by simp)]
  simp only [m];rw [i.st.1];exact (V.step fnL i _).tk _ _
 ·rename_i B C D;have:o=.mk u []:=by
   split at g
   ·rename_i e;exact absurd e B
   ·rename_i e;exact absurd e C
   ·rename_i e;exact absurd e D
   ·exact g
  subst this j;exact .bare V
def iY:List TS→List TS→Prop
 | [],[]=>True
 | t::l,b::a=>qB t b∧iY l a
 | _,_=>False
theorem iY.sz:∀{l a:List TS},iY l a→CQ a=CQ l
 | [],[],_=>rfl
 | [],_::_,h=>h.elim
 | _::_,[],h=>h.elim
 | t::l,b::a,h=>by rw [CQ,CQ,h.1.sz,iY.sz h.2]
theorem iY.lay:∀{l e:List TS} (a:Nat) (b d:Bd),iY l e→jE b d→jE (AP fnL l a b) (AP fnL e a d)
 | [],[],a,b,d,_,k=>by rw [AP,AP];exact k
 | [],_::_,_,_,_,h,_=>h.elim
 | _::_,[],_,_,_,h,_=>h.elim
 | [t],[f],a,b,d,h,k=>by rw [AP,AP];exact h.1.lay a b d k
 | [_],_::_::_,_,_,_,h,_=>h.2.elim
 | _::_::_,[_],_,_,_,h,_=>h.2.elim
 | t::g::l,f::i::e,a,b,d,h,k=>by rw [AP,AP,k.st.1,h.1.sz];exact iY.lay a _ _ h.2 (h.1.lay _ b d k)
theorem iY.app:∀{a d b e:List TS},iY a d→iY b e→iY (a++b) (d++e)
 | [],[],_,_,_,k=>k
 | [],_::_,_,_,h,_=>h.elim
 | _::_,[],_,_,h,_=>h.elim
 | _::_,_::_,_,_,h,k=>⟨h.1,iY.app h.2 k⟩
theorem kN:∀{a:List Sm} {l e:List TS},(∀s,s∈a→s.kind≤9)→Pf a l→Pf a e→iY l e
 | [],[],[],_,_,_=>trivial
 | [],[],_::_,_,_,h=>h.elim
 | [],_::_,_,_,h,_=>h.elim
 | _::_,[],_,_,h,_=>h.elim
 | _::_,_::_,[],_,_,h=>h.elim
 | s::_,_::_,_::_,d,h,b=>⟨pU (d s List.mem_cons_self) h.1 b.1,kN (fun u f=>d u (rT _ f)) h.2 b.2⟩
theorem pO{v:Nat}{t b:TS}(h:aD v t)(d:aD v b):qB t b:=by obtain ⟨w,rfl,a,i,f⟩:=h;obtain ⟨k,rfl,e,j,g⟩:=d;exact .bare ⟨e.trans a.symm,fun _=>jJ i j,fun _ q=>absurd a q,fun q=>absurd (a.symm.trans q) (by decide),by rw [f,g]⟩
theorem kL:∀{d:List Nat} {l b:List TS},Ui d l→Ui d b→iY l b
 | [],[],[],_,_=>trivial
 | [],[],_::_,_,h=>h.elim
 | [],_::_,_,h,_=>h.elim
 | _::_,[],_,h,_=>h.elim
 | _::_,_::_,[],_,h=>h.elim
 | _::_,_::_,_::_,h,a=>⟨pO h.1 a.1,kL h.2 a.2⟩
structure PEq(P c:List PFn):Prop where
 len:c.length=P.length
 name:∀i,(Ap c i).name=(Ap P i).name
 l8:∀i,(Ap c i).l8=(Ap P i).l8
 i8:∀i,(Ap c i).i8=(Ap P i).i8
 st:∀i,iW (Ap P i).b9 (Ap c i).b9
theorem iW.rf(l:List AY):iW l l:=⟨rfl,fun _ _ _=>.rf _⟩
theorem PEq.nil:PEq [] []:=⟨rfl,fun _=>rfl,fun _=>rfl,fun _=>rfl,fun _=>.rf _⟩
theorem iU(x:PFn)(l:List PFn):Ap (x::l) 0=x:=by simp [Ap]
theorem iT(x:PFn)(l:List PFn)(i:Nat):Ap (x::l) (i+1)=Ap l i:=by simp [Ap]
theorem pP{f:Nat}{a:List Sm}{t b:TF}(q:∀s,s∈a→s.kind≤9)(h:Y9 f a t)(g:Y9 f a b)(e d:Nat):jE (EQ fnL t e d) (EQ fnL b e d):=by
 obtain ⟨_,i,r,v,k,m,o⟩:=h;obtain ⟨_,j,u,w,l,n,p⟩:=g;have A:iY t.v8 b.v8:=by rw [k,l];exact (kL m n).app (kN q o p)
 unfold EQ;rw [A.sz];exact A.lay _ _ _ ⟨kF (i.trans j.symm),.rf _,rfl,rfl⟩
theorem kU:∀{d:List (Nat×List Sm)} {f g:List TF} (b a:Nat),(∀q,q∈d→∀s,s∈q.2→s.kind≤9)→Pe d f→Pe d g→PEq (Bu fnL f b a) (Bu fnL g b a)
 | [],[],[],_,_,_,_,_=>.nil
 | [],[],_::_,_,_,_,_,h=>h.elim
 | [],_::_,_,_,_,_,h,_=>h.elim
 | _::_,[],_,_,_,_,h,_=>h.elim
 | _::_,_::_,[],_,_,_,_,h=>h.elim
 | q::d,t::l,n::o,b,a,j,h,e=>by
   have B:=pP (j q List.mem_cons_self) h.1 e.1 b a;have R:=kU (EQ fnL t b a).pl (EQ fnL t b a).ca (fun u m=>j u (rT _ m)) h.2 e.2;have k:n.i8.length=t.i8.length:=by have:=congrArg List.length (h.1.2.1.trans e.1.2.1.symm);simpa using this.symm
   rw [Bu,Bu,B.pl,B.ca];refine ⟨by rw [rW,rW,R.len],fun i=>?_,fun i=>?_,fun i=>?_,fun i=>?_⟩;all_goals rcases i with _ | i
   ·rw [iU,iU];exact jJ h.1.1 e.1.1
   ·rw [iT,iT];exact R.name i
   ·rw [iU,iU];exact B.d9
   ·rw [iT,iT];exact R.l8 i
   ·rw [iU,iU];exact k
   ·rw [iT,iT];exact R.i8 i
   ·rw [iU,iU];exact B.st
   ·rw [iT,iT];exact R.st i
section
variable {P c : List PFn} (E : PEq P c)
include E
theorem PEq.step(f n:Nat):kY (YW (Ap P f).b9 n) (YW (Ap c f).b9 n):=by
 have h:=E.st f;unfold YW;rcases Nat.lt_or_ge n (Ap P f).b9.length with q | q
 ·rw [rU q,rU (by rw [h.1];exact q)];exact h.2 n q _
 ·rw [List.getElem?_eq_none q,List.getElem?_eq_none (by rw [h.1];exact q)];exact .rf _
theorem PEq.norm:∀(n:Nat) (m:Mc),KO c n m=KO P n m
 | 0,_=>rfl
 | n+1,m=>by
   unfold KO;split
   ·split
    ·rfl
    ·rename_i f _ _;rw [(E.st f.fn).1,PEq.norm n]
   ·rfl
theorem PEq.enter(m:Mc)(f:Nat)(args:List Vl)(ans:Nat):UR c m f args ans=UR P m f args ans:=by unfold UR;rw [E.l8]
theorem PEq.stepM(m:Mc):Go.Proofs.YtegmjgjkcdbmkaaGreatDoor.V5 c m=Go.Proofs.YtegmjgjkcdbmkaaGreatDoor.V5 P m:=by
 unfold Go.Proofs.YtegmjgjkcdbmkaaGreatDoor.V5;rcases m.bS with _ | ⟨f,r⟩
 ·rfl
 ·have S:=E.step f.fn f.next;simp only;generalize YW (Ap P f.fn).b9 f.next=u at S;generalize YW (Ap c f.fn).b9 f.next=e at S;simp only [S.kd,S.nx,S.ar,S.nm,S.tk];by_cases b:u.kind=7
  ·simp only [b,if_true,S.sr (by omega) (by omega),S.tg (by omega),E.enter]
  ·by_cases d:u.kind=8
   ·simp only [d,if_true,S.sr (by omega) (by omega),S.tg (by omega),E.enter,E.i8]
   ·by_cases a:u.kind=10
    ·simp only [if_neg b,if_neg d,if_pos a,S.sr (by omega) (by omega)]
    ·by_cases i:u.kind=11∨u.kind=12
     ·simp only [b,d,a,i,if_true,if_false]
     ·simp only [b,d,a,i,if_false];have:aJ u.kind (f.base+e.aQ) (f.base+e.r9) e.field u.m9 e.r9 m.c=aJ u.kind (f.base+u.aQ) (f.base+u.r9) u.field u.m9 u.r9 m.c:=by
       rw [S.tg a];by_cases g:u.kind=1
       ·simp only [aJ,g,if_true]
       ·by_cases h:u.kind=0
        ·simp [aJ,h]
        ·rw [S.sr g h];by_cases j:u.kind=3
         ·rw [S.fd j]
         ·simp only [aJ,g,j,if_false]
      rw [this]
theorem PEq.go:∀(n:Nat) (m:Mc),PO c n m=PO P n m
 | 0,m=>by rw [PO,PO,E.norm]
 | n+1,m=>by rw [PO,PO,E.norm,E.stepM,PEq.go n]
theorem PEq.run(d b:Nat)(a:List UInt8):gY c d b a=gY P d b a:=by unfold gY;rw [E.enter,E.go]
end
end Go.Proofs.YtegmjgjkcdbmkaaGreatDoor

/- One of the texts of the proof: BuA BuB MaG QtA QtB. -/
import Derived.Test.YtegmjgjkcdbmkaaGreatDoorG19
import Derived.StillTail
import Derived.OwnWalk
import Derived.Deep.RegionHeld
set_option maxRecDepth 100000
set_option maxHeartbeats 8000000
namespace Go.Proofs.YtegmjgjkcdbmkaaGreatDoor
open Go.RowKit Go.Maps
theorem RC{P i}(h:i<P.length):Ap P i=P[i]:=by unfold Ap;rw [List.getElem?_eq_getElem h];rfl
section
variable {P : Program} {p : Array Oper} {md : Region.Mode} {C : World → Prop}
def RH(md:Region.Mode)(p:Array Oper)(m n:Nat):Bool:=(List.range n).all fun i=>decide (i<m) || (List.range (n+1)).any fun j=>decide (i<j) && Region.waitsFor md p j i
theorem Mk{m n:Nat}{h:Array Bool}(B:RH md p m n=true)(w:Region.chainB md p n=true)(l:HeadInv md p n h):
 ∀(d i:Nat),n-i=d→m≤i→i<n→h.getD i true=false→∀t,n≤t→t∉Region.ready md p h:=by
 intro d;induction d using Nat.strongRecOn with
 | _ d E=>
   intro i G I x v t J u;obtain ⟨_,L,k,o⟩:=mem_ready.1 u;have C:t<p.size:=(Array.getElem?_eq_some_iff.1 k).1;by_cases D:t=n
   ·subst D;have b:=List.all_eq_true.1 B i (List.mem_range.2 x);simp only [Bool.or_eq_true,decide_eq_true_eq] at b;obtain ⟨j,y,q⟩:=List.any_eq_true.1 (b.resolve_left (by omega));simp only [Bool.and_eq_true,decide_eq_true_eq] at q;obtain ⟨F,s,e,f,c,g⟩:=Region.waitsFor_spec q.2;have H:=List.mem_range.1 y;by_cases z:j=t
    ·subst z;obtain rfl:=Option.some.inj (s.symm.trans k);have a:=o e f c;rw [g,getD_both v] at a;cases a
    ·cases r:h.getD j false with
     | true=> have a:=l.closed j F s r e f c;rw [g,getD_both v] at a;cases a
     | false=>exact E (t-j) (by omega) j rfl (by omega) (by omega) (getD_in (by rw [l.size];omega) r) t (Nat.le_refl _) u
   ·have b:=List.all_eq_true.1 w t (List.mem_range.2 C);simp only [Bool.or_eq_true,decide_eq_true_eq] at b;obtain ⟨K,A,e,f,c,g⟩:=Region.waitsFor_spec (b.resolve_left (by omega));obtain rfl:=Option.some.inj (A.symm.trans k);have a:=o e f c;rw [g,getD_both (l.tail (t-1) (by omega) (by omega))] at a;cases a
def NJ(P:Program)(md:Region.Mode)(p:Array Oper)(C:World→Prop)(n:Nat)(L:Array Bool→Act→Prop):Nat→Array Bool→Act→Prop
 | 0,b,a=>L b a
 | f+1,b,a=>Region.ready md p b≠[]∧∀i∈Region.ready md p b,i<n∧qOp P p C i (NJ P md p C n L f (b.setIfInBounds i true)) a
theorem Fn{n g:Nat}{L:Array Bool→Act→Prop}{Q':Exit→Act→World→Prop}(d:∀b a w,C w→L b a→wpAny P md p Q' g b a w):
 ∀(f:Nat) (b:Array Bool) (a:Act) (w:World),C w→NJ P md p C n L f b a→wpAny P md p Q' (f+g) b a w
 | 0,b,a,w,c,h=>by rw [Nat.zero_add];exact d _ _ _ c h
 | f+1,b,a,w,c,h=>by rw [show f+1+g=(f+g)+1 by omega];exact ⟨fun k=>absurd k h.1,fun i m=>wpOp_of_qOp c (fun e o l j=>Fn d f _ e o l j) (h.2 i m).2⟩
theorem NK{m n i t v}{L:Array Bool→Act→Prop}(z:p[i]? =some t)(M:∀(j:Nat) (o:Oper) s b,p[j]? =some o→o.op≠.select s b)
 (K:RH md p m n=true)(D:Region.chainB md p n=true)(J:m≤i)(F:i<n)(U:∀c a,L c a→∀j∈Region.ready md p c,n≤j):
 ∀(f:Nat) (c:Array Bool) (a:Act),HeadInv md p n c→
  (∀j r,p[j]? =some r→j≠i→c.getD j true=false→(∀e∈r.after,Region.binds md e=true→e.on≠i)→t.apart p r=true)→
  i∈Region.ready md p c→YieldsIn P p C t v a→
  NJ P md p C n L f (c.setIfInBounds i true) (a.put t.dst v)→NJ P md p C n L (f+1) c a:=by
 intro f;induction f with
 | zero=>
   intro c a y _ g x H;have w:=(mem_ready.1 g).1;refine ⟨fun h=>(by rw [h] at g;cases g),fun j l=>?_⟩;have u:j<n:=(Nat.lt_or_ge j n).resolve_right (fun q=>Mk K D y _ i rfl J F w j q l);refine ⟨u,?_⟩;by_cases d:j=i
   ·subst d;exact x.qOp z H
   ·have:=U _ _ H j (ready_mono l d);omega
 | succ f ih=>
   intro c a y E g x H;have w:=(mem_ready.1 g).1;refine ⟨fun h=>(by rw [h] at g;cases g),fun j l=>?_⟩;have u:j<n:=(Nat.lt_or_ge j n).resolve_right (fun q=>Mk K D y _ i rfl J F w j q l);refine ⟨u,?_⟩;by_cases d:j=i
   ·subst d;exact x.qOp z H
   ·have Q:=(H.2 j (ready_mono l d)).2;obtain ⟨I,r,A,S⟩:=mem_ready.1 l;have a0:∀e∈r.after,Region.binds md e=true→e.on≠i:=fun e V T W=>by have q:=S e V T;rw [W,getD_both w] at q;cases q
    have R:=qOp_put A (E j r A d I a0) (fun s b=>M i t s b z) (fun s b=>M j r s b A) x Q;refine qOp_mono (fun O B=>ih (c.setIfInBounds j true) O (y.set l u) (fun k ok X Y N Z=>?_) (ready_mono g (Ne.symm d)) B.1 ?_) R
    ·refine E k ok X Y ?_ Z;by_cases G:j=k
     ·subst G;exact I
     ·rw [getD_set_ne true G] at N;exact N
    ·rw [Array.setIfInBounds_comm _ _ d];exact B.2
theorem I8{m n g:Nat}{f:Act→Prop}(x:Region.noSelect p=true)(w:RH md p m n=true)(r:Region.chainB md p n=true):
 ∀(l:List Oper) (k:Nat) (b:Array Bool) (a:Act),(∀j,j<l.length→l[j]? =p[k+j]?)→m≤k→k+l.length=n→HeadInv md p n b→
 Region.lexHead md p g l.length k b=true→wpQuiet P p C f l a→
 NJ P md p C n (fun z q=>Region.seqB md p g n z=true∧f q) l.length b a
 | [],k,b,a,_,_,i,_,d,h=>by
   have e:k=n:=by simpa using i
   subst e;exact ⟨by simpa [Region.lexHead] using d,h⟩
 | o::l,k,b,a,t,F,i,y,d,h=>by
   have c:p[k]? =some o:=by simpa using (t 0 (by simp)).symm
   simp only [List.length_cons,Region.lexHead,Bool.and_eq_true] at d;obtain ⟨⟨G,E⟩,A⟩:=d;simp only [List.length_cons] at i;have s:k<n:=by omega
   have u:k∈Region.ready md p b:=by simpa using G
   have H:qOp P p C k (wpQuiet P p C f l) a:=by unfold qOp;simp only [c];exact h
   obtain ⟨v,I,B⟩:=yieldsIn_of_qOp c H;exact NK c (Region.noSelect_spec x) w r F s (fun z q D=>seqB_ready D.1) l.length b a y (Region.free_spec c E) u I
    (I8 x w r l (k+1) _ _ (fun j J=>by have:=t (j+1) (by simp;omega);simpa [Nat.add_assoc,Nat.add_comm 1 j] using this) (by omega) (by omega) (y.set u s) A B)
def MY(md:Region.Mode)(p:Array Oper)(n:Nat):Bool:=
 Region.noSelect p && decide (n<p.size) && decide (1≤n) && RH md p 1 n && Region.chainB md p n && Region.free md p (Array.replicate p.size false) 0 && (Region.ready md p (Array.replicate p.size false)).contains 0 && Region.lexHead md p (p.size-n) (n-1) 1 ((Array.replicate p.size false).setIfInBounds 0 true)
theorem LH{R}{Q:Exit→Act→World→Prop}{a w o l v}(n)(I:P.follows .mixedOrders=true)(f:MY .any (o::l).toArray n=true)
 (B:∀c a w,Q (.panic c) (a.put o.dst v) w→Q (.panic c) a w)(O:Yields P (o::l).toArray o v a)
 (h:wpQuiet P (o::l).toArray (fun b=>∃n,b=w.drewN n) (fun d=>∀b,(∃n,b=w.drewN n)→wpList P (o::l).toArray Q (l.drop (n-1)) d b) (l.take (n-1)) (a.put o.dst v)):(Code.region R (o::l).toArray true).wp P Q a w:=by
 simp only [MY,Bool.and_eq_true,decide_eq_true_eq] at f;obtain ⟨⟨⟨⟨⟨⟨⟨x,J⟩,V⟩,L⟩,D⟩,E⟩,u⟩,G⟩:=f;have W:n<l.length+1:=by simpa using J
 have e:(l.take (n-1)).length=n-1:=by simp;omega
 have M:(o::l).toArray.size=l.length+1:=by simp
 have q:(l.drop (n-1)).length=(o::l).toArray.size-n:=by simp;omega
 have z:(o::l).toArray[0]? =some o:=by simp
 have S:HeadInv .any (o::l).toArray n (Array.replicate (o::l).toArray.size false):=
  ⟨by simp,fun j X _ s=>(by rw [getD_replicate_false] at s;cases s),fun t _ N=>getD_in (by simpa using N) (getD_replicate_false _ _)⟩
 have K:0∈Region.ready .any (o::l).toArray (Array.replicate (o::l).toArray.size false):=by simpa using u
 have T:=S.set K (by omega);have H:=I8 (md:=.any) (m:=1) (g:=(o::l).toArray.size-n) x L D (l.take (n-1)) 1 _ (a.put o.dst v) (fun j r=>by
  have F:j<n-1:=by rw [e] at r;exact r
  simp [F,Nat.add_comm 1 j]) (Nat.le_refl _) (by omega) T (by rw [e];exact G) h
 refine wp_region_any I ?_;have y:=Fn (C:=fun b=>∃n,b=w.drewN n) (Q':=Q) (g:=(o::l).toArray.size-n) (fun U d b A i=>by
  have:=wpAny_of_seq (md:=.any) (Q':=Q) (l.drop (n-1)) n U d b (fun j=>by rw [List.getElem?_drop];obtain ⟨k,rfl⟩:∃k,n=k+1:=⟨n-1,by omega⟩;simp [Nat.add_right_comm k 1 j]) (by rw [q];exact i.1) (i.2 b A)
  rwa [q] at this) _ _ _ _ ⟨1,rfl⟩ H
 rw [e,show n-1+((o::l).toArray.size-n)=l.length by omega] at y;rw [M];exact wpAny_take z x E u B O y
end
section
variable {P : Program} {b : Array Oper} {C : World → Prop}
theorem Ew{S}{Q:Exit→Act→World→Prop}{a a1 w o l v}(n)(J:P.follows .mixedOrders=true)(p:MY .any (o::l).toArray n=true)
 (B:∀c a w,Q (.panic c) (a.put o.dst v) w→Q (.panic c) a w)(R:Yields P (o::l).toArray o v a)(f:C {w with drawn:=w.drawn+1})(D:a.put o.dst v=a1)
 (h:wpQuiet P (o::l).toArray C (fun e=>∀d,C d→wpList P (o::l).toArray Q (l.drop (n-1)) e d) (l.take (n-1)) a1):(Code.region S (o::l).toArray true).wp P Q a w:=by
 subst D;simp only [MY,Bool.and_eq_true,decide_eq_true_eq] at p;obtain ⟨⟨⟨⟨⟨⟨⟨y,K⟩,W⟩,M⟩,E⟩,F⟩,x⟩,I⟩:=p;have X:n<l.length+1:=by simpa using K
 have i:(l.take (n-1)).length=n-1:=by simp;omega
 have N:(o::l).toArray.size=l.length+1:=by simp
 have r:(l.drop (n-1)).length=(o::l).toArray.size-n:=by simp;omega
 have A:(o::l).toArray[0]? =some o:=by simp
 have T:HeadInv .any (o::l).toArray n (Array.replicate (o::l).toArray.size false):=
  ⟨by simp,fun j Y _ u=>(by rw [getD_replicate_false] at u;cases u),fun t _ O=>getD_in (by simpa using O) (getD_replicate_false _ _)⟩
 have L:0∈Region.ready .any (o::l).toArray (Array.replicate (o::l).toArray.size false):=by simpa using x
 have U:=T.set L (by omega);have H:=I8 (md:=.any) (m:=1) (g:=(o::l).toArray.size-n) y M E (l.take (n-1)) 1 _ (a.put o.dst v) (fun j s=>by
  have G:j<n-1:=by rw [i] at s;exact s
  simp [G,Nat.add_comm 1 j]) (Nat.le_refl _) (by omega) U (by rw [i];exact I) h
 refine wp_region_any J ?_;have z:=Fn (C:=C) (Q':=Q) (g:=(o::l).toArray.size-n) (fun V e d f q=>by
  have:=wpAny_of_seq (md:=.any) (Q':=Q) (l.drop (n-1)) n V e d (fun j=>by rw [List.getElem?_drop];obtain ⟨k,rfl⟩:∃k,n=k+1:=⟨n-1,by omega⟩;simp [Nat.add_right_comm k 1 j]) (by rw [r];exact q.1) (q.2 d f)
  rwa [r] at this) _ _ _ _ f H
 rw [i,show n-1+((o::l).toArray.size-n)=l.length by omega] at z;rw [N];exact wpAny_take A y F x B R z
theorem AM{Q:Act→Prop}{o d a}(c v)(j:Region.wanted o (yielded b a.tmps)=true)(i:∀w,C w→(execOp a.eval o).run P w=.ok (.value v) w)(g:a.put o.dst v=c)(h:wpQuiet P b C Q d c):wpQuiet P b C Q (o::d) a:=
 wpQuiet_step fun K f=>by rw [if_pos j];exact ⟨v,fun w e=>by unfold Oper.quietAt;rw [i w e];exact ⟨rfl,rfl⟩,by rw [g];exact f _ h⟩
theorem DK{Q:Act→Prop}{o g a}(c v){f args}(m:Region.wanted o (yielded b a.tmps)=true)(l:∀w,C w→(execOp a.eval o).run P w=.ok (.enter f args) w)(k:∀w,C w→Calls P f args w fun e n=>e=.returned v∧C n)(j:a.put o.dst v=c)(h:wpQuiet P b C Q g c):wpQuiet P b C Q (o::g) a:=
 wpQuiet_step fun K i=>by rw [if_pos m];exact ⟨v,fun w d=>by unfold Oper.quietAt;rw [l w d];exact ⟨rfl,k w d⟩,by rw [j];exact i _ h⟩
end
def BQ(m:Nat)(l:List ByteArray)(w:World):Prop:=∃n D,n≤l.length∧A7 m n D w∧∀s,D.atKey (Ba s) (.lit (.int .i64 0))=.lit (.int .i64 (vx l s:Nat))
theorem BQ.O{m l}{X:Nat→Prop}{w a}(h:BQ m l w)(e:Ab X w a)(f:¬X m):BQ m l a:=by obtain ⟨n,D,d,c,b⟩:=h;exact ⟨n,D,d,c.O e f,b⟩
theorem BQ.ne{m b l w}(h:BQ m l w){a t c}(e:w.heap[b]? =some (.cells a t c)):m≠b:=by obtain ⟨n,D,g,d,f⟩:=h;exact d.ne e
theorem BQ.lt{m l w}(h:BQ m l w):m<w.heap.size:=by obtain ⟨n,D,c,a,b⟩:=h;exact World.ownsMap.lt a
theorem BQ.none(w:World):BQ w.heap.size [] (w.alloc (.map #[] 0)):=
 ⟨0,.map [],Nat.le_refl _,World.ownsMap_made w _ _ _,fun s=>by simp [DataW.atKey,vx,CE]⟩
theorem BQ.look{m l w}(h:BQ m l w){s}(d:s.size≤4000):
 (Instr.lookup 123 (.map (some m)) (.string s) false).run Tryz.prog w=.ok (.int .i64 (vx l s:Nat)) w:=by
 obtain ⟨n,D,i,f,b⟩:=h;obtain ⟨c,g,a,_⟩:=World.ownsMap.lookup_int f KL Tryz.underlying123 Tryz.underlying3 (M8 w) (Ik d);rw [b s] at a;have e:((vx l s:Nat):Int)=c:=by simpa using a
 rw [e];exact g
theorem Jv(m:List ByteArray)(s:ByteArray):∀(l:List ByteArray),s∉l→∀k,CE (l++m) s k=CE m s (k+l.length)
 | [],_,k=>rfl
 | a::l,h,k=>by simp only [List.cons_append,CE,List.length_cons];rw [if_neg (fun q=>h (by rw [Dd q];simp)),Jv m s l (fun q=>h (List.mem_cons_of_mem _ q)) (k+1)];congr 1;omega
theorem WX{l s}(h:s∉l)(k):CE l s k= -1:=by obtain ⟨a,b,_⟩:=Db l s k;have:=mt a.1 h;omega
theorem XQ(l t s)(h:t∉l):vx (l++[t]) s=if s=t then l.length else vx l s:=by
 by_cases a:s∈l
 ·rw [M5 a,if_neg (by rintro rfl;exact h a)]
 ·unfold vx;rw [Jv [t] s l a];split
  ·rename_i e;subst e;simp [CE]
  ·rename_i e;have b:CE [t] s l.length= -1:=by simp only [CE];rw [if_neg (fun q=>e (Dd q.symm))]
   have c:CE l s 0= -1:=WX a 0;rw [Nat.zero_add,b,c]
theorem BQ.add{m l w}(h:BQ m l w){t}(b:t.size≤4000)(i:l.length≤4000)(o:t∉l):
 ∃a,(Instr.mapUpdate 123 (.map (some m)) (.string t) (.int .i64 l.length)).run Tryz.prog w=.ok () a∧BQ m (l++[t]) a∧Ab (fun k=>k=m) w a:=by
 obtain ⟨n,D,r,c,g⟩:=h;obtain ⟨a,j,d,f⟩:=Eg (p:=l.length) c b i (by omega);refine ⟨a,j,⟨n+1,_,by simp;omega,d,fun s=>?_⟩,f⟩;rw [XQ l t s o];split
 ·rename_i e;subst e;rw [Maps.atKey_put_same (World.ownsMap.isMap c) (KL.key (Ik b))]
 ·rename_i e;rw [Maps.atKey_put_other (fun q=>e (Ij q)),g s]
theorem JC{B m e a v n c l w b}(h:w.ownsRow B e a v n c)(g:Ab (fun k=>k=m) w b)(f:BQ m l w):b.ownsRow B e a v n c:=
 Av h g (fun _ _ _ d q=>f.ne q d.symm)
def aB(a d B:Nat)(w:World)(k:Nat):Prop:=k=a∨k=d∨(B≤k∧∃b t c,w.heap[k]? =some (.cells b t c)∧(t=9∨t=190))
def GB(bb vm B:Nat)(w a:World):Prop:=Ab (aB bb vm B w) w a
theorem GB.refl(a b B w):GB a b B w w:=Ab.refl _ _
theorem GB.trans{f g B:Nat}{a b c:World}(h:GB f g B a b)(k:GB f g B b c):GB f g B a c:=by
 refine ⟨k.os.trans h.os,k.tape.trans h.tape,k.output.trans h.output,Nat.le_trans h.size k.size,fun i j d=>?_⟩;have e:=h.block i j d;rw [k.block i (Nat.lt_of_lt_of_le j h.size) ?_,e];rintro (q | q | ⟨n,l,t,m,q,r⟩)
 ·exact d (.inl q)
 ·exact d (.inr (.inl q))
 ·rw [e] at q;exact d (.inr (.inr ⟨n,l,t,m,q,r⟩))
def aA(a d B:Nat)(w:World)(k:Nat):Prop:=k=a∨k=d∨(B≤k∧∃b c,w.heap[k]? =some (.cells b 9 c))
def IL(a b B:Nat)(w c:World):Prop:=Ab (aA a b B w) w c
theorem IL.trans{f g B:Nat}{a b c:World}(h:IL f g B a b)(k:IL f g B b c):IL f g B a c:=by
 refine ⟨k.os.trans h.os,k.tape.trans h.tape,k.output.trans h.output,Nat.le_trans h.size k.size,fun i j d=>?_⟩;have e:=h.block i j d;rw [k.block i (Nat.lt_of_lt_of_le j h.size) ?_,e];rintro (q | q | ⟨n,l,m,q⟩)
 ·exact d (.inl q)
 ·exact d (.inr (.inl q))
 ·rw [e] at q;exact d (.inr (.inr ⟨n,l,m,q⟩))
theorem IL.bC{bb vm B a b}(h:Ab (fun _=>False) a b):IL bb vm B a b:=h.mono (fun _ _ q=>q.elim)
theorem IL.more{c d B a b}(h:IL c d B a b):GB c d B a b:=h.mono (fun _ _ q=>by
 rcases q with q | q | ⟨q,e,f,r⟩
 ·exact .inl q
 ·exact .inr (.inl q)
 ·exact .inr (.inr ⟨q,e,_,f,r,.inl rfl⟩))
theorem GB.bC{bb vm B a b}(h:Ab (fun _=>False) a b):GB bb vm B a b:=h.mono (fun _ _ q=>q.elim)
def Lr(a e:Nat)(c d:Value)(b:Bd):Array Value:=#[.map (some a),.map (some e),c,d,.int .i64 b.pl,.int .i64 b.ca]
structure BO(bb fm vm B:Nat)(fn:List ByteArray)(b:Bd)(nv sv:Value)(w:World):Prop where
 s9:Ak bb (Lr fm vm nv sv b) 126 w
 fns:BQ fm fn w
 l8:BQ vm b.d9 w
 d9:Au B w nv b.d9
 b9:AN B w sv b.b9
 ne:fm≠vm
def Ke(a c g B:Nat)(d:List ByteArray)(b:Bd)(w:World):Prop:=∃e f,BO a c g B d b e f w
theorem AN.i9{B w b a l}(h:AN B w a l)(c:Ab (fun _=>False) w b):AN B b a l:=h.O c (fun _ _ _ _ q=>q.elim)
theorem BO.i9{c d i B e b f g w j}(h:BO c d i B e b f g w)(a:Ab (fun _=>False) w j):BO c d i B e b f g j:=
 ⟨h.s9.O a (fun q=>q),h.fns.O a (fun q=>q),h.l8.O a (fun q=>q),Ac h.d9 a (fun _ _ q=>q),h.b9.i9 a,h.ne⟩
theorem Ke.i9{a c e B d b w f}(h:Ke a c e B d b w)(g:Ab (fun _=>False) w f):Ke a c e B d b f:=by obtain ⟨i,j,h⟩:=h;exact ⟨i,j,h.i9 g⟩
theorem BO.cP{d i e B f j b p s w}(h:BO d i e B j b p s w){k g t l}(c:w.heap[k]? =some (.cells g t l))(m:t≠126)(n:t≠9)(o:t≠190):¬aB d e f w k:=by
 rintro (q | q | ⟨_,u,x,v,q,r⟩)
 ·subst q;have a:=h.s9;unfold Ak at a;rw [c] at a;simp only [Option.some.injEq,Obj.cells.injEq] at a;exact m a.2.1
 ·exact h.l8.ne c q.symm
 ·rw [c] at q;simp only [Option.some.injEq,Obj.cells.injEq] at q;rw [←q.2.1] at r;exact r.elim n o
theorem BO.cO{d i e B f j b o p w}(h:BO d i e B j b o p w){k g t l}(c:w.heap[k]? =some (.cells g t l))(m:t≠126)(n:t≠9):¬aA d e f w k:=by
 rintro (q | q | ⟨_,r,s,q⟩)
 ·subst q;have a:=h.s9;unfold Ak at a;rw [c] at a;simp only [Option.some.injEq,Obj.cells.injEq] at a;exact m a.2.1
 ·exact h.l8.ne c q.symm
 ·rw [c] at q;simp only [Option.some.injEq,Obj.cells.injEq] at q;exact n q.2.1
theorem IL.s9{a g e B k i b c t w f}(m:IL a e B w f)(h:Ke a g e B i b w)(d:Ak k c t w)(j:t≠126)(l:t≠9):Ak k c t f:=by obtain ⟨n,o,h⟩:=h;exact d.O m (h.cO d j l)
theorem IL.row{c j f B a l b e d v n i w g}(p:IL c f B w g)(h:Ke c j f B l b w)(s:w.ownsRow a e d v n i)(m:e≠126)(o:e≠9):g.ownsRow a e d v n i:=by obtain ⟨x,y,h⟩:=h;exact Av s p (fun k t u q r=>h.cO r m o q)
theorem GB.row{c j f B a l b e d v n i w g}(r:GB c f B w g)(h:Ke c j f B l b w)(t:w.ownsRow a e d v n i)(m:e≠126)(o:e≠9)(p:e≠190):g.ownsRow a e d v n i:=by obtain ⟨y,z,h⟩:=h;exact Av t r (fun k u x q s=>h.cP s m o p q)
theorem GB.s9{a g e B k i b c t w f}(n:GB a e B w f)(h:Ke a g e B i b w)(d:Ak k c t w)(j:t≠126)(l:t≠9)(m:t≠190):Ak k c t f:=by obtain ⟨o,p,h⟩:=h;exact d.O n (h.cP d j l m)
theorem AN.bF{B w j g l}{X:Nat→Prop}(h:AN B w g l)(d:Ab X w j)(f:∀k a t b,X k→w.heap[k]? =some (.cells a t b)→t≠3∧t≠190):AN B j g l:=by obtain ⟨a,s,p,r⟩:=h;refine ⟨a,Av s d (fun k a b c q=>(f k a _ b c q).2 rfl),p,fun i h n=>?_⟩;obtain ⟨m,e,o⟩:=r i h n;exact ⟨m,e,Av o d (fun k a b c q=>(f k a _ b c q).1 rfl)⟩
theorem Iz{B m e c v n d l w}(h:w.ownsRow B e c v n d)(b:BQ m l w):v.ownBlock≠some m:=fun q=>by obtain ⟨_,f,g,a⟩:=Fe h q;exact b.ne a rfl
theorem DA{b a t w}(h:Ak b a t w){c u d}(e:w.heap[b]? =some (.cells c u d)):u=t:=by unfold Ak at h;rw [e] at h;simp only [Option.some.injEq,Obj.cells.injEq] at h;exact h.2.1
theorem BO.named{a g d B u b e f v' t w V W c}(h:BO a g d B u b e f w)(l:Ab (fun k=>k=d) w V)(x:BQ d (b.d9++[t]) V)(H:Ab (fun _=>False) V W)(I:W.grownBy c e.ownBlock)(D:c.ownsRow B 9 1 v' (b.d9.length+1) (b.d9.map Value.string++[.string t])):
 BO a g d B u {b with d9:=b.d9++[t]} v' f (c.setCell ⟨a,2,none⟩ v')∧IL a d B w (c.setCell ⟨a,2,none⟩ v'):=by
 have M:=h.l8.ne h.s9;have y:Ak a (Lr g d e f b) 126 V:=h.s9.O l (fun q=>M q.symm);have A:BQ g u V:=h.fns.O l h.ne;have o:Au B V e b.d9:=JC h.d9 l h.l8;have L:AN B V f b.b9:=h.b9.bF l (fun k r t s n q=>absurd n.symm (h.l8.ne q));have i:Ab (fun k=>e.ownBlock=some k) V c:=Ab.grown (H.mono (fun _ _ q=>q.elim)) I (fun j J=>.inl J);have m:Ak a (Lr g d e f b) 126 c:=y.O i (fun q=>Aj o y (by decide) a q rfl);have p:Ab (fun k=>k=a) c (c.setCell ⟨a,2,none⟩ v'):=(Ab.refl _ _).d8 2 _;have z:=A.O i (Iz o A);have C:=x.O i (Iz o x);have K:AN B c f b.b9:=L.bF i (fun k r t s n q=>by obtain ⟨_,N,O,v⟩:=Fe o n;rw [v] at q;simp only [Option.some.injEq,Obj.cells.injEq] at q;rw [←q.2.1];decide)
 refine ⟨⟨m.set 2 _,z.O p (z.ne m),C.O p (C.ne m),?_,K.bF p (fun k r t s n q=>by subst n;rw [DA m q];decide),h.ne⟩,?_⟩
 ·show (c.setCell ⟨a,2,none⟩ v').ownsRow B _ 1 v' (b.d9++[t]).length ((b.d9++[t]).map Value.string);rw [List.map_append,List.length_append];exact Ac D p (Aj D m (by decide))
 ·have E:IL a d B w V:=l.mono (fun _ _ q=>.inr (.inl q));have F:IL a d B V c:=i.mono (fun k _ q=>by obtain ⟨G,r,s,v⟩:=Fe o q;exact .inr (.inr ⟨G,r,s,v⟩))
  exact (E.trans F).trans (p.mono (fun _ _ q=>.inl q))
theorem LL(a m f B u b t nv r w)(c:BO a m f B u b nv r w)(hB:B≤w.heap.size)(hl:t.a9.size≤4000)(hn:b.d9.length≤4000)(ht:t.a9∉b.d9):
 Calls Tryz.prog 91 #[.pointer (some ⟨a,0,none⟩),Je t] w fun e C=>e=.returned (.tuple #[])∧(∃A,BO a m f B u {b with d9:=b.d9++[t.a9]} A r C)∧IL a f B w C:=by
 obtain ⟨i0,a0,a6,a7,a8⟩:=info_parts Tryz.infoStr;have Q:=c.s9.cell 1;have R:=c.s9.cell 2;have ff:=fun i=>AE c.s9 i
 have lb:=Ae c.s9;simp only [Lr,dM,dJ,dK] at Q R;obtain ⟨o,nl,p,rfl⟩:=Ad c.d9;have a2:=Aq c.d9;subst a2;unfold Je;have lv:=c.l8.lt;have a3:=c.l8.ne c.s9;have d:=Aa (c.i9 ((Ab.refl (fun _=>False) w).alloc (.cells #[.string t.a9,.int .i64 t.c9] 128)));have E:=Aa (Ak.new w #[.string t.a9,.int .i64 t.c9] 128);have F:=Aa ((Ab.refl (fun _=>False) w).alloc (.cells #[.string t.a9,.int .i64 t.c9] 128));clear c;go_enter Tryz.func91,Tryz.ntmps91;go_wp2_with fail;generalize w.alloc _=l at*;have N:=d.o.s9.cell 1;have O:=d.o.s9.cell 2;have M:=E.o.cell 0;have kf:=fun i=>AE d.o.s9 i
 simp only [Lr,dM,dJ,dK] at N O M;clear Q R ff;refine LH (v:=.pointer (some ⟨a,0,none⟩)) 11 (by kernel_rfl) (by kernel_rfl) (fun _ _ _ h=>h) (Or.inl ⟨by rfl,fun w=>by go_simp⟩) ?_;simp only [List.take_succ_cons,List.take_zero,List.drop_succ_cons,List.drop_zero];repeat (quiet_step (fail))
 refine wpQuiet_nil ?_;intro C a4;obtain ⟨nq,a5⟩:=a4;subst a5;obtain ⟨V,a9,H,I⟩:=BQ.add (w:=l.drewN nq) (d.o.l8.O ((Ab.refl (fun _=>False) l).drewN nq) (fun q=>q)) hl hn ht;have g:Ab (fun k=>k=f) l V:=((Ab.refl _ l).drewN nq).trans I;have j:dN (Ak a (Lr m f (.slice o b.d9.length p) r b) 126 V):=d.o.s9.O g (fun q=>a3 q.symm);have NV:dN (Ak w.heap.size #[.string t.a9,.int .i64 t.c9] 128 V):=E.o.O g (by omega);have S:=j.o.cell 2;have vf:=fun i=>AE j.o i
 have n0:=NV.o.cell 0;have P:=Ae j.o;simp only [Lr,dM,dJ,dK] at S n0;have G:dN (Au B V (.slice o b.d9.length p) b.d9):=JC d.o.d9 g d.o.l8;have D:=Aa g;have X:=Aa H;clear N O M kf H I g;have K:=Aa (Aj G.o j.o (by decide));go_wp2_with fail;go_region_law (refine AT rfl _ _ 28 rfl B 9 i0 (.string ⟨#[]⟩) 1 16 Tryz.underlying28 a0 a6 a7 a8 rfl (by decide) _ _ _ rfl (G.o.alloc _) ⟨V.heap.size,0,none⟩ 1 1 [.string t.a9] rfl rfl (A5 rfl _ _) (fun x L=>by simp at L;subst L;rfl) (by decide) (by unfold maxLen;omega) (by omega) (by have:=D.o.size;have:=F.o.size;simp;omega) ?_;intro v' s z n a1;have q1:s.cell? ⟨a,2,none⟩=some (.slice o b.d9.length p):=(World.cell?_of_block (n.block a (by simp;omega) (fun h=>K.o a h.symm rfl))).trans (by rw [←S];exact World.cell?_of_block (Below.heap_alloc _ _ _ P));have q2:s.frozen? ⟨a,2,none⟩=false:=(World.frozen?_of_block (n.block a (by simp;omega) (fun h=>K.o a h.symm rfl))).trans (by rw [←vf 2];exact World.frozen?_of_block (Below.heap_alloc _ _ _ P));obtain ⟨T,W,U,rfl⟩:=Ad z);all_goals
  have J:(V.alloc (.cells #[.string t.a9] 9)).drew.grownBy s (Value.ownBlock (.slice o b.d9.length p)):=n;have y:=d.o.named (t:=t.a9) (v':=.slice T W U) D.o X.o (((Ab.refl _ V).alloc _).drew) J z;have Y:dN (∃A,BO a m f B u {b with d9:=b.d9++[t.a9]} A r (s.setCell ⟨a,2,none⟩ (.slice T W U))):=⟨_,y.1⟩;have Z:=Aa ((IL.bC F.o).trans y.2);clear y z n J a1 q1 q2;go_wp2_with fail;go_end0;exact ⟨rfl,Y.o,Z.o⟩
theorem CX{P e b}{Q:Exit→Act→World→Prop}{S:World→Prop}{i f v g d a a' w}(n:b[i]? =some f)
 (p:Region.noSelect b=true)(m:Region.free e b d i=true)(o:(Region.ready e b d).contains i=true)
 (j:∀c a w,Q (.panic c) (a.put f.dst v) w→Q (.panic c) a w)(q:YieldsIf P b S f v a)(k:S w)(l:a.put f.dst v=a')
 (h:wpAnyH P e b Q S g (d.setIfInBounds i true) a' w):wpAnyH P e b Q S (g+1) d a w:=
 wpAnyH_take n p m o j q k (l▸h)
theorem Be{P:Program}{e:Region.Mode}{b:Array Oper}{Q:Exit→Act→World→Prop}{S:World→Prop}{i:Nat}{f:Oper}{v:Value}{g:Nat}{d:Array Bool}{a:Act}{w:World}{j k B M x4 x5 x6 x7 x8 x9 l q r s t u x y z A C D E F G H I J K L N O R T U V W X Y Z a0 a1 a2 a3 a4 a5 a6 a7 a8 a9 b0 b1 b2 b3 b4 b5 b6 b7 b8 b9 c0 c1 c2 c3 c4 c5 c6 c7 c8 c9 d0 d1 d2 d3 d4 d5 d6 d7 d8 d9 e0 e1 e2 e3 e4 e5 e6 e7 e8 e9 f0 f1 f2 f3 f4 f5 f6 f7 f8 f9 m n o p:Value}(hi:b[i]? =some f)(hs:Region.noSelect b=true)(hf:Region.free e b d i=true)(hr:(Region.ready e b d).contains i=true)(hQ:∀c a w,Q (.panic c) (a.put f.dst v) w→Q (.panic c) a w)(hy:YieldsIf P b S f v a)(hS:S w)(ha:a.put f.dst v={tmps:=#[j,k,B,M,x4,x5,x6,x7,x8,x9,l,q,r,s,t,u,x,y,z,A,C,D,E,F,G,H,I,J,K,L,N,O,R,T,U,V,W,X,Y,Z,a0,a1,a2,a3,a4,a5,a6,a7,a8,a9,b0,b1,b2,b3,b4,b5,b6,b7,b8,b9,c0,c1,c2,c3,c4,c5,c6,c7,c8,c9,d0,d1,d2,d3,d4,d5,d6,d7,d8,d9,e0,e1,e2,e3,e4,e5,e6,e7,e8,e9,f0,f1,f2,f3,f4,f5,f6,f7,f8,f9,m,n,o,p],defers:=[]})(h:wpAnyH P e b Q S g (d.setIfInBounds i true) {tmps:=#[j,k,B,M,x4,x5,x6,x7,x8,x9,l,q,r,s,t,u,x,y,z,A,C,D,E,F,G,H,I,J,K,L,N,O,R,T,U,V,W,X,Y,Z,a0,a1,a2,a3,a4,a5,a6,a7,a8,a9,b0,b1,b2,b3,b4,b5,b6,b7,b8,b9,c0,c1,c2,c3,c4,c5,c6,c7,c8,c9,d0,d1,d2,d3,d4,d5,d6,d7,d8,d9,e0,e1,e2,e3,e4,e5,e6,e7,e8,e9,f0,f1,f2,f3,f4,f5,f6,f7,f8,f9,m,n,o,p],defers:=[]} w):wpAnyH P e b Q S (g+1) d a w:=CX hi hs hf hr hQ hy hS ha h
theorem LR{P}{a:Operand→Value}{o t x b m k v w}(d:o.op=.lookup t x b false)(e:a x=m)(c:a b=k)(h:(Instr.lookup t m k false).run P w=.ok v w):(execOp a o).run P w=.ok (.value v) w:=by unfold execOp;rw [d];simp only [e,c];go_simp
theorem VA(R:Act→World→Prop)(f r c t s u x z y e){D I X x5 x6 x7 x8 x9 f8 f9 g0 g1 g2 g3 g4 g5 g6 g7 g8 g9 h0 h1 h2 h3 h4 h5 h6 J L M N O P Q T U V W Y Z a0 a1 a2 a3 a4 a5 a6 a7 a8 a9 b0 b1 b2 b3 b4 b5 b6 b7 b8 b9 c0 c1 c2 c3 c4 c5 c6 c7 c8 c9 d0 d1 d2 d3 d4 d5 d6 d7 d8 d9 e0 e1 e2 e3 e4 e5 e6 e7 e8 e9 f0 f1 f2 f3 f4 f5 f6 f7 E F G H}
 (B:∀d,Ab (fun _=>False) e d→d.cell? ⟨f,1,none⟩=some (.map (some r))∧d.cell? ⟨c,0,none⟩=some (.int .i64 t)∧d.cell? ⟨c,1,none⟩=some (.string z)∧d.cell? ⟨c,3,none⟩=some (.string y)∧d.cell? ⟨c,5,none⟩=some (.int .i64 s)∧(Instr.lookup 123 (.map (some r)) (.string z) false).run Tryz.prog d=.ok (.int .i64 u) d∧(Instr.lookup 123 (.map (some r)) (.string y) false).run Tryz.prog d=.ok (.int .i64 x) d)
 (C:∀(A:World) (y8 y9 h7 h8 h9 i0 i1 i2 i3 i4 i5 i6 i7 i8 i9 j0 j1 j2 j3 j4 j5:Value),Ak e.heap.size #[.int .i64 t,.int .i64 u,.int .i64 x,.int .i64 s,.int .i64 0,.slice none 0 0,.int .i64 0,.int .i64 0] 190 A→Ab (fun _=>False) e A→R {tmps:=#[.pointer (some ⟨f,0,none⟩),D,I,.pointer (some ⟨c,0,none⟩),X,.pointer (some ⟨e.heap.size,0,none⟩),x6,x7,y8,y9,h7,h8,h9,i0,i1,i2,i3,i4,i5,i6,i7,i8,i9,j0,j1,j2,j3,j4,j5,J,L,M,N,O,P,Q,T,U,V,W,Y,Z,a0,a1,a2,a3,a4,a5,a6,a7,a8,a9,b0,b1,b2,b3,b4,b5,b6,b7,b8,b9,c0,c1,c2,c3,c4,c5,c6,c7,c8,c9,d0,d1,d2,d3,d4,d5,d6,d7,d8,d9,e0,e1,e2,e3,e4,e5,e6,e7,e8,e9,f0,f1,f2,f3,f4,f5,f6,f7,E,F,G,H],defers:=[]} A):
 Code.wp Tryz.prog (.region 1 #[⟨some 8,.fieldAddr 237 (.tmp 3) 0,0, "build.go:83",#[],none⟩,⟨some 9,.load 188 (.tmp 8),188, "build.go:83",#[⟨0,.data⟩],none⟩,⟨some 10,.move (.tmp 0),202, "build.go:83",#[],none⟩,⟨some 11,.nilCheck (.tmp 10),0, "build.go:83",#[⟨2,.data⟩],none⟩,⟨some 12,.fieldAddr 126 (.tmp 11) 1,0, "build.go:83",#[⟨3,.data⟩],none⟩,⟨some 13,.load 123 (.tmp 12),123, "build.go:83",#[⟨4,.data⟩],none⟩,⟨some 14,.fieldAddr 237 (.tmp 3) 1,0, "build.go:83",#[],none⟩,⟨some 15,.fieldAddr 128 (.tmp 14) 0,0, "build.go:83",#[⟨6,.data⟩],none⟩,⟨some 16,.load 9 (.tmp 15),9, "build.go:83",#[⟨7,.data⟩],none⟩,⟨some 17,.lookup 123 (.tmp 13) (.tmp 16) false,3, "build.go:83",#[⟨5,.data⟩,⟨8,.data⟩],none⟩,⟨some 18,.move (.tmp 0),202, "build.go:83",#[],none⟩,⟨some 19,.nilCheck (.tmp 18),0, "build.go:83",#[⟨10,.data⟩],none⟩,⟨some 20,.fieldAddr 126 (.tmp 19) 1,0, "build.go:83",#[⟨11,.data⟩],none⟩,⟨some 21,.load 123 (.tmp 20),123, "build.go:83",#[⟨12,.data⟩],none⟩,⟨some 22,.fieldAddr 237 (.tmp 3) 2,0, "build.go:83",#[],none⟩,⟨some 23,.fieldAddr 128 (.tmp 22) 0,0, "build.go:83",#[⟨14,.data⟩],none⟩,⟨some 24,.load 9 (.tmp 23),9, "build.go:83",#[⟨15,.data⟩],none⟩,⟨some 25,.lookup 123 (.tmp 21) (.tmp 24) false,3, "build.go:83",#[⟨13,.data⟩,⟨16,.data⟩],none⟩,⟨some 26,.fieldAddr 237 (.tmp 3) 3,0, "build.go:83",#[],none⟩,⟨some 27,.load 3 (.tmp 26),3, "build.go:83",#[⟨18,.data⟩],none⟩,⟨some 28,.build 190 #[(0,.tmp 9),(1,.tmp 17),(2,.tmp 25),(3,.tmp 27)],190, "build.go:83",#[⟨1,.data⟩,⟨9,.data⟩,⟨17,.data⟩,⟨19,.data⟩],none⟩,⟨some 5,.alloc 190,0, "build.go:83",#[],none⟩,⟨none,.store 190 (.tmp 5) (.tmp 28),0, "build.go:83",#[⟨21,.data⟩,⟨20,.data⟩,⟨0,.phase⟩,⟨1,.phase⟩,⟨2,.phase⟩,⟨3,.phase⟩,⟨4,.phase⟩,⟨5,.phase⟩,⟨6,.phase⟩,⟨7,.phase⟩,⟨8,.phase⟩,⟨9,.phase⟩,⟨10,.phase⟩,⟨11,.phase⟩,⟨12,.phase⟩,⟨13,.phase⟩,⟨14,.phase⟩,⟨15,.phase⟩,⟨16,.phase⟩,⟨17,.phase⟩,⟨18,.phase⟩,⟨19,.phase⟩,⟨20,.phase⟩,⟨21,.phase⟩],none⟩] true) (LD R) {tmps:=#[.pointer (some ⟨f,0,none⟩),D,I,.pointer (some ⟨c,0,none⟩),X,x5,x6,x7,x8,x9,f8,f9,g0,g1,g2,g3,g4,g5,g6,g7,g8,g9,h0,h1,h2,h3,h4,h5,h6,J,L,M,N,O,P,Q,T,U,V,W,Y,Z,a0,a1,a2,a3,a4,a5,a6,a7,a8,a9,b0,b1,b2,b3,b4,b5,b6,b7,b8,b9,c0,c1,c2,c3,c4,c5,c6,c7,c8,c9,d0,d1,d2,d3,d4,d5,d6,d7,d8,d9,e0,e1,e2,e3,e4,e5,e6,e7,e8,e9,f0,f1,f2,f3,f4,f5,f6,f7,E,F,G,H],defers:=[]} e:=by
 have g:=Aa B;have HQ:=Aa C;clear B C;refine wp_region_held_drew (S:=fun d=>Ab (fun _=>False) e d) (by kernel_rfl) ((Ab.refl _ e).drew) (fun b=>?_);refine Be (i:=0) (v:=.pointer (some ⟨c,0,none⟩)) rfl (by kernel_rfl) (by kernel_rfl) (by kernel_rfl) (fun _ _ _ h=>h) (Or.inl ⟨by rfl,fun w a=>by go_simp⟩) b rfl ?_;refine Be (i:=1) (v:=.int .i64 t) rfl (by kernel_rfl) (by kernel_rfl) (by kernel_rfl) (fun _ _ _ h=>h) (Or.inl ⟨by rfl,fun w a=>by obtain ⟨l,m,n,o,p,j,k⟩:=g.o _ a;go_simp⟩) b rfl ?_;refine Be (i:=2) (v:=.pointer (some ⟨f,0,none⟩)) rfl (by kernel_rfl) (by kernel_rfl) (by kernel_rfl) (fun _ _ _ h=>h) (Or.inl ⟨by rfl,fun w a=>by go_simp⟩) b rfl ?_;refine Be (i:=3) (v:=.pointer (some ⟨f,0,none⟩)) rfl (by kernel_rfl) (by kernel_rfl) (by kernel_rfl) (fun _ _ _ h=>h) (Or.inl ⟨by rfl,fun w a=>by go_simp⟩) b rfl ?_;refine Be (i:=4) (v:=.pointer (some ⟨f,1,none⟩)) rfl (by kernel_rfl) (by kernel_rfl) (by kernel_rfl) (fun _ _ _ h=>h) (Or.inl ⟨by rfl,fun w a=>by go_simp⟩) b rfl ?_;refine Be (i:=5) (v:=.map (some r)) rfl (by kernel_rfl) (by kernel_rfl) (by kernel_rfl) (fun _ _ _ h=>h) (Or.inl ⟨by rfl,fun w a=>by obtain ⟨l,m,n,o,p,j,k⟩:=g.o _ a;go_simp⟩) b rfl ?_;refine Be (i:=6) (v:=.pointer (some ⟨c,1,none⟩)) rfl (by kernel_rfl) (by kernel_rfl) (by kernel_rfl) (fun _ _ _ h=>h) (Or.inl ⟨by rfl,fun w a=>by go_simp⟩) b rfl ?_;refine Be (i:=7) (v:=.pointer (some ⟨c,1,none⟩)) rfl (by kernel_rfl) (by kernel_rfl) (by kernel_rfl) (fun _ _ _ h=>h) (Or.inl ⟨by rfl,fun w a=>by go_simp⟩) b rfl ?_;refine Be (i:=8) (v:=.string z) rfl (by kernel_rfl) (by kernel_rfl) (by kernel_rfl) (fun _ _ _ h=>h) (Or.inl ⟨by rfl,fun w a=>by obtain ⟨l,m,n,o,p,j,k⟩:=g.o _ a;go_simp⟩) b rfl ?_;refine Be (i:=9) (v:=.int .i64 u) rfl (by kernel_rfl) (by kernel_rfl) (by kernel_rfl) (fun _ _ _ h=>h) (Or.inl ⟨by rfl,fun w a=>by obtain ⟨l,m,n,o,p,j,k⟩:=g.o _ a;exact LR (by rfl) (by rfl) (by rfl) j⟩) b rfl ?_;refine Be (i:=10) (v:=.pointer (some ⟨f,0,none⟩)) rfl (by kernel_rfl) (by kernel_rfl) (by kernel_rfl) (fun _ _ _ h=>h) (Or.inl ⟨by rfl,fun w a=>by go_simp⟩) b rfl ?_;refine Be (i:=11) (v:=.pointer (some ⟨f,0,none⟩)) rfl (by kernel_rfl) (by kernel_rfl) (by kernel_rfl) (fun _ _ _ h=>h) (Or.inl ⟨by rfl,fun w a=>by go_simp⟩) b rfl ?_;refine Be (i:=12) (v:=.pointer (some ⟨f,1,none⟩)) rfl (by kernel_rfl) (by kernel_rfl) (by kernel_rfl) (fun _ _ _ h=>h) (Or.inl ⟨by rfl,fun w a=>by go_simp⟩) b rfl ?_;refine Be (i:=13) (v:=.map (some r)) rfl (by kernel_rfl) (by kernel_rfl) (by kernel_rfl) (fun _ _ _ h=>h) (Or.inl ⟨by rfl,fun w a=>by obtain ⟨l,m,n,o,p,j,k⟩:=g.o _ a;go_simp⟩) b rfl ?_;refine Be (i:=14) (v:=.pointer (some ⟨c,3,none⟩)) rfl (by kernel_rfl) (by kernel_rfl) (by kernel_rfl) (fun _ _ _ h=>h) (Or.inl ⟨by rfl,fun w a=>by go_simp⟩) b rfl ?_;refine Be (i:=15) (v:=.pointer (some ⟨c,3,none⟩)) rfl (by kernel_rfl) (by kernel_rfl) (by kernel_rfl) (fun _ _ _ h=>h) (Or.inl ⟨by rfl,fun w a=>by go_simp⟩) b rfl ?_;refine Be (i:=16) (v:=.string y) rfl (by kernel_rfl) (by kernel_rfl) (by kernel_rfl) (fun _ _ _ h=>h) (Or.inl ⟨by rfl,fun w a=>by obtain ⟨l,m,n,o,p,j,k⟩:=g.o _ a;go_simp⟩) b rfl ?_;refine Be (i:=17) (v:=.int .i64 x) rfl (by kernel_rfl) (by kernel_rfl) (by kernel_rfl) (fun _ _ _ h=>h) (Or.inl ⟨by rfl,fun w a=>by obtain ⟨l,m,n,o,p,j,k⟩:=g.o _ a;exact LR (by rfl) (by rfl) (by rfl) k⟩) b rfl ?_;refine Be (i:=18) (v:=.pointer (some ⟨c,5,none⟩)) rfl (by kernel_rfl) (by kernel_rfl) (by kernel_rfl) (fun _ _ _ h=>h) (Or.inl ⟨by rfl,fun w a=>by go_simp⟩) b rfl ?_;refine Be (i:=19) (v:=.int .i64 s) rfl (by kernel_rfl) (by kernel_rfl) (by kernel_rfl) (fun _ _ _ h=>h) (Or.inl ⟨by rfl,fun w a=>by obtain ⟨l,m,n,o,p,j,k⟩:=g.o _ a;go_simp⟩) b rfl ?_;refine Be (i:=20) (v:=.agg #[.int .i64 t,.int .i64 u,.int .i64 x,.int .i64 s,.int .i64 0,.slice none 0 0,.int .i64 0,.int .i64 0]) rfl (by kernel_rfl) (by kernel_rfl) (by kernel_rfl) (fun _ _ _ h=>h) (Or.inl ⟨by rfl,fun w a=>by go_simp⟩) b rfl ?_;refine wpAnyH_ready (rs:=[21]) (by kernel_rfl) (by simp) ?_;refine AllReadyH.cons rfl (fun K q=>?_) AllReadyH.nil;go_simp;refine q.out _ _ (b.alloc _) (fun b=>?_);clear q K;refine wpAnyH_ready (rs:=[22]) (by kernel_rfl) (by simp) ?_;refine AllReadyH.cons rfl (fun K q=>?_) AllReadyH.nil;go_simp;refine q.out _ _ (((Ab.refl _ e).alloc _).drew) (fun b=>?_);clear q K;refine wpAnyH_done (by kernel_rfl) ?_ _;exact HQ.o _ _ _ _ _ _ _ _ _ _ _ _ _ _ _ _ _ _ _ _ _ _ (Ak.new e _ _) (((Ab.refl _ e).alloc _).drew)
theorem VE(R:Act→World→Prop)(i K a s f:Nat)(n:Nat)(v w y z A B C:Value)(J:ByteArray)(l:List Nat)(c:Option Addr)(d:Nat)(W:World){L x2 x3 x4 x6 x8 x9 M S T U V X Y Z a0 a1 a2 a3 a4 a5 a6 a7 a8 a9 b0 b1 b2 b3 b4 b6 b7 b8 i9 j0 j1 j2 j3 j4 j5 j6 j7 j8 j9 k0 b9 c5 c8 c9 d0 d1 d2 d3 d4 d5 d6 d7 d8 d9 e0 e1 e2 e3 e4 e5 e6 e7 e8 e9 f0 f1 f2 f3 f4 f6 f7 f8 f9 g0 g1 g2 g3 g4 g6 g7 g8 g9 h0 h2 h3 h4 h5 h6 h7 h8 h9 i1 N O P Q:Value}
 (h1:W.cell? ⟨i,1,none⟩=some (.map (some K)))(hn:W.cell? ⟨s,0,none⟩=some (.string J))(hL:(Instr.lookup 123 (.map (some K)) (.string J) false).run Tryz.prog W.drew=.ok (.int .i64 n) W.drew)
 (b:Ak a #[v,w,y,z,A,.slice c l.length d,B,C] 190 W)(r:AD f W (.slice c l.length d) l)(hB:f≤W.heap.size)(hl:l.length≤4000)
 (E:∀(t:Value) (g:World) (k1 k2 k3 k4 k5 k6 k7 k8 k9 l0 l1 l2:Value),Ak a #[v,w,y,z,A,t,B,C] 190 g→AD f g t (l++[n])→Ab (fun k=>k=a∨(Value.slice c l.length d).ownBlock=some k) W g→R {tmps:=#[.pointer (some ⟨i,0,none⟩),L,x2,x3,x4,.pointer (some ⟨a,0,none⟩),x6,.pointer (some ⟨s,0,none⟩),x8,x9,M,S,T,U,V,X,Y,Z,a0,a1,a2,a3,a4,a5,a6,a7,a8,a9,b0,b1,b2,b3,b4,b6,b7,b8,k1,k2,k3,k4,k5,k6,k7,k8,k9,l0,l1,l2,b9,c5,c8,c9,d0,d1,d2,d3,d4,d5,d6,d7,d8,d9,e0,e1,e2,e3,e4,e5,e6,e7,e8,e9,f0,f1,f2,f3,f4,f6,f7,f8,f9,g0,g1,g2,g3,g4,g6,g7,g8,g9,h0,h2,h3,h4,h5,h6,h7,h8,h9,i1,N,O,P,Q],defers:=[]} g):
 Code.wp Tryz.prog (.region 5 #[⟨some 36,.fieldAddr 190 (.tmp 5) 5,0, "build.go:90",#[],none⟩,⟨some 37,.load 37 (.tmp 36),37, "build.go:90",#[⟨0,.data⟩],none⟩,⟨some 38,.move (.tmp 0),202, "build.go:90",#[],none⟩,⟨some 39,.nilCheck (.tmp 38),0, "build.go:90",#[⟨2,.data⟩],none⟩,⟨some 40,.fieldAddr 126 (.tmp 39) 1,0, "build.go:90",#[⟨3,.data⟩],none⟩,⟨some 41,.load 123 (.tmp 40),123, "build.go:90",#[⟨4,.data⟩],none⟩,⟨some 42,.fieldAddr 128 (.tmp 7) 0,0, "build.go:90",#[],none⟩,⟨some 43,.load 9 (.tmp 42),9, "build.go:90",#[⟨6,.data⟩],none⟩,⟨some 44,.lookup 123 (.tmp 41) (.tmp 43) false,3, "build.go:90",#[⟨5,.data⟩,⟨7,.data⟩],none⟩,⟨some 45,.buildSlice 37 1 #[(0,.tmp 44)],37, "build.go:90",#[⟨8,.data⟩],none⟩,⟨some 46,.call ⟨.builtin .append,#[.tmp 37,.tmp 45],#[37,37]⟩,37, "build.go:90",#[⟨1,.data⟩,⟨9,.data⟩],none⟩,⟨some 47,.fieldAddr 190 (.tmp 5) 5,0, "build.go:90",#[⟨0,.phase⟩,⟨1,.phase⟩,⟨2,.phase⟩,⟨3,.phase⟩,⟨4,.phase⟩,⟨5,.phase⟩,⟨6,.phase⟩,⟨7,.phase⟩,⟨8,.phase⟩,⟨9,.phase⟩,⟨10,.phase⟩],none⟩,⟨none,.store 37 (.tmp 47) (.tmp 46),0, "build.go:90",#[⟨11,.data⟩,⟨10,.data⟩,⟨10,.chain⟩,⟨0,.phase⟩,⟨1,.phase⟩,⟨2,.phase⟩,⟨3,.phase⟩,⟨4,.phase⟩,⟨5,.phase⟩,⟨6,.phase⟩,⟨7,.phase⟩,⟨8,.phase⟩,⟨9,.phase⟩,⟨10,.phase⟩],none⟩] true) (LD R) {tmps:=#[.pointer (some ⟨i,0,none⟩),L,x2,x3,x4,.pointer (some ⟨a,0,none⟩),x6,.pointer (some ⟨s,0,none⟩),x8,x9,M,S,T,U,V,X,Y,Z,a0,a1,a2,a3,a4,a5,a6,a7,a8,a9,b0,b1,b2,b3,b4,b6,b7,b8,i9,j0,j1,j2,j3,j4,j5,j6,j7,j8,j9,k0,b9,c5,c8,c9,d0,d1,d2,d3,d4,d5,d6,d7,d8,d9,e0,e1,e2,e3,e4,e5,e6,e7,e8,e9,f0,f1,f2,f3,f4,f6,f7,f8,f9,g0,g1,g2,g3,g4,g6,g7,g8,g9,h0,h2,h3,h4,h5,h6,h7,h8,h9,i1,N,O,P,Q],defers:=[]} W:=by
 obtain ⟨i0,i2,i3,i4,i5⟩:=info_parts Tryz.infoInt;have H:=Ae b;have I:=b.cell 5;have f5:=b.frozen 5;simp only [dM,dJ,dK] at I;have o:=Aa (Aj r b (by decide));have HB:=Aa b;have HR:=Aa r;have HQ:=Aa E;clear b r E;go_region_law (refine AT rfl _ _ 37 rfl f 3 i0 (.int .i64 0) 1 8 Tryz.underlying37 i2 i3 i4 i5 rfl (by decide) _ _ _ rfl (World.ownsRow.alloc HR.o _) ⟨W.heap.size,0,none⟩ 1 1 [.int .i64 n] rfl rfl (A5 rfl _ _) (fun x G=>by simp at G;subst G;rfl) (by decide) (by unfold maxLen;omega) (by omega) (by simp;omega) ?_;intro t e p m l3;have q1:e.cell? ⟨a,5,none⟩=some (.slice c l.length d):=(World.cell?_of_block (m.block a (by simp;omega) (fun h=>o.o a h.symm rfl))).trans (by rw [←I];exact World.cell?_of_block (Below.heap_alloc _ _ _ H));have q2:e.frozen? ⟨a,5,none⟩=false:=(World.frozen?_of_block (m.block a (by simp;omega) (fun h=>o.o a h.symm rfl))).trans (by rw [←f5];exact World.frozen?_of_block (Below.heap_alloc _ _ _ H));obtain ⟨i6,i8,i7,rfl⟩:=Ad p);all_goals
  have D:Ab (fun k=>(Value.slice c l.length d).ownBlock=some k) W e:=Ab.grown (((Ab.refl _ W).alloc (.cells #[.int .i64 n] 3)).drew) m (fun j hj=>.inl hj);have u:=HB.o.O D (fun q=>o.o a q rfl);have F:Ab (fun k=>k=a) e (e.setCell ⟨a,5,none⟩ (.slice i6 i8 i7)):=(Ab.refl _ _).d8 5 _;exact HQ.o _ _ _ _ _ _ _ _ _ _ _ _ _ _ (u.set 5 _) (by show World.ownsRow _ _ _ _ _ (l++[n]).length ((l++[n]).map _);rw [List.map_append,List.length_append];exact Ac p F (Aj p u (by decide))) ((D.mono (fun _ _ q=>.inr q)).trans (F.mono (fun _ _ q=>.inl q)))
end Go.Proofs.YtegmjgjkcdbmkaaGreatDoor

/- Part of the proof: BuA BuB BuC MaG QtA. -/
import Derived.Test.YtaningfhibkemaaGreatDoorG15
import Derived.StillTail
import Derived.OwnWalk
import Derived.Deep.RegionHeld
set_option maxRecDepth 100000
set_option maxHeartbeats 8000000
namespace Go.Proofs.YtaningfhibkemaaGreatDoor
open Go.RowKit Go.Maps Go.Proofs.Tryz
open Option renaming none->Z,some->T
open Value renaming int->G,slice->Y
open IntKind renaming i64->A
theorem Tu{P i}(h:i<P.length):As P i=P[i]:=by unfold As;rw[gV h];rfl
section
variable{P:Program}{p:Array Oper}{md:Region.Mode}{C:World->Prop}
def Tw(md:Region.Mode)(p:Array Oper)(m n:Nat):Bool:=(List.range n).all fun i=>decide (i<m)||(List.range (n+1)).any fun j=>decide (i<j) && Region.waitsFor md p j i
theorem NS{m n:Nat}{h:Array Bool}(C:Tw md p m n=true)(w:Region.chainB md p n=true)(l:HeadInv md p n h):
 ∀(d i:Nat),n-i=d->m<=i->i<n->h.getD i true=false->∀t,n<=t->t∉Region.ready md p h:=by
 intro d;induction d using Nat.strongRecOn with
 |_ d H=>
  intro i K M x v t N u;obtain⟨_,Q,k,o⟩:=mem_ready.1 u;have E:t<p.size:=(Array.getElem?_eq_some_iff.1 k).1;by_cases F:t=n
  .subst F;have b:=List.all_eq_true.1 C i (List.mem_range.2 x);simp only[Bool.or_eq_true,jN]at b;obtain⟨j,y,q⟩:=List.any_eq_true.1 (b.resolve_left (by omega));simp only[Bool.and_eq_true,jN]at q;obtain⟨I,s,e,f,c,g⟩:=Region.waitsFor_spec q.2;have L:=List.mem_range.1 y;by_cases z:j=t
   .subst z;obtain rfl:=kA (s.symm.trans k);have a:=o e f c;rw[g,getD_both v]at a;cases a
   .cases r:h.getD j false with
    |true=> have a:=l.closed j I s r e f c;rw[g,getD_both v]at a;cases a
    |false=>exact H (t-j) (by omega) j rfl (by omega) (by omega) (getD_in (by rw[l.size];omega) r) t (gS _) u
  .have b:=List.all_eq_true.1 w t (List.mem_range.2 E);simp only[Bool.or_eq_true,jN]at b;obtain⟨P,B,e,f,c,g⟩:=Region.waitsFor_spec (b.resolve_left (by omega));obtain rfl:=kA (B.symm.trans k);have a:=o e f c;rw[g,getD_both (l.tail (t-1) (by omega) (by omega))]at a;cases a
def PH(P:Program)(md:Region.Mode)(p:Array Oper)(C:World->Prop)(n:Nat)(L:Array Bool->Act->Prop):Nat->Array Bool->Act->Prop
 |0,b,a=>L b a
 |f+1,b,a=>Region.ready md p b≠[]/\∀i∈Region.ready md p b,i<n/\qOp P p C i (PH P md p C n L f (b.setIfInBounds i true)) a
theorem Gv{n g:Nat}{L:Array Bool->Act->Prop}{Q':Exit->Act->World->Prop}(d:∀b a w,C w->L b a->wpAny P md p Q' g b a w):
 ∀(f:Nat) (b:Array Bool) (a:Act) (w:World),C w->PH P md p C n L f b a->wpAny P md p Q' (f+g) b a w
 |0,b,a,w,c,h=>by rw[iY];exact d _ _ _ c h
 |f+1,b,a,w,c,h=>by rw[show f+1+g=(f+g)+1 by omega];exact⟨fun k=>jY k h.1,fun i m=>wpOp_of_qOp c (fun e o l j=>Gv d f _ e o l j) (h.2 i m).2⟩
theorem PI{m n i t v}{L:Array Bool->Act->Prop}(z:p[i]? =T t)(S:∀(j:Nat) (o:Oper) s b,p[j]? =T o->o.op≠.select s b)
 (R:Tw md p m n=true)(F:Region.chainB md p n=true)(Q:m<=i)(K:i<n)(a1:∀c a,L c a->∀j∈Region.ready md p c,n<=j):
 ∀(f:Nat) (c:Array Bool) (a:Act),HeadInv md p n c->
  (∀j r,p[j]? =T r->j≠i->c.getD j true=false->(∀e∈r.after,Region.binds md e=true->e.on≠i)->t.apart p r=true)->
  i∈Region.ready md p c->YieldsIn P p C t v a->
  PH P md p C n L f (c.setIfInBounds i true) (a.put t.dst v)->PH P md p C n L (f+1) c a:=by
 intro f;induction f with
 |zero=>
  intro c a y _ g x H;have w:=(mem_ready.1 g).1;refine⟨fun h=>(by rw[h]at g;cases g),fun j l=>?_⟩;have u:j<n:=(jG j n).resolve_right (fun q=>NS R F y _ i rfl Q K w j q l);refine⟨u,?_⟩;by_cases d:j=i
  .subst d;exact x.qOp z H
  .have:=a1 _ _ H j (ready_mono l d);omega
 |succ f ih=>
  intro c a y I g x H;have w:=(mem_ready.1 g).1;refine⟨fun h=>(by rw[h]at g;cases g),fun j l=>?_⟩;have u:j<n:=(jG j n).resolve_right (fun q=>NS R F y _ i rfl Q K w j q l);refine⟨u,?_⟩;by_cases d:j=i
  .subst d;exact x.qOp z H
  .have X:=(H.2 j (ready_mono l d)).2;obtain⟨N,r,B,a0⟩:=mem_ready.1 l;have a5:∀e∈r.after,Region.binds md e=true->e.on≠i:=fun e he hb a2=>by have q:=a0 e he hb;rw[a2,getD_both w]at q;cases q
   have h2:=qOp_put B (I j r B d N a5) (fun s b=>S i t s b z) (fun s b=>S j r s b B) x X;refine qOp_mono (fun V E=>ih (c.setIfInBounds j true) V (y.set l u) (fun k ok hk a3 U a4=>?_) (ready_mono g (Ne.symm d)) E.1 ?_) h2
   .refine I k ok hk a3 ?_ a4;by_cases M:j=k
    .subst M;exact N
    .rw[getD_set_ne true M]at U;exact U
   .rw[Array.setIfInBounds_comm _ _ d];exact E.2
theorem Kd{m n g:Nat}{f:Act->Prop}(x:Region.noSelect p=true)(w:Tw md p m n=true)(r:Region.chainB md p n=true):
 ∀(l:List Oper) (k:Nat) (b:Array Bool) (a:Act),(∀j,j<l.length->l[j]? =p[k+j]?)->m<=k->k+l.length=n->HeadInv md p n b->
 Region.lexHead md p g l.length k b=true->wpQuiet P p C f l a->
 PH P md p C n (fun z q=>Region.seqB md p g n z=true/\f q) l.length b a
 |[],k,b,a,_,_,i,_,d,h=>by
  have e:k=n:=by simpa using i
  subst e;exact⟨by simpa[Region.lexHead]using d,h⟩
 |o::l,k,b,a,t,I,i,y,d,h=>by
  have c:p[k]? =T o:=by simpa using(t 0 (by simp)).symm
  simp only[gU,Region.lexHead,Bool.and_eq_true]at d;obtain⟨⟨K,H⟩,B⟩:=d;simp only[gU]at i;have s:k<n:=by omega
  have u:k∈Region.ready md p b:=by simpa using K
  have L:qOp P p C k (wpQuiet P p C f l) a:=by unfold qOp;simp only[c];exact h
  obtain⟨v,M,E⟩:=yieldsIn_of_qOp c L;exact PI c (Region.noSelect_spec x) w r I s (fun z q F=>seqB_ready F.1) l.length b a y (Region.free_spec c H) u M
   (Kd x w r l (k+1) _ _ (fun j N=>by have:=t (j+1) (by simp;omega);simpa[Nat.add_assoc,Nat.add_comm 1 j]using this) (by omega) (by omega) (y.set u s) B E)
def OI(md:Region.Mode)(p:Array Oper)(n:Nat):Bool:=
 Region.noSelect p && decide (n<p.size) && decide (1<=n) && Tw md p 1 n && Region.chainB md p n && Region.free md p (Array.replicate p.size false) 0 && (Region.ready md p (Array.replicate p.size false)).contains 0 && Region.lexHead md p (p.size-n) (n-1) 1 ((Array.replicate p.size false).setIfInBounds 0 true)
theorem Nb{id}{Q:Exit->Act->World->Prop}{a w o l v}(n)(M:P.follows .mixedOrders=true)(f:OI .any (o::l).toArray n=true)
 (E:∀c a w,Q (.panic c) (a.put o.dst v) w->Q (.panic c) a w)(X:Yields P (o::l).toArray o v a)
 (h:wpQuiet P (o::l).toArray (fun b=>∃n,b=w.drewN n) (fun d=>∀b,(∃n,b=w.drewN n)->wpList P (o::l).toArray Q (l.drop (n-1)) d b) (l.take (n-1)) (a.put o.dst v)):(Code.region id (o::l).toArray true).wp P Q a w:=by
 simp only[OI,Bool.and_eq_true,jN]at f;obtain⟨⟨⟨⟨⟨⟨⟨x,N⟩,a3⟩,S⟩,F⟩,I⟩,u⟩,L⟩:=f;have a4:n<l.length+1:=by simpa using N
 have e:(l.take (n-1)).length=n-1:=by simp;omega
 have U:(o::l).toArray.size=l.length+1:=by simp
 have q:(l.drop (n-1)).length=(o::l).toArray.size-n:=by simp;omega
 have z:(o::l).toArray[0]? =T o:=by simp
 have a0:HeadInv .any (o::l).toArray n (Array.replicate (o::l).toArray.size false):=
  ⟨by simp,fun j oj _ s=>(by rw[getD_replicate_false]at s;cases s),fun t _ V=>getD_in (by simpa using V) (getD_replicate_false _ _)⟩
 have R:0∈Region.ready .any (o::l).toArray (Array.replicate (o::l).toArray.size false):=by simpa using u
 have a1:=a0.set R (by omega);have H:=Kd (md:=.any) (m:=1) (g:=(o::l).toArray.size-n) x S F (l.take (n-1)) 1 _ (a.put o.dst v) (fun j r=>by
  have K:j<n-1:=by rw[e]at r;exact r
  simp[K,Nat.add_comm 1 j]) (gS _) (by omega) a1 (by rw[e];exact L) h
 refine wp_region_any M ?_;have y:=Gv (C:=fun b=>∃n,b=w.drewN n) (Q':=Q) (g:=(o::l).toArray.size-n) (fun a2 d b B i=>by
  have:=wpAny_of_seq (md:=.any) (Q':=Q) (l.drop (n-1)) n a2 d b (fun j=>by rw[List.getElem?_drop];obtain⟨k,rfl⟩:∃k,n=k+1:=⟨n-1,by omega⟩;simp[Nat.add_right_comm k 1 j]) (by rw[q];exact i.1) (i.2 b B)
  rwa [q]at this) _ _ _ _ ⟨1,rfl⟩ H
 rw[e,show n-1+((o::l).toArray.size-n)=l.length by omega]at y;rw[U];exact wpAny_take z x I u E X y
end
def Cx(m:Nat)(l:List ByteArray)(w:World):Prop:=∃n a,n<=l.length/\Bj m n a w/\∀s,a.atKey (Bq s) (.lit (.int .i64 0))=.lit (.int .i64 (vx l s:Nat))
theorem Cx.d8{m l}{X:Nat->Prop}{w a}(h:Cx m l w)(f:O X w a)(g:¬X m):Cx m l a:=by obtain⟨n,b,e,d,c⟩:=h;exact⟨n,b,e,d.d8 f g,c⟩
theorem Cx.ne{m b l w}(h:Cx m l w){a t c}(e:w.heap[b]? =T (.cells a t c)):m≠b:=by obtain⟨n,f,i,d,g⟩:=h;exact d.ne e
theorem Cx.lt{m l w}(h:Cx m l w):m<w.heap.size:=by obtain⟨n,b,d,a,c⟩:=h;exact World.ownsMap.lt a
theorem Cx.none(w:World):Cx w.heap.size [] (w.alloc (.map #[] 0)):=
 ⟨0,.map [],gS _,World.ownsMap_made w _ _ _,fun s=>by simp[DataW.atKey,vx,BC]⟩
theorem Cx.look{m l w}(h:Cx m l w){s}(d:s.size<=4000):
 (Instr.lookup 121 (.map (T m)) (.string s) false).run prog w=.ok (G A (vx l s:Nat)) w:=by
 obtain⟨n,i,j,f,b⟩:=h;obtain⟨c,g,a,_⟩:=World.ownsMap.lookup_int f Md underlying121 underlying3 (OU w) (Jv d);rw[b s]at a;have e:((vx l s:Nat):Int)=c:=by simpa using a
 rw[e];exact g
theorem KA(m:List ByteArray)(s:ByteArray):∀(l:List ByteArray),s∉l->∀k,BC (l++m) s k=BC m s (k+l.length)
 |[],_,k=>rfl
 |a::l,h,k=>by simp only[List.cons_append,BC,gU];rw[jQ (fun q=>h (by rw[CA q];simp)),KA m s l (fun q=>h (iK _ q)) (k+1)];congr 1;omega
theorem SY{l s}(h:s∉l)(k):BC l s k= -1:=by obtain⟨a,b,_⟩:=C0 l s k;have:=mt a.1 h;omega
theorem Y1(l t s)(h:t∉l):vx (l++[t]) s=if s=t then l.length else vx l s:=by
 by_cases a:s∈l
 .rw[OP a,jQ (by rintro rfl;exact h a)]
 .unfold vx;rw[KA [t] s l a];split
  .rename_i e;subst e;simp[BC]
  .rename_i e;have b:BC [t] s l.length= -1:=by simp only[BC];rw[jQ (fun q=>e (CA q.symm))]
   have c:BC l s 0= -1:=SY a 0;rw[iY,b,c]
theorem Cx.add{m l w}(h:Cx m l w){t}(b:t.size<=4000)(i:l.length<=4000)(o:t∉l):
 ∃a,(Instr.mapUpdate 121 (.map (T m)) (.string t) (G A l.length)).run prog w=.ok () a/\Cx m (l++[t]) a/\O (fun k=>k=m) w a:=by
 obtain⟨n,r,u,c,g⟩:=h;obtain⟨a,j,d,f⟩:=Fa (p:=l.length) c b i (by omega);refine⟨a,j,⟨n+1,_,by simp;omega,d,fun s=>?_⟩,f⟩;rw[Y1 l t s o];split
 .rename_i e;subst e;rw[Maps.atKey_put_same (World.ownsMap.isMap c) (Md.key (Jv b))]
 .rename_i e;rw[Maps.atKey_put_other (fun q=>e (Ju q)),g s]
theorem KH{B m e a v n c l w b}(h:w.ownsRow B e a v n c)(g:O (fun k=>k=m) w b)(f:Cx m l w):b.ownsRow B e a v n c:=
 Ai h g (fun _ _ _ d q=>f.ne q d.symm)
def bV(a d B:Nat)(w:World)(k:Nat):Prop:=k=a\/k=d\/(B<=k/\∃b t c,w.heap[k]? =T (.cells b t c)/\(t=9\/t=189))
def Ik(bb vm B:Nat)(w a:World):Prop:=O (bV bb vm B w) w a
theorem Ik.refl(a b B w):Ik a b B w w:=O.refl _ _
theorem Ik.trans{f g B:Nat}{a b c:World}(h:Ik f g B a b)(k:Ik f g B b c):Ik f g B a c:=by
 refine⟨k.os.trans h.os,k.tape.trans h.tape,k.output.trans h.output,iG h.size k.size,fun i j d=>?_⟩;have e:=h.block i j d;rw[k.block i (iI j h.size) ?_,e];rintro(q|q|⟨n,l,t,m,q,r⟩)
 .exact d (.inl q)
 .exact d (.inr (.inl q))
 .rw[e]at q;exact d (.inr (.inr ⟨n,l,t,m,q,r⟩))
def bU(a d B:Nat)(w:World)(k:Nat):Prop:=k=a\/k=d\/(B<=k/\∃b c,w.heap[k]? =T (.cells b 9 c))
def JX(a b B:Nat)(w c:World):Prop:=O (bU a b B w) w c
theorem JX.trans{f g B:Nat}{a b c:World}(h:JX f g B a b)(k:JX f g B b c):JX f g B a c:=by
 refine⟨k.os.trans h.os,k.tape.trans h.tape,k.output.trans h.output,iG h.size k.size,fun i j d=>?_⟩;have e:=h.block i j d;rw[k.block i (iI j h.size) ?_,e];rintro(q|q|⟨n,l,m,q⟩)
 .exact d (.inl q)
 .exact d (.inr (.inl q))
 .rw[e]at q;exact d (.inr (.inr ⟨n,l,m,q⟩))
theorem JX.cW{bb vm B a b}(h:O kJ a b):JX bb vm B a b:=h.mono (fun _ _ q=>q.elim)
theorem JX.more{c d B a b}(h:JX c d B a b):Ik c d B a b:=h.mono (fun _ _ q=>by
 rcases q with q|q|⟨q,e,f,r⟩
 .exact .inl q
 .exact .inr (.inl q)
 .exact .inr (.inr ⟨q,e,_,f,r,.inl rfl⟩))
theorem Ik.cW{bb vm B a b}(h:O kJ a b):Ik bb vm B a b:=h.mono (fun _ _ q=>q.elim)
def MT(a e:Nat)(c d:Value)(b:Bd):Array Value:=#[.map (T a),.map (T e),c,d,G A b.pl,G A b.ca]
structure Cv(bb fm vm B:Nat)(fn:List ByteArray)(b:Bd)(nv sv:Value)(w:World):Prop where
 cI:W bb (MT fm vm nv sv b) 124 w
 fns:Cx fm fn w
 t8:Cx vm b.cH w
 cH:Au B w nv b.cH
 r9:AR B w sv b.r9
 ne:fm≠vm
def Lo(a c g B:Nat)(d:List ByteArray)(b:Bd)(w:World):Prop:=∃e f,Cv a c g B d b e f w
theorem AR.s9{B w b a l}(h:AR B w a l)(c:O kJ w b):AR B b a l:=h.d8 c (fun _ _ _ _ q=>q.elim)
theorem Cv.s9{c d i B e b f g w j}(h:Cv c d i B e b f g w)(a:O kJ w j):Cv c d i B e b f g j:=
 ⟨h.cI.d8 a id,h.fns.d8 a id,h.t8.d8 a id,Ac h.cH a (fun _ _ q=>q),h.r9.s9 a,h.ne⟩
theorem Lo.s9{a c e B d b w f}(h:Lo a c e B d b w)(g:O kJ w f):Lo a c e B d b f:=by obtain⟨i,j,h⟩:=h;exact⟨i,j,h.s9 g⟩
theorem Cv.fR{d i e B f j b p s w}(h:Cv d i e B j b p s w){k g t l}(c:w.heap[k]? =T (.cells g t l))(m:t≠124)(n:t≠9)(o:t≠189):¬bV d e f w k:=by
 rintro(q|q|⟨_,u,x,v,q,r⟩)
 .subst q;have a:=h.cI;unfold W at a;rw[c]at a;simp only[gX,iE]at a;exact m a.2.1
 .exact h.t8.ne c q.symm
 .rw[c]at q;simp only[gX,iE]at q;rw[<-q.2.1]at r;exact r.elim n o
theorem Cv.fQ{d i e B f j b o p w}(h:Cv d i e B j b o p w){k g t l}(c:w.heap[k]? =T (.cells g t l))(m:t≠124)(n:t≠9):¬bU d e f w k:=by
 rintro(q|q|⟨_,r,s,q⟩)
 .subst q;have a:=h.cI;unfold W at a;rw[c]at a;simp only[gX,iE]at a;exact m a.2.1
 .exact h.t8.ne c q.symm
 .rw[c]at q;simp only[gX,iE]at q;exact n q.2.1
theorem JX.cI{a g e B k i b c t w f}(m:JX a e B w f)(h:Lo a g e B i b w)(d:W k c t w)(j:t≠124)(l:t≠9):W k c t f:=by obtain⟨n,o,h⟩:=h;exact d.d8 m (h.fQ d j l)
theorem JX.row{c j f B a l b e d v n i w g}(p:JX c f B w g)(h:Lo c j f B l b w)(s:w.ownsRow a e d v n i)(m:e≠124)(o:e≠9):g.ownsRow a e d v n i:=by obtain⟨x,y,h⟩:=h;exact Ai s p (fun k t u q r=>h.fQ r m o q)
theorem Ik.row{c j f B a l b e d v n i w g}(r:Ik c f B w g)(h:Lo c j f B l b w)(t:w.ownsRow a e d v n i)(m:e≠124)(o:e≠9)(p:e≠189):g.ownsRow a e d v n i:=by obtain⟨y,z,h⟩:=h;exact Ai t r (fun k u x q s=>h.fR s m o p q)
theorem Ik.cI{a g e B k i b c t w f}(n:Ik a e B w f)(h:Lo a g e B i b w)(d:W k c t w)(j:t≠124)(l:t≠9)(m:t≠189):W k c t f:=by obtain⟨o,p,h⟩:=h;exact d.d8 n (h.fR d j l m)
theorem AR.dO{B w j g l}{X:Nat->Prop}(h:AR B w g l)(d:O X w j)(f:∀k a t b,X k->w.heap[k]? =T (.cells a t b)->t≠3/\t≠189):AR B j g l:=by obtain⟨a,s,p,r⟩:=h;refine⟨a,Ai s d (fun k a b c q=>(f k a _ b c q).2 rfl),p,fun i h n=>?_⟩;obtain⟨m,e,o⟩:=r i h n;exact⟨m,e,Ai o d (fun k a b c q=>(f k a _ b c q).1 rfl)⟩
theorem JL{B m e c v n d l w}(h:w.ownsRow B e c v n d)(b:Cx m l w):v.ownBlock≠T m:=fun q=>by obtain⟨_,f,g,a⟩:=CB h q;exact b.ne a rfl
theorem Er{b a t w}(h:W b a t w){c u d}(e:w.heap[b]? =T (.cells c u d)):u=t:=by unfold W at h;rw[e]at h;simp only[gX,iE]at h;exact h.2.1
theorem Cv.named{a g d B u b e f v' t w V x c}(h:Cv a g d B u b e f w)(l:O (fun k=>k=d) w V)(y:Cx d (b.cH++[t]) V)(M:O kJ V x)(N:x.grownBy c e.ownBlock)(H:c.ownsRow B 9 1 v' (b.cH.length+1) (b.cH.map Value.string++[.string t])):
 Cv a g d B u {b with cH:=b.cH++[t]} v' f (c.setCell ⟨a,2,Z⟩ v')/\JX a d B w (c.setCell ⟨a,2,Z⟩ v'):=by
 have S:=h.t8.ne h.cI;have z:W a (MT g d e f b) 124 V:=h.cI.d8 l (fun q=>S q.symm);have E:Cx g u V:=h.fns.d8 l h.ne;have o:Au B V e b.cH:=KH h.cH l h.t8;have R:AR B V f b.r9:=h.r9.dO l (fun k r t s n q=>jY n.symm (h.t8.ne q));have i:O (fun k=>e.ownBlock=T k) V c:=O.grown (M.mono (fun _ _ q=>q.elim)) N (fun j P=>.inl P);have m:W a (MT g d e f b) 124 c:=z.d8 i (fun q=>Am o z (by decide) a q rfl);have p:O (fun k=>k=a) c (c.setCell ⟨a,2,Z⟩ v'):=(O.refl _ _).t9 2 _;have C:=E.d8 i (JL o E);have F:=y.d8 i (JL o y);have Q:AR B c f b.r9:=R.dO i (fun k r t s n q=>by obtain⟨_,U,X,v⟩:=CB o n;rw[v]at q;simp only[gX,iE]at q;rw[<-q.2.1];decide)
 refine⟨⟨m.set 2 _,C.d8 p (C.ne m),F.d8 p (F.ne m),?_,Q.dO p (fun k r t s n q=>by subst n;rw[Er m q];decide),h.ne⟩,?_⟩
 .show(c.setCell ⟨a,2,Z⟩ v').ownsRow B _ 1 v' (b.cH++[t]).length ((b.cH++[t]).map Value.string);rw[jZ,gW];exact Ac H p (Am H m (by decide))
 .have I:JX a d B w V:=l.mono (fun _ _ q=>.inr (.inl q));have K:JX a d B V c:=i.mono (fun k _ q=>by obtain⟨L,r,s,v⟩:=CB o q;exact .inr (.inr ⟨L,r,s,v⟩))
  exact(I.trans K).trans (p.mono (fun _ _ q=>.inl q))
theorem Nd(a m f B u b t nv r w)(c:Cv a m f B u b nv r w)(hB:B<=w.heap.size)(hl:t.d9.size<=4000)(hn:b.cH.length<=4000)(ht:t.d9∉b.cH):
 Calls prog 94 #[.pointer (T ⟨a,0,Z⟩),Ki t] w fun e E=>e=.returned (.tuple #[])/\(∃C,Cv a m f B u {b with cH:=b.cH++[t.d9]} C r E)/\JX a f B w E:=by
 obtain⟨i0,a5,b1,b2,b3⟩:=info_parts Tryz.infoStr;obtain⟨r1,r2⟩:=c.cI.e2 1 2;have ff:=fun i=>Az c.cI i
 have lb:=Ae c.cI;simp only[MT,gR,gP,gQ]at r1 r2;obtain⟨o,nl,p,rfl⟩:=Ad c.cH;have a7:=Ag c.cH;subst a7;unfold Ki;have lv:=c.t8.lt;have a8:=c.t8.ne c.cI;obtain⟨d,H,I⟩:=Ax (c.s9 ((O.refl kJ w).alloc (.cells #[.string t.d9,G A t.l7] 126))) (W.new w #[.string t.d9,G A t.l7] 126) ((O.refl kJ w).alloc (.cells #[.string t.d9,G A t.l7] 126));clear c;go_enter func94,ntmps94;go_wp2_with fail;generalize w.alloc _=l at*;obtain⟨S,U⟩:=d.o.cI.e2 1 2;have R:=H.o.cell 0;have kf:=fun i=>Az d.o.cI i
 simp only[MT,gR,gP,gQ]at S U R;clear r1 r2 ff;refine Nb (v:=.pointer (T ⟨a,0,Z⟩)) 11 (by kernel_rfl) (by kernel_rfl) (fun _ _ _ h=>h) (Or.inl ⟨by rfl,fun w=>by go_simp⟩) ?_;simp only[jI,List.take_zero,jX,List.drop_zero];repeat(quiet_step (fail))
 refine wpQuiet_nil ?_;intro E a9;obtain⟨nq,b0⟩:=a9;subst b0;obtain⟨V,b4,L,M⟩:=Cx.add (w:=l.drewN nq) (d.o.t8.d8 ((O.refl kJ l).drewN nq) id) hl hn ht;have g:O (fun k=>k=f) l V:=((O.refl _ l).drewN nq).trans M;have j:D (W a (MT m f (Y o b.cH.length p) r b) 124 V):=d.o.cI.d8 g (fun q=>a8 q.symm);have NV:D (W w.heap.size #[.string t.d9,G A t.l7] 126 V):=H.o.d8 g (by omega);have v2:=j.o.cell 2;have vf:=fun i=>Az j.o i
 have n0:=NV.o.cell 0;have X:=Ae j.o;simp only[MT,gR,gP,gQ]at v2 n0;have K:D (Au B V (Y o b.cH.length p) b.cH):=KH d.o.cH g d.o.t8;have F:=J g;have HM:=J L;clear S U R kf L M g;have P:=J (Am K.o j.o (by decide));go_wp2_with fail;go_region_law(refine AC rfl _ _ 51 rfl B 9 i0 (.string ⟨#[]⟩) 1 16 underlying51 a5 b1 b2 b3 rfl (by decide) _ _ _ rfl (K.o.alloc _) ⟨V.heap.size,0,Z⟩ 1 1 [.string t.d9] rfl rfl (AD rfl _ _) (fun x Q=>by simp at Q;subst Q;rfl) (by decide) (by unfold maxLen;omega) (by omega) (by have:=F.o.size;have:=I.o.size;simp;omega) ?_;intro v' s z n a6;have q1:s.cell? ⟨a,2,Z⟩=T (Y o b.cH.length p):=(gT (n.block a (by simp;omega) (fun h=>P.o a h.symm rfl))).trans (by rw[<-v2];exact gT (iC _ _ _ X));have q2:s.frozen? ⟨a,2,Z⟩=false:=(gY (n.block a (by simp;omega) (fun h=>P.o a h.symm rfl))).trans (by rw[<-vf 2];exact gY (iC _ _ _ X));obtain⟨a0,a2,a1,rfl⟩:=Ad z);all_goals
  have N:(V.alloc (.cells #[.string t.d9] 9)).drew.grownBy s (Value.ownBlock (Y o b.cH.length p)):=n;have y:=d.o.named (t:=t.d9) (v':=Y a0 a2 a1) F.o HM.o (((O.refl _ V).alloc _).drew) N z;have a3:D (∃C,Cv a m f B u {b with cH:=b.cH++[t.d9]} C r (s.setCell ⟨a,2,Z⟩ (Y a0 a2 a1))):=⟨_,y.1⟩;have a4:=J ((JX.cW I.o).trans y.2);clear y z n N a6 q1 q2;go_wp2_with fail;go_end0;exact⟨rfl,a3.o,a4.o⟩
theorem OS{P e b}{Q:Exit->Act->World->Prop}{S:World->Prop}{i f v j d a g w}(o:b[i]? =T f)
 (q:Region.noSelect b=true)(n:Region.free e b d i=true)(p:(Region.ready e b d).contains i=true)
 (k:∀c a w,Q (.panic c) (a.put f.dst v) w->Q (.panic c) a w)(r:YieldsIf P b S f v a)(l:S w)(m:a.put f.dst v=g)
 (h:wpAnyH P e b Q S j (d.setIfInBounds i true) g w):wpAnyH P e b Q S (j+1) d a w:=
 wpAnyH_take o q n p k r l (m▸h)
theorem Bv{P:Program}{e:Region.Mode}{b:Array Oper}{Q:Exit->Act->World->Prop}{S:World->Prop}{i:Nat}{f:Oper}{v:Value}{g:Nat}{d:Array Bool}{a:Act}{w:World}{j k C V x4 x5 x6 x7 x8 x9 l q r s t u x y z B E F H I K L M N R U X a0 a1 a2 a3 a4 a5 a6 a7 a8 a9 b0 b1 b2 b3 b4 b5 b6 b7 b8 b9 c0 c1 c2 c3 c4 c5 c6 c7 c8 c9 d0 d1 d2 d3 d4 d5 d6 d7 d8 d9 e0 e1 e2 e3 e4 e5 e6 e7 e8 e9 f0 f1 f2 f3 f4 f5 f6 f7 f8 f9 g0 g1 g2 g3 g4 g5 g6 g7 g8 m n o p:Value}(hi:b[i]? =T f)(hs:Region.noSelect b=true)(hf:Region.free e b d i=true)(hr:(Region.ready e b d).contains i=true)(hQ:∀c a w,Q (.panic c) (a.put f.dst v) w->Q (.panic c) a w)(hy:YieldsIf P b S f v a)(hS:S w)(ha:a.put f.dst v={tmps:=#[j,k,C,V,x4,x5,x6,x7,x8,x9,l,q,r,s,t,u,x,y,z,B,E,F,H,I,K,L,M,N,R,U,X,a0,a1,a2,a3,a4,a5,a6,a7,a8,a9,b0,b1,b2,b3,b4,b5,b6,b7,b8,b9,c0,c1,c2,c3,c4,c5,c6,c7,c8,c9,d0,d1,d2,d3,d4,d5,d6,d7,d8,d9,e0,e1,e2,e3,e4,e5,e6,e7,e8,e9,f0,f1,f2,f3,f4,f5,f6,f7,f8,f9,g0,g1,g2,g3,g4,g5,g6,g7,g8,m,n,o,p],defers:=[]})(h:wpAnyH P e b Q S g (d.setIfInBounds i true) {tmps:=#[j,k,C,V,x4,x5,x6,x7,x8,x9,l,q,r,s,t,u,x,y,z,B,E,F,H,I,K,L,M,N,R,U,X,a0,a1,a2,a3,a4,a5,a6,a7,a8,a9,b0,b1,b2,b3,b4,b5,b6,b7,b8,b9,c0,c1,c2,c3,c4,c5,c6,c7,c8,c9,d0,d1,d2,d3,d4,d5,d6,d7,d8,d9,e0,e1,e2,e3,e4,e5,e6,e7,e8,e9,f0,f1,f2,f3,f4,f5,f6,f7,f8,f9,g0,g1,g2,g3,g4,g5,g6,g7,g8,m,n,o,p],defers:=[]} w):wpAnyH P e b Q S (g+1) d a w:=OS hi hs hf hr hQ hy hS ha h
theorem Nq{P}{a:Operand->Value}{o t x b m k v w}(d:o.op=.lookup t x b false)(e:a x=m)(c:a b=k)(h:(Instr.lookup t m k false).run P w=.ok v w):(execOp a o).run P w=.ok (.value v) w:=by unfold execOp;rw[d];simp only[e,c];go_simp
theorem WS(R:Act->World->Prop)(f r c t s u x z y e){F N x4 x5 x6 x7 x8 x9 g6 g7 g8 g9 h0 h1 h2 h3 h4 h5 h6 h7 h8 h9 i0 i1 i2 i3 i4 P Q U V X a0 a1 a2 a3 a4 a5 a6 a7 a8 a9 b0 b1 b2 b3 b4 b5 b6 b7 b8 b9 c0 c1 c2 c3 c4 c5 c6 c7 c8 c9 d0 d1 d2 d3 d4 d5 d6 d7 d8 d9 e0 e1 e2 e3 e4 e5 e6 e7 e8 e9 f0 f1 f2 f3 f4 f5 f6 f7 f8 f9 g0 g1 g2 g3 g4 g5 H I L M}
 (C:∀d,O kJ e d->d.cell? ⟨f,1,Z⟩=T (.map (T r))/\d.cell? ⟨c,0,Z⟩=T (G A t)/\d.cell? ⟨c,1,Z⟩=T (.string z)/\d.cell? ⟨c,3,Z⟩=T (.string y)/\d.cell? ⟨c,5,Z⟩=T (G A s)/\(Instr.lookup 121 (.map (T r)) (.string z) false).run prog d=.ok (G A u) d/\(Instr.lookup 121 (.map (T r)) (.string y) false).run prog d=.ok (G A x) d)
 (E:∀(B:World) (y8 y9 i5 i6 i7 i8 i9 j0 j1 j2 j3 j4 j5 j6 j7 j8 j9 k0 k1 k2 k3:Value),W e.heap.size #[G A t,G A u,G A x,G A s,G A 0,Y Z 0 0,G A 0,G A 0] 189 B->O kJ e B->R {tmps:=#[.pointer (T ⟨f,0,Z⟩),F,N,.pointer (T ⟨c,0,Z⟩),x4,.pointer (T ⟨e.heap.size,0,Z⟩),x6,x7,y8,y9,i5,i6,i7,i8,i9,j0,j1,j2,j3,j4,j5,j6,j7,j8,j9,k0,k1,k2,k3,P,Q,U,V,X,a0,a1,a2,a3,a4,a5,a6,a7,a8,a9,b0,b1,b2,b3,b4,b5,b6,b7,b8,b9,c0,c1,c2,c3,c4,c5,c6,c7,c8,c9,d0,d1,d2,d3,d4,d5,d6,d7,d8,d9,e0,e1,e2,e3,e4,e5,e6,e7,e8,e9,f0,f1,f2,f3,f4,f5,f6,f7,f8,f9,g0,g1,g2,g3,g4,g5,H,I,L,M],defers:=[]} B):
 Code.wp prog (.region 1 #[⟨T 8,.fieldAddr 230 (.tmp 3) 0,0, "build.go:83",#[],Z⟩,⟨T 9,.load 187 (.tmp 8),187, "build.go:83",#[⟨0,.data⟩],Z⟩,⟨T 10,.move (.tmp 0),198, "build.go:83",#[],Z⟩,⟨T 11,.nilCheck (.tmp 10),0, "build.go:83",#[⟨2,.data⟩],Z⟩,⟨T 12,.fieldAddr 124 (.tmp 11) 1,0, "build.go:83",#[⟨3,.data⟩],Z⟩,⟨T 13,.load 121 (.tmp 12),121, "build.go:83",#[⟨4,.data⟩],Z⟩,⟨T 14,.fieldAddr 230 (.tmp 3) 1,0, "build.go:83",#[],Z⟩,⟨T 15,.fieldAddr 126 (.tmp 14) 0,0, "build.go:83",#[⟨6,.data⟩],Z⟩,⟨T 16,.load 9 (.tmp 15),9, "build.go:83",#[⟨7,.data⟩],Z⟩,⟨T 17,.lookup 121 (.tmp 13) (.tmp 16) false,3, "build.go:83",#[⟨5,.data⟩,⟨8,.data⟩],Z⟩,⟨T 18,.move (.tmp 0),198, "build.go:83",#[],Z⟩,⟨T 19,.nilCheck (.tmp 18),0, "build.go:83",#[⟨10,.data⟩],Z⟩,⟨T 20,.fieldAddr 124 (.tmp 19) 1,0, "build.go:83",#[⟨11,.data⟩],Z⟩,⟨T 21,.load 121 (.tmp 20),121, "build.go:83",#[⟨12,.data⟩],Z⟩,⟨T 22,.fieldAddr 230 (.tmp 3) 2,0, "build.go:83",#[],Z⟩,⟨T 23,.fieldAddr 126 (.tmp 22) 0,0, "build.go:83",#[⟨14,.data⟩],Z⟩,⟨T 24,.load 9 (.tmp 23),9, "build.go:83",#[⟨15,.data⟩],Z⟩,⟨T 25,.lookup 121 (.tmp 21) (.tmp 24) false,3, "build.go:83",#[⟨13,.data⟩,⟨16,.data⟩],Z⟩,⟨T 26,.fieldAddr 230 (.tmp 3) 3,0, "build.go:83",#[],Z⟩,⟨T 27,.load 3 (.tmp 26),3, "build.go:83",#[⟨18,.data⟩],Z⟩,⟨T 28,.build 189 #[(0,.tmp 9),(1,.tmp 17),(2,.tmp 25),(3,.tmp 27)],189, "build.go:83",#[⟨1,.data⟩,⟨9,.data⟩,⟨17,.data⟩,⟨19,.data⟩],Z⟩,⟨T 5,.alloc 189,0, "build.go:83",#[],Z⟩,⟨Z,.store 189 (.tmp 5) (.tmp 28),0, "build.go:83",#[⟨21,.data⟩,⟨20,.data⟩,⟨0,.phase⟩,⟨1,.phase⟩,⟨2,.phase⟩,⟨3,.phase⟩,⟨4,.phase⟩,⟨5,.phase⟩,⟨6,.phase⟩,⟨7,.phase⟩,⟨8,.phase⟩,⟨9,.phase⟩,⟨10,.phase⟩,⟨11,.phase⟩,⟨12,.phase⟩,⟨13,.phase⟩,⟨14,.phase⟩,⟨15,.phase⟩,⟨16,.phase⟩,⟨17,.phase⟩,⟨18,.phase⟩,⟨19,.phase⟩,⟨20,.phase⟩,⟨21,.phase⟩],Z⟩] true) (Mi R) {tmps:=#[.pointer (T ⟨f,0,Z⟩),F,N,.pointer (T ⟨c,0,Z⟩),x4,x5,x6,x7,x8,x9,g6,g7,g8,g9,h0,h1,h2,h3,h4,h5,h6,h7,h8,h9,i0,i1,i2,i3,i4,P,Q,U,V,X,a0,a1,a2,a3,a4,a5,a6,a7,a8,a9,b0,b1,b2,b3,b4,b5,b6,b7,b8,b9,c0,c1,c2,c3,c4,c5,c6,c7,c8,c9,d0,d1,d2,d3,d4,d5,d6,d7,d8,d9,e0,e1,e2,e3,e4,e5,e6,e7,e8,e9,f0,f1,f2,f3,f4,f5,f6,f7,f8,f9,g0,g1,g2,g3,g4,g5,H,I,L,M],defers:=[]} e:=by
 have g:=J C;have HQ:=J E;clear C E;refine wp_region_held_drew (S:=fun d=>O kJ e d) (by kernel_rfl) ((O.refl _ e).drew) (fun b=>?_);refine Bv (i:=0) (v:=.pointer (T ⟨c,0,Z⟩)) rfl (by kernel_rfl) (by kernel_rfl) (by kernel_rfl) (fun _ _ _ h=>h) (Or.inl ⟨by rfl,fun w a=>by go_simp⟩) b rfl ?_;refine Bv (i:=1) (v:=G A t) rfl (by kernel_rfl) (by kernel_rfl) (by kernel_rfl) (fun _ _ _ h=>h) (Or.inl ⟨by rfl,fun w a=>by obtain⟨l,m,n,o,p,j,k⟩:=g.o _ a;go_simp⟩) b rfl ?_;refine Bv (i:=2) (v:=.pointer (T ⟨f,0,Z⟩)) rfl (by kernel_rfl) (by kernel_rfl) (by kernel_rfl) (fun _ _ _ h=>h) (Or.inl ⟨by rfl,fun w a=>by go_simp⟩) b rfl ?_;refine Bv (i:=3) (v:=.pointer (T ⟨f,0,Z⟩)) rfl (by kernel_rfl) (by kernel_rfl) (by kernel_rfl) (fun _ _ _ h=>h) (Or.inl ⟨by rfl,fun w a=>by go_simp⟩) b rfl ?_;refine Bv (i:=4) (v:=.pointer (T ⟨f,1,Z⟩)) rfl (by kernel_rfl) (by kernel_rfl) (by kernel_rfl) (fun _ _ _ h=>h) (Or.inl ⟨by rfl,fun w a=>by go_simp⟩) b rfl ?_;refine Bv (i:=5) (v:=.map (T r)) rfl (by kernel_rfl) (by kernel_rfl) (by kernel_rfl) (fun _ _ _ h=>h) (Or.inl ⟨by rfl,fun w a=>by obtain⟨l,m,n,o,p,j,k⟩:=g.o _ a;go_simp⟩) b rfl ?_;refine Bv (i:=6) (v:=.pointer (T ⟨c,1,Z⟩)) rfl (by kernel_rfl) (by kernel_rfl) (by kernel_rfl) (fun _ _ _ h=>h) (Or.inl ⟨by rfl,fun w a=>by go_simp⟩) b rfl ?_;refine Bv (i:=7) (v:=.pointer (T ⟨c,1,Z⟩)) rfl (by kernel_rfl) (by kernel_rfl) (by kernel_rfl) (fun _ _ _ h=>h) (Or.inl ⟨by rfl,fun w a=>by go_simp⟩) b rfl ?_;refine Bv (i:=8) (v:=.string z) rfl (by kernel_rfl) (by kernel_rfl) (by kernel_rfl) (fun _ _ _ h=>h) (Or.inl ⟨by rfl,fun w a=>by obtain⟨l,m,n,o,p,j,k⟩:=g.o _ a;go_simp⟩) b rfl ?_;refine Bv (i:=9) (v:=G A u) rfl (by kernel_rfl) (by kernel_rfl) (by kernel_rfl) (fun _ _ _ h=>h) (Or.inl ⟨by rfl,fun w a=>by obtain⟨l,m,n,o,p,j,k⟩:=g.o _ a;exact Nq (by rfl) (by rfl) (by rfl) j⟩) b rfl ?_;refine Bv (i:=10) (v:=.pointer (T ⟨f,0,Z⟩)) rfl (by kernel_rfl) (by kernel_rfl) (by kernel_rfl) (fun _ _ _ h=>h) (Or.inl ⟨by rfl,fun w a=>by go_simp⟩) b rfl ?_;refine Bv (i:=11) (v:=.pointer (T ⟨f,0,Z⟩)) rfl (by kernel_rfl) (by kernel_rfl) (by kernel_rfl) (fun _ _ _ h=>h) (Or.inl ⟨by rfl,fun w a=>by go_simp⟩) b rfl ?_;refine Bv (i:=12) (v:=.pointer (T ⟨f,1,Z⟩)) rfl (by kernel_rfl) (by kernel_rfl) (by kernel_rfl) (fun _ _ _ h=>h) (Or.inl ⟨by rfl,fun w a=>by go_simp⟩) b rfl ?_;refine Bv (i:=13) (v:=.map (T r)) rfl (by kernel_rfl) (by kernel_rfl) (by kernel_rfl) (fun _ _ _ h=>h) (Or.inl ⟨by rfl,fun w a=>by obtain⟨l,m,n,o,p,j,k⟩:=g.o _ a;go_simp⟩) b rfl ?_;refine Bv (i:=14) (v:=.pointer (T ⟨c,3,Z⟩)) rfl (by kernel_rfl) (by kernel_rfl) (by kernel_rfl) (fun _ _ _ h=>h) (Or.inl ⟨by rfl,fun w a=>by go_simp⟩) b rfl ?_;refine Bv (i:=15) (v:=.pointer (T ⟨c,3,Z⟩)) rfl (by kernel_rfl) (by kernel_rfl) (by kernel_rfl) (fun _ _ _ h=>h) (Or.inl ⟨by rfl,fun w a=>by go_simp⟩) b rfl ?_;refine Bv (i:=16) (v:=.string y) rfl (by kernel_rfl) (by kernel_rfl) (by kernel_rfl) (fun _ _ _ h=>h) (Or.inl ⟨by rfl,fun w a=>by obtain⟨l,m,n,o,p,j,k⟩:=g.o _ a;go_simp⟩) b rfl ?_;refine Bv (i:=17) (v:=G A x) rfl (by kernel_rfl) (by kernel_rfl) (by kernel_rfl) (fun _ _ _ h=>h) (Or.inl ⟨by rfl,fun w a=>by obtain⟨l,m,n,o,p,j,k⟩:=g.o _ a;exact Nq (by rfl) (by rfl) (by rfl) k⟩) b rfl ?_;refine Bv (i:=18) (v:=.pointer (T ⟨c,5,Z⟩)) rfl (by kernel_rfl) (by kernel_rfl) (by kernel_rfl) (fun _ _ _ h=>h) (Or.inl ⟨by rfl,fun w a=>by go_simp⟩) b rfl ?_;refine Bv (i:=19) (v:=G A s) rfl (by kernel_rfl) (by kernel_rfl) (by kernel_rfl) (fun _ _ _ h=>h) (Or.inl ⟨by rfl,fun w a=>by obtain⟨l,m,n,o,p,j,k⟩:=g.o _ a;go_simp⟩) b rfl ?_;refine Bv (i:=20) (v:=.agg #[G A t,G A u,G A x,G A s,G A 0,Y Z 0 0,G A 0,G A 0]) rfl (by kernel_rfl) (by kernel_rfl) (by kernel_rfl) (fun _ _ _ h=>h) (Or.inl ⟨by rfl,fun w a=>by go_simp⟩) b rfl ?_;refine wpAnyH_ready (rs:=[21]) (by kernel_rfl) (by simp) ?_;refine AllReadyH.cons rfl (fun K q=>?_) AllReadyH.nil;go_simp;refine q.out _ _ (b.alloc _) (fun b=>?_);clear q K;refine wpAnyH_ready (rs:=[22]) (by kernel_rfl) (by simp) ?_;refine AllReadyH.cons rfl (fun K q=>?_) AllReadyH.nil;go_simp;refine q.out _ _ (((O.refl _ e).alloc _).drew) (fun b=>?_);clear q K;refine wpAnyH_done (by kernel_rfl) ?_ _;exact HQ.o _ _ _ _ _ _ _ _ _ _ _ _ _ _ _ _ _ _ _ _ _ _ (W.new e _ _) (((O.refl _ e).alloc _).drew)
theorem WU(R:Act->World->Prop)(m Q a t g:Nat)(n:Nat)(w y z B C E F:Value)(P:ByteArray)(l:List Nat)(d:Option Addr)(e:Nat)(b:World){S x2 x3 x4 x6 x8 x9 U a2 a3 a4 a5 a6 a7 a8 a9 b0 b1 b2 b3 b4 b6 b7 b8 b9 c5 c8 c9 d0 d1 d2 d3 d4 j8 j9 k0 k1 k2 k3 k4 k5 k6 k7 k8 k9 d5 d6 d7 d8 d9 e0 e1 e2 e3 e4 e5 e6 e7 e8 e9 f0 f1 f2 f3 f4 f6 f7 f8 f9 g0 g1 g2 g3 g4 g6 g7 g8 g9 h0 h2 h3 h4 h5 h6 h7 h8 h9 i1 i2 i3 i4 i5 i6 i7 i8 i9 j0 V X a0 a1:Value}
 (h1:b.cell? ⟨m,1,Z⟩=T (.map (T Q)))(hn:b.cell? ⟨t,0,Z⟩=T (.string P))(hL:(Instr.lookup 121 (.map (T Q)) (.string P) false).run prog b.drew=.ok (G A n) b.drew)
 (c:W a #[w,y,z,B,C,Y d l.length e,E,F] 189 b)(s:Ay g b (Y d l.length e) l)(hB:g<=b.heap.size)(hl:l.length<=4000)
 (I:∀(u:Value) (i:World) (l0 l1 l2 l3 l4 l5 l6 l7 l8 l9 m0 m1:Value),W a #[w,y,z,B,C,u,E,F] 189 i->Ay g i u (l++[n])->O (fun k=>k=a\/(Value.slice d l.length e).ownBlock=T k) b i->R {tmps:=#[.pointer (T ⟨m,0,Z⟩),S,x2,x3,x4,.pointer (T ⟨a,0,Z⟩),x6,.pointer (T ⟨t,0,Z⟩),x8,x9,U,a2,a3,a4,a5,a6,a7,a8,a9,b0,b1,b2,b3,b4,b6,b7,b8,b9,c5,c8,c9,d0,d1,d2,d3,d4,l0,l1,l2,l3,l4,l5,l6,l7,l8,l9,m0,m1,d5,d6,d7,d8,d9,e0,e1,e2,e3,e4,e5,e6,e7,e8,e9,f0,f1,f2,f3,f4,f6,f7,f8,f9,g0,g1,g2,g3,g4,g6,g7,g8,g9,h0,h2,h3,h4,h5,h6,h7,h8,h9,i1,i2,i3,i4,i5,i6,i7,i8,i9,j0,V,X,a0,a1],defers:=[]} i):
 Code.wp prog (.region 5 #[⟨T 36,.fieldAddr 189 (.tmp 5) 5,0, "build.go:90",#[],Z⟩,⟨T 37,.load 50 (.tmp 36),50, "build.go:90",#[⟨0,.data⟩],Z⟩,⟨T 38,.move (.tmp 0),198, "build.go:90",#[],Z⟩,⟨T 39,.nilCheck (.tmp 38),0, "build.go:90",#[⟨2,.data⟩],Z⟩,⟨T 40,.fieldAddr 124 (.tmp 39) 1,0, "build.go:90",#[⟨3,.data⟩],Z⟩,⟨T 41,.load 121 (.tmp 40),121, "build.go:90",#[⟨4,.data⟩],Z⟩,⟨T 42,.fieldAddr 126 (.tmp 7) 0,0, "build.go:90",#[],Z⟩,⟨T 43,.load 9 (.tmp 42),9, "build.go:90",#[⟨6,.data⟩],Z⟩,⟨T 44,.lookup 121 (.tmp 41) (.tmp 43) false,3, "build.go:90",#[⟨5,.data⟩,⟨7,.data⟩],Z⟩,⟨T 45,.buildSlice 50 1 #[(0,.tmp 44)],50, "build.go:90",#[⟨8,.data⟩],Z⟩,⟨T 46,.call ⟨.builtin .append,#[.tmp 37,.tmp 45],#[50,50]⟩,50, "build.go:90",#[⟨1,.data⟩,⟨9,.data⟩],Z⟩,⟨T 47,.fieldAddr 189 (.tmp 5) 5,0, "build.go:90",#[⟨0,.phase⟩,⟨1,.phase⟩,⟨2,.phase⟩,⟨3,.phase⟩,⟨4,.phase⟩,⟨5,.phase⟩,⟨6,.phase⟩,⟨7,.phase⟩,⟨8,.phase⟩,⟨9,.phase⟩,⟨10,.phase⟩],Z⟩,⟨Z,.store 50 (.tmp 47) (.tmp 46),0, "build.go:90",#[⟨11,.data⟩,⟨10,.data⟩,⟨10,.chain⟩,⟨0,.phase⟩,⟨1,.phase⟩,⟨2,.phase⟩,⟨3,.phase⟩,⟨4,.phase⟩,⟨5,.phase⟩,⟨6,.phase⟩,⟨7,.phase⟩,⟨8,.phase⟩,⟨9,.phase⟩,⟨10,.phase⟩],Z⟩] true) (Mi R) {tmps:=#[.pointer (T ⟨m,0,Z⟩),S,x2,x3,x4,.pointer (T ⟨a,0,Z⟩),x6,.pointer (T ⟨t,0,Z⟩),x8,x9,U,a2,a3,a4,a5,a6,a7,a8,a9,b0,b1,b2,b3,b4,b6,b7,b8,b9,c5,c8,c9,d0,d1,d2,d3,d4,j8,j9,k0,k1,k2,k3,k4,k5,k6,k7,k8,k9,d5,d6,d7,d8,d9,e0,e1,e2,e3,e4,e5,e6,e7,e8,e9,f0,f1,f2,f3,f4,f6,f7,f8,f9,g0,g1,g2,g3,g4,g6,g7,g8,g9,h0,h2,h3,h4,h5,h6,h7,h8,h9,i1,i2,i3,i4,i5,i6,i7,i8,i9,j0,V,X,a0,a1],defers:=[]} b:=by
 obtain⟨i0,j1,j2,j3,j4⟩:=info_parts Tryz.infoInt;have M:=Ae c;have N:=c.cell 5;have f5:=c.frozen 5;simp only[gR,gP,gQ]at N;obtain⟨p,HB,HR,HQ⟩:=Ba (Am s c (by decide)) c s I;clear c s I;go_region_law(refine AC rfl _ _ 50 rfl g 3 i0 (G A 0) 1 8 underlying50 j1 j2 j3 j4 rfl (by decide) _ _ _ rfl (World.ownsRow.alloc HR.o _) ⟨b.heap.size,0,Z⟩ 1 1 [G A n] rfl rfl (AD rfl _ _) (fun x L=>by simp at L;subst L;rfl) (by decide) (by unfold maxLen;omega) (by omega) (by simp;omega) ?_;intro u f r o m2;have q1:f.cell? ⟨a,5,Z⟩=T (Y d l.length e):=(gT (o.block a (by simp;omega) (fun h=>p.o a h.symm rfl))).trans (by rw[<-N];exact gT (iC _ _ _ M));have q2:f.frozen? ⟨a,5,Z⟩=false:=(gY (o.block a (by simp;omega) (fun h=>p.o a h.symm rfl))).trans (by rw[<-f5];exact gY (iC _ _ _ M));obtain⟨j5,j7,j6,rfl⟩:=Ad r);all_goals
  have H:O (fun k=>(Value.slice d l.length e).ownBlock=T k) b f:=O.grown (((O.refl _ b).alloc (.cells #[G A n] 3)).drew) o (fun j hj=>.inl hj);have v:=HB.o.d8 H (fun q=>p.o a q rfl);have K:O (fun k=>k=a) f (f.setCell ⟨a,5,Z⟩ (Y j5 j7 j6)):=(O.refl _ _).t9 5 _;exact HQ.o _ _ _ _ _ _ _ _ _ _ _ _ _ _ (v.set 5 _) (by show World.ownsRow _ _ _ _ _ (l++[n]).length ((l++[n]).map _);rw[jZ,gW];exact Ac r K (Am r v (by decide))) ((H.mono (fun _ _ q=>.inr q)).trans (K.mono (fun _ _ q=>.inl q)))
theorem O.within{X:Nat->Prop}{a b c:World}(h:O kJ a b)(k:O X b c)(e:∀j,X j->a.heap.size<=j):O kJ a c:=
 ⟨k.os.trans h.os,k.tape.trans h.tape,k.output.trans h.output,iG h.size k.size,fun i d _=>by rw[k.block i (iI d h.size) (fun q=>by have:=e i q;omega),h.block i d id]⟩
theorem NN(R:Act->World->Prop)(d p e c:Nat)(n:Nat)(g h c2 i j l m o:Value)(r:ByteArray)(a:World){s M x4 x6 x7 x8 x9 t z B C E F H I K L N P Q S U V X a0 a1 a2 a3 a4 a5 a6 a7 a8 a9 b0 b1 b2 b3 b4 b5 b6 b7 b8 b9 c8 c9 d0 d1 d2 d3 d4 d5 d6 d7 d8 d9 e0 e1 e2 e3 e4 e5 e6 h4 h5 h6 h7 h8 h9 i0 i1 i2 e7 e8 e9 f0 f1 f3 f4 f5 f6 f7 f8 f9 g0 g1 g2 g3 g4 g5 g6 g7 g8 g9 h1 h2 h3 u v x y:Value}
 (h0:a.cell? ⟨d,0,Z⟩=T (.map (T p)))(hn:a.cell? ⟨e,3,Z⟩=T (.string r))(hL:(Instr.lookup 121 (.map (T p)) (.string r) false).run prog a.drew=.ok (G A n) a.drew)
 (b:W c #[g,h,c2,i,j,l,m,o] 189 a)
 (q:∀(f:World) (i3 i4 i5 i6 i7 i8 i9 j0 j1:Value),W c #[g,h,G A n,i,j,l,m,o] 189 f->O (fun k=>k=c) a f->R {tmps:=#[.pointer (T ⟨d,0,Z⟩),s,M,.pointer (T ⟨e,0,Z⟩),x4,.pointer (T ⟨c,0,Z⟩),x6,x7,x8,x9,t,z,B,C,E,F,H,I,K,L,N,P,Q,S,U,V,X,a0,a1,a2,a3,a4,a5,a6,a7,a8,a9,b0,b1,b2,b3,b4,b5,b6,b7,b8,b9,c8,c9,d0,d1,d2,d3,d4,d5,d6,d7,d8,d9,e0,e1,e2,e3,e4,e5,e6,i3,i4,i5,i6,i7,i8,i9,j0,j1,e7,e8,e9,f0,f1,f3,f4,f5,f6,f7,f8,f9,g0,g1,g2,g3,g4,g5,g6,g7,g8,g9,h1,h2,h3,u,v,x,y],defers:=[]} f):
 Code.wp prog (.region 13 #[⟨T 66,.move (.tmp 0),198, "build.go:97",#[],Z⟩,⟨T 67,.nilCheck (.tmp 66),0, "build.go:97",#[⟨0,.data⟩],Z⟩,⟨T 68,.fieldAddr 124 (.tmp 67) 0,0, "build.go:97",#[⟨1,.data⟩],Z⟩,⟨T 69,.load 121 (.tmp 68),121, "build.go:97",#[⟨2,.data⟩],Z⟩,⟨T 70,.fieldAddr 230 (.tmp 3) 2,0, "build.go:97",#[],Z⟩,⟨T 71,.fieldAddr 126 (.tmp 70) 0,0, "build.go:97",#[⟨4,.data⟩],Z⟩,⟨T 72,.load 9 (.tmp 71),9, "build.go:97",#[⟨5,.data⟩],Z⟩,⟨T 73,.lookup 121 (.tmp 69) (.tmp 72) false,3, "build.go:97",#[⟨3,.data⟩,⟨6,.data⟩],Z⟩,⟨T 74,.fieldAddr 189 (.tmp 5) 2,0, "build.go:97",#[⟨0,.phase⟩,⟨1,.phase⟩,⟨2,.phase⟩,⟨3,.phase⟩,⟨4,.phase⟩,⟨5,.phase⟩,⟨6,.phase⟩,⟨7,.phase⟩],Z⟩,⟨Z,.store 3 (.tmp 74) (.tmp 73),0, "build.go:97",#[⟨8,.data⟩,⟨7,.data⟩,⟨0,.phase⟩,⟨1,.phase⟩,⟨2,.phase⟩,⟨3,.phase⟩,⟨4,.phase⟩,⟨5,.phase⟩,⟨6,.phase⟩,⟨7,.phase⟩],Z⟩] true) (Mi R) {tmps:=#[.pointer (T ⟨d,0,Z⟩),s,M,.pointer (T ⟨e,0,Z⟩),x4,.pointer (T ⟨c,0,Z⟩),x6,x7,x8,x9,t,z,B,C,E,F,H,I,K,L,N,P,Q,S,U,V,X,a0,a1,a2,a3,a4,a5,a6,a7,a8,a9,b0,b1,b2,b3,b4,b5,b6,b7,b8,b9,c8,c9,d0,d1,d2,d3,d4,d5,d6,d7,d8,d9,e0,e1,e2,e3,e4,e5,e6,h4,h5,h6,h7,h8,h9,i0,i1,i2,e7,e8,e9,f0,f1,f3,f4,f5,f6,f7,f8,f9,g0,g1,g2,g3,g4,g5,g6,g7,g8,g9,h1,h2,h3,u,v,x,y],defers:=[]} a:=by
 have j2:=Ae b;have r2:=b.cell 2;have f2:=b.frozen 2;simp only[gR,gP,gQ]at r2;have HB:=J b;have HQ:=J q;clear b q;go_region;all_goals exact HQ.o _ _ _ _ _ _ _ _ _ _ (W.set (w:=a.drew) HB.o 2 _) (((O.refl _ a).drew).t9 2 _)
theorem Cv.eX{c e i B l b a f g w j}(h:Cv c e i B l b f g w)(d:O (fun k=>k=c) w j)(o:W c (MT e i f g a) 124 j)(m:a.cH=b.cH)(n:a.r9=b.r9):Cv c e i B l a f g j:=
 ⟨o,h.fns.d8 d (h.fns.ne h.cI),by rw[m];exact h.t8.d8 d (h.t8.ne h.cI),by rw[m];exact Ac h.cH d (Am h.cH h.cI (by decide)),by rw[n];exact h.r9.dO d (fun k r t s p q=>by subst p;rw[Er h.cI q];decide),h.ne⟩
theorem AR.lt{B w a l}(h:AR B w a l)(k)(b:a.ownBlock=T k):k<w.heap.size:=by obtain⟨d,c,_⟩:=h;exact(c.lt k b).2
theorem Cv.off{j l p B f m b o g d w q}(h:Cv j l p B m b o g w)(a:O (fun k=>k=f) w q)(c:W f d 189 w)(y:∀k,g.ownBlock=T k->k≠f):Cv j l p B m b o g q:=by refine⟨h.cI.d8 a (h.cI.ne c (by decide)),h.fns.d8 a (h.fns.ne c),h.t8.d8 a (h.t8.ne c),Ac h.cH a (Am h.cH c (by decide)),?_,h.ne⟩;obtain⟨d,x,u,v⟩:=h.r9;refine⟨d,Ac x a (fun k t=>y k t),u,fun i h s=>?_⟩;obtain⟨r,e,n⟩:=v i h s;exact⟨r,e,Ac n a (Am n c (by decide))⟩
theorem EW{g o i B rb fn b s r m P u n j f e d c d0 d1 d2 d3 d4 d5 d6 d7 v w V}(l:W rb #[P,u,n,j,f,e,d,c] 189 V)(a:w.heap.size<=rb)
 (K:(#[d0,d1,d2,d3,d4,d5,d6,d7]:Array Value)=(Kr (AB fn s b) v).toArray)(p:Ay w.heap.size V v (AB fn s b).args)(h:Cv g o i B fn (Cc s b) r m V)(N:∀k,m.ownBlock=T k->k<w.heap.size)(L:JX g i B w V):
 W rb #[d0,d1,d2,d3,d4,d5,d6,d7] 189 ((((((((V.setCell ⟨rb,0,Z⟩ d0).setCell ⟨rb,1,Z⟩ d1).setCell ⟨rb,2,Z⟩ d2).setCell ⟨rb,3,Z⟩ d3).setCell ⟨rb,4,Z⟩ d4).setCell ⟨rb,5,Z⟩ d5).setCell ⟨rb,6,Z⟩ d6).setCell ⟨rb,7,Z⟩ d7)/\
 ∃t,Ending.returned (.agg #[d0,d1,d2,d3,d4,d5,d6,d7])=.returned (.agg (Kr (AB fn s b) t).toArray)/\Ay w.heap.size ((((((((V.setCell ⟨rb,0,Z⟩ d0).setCell ⟨rb,1,Z⟩ d1).setCell ⟨rb,2,Z⟩ d2).setCell ⟨rb,3,Z⟩ d3).setCell ⟨rb,4,Z⟩ d4).setCell ⟨rb,5,Z⟩ d5).setCell ⟨rb,6,Z⟩ d6).setCell ⟨rb,7,Z⟩ d7) t (AB fn s b).args/\Lo g o i B fn (Cc s b) ((((((((V.setCell ⟨rb,0,Z⟩ d0).setCell ⟨rb,1,Z⟩ d1).setCell ⟨rb,2,Z⟩ d2).setCell ⟨rb,3,Z⟩ d3).setCell ⟨rb,4,Z⟩ d4).setCell ⟨rb,5,Z⟩ d5).setCell ⟨rb,6,Z⟩ d6).setCell ⟨rb,7,Z⟩ d7)/\JX g i B w ((((((((V.setCell ⟨rb,0,Z⟩ d0).setCell ⟨rb,1,Z⟩ d1).setCell ⟨rb,2,Z⟩ d2).setCell ⟨rb,3,Z⟩ d3).setCell ⟨rb,4,Z⟩ d4).setCell ⟨rb,5,Z⟩ d5).setCell ⟨rb,6,Z⟩ d6).setCell ⟨rb,7,Z⟩ d7):=by
 have q:O (fun k=>k=rb) V ((((((((V.setCell ⟨rb,0,Z⟩ d0).setCell ⟨rb,1,Z⟩ d1).setCell ⟨rb,2,Z⟩ d2).setCell ⟨rb,3,Z⟩ d3).setCell ⟨rb,4,Z⟩ d4).setCell ⟨rb,5,Z⟩ d5).setCell ⟨rb,6,Z⟩ d6).setCell ⟨rb,7,Z⟩ d7):=
  ((((((((O.refl _ V).t9 0 _).t9 1 _).t9 2 _).t9 3 _).t9 4 _).t9 5 _).t9 6 _).t9 7 _
 have x:W rb #[d0,u,n,j,f,e,d,c] 189 (V.setCell ⟨rb,0,Z⟩ d0):=l.set 0 d0;have y:W rb #[d0,d1,n,j,f,e,d,c] 189 ((V.setCell ⟨rb,0,Z⟩ d0).setCell ⟨rb,1,Z⟩ d1):=x.set 1 d1;have z:W rb #[d0,d1,d2,j,f,e,d,c] 189 (((V.setCell ⟨rb,0,Z⟩ d0).setCell ⟨rb,1,Z⟩ d1).setCell ⟨rb,2,Z⟩ d2):=y.set 2 d2;have C:W rb #[d0,d1,d2,d3,f,e,d,c] 189 ((((V.setCell ⟨rb,0,Z⟩ d0).setCell ⟨rb,1,Z⟩ d1).setCell ⟨rb,2,Z⟩ d2).setCell ⟨rb,3,Z⟩ d3):=z.set 3 d3;have E:W rb #[d0,d1,d2,d3,d4,e,d,c] 189 (((((V.setCell ⟨rb,0,Z⟩ d0).setCell ⟨rb,1,Z⟩ d1).setCell ⟨rb,2,Z⟩ d2).setCell ⟨rb,3,Z⟩ d3).setCell ⟨rb,4,Z⟩ d4):=C.set 4 d4;have F:W rb #[d0,d1,d2,d3,d4,d5,d,c] 189 ((((((V.setCell ⟨rb,0,Z⟩ d0).setCell ⟨rb,1,Z⟩ d1).setCell ⟨rb,2,Z⟩ d2).setCell ⟨rb,3,Z⟩ d3).setCell ⟨rb,4,Z⟩ d4).setCell ⟨rb,5,Z⟩ d5):=E.set 5 d5;have H:W rb #[d0,d1,d2,d3,d4,d5,d6,c] 189 (((((((V.setCell ⟨rb,0,Z⟩ d0).setCell ⟨rb,1,Z⟩ d1).setCell ⟨rb,2,Z⟩ d2).setCell ⟨rb,3,Z⟩ d3).setCell ⟨rb,4,Z⟩ d4).setCell ⟨rb,5,Z⟩ d5).setCell ⟨rb,6,Z⟩ d6):=F.set 6 d6;have I:W rb #[d0,d1,d2,d3,d4,d5,d6,d7] 189 ((((((((V.setCell ⟨rb,0,Z⟩ d0).setCell ⟨rb,1,Z⟩ d1).setCell ⟨rb,2,Z⟩ d2).setCell ⟨rb,3,Z⟩ d3).setCell ⟨rb,4,Z⟩ d4).setCell ⟨rb,5,Z⟩ d5).setCell ⟨rb,6,Z⟩ d6).setCell ⟨rb,7,Z⟩ d7):=H.set 7 d7;refine⟨I,v,by rw[K],Ac p q (Am p l (by decide)),⟨r,m,h.off q l (fun k M=>by have:=N k M;omega)⟩,?_⟩;exact(((((((L.cO 0 d0 a).cO 1 d1 a).cO 2 d2 a).cO 3 d3 a).cO 4 d4 a).cO 5 d5 a).cO 6 d6 a).cO 7 d7 a
theorem T4(a y u B d b s a1 c1 a2 l2 c2 w)(h:Lo a y u B d b w)(hB:B<=w.heap.size)(ha:w.ownsRow 0 126 2 (Y a1 s.args.length c1) s.args.length (BS s.args))(ho:Z6 s)(hn:b.cH.length<=4000)(F:b.pl<=4000)(hc:b.ca<=4000)(hd:s.kind=0->s.tg.d9∉b.cH):
 Calls prog 148 #[.pointer (T ⟨a,0,Z⟩),.agg (Fc s (Y a1 s.args.length c1) (Y a2 l2 c2))] w fun e w'=>∃v,e=.returned (.agg (Kr (AB d s b) v).toArray)/\Ay w.heap.size w' v (AB d s b).args/\Lo a y u B d (Cc s b) w'/\JX a u B w w':=by
 obtain⟨I,SB,RB,b9,HA,HD⟩:=EF (((O.refl kJ w).alloc (.cells (Fc s (Y a1 s.args.length c1) (Y a2 l2 c2)) 230)).alloc (.cells #[G A 0,G A 0,G A 0,G A 0,G A 0,Y Z 0 0,G A 0,G A 0] 189)) ((W.new w (Fc s (Y a1 s.args.length c1) (Y a2 l2 c2)) 230).alloc (.cells #[G A 0,G A 0,G A 0,G A 0,G A 0,Y Z 0 0,G A 0,G A 0] 189)) (W.new (w.alloc (.cells (Fc s (Y a1 s.args.length c1) (Y a2 l2 c2)) 230)) #[G A 0,G A 0,G A 0,G A 0,G A 0,Y Z 0 0,G A 0,G A 0] 189) h ha hd;obtain⟨nv,X,a7⟩:=h;have h2:=Ae a7.cI;have K:=J a7;have a3:=J a7.r9.lt;clear ha hd a7;unfold Fc at*;have c6:((w.alloc (.cells #[G A s.kind,.string s.tg.d9,G A s.tg.l7,.string s.sr.d9,G A s.sr.l7,G A s.field,Y a1 s.args.length c1,Y a2 l2 c2] 230)).alloc (.cells #[G A 0,G A 0,G A 0,G A 0,G A 0,Y Z 0 0,G A 0,G A 0] 189)).heap.size=w.heap.size+2:=by simp
 have b7:(w.alloc (.cells #[G A s.kind,.string s.tg.d9,G A s.tg.l7,.string s.sr.d9,G A s.sr.l7,G A s.field,Y a1 s.args.length c1,Y a2 l2 c2] 230)).heap.size=w.heap.size+1:=by simp
 rw[b7]at RB;generalize c5:(fun(e:Ending) (w':World)=>∃v,e=.returned (.agg (Kr (AB d s b) v).toArray)/\Ay w.heap.size w' v (AB d s b).args/\Lo a y u B d (Cc s b) w'/\JX a u B w w')=Po;have HP:=J c5;clear c5;go_enter func148,ntmps148;go_wp2_with fail;try rw[b7]
 clear b7;generalize (w.alloc _).alloc _=W0 at*;have B0:=J (b9.o.s9 I.o);have a4:=J c6;clear c6;refine DK (WS _ a u w.heap.size s.kind s.field (vx b.cH s.tg.d9:Nat) (vx b.cH s.sr.d9:Nat) s.tg.d9 s.sr.d9 W0 (fun w' c4=>?_) ?_)
 .obtain⟨nv,X,c9⟩:=B0.o;have b3:=c9.s9 c4;have b0:=SB.o.d8 c4 id;exact⟨b3.cI.cell 1,b0.cell 0,b0.cell 1,b0.cell 3,b0.cell 5,b3.t8.look ho.tg,b3.t8.look ho.sr⟩
 intro w9 y8 y9 h4 h5 h7 h8 h9 i0 i2 i3 i4 i5 i6 i7 i8 i9 j2 j3 j5 j6 j9 b5 a6;rw[a4.o]at b5;obtain⟨S9,R9,L9,O9⟩:=Ba (SB.o.d8 a6 id) (RB.o.d8 a6 id) b5 (I.o.trans a6);have z0:=S9.o.cell 6;have z1:=a6.size;have z2:=a4.o;simp only[gR,gP,gQ]at z0;clear b5 a6 I SB RB B0;rw[a4.o];rw[a4.o]at z1;clear a4 z2;go_wp2_with fail;go_loopw[32] (fun i wr=>∃(k:Nat) (l:List Nat) (av:Option Addr) (ac:Nat),k<=s.args.length/\i=G A k/\D (O kJ w wr)/\D (W w.heap.size #[G A s.kind,.string s.tg.d9,G A s.tg.l7,.string s.sr.d9,G A s.sr.l7,G A s.field,Y a1 s.args.length c1,Y a2 l2 c2] 230 wr)/\D (W (w.heap.size+1) #[G A 0,G A 0,G A 0,G A 0,G A 0,Y Z 0 0,G A 0,G A 0] 189 wr)/\D (W (w.heap.size+2) #[G A s.kind,G A (vx b.cH s.tg.d9:Nat),G A (vx b.cH s.sr.d9:Nat),G A s.field,G A 0,Y av l.length ac,G A 0,G A 0] 189 wr)/\D (Ay w.heap.size wr (Y av l.length ac) l)/\D (l=(s.args.take k).map fun t=>vx b.cH t.d9)) (fun i _=>s.args.length-(intOf i).toNat)
 case atStart=>exact⟨0,[],Z,0,by omega,rfl,O9,S9,R9,L9,iB _ _ _ _,rfl⟩
 case round=>
  obtain⟨k,l,f,m,d8,rfl,r,s1,H,z,o,a8⟩:=hrel;clear O9 S9 R9 L9;by_cases b6:k<s.args.length
  .obtain⟨g,rfl⟩:=Ap HA.o (by omega);have b1:=Ac HA.o r.o (fun _ _ q=>q);have b2:=FK b6;have c0:=b1.cellAt (k*2) (by omega);have c8:=b1.cellAt (k*2+1) (by omega);rw[b2.1]at c0;rw[b2.2]at c8;have lg:=(b1.lt g rfl).2;have d9:=ho.ar s.args[k] (iA _);have f2:=J (iX b6);clear b1 b2;generalize s.args[k]=t at*;have h1:=ho.al;have f4:D (l.length<=4000):=by show _<=_;rw[a8.o];simp;omega
   have g8:=r.o.size;have I:=J ((O.refl kJ wr).alloc (.cells #[.string t.d9,G A t.l7] 126));have N4:=J (W.new wr #[.string t.d9,G A t.l7] 126);go_wp2_with fail;generalize wr.alloc _=W4 at*;have O4:=J (r.o.trans I.o);obtain⟨nv,X,b4⟩:=b9.o.s9 O4.o;refine DK (WU _ a u (w.heap.size+2) wr.heap.size w.heap.size (vx b.cH t.d9) _ _ _ _ _ _ _ t.d9 l f m W4 (b4.cI.cell 1) (N4.o.cell 0) ((b4.s9 ((O.refl _ W4).drew)).t8.look d9) (z.o.d8 I.o id) (Ac o.o I.o (fun _ _ q=>q)) O4.o.size f4.o ?_);clear b4;intro v' w5 k2 k3 k5 k6 k9 l0 l3 l4 l5 l6 l7 l8 c3 a9 a5;obtain⟨f7,h3,f8,rfl⟩:=Ad a9;have f3:=Ag a9;subst f3;obtain⟨h0,e8,L5,I5⟩:=Ba a5 (fun kk (hk:(Value.slice f l.length m).ownBlock=T kk)=>(o.o.lt kk hk).1) c3 a9;have S5:D (W w.heap.size #[G A s.kind,.string s.tg.d9,G A s.tg.l7,.string s.sr.d9,G A s.sr.l7,G A s.field,Y (T ⟨g,0,Z⟩) s.args.length c1,Y a2 l2 c2] 230 w5):=(s1.o.d8 I.o id).d8 a5 (fun q=>q.elim (fun q=>by omega) (fun q=>Am o.o s1.o (by decide) _ q rfl));have R5:D (W (w.heap.size+1) #[G A 0,G A 0,G A 0,G A 0,G A 0,Y Z 0 0,G A 0,G A 0] 189 w5):=(H.o.d8 I.o id).d8 a5 (fun q=>q.elim (fun q=>by omega) (fun q=>Am o.o H.o (by decide) _ q rfl));have O5:D (O kJ w w5):=O4.o.within a5 (fun j q=>q.elim (fun q=>by omega) (fun q=>e8.o j q));clear c3 a9 a5 z o s1 H O4 N4 I;go_wp2_with fail;go_round
   case rel=>exact⟨k+1,l++[vx b.cH t.d9],f7,f8,by omega,by go_num,O5,S5,R5,L5,I5,by show _=_;rw[f2.o,jZ,<-a8.o];rfl⟩
   case measure=>simp[intOf];omega
  .have e:k=s.args.length:=by omega
   subst e;have a0:D (l=s.args.map fun t=>vx b.cH t.d9):=by show _=_;rw[a8.o,List.take_length]
   clear a8 b6 d8;have g8:=r.o.size;have m0:=s1.o.cell 0;obtain⟨L,M,N,Q,R,S,U,V⟩:=z.o.e8 0 1 2 3 4 5 6 7;have ef:=fun i=>Az z.o i
   have le:=Ae z.o;obtain⟨t0,t1,t2,t3,t4,t5,t6,t7⟩:=H.o.e8 0 1 2 3 4 5 6 7;have tf:=fun i=>Az H.o i
   simp only[gR,gP,gQ]at m0 L M N Q R S U V t0 t1 t2 t3 t4 t5 t6 t7;by_cases k0:s.kind=0
   .have j0:(s.kind:Int)=0:=by omega
    have J0:=J k0;rw[j0]at m0;clear j0 k0;obtain⟨m1,m2⟩:=s1.o.e2 1 2;simp only[gR,gP,gQ]at m1 m2;have n:=K.o.s9 r.o;obtain⟨na,nl,nc,rfl⟩:=Ad n.cH;have f1:=Ag n.cH;subst f1;have n2:=n.cI.cell 2;simp only[MT,gR,gP,gQ]at n2;have V1:D (Cv a y u B d b (Y na b.cH.length nc) X (wr.setCell ⟨w.heap.size+2,1,Z⟩ (G A b.cH.length))):=K.o.s9 (r.o.cO 1 _ (by omega));have L1:D (W (w.heap.size+2) #[G A s.kind,G A b.cH.length,G A (vx b.cH s.sr.d9:Nat),G A s.field,G A 0,Y f l.length m,G A 0,G A 0] 189 (wr.setCell ⟨w.heap.size+2,1,Z⟩ (G A b.cH.length))):=z.o.set 1 _;have R1:=J (H.o.dA (c:=w.heap.size+2) 1 (G A b.cH.length) (by omega));have I1:D (Ay w.heap.size (wr.setCell ⟨w.heap.size+2,1,Z⟩ (G A b.cH.length)) (Y f l.length m) l):=Ac o.o ((O.refl (fun k=>k=w.heap.size+2) wr).t9 1 _) (Am o.o z.o (by decide));have O1:=J (r.o.cO (b:=w.heap.size+2) 1 (G A b.cH.length) (by omega));clear n;clear L N Q R S U V t0 t1 t2 t3 t4 t5 t6 t7 tf;go_wp2_with(go_at_call 94;refine(Nd a y u B d b s.tg _ X _ V1.o (by have:=O1.o.size;omega) ho.tg hn (HD.o J0.o)).mono ?_;rintro e w6 ⟨rfl,⟨f5,h6⟩,f6⟩;have x:=J (f6.cI ⟨_,_,V1.o⟩ R1.o (by decide) (by decide));have C:=J (f6.cI ⟨_,_,V1.o⟩ L1.o (by decide) (by decide));clear ef M;obtain⟨L,M,N,Q,R,S,U,V⟩:=C.o.e8 0 1 2 3 4 5 6 7;have ef:=fun i=>Az C.o i;obtain⟨t0,t1,t2,t3,t4,t5,t6,t7⟩:=x.o.e8 0 1 2 3 4 5 6 7;have tf:=fun i=>Az x.o i;simp only[gR,gP,gQ]at L M N Q R S U V t0 t1 t2 t3 t4 t5 t6 t7;have I6:D (Ay w.heap.size w6 (Y f l.length m) l):=f6.row ⟨_,_,V1.o⟩ I1.o (by decide) (by decide);have F6:=J ((JX.cW O1.o).trans f6);have c7:=J h6;clear h6 f6);have H6:D (Cv a y u B d (Cc s b) f5 X w6):=by
     have e:Cc s b={b with cH:=b.cH++[s.tg.d9]}:=by simp[Cc,J0.o]
     show Cv _ _ _ _ _ _ _ _ _;rw[e];exact c7.o
    (try simp only[Exit.inBlock,Exit.then]);have E:=EW (fn:=d) (d0:=G A s.kind) (d1:=G A b.cH.length) (d2:=G A (vx b.cH s.sr.d9:Nat)) (d3:=G A s.field) (d4:=G A 0) (d5:=Y f l.length m) (d6:=G A 0) (d7:=G A 0) (b:=b) (s:=s) (w:=w) (rb:=w.heap.size+1) x.o (by omega) (v:=Y f l.length m) (by simp[Kr,AB,J0.o]) (by show Ay _ _ _ (s.args.map _);rw[<-a0.o];exact I6.o) H6.o a3.o F6.o;refine gZ (results_cell_row (P:=prog) (by rfl) _ _ (w.heap.size+1) 189 _ (0,0) _ (by rfl) E.1 underlying189 (by rfl) (by kernel_rfl)) (by rfl) ?_;have F:=HP.o;subst F;exact E.2
   by_cases b8:s.kind=4\/s.kind=7
   .have j0:¬(s.kind:Int)=0:=by omega
    have n:=K.o.s9 r.o;have m3:=s1.o.cell 3;simp only[gR,gP,gQ]at m3;have n0:=n.cI.cell 0;simp only[MT,gR,gP]at n0;have hL:=J ((n.s9 ((O.refl _ wr).drew)).fns.look ho.sr);clear n;have g9:=J b8;rcases b8 with k4|k7
    .have j4:(s.kind:Int)=4:=by omega
     have J4:=J k4;rw[j4]at m0;clear j4 j0 k4;go_wp2_with fail;refine DK (NN _ a y w.heap.size (w.heap.size+2) (vx d s.sr.d9) _ _ _ _ _ _ _ _ s.sr.d9 wr n0 m3 hL.o z.o ?_);intro w6 f9 g0 g1 g2 g3 g4 g5 g6 g7 C o6;have C:=J C;have x:=J (H.o.d8 o6 (by omega));have I6:D (Ay w.heap.size w6 (Y f l.length m) l):=Ac o.o o6 (Am o.o z.o (by decide));have O6:=J (r.o.within o6 (fun j q=>by omega));have H6:D (Cv a y u B d (Cc s b) nv X w6):=by
      have e:Cc s b=b:=by simp[Cc,J4.o]
      show Cv _ _ _ _ _ _ _ _ _;rw[e];exact K.o.s9 O6.o
     clear o6 L M N Q R S U V t0 t1 t2 t3 t4 t5 t6 t7 ef tf m0 m3 n0;obtain⟨L,M,N,Q,R,S,U,V⟩:=C.o.e8 0 1 2 3 4 5 6 7;have ef:=fun i=>Az C.o i
     obtain⟨t0,t1,t2,t3,t4,t5,t6,t7⟩:=x.o.e8 0 1 2 3 4 5 6 7;have tf:=fun i=>Az x.o i
     simp only[gR,gP,gQ]at L M N Q R S U V t0 t1 t2 t3 t4 t5 t6 t7;go_wp2_with fail;(try simp only[Exit.inBlock,Exit.then]);have E:=EW (fn:=d) (d0:=G A s.kind) (d1:=G A (vx b.cH s.tg.d9:Nat)) (d2:=G A (vx d s.sr.d9:Nat)) (d3:=G A s.field) (d4:=G A 0) (d5:=Y f l.length m) (d6:=G A 0) (d7:=G A 0) (b:=b) (s:=s) (w:=w) (rb:=w.heap.size+1) x.o (by omega) (v:=Y f l.length m) (by simp[Kr,AB,J4.o]) (by show Ay _ _ _ (s.args.map _);rw[<-a0.o];exact I6.o) H6.o a3.o (JX.cW O6.o);refine gZ (results_cell_row (P:=prog) (by rfl) _ _ (w.heap.size+1) 189 _ (0,0) _ (by rfl) E.1 underlying189 (by rfl) (by kernel_rfl)) (by rfl) ?_;have F:=HP.o;subst F;exact E.2
    .have j4:(s.kind:Int)=7:=by omega
     have J4:=J k7;rw[j4]at m0;clear j4 j0 k7;go_wp2_with fail;refine DK (NN _ a y w.heap.size (w.heap.size+2) (vx d s.sr.d9) _ _ _ _ _ _ _ _ s.sr.d9 wr n0 m3 hL.o z.o ?_);intro w6 f9 g0 g1 g2 g3 g4 g5 g6 g7 C o6;have C:=J C;have x:=J (H.o.d8 o6 (by omega));have I6:D (Ay w.heap.size w6 (Y f l.length m) l):=Ac o.o o6 (Am o.o z.o (by decide));have O6:=J (r.o.within o6 (fun j q=>by omega));have H6:D (Cv a y u B d (Cc s b) nv X w6):=by
      have e:Cc s b=b:=by simp[Cc,J4.o]
      show Cv _ _ _ _ _ _ _ _ _;rw[e];exact K.o.s9 O6.o
     clear o6 L M N Q R S U V t0 t1 t2 t3 t4 t5 t6 t7 ef tf m0 m3 n0;obtain⟨L,M,N,Q,R,S,U,V⟩:=C.o.e8 0 1 2 3 4 5 6 7;have ef:=fun i=>Az C.o i
     obtain⟨t0,t1,t2,t3,t4,t5,t6,t7⟩:=x.o.e8 0 1 2 3 4 5 6 7;have tf:=fun i=>Az x.o i
     simp only[gR,gP,gQ]at L M N Q R S U V t0 t1 t2 t3 t4 t5 t6 t7;go_wp2_with fail;(try simp only[Exit.inBlock,Exit.then]);have E:=EW (fn:=d) (d0:=G A s.kind) (d1:=G A (vx b.cH s.tg.d9:Nat)) (d2:=G A (vx d s.sr.d9:Nat)) (d3:=G A s.field) (d4:=G A 0) (d5:=Y f l.length m) (d6:=G A 0) (d7:=G A 0) (b:=b) (s:=s) (w:=w) (rb:=w.heap.size+1) x.o (by omega) (v:=Y f l.length m) (by simp[Kr,AB,J4.o]) (by show Ay _ _ _ (s.args.map _);rw[<-a0.o];exact I6.o) H6.o a3.o (JX.cW O6.o);refine gZ (results_cell_row (P:=prog) (by rfl) _ _ (w.heap.size+1) 189 _ (0,0) _ (by rfl) E.1 underlying189 (by rfl) (by kernel_rfl)) (by rfl) ?_;have F:=HP.o;subst F;exact E.2
   by_cases k1:s.kind=1
   .have j1:(s.kind:Int)=1:=by omega
    have J1:=J k1;rw[j1]at m0;clear j1 k1;have n:=K.o.s9 r.o;have n4:=n.cI.cell 4;have nf:=fun i=>Az n.cI i
    simp only[MT,gR,gP,gQ]at n4;have V6:D (Cv a y u B d (Cc s b) nv X ((wr.setCell ⟨a,4,Z⟩ (G A ((b.pl:Int)+1))).setCell ⟨w.heap.size+2,4,Z⟩ (G A ((b.pl:Int)+1)))):=
     K.o.eX (((r.o.mono (fun _ _ q=>q.elim)).t9 4 _).cO 4 _ (by omega)) (by
      have e:Cc s b={b with pl:=b.pl+1}:=by simp[Cc,J1.o]
      rw[e];exact(n.cI.set 4 _).dA 4 _ (by omega)) (by simp[Cc,J1.o]) (by simp[Cc])
    have x:=J ((H.o.dA (c:=a) 4 (G A ((b.pl:Int)+1)) (by omega)).dA (c:=w.heap.size+2) 4 (G A ((b.pl:Int)+1)) (by omega));have I6:D (Ay w.heap.size ((wr.setCell ⟨a,4,Z⟩ (G A ((b.pl:Int)+1))).setCell ⟨w.heap.size+2,4,Z⟩ (G A ((b.pl:Int)+1))) (Y f l.length m) l):=
     Ac o.o (((O.refl (fun k=>k=a\/k=w.heap.size+2) wr).setCell (p:=⟨a,4,Z⟩) (.inl (.inl rfl)) _).setCell (p:=⟨w.heap.size+2,4,Z⟩) (.inl (.inr rfl)) _) (fun k hk q=>q.elim (Am o.o n.cI (by decide) k hk) (Am o.o z.o (by decide) k hk))
    have F6:D (JX a u B w ((wr.setCell ⟨a,4,Z⟩ (G A ((b.pl:Int)+1))).setCell ⟨w.heap.size+2,4,Z⟩ (G A ((b.pl:Int)+1)))):=(((r.o.mono (fun _ _ q=>q.elim)).setCell (p:=⟨a,4,Z⟩) (.inl (.inl rfl)) _).cO 4 _ (by omega));have e9:a≠w.heap.size+2:=by omega
    have f0:a≠w.heap.size+1:=by omega
    clear n;go_wp2_with fail;(try simp only[Exit.inBlock,Exit.then]);have E:=EW (fn:=d) (d0:=G A s.kind) (d1:=G A (vx b.cH s.tg.d9:Nat)) (d2:=G A (vx b.cH s.sr.d9:Nat)) (d3:=G A s.field) (d4:=G A ((b.pl:Int)+1)) (d5:=Y f l.length m) (d6:=G A 0) (d7:=G A 0) (b:=b) (s:=s) (w:=w) (rb:=w.heap.size+1) x.o (by omega) (v:=Y f l.length m) (by simp[Kr,AB,J1.o]) (by show Ay _ _ _ (s.args.map _);rw[<-a0.o];exact I6.o) V6.o a3.o F6.o;refine gZ (results_cell_row (P:=prog) (by rfl) _ _ (w.heap.size+1) 189 _ (0,0) _ (by rfl) E.1 underlying189 (by rfl) (by kernel_rfl)) (by rfl) ?_;have F:=HP.o;subst F;exact E.2
   by_cases k8:s.kind=8
   .have j1:(s.kind:Int)=8:=by omega
    have J1:=J k8;rw[j1]at m0;clear j1 k8;have n:=K.o.s9 r.o;have n4:=n.cI.cell 5;have nf:=fun i=>Az n.cI i
    simp only[MT,gR,gP,gQ]at n4;have V6:D (Cv a y u B d (Cc s b) nv X ((wr.setCell ⟨a,5,Z⟩ (G A ((b.ca:Int)+1))).setCell ⟨w.heap.size+2,4,Z⟩ (G A ((b.ca:Int)+1)))):=
     K.o.eX (((r.o.mono (fun _ _ q=>q.elim)).t9 5 _).cO 4 _ (by omega)) (by
      have e:Cc s b={b with ca:=b.ca+1}:=by simp[Cc,J1.o]
      rw[e];exact(n.cI.set 5 _).dA 4 _ (by omega)) (by simp[Cc,J1.o]) (by simp[Cc])
    have x:=J ((H.o.dA (c:=a) 5 (G A ((b.ca:Int)+1)) (by omega)).dA (c:=w.heap.size+2) 4 (G A ((b.ca:Int)+1)) (by omega));have I6:D (Ay w.heap.size ((wr.setCell ⟨a,5,Z⟩ (G A ((b.ca:Int)+1))).setCell ⟨w.heap.size+2,4,Z⟩ (G A ((b.ca:Int)+1))) (Y f l.length m) l):=
     Ac o.o (((O.refl (fun k=>k=a\/k=w.heap.size+2) wr).setCell (p:=⟨a,5,Z⟩) (.inl (.inl rfl)) _).setCell (p:=⟨w.heap.size+2,4,Z⟩) (.inl (.inr rfl)) _) (fun k hk q=>q.elim (Am o.o n.cI (by decide) k hk) (Am o.o z.o (by decide) k hk))
    have F6:D (JX a u B w ((wr.setCell ⟨a,5,Z⟩ (G A ((b.ca:Int)+1))).setCell ⟨w.heap.size+2,4,Z⟩ (G A ((b.ca:Int)+1)))):=(((r.o.mono (fun _ _ q=>q.elim)).setCell (p:=⟨a,5,Z⟩) (.inl (.inl rfl)) _).cO 4 _ (by omega));have e9:a≠w.heap.size+2:=by omega
    have f0:a≠w.heap.size+1:=by omega
    clear n;go_wp2_with fail;(try simp only[Exit.inBlock,Exit.then]);have E:=EW (fn:=d) (d0:=G A s.kind) (d1:=G A (vx b.cH s.tg.d9:Nat)) (d2:=G A (vx b.cH s.sr.d9:Nat)) (d3:=G A s.field) (d4:=G A ((b.ca:Int)+1)) (d5:=Y f l.length m) (d6:=G A 0) (d7:=G A 0) (b:=b) (s:=s) (w:=w) (rb:=w.heap.size+1) x.o (by omega) (v:=Y f l.length m) (by simp[Kr,AB,J1.o]) (by show Ay _ _ _ (s.args.map _);rw[<-a0.o];exact I6.o) V6.o a3.o F6.o;refine gZ (results_cell_row (P:=prog) (by rfl) _ _ (w.heap.size+1) 189 _ (0,0) _ (by rfl) E.1 underlying189 (by rfl) (by kernel_rfl)) (by rfl) ?_;have F:=HP.o;subst F;exact E.2
   have j0:¬(s.kind:Int)=0:=by omega
   have j4:¬(s.kind:Int)=4:=by omega
   have j7:¬(s.kind:Int)=7:=by omega
   have j1:¬(s.kind:Int)=1:=by omega
   have j8:¬(s.kind:Int)=8:=by omega
   have H6:D (Cv a y u B d (Cc s b) nv X wr):=by
    have e:Cc s b=b:=by simp[Cc,k0,k1,k8]
    show Cv _ _ _ _ _ _ _ _ _;rw[e];exact K.o.s9 r.o
   go_wp2_with fail;(try simp only[Exit.inBlock,Exit.then]);have E:=EW (fn:=d) (d0:=G A s.kind) (d1:=G A (vx b.cH s.tg.d9:Nat)) (d2:=G A (vx b.cH s.sr.d9:Nat)) (d3:=G A s.field) (d4:=G A 0) (d5:=Y f l.length m) (d6:=G A 0) (d7:=G A 0) (b:=b) (s:=s) (w:=w) (rb:=w.heap.size+1) H.o (by omega) (v:=Y f l.length m) (by simp[Kr,AB,k0,b8,k1,k8]) (by show Ay _ _ _ (s.args.map _);rw[<-a0.o];exact o.o) H6.o a3.o (JX.cW r.o);refine gZ (results_cell_row (P:=prog) (by rfl) _ _ (w.heap.size+1) 189 _ (0,0) _ (by rfl) E.1 underlying189 (by rfl) (by kernel_rfl)) (by rfl) ?_;have F:=HP.o;subst F;exact E.2

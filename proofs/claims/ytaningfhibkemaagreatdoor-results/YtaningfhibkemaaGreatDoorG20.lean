/- Part of the proof: BuA BuB MaG QtA. -/
import Derived.Test.YtaningfhibkemaaGreatDoorG19
import Derived.StillTail
import Derived.OwnWalk
import Derived.Deep.RegionHeld
set_option maxRecDepth 100000
set_option maxHeartbeats 8000000
namespace Go.Proofs.YtaningfhibkemaaGreatDoor
open Go.RowKit Go.Maps Go.Proofs.Tryz
theorem Ti{P i}(h:i<P.length):As P i=P[i]:=by unfold As;rw[gL h];rfl
section
variable{P:Program}{p:Array Oper}{md:Region.Mode}{C:World->Prop}
def Tl(md:Region.Mode)(p:Array Oper)(m n:Nat):Bool:=(List.range n).all fun i=>decide (i<m)||(List.range (n+1)).any fun j=>decide (i<j) && Region.waitsFor md p j i
theorem NH{m n:Nat}{h:Array Bool}(B:Tl md p m n=true)(w:Region.chainB md p n=true)(l:HeadInv md p n h):
 ∀(d i:Nat),n-i=d->m<=i->i<n->h.getD i true=false->∀t,n<=t->t∉Region.ready md p h:=by
 intro d;induction d using Nat.strongRecOn with
 |_ d F=>
  intro i H K x v t L u;obtain⟨_,N,k,o⟩:=mem_ready.1 u;have C:t<p.size:=(Array.getElem?_eq_some_iff.1 k).1;by_cases E:t=n
  .subst E;have b:=List.all_eq_true.1 B i (List.mem_range.2 x);simp only[Bool.or_eq_true,jD]at b;obtain⟨j,y,q⟩:=List.any_eq_true.1 (b.resolve_left Z);simp only[Bool.and_eq_true,jD]at q;obtain⟨G,s,e,f,c,g⟩:=Region.waitsFor_spec q.2;have I:=List.mem_range.1 y;by_cases z:j=t
   .subst z;obtain rfl:=jQ (s.symm.trans k);have a:=o e f c;rw[g,getD_both v]at a;cases a
   .cases r:h.getD j false with
    |true=> have a:=l.closed j G s r e f c;rw[g,getD_both v]at a;cases a
    |false=>exact F (t-j) Z j rfl Z Z (getD_in (by rw[l.size];omega) r) t (gI _) u
  .have b:=List.all_eq_true.1 w t (List.mem_range.2 C);simp only[Bool.or_eq_true,jD]at b;obtain⟨M,A,e,f,c,g⟩:=Region.waitsFor_spec (b.resolve_left Z);obtain rfl:=jQ (A.symm.trans k);have a:=o e f c;rw[g,getD_both (l.tail (t-1) Z Z)]at a;cases a
def Pv(P:Program)(md:Region.Mode)(p:Array Oper)(C:World->Prop)(n:Nat)(L:Array Bool->Act->Prop):Nat->Array Bool->Act->Prop
 |0,b,a=>L b a
 |f+1,b,a=>Region.ready md p b≠[]/\∀i∈Region.ready md p b,i<n/\qOp P p C i (Pv P md p C n L f (b.setIfInBounds i true)) a
theorem Gl{n g:Nat}{L:Array Bool->Act->Prop}{Q':Exit->Act->World->Prop}(d:∀b a w,C w->L b a->wpAny P md p Q' g b a w):
 ∀(f:Nat) (b:Array Bool) (a:Act) (w:World),C w->Pv P md p C n L f b a->wpAny P md p Q' (f+g) b a w
 |0,b,a,w,c,h=>by rw[iO];exact d _ _ _ c h
 |f+1,b,a,w,c,h=>by rw[show f+1+g=(f+g)+1 by omega];exact⟨fun k=>jO k h.1,fun i m=>wpOp_of_qOp c (fun e o l j=>Gl d f _ e o l j) (h.2 i m).2⟩
theorem Pw{m n i t v}{L:Array Bool->Act->Prop}(z:p[i]? =some t)(Q:∀(j:Nat) (o:Oper) s b,p[j]? =some o->o.op≠.select s b)
 (N:Tl md p m n=true)(E:Region.chainB md p n=true)(M:m<=i)(G:i<n)(a0:∀c a,L c a->∀j∈Region.ready md p c,n<=j):
 ∀(f:Nat) (c:Array Bool) (a:Act),HeadInv md p n c->
  (∀j r,p[j]? =some r->j≠i->c.getD j true=false->(∀e∈r.after,Region.binds md e=true->e.on≠i)->t.apart p r=true)->
  i∈Region.ready md p c->YieldsIn P p C t v a->
  Pv P md p C n L f (c.setIfInBounds i true) (a.put t.dst v)->Pv P md p C n L (f+1) c a:=by
 intro f;induction f with
 |zero=>
  intro c a y _ g x H;have w:=(mem_ready.1 g).1;refine⟨fun h=>(by rw[h]at g;cases g),fun j l=>?_⟩;have u:j<n:=(iW j n).resolve_right (fun q=>NH N E y _ i rfl M G w j q l);refine⟨u,?_⟩;by_cases d:j=i
  .subst d;exact x.qOp z H
  .have:=a0 _ _ H j (ready_mono l d);omega
 |succ f ih=>
  intro c a y F g x H;have w:=(mem_ready.1 g).1;refine⟨fun h=>(by rw[h]at g;cases g),fun j l=>?_⟩;have u:j<n:=(iW j n).resolve_right (fun q=>NH N E y _ i rfl M G w j q l);refine⟨u,?_⟩;by_cases d:j=i
  .subst d;exact x.qOp z H
  .have U:=(H.2 j (ready_mono l d)).2;obtain⟨K,r,A,X⟩:=mem_ready.1 l;have a4:∀e∈r.after,Region.binds md e=true->e.on≠i:=fun e he Y a1=>by have q:=X e he Y;rw[a1,getD_both w]at q;cases q
   have V:=qOp_put A (F j r A d K a4) (fun s b=>Q i t s b z) (fun s b=>Q j r s b A) x U;refine qOp_mono (fun S B=>ih (c.setIfInBounds j true) S (y.set l u) (fun k ok hk a2 R a3=>?_) (ready_mono g (Ne.symm d)) B.1 ?_) V
   .refine F k ok hk a2 ?_ a3;by_cases I:j=k
    .subst I;exact K
    .rw[getD_set_ne true I]at R;exact R
   .rw[Array.setIfInBounds_comm _ _ d];exact B.2
theorem J3{m n g:Nat}{f:Act->Prop}(x:Region.noSelect p=true)(w:Tl md p m n=true)(r:Region.chainB md p n=true):
 ∀(l:List Oper) (k:Nat) (b:Array Bool) (a:Act),(∀j,j<l.length->l[j]? =p[k+j]?)->m<=k->k+l.length=n->HeadInv md p n b->
 Region.lexHead md p g l.length k b=true->wpQuiet P p C f l a->
 Pv P md p C n (fun z q=>Region.seqB md p g n z=true/\f q) l.length b a
 |[],k,b,a,_,_,i,_,d,h=>by
  have e:k=n:=by simpa using i
  subst e;exact⟨by simpa[Region.lexHead]using d,h⟩
 |o::l,k,b,a,t,G,i,y,d,h=>by
  have c:p[k]? =some o:=by simpa using(t 0 jY).symm
  simp only[gK,Region.lexHead,Bool.and_eq_true]at d;obtain⟨⟨H,F⟩,A⟩:=d;simp only[gK]at i;have s:k<n:=Z;have u:k∈Region.ready md p b:=by simpa using H
  have I:qOp P p C k (wpQuiet P p C f l) a:=by unfold qOp;simp only[c];exact h
  obtain⟨v,K,B⟩:=yieldsIn_of_qOp c I;exact Pw c (Region.noSelect_spec x) w r G s (fun z q E=>seqB_ready E.1) l.length b a y (Region.free_spec c F) u K
   (J3 x w r l (k+1) _ _ (fun j L=>by have:=t (j+1) jX;simpa[Nat.add_assoc,Nat.add_comm 1 j]using this) Z Z (y.set u s) A B)
def Oz(md:Region.Mode)(p:Array Oper)(n:Nat):Bool:=
 Region.noSelect p && decide (n<p.size) && decide (1<=n) && Tl md p 1 n && Region.chainB md p n && Region.free md p (Array.replicate p.size false) 0 && (Region.ready md p (Array.replicate p.size false)).contains 0 && Region.lexHead md p (p.size-n) (n-1) 1 ((Array.replicate p.size false).setIfInBounds 0 true)
theorem MX{id}{Q:Exit->Act->World->Prop}{a w o l v}(n)(K:P.follows .mixedOrders=true)(f:Oz .any (o::l).toArray n=true)
 (B:∀c a w,Q (.panic c) (a.put o.dst v) w->Q (.panic c) a w)(U:Yields P (o::l).toArray o v a)
 (h:wpQuiet P (o::l).toArray (fun b=>∃n,b=w.drewN n) (fun d=>∀b,(∃n,b=w.drewN n)->wpList P (o::l).toArray Q (l.drop (n-1)) d b) (l.take (n-1)) (a.put o.dst v)):(Code.region id (o::l).toArray true).wp P Q a w:=by
 simp only[Oz,Bool.and_eq_true,jD]at f;obtain⟨⟨⟨⟨⟨⟨⟨x,L⟩,a0⟩,N⟩,E⟩,F⟩,u⟩,I⟩:=f;have a1:n<l.length+1:=by simpa using L
 have e:(l.take (n-1)).length=n-1:=jX;have R:(o::l).toArray.size=l.length+1:=jY;have q:(l.drop (n-1)).length=(o::l).toArray.size-n:=jX;have z:(o::l).toArray[0]? =some o:=jY;have V:HeadInv .any (o::l).toArray n (Array.replicate (o::l).toArray.size false):=
  ⟨jY,fun j oj _ s=>(by rw[getD_replicate_false]at s;cases s),fun t _ S=>getD_in (by simpa using S) (getD_replicate_false _ _)⟩
 have M:0∈Region.ready .any (o::l).toArray (Array.replicate (o::l).toArray.size false):=by simpa using u
 have X:=V.set M Z;have H:=J3 (md:=.any) (m:=1) (g:=(o::l).toArray.size-n) x N E (l.take (n-1)) 1 _ (a.put o.dst v) (fun j r=>by
  have G:j<n-1:=by rw[e]at r;exact r
  simp[G,Nat.add_comm 1 j]) (gI _) Z X (by rw[e];exact I) h
 refine wp_region_any K ?_;have y:=Gl (C:=fun b=>∃n,b=w.drewN n) (Q':=Q) (g:=(o::l).toArray.size-n) (fun Y d b A i=>by
  have:=wpAny_of_seq (md:=.any) (Q':=Q) (l.drop (n-1)) n Y d b (fun j=>by rw[List.getElem?_drop];obtain⟨k,rfl⟩:∃k,n=k+1:=⟨n-1,Z⟩;simp[Nat.add_right_comm k 1 j]) (by rw[q];exact i.1) (i.2 b A)
  rwa [q]at this) _ _ _ _ ⟨1,rfl⟩ H
 rw[e,show n-1+((o::l).toArray.size-n)=l.length by omega]at y;rw[R];exact wpAny_take z x F u B U y
end
def Cq(m:Nat)(l:List ByteArray)(w:World):Prop:=∃n a,n<=l.length/\Bh m n a w/\∀s,a.atKey (Bn s) (.lit (.int .i64 0))=.lit (.int .i64 (vx l s:Nat))
theorem Cq.d8{m l}{X:Nat->Prop}{w a}(h:Cq m l w)(f:O X w a)(g:¬X m):Cq m l a:=by obtain⟨n,b,e,d,c⟩:=h;exact⟨n,b,e,d.d8 f g,c⟩
theorem Cq.ne{m b l w}(h:Cq m l w){a t c}(e:w.heap[b]? =some (.cells a t c)):m≠b:=by obtain⟨n,f,i,d,g⟩:=h;exact d.ne e
theorem Cq.lt{m l w}(h:Cq m l w):m<w.heap.size:=by obtain⟨n,b,d,a,c⟩:=h;exact World.ownsMap.lt a
theorem Cq.none(w:World):Cq w.heap.size [] (w.alloc (.map #[] 0)):=
 ⟨0,.map [],gI _,World.ownsMap_made w _ _ _,fun s=>by simp[DataW.atKey,vx,Bz]⟩
theorem Cq.look{m l w}(h:Cq m l w){s}(d:s.size<=4000):
 (Instr.lookup 121 (.map (some m)) (.string s) false).run prog w=.ok (.int .i64 (vx l s:Nat)) w:=by
 obtain⟨n,i,j,f,b⟩:=h;obtain⟨c,g,a,_⟩:=World.ownsMap.lookup_int f LU underlying121 underlying3 (OI w) (Jm d);rw[b s]at a;have e:((vx l s:Nat):Int)=c:=by simpa using a
 rw[e];exact g
theorem Kr(m:List ByteArray)(s:ByteArray):∀(l:List ByteArray),s∉l->∀k,Bz (l++m) s k=Bz m s (k+l.length)
 |[],_,k=>rfl
 |a::l,h,k=>by simp only[List.cons_append,Bz,gK];rw[jG (fun q=>h (by rw[Ct q];simp)),Kr m s l (fun q=>h (iA _ q)) (k+1)];congr 1;omega
theorem SN{l s}(h:s∉l)(k):Bz l s k= -1:=by obtain⟨a,b,_⟩:=CR l s k;have:=mt a.1 h;omega
theorem YQ(l t s)(h:t∉l):vx (l++[t]) s=if s=t then l.length else vx l s:=by
 by_cases a:s∈l
 .rw[OE a,jG (by rintro rfl;exact h a)]
 .unfold vx;rw[Kr [t] s l a];split
  .rename_i e;subst e;simp[Bz]
  .rename_i e;have b:Bz [t] s l.length= -1:=by simp only[Bz];rw[jG (fun q=>e (Ct q.symm))]
   have c:Bz l s 0= -1:=SN a 0;rw[iO,b,c]
theorem Cq.add{m l w}(h:Cq m l w){t}(b:t.size<=4000)(i:l.length<=4000)(o:t∉l):
 ∃a,(Instr.mapUpdate 121 (.map (some m)) (.string t) (.int .i64 l.length)).run prog w=.ok () a/\Cq m (l++[t]) a/\O (fun k=>k=m) w a:=by
 obtain⟨n,r,u,c,g⟩:=h;obtain⟨a,j,d,f⟩:=ET (p:=l.length) c b i Z;refine⟨a,j,⟨n+1,_,jX,d,fun s=>?_⟩,f⟩;rw[YQ l t s o];split
 .rename_i e;subst e;rw[Maps.atKey_put_same (World.ownsMap.isMap c) (LU.key (Jm b))]
 .rename_i e;rw[Maps.atKey_put_other (fun q=>e (Jl q)),g s]
theorem Ky{B m e a v n c l w b}(h:w.ownsRow B e a v n c)(g:O (fun k=>k=m) w b)(f:Cq m l w):b.ownsRow B e a v n c:=
 Ai h g (fun _ _ _ d q=>f.ne q d.symm)
def bK(a d B:Nat)(w:World)(k:Nat):Prop:=k=a\/k=d\/(B<=k/\∃b t c,w.heap[k]? =some (.cells b t c)/\(t=9\/t=189))
def Hz(bb vm B:Nat)(w a:World):Prop:=O (bK bb vm B w) w a
theorem Hz.refl(a b B w):Hz a b B w w:=O.refl _ _
theorem Hz.trans{f g B:Nat}{a b c:World}(h:Hz f g B a b)(k:Hz f g B b c):Hz f g B a c:=by
 refine⟨k.os.trans h.os,k.tape.trans h.tape,k.output.trans h.output,gW h.size k.size,fun i j d=>?_⟩;have e:=h.block i j d;rw[k.block i (gY j h.size) ?_,e];rintro(q|q|⟨n,l,t,m,q,r⟩)
 .exact d (.inl q)
 .exact d (.inr (.inl q))
 .rw[e]at q;exact d (.inr (.inr ⟨n,l,t,m,q,r⟩))
def bJ(a d B:Nat)(w:World)(k:Nat):Prop:=k=a\/k=d\/(B<=k/\∃b c,w.heap[k]? =some (.cells b 9 c))
def JO(a b B:Nat)(w c:World):Prop:=O (bJ a b B w) w c
theorem JO.trans{f g B:Nat}{a b c:World}(h:JO f g B a b)(k:JO f g B b c):JO f g B a c:=by
 refine⟨k.os.trans h.os,k.tape.trans h.tape,k.output.trans h.output,gW h.size k.size,fun i j d=>?_⟩;have e:=h.block i j d;rw[k.block i (gY j h.size) ?_,e];rintro(q|q|⟨n,l,m,q⟩)
 .exact d (.inl q)
 .exact d (.inr (.inl q))
 .rw[e]at q;exact d (.inr (.inr ⟨n,l,m,q⟩))
theorem JO.cM{bb vm B a b}(h:O kD a b):JO bb vm B a b:=h.mono (fun _ _ q=>q.elim)
theorem JO.more{c d B a b}(h:JO c d B a b):Hz c d B a b:=h.mono (fun _ _ q=>by
 rcases q with q|q|⟨q,e,f,r⟩
 .exact .inl q
 .exact .inr (.inl q)
 .exact .inr (.inr ⟨q,e,_,f,r,.inl rfl⟩))
theorem Hz.cM{bb vm B a b}(h:O kD a b):Hz bb vm B a b:=h.mono (fun _ _ q=>q.elim)
def MI(a e:Nat)(c d:Value)(b:Bd):Array Value:=#[.map (some a),.map (some e),c,d,.int .i64 b.pl,.int .i64 b.ca]
structure Cn(bb fm vm B:Nat)(fn:List ByteArray)(b:Bd)(nv sv:Value)(w:World):Prop where
 bY:W bb (MI fm vm nv sv b) 124 w
 fns:Cq fm fn w
 t8:Cq vm b.bX w
 bX:Au B w nv b.bX
 r9:AQ B w sv b.r9
 ne:fm≠vm
def Le(a c g B:Nat)(d:List ByteArray)(b:Bd)(w:World):Prop:=∃e f,Cn a c g B d b e f w
theorem AQ.s9{B w b a l}(h:AQ B w a l)(c:O kD w b):AQ B b a l:=h.d8 c (fun _ _ _ _ q=>q.elim)
theorem Cn.s9{c d i B e b f g w j}(h:Cn c d i B e b f g w)(a:O kD w j):Cn c d i B e b f g j:=
 ⟨h.bY.d8 a id,h.fns.d8 a id,h.t8.d8 a id,Ac h.bX a (fun _ _ q=>q),h.r9.s9 a,h.ne⟩
theorem Le.s9{a c e B d b w f}(h:Le a c e B d b w)(g:O kD w f):Le a c e B d b f:=by obtain⟨i,j,h⟩:=h;exact⟨i,j,h.s9 g⟩
theorem Cn.fG{d i e B f j b p s w}(h:Cn d i e B j b p s w){k g t l}(c:w.heap[k]? =some (.cells g t l))(m:t≠124)(n:t≠9)(o:t≠189):¬bK d e f w k:=by
 rintro(q|q|⟨_,u,x,v,q,r⟩)
 .subst q;have a:=h.bY;unfold W at a;rw[c]at a;simp only[gN,gU]at a;exact m a.2.1
 .exact h.t8.ne c q.symm
 .rw[c]at q;simp only[gN,gU]at q;rw[<-q.2.1]at r;exact r.elim n o
theorem Cn.fF{d i e B f j b o p w}(h:Cn d i e B j b o p w){k g t l}(c:w.heap[k]? =some (.cells g t l))(m:t≠124)(n:t≠9):¬bJ d e f w k:=by
 rintro(q|q|⟨_,r,s,q⟩)
 .subst q;have a:=h.bY;unfold W at a;rw[c]at a;simp only[gN,gU]at a;exact m a.2.1
 .exact h.t8.ne c q.symm
 .rw[c]at q;simp only[gN,gU]at q;exact n q.2.1
theorem JO.bY{a g e B k i b c t w f}(m:JO a e B w f)(h:Le a g e B i b w)(d:W k c t w)(j:t≠124)(l:t≠9):W k c t f:=by obtain⟨n,o,h⟩:=h;exact d.d8 m (h.fF d j l)
theorem JO.row{c j f B a l b e d v n i w g}(p:JO c f B w g)(h:Le c j f B l b w)(s:w.ownsRow a e d v n i)(m:e≠124)(o:e≠9):g.ownsRow a e d v n i:=by obtain⟨x,y,h⟩:=h;exact Ai s p (fun k t u q r=>h.fF r m o q)
theorem Hz.row{c j f B a l b e d v n i w g}(r:Hz c f B w g)(h:Le c j f B l b w)(t:w.ownsRow a e d v n i)(m:e≠124)(o:e≠9)(p:e≠189):g.ownsRow a e d v n i:=by obtain⟨y,z,h⟩:=h;exact Ai t r (fun k u x q s=>h.fG s m o p q)
theorem Hz.bY{a g e B k i b c t w f}(n:Hz a e B w f)(h:Le a g e B i b w)(d:W k c t w)(j:t≠124)(l:t≠9)(m:t≠189):W k c t f:=by obtain⟨o,p,h⟩:=h;exact d.d8 n (h.fG d j l m)
theorem AQ.dD{B w j g l}{X:Nat->Prop}(h:AQ B w g l)(d:O X w j)(f:∀k a t b,X k->w.heap[k]? =some (.cells a t b)->t≠3/\t≠189):AQ B j g l:=by obtain⟨a,s,p,r⟩:=h;refine⟨a,Ai s d (fun k a b c q=>(f k a _ b c q).2 rfl),p,fun i h n=>?_⟩;obtain⟨m,e,o⟩:=r i h n;exact⟨m,e,Ai o d (fun k a b c q=>(f k a _ b c q).1 rfl)⟩
theorem JC{B m e c v n d l w}(h:w.ownsRow B e c v n d)(b:Cq m l w):v.ownBlock≠some m:=fun q=>by obtain⟨_,f,g,a⟩:=Cu h q;exact b.ne a rfl
theorem Ei{b a t w}(h:W b a t w){c u d}(e:w.heap[b]? =some (.cells c u d)):u=t:=by unfold W at h;rw[e]at h;simp only[gN,gU]at h;exact h.2.1
theorem Cn.named{a g d B u b e f v' t w V x c}(h:Cn a g d B u b e f w)(l:O (fun k=>k=d) w V)(y:Cq d (b.bX++[t]) V)(K:O kD V x)(L:x.grownBy c e.ownBlock)(F:c.ownsRow B 9 1 v' (b.bX.length+1) (b.bX.map Value.string++[.string t])):
 Cn a g d B u {b with bX:=b.bX++[t]} v' f (c.setCell ⟨a,2,none⟩ v')/\JO a d B w (c.setCell ⟨a,2,none⟩ v'):=by
 have Q:=h.t8.ne h.bY;have z:W a (MI g d e f b) 124 V:=h.bY.d8 l (fun q=>Q q.symm);have C:Cq g u V:=h.fns.d8 l h.ne;have o:Au B V e b.bX:=Ky h.bX l h.t8;have P:AQ B V f b.r9:=h.r9.dD l (fun k r t s n q=>jO n.symm (h.t8.ne q));have i:O (fun k=>e.ownBlock=some k) V c:=O.grown (K.mono (fun _ _ q=>q.elim)) L (fun j M=>.inl M);have m:W a (MI g d e f b) 124 c:=z.d8 i (fun q=>Am o z T a q rfl);have p:O (fun k=>k=a) c (c.setCell ⟨a,2,none⟩ v'):=(O.refl _ _).t9 2 _;have A:=C.d8 i (JC o C);have E:=y.d8 i (JC o y);have N:AQ B c f b.r9:=P.dD i (fun k r t s n q=>by obtain⟨_,R,S,v⟩:=Cu o n;rw[v]at q;simp only[gN,gU]at q;rw[<-q.2.1];decide)
 refine⟨⟨m.set 2 _,A.d8 p (A.ne m),E.d8 p (E.ne m),?_,N.dD p (fun k r t s n q=>by subst n;rw[Ei m q];decide),h.ne⟩,?_⟩
 .show(c.setCell ⟨a,2,none⟩ v').ownsRow B _ 1 v' (b.bX++[t]).length ((b.bX++[t]).map Value.string);rw[jP,gM];exact Ac F p (Am F m T)
 .have G:JO a d B w V:=l.mono (fun _ _ q=>.inr (.inl q));have H:JO a d B V c:=i.mono (fun k _ q=>by obtain⟨I,r,s,v⟩:=Cu o q;exact .inr (.inr ⟨I,r,s,v⟩))
  exact(G.trans H).trans (p.mono (fun _ _ q=>.inl q))
theorem MZ(a m f B u b t nv r w)(c:Cn a m f B u b nv r w)(hB:B<=w.heap.size)(hl:t.d9.size<=4000)(hn:b.bX.length<=4000)(ht:t.d9∉b.bX):
 Calls prog 94 #[.pointer (some ⟨a,0,none⟩),J9 t] w fun e C=>e=.returned (.tuple #[])/\(∃A,Cn a m f B u {b with bX:=b.bX++[t.d9]} A r C)/\JO a f B w C:=by
 obtain⟨i0,a5,b1,b2,b3⟩:=info_parts Tryz.infoStr;obtain⟨U,X⟩:=c.bY.e2 1 2;have ff:=fun i=>Ay c.bY i
 have lb:=Ae c.bY;simp only[MI,gH,gF,gG]at U X;obtain⟨o,nl,p,rfl⟩:=Ad c.bX;have a7:=Ag c.bX;subst a7;unfold J9;have lv:=c.t8.lt;have a8:=c.t8.ne c.bY;have d:=J (c.s9 ((O.refl kD w).alloc (.cells #[.string t.d9,.int .i64 t.l7] 126)));have F:=J (W.new w #[.string t.d9,.int .i64 t.l7] 126);have G:=J ((O.refl kD w).alloc (.cells #[.string t.d9,.int .i64 t.l7] 126));clear c;go_enter func94,ntmps94;go_wp2_with fail;generalize w.alloc _=l at*;obtain⟨Q,R⟩:=d.o.bY.e2 1 2;have P:=F.o.cell 0;have kf:=fun i=>Ay d.o.bY i
 simp only[MI,gH,gF,gG]at Q R P;clear U X ff;refine MX (v:=.pointer (some ⟨a,0,none⟩)) 11 jW jW (fun _ _ _ h=>h) (Or.inl ⟨kB,fun w=>by go_simp⟩) ?_;simp only[iY,List.take_zero,jN,List.drop_zero];repeat(quiet_step (fail))
 refine wpQuiet_nil ?_;intro C a9;obtain⟨nq,b0⟩:=a9;subst b0;obtain⟨V,b4,I,K⟩:=Cq.add (w:=l.drewN nq) (d.o.t8.d8 ((O.refl kD l).drewN nq) id) hl hn ht;have g:O (fun k=>k=f) l V:=((O.refl _ l).drewN nq).trans K;have j:D (W a (MI m f (.slice o b.bX.length p) r b) 124 V):=d.o.bY.d8 g (fun q=>a8 q.symm);have NV:D (W w.heap.size #[.string t.d9,.int .i64 t.l7] 126 V):=F.o.d8 g Z;have Y:=j.o.cell 2;have vf:=fun i=>Ay j.o i
 have n0:=NV.o.cell 0;have S:=Ae j.o;simp only[MI,gH,gF,gG]at Y n0;have H:D (Au B V (.slice o b.bX.length p) b.bX):=Ky d.o.bX g d.o.t8;have E:=J g;have HM:=J I;clear Q R P kf I K g;have M:=J (Am H.o j.o T);go_wp2_with fail;go_region_law(refine AB rfl _ _ 51 rfl B 9 i0 (.string ⟨#[]⟩) 1 16 underlying51 a5 b1 b2 b3 rfl T _ _ _ rfl (H.o.alloc _) ⟨V.heap.size,0,none⟩ 1 1 [.string t.d9] rfl rfl (AC rfl _ _) (fun x N=>by simp at N;subst N;rfl) T jZ Z (by have:=E.o.size;have:=G.o.size;simp;omega) ?_;intro v' s z n a6;have q1:s.cell? ⟨a,2,none⟩=some (.slice o b.bX.length p):=(gJ (n.block a jX (fun h=>M.o a h.symm rfl))).trans (by rw[<-Y];exact gJ (gS _ _ _ S));have q2:s.frozen? ⟨a,2,none⟩=false:=(gO (n.block a jX (fun h=>M.o a h.symm rfl))).trans (by rw[<-vf 2];exact gO (gS _ _ _ S));obtain⟨a0,a2,a1,rfl⟩:=Ad z);all_goals
  have L:(V.alloc (.cells #[.string t.d9] 9)).drew.grownBy s (Value.ownBlock (.slice o b.bX.length p)):=n;have y:=d.o.named (t:=t.d9) (v':=.slice a0 a2 a1) E.o HM.o (((O.refl _ V).alloc _).drew) L z;have a3:D (∃A,Cn a m f B u {b with bX:=b.bX++[t.d9]} A r (s.setCell ⟨a,2,none⟩ (.slice a0 a2 a1))):=⟨_,y.1⟩;have a4:=J ((JO.cM G.o).trans y.2);clear y z n L a6 q1 q2;go_wp2_with fail;go_end0;exact⟨rfl,a3.o,a4.o⟩
theorem OG{P e b}{Q:Exit->Act->World->Prop}{S:World->Prop}{i f v j d a g w}(o:b[i]? =some f)
 (q:Region.noSelect b=true)(n:Region.free e b d i=true)(p:(Region.ready e b d).contains i=true)
 (k:∀c a w,Q (.panic c) (a.put f.dst v) w->Q (.panic c) a w)(r:YieldsIf P b S f v a)(l:S w)(m:a.put f.dst v=g)
 (h:wpAnyH P e b Q S j (d.setIfInBounds i true) g w):wpAnyH P e b Q S (j+1) d a w:=
 wpAnyH_take o q n p k r l (m▸h)
theorem Bt{P:Program}{e:Region.Mode}{b:Array Oper}{Q:Exit->Act->World->Prop}{S:World->Prop}{i:Nat}{f:Oper}{v:Value}{g:Nat}{d:Array Bool}{a:Act}{w:World}{j k B R x4 x5 x6 x7 x8 x9 l q r s t u x y z A C E F G H I K L M N U V X Y a0 a1 a2 a3 a4 a5 a6 a7 a8 a9 b0 b1 b2 b3 b4 b5 b6 b7 b8 b9 c0 c1 c2 c3 c4 c5 c6 c7 c8 c9 d0 d1 d2 d3 d4 d5 d6 d7 d8 d9 e0 e1 e2 e3 e4 e5 e6 e7 e8 e9 f0 f1 f2 f3 f4 f5 f6 f7 f8 f9 g0 g1 g2 g3 g4 g5 m n o p:Value}(hi:b[i]? =some f)(hs:Region.noSelect b=true)(hf:Region.free e b d i=true)(hr:(Region.ready e b d).contains i=true)(hQ:∀c a w,Q (.panic c) (a.put f.dst v) w->Q (.panic c) a w)(hy:YieldsIf P b S f v a)(hS:S w)(ha:a.put f.dst v={tmps:=#[j,k,B,R,x4,x5,x6,x7,x8,x9,l,q,r,s,t,u,x,y,z,A,C,E,F,G,H,I,K,L,M,N,U,V,X,Y,a0,a1,a2,a3,a4,a5,a6,a7,a8,a9,b0,b1,b2,b3,b4,b5,b6,b7,b8,b9,c0,c1,c2,c3,c4,c5,c6,c7,c8,c9,d0,d1,d2,d3,d4,d5,d6,d7,d8,d9,e0,e1,e2,e3,e4,e5,e6,e7,e8,e9,f0,f1,f2,f3,f4,f5,f6,f7,f8,f9,g0,g1,g2,g3,g4,g5,m,n,o,p],defers:=[]})(h:wpAnyH P e b Q S g (d.setIfInBounds i true) {tmps:=#[j,k,B,R,x4,x5,x6,x7,x8,x9,l,q,r,s,t,u,x,y,z,A,C,E,F,G,H,I,K,L,M,N,U,V,X,Y,a0,a1,a2,a3,a4,a5,a6,a7,a8,a9,b0,b1,b2,b3,b4,b5,b6,b7,b8,b9,c0,c1,c2,c3,c4,c5,c6,c7,c8,c9,d0,d1,d2,d3,d4,d5,d6,d7,d8,d9,e0,e1,e2,e3,e4,e5,e6,e7,e8,e9,f0,f1,f2,f3,f4,f5,f6,f7,f8,f9,g0,g1,g2,g3,g4,g5,m,n,o,p],defers:=[]} w):wpAnyH P e b Q S (g+1) d a w:=OG hi hs hf hr hQ hy hS ha h
theorem Nh{P}{a:Operand->Value}{o t x b m k v w}(d:o.op=.lookup t x b false)(e:a x=m)(c:a b=k)(h:(Instr.lookup t m k false).run P w=.ok v w):(execOp a o).run P w=.ok (.value v) w:=by unfold execOp;rw[d];simp only[e,c];go_simp
theorem WF(R:Act->World->Prop)(f r c t s u x z y e){E L x4 x5 x6 x7 x8 x9 g3 g4 g5 g6 g7 g8 g9 h0 h1 h2 h3 h4 h5 h6 h7 h8 h9 i0 i1 M N P Q U V X Y a0 a1 a2 a3 a4 a5 a6 a7 a8 a9 b0 b1 b2 b3 b4 b5 b6 b7 b8 b9 c0 c1 c2 c3 c4 c5 c6 c7 c8 c9 d0 d1 d2 d3 d4 d5 d6 d7 d8 d9 e0 e1 e2 e3 e4 e5 e6 e7 e8 e9 f0 f1 f2 f3 f4 f5 f6 f7 f8 f9 g0 g1 g2 F G H I}
 (B:∀d,O kD e d->d.cell? ⟨f,1,none⟩=some (.map (some r))/\d.cell? ⟨c,0,none⟩=some (.int .i64 t)/\d.cell? ⟨c,1,none⟩=some (.string z)/\d.cell? ⟨c,3,none⟩=some (.string y)/\d.cell? ⟨c,5,none⟩=some (.int .i64 s)/\(Instr.lookup 121 (.map (some r)) (.string z) false).run prog d=.ok (.int .i64 u) d/\(Instr.lookup 121 (.map (some r)) (.string y) false).run prog d=.ok (.int .i64 x) d)
 (C:∀(A:World) (y8 y9 i2 i3 i4 i5 i6 i7 i8 i9 j0 j1 j2 j3 j4 j5 j6 j7 j8 j9 k0:Value),W e.heap.size #[.int .i64 t,.int .i64 u,.int .i64 x,.int .i64 s,.int .i64 0,.slice none 0 0,.int .i64 0,.int .i64 0] 189 A->O kD e A->R {tmps:=#[.pointer (some ⟨f,0,none⟩),E,L,.pointer (some ⟨c,0,none⟩),x4,.pointer (some ⟨e.heap.size,0,none⟩),x6,x7,y8,y9,i2,i3,i4,i5,i6,i7,i8,i9,j0,j1,j2,j3,j4,j5,j6,j7,j8,j9,k0,M,N,P,Q,U,V,X,Y,a0,a1,a2,a3,a4,a5,a6,a7,a8,a9,b0,b1,b2,b3,b4,b5,b6,b7,b8,b9,c0,c1,c2,c3,c4,c5,c6,c7,c8,c9,d0,d1,d2,d3,d4,d5,d6,d7,d8,d9,e0,e1,e2,e3,e4,e5,e6,e7,e8,e9,f0,f1,f2,f3,f4,f5,f6,f7,f8,f9,g0,g1,g2,F,G,H,I],defers:=[]} A):
 Code.wp prog (.region 1 #[⟨some 8,.fieldAddr 230 (.tmp 3) 0,0, "build.go:83",#[],none⟩,⟨some 9,.load 187 (.tmp 8),187, "build.go:83",#[⟨0,.data⟩],none⟩,⟨some 10,.move (.tmp 0),198, "build.go:83",#[],none⟩,⟨some 11,.nilCheck (.tmp 10),0, "build.go:83",#[⟨2,.data⟩],none⟩,⟨some 12,.fieldAddr 124 (.tmp 11) 1,0, "build.go:83",#[⟨3,.data⟩],none⟩,⟨some 13,.load 121 (.tmp 12),121, "build.go:83",#[⟨4,.data⟩],none⟩,⟨some 14,.fieldAddr 230 (.tmp 3) 1,0, "build.go:83",#[],none⟩,⟨some 15,.fieldAddr 126 (.tmp 14) 0,0, "build.go:83",#[⟨6,.data⟩],none⟩,⟨some 16,.load 9 (.tmp 15),9, "build.go:83",#[⟨7,.data⟩],none⟩,⟨some 17,.lookup 121 (.tmp 13) (.tmp 16) false,3, "build.go:83",#[⟨5,.data⟩,⟨8,.data⟩],none⟩,⟨some 18,.move (.tmp 0),198, "build.go:83",#[],none⟩,⟨some 19,.nilCheck (.tmp 18),0, "build.go:83",#[⟨10,.data⟩],none⟩,⟨some 20,.fieldAddr 124 (.tmp 19) 1,0, "build.go:83",#[⟨11,.data⟩],none⟩,⟨some 21,.load 121 (.tmp 20),121, "build.go:83",#[⟨12,.data⟩],none⟩,⟨some 22,.fieldAddr 230 (.tmp 3) 2,0, "build.go:83",#[],none⟩,⟨some 23,.fieldAddr 126 (.tmp 22) 0,0, "build.go:83",#[⟨14,.data⟩],none⟩,⟨some 24,.load 9 (.tmp 23),9, "build.go:83",#[⟨15,.data⟩],none⟩,⟨some 25,.lookup 121 (.tmp 21) (.tmp 24) false,3, "build.go:83",#[⟨13,.data⟩,⟨16,.data⟩],none⟩,⟨some 26,.fieldAddr 230 (.tmp 3) 3,0, "build.go:83",#[],none⟩,⟨some 27,.load 3 (.tmp 26),3, "build.go:83",#[⟨18,.data⟩],none⟩,⟨some 28,.build 189 #[(0,.tmp 9),(1,.tmp 17),(2,.tmp 25),(3,.tmp 27)],189, "build.go:83",#[⟨1,.data⟩,⟨9,.data⟩,⟨17,.data⟩,⟨19,.data⟩],none⟩,⟨some 5,.alloc 189,0, "build.go:83",#[],none⟩,⟨none,.store 189 (.tmp 5) (.tmp 28),0, "build.go:83",#[⟨21,.data⟩,⟨20,.data⟩,⟨0,.phase⟩,⟨1,.phase⟩,⟨2,.phase⟩,⟨3,.phase⟩,⟨4,.phase⟩,⟨5,.phase⟩,⟨6,.phase⟩,⟨7,.phase⟩,⟨8,.phase⟩,⟨9,.phase⟩,⟨10,.phase⟩,⟨11,.phase⟩,⟨12,.phase⟩,⟨13,.phase⟩,⟨14,.phase⟩,⟨15,.phase⟩,⟨16,.phase⟩,⟨17,.phase⟩,⟨18,.phase⟩,⟨19,.phase⟩,⟨20,.phase⟩,⟨21,.phase⟩],none⟩] true) (L4 R) {tmps:=#[.pointer (some ⟨f,0,none⟩),E,L,.pointer (some ⟨c,0,none⟩),x4,x5,x6,x7,x8,x9,g3,g4,g5,g6,g7,g8,g9,h0,h1,h2,h3,h4,h5,h6,h7,h8,h9,i0,i1,M,N,P,Q,U,V,X,Y,a0,a1,a2,a3,a4,a5,a6,a7,a8,a9,b0,b1,b2,b3,b4,b5,b6,b7,b8,b9,c0,c1,c2,c3,c4,c5,c6,c7,c8,c9,d0,d1,d2,d3,d4,d5,d6,d7,d8,d9,e0,e1,e2,e3,e4,e5,e6,e7,e8,e9,f0,f1,f2,f3,f4,f5,f6,f7,f8,f9,g0,g1,g2,F,G,H,I],defers:=[]} e:=by
 have g:=J B;have HQ:=J C;clear B C;refine wp_region_held_drew (S:=fun d=>O kD e d) jW ((O.refl _ e).drew) (fun b=>?_);refine Bt (i:=0) (v:=.pointer (some ⟨c,0,none⟩)) rfl jW jW jW (fun _ _ _ h=>h) (Or.inl ⟨kB,fun w a=>by go_simp⟩) b rfl ?_;refine Bt (i:=1) (v:=.int .i64 t) rfl jW jW jW (fun _ _ _ h=>h) (Or.inl ⟨kB,fun w a=>by obtain⟨l,m,n,o,p,j,k⟩:=g.o _ a;go_simp⟩) b rfl ?_;refine Bt (i:=2) (v:=.pointer (some ⟨f,0,none⟩)) rfl jW jW jW (fun _ _ _ h=>h) (Or.inl ⟨kB,fun w a=>by go_simp⟩) b rfl ?_;refine Bt (i:=3) (v:=.pointer (some ⟨f,0,none⟩)) rfl jW jW jW (fun _ _ _ h=>h) (Or.inl ⟨kB,fun w a=>by go_simp⟩) b rfl ?_;refine Bt (i:=4) (v:=.pointer (some ⟨f,1,none⟩)) rfl jW jW jW (fun _ _ _ h=>h) (Or.inl ⟨kB,fun w a=>by go_simp⟩) b rfl ?_;refine Bt (i:=5) (v:=.map (some r)) rfl jW jW jW (fun _ _ _ h=>h) (Or.inl ⟨kB,fun w a=>by obtain⟨l,m,n,o,p,j,k⟩:=g.o _ a;go_simp⟩) b rfl ?_;refine Bt (i:=6) (v:=.pointer (some ⟨c,1,none⟩)) rfl jW jW jW (fun _ _ _ h=>h) (Or.inl ⟨kB,fun w a=>by go_simp⟩) b rfl ?_;refine Bt (i:=7) (v:=.pointer (some ⟨c,1,none⟩)) rfl jW jW jW (fun _ _ _ h=>h) (Or.inl ⟨kB,fun w a=>by go_simp⟩) b rfl ?_;refine Bt (i:=8) (v:=.string z) rfl jW jW jW (fun _ _ _ h=>h) (Or.inl ⟨kB,fun w a=>by obtain⟨l,m,n,o,p,j,k⟩:=g.o _ a;go_simp⟩) b rfl ?_;refine Bt (i:=9) (v:=.int .i64 u) rfl jW jW jW (fun _ _ _ h=>h) (Or.inl ⟨kB,fun w a=>by obtain⟨l,m,n,o,p,j,k⟩:=g.o _ a;exact Nh kB kB kB j⟩) b rfl ?_;refine Bt (i:=10) (v:=.pointer (some ⟨f,0,none⟩)) rfl jW jW jW (fun _ _ _ h=>h) (Or.inl ⟨kB,fun w a=>by go_simp⟩) b rfl ?_;refine Bt (i:=11) (v:=.pointer (some ⟨f,0,none⟩)) rfl jW jW jW (fun _ _ _ h=>h) (Or.inl ⟨kB,fun w a=>by go_simp⟩) b rfl ?_;refine Bt (i:=12) (v:=.pointer (some ⟨f,1,none⟩)) rfl jW jW jW (fun _ _ _ h=>h) (Or.inl ⟨kB,fun w a=>by go_simp⟩) b rfl ?_;refine Bt (i:=13) (v:=.map (some r)) rfl jW jW jW (fun _ _ _ h=>h) (Or.inl ⟨kB,fun w a=>by obtain⟨l,m,n,o,p,j,k⟩:=g.o _ a;go_simp⟩) b rfl ?_;refine Bt (i:=14) (v:=.pointer (some ⟨c,3,none⟩)) rfl jW jW jW (fun _ _ _ h=>h) (Or.inl ⟨kB,fun w a=>by go_simp⟩) b rfl ?_;refine Bt (i:=15) (v:=.pointer (some ⟨c,3,none⟩)) rfl jW jW jW (fun _ _ _ h=>h) (Or.inl ⟨kB,fun w a=>by go_simp⟩) b rfl ?_;refine Bt (i:=16) (v:=.string y) rfl jW jW jW (fun _ _ _ h=>h) (Or.inl ⟨kB,fun w a=>by obtain⟨l,m,n,o,p,j,k⟩:=g.o _ a;go_simp⟩) b rfl ?_;refine Bt (i:=17) (v:=.int .i64 x) rfl jW jW jW (fun _ _ _ h=>h) (Or.inl ⟨kB,fun w a=>by obtain⟨l,m,n,o,p,j,k⟩:=g.o _ a;exact Nh kB kB kB k⟩) b rfl ?_;refine Bt (i:=18) (v:=.pointer (some ⟨c,5,none⟩)) rfl jW jW jW (fun _ _ _ h=>h) (Or.inl ⟨kB,fun w a=>by go_simp⟩) b rfl ?_;refine Bt (i:=19) (v:=.int .i64 s) rfl jW jW jW (fun _ _ _ h=>h) (Or.inl ⟨kB,fun w a=>by obtain⟨l,m,n,o,p,j,k⟩:=g.o _ a;go_simp⟩) b rfl ?_;refine Bt (i:=20) (v:=.agg #[.int .i64 t,.int .i64 u,.int .i64 x,.int .i64 s,.int .i64 0,.slice none 0 0,.int .i64 0,.int .i64 0]) rfl jW jW jW (fun _ _ _ h=>h) (Or.inl ⟨kB,fun w a=>by go_simp⟩) b rfl ?_;refine wpAnyH_ready (rs:=[21]) jW jY ?_;refine AllReadyH.cons rfl (fun K q=>?_) AllReadyH.nil;go_simp;refine q.out _ _ (b.alloc _) (fun b=>?_);clear q K;refine wpAnyH_ready (rs:=[22]) jW jY ?_;refine AllReadyH.cons rfl (fun K q=>?_) AllReadyH.nil;go_simp;refine q.out _ _ (((O.refl _ e).alloc _).drew) (fun b=>?_);clear q K;refine wpAnyH_done jW ?_ _;exact HQ.o _ _ _ _ _ _ _ _ _ _ _ _ _ _ _ _ _ _ _ _ _ _ (W.new e _ _) (((O.refl _ e).alloc _).drew)
theorem WH(R:Act->World->Prop)(m N a t g:Nat)(n:Nat)(w y z A B C E:Value)(M:ByteArray)(l:List Nat)(d:Option Addr)(e:Nat)(b:World){P x2 x3 x4 x6 x8 x9 Q Y a0 a1 a2 a3 a4 a5 a6 a7 a8 a9 b0 b1 b2 b3 b4 b6 b7 b8 b9 c5 c8 c9 d0 d1 j5 j6 j7 j8 j9 k0 k1 k2 k3 k4 k5 k6 d2 d3 d4 d5 d6 d7 d8 d9 e0 e1 e2 e3 e4 e5 e6 e7 e8 e9 f0 f1 f2 f3 f4 f6 f7 f8 f9 g0 g1 g2 g3 g4 g6 g7 g8 g9 h0 h2 h3 h4 h5 h6 h7 h8 h9 i1 i2 i3 i4 i5 i6 i7 S U V X:Value}
 (h1:b.cell? ⟨m,1,none⟩=some (.map (some N)))(hn:b.cell? ⟨t,0,none⟩=some (.string M))(hL:(Instr.lookup 121 (.map (some N)) (.string M) false).run prog b.drew=.ok (.int .i64 n) b.drew)
 (c:W a #[w,y,z,A,B,.slice d l.length e,C,E] 189 b)(s:Ax g b (.slice d l.length e) l)(hB:g<=b.heap.size)(hl:l.length<=4000)
 (G:∀(u:Value) (i:World) (k7 k8 k9 l0 l1 l2 l3 l4 l5 l6 l7 l8:Value),W a #[w,y,z,A,B,u,C,E] 189 i->Ax g i u (l++[n])->O (fun k=>k=a\/(Value.slice d l.length e).ownBlock=some k) b i->R {tmps:=#[.pointer (some ⟨m,0,none⟩),P,x2,x3,x4,.pointer (some ⟨a,0,none⟩),x6,.pointer (some ⟨t,0,none⟩),x8,x9,Q,Y,a0,a1,a2,a3,a4,a5,a6,a7,a8,a9,b0,b1,b2,b3,b4,b6,b7,b8,b9,c5,c8,c9,d0,d1,k7,k8,k9,l0,l1,l2,l3,l4,l5,l6,l7,l8,d2,d3,d4,d5,d6,d7,d8,d9,e0,e1,e2,e3,e4,e5,e6,e7,e8,e9,f0,f1,f2,f3,f4,f6,f7,f8,f9,g0,g1,g2,g3,g4,g6,g7,g8,g9,h0,h2,h3,h4,h5,h6,h7,h8,h9,i1,i2,i3,i4,i5,i6,i7,S,U,V,X],defers:=[]} i):
 Code.wp prog (.region 5 #[⟨some 36,.fieldAddr 189 (.tmp 5) 5,0, "build.go:90",#[],none⟩,⟨some 37,.load 50 (.tmp 36),50, "build.go:90",#[⟨0,.data⟩],none⟩,⟨some 38,.move (.tmp 0),198, "build.go:90",#[],none⟩,⟨some 39,.nilCheck (.tmp 38),0, "build.go:90",#[⟨2,.data⟩],none⟩,⟨some 40,.fieldAddr 124 (.tmp 39) 1,0, "build.go:90",#[⟨3,.data⟩],none⟩,⟨some 41,.load 121 (.tmp 40),121, "build.go:90",#[⟨4,.data⟩],none⟩,⟨some 42,.fieldAddr 126 (.tmp 7) 0,0, "build.go:90",#[],none⟩,⟨some 43,.load 9 (.tmp 42),9, "build.go:90",#[⟨6,.data⟩],none⟩,⟨some 44,.lookup 121 (.tmp 41) (.tmp 43) false,3, "build.go:90",#[⟨5,.data⟩,⟨7,.data⟩],none⟩,⟨some 45,.buildSlice 50 1 #[(0,.tmp 44)],50, "build.go:90",#[⟨8,.data⟩],none⟩,⟨some 46,.call ⟨.builtin .append,#[.tmp 37,.tmp 45],#[50,50]⟩,50, "build.go:90",#[⟨1,.data⟩,⟨9,.data⟩],none⟩,⟨some 47,.fieldAddr 189 (.tmp 5) 5,0, "build.go:90",#[⟨0,.phase⟩,⟨1,.phase⟩,⟨2,.phase⟩,⟨3,.phase⟩,⟨4,.phase⟩,⟨5,.phase⟩,⟨6,.phase⟩,⟨7,.phase⟩,⟨8,.phase⟩,⟨9,.phase⟩,⟨10,.phase⟩],none⟩,⟨none,.store 50 (.tmp 47) (.tmp 46),0, "build.go:90",#[⟨11,.data⟩,⟨10,.data⟩,⟨10,.chain⟩,⟨0,.phase⟩,⟨1,.phase⟩,⟨2,.phase⟩,⟨3,.phase⟩,⟨4,.phase⟩,⟨5,.phase⟩,⟨6,.phase⟩,⟨7,.phase⟩,⟨8,.phase⟩,⟨9,.phase⟩,⟨10,.phase⟩],none⟩] true) (L4 R) {tmps:=#[.pointer (some ⟨m,0,none⟩),P,x2,x3,x4,.pointer (some ⟨a,0,none⟩),x6,.pointer (some ⟨t,0,none⟩),x8,x9,Q,Y,a0,a1,a2,a3,a4,a5,a6,a7,a8,a9,b0,b1,b2,b3,b4,b6,b7,b8,b9,c5,c8,c9,d0,d1,j5,j6,j7,j8,j9,k0,k1,k2,k3,k4,k5,k6,d2,d3,d4,d5,d6,d7,d8,d9,e0,e1,e2,e3,e4,e5,e6,e7,e8,e9,f0,f1,f2,f3,f4,f6,f7,f8,f9,g0,g1,g2,g3,g4,g6,g7,g8,g9,h0,h2,h3,h4,h5,h6,h7,h8,h9,i1,i2,i3,i4,i5,i6,i7,S,U,V,X],defers:=[]} b:=by
 obtain⟨i0,i8,i9,j0,j1⟩:=info_parts Tryz.infoInt;have K:=Ae c;have L:=c.cell 5;have f5:=c.frozen 5;simp only[gH,gF,gG]at L;have p:=J (Am s c T);have HB:=J c;have HR:=J s;have HQ:=J G;clear c s G;go_region_law(refine AB rfl _ _ 50 rfl g 3 i0 (.int .i64 0) 1 8 underlying50 i8 i9 j0 j1 rfl T _ _ _ rfl (World.ownsRow.alloc HR.o _) ⟨b.heap.size,0,none⟩ 1 1 [.int .i64 n] rfl rfl (AC rfl _ _) (fun x I=>by simp at I;subst I;rfl) T jZ Z jX ?_;intro u f r o l9;have q1:f.cell? ⟨a,5,none⟩=some (.slice d l.length e):=(gJ (o.block a jX (fun h=>p.o a h.symm rfl))).trans (by rw[<-L];exact gJ (gS _ _ _ K));have q2:f.frozen? ⟨a,5,none⟩=false:=(gO (o.block a jX (fun h=>p.o a h.symm rfl))).trans (by rw[<-f5];exact gO (gS _ _ _ K));obtain⟨j2,j4,j3,rfl⟩:=Ad r);all_goals
  have F:O (fun k=>(Value.slice d l.length e).ownBlock=some k) b f:=O.grown (((O.refl _ b).alloc (.cells #[.int .i64 n] 3)).drew) o (fun j hj=>.inl hj);have v:=HB.o.d8 F (fun q=>p.o a q rfl);have H:O (fun k=>k=a) f (f.setCell ⟨a,5,none⟩ (.slice j2 j4 j3)):=(O.refl _ _).t9 5 _;exact HQ.o _ _ _ _ _ _ _ _ _ _ _ _ _ _ (v.set 5 _) (by show World.ownsRow _ _ _ _ _ (l++[n]).length ((l++[n]).map _);rw[jP,gM];exact Ac r H (Am r v T)) ((F.mono (fun _ _ q=>.inr q)).trans (H.mono (fun _ _ q=>.inl q)))

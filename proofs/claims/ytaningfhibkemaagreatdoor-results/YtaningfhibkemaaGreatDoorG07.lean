/- Part of the proof: ChA CkA CkB CkC CkD CkE CkF RdK RdK2 RdN RdO. -/
import Derived.Test.YtaningfhibkemaaGreatDoorG06
import Derived.Maps.OwnSet
import Derived.StringKeys
set_option maxRecDepth 100000
set_option maxHeartbeats 20000000
namespace Go.Proofs.YtaningfhibkemaaGreatDoor
open Go.RowKit Go.Proofs.Tryz Go.Maps
open Option renaming none->Z,some->T
open Value renaming int->G,slice->Y
open IntKind renaming i64->A
abbrev DL(a:Nat):Array Value:=#[G A 0,.string {data:=#[]},G A 0,G A 0,.string {data:=#[]},G A 0,G A 0,G A 0,AX,G A 0,AX,AX,G A (-1),G A (-1),G A a]
def aD(h b g n f B:Nat)(U:Nat->Prop)(l:List Tk)(j k:Value)(x:St)(i:List FS)(w a:World):Prop:=
 ∃c e d,AJ h b g n f x.cJ x.cL a/\AP g n f l a/\Cg b j (Y c e d) x.pl x.ca a/\BA B U a (Y c e d) (i++[CC 0 0])/\Fy h b k (Y c e d) w a
theorem U7{y b g n p B:Nat}{U:Nat->Prop}{P:List Tk}{F j:Value}{x:St}{f:List FS}{w Q d:World}{l:Option Addr}{o m:Nat}{a:List (List Value)}
 (L:AJ y b g n p x.cJ x.cL w)(M:AP g n p P w)(C:Cg b F j x.pl x.ca w)
 (E:w.ownsRow B 92 15 j f.length a.flatten)(R:a.length=f.length)(a8:∀i (h:i<a.length) (h':i<f.length),FG B U w a[i] f[i])
 (hW:O kJ w Q)(V:d.ownsRow B 92 15 (Y l o m) (f.length+1) (a.flatten++zS.toList))(hg:Q.grownBy d j.ownBlock)(a1:∀k,Value.ownBlock (Y l o m)=T k->j.ownBlock=T k\/w.heap.size<=k):
 aD y b g n p B U P F j x f w (d.setCell ⟨b,1,Z⟩ (Y l o m)):=by
 have a3:=Am E L (by decide);have a2:=Am E C (by decide);have v:O (fun k=>j.ownBlock=T k) w d:=O.grown (hW.mono (fun _ _ q=>q.elim)) hg (fun k c=>.inl c);have a6:b≠y:=C.cI.ne L.cI (by decide);have a7:AJ y b g n p x.cJ x.cL d:=L.d8 v (fun q=>a3 y q rfl);have I:Cg b F j x.pl x.ca d:=C.cI.d8 v (fun q=>a2 b q rfl);have a4:g≠b:=M.ne C (by decide);have a9:AP g n p P d:=by
  refine M.d8 v (fun q=>?_);rcases E.2 with⟨s,_⟩|⟨g',X,a0,N,_,u,_⟩
  .rw[s]at q;simp[Value.ownBlock]at q
  .rw[N]at q;simp[Value.ownBlock]at q;subst q;exact M.ne u (by decide) rfl
 have z:=(O.refl (fun k=>k=b) d).t9 1 (Y l o m);have a5:∀k,Value.ownBlock (Y l o m)=T k->k≠b:=Am V I (by decide);refine⟨l,o,m,a7.cI.dA 1 _ a6.symm,a9.d8 z a4,I.cI.set 1 _,?_,?_⟩
 .refine⟨a++[zS.toList],?_,by simp[R],?_⟩
  .rw[List.flatten_append,gW];have:=Ac V z a5;simpa using this
  .intro i h1 s;have hx:∀(k:Nat) (a:Array Value) (t:TypeId) (r:Nat×Nat),j.ownBlock=T k->w.heap[k]? =T (.cells a t r)->t≠3/\t≠49:=by
    intro k a t r c H;rcases E.2 with⟨s,_⟩|⟨g',X,a0,N,_,u,_⟩
    .rw[s]at c;simp[Value.ownBlock]at c
    .rw[N]at c;simp[Value.ownBlock]at c;subst c;rw[H]at u;simp only[gX,iE]at u;rw[u.2.1];decide
   have b0:∀(k:Nat) (a:Array Value) (t:TypeId) (r:Nat×Nat),k=b->d.heap[k]? =T (.cells a t r)->t≠3/\t≠49:=by intro k a t r c H;subst c;have K:d.heap[k]? =_:=I;rw[H]at K;simp only[gX,iE]at K;rw[K.2.1];decide
   by_cases S:i<f.length
   .rw[iQ (by omega),iQ S];exact((a8 i (by omega) S).d8 v hx).d8 z b0
   .have e:i=f.length:=by simp at s;omega
    subst e;rw[iO (by omega),iO (by omega)];simp only[Nat.sub_self,R,iN];exact⟨AX,AX,AX,rfl,iB _ _ _ _,iB _ _ _ _,iB _ _ _ _,fun k c=>by simp[Value.ownBlock]at c⟩
 .refine⟨(v.mono (fun k _ q=>.inr (.inr q))).trans (z.mono (fun k _ q=>.inr (.inl q))),a1⟩
theorem bD(a B:List Value)(c d:List Value)(h:c.length=15)(b:d.length=15):∀k,k<=15->(List.range k).foldl (fun(l:List Value) j=>l.set (a.length+j) (d[j]?.getD (.bool false))) (a++(c++B))=a++((d.take k++c.drop k)++B):=by
 intro k;induction k with
 |zero=>intro _;simp
 |succ k i=>
  intro m;rw[List.range_succ,List.foldl_append,i (by omega)];simp only[jB,jM];rw[List.set_append_right _ _ (by omega),List.append_cancel_left_eq,Nat.add_sub_cancel_left,List.set_append_left _ _ (by simp[b,h];omega),List.append_cancel_right_eq,List.set_append_right _ _ (by simp[b];omega)];have e:(List.take k d).length=k:=by simp[b];omega
  rw[e,Nat.sub_self];have f:d.take (k+1)=d.take k++[d[k]?.getD (.bool false)]:=by rw[iX (by omega),gV (by omega)];rfl
  have g:c.drop k=c[k]'(by omega)::c.drop (k+1):=iD (by omega);rw[f,g,kG,jU,List.singleton_append]
theorem Rw(a:List (List Value))(e:∀c∈a,c.length=15)(i:Nat)(f:i<a.length):a.flatten=(a.take i).flatten++(a[i]++(a.drop (i+1)).flatten)/\((a.take i).flatten).length=i*15:=by
 refine⟨?_,?_⟩
 .conv=>lhs;rw[<-List.take_append_drop i a]
  rw[List.flatten_append,iD f,List.flatten_cons]
 .have:∀l:List (List Value),(∀c∈l,c.length=15)->l.flatten.length=l.length*15:=by
   intro l d;induction l with
   |nil=>rfl
   |cons c l g=>rw[List.flatten_cons,gW,g (fun c b=>d c (iK _ b)),d c (jP ..),gU];omega
  rw[this _ (fun c b=>e c (List.mem_of_mem_take b)),List.length_take]
  congr 1;omega
theorem V5(a:List (List Value))(b:∀c∈a,c.length=15)(i:Nat)(e:i<a.length)(d:List Value)(h:d.length=15):(List.range 15).foldl (fun(l:List Value) j=>l.set (i*15+j) (d[j]?.getD (.bool false))) a.flatten=(a.set i d).flatten:=by obtain⟨f,g⟩:=Rw a b i e;have:=bD (a.take i).flatten (a.drop (i+1)).flatten a[i] d (b _ (iA _)) h 15 (gS _);rw[g,<-f]at this;have k:List.take 15 d=d:=List.take_of_length_le (by omega);have m:List.drop 15 a[i]=[]:=List.drop_of_length_le (by rw[b _ (iA _)];omega);rw[this,k,m];rw[List.set_eq_take_append_cons_drop,jR e];simp
def Mp(w:World)(a o:Nat)(d:List Value):World:=(List.range 15).foldl (fun w j=>w.setCell ⟨a,o+j,Z⟩ (d[j]?.getD (.bool false))) w
theorem UD{w B b n e a}(h:w.ownsRow B 92 15 (Y (T ⟨b,0,Z⟩) n e) n a)(o d):
 (Mp w b o d).ownsRow B 92 15 (Y (T ⟨b,0,Z⟩) n e) n ((List.range 15).foldl (fun(l:List Value) j=>l.set (o+j) (d[j]?.getD (.bool false))) a):=by
 unfold Mp;suffices H:∀(c:List Nat) (w:World) (a:List Value),w.ownsRow B 92 15 (Y (T ⟨b,0,Z⟩) n e) n a->(c.foldl (fun w j=>w.setCell ⟨b,o+j,Z⟩ (d[j]?.getD (.bool false))) w).ownsRow B 92 15 (Y (T ⟨b,0,Z⟩) n e) n (c.foldl (fun(l:List Value) j=>l.set (o+j) (d[j]?.getD (.bool false))) a) from H _ _ _ h
 intro c;induction c with
 |nil=>intro w a h;exact h
 |cons j c f=>intro w a h;exact f _ _ (h.stored (o+j) _).1
theorem Mj(w a o d):O (fun k=>k=a) w (Mp w a o d):=by
 unfold Mp;suffices H:∀(b:List Nat) (c:World),O (fun k=>k=a) w c->O (fun k=>k=a) w (b.foldl (fun w j=>w.setCell ⟨a,o+j,Z⟩ (d[j]?.getD (.bool false))) c) from H _ _ (O.refl _ _)
 intro b;induction b with
 |nil=>intro c h;exact h
 |cons j b e=>intro c h;exact e _ (h.t9 _ _)
theorem Mk{w:World}{B:Nat}{a l c n:Nat}{e:List Value}(h:w.ownsRow B 92 15 (Y (T ⟨a,0,Z⟩) l c) n e)(i:Nat)(f:i<n)(j:Nat)(g:j<15):∃u,w.cell? ⟨a,i*15+j,Z⟩=T u:=by
 have d:=Ag h;subst d;have b:i*15+j<l*15:=by omega
 rw[h.cellAt (i*15+j) b];exact⟨_,gV (by rw[h.1];exact b)⟩
theorem IS{w:World}{B:Nat}{a l c n:Nat}{d:List Value}(h:w.ownsRow B 92 15 (Y (T ⟨a,0,Z⟩) l c) n d)(j:Nat):w.frozen? ⟨a,j,Z⟩=false:=by have b:=Ag h;subst b;exact h.frozenAt j
theorem Fy.put{i g b j c w l m}(h:Fy i g j c w l)(n:c.ownBlock=T b)(a:O (fun k=>k=b) l m):Fy i g j c w m:=by
 refine⟨⟨a.os.trans h.d8.os,a.tape.trans h.d8.tape,a.output.trans h.d8.output,iG h.d8.size a.size,fun k d f=>?_⟩,h.own⟩;rw[a.block k (iI d h.d8.size) ?_]
 .exact h.d8.block k d f
 .intro e;have e:k=b:=e;subst e;rcases h.own k n with q|q
  .exact f (.inr (.inr q))
  .omega
theorem BA.put{B}{U:Nat->Prop}{w b l o i f s d}(h:BA B U w (Y (T ⟨b,0,Z⟩) l o) f)(M:i<f.length)(r:FG B U w d s):BA B U (Mp w b (i*15) d) (Y (T ⟨b,0,Z⟩) l o) (f.set i s):=by
 obtain⟨a,n,E,v⟩:=h;have F:=Ag n;subst F;have z:∀c∈a,c.length=15:=by intro c g;obtain⟨j,e,rfl⟩:=iP.1 g;exact(v j e (by omega)).length
 have u:=Mj w b (i*15) d;have y:∀(k:Nat) (a:Array Value) (t:TypeId) (p:Nat×Nat),k=b->w.heap[k]? =T (.cells a t p)->t≠3/\t≠49:=by
  intro k a t p C g;subst C;rcases n.2 with⟨q,_⟩|⟨K,H,I,x,_,m,_⟩
  .simp at q
  .simp only[Value.slice.injEq,gX,Addr.mk.injEq]at x;rw[<-x.1.1,g]at m;simp only[gX,iE]at m;rw[m.2.1];decide
 refine⟨a.set i d,?_,by simp[E],?_⟩
 .have:=UD n (i*15) d;rw[V5 a z i (by omega) d r.length]at this;simpa using this
 .intro j L q;by_cases e:i=j
  .subst e;simp only[List.getElem_set_self];exact r.d8 u y
  .simp only[List.getElem_set_ne e];exact(v j _ _).d8 u y
def Sq(h c g n f B:Nat)(U:Nat->Prop)(l:List Tk)(i j:Value)(w:World)(r:Nat×St×List FS)(e:Ending)(a:World):Prop:=
 ∃d b,(∀k,U k->b k)/\(∀k,b k->U k\/w.heap.size<=k)/\e=.returned (G A r.1)/\AJ h c g n f r.2.1.cJ r.2.1.cL a/\AP g n f l a/\Cg c i d r.2.1.pl r.2.1.ca a/\BA B b a d r.2.2/\Fy h c j d w a
theorem SF.value{i c u g n f B}{U:Nat->Prop}{m j l x e o v w d}(h:SF i c u g n f B U m j l x o v w)(z:AJ i c g n f e.cJ e.cL d)(C:AP g n f m d)(y:Cg c j l e.pl e.ca d)(s:O (fun k=>k=i\/k=c) w d):SF i c u g n f B U m j l e o v d:=by
 have r:=h.eA;refine⟨z,C,y,h.sx.d8 s (fun q=>q.elim r.2.2.1 r.2.2.2.2.1),h.st.d8 s (fun k a q=>q.elim (h.eJ k a).1 (h.eJ k a).2.1) ?_,h.nb⟩;intro k E t F a p;rcases a with a|a
 .subst a;have b:w.heap[k]? =_:=h.rd;rw[p]at b;simp only[gX,iE]at b;rw[b.2.1];decide
 .subst a;have b:w.heap[k]? =_:=h.pr;rw[p]at b;simp only[gX,iE]at b;rw[b.2.1];decide
theorem NU(a x s):(Dd a x s).1.cT=s.cT/\(Dd a x s).1.other=s.other:=by
 unfold Dd;split
 .exact⟨rfl,rfl⟩
 .split
  .simp only;split<;>exact⟨rfl,rfl⟩
  .split
   .exact⟨rfl,rfl⟩
   .split
    .exact⟨rfl,rfl⟩
    .split
     .exact⟨rfl,rfl⟩
     .simp only;split<;>exact⟨rfl,rfl⟩
theorem QW{c n}(d:(tokAt c (n-1)).sort=0)(x s)(b:x.cJ<n):(Dd c x s).2.cJ<n:=by
 have E:∀(L:List UInt8) (x:St),x.cJ<n->(Aw c L x).cJ<n:=fun L x h=>Ci rfl d h
 have a:∀(k:Nat) (x:St),k≠0->x.cJ<n->(Bo c k x).2.cJ<n:=fun k x e h=>ED (q:=(Bo c k x).1) rfl e d h
 have I:∀(x:St),x.cJ<n->(Cb c x).2.cJ<n:=fun x h=>EY (q:=(Cb c x).1) rfl d h
 unfold Dd;split
 .exact E _ _ b
 .split
  .simp only;split
   .exact a _ _ (by decide) (E _ _ (a _ _ (by decide) (E _ _ b)))
   .exact a _ _ (by decide) (E _ _ b)
  .split
   .exact a _ _ (by decide) (E _ _ b)
   .split
    .exact a _ _ (by decide) (E _ _ b)
    .split
     .exact I _ (E _ _ (E _ _ (a _ _ (by decide) (E _ _ (E _ _ b)))))
     .simp only;split
      .exact I _ (E _ _ (a _ _ (by decide) b))
      .exact a _ _ (by decide) b
def IA(n:Nat)(x:St)(m:Nat):Prop:=x.cJ<n/\x.pl<=n/\x.ca<=n/\m<=n/\(x.cL=Z->x.pl<=x.cJ/\x.ca<=x.cJ/\m<=x.cJ)
theorem IA.dJ{n m k:Nat}{x y:St}(h:IA n x m)(q:Ge k x y)(f:y.cJ<n):IA n y m:=by obtain⟨i,j,l,c,d⟩:=h;obtain⟨o,p,r,g⟩:=q;refine⟨f,by omega,by omega,c,fun e=>?_⟩;have a:=g e;have b:=d a.1;omega
theorem RP{b n}(d:(tokAt b (n-1)).sort=0)(f x)(c:x.cJ<n):(Bc b f x).2.cJ<n:=by
 have E:∀(L:List UInt8) (x:St),x.cJ<n->(Aw b L x).cJ<n:=fun L x h=>Ci rfl d h
 have a:∀(k:Nat) (x:St),k≠0->x.cJ<n->(Bo b k x).2.cJ<n:=fun k x e h=>ED (q:=(Bo b k x).1) rfl e d h
 unfold Bc;split
 .exact a _ _ (by decide) (E _ _ c)
 .split
  .exact a _ _ (by decide) (E _ _ c)
  .split
   .exact a _ _ (by decide) (E _ _ (a _ _ (by decide) (E _ _ c)))
   .exact QW d _ _ (E _ _ (a _ _ (by decide) c))
theorem DX{toks n}(Q:(tokAt toks (n-1)).sort=0):∀f:Nat,
 (∀(a:Nat) (x:St) (c:List FS) (d:List Nat),IA n x c.length->IA n (AA toks f a x c d).2.1 (AA toks f a x c d).2.2.length/\x.cJ<=(AA toks f a x c d).2.1.cJ/\c.length<=(AA toks f a x c d).2.2.length)/\
 (∀(a:Nat) (x:St) (c:List FS),IA n x c.length->x.cL=Z->IA n (AK toks f a x c).2.1 (AK toks f a x c).2.2.length/\x.cJ<=(AK toks f a x c).2.1.cJ/\c.length<=(AK toks f a x c).2.2.length/\(f≠0->(AK toks f a x c).2.1.cL=Z->x.cJ<(AK toks f a x c).2.1.cJ)):=by
 have E:=A9 toks;have C:∀(L:List UInt8) (x:St),x.cJ<n->(Aw toks L x).cJ<n:=fun L x h=>Ci rfl Q h
 intro f;induction f with
 |zero=>
  refine⟨fun a x c d h=>?_,fun a x c h _=>?_⟩
  .rw[AA];exact⟨h,gS _,gS _⟩
  .rw[AK];exact⟨h,gS _,gS _,fun q=>jY rfl q⟩
 |succ f m=>
  refine⟨fun a x c d h=>?_,fun a x c h z=>?_⟩
  .rw[AA];split
   .exact⟨h,gS _,gS _⟩
   .rename_i hc;have z:x.cL=Z:=by
     cases hx:x.cL with
     |none=>rfl
     |some b=>exact jY (.inl (by simp[hx])) hc
    obtain⟨j,u,v,_⟩:=m.2 a x c h z;obtain⟨k,H,I⟩:=m.1 a _ _ (d++[(AK toks f a x c).1]) j;exact⟨k,iG u H,iG v I⟩
  .have hi:=h;obtain⟨P,h2,h3,h4,h5⟩:=h;obtain⟨p1,p2,p3⟩:=h5 z;rw[AK];split
   .simp only;have i:=((E (AG (tokAt toks x.cJ)) x).trans (E [63] _)).trans (E [123] (Aw toks [63] (Aw toks (AG (tokAt toks x.cJ)) x)));have w:=C [63] _ (C (AG (tokAt toks x.cJ)) x P);have c3:=C [123] _ w;generalize Aw toks [63] (Aw toks (AG (tokAt toks x.cJ)) x)=x2 at*;generalize Aw toks [123] x2=o at*;have U:IA n o (c++[CC 0 0]).length:=by obtain⟨y,l,g3,M⟩:=i;refine⟨c3,by omega,by omega,by simp;omega,fun e=>?_⟩;have:=M e;simp only[gW,gU,iJ];omega
    obtain⟨j,u,v⟩:=m.1 a o (c++[CC 0 0]) [] U;generalize AA toks f a o (c++[CC 0 0]) []=r at*;have a0:c.length+1<=r.2.2.length:=by simpa using v
    have p:=E [125] r.2.1;have K:=C [125] r.2.1 j.1;have t:=j.dJ p K;generalize Aw toks [125] r.2.1=g at*;have y:o.cJ<=g.cJ:=iG u p.1;have l:g.cL=Z->x.cJ<g.cJ:=fun e=>by have q:=p.2.2.2 e;have:=i.1;omega
    split
    .split
     .have F:=(E Ef g).trans (E [123] (Aw toks Ef g));have c5:=C [123] _ (C Ef g K);generalize Aw toks Ef g=x4 at*;generalize Aw toks [123] x4=R at*;have V:=t.dJ F c5;obtain⟨k,H,I⟩:=m.1 a R r.2.2 [] V;generalize AA toks f a R r.2.2 []=B at*;have s:=E [125] B.2.1;have c6:=C [125] B.2.1 k.1;have X:=k.dJ s c6;generalize Aw toks [125] B.2.1=x5 at*;have:=i.1;have:=F.1;have:=s.1;refine⟨by simpa using X,by simp only;omega,by simp only[jV];omega,fun _ e=>?_⟩;have q:=s.2.2.2 e;simp only;omega
     .have:=i.1;exact⟨by simpa using t,by simp only;omega,by simp only[jV];omega,fun _ e=>l e⟩
    .have:=i.1;exact⟨by simpa using t,by simp only;omega,by simp only[jV];omega,fun _ e=>l e⟩
   .simp only;have S:=(Qr toks a x).ahead (E [59] (Bc toks a x).2);have w:=C [59] _ (RP Q a x P);generalize Aw toks [59] (Bc toks a x).2=x1 at*;obtain⟨y,l,g3,M,g5,N⟩:=S;refine⟨⟨w,by omega,by omega,by simp;omega,fun e=>?_⟩,y,by simp,fun _ e=>?_⟩
    .have:=N e;simp only[jV,gW,gU,iJ];omega
    .have:=N e;omega
def IE(f:Nat):Prop:=∀(h d g n b B k:Nat) (U:Nat->Prop) (a:List Tk) (j i:Value) (x:St) (c:List FS) (w:World),AJ h d g n b x.cJ x.cL w->AP g n b a w->Cg d j i x.pl x.ca w->BA B U w i c->B<=w.heap.size->(tokAt a (n-1)).sort=0->IA n x c.length->x.cL=Z->2*(n-x.cJ)<=f->
 Calls prog 99 #[.pointer (T ⟨h,0,Z⟩),G A k] w fun e l=>Sq h d g n b B U a j i w (AK a f k x c) e l
def Yj(i d g n h B:Nat)(U:Nat->Prop)(m:List Tk)(j l:Value)(w:World)(p:Nat)(r:List Nat×St×List FS)(e:Ending)(a:World):Prop:=
 ∃f c b,(∀k,U k->b k)/\(∀k,b k->U k\/w.heap.size<=k)/\(∀k,c.ownBlock=T k->¬b k)/\e=.returned (.tuple #[G A p,c])/\Ay w.heap.size a c r.1/\AJ i d g n h r.2.1.cJ r.2.1.cL a/\AP g n h m a/\Cg d j f r.2.1.pl r.2.1.ca a/\BA B b a f r.2.2/\Fy i d l f w a
def OB(a n:Nat)(w:World):Nat:=2*(n-NM a w)+(match w.cell? ⟨a,2,Z⟩with|some v=>if intOf v<0 then 1 else 0|none=>0)
theorem Ib{f j g n i c a w}(h:AJ f j g n i c a w):OB f n w=2*(n-c)+(if a=Z then 1 else 0):=by
 have d:=Ak h 2;simp only[gR,gP,gQ]at d;unfold OB;rw[Mq h,d];cases a with
 |none=>rfl
 |some b=>
  have e:¬(intOf (Value.int .i64 (Gh (T b)))<0):=by show¬((b:Int)<0);omega
  simp only;rw[jQ e,jQ (by simp)]
theorem BA.below{B}{U:Nat->Prop}{w f a}(h:BA B U w f a):BA B (fun k=>U k/\k<w.heap.size) w f a:=by
 obtain⟨l,s,p,r⟩:=h;refine⟨l,s,p,fun i m n=>?_⟩;obtain⟨g,j,u,o,b,c,e,t⟩:=r i m n;refine⟨g,j,u,o,b,c,e,fun k d=>⟨t k d,?_⟩⟩;rcases d with q|q|q
 .exact(b.lt k q).2
 .exact(c.lt k q).2
 .exact(e.lt k q).2
theorem BA.rb{e s g n m c B}{U:Nat->Prop}{b j f w l}(h:BA B U w j f)(i:AJ e s g n m c b w)(q:O (fun k=>k=e) w l):BA B U l j f:=by
 refine h.d8 q (fun k a=>?_) (fun k o t u a p=>?_)
 .obtain⟨o,r,_⟩:=h;exact Am r i (by decide) k a
 .have a:k=e:=a;subst a;have d:w.heap[k]? =_:=i;rw[p]at d;simp only[gX,iE]at d;rw[d.2.1];decide
theorem BA.s9{B}{U:Nat->Prop}{b a w c}(h:BA B U w b a)(d:O kJ w c):BA B U c b a:=h.d8 d (fun _ _ q=>q) (fun _ _ _ _ q=>q.elim)
theorem Wn{U:Nat->Prop}{m f g n q c b B j C p s i E v l r w o}(h:Ay j w v l)(x:AJ m f g n q c b w)(u:Cg f s i C p w)(z:BA B U w i r)(t:Fy m f i E w o):Ay j o v l:=by
 obtain⟨F,y,_⟩:=z;refine Ai h t.d8 (fun k d e a=>?_);rcases a with a|a|a
 .exact C6 x.cI (by decide) k d e a
 .exact C6 u.cI (by decide) k d e a
 .exact GA y (by decide) k d e a
theorem Fy.owned{d c:Nat}{e f v:Value}{w g i:World}(h:Fy d c e f w g)(a:O (fun k=>v.ownBlock=T k) g i)(j:∀k,v.ownBlock=T k->w.heap.size<=k):Fy d c e f w i:=by refine⟨⟨a.os.trans h.d8.os,a.tape.trans h.d8.tape,a.output.trans h.d8.output,iG h.d8.size a.size,fun k b l=>?_⟩,h.own⟩;rw[a.block k (iI b h.d8.size) (fun q=>by have:=j k q;omega)];exact h.d8.block k b l
theorem Qx{c k d x a b}(h:x.cL≠Z\/Bu x.cL (tokAt c x.cJ) [125]=true):AA c k d x a b=(b,x,a):=by
 cases k with
 |zero=>rw[AA]
 |succ k=>rw[AA,jR h]
theorem Ng(f:Nat)(ih:∀k,k<=f->IE k)(l d g n p B r:Nat)(U:Nat->Prop)(c:List Tk)(fv sv:Value)(j:St)(F:List FS)(w:World)(S:AJ l d g n p j.cJ j.cL w)(ht:AP g n p c w)(hp:Cg d fv sv j.pl j.ca w)(d9:BA B U w sv F)(hU:∀k,U k->k<w.heap.size)(hB:B<=w.heap.size)(hz:(tokAt c (n-1)).sort=0)(b6:IA n j F.length)(hf:j.cL=Z->2*(n-j.cJ)<=f):
 Calls prog 54 #[.pointer (T ⟨l,0,Z⟩),G A r] w fun e w'=>Yj l d g n p B U c fv sv w (tokAt c j.cJ).pos ((AA c f r (Aw c [123] j) F []).1,Aw c [125] (AA c f r (Aw c [123] j) F []).2.1,(AA c f r (Aw c [123] j) F []).2.2) e w':=by
 obtain⟨i0,hi,g4,g5,g6⟩:=info_parts Tryz.infoInt;have b5:=b6.1;have hn:=ht.2.2;obtain⟨t0,t1,t2⟩:=ht.cells b5;obtain⟨r0,r1⟩:=S.cI.e2 0 1;simp at r0 r1;have lr:=Ae S;have lp:=Ae hp;obtain⟨V,hV⟩:∃V,AA c f r (Aw c [123] j) F []=V:=⟨_,rfl⟩;rw[hV];obtain⟨HV,s,M,HP,d0,HZ,c3,c1⟩:=En hV S ht hp d9 hz b6 hf;have IH:=J ih;have d4:=J hU;clear hV S ht hp d9 hz b6 hf ih hU;generalize f9:(tokAt c j.cJ).pos=h5 at*;clear f9;go_enter func54,ntmps54;go_wp2;go_quiet(fail);go_wp2_with fail;refine(Jl l d g n p j.cJ j.cL c _ [123] (by simp) (w.drewN nq) s.o M.o b5).mono ?_;rintro e w1 ⟨rfl,S,ho⟩;obtain⟨y,a4⟩:∃z,Aw c [123] j=z:=⟨_,rfl⟩;have f2:=J a4;have hg:=A9 c [123] j;have f3:y.cJ<n:=Ci a4 HZ.o b5;rw[a4]at hg;have c2:D (IA n y F.length):=c3.o.dJ hg f3;have d3:D (y.cL=Z->2*(n-y.cJ)+1<=f):=fun e=>by have q:=hg.2.2.2 e;have:=c1.o q.1;omega
 have X:AJ l d g n p y.cJ y.cL w1:=by subst a4;exact S
 have c6:=J X;have b7:=(M.o.ne s.o (by decide));have b8:d≠l:=HP.o.cI.ne s.o.cI (by decide);have d1:=J (AP.d8 (w:=w.drewN nq) M.o ho b7);have c5:D (Cg d fv sv y.pl y.ca w1):=by have:=Cg.cI (w:=w.drewN nq) HP.o;have q:=this.d8 ho b8;rw[hg.2.1,hg.2.2.1];exact q
 have c8:=J (BA.rb (w:=w.drewN nq) d0.o s.o ho);have b3:=J ((Fy.refl l d sv w).drewN nq|>.tr ho);have d5:D (AA c f r y F []=V):=by rw[<-a4];exact HV.o
 clear S ho a4 X hg HV s M HP d0 c3 c1 t0 t1 t2 r0 r1;go_wp2_with fail;go_loopw[7] (fun v wr=>∃(k:Nat) (a:St) (N:List FS) (K:List Nat) (Q:Value) (E:Nat->Prop),D ((∀k,U k->E k)/\(∀k,E k->U k\/w.heap.size<=k)/\(∀k,E k->k<wr.heap.size)/\∀k,v.ownBlock=T k->¬E k)/\D (AJ l d g n p a.cJ a.cL wr)/\D (AP g n p c wr)/\D (Cg d fv Q a.pl a.ca wr)/\D (BA B E wr Q N)/\D (Fy l d sv Q w wr)/\D (Ay w.heap.size wr v K)/\D (IA n a N.length)/\D (a.cL=Z->2*(n-a.cJ)+1<=k/\K.length<=a.cJ)/\k<=f/\K.length<=n/\D (AA c k r a N K=V)) (fun _ wr=>OB l n wr)
 case atStart=>exact⟨f,y,F,[],sv,U,⟨fun _ h=>h,fun _ h=>.inl h,fun k h=>by have:=d4.o k h;have:=b3.o.d8.size;omega,fun k h=>by simp[Value.ownBlock]at h⟩,c6,d1,c5,c8,b3,iB _ _ _ _,c2,fun e=>⟨d3.o e,by simp⟩,gS _,by simp,d5⟩
 case round=>
  obtain⟨k,a,N,K,Q,E,C,s,M,HP,HS,HF,HN,HI,HU,h0,h2,HC⟩:=hrel;clear c6 d1 c5 c8 b3 c2 d3 d5 f2;have b4:=HI.o.1;go_wp2_with fail;refine(RM l d g n p a.cJ a.cL c _ [125] (by simp) wr s.o M.o b4).mono ?_;rintro e w2 ⟨rfl,R⟩;have t:=J (s.o.d8 R id);have a2:=J (M.o.d8 R id);have a7:D (Cg d fv Q a.pl a.ca w2):=HP.o.cI.d8 R id;have a9:=J (HS.o.s9 R);have a5:=J (HF.o.trans (Fy.dG (R.mono (fun _ _ q=>q.elim))));have a6:D (Ay w.heap.size w2 u7 K):=Ac HN.o R (fun _ _ q=>q);have HM:=J (Ib s.o);clear s M HP HS HF HN R;have r2:=t.o.cI.cell 2;simp at r2;by_cases a0:a.cL≠Z\/Bu a.cL (tokAt c a.cJ) [125]=true
  .have hv:V=(K,a,N):=by rw[<-HC.o,Qx a0]
   subst hv;have f4:(∃b:Nat,a.cL=T b/\Bu a.cL (tokAt c a.cJ) [125]=false)\/Bu a.cL (tokAt c a.cJ) [125]=true:=by
    cases hx:a.cL with
    |none=>right;rcases a0 with q|q;exact jY hx q;rw[hx]at q;exact q
    |some b=>left;exact⟨b,rfl,rfl⟩
   clear a0 HC HU HM;rcases f4 with⟨b,H,u⟩|u
   .rw[u];rw[H]at r2;simp only[Gh]at r2;have g9:decide ((0:Int)<=(b:Int))=true:=by simp
    have e6:=J u;have g8:=J H;clear u H;go_wp2_with fail;refine(Jl l d g n p a.cJ a.cL c _ [125] (by simp) w2 t.o a2.o b4).mono ?_;rintro e L ⟨rfl,I,b0⟩;have a8:=J I;have o:=J b0;clear I b0;go_wp2_with fail;go_ret2;refine⟨Q,u7,E,C.o.1,C.o.2.1,C.o.2.2.2,rfl,?_,a8.o,a2.o.d8 o.o b7,a7.o.cI.d8 o.o b8,a9.o.rb t.o o.o,a5.o.tr o.o⟩;exact Ai a6.o o.o (fun k ds fz m=>C6 t.o.cI (by decide) k ds fz m)
   .rw[u];have e6:=J u;clear u;go_wp2_with fail;refine(Jl l d g n p a.cJ a.cL c _ [125] (by simp) w2 t.o a2.o b4).mono ?_;rintro e L ⟨rfl,I,b0⟩;have a8:=J I;have o:=J b0;clear I b0;go_wp2_with fail;go_ret2;refine⟨Q,u7,E,C.o.1,C.o.2.1,C.o.2.2.2,rfl,?_,a8.o,a2.o.d8 o.o b7,a7.o.cI.d8 o.o b8,a9.o.rb t.o o.o,a5.o.tr o.o⟩;exact Ai a6.o o.o (fun k ds fz m=>C6 t.o.cI (by decide) k ds fz m)
  .have H:a.cL=Z:=by
    cases hx:a.cL with
    |none=>rfl
    |some b=>exact jY (.inl (by simp[hx])) a0
   have u:Bu a.cL (tokAt c a.cJ) [125]=false:=by
    cases hq:Bu a.cL (tokAt c a.cJ) [125]with
    |false=>rfl
    |true=>exact jY (.inr hq) a0
   have h1:=HU.o H
   obtain⟨P,f6⟩:∃P,k=P+1:=⟨k-1,by omega⟩
   subst f6
   obtain⟨ri,rx,rf,X⟩:∃i x f,AK c P r a N=(i,x,f):=⟨_,_,_,rfl⟩
   have a1:=J ((DX HZ.o P).2 r a N HI.o H)
   rw[X]at a1
   have e3:D (AA c P r rx rf (K++[ri])=V):=by have:=HC.o;rw[AA,jQ a0,X]at this;exact this
   rw[u]
   rw[H]at r2
   simp only[Gh]at r2
   have HB:=J H
   have e9:=J X
   have h4:w.heap.size<=w2.heap.size:=a5.o.d8.size
   clear u H a0 HC HU X
   go_wp2_with fail
   refine(IH.o P (by omega) l d g n p B r E c fv Q a N w2 t.o a2.o a7.o a9.o (by omega) HZ.o HI.o HB.o (by omega)).mono ?_
   rw[e9.o]
   rintro e L ⟨g7,U2,e2,c0,rfl,I,e1,b9,e0,b2⟩
   have a3:=Wn a6.o t.o a7.o a9.o b2
   have d7:=Am a3 I (by decide)
   have d8:=Am a3 b9 (by decide)
   have h3:w2.heap.size<=L.heap.size:=b2.d8.size
   obtain⟨a8,d2,e7,c9,e4,c4⟩:=EF I e1 b9 e0.below (a5.o.trans b2) (And.intro d7 d8)
   have b1:D ((∀k,U k->U2 k/\k<L.heap.size)/\(∀k,U2 k/\k<L.heap.size->U k\/w.heap.size<=k)/\∀k,u7.ownBlock=T k->¬(U2 k/\k<L.heap.size)):=by
    refine⟨fun k h=>⟨e2 k (C.o.1 k h),?_⟩,fun k h=>?_,fun k h q=>?_⟩
    .have:=d4.o k h;omega
    .rcases c0 k h.1 with q|q
     .exact C.o.2.1 k q
     .exact .inr (by omega)
    .rcases c0 k q.1 with q'|q'
     .exact C.o.2.2.2 k h q'
     .have:=(a6.o.lt k h).2;omega
   clear e2 c0 I e1 b9 e0 b2 d7 d8 a6 t a2 a7 a9 a5 r2
   go_wp2_with(at_builtin;refine JP _ rfl _ _ 50 rfl w.heap.size 3 i0 (G A 0) 1 8 underlying50 hi g4 g5 g6 rfl (by decide) _ _ _ rfl (a3.alloc _) ⟨L.heap.size,0,Z⟩ 1 1 [G A (ri:Int)] rfl rfl (cell_one_new _ _ _) (fun x hx=>by simp at hx;subst hx;rfl) (by decide) (by unfold maxLen;omega) (by omega) (by simp;omega) ?_;intro v' w4 f8 f5 f7)
   have O4:O (fun k=>u7.ownBlock=T k) L w4:=O.grown ((O.refl _ _).alloc _) f5 (fun k m=>.inl m)
   obtain⟨c7,f1,e8,f0,e5⟩:=BB (a8.o.d8 O4 (fun q=>c4.o.1 l q rfl)) (d2.o.d8 O4 (Gz d2.o.1 a3 (by decide) g rfl)) (e7.o.cI.d8 O4 (fun q=>c4.o.2 d q rfl)) (c9.o.eS O4 (fun k m=>by obtain⟨cs,g0,_⟩:=c9.o;exact Gz g0 a3 (by decide) k m) (fun k m q=>b1.o.2.2 k q m)) (e4.o.owned O4 (fun k m=>(a3.lt k m).1))
   have d6:P≠0:=by omega
   refine⟨⟨P,rx,rf,K++[ri],g7,fun k=>U2 k/\k<L.heap.size,⟨b1.o.1,b1.o.2.1,fun k m=>by have:=O4.size;omega,fun k m q=>?_⟩,c7,f1,e8,f0,e5,?_,a1.o.1,fun e=>?_,by omega,by simp;omega,e3⟩,?_⟩
   .rcases f7 k m with q'|q'
    .exact b1.o.2.2 k q' q
    .simp at q';omega
   .show World.ownsRow _ _ _ _ _ _ _
    rw[gW,jZ];exact f8
   .have:=a1.o.2.2.2 d6 e
    simp only[gW,gU,iJ];omega
   .rw[Ib c7.o,HM.o,jR HB.o]
    have g1:=a1.o.2.1;have g2:=a1.o.2.2.2 d6;have g3:=a1.o.1.1;split
    .rename_i e;have:=g2 e;omega
    .omega
theorem Md:Keyed prog 9:=string_keyed underlying9
theorem OU(w):(zeroValue 3).run prog w=.ok (G A 0) w:=by kernel_rfl
structure CS where
 cS:Nat
 l7:Nat
def Ca(f p:Nat)(c:CS):CS:=if c.cS=0 then⟨f,p⟩else c
def CT(b:Nat)(a:Value)(f:Int)(d e:Value)(c:CS)(w:World):Prop:=W b #[a,G A f,d,e,G A c.cS,G A c.l7] 176 w
def Bq(s:ByteArray):Lit:=.string s.data.toList
def Bj(b n:Nat)(a:DataW Unit)(w:World):Prop:=w.ownsMap prog 9 (plainElem prog 3) b n a
theorem Ct(b f p:Nat)(j:Value)(n:Int)(l m:Value)(c:CS)(w:World)(d:CT b j n l m c w):
 Calls prog 79 #[.pointer (T ⟨b,0,Z⟩),G A f,G A p] w fun e o=>e=.returned (.tuple #[])/\CT b j n l m (Ca f p c) o/\O (fun k=>k=b) w o:=by
 have r:=Ak d 4;have s:=Ak d 5;have t:=fun i=>Az d i
 simp only[gR,gP,gQ]at r s;have u:=Ae d;have h:=J d;clear d;by_cases a:c.cS=0
 .have g:Ca f p c=⟨f,p⟩:=by simp[Ca,a]
  rw[g];have q:((c.cS:Int)==0)=true:=by simp[a]
  clear g a;go_enter func79,ntmps79;go_wp2;go_end0;refine⟨rfl,?_,?_⟩
  .have:=(W.set (w:=w) h.o 4 (G A f)).set 5 (G A p);simpa[CT]using this
  .exact((O.refl _ _).t9 4 _).t9 5 _
 .have g:Ca f p c=c:=by simp[Ca,a]
  rw[g];have q:((c.cS:Int)==0)=false:=by simp[a]
  clear g a;go_enter func79,ntmps79;go_wp2;go_end0;exact⟨rfl,h.o,O.refl _ _⟩
theorem Jv{s}(a:s.size<=4000):keyOf prog 9 (.string s)=T (Bq s):=WideMaps.keyOf_string_mk underlying9 (by unfold maxLen;omega)
theorem Fn{m n b w s}(h:Bj m n b w)(e:s.size<=4000):
 ∃z:Int,(Instr.lookup 121 (.map (T m)) (.string s) true).run prog w=.ok (.tuple #[G A z,.bool (Maps.has b (Bq s))]) w/\b.atKey (Bq s) (.lit (.int .i64 0))=.lit (.int .i64 z)/\(Lit.int .i64 z).wf=true:=by
 obtain⟨v,j,f,g⟩:=World.ownsMap.look_ok h Md underlying121 (OU w) (plainElem_int underlying3 (a:=0) (by decide)) (Jv e);obtain⟨c,rfl,d,i⟩:=plainElem_int_inv underlying3 g;exact⟨c,f,congrArg Prod.fst d,i⟩
theorem Bj.d8{m n a}{X:Nat->Prop}{w c}(h:Bj m n a w)(f:O X w c)(g:¬X m):Bj m n a c:=by obtain⟨e,d,b,r⟩:=h;exact⟨e,d,by rw[f.block m (lt_of_block b) g];exact b,r⟩
theorem Bj.ne{m n b c w}(h:Bj m n c w){d t e}(a:w.heap[b]? =T (.cells d t e)):m≠b:=by obtain⟨i,g,f,r⟩:=h;rintro rfl;rw[f]at a;cases a
def CE(a:DataW Unit)(t:PT)(c:CS):CS:=if Maps.has a (Bq t.d9)then c else Ca 6 t.l7 c
theorem ET(b h j i m n d c t w)(g:CT b h j i (.map (T m)) c w)(o:Bj m n d w)(r:t.d9.size<=4000):
 Calls prog 155 #[.pointer (T ⟨b,0,Z⟩),Ki t] w fun e q=>e=.returned (.tuple #[])/\CT b h j i (.map (T m)) (CE d t c) q/\O (fun k=>k=b) w q:=by
 have v:=Ak g 3;simp only[gR,gP,gQ]at v;have x:=Ae g;obtain⟨z,p,_,_⟩:=Fn (w:=(w.alloc (.cells #[.string t.d9,G A t.l7] 126)).drew) (o.d8 (((O.refl kJ w).alloc _).drew) id) r;have l:=J g;clear g o;unfold Ki;cases a:Maps.has d (Bq t.d9)with
 |true=>
  rw[a]at p;have f:CE d t c=c:=by simp[CE,a]
  rw[f];clear f a;go_enter func155,ntmps155;go_wp2;go_region;go_wp2;go_end0;exact⟨rfl,l.o.d8 (((O.refl kJ w).alloc _).drew) id,((O.refl _ w).alloc _).drew⟩
 |false=>
  rw[a]at p;have f:CE d t c=Ca 6 t.l7 c:=by simp[CE,a]
  rw[f];clear f a;go_enter func155,ntmps155;go_wp2;go_region;go_wp2_with(go_at_call 79;refine(Ct b 6 t.l7 h j i (.map (T m)) c _ (l.o.d8 (((O.refl kJ w).alloc _).drew) id)).mono ?_);rintro e y ⟨rfl,u,s⟩;go_wp2;go_end0;exact⟨rfl,u,(((O.refl _ w).alloc _).drew).trans s⟩
theorem Kc(b h j i m n d c t w)(g:CT b h j (.map (T m)) i c w)(o:Bj m n d w)(r:t.d9.size<=4000):
 Calls prog 156 #[.pointer (T ⟨b,0,Z⟩),Ki t] w fun e q=>e=.returned (.tuple #[])/\CT b h j (.map (T m)) i (CE d t c) q/\O (fun k=>k=b) w q:=by
 have v:=Ak g 2;simp only[gR,gP,gQ]at v;have x:=Ae g;obtain⟨z,p,_,_⟩:=Fn (w:=(w.alloc (.cells #[.string t.d9,G A t.l7] 126)).drew) (o.d8 (((O.refl kJ w).alloc _).drew) id) r;have l:=J g;clear g o;unfold Ki;cases a:Maps.has d (Bq t.d9)with
 |true=>
  rw[a]at p;have f:CE d t c=c:=by simp[CE,a]
  rw[f];clear f a;go_enter func156,ntmps156;go_wp2;go_region;go_wp2;go_end0;exact⟨rfl,l.o.d8 (((O.refl kJ w).alloc _).drew) id,((O.refl _ w).alloc _).drew⟩
 |false=>
  rw[a]at p;have f:CE d t c=Ca 6 t.l7 c:=by simp[CE,a]
  rw[f];clear f a;go_enter func156,ntmps156;go_wp2;go_region;go_wp2_with(go_at_call 79;refine(Ct b 6 t.l7 h j (.map (T m)) i c _ (l.o.d8 (((O.refl kJ w).alloc _).drew) id)).mono ?_);rintro e y ⟨rfl,u,s⟩;go_wp2;go_end0;exact⟨rfl,u,(((O.refl _ w).alloc _).drew).trans s⟩
theorem Fa{m n p:Nat}{b:DataW Unit}{w:World}{s:ByteArray}(h:Bj m n b w)(f:s.size<=4000)(l:p<=4000)(j:n<=4000):
 ∃a,(Instr.mapUpdate 121 (.map (T m)) (.string s) (G A p)).run prog w=.ok () a/\Bj m (n+1) (b.put (Bq s) (.lit (.int .i64 p))) a/\O (fun k=>k=m) w a:=by
 have i:(Lit.int .i64 (p:Int)).wf=true:=WalkArith.wf_i64 (by omega);obtain⟨a,g,c,d⟩:=World.ownsMap.store h Md underlying121 (by unfold maxLen;omega) (Jv f) (plainElem_int underlying3 i);exact⟨a,g,c,(O.refl _ w).grown d.grown (fun k e=>.inl (by cases e;rfl))⟩
def Fg(a:DataW Unit)(t:PT)(c:CS):CS:=
 let b:=if 12<=Maps.size a then Ca 4 t.l7 c else c
 if Maps.has a (Bq t.d9)then Ca 5 t.l7 b else b
def Iq(a:DataW Unit)(t:PT):DataW Unit:=a.put (Bq t.d9) (.lit (.int .i64 t.l7))
theorem Ky(b S a0 mf m n g c t w)(hr:CT b S a0 mf (.map (T m)) c w)(hm:Bj m n g w)(P:t.d9.size<=4000)(hp:t.l7<=4000)(hn:n<=4000):
 Calls prog 115 #[.pointer (T ⟨b,0,Z⟩),Ki t] w fun e w'=>e=.returned (.tuple #[])/\CT b S a0 mf (.map (T m)) (Fg g t c) w'/\Bj m (n+1) (Iq g t) w'/\O (fun k=>k=b\/k=m) w w':=by
 have r3:=Ak hr 3;simp only[gR,gP,gQ]at r3;have lr:=Ae hr;have HR:=J hr;have HM:=J hm;clear hr hm;unfold Ki;obtain⟨K0,Q,N0,O0⟩:=Ba (HR.o.d8 ((O.refl kJ w).alloc (.cells #[.string t.d9,G A t.l7] 126)) id) (HM.o.d8 ((O.refl kJ w).alloc (.cells #[.string t.d9,G A t.l7] 126)) id) (W.new w #[.string t.d9,G A t.l7] 126) ((O.refl (fun k=>k=b) w).alloc (.cells #[.string t.d9,G A t.l7] 126));have a2:=fun ty=>World.ownsMap.len Q.o underlying121 ty
 by_cases hs:12<=Maps.size g
 .have a3:(12:Int)<=(Maps.size g:Int):=by omega
  obtain⟨l,N⟩:∃l,Ca 4 t.l7 c=l:=⟨_,rfl⟩;have U:Fg g t c=if Maps.has g (Bq t.d9)then Ca 5 t.l7 l else l:=by simp[Fg,hs,N]
  rw[U];have C1:=J N;clear U N hs;go_enter func115,ntmps115;go_wp2_with(go_at_call 79;refine(Ct b 4 t.l7 S a0 mf (.map (T m)) c _ K0.o).mono ?_);rw[C1.o];rintro e a ⟨rfl,kw,ow⟩;obtain⟨o,p,r,R⟩:=Ba kw (Bj.d8 Q.o ow (Bj.ne Q.o K0.o)) (W.d8 N0.o ow (by omega)) (O0.o.trans ow);clear kw ow a2 r3;go_wp2;have I:=Ak o.o 3;have F:=Ak r.o 0;have H:=Ak r.o 1;simp only[gR,gP,gQ]at I F H;obtain⟨z,s,_,_⟩:=Fn (w:=a.drew) (Bj.d8 p.o ((O.refl kJ a).drew) id) P;cases f:Maps.has g (Bq t.d9)with
  |true=> rw[f]at s;have v:=J f;clear f;go_region;go_wp2_with(go_at_call 79;refine(Ct b 5 t.l7 S a0 mf (.map (T m)) l _ (W.d8 o.o ((O.refl kJ a).drew) id)).mono ?_);rintro e V ⟨rfl,X,ov⟩;have u:O (fun k=>k=b) a V:=((O.refl _ a).drew).trans ov;obtain⟨d,h,i,x⟩:=Ba X (Bj.d8 p.o u (Bj.ne p.o o.o)) (W.d8 r.o u (by omega)) (R.o.trans u);clear X ov u s I F H;obtain⟨y,a1,B,C⟩:=Fa (w:=V.drew) (Bj.d8 h.o ((O.refl kJ V).drew) id) P hp hn;have M:=Ak d.o 3;have K:=Ak i.o 0;have L:=Ak i.o 1;simp only[gR,gP,gQ]at M K L;go_wp2;go_region;go_end0;have j:O (fun k=>k=m) V y:=((O.refl _ V).drew).trans C;have E:=h.o.ne d.o;rw[jR v.o];exact⟨rfl,W.d8 d.o j (fun q=>E q.symm),B,(x.o.mono (fun _ _ q=>.inl q)).trans (j.mono (fun _ _ q=>.inr q))⟩
  |false=> rw[f]at s;have v:=J f;clear f;go_region;obtain⟨d,h,i,x⟩:=Ba (W.d8 o.o ((O.refl kJ a).drew) id) (Bj.d8 p.o ((O.refl kJ a).drew) id) (W.d8 r.o ((O.refl kJ a).drew) id) (R.o.drew);generalize hV:a.drew=V at*;clear s I F H hV;obtain⟨y,a1,B,C⟩:=Fa (w:=V.drew) (Bj.d8 h.o ((O.refl kJ V).drew) id) P hp hn;have M:=Ak d.o 3;have K:=Ak i.o 0;have L:=Ak i.o 1;simp only[gR,gP,gQ]at M K L;go_wp2;go_region;go_end0;have j:O (fun k=>k=m) V y:=((O.refl _ V).drew).trans C;have E:=h.o.ne d.o;rw[jQ (by rw[v.o];decide)];exact⟨rfl,W.d8 d.o j (fun q=>E q.symm),B,(x.o.mono (fun _ _ q=>.inl q)).trans (j.mono (fun _ _ q=>.inr q))⟩
 .have a3:¬(12:Int)<=(Maps.size g:Int):=by omega
  obtain⟨l,N⟩:∃l,c=l:=⟨_,rfl⟩;have U:Fg g t c=if Maps.has g (Bq t.d9)then Ca 5 t.l7 l else l:=by simp[Fg,hs,N]
  rw[U];clear U hs;subst N;go_enter func115,ntmps115;go_wp2;generalize w.alloc (.cells #[.string t.d9,G A t.l7] 126)=a at*;have o:=K0;have p:=Q;have r:=N0;have R:=O0;clear a2 r3 K0 Q N0 O0;have I:=Ak o.o 3;have F:=Ak r.o 0;have H:=Ak r.o 1;simp only[gR,gP,gQ]at I F H;obtain⟨z,s,_,_⟩:=Fn (w:=a.drew) (Bj.d8 p.o ((O.refl kJ a).drew) id) P;cases f:Maps.has g (Bq t.d9)with
  |true=> rw[f]at s;have v:=J f;clear f;go_region;go_wp2_with(go_at_call 79;refine(Ct b 5 t.l7 S a0 mf (.map (T m)) c _ (W.d8 o.o ((O.refl kJ a).drew) id)).mono ?_);rintro e V ⟨rfl,X,ov⟩;have u:O (fun k=>k=b) a V:=((O.refl _ a).drew).trans ov;obtain⟨d,h,i,x⟩:=Ba X (Bj.d8 p.o u (Bj.ne p.o o.o)) (W.d8 r.o u (by omega)) (R.o.trans u);clear X ov u s I F H;obtain⟨y,a1,B,C⟩:=Fa (w:=V.drew) (Bj.d8 h.o ((O.refl kJ V).drew) id) P hp hn;have M:=Ak d.o 3;have K:=Ak i.o 0;have L:=Ak i.o 1;simp only[gR,gP,gQ]at M K L;go_wp2;go_region;go_end0;have j:O (fun k=>k=m) V y:=((O.refl _ V).drew).trans C;have E:=h.o.ne d.o;rw[jR v.o];exact⟨rfl,W.d8 d.o j (fun q=>E q.symm),B,(x.o.mono (fun _ _ q=>.inl q)).trans (j.mono (fun _ _ q=>.inr q))⟩
  |false=> rw[f]at s;have v:=J f;clear f;go_region;obtain⟨d,h,i,x⟩:=Ba (W.d8 o.o ((O.refl kJ a).drew) id) (Bj.d8 p.o ((O.refl kJ a).drew) id) (W.d8 r.o ((O.refl kJ a).drew) id) (R.o.drew);generalize hV:a.drew=V at*;clear s I F H hV;obtain⟨y,a1,B,C⟩:=Fa (w:=V.drew) (Bj.d8 h.o ((O.refl kJ V).drew) id) P hp hn;have M:=Ak d.o 3;have K:=Ak i.o 0;have L:=Ak i.o 1;simp only[gR,gP,gQ]at M K L;go_wp2;go_region;go_end0;have j:O (fun k=>k=m) V y:=((O.refl _ V).drew).trans C;have E:=h.o.ne d.o;rw[jQ (by rw[v.o];decide)];exact⟨rfl,W.d8 d.o j (fun q=>E q.symm),B,(x.o.mono (fun _ _ q=>.inl q)).trans (j.mono (fun _ _ q=>.inr q))⟩
def F8(a:DataW Unit)(l:List PT)(c:CS):CS:=l.foldl (fun c t=>CE a t c) c
theorem Qg(a:DataW Unit)(l:List PT)(k:Nat)(h:k<l.length)(c:CS):F8 a (l.drop k) c=F8 a (l.drop (k+1)) (CE a l[k] c):=by rw[iD h];rfl
theorem FK{l i}(h:i<l.length):(BS l)[i*2]? =T (.string l[i].d9)/\(BS l)[i*2+1]? =T (G A l[i].l7):=by
 induction l generalizing i with
 |nil=>simp at h
 |cons t l a=>
  cases i with
  |zero=>simp[BS,FJ]
  |succ i=>
   have:=a (i:=i) (by simpa using h);simp only[BS,List.flatMap_cons,jH]at this⊢;have e:∀j,(FJ t++List.flatMap FJ l)[(i+1)*2+j]? =(List.flatMap FJ l)[i*2+j]? :=by intro j;rw[jS (by simp[FJ];omega)];congr 1;simp[FJ];omega
   exact⟨by rw[show(i+1)*2=(i+1)*2+0 from rfl,e];exact this.1,by rw[e];exact this.2⟩
theorem Gg(b o r q m n a c l z w)(j:CT b o r q (.map (T m)) c w)(u:Bj m n a w)(h:w.ownsRow 0 126 2 z l.length (BS l))(N:∀t,t∈l->t.d9.size<=4000)(hk:l.length<=4000):
 Calls prog 158 #[.pointer (T ⟨b,0,Z⟩),z] w fun e H=>e=.returned (.tuple #[])/\CT b o r q (.map (T m)) (F8 a l c) H/\O (fun k=>k=b) w H:=by
 obtain⟨va,vl,vc,rfl⟩:=Ad h;have a1:=Ag h;subst a1;have lr:=Ae j;have R:=Am h j (by decide);have Q:=u.ne j;generalize B:F8 a l c=V;have x:D (F8 a (l.drop 0) c=V):=B;obtain⟨v,I,y⟩:=Ax j u h;clear B j u h;go_enter func158,ntmps158;go_wp2;go_loopw[8] (fun i wr=>∃(k:Nat) (d:CS),k<=l.length/\i=G A k/\D (CT b o r q (.map (T m)) d wr)/\D (O (fun k=>k=b) w wr)/\D (F8 a (l.drop k) d=V)) (fun i _=>l.length-(intOf i).toNat)
 case atStart=>exact⟨0,c,by omega,rfl,v,J (O.refl _ _),x⟩
 case round=>
  obtain⟨k,d,a2,rfl,E,f,F⟩:=hrel;clear x v;by_cases C:k<l.length
  .obtain⟨g,rfl⟩:=Ap y.o (by omega);have p:=Ac y.o f.o R;have M:=J (Bj.d8 I.o f.o Q);have s:=FK C;have K:=p.cellAt (k*2) (by omega);have L:=p.cellAt (k*2+1) (by omega);rw[s.1]at K;rw[s.2]at L;have lg:=(p.lt g rfl).2;have X:=J (Qg a l k C d);have P:=N l[k] (iA _);generalize l[k]=t at*;have l1:=f.o.size;clear s p;go_wp2_with(go_at_call 155;refine(ET b o r q m n a d t _ (W.d8 E.o ((O.refl kJ _).alloc _) id) (Bj.d8 M.o ((O.refl kJ _).alloc _) id) P).mono ?_;rintro e w2 ⟨rfl,U,S⟩);go_round
   case rel=>exact⟨k+1,_,by omega,by go_num,J U,J (f.o.trans (((O.refl _ _).alloc _).trans S)),J (X.o.symm.trans F.o)⟩
   case measure=>simp[intOf];omega
  .have e:k=l.length:=by omega
   subst e;have a0:d=V:=by have:=F.o;simpa[F8]using this
   subst a0;go_wp2;go_end0;exact⟨rfl,E.o,f.o⟩
theorem CD:∀{a:List (List Value)} {s:Nat},(∀c,c∈a->c.length=s)->∀{j i:Nat} (b:j<a.length),i<s->a.flatten[j*s+i]? =a[j][i]?
 |[],_,_,_,_,b,_=>by simp at b
 |c::a,s,d,0,i,_,g=>by have f:=d c (by simp);simp only[Nat.zero_mul,iY,List.flatten_cons,iN];rw[jT (by omega)]
 |c::a,s,d,j+1,i,b,g=>by
  have f:=d c (by simp);have h:j<a.length:=by simpa using b
  have e:(j+1)*s+i=s+(j*s+i):=by rw[Nat.succ_mul];omega
  simp only[List.flatten_cons,jH];rw[e,jS (by omega),f,Nat.add_sub_cancel_left];exact CD (fun x k=>d x (by simp[k])) h g
theorem DM.d8{d}{U:Nat->Prop}{w f sv a}{X:Nat->Prop}(h:DM d U w sv a)(c:O X w f)(e:∀k,U k->¬X k):DM d U f sv a:=by obtain⟨i,m,n,b,o⟩:=h;exact⟨i,Ac m c (fun k p=>e k (b k p)),n,b,fun j g l=>(o j g l).d8 c e⟩
theorem DM.get{d}{U:Nat->Prop}{w g l c a}(h:DM d U w (Y (T ⟨g,0,Z⟩) l c) a){j}(t:j<a.length):
 ∃(b f:Value),(∀i,i<5->w.cell? ⟨g,j*5+i,Z⟩=(MX a[j] b f)[i]?)/\w.ownsRow 0 126 2 b a[j].u9.length (BS a[j].u9)/\(∀k,b.ownBlock=T k->U k)/\C7 d U w f a[j].cP:=by
 obtain⟨n,o,E,F,p⟩:=h;have v:=Ag o;subst v;have q:j<n.length:=by omega
 obtain⟨b,f,e,z,B,C⟩:=p j t q;have u:∀x,x∈n->x.length=5:=by intro x y;obtain⟨i,m,rfl⟩:=iP.1 y;obtain⟨_,_,r,_⟩:=p i (by omega) m;rw[r];rfl
 refine⟨b,f,fun i m=>?_,z,B,C⟩;have s:=o.cellAt (j*5+i) (by omega);rw[s,CD u q m,e];simp
def Lp(F:DataW Unit)(N:Nat):Prop:=∀s,Maps.has F (Bq s)=true->∃j:Nat,j<N/\F.atKey (Bq s) (.lit (.int .i64 0))=.lit (.int .i64 j)
def Cq(F:DataW Unit)(s:ByteArray):Nat:=match F.atKey (Bq s) (.lit (.int .i64 0))with|.lit (.int _ z)=>z.toNat|_=>0
def JD(a:List TF)(j:Nat):Nat:=(a[j]?.map (fun t=>t.u9.length)).getD 0
def EA(F:DataW Unit)(b:List TF)(t:PT)(a:Nat)(c:CS):CS:=
 if Maps.has F (Bq t.d9)then(if JD b (Cq F t.d9)=a then c else Ca 7 t.l7 c)else Ca 6 t.l7 c
theorem Rm(b d:Nat)(U:Nat->Prop)(r:Value)(f:List TF)(B:Int)(y:Value)(m n:Nat)(F:DataW Unit)(c:CS)(t:PT)(a:Nat)(w:World)(p:CT b r B (.map (T m)) y c w)(N:Bj m n F w)(u:DM d U w r f)(hN:Lp F f.length)(hl:t.d9.size<=4000)(hk:f.length<=4001):
 Calls prog 157 #[.pointer (T ⟨b,0,Z⟩),Ki t,G A a] w fun e R=>e=.returned (.tuple #[])/\CT b r B (.map (T m)) y (EA F f t a c) R/\O (fun k=>k=b) w R:=by
 have Q:=Ak p 0;have r2:=Ak p 2;simp only[gR,gP,gQ]at Q r2;have lr:=Ae p;obtain⟨z,P,E,_⟩:=Fn (w:=(w.alloc (.cells #[.string t.d9,G A t.l7] 126)).drew) (N.d8 (((O.refl kJ w).alloc _).drew) id) hl;have C:=J p;clear p N;unfold Ki;cases h:Maps.has F (Bq t.d9)with
 |false=>
  rw[h]at P;have i:EA F f t a c=Ca 6 t.l7 c:=by simp[EA,h]
  rw[i];clear i h u Q;go_enter func157,ntmps157;go_wp2;go_region;go_wp2_with(go_at_call 79;refine(Ct b 6 t.l7 r B (.map (T m)) y c _ (C.o.d8 (((O.refl kJ w).alloc _).drew) id)).mono ?_);rintro e w2 ⟨rfl,L,K⟩;go_wp2;refine gZ (v:=.tuple #[]) (by simp[results,results157,go_sem]) rfl ⟨rfl,L,(((O.refl _ w).alloc _).drew).trans K⟩
 |true=>
  rw[h]at P;obtain⟨j,M,H⟩:=hN _ h;have hz:z=(j:Int):=by rw[H]at E;simpa using E.symm
  have s:Cq F t.d9=j:=by simp[Cq,H]
  have x:JD f j=f[j].u9.length:=by simp[JD,M]
  subst hz;have a1:=u;obtain⟨a4,q,_⟩:=a1;obtain⟨va,vl,vc,rfl⟩:=Ad q;obtain⟨g,rfl⟩:=Ap q (by omega);have a3:=Ag q;subst a3;have lg:=(q.lt g rfl).2;obtain⟨av,sv,l,I,_,_⟩:=u.get M;obtain⟨aa,al,ac,rfl⟩:=Ad I;have a0:=Ag I;subst a0;have X:=l 2 (by omega);have S:=l 0 (by omega);have V:=l 1 (by omega);have f3:=l 3 (by omega);have f4:=l 4 (by omega);simp only[MX,gR,gP,gQ,iH]at S V X f3 f4;clear q I l u E H;by_cases o:f[j].u9.length=a
  .have i:EA F f t a c=c:=by simp[EA,h,s,x,o]
   rw[i];have a2:((f[j].u9.length:Int) !=(a:Int))=false:=by simp[o]
   clear i h s x o;go_enter func157,ntmps157;go_wp2;go_region;go_wp2;go_end0;exact⟨rfl,C.o.d8 (((O.refl kJ w).alloc _).drew) id,((O.refl _ w).alloc _).drew⟩
  .have i:EA F f t a c=Ca 7 t.l7 c:=by simp[EA,h,s,x,o]
   rw[i];have a2:((f[j].u9.length:Int) !=(a:Int))=true:=by simp;omega
   clear i h s x o;go_enter func157,ntmps157;go_wp2;go_region;go_wp2_with(go_at_call 79;refine(Ct b 7 t.l7 _ B (.map (T m)) y c _ (C.o.d8 (((O.refl kJ w).alloc _).drew) id)).mono ?_);rintro e w2 ⟨rfl,L,K⟩;go_wp2;go_end0;exact⟨rfl,L,(((O.refl _ w).alloc _).drew).trans K⟩
structure RF where
 name:Tk
 cQ:List Tk
 cT:List Nat
 br:Nat
 t8:List ByteArray
def ER(f:RF)(b a c:Value):Array Value:=#[.string f.name.d9,G A f.name.pos,G A f.name.sort,b,a,G A f.br,c]
def Au(B:Nat)(w:World)(v:Value)(l:List ByteArray):Prop:=w.ownsRow B 9 1 v l.length (l.map Value.string)
def Pd(B:Nat)(w:World)(c:List Value)(f:RF):Prop:=∃b a d,c=(ER f b a d).toList/\CM B w b f.cQ/\Ay B w a f.cT/\Au B w d f.t8
def QX(c:List Value):Value:=c[6]?.getD (.bool false)
def Cw(B:Nat)(w:World)(c:Value)(b:List RF):Prop:=
 ∃a:List (List Value),w.ownsRow B 53 7 c b.length a.flatten/\a.length=b.length/\(∀i (h:i<a.length) (d:i<b.length),Pd B w a[i] b[i])/\∀i j (e:i<a.length) (f:j<a.length),i≠j->∀k,(QX a[i]).ownBlock=T k->(QX a[j]).ownBlock≠T k
theorem Pd.d8{B w i c f}{X:Nat->Prop}(h:Pd B w c f)(e:O X w i)(g:∀k a t b,X k->w.heap[k]? =T (.cells a t b)->t≠3/\t≠49/\t≠9):Pd B i c f:=by obtain⟨p,j,r,m,n,l,o⟩:=h;exact⟨p,j,r,m,Ai n e (fun k a b d q=>(g k a _ b d q).2.1 rfl),Ai l e (fun k a b d q=>(g k a _ b d q).1 rfl),Ai o e (fun k a b d q=>(g k a _ b d q).2.2 rfl)⟩
theorem Cw.d8{B w e b c}{X:Nat->Prop}(h:Cw B w b c)(d:O X w e)(p:∀k,b.ownBlock=T k->¬X k)(q:∀k a t f,X k->w.heap[k]? =T (.cells a t f)->t≠3/\t≠49/\t≠9):Cw B e b c:=by obtain⟨a,o,m,n,l⟩:=h;exact⟨a,Ac o d p,m,fun i g j=>(n i g j).d8 d q,l⟩
theorem Cw.s9{B w c b a}(h:Cw B w b a)(d:O kJ w c):Cw B c b a:=h.d8 d (fun _ _ q=>q) (fun _ _ _ _ q=>q.elim)
theorem Cw.get{B w g l c a}(h:Cw B w (Y (T ⟨g,0,Z⟩) l c) a){i}(v:i<a.length):
 ∃d b f,(∀j,j<7->w.cell? ⟨g,i*7+j,Z⟩=(ER a[i] d b f)[j]?)/\CM B w d a[i].cQ/\Ay B w b a[i].cT/\Au B w f a[i].t8:=by
 obtain⟨m,p,E,o,C⟩:=h;have y:=Ag p;subst y;have n:i<m.length:=by omega
 have t:∀x,x∈m->x.length=7:=by intro x z;obtain⟨j,k,rfl⟩:=iP.1 z;obtain⟨_,_,_,e,_⟩:=o j k (by omega);rw[e];rfl
 obtain⟨d,b,f,e,q,r,s⟩:=o i n v;refine⟨d,b,f,fun j k=>?_,q,r,s⟩;have u:=p.cellAt (i*7+j) (by omega);rw[u,CD t n k,e];simp
def BC:List ByteArray->ByteArray->Nat->Int
 |[],_,_=> -1
 |a::l,s,k=>if a.toList=s.toList then(k:Int)else BC l s (k+1)
theorem LT(l:List ByteArray)(s:ByteArray)(k:Nat)(h:k<l.length):BC (l.drop k) s k=if l[k].toList=s.toList then(k:Int)else BC (l.drop (k+1)) s (k+1):=by rw[iD h];rfl
theorem CA{a b:ByteArray}(h:a.toList=b.toList):a=b:=by rw[kC,kC]at h;exact ByteArray.ext (Array.toList_inj.1 h)
theorem C0(l s):∀k,(0<=BC l s k↔s∈l)/\ -1<=BC l s k/\BC l s k<k+l.length:=by
 induction l with
 |nil=>intro k;simp[BC];omega
 |cons a l d=>
  intro k;rw[BC];split
  .rename_i h;have:=CA h;subst this;exact⟨⟨fun _=>jP ..,fun _=>by omega⟩,by omega,by simp;omega⟩
  .rename_i h;obtain⟨b,c,e⟩:=d (k+1);refine⟨⟨fun q=>iK _ (b.1 q),fun q=>?_⟩,c,by simp only[gU];omega⟩;rcases jJ.1 q with q|q
   .subst q;exact jY rfl h
   .exact b.2 q
theorem GW(B v l s w)(h:Au B w v l)(y:l.length<=20000):
 Calls prog 55 #[v,.string s] w fun e u=>e=.returned (G A (BC l s 0))/\u=w:=by
 obtain⟨C,F,E,rfl⟩:=Ad h;have t:=Ag h;subst t;generalize n:BC l s 0=V;have m:D (BC (l.drop 0) s 0=V):=n;have j:=J h;clear n h;go_enter func55,ntmps55;go_wp2;go_loopw[5] (fun i wr=>∃k:Nat,k<=l.length/\i=G A k/\wr=w/\D (BC (l.drop k) s k=V)) (fun i _=>l.length-(intOf i).toNat)
 case atStart=>exact⟨0,by omega,rfl,rfl,m⟩
 case round=>
  obtain⟨k,x,rfl,rfl,d⟩:=hrel;clear m;by_cases p:k<l.length
  .obtain⟨g,rfl⟩:=Ap j.o (by omega);have c:=j.o.cellAt k (by omega);rw[iV,gV p]at c;simp only[Option.map_some]at c;have z:=(j.o.lt g rfl).2;have b:=LT l s k p;generalize l[k]=a at c b;cases o:(a.toList==s.toList)with
   |true=>
    have f:a.toList=s.toList:=by simpa using o
    rw[jR f,d.o]at b;subst b;clear d f;go_wp2;go_ret;exact⟨rfl,rfl⟩
   |false=>
    have f:¬a.toList=s.toList:=by simpa using o
    rw[jQ f,d.o]at b;have q:=J b;clear d f b;go_wp2;go_round
    case rel=>exact⟨k+1,by omega,by go_num,by trivial,q.o.symm⟩
    case measure=>simp[intOf];omega
  .have e:k=l.length:=by omega
   subst e;have r:V= -1:=by have:=d.o;rw[jW]at this;exact this.symm
   subst r;clear d;go_wp2;go_ret;exact⟨rfl,rfl⟩
theorem Gj(B v l s w)(h:Au B w v l)(b:l.length<=4001):
 Calls prog 55 #[v,.string s] w fun e a=>e=.returned (G A (BC l s 0))/\a=w:=GW B v l s w h (by omega)
theorem DP(B y K C r L b s w)(o:Cg y r L K C w)(h:Cw B w r b)(Q:b.length<=4001):
 Calls prog 20 #[.pointer (T ⟨y,0,Z⟩),.string s] w fun e M=>e=.returned (G A (BC (b.map fun f=>f.name.d9) s 0))/\M=w:=by
 have n:=h;obtain⟨E,j,_⟩:=n;obtain⟨X,vl,vc,rfl⟩:=Ad j;have H:=Ag j;subst H;have I:=o.cI.cell 0;simp at I;have S:=Ae o;generalize t:BC (b.map fun f=>f.name.d9) s 0=V;have q:D (BC ((b.map fun f=>f.name.d9).drop 0) s 0=V):=t;have p:=J h;clear t h j o;go_enter func20,ntmps20;go_wp2;go_loopw[5] (fun i wr=>∃k:Nat,k<=b.length/\i=G A k/\wr=w/\D (BC ((b.map fun f=>f.name.d9).drop k) s k=V)) (fun i _=>b.length-(intOf i).toNat)
 case atStart=>exact⟨0,by omega,rfl,rfl,q⟩
 case round=>
  obtain⟨k,P,rfl,rfl,l⟩:=hrel;clear q;by_cases x:k<b.length
  .have n:=p.o;obtain⟨E,j,_⟩:=n;obtain⟨g,rfl⟩:=Ap j (by omega);have R:=(j.lt g rfl).2;obtain⟨U,N,vv,u,_,_,_⟩:=p.o.get x;have c:=u 0 (by omega);simp only[ER,gR,gP,iH]at c;have d:=LT (b.map fun f=>f.name.d9) s k (by simpa using x);rw[jE]at d;clear u j;generalize b[k].name.d9=a at c d;cases v:(a.toList==s.toList)with
   |true=>
    have m:a.toList=s.toList:=by simpa using v
    rw[jR m,l.o]at d;subst d;clear l m;go_wp2;go_ret;exact⟨rfl,rfl⟩
   |false=>
    have m:¬a.toList=s.toList:=by simpa using v
    rw[jQ m,l.o]at d;have z:=J d;clear l m d;go_wp2;go_round
    case rel=>exact⟨k+1,by omega,by go_num,by trivial,z.o.symm⟩
    case measure=>simp[intOf];omega
  .have e:k=b.length:=by omega
   subst e;have F:V= -1:=by have:=l.o;rw[List.drop_of_length_le (by simp)]at this;exact this.symm
   subst F;clear l;go_wp2;go_ret;exact⟨rfl,rfl⟩
def Bi(e p:Nat)(c:CS):CS:=if c.cS=0\/p<c.l7\/(p=c.l7/\e<c.cS)then⟨e,p⟩else c
def Jc(b:Nat)(c:CS)(w:World):Prop:=W b #[G A c.l7,G A c.cS] 82 w
theorem Cr(b e p:Nat)(c:CS)(w:World)(h:Jc b c w):
 Calls prog 19 #[.pointer (T ⟨b,0,Z⟩),G A e,G A p] w fun r s=>r=.returned (.tuple #[])/\Jc b (Bi e p c) s/\O (fun k=>k=b) w s:=by
 have o:=Ak h 0;have q:=Ak h 1;have y:=fun i=>Az h i
 simp only[gR,gP,gQ]at o q;have z:=Ae h;have j:=J h;clear h;obtain⟨d,f⟩:=c;simp only at o q;by_cases g:d=0
 .have a:Bi e p ⟨d,f⟩=⟨e,p⟩:=by simp[Bi,g]
  rw[a];have t:((d:Int)==0)=true:=by simp[g]
  clear a g;go_enter func19,ntmps19;go_wp2;go_end0;refine⟨rfl,?_,((O.refl _ _).t9 1 _).t9 0 _⟩;have:=(W.set (w:=w) j.o 1 (G A e)).set 0 (G A p);simpa[Jc]using this
 .have t:((d:Int)==0)=false:=by simp[g]
  by_cases m:p<f
  .have a:Bi e p ⟨d,f⟩=⟨e,p⟩:=by simp[Bi,m]
   rw[a];have u:decide ((p:Int)<(f:Int))=true:=by simp[m]
   clear a g;go_enter func19,ntmps19;go_wp2;go_end0;refine⟨rfl,?_,((O.refl _ _).t9 1 _).t9 0 _⟩;have:=(W.set (w:=w) j.o 1 (G A e)).set 0 (G A p);simpa[Jc]using this
  .have u:decide ((p:Int)<(f:Int))=false:=by simp;omega
   by_cases l:p=f
   .have v:((p:Int)==(f:Int))=true:=by simp[l]
    by_cases n:e<d
    .have a:Bi e p ⟨d,f⟩=⟨e,p⟩:=by simp[Bi,l,n]
     rw[a];have x:decide ((e:Int)<(d:Int))=true:=by simp[n]
     clear a g l;go_enter func19,ntmps19;go_wp2;go_end0;refine⟨rfl,?_,((O.refl _ _).t9 1 _).t9 0 _⟩;have:=(W.set (w:=w) j.o 1 (G A e)).set 0 (G A p);simpa[Jc]using this
    .have a:Bi e p ⟨d,f⟩=⟨d,f⟩:=by unfold Bi;rw[jQ (by simp only;omega)]
     rw[a];have x:decide ((e:Int)<(d:Int))=false:=by simp;omega
     clear a g l;go_enter func19,ntmps19;go_wp2;go_end0;exact⟨rfl,j.o,O.refl _ _⟩
   .have a:Bi e p ⟨d,f⟩=⟨d,f⟩:=by unfold Bi;rw[jQ (by simp only;omega)]
    rw[a];have v:((p:Int)==(f:Int))=false:=by simp;omega
    clear a g;go_enter func19,ntmps19;go_wp2;go_end0;exact⟨rfl,j.o,O.refl _ _⟩
theorem Wm(n:Nat):((n:Int)==0)=(n==0):=by rw[Bool.eq_iff_iff];simp
def A8:List TF->Nat->DataW Unit->DataW Unit
 |[],_,a=>a
 |t::l,k,a=>A8 l (k+1) (if Maps.has a (Bq t.name.d9)then a else a.put (Bq t.name.d9) (.lit (.int .i64 k)))
theorem Pw(a:List TF)(k:Nat)(h:k<a.length)(b:DataW Unit):A8 (a.drop k) k b=A8 (a.drop (k+1)) (k+1) (if Maps.has b (Bq a[k].name.d9)then b else b.put (Bq a[k].name.d9) (.lit (.int .i64 k))):=by rw[iD h];rfl
theorem IK(d)(U:Nat->Prop)(L a a1 w)(y:DM d U w L a)(hl:∀t,t∈a->t.name.d9.size<=4000)(hk:a.length<=4000):
 Calls prog 76 #[.agg #[L,G A a1]] w fun e w'=>∃M,e=.returned (.map (T M))/\w.heap.size<=M/\Bj M a.length (A8 a 0 (.map [])) w'/\O kJ w w':=by
 have b0:=@run_makeMap prog;have x:=y;obtain⟨a6,c,_⟩:=x;obtain⟨va,vl,vc,rfl⟩:=Ad c;have a5:=Ag c;subst a5;generalize N:A8 a 0 (.map [])=V;have K:D (A8 (a.drop 0) 0 (.map [])=V):=N;have HP:=J y;clear N y c;go_enter func76,ntmps76;go_wp2;go_loopw[12] (fun i wr=>∃(k:Nat) (b:DataW Unit),k<=a.length/\i=G A k/\D (Bj (w.heap.size+1) k b wr)/\D (O kJ w wr)/\D (A8 (a.drop k) k b=V)) (fun i _=>a.length-(intOf i).toNat)
 case atStart=> refine⟨0,.map [],by omega,rfl,J ?_,J (((O.refl _ w).alloc _).alloc _),K⟩;have:=World.ownsMap_made (H:=Unit) (w.alloc (.cells #[Y va a.length vc,G A a1] 60)) prog 9 (plainElem prog 3);simpa[Bj]using this
 case round=>
  obtain⟨k,b,a9,rfl,n,o,C⟩:=hrel;clear K;by_cases S:k<a.length
  .have B:=HP.o.d8 o.o (fun _ _ q=>q);have x:=B;obtain⟨a7,c,_⟩:=x;obtain⟨g,rfl⟩:=Ap c (by omega);have lg:=(c.lt g rfl).2;obtain⟨av,sv,h,P,_,a3⟩:=B.get S;obtain⟨s,v,u,rfl⟩:=Ad P;obtain⟨a8,p2,_⟩:=a3;obtain⟨E,I,F,rfl⟩:=Ad p2;have f0:=h 0 (by omega);have f1:=h 1 (by omega);have f2:=h 2 (by omega);have f3:=h 3 (by omega);have f4:=h 4 (by omega);simp only[MX,gR,gP,gQ,iH]at f0 f1 f2 f3 f4;have a0:=J (Pw a k S b);have R:=hl a[k] (iA _);clear c p2 P h B;generalize a[k]=t at*;have l1:=o.o.size;have lm:=World.ownsMap.lt n.o;obtain⟨z,X,_,_⟩:=Fn (w:=wr.alloc (.cells #[.string t.name.d9,G A t.name.l7,Y s v u,G A t.l7,Y E I F] 132)) (n.o.d8 ((O.refl kJ wr).alloc _) id) R;cases l:Maps.has b (Bq t.name.d9)with
   |true=>
    rw[l]at X;have r:=J l;clear l;go_wp2;go_round
    case rel=>
     refine⟨k+1,b,by omega,by go_num,J ?_,J (o.o.alloc _),J ?_⟩
     .exact World.ownsMap.mono (n.o.d8 ((O.refl kJ wr).alloc _) id) (by omega)
     .have:=a0.o;rw[jR r.o]at this;exact this.symm.trans C.o
    case measure=>simp[intOf];omega
   |false=>
    rw[l]at X;have r:=J l;clear l;obtain⟨w2,b1,a2,m⟩:=Fa (p:=k) (w:=wr.alloc (.cells #[.string t.name.d9,G A t.name.l7,Y s v u,G A t.l7,Y E I F] 132)) (n.o.d8 ((O.refl kJ wr).alloc _) id) R (by omega) (by omega);go_wp2;go_round
    case rel=>
     refine⟨k+1,_,by omega,by go_num,J a2,J ?_,J ?_⟩
     .have f:=o.o.alloc (.cells #[.string t.name.d9,G A t.name.l7,Y s v u,G A t.l7,Y E I F] 132);exact⟨m.os.trans f.os,m.tape.trans f.tape,m.output.trans f.output,iG f.size m.size,fun j Q _=>(m.block j (iI Q f.size) (by omega)).trans (f.block j Q id)⟩
     .have:=a0.o;rw[jQ (by rw[r.o];decide)]at this;exact this.symm.trans C.o
    case measure=>simp[intOf];omega
  .have e:k=a.length:=by omega
   subst e;have a4:b=V:=by have:=C.o;simpa[A8]using this
   subst a4;go_wp2;go_ret;exact⟨_,rfl,by omega,n.o,o.o⟩
theorem KB(b d)(U:Nat->Prop)(q a P M m n F c w)(k:CT b q P (.map (T m)) M c w)(v:Bj m n F w)(i:DM d U w q a)(E:Lp F a.length)(hk:a.length<=4001):
 Calls prog 78 #[.pointer (T ⟨b,0,Z⟩)] w fun e Q=>e=.returned (.bool (Maps.has F (Bq ⟨#[109,97,105,110]⟩) && JD a (Cq F ⟨#[109,97,105,110]⟩)==0))/\O kJ w Q:=by
 have B:=Ak k 0;have N:=Ak k 2;simp only[gR,gP,gQ]at B N;have lr:=Ae k;obtain⟨z,y,l,_⟩:=Fn (w:=w) (s:=⟨#[109,97,105,110]⟩) v (by decide);clear k v;cases f:Maps.has F (Bq ⟨#[109,97,105,110]⟩)with
 |false=> rw[f]at y;clear f i B;go_enter func78,ntmps78;go_wp2;go_ret;exact⟨by simp,O.refl _ _⟩
 |true=>
  rw[f]at y;obtain⟨j,u,o⟩:=E _ f;have L:z=(j:Int):=by rw[o]at l;simpa using l.symm
  have t:Cq F ⟨#[109,97,105,110]⟩=j:=by simp[Cq,o]
  have x:JD a j=a[j].u9.length:=by simp[JD,u]
  subst L;have I:=i;obtain⟨a0,h,_⟩:=I;obtain⟨va,vl,vc,rfl⟩:=Ad h;obtain⟨g,rfl⟩:=Ap h (by omega);have K:=Ag h;subst K;have lg:=(h.lt g rfl).2;obtain⟨X,sv,r,p,_,_⟩:=i.get u;obtain⟨R,V,S,rfl⟩:=Ad p;have H:=Ag p;subst H;have C:=r 2 (by omega);simp only[MX,gR,gP,gQ]at C;rw[t,x];clear h p r i l o t x f;go_enter func78,ntmps78;go_wp2;go_ret;exact⟨by simp[Wm],O.refl _ _⟩
structure Ck(b d:Nat)(U:Nat->Prop)(fs:Value)(fns:List TF)(stop:Int)(mf nf m n:Nat)(F D:DataW Unit)(c:CS)(w:World):Prop where
 dK:CT b fs stop (.map (T mf)) (.map (T m)) c w
 t8:Bj m n D w
 dY:Bj mf nf F w
 rows:DM d U w fs fns
 fin:Lp F fns.length
 dC:fns.length<=4001
 ne:m≠mf
 ub:¬U b
 um:¬U m
theorem Ck.d8{b d}{U:Nat->Prop}{i g l e j m n F f c w o}{X:Nat->Prop}(h:Ck b d U i g l e j m n F f c w)(a:O X w o)(p:¬X b)(q:¬X m)(r:¬X e)(s:∀k,U k->¬X k):Ck b d U i g l e j m n F f c o:=
 ⟨W.d8 h.dK a p,h.t8.d8 a q,h.dY.d8 a r,h.rows.d8 a s,h.fin,h.dC,h.ne,h.ub,h.um⟩
theorem Ck.quiet{b d}{U:Nat->Prop}{f e j g i m n F a c w k}(h:Ck b d U f e j g i m n F a c w)(l:O kJ w k):Ck b d U f e j g i m n F a c k:=
 h.d8 l id id id (fun _ _ q=>q)
theorem Ck.step{b d}{U:Nat->Prop}{a o g f p m n F j c l w i}(h:Ck b d U a o g f p m n F j c w)(r:CT b a g (.map (T f)) (.map (T m)) l i)(e:O (fun k=>k=b) w i):Ck b d U a o g f p m n F j l i:=
 ⟨r,h.t8.d8 e (h.t8.ne h.dK),h.dY.d8 e (h.dY.ne h.dK),h.rows.d8 e (fun _ s q=>h.ub (q▸s)),h.fin,h.dC,h.ne,h.ub,h.um⟩
theorem Ck.fB{b d}{U:Nat->Prop}{f o i g t m n s F u j c l w a}(h:Ck b d U f o i g t m n F u c w)(v:CT b f i (.map (T g)) (.map (T m)) l a)(x:Bj m s j a)(r:O (fun k=>k=b\/k=m) w a):Ck b d U f o i g t m s F j l a:=
 ⟨v,x,h.dY.d8 r (fun q=>q.elim (h.dY.ne h.dK) (fun e=>h.ne e.symm)),h.rows.d8 r (fun _ p q=>q.elim (fun e=>h.ub (e▸p)) (fun e=>h.um (e▸p))),h.fin,h.dC,h.ne,h.ub,h.um⟩
structure Z6(s:VS):Prop where
 tg:s.tg.d9.size<=4000
 tp:s.tg.l7<=4000
 sr:s.sr.d9.size<=4000
 ar:∀t,t∈s.args->t.d9.size<=4000
 al:s.args.length<=4000
def Fp(F:DataW Unit)(a:List TF)(s:VS)(x:DataW Unit×CS):DataW Unit×CS:=
 match s.kind with
 |0=>(Iq x.1 s.tg,Fg x.1 s.tg x.2)
 |1=>(x.1,CE x.1 s.tg x.2)
 |4=>(x.1,CE F s.sr (CE x.1 s.tg x.2))
 |7=>(x.1,F8 x.1 s.args (EA F a s.sr s.args.length (CE x.1 s.tg x.2)))
 |8=>(x.1,F8 x.1 s.args (CE x.1 s.sr (CE x.1 s.tg x.2)))
 |10=>(x.1,CE x.1 s.sr x.2)
 |_=>(x.1,CE x.1 s.sr (CE x.1 s.tg x.2))
structure KS(b d:Nat)(U:Nat->Prop)(fs:Value)(fns:List TF)(stop:Int)(mf nf m n:Nat)(F D:DataW Unit)(sb:Nat)(sc:Array Value)(av:Value)(ar:List PT)(w0:World)(c:CS)(w:World):Prop where
 k:Ck b d U fs fns stop mf nf m n F D c w
 s:W sb sc 230 w
 o:O (fun k=>k=b\/k=m) w0 w
 a:w.ownsRow 0 126 2 av ar.length (BS ar)
 u:∀k,av.ownBlock=T k->k≠b
 e:sb≠b
theorem KS.step{b d}{U:Nat->Prop}{e r g f s m n F j t u o l v w i c p}(h:KS b d U e r g f s m n F j t u o l v c w)(x:CT b e g (.map (T f)) (.map (T m)) p i)(a:O (fun k=>k=b) w i):KS b d U e r g f s m n F j t u o l v p i:=
 ⟨h.k.step x a,W.d8 h.s a h.e,h.o.trans (a.mono (fun _ _ q=>.inl q)),Ac h.a a h.u,h.u,h.e⟩
theorem W.c8{b:Nat}{l:List Value}{t:TypeId}{w:World}(h:W b l.toArray t w):w.cell? ⟨b,0,Z⟩=l[0]? /\w.cell? ⟨b,1,Z⟩=l[1]? /\w.cell? ⟨b,2,Z⟩=l[2]? /\w.cell? ⟨b,3,Z⟩=l[3]? /\w.cell? ⟨b,4,Z⟩=l[4]? /\w.cell? ⟨b,5,Z⟩=l[5]? /\w.cell? ⟨b,6,Z⟩=l[6]? /\w.cell? ⟨b,7,Z⟩=l[7]? :=by refine⟨?_,?_,?_,?_,?_,?_,?_,?_⟩<;>rw[h.cell]<;>simp
theorem Sr(b d a6:Nat)(U:Nat->Prop)(x:Value)(M:List TF)(z:Int)(y V m n:Nat)(F B:DataW Unit)(c:CS)(s:VS)(av bv:Value)(w:World)(K:Ck b d U x M z y V m n F B c w)(N:Z6 s)(hn:n<=4000)(R:w.ownsRow 0 126 2 av s.args.length (BS s.args))(hu:∀k,av.ownBlock=T k->U k)(a7:∃X l2 c2,bv=Y X l2 c2)(hk:s.kind<=10):
 Calls prog 144 #[.pointer (T ⟨b,0,Z⟩),.agg (Fc s av bv),G A a6] w fun e w'=>e=.returned (.tuple #[])/\(∃n',n'<=n+1/\Ck b d U x M z y V m n' F (Fp F M s (B,c)).1 (Fp F M s (B,c)).2 w')/\O (fun k=>k=b\/k=m) w w':=by
 obtain⟨i,P,H,a4,I⟩:=s;simp only at hk R;obtain⟨a1,l1,c1,rfl⟩:=Ad R;have a9:=Ag R;subst a9;obtain⟨X,l2,c2,rfl⟩:=a7;have lb:=Ae K.dK;have ht:=N.tg;have a5:=N.tp;have S:=N.sr;have a3:=N.ar;have a0:=N.al;simp only at ht a5 S a3 a0;have C:D (KS b d U x M z y V m n F B w.heap.size #[G A i,.string P.d9,G A P.l7,.string H.d9,G A H.l7,G A a4,Y a1 I.length c1,Y X l2 c2] (Y a1 I.length c1) I w c (w.alloc (.cells #[G A i,.string P.d9,G A P.l7,.string H.d9,G A H.l7,G A a4,Y a1 I.length c1,Y X l2 c2] 230))):=
  ⟨K.quiet ((O.refl kJ w).alloc _),W.new _ _ _,(O.refl _ w).alloc _,Ac R ((O.refl kJ w).alloc _) (fun _ _ q=>q),fun k hk e=>K.ub (e▸hu k hk),by omega⟩
 clear K R N;have a8:i=0\/i=1\/i=2\/i=3\/i=4\/i=5\/i=6\/i=7\/i=8\/i=9\/i=10:=by omega
 rcases a8 with rfl|rfl|rfl|rfl|rfl|rfl|rfl|rfl|rfl|rfl|rfl
 all_goals
  unfold Fc Fp;simp only;go_enter func144,ntmps144
 .go_wp2_with(go_at_call 115;refine(Ky b x z (.map (T y)) m n B _ P _ C.o.k.dK C.o.k.t8 ht a5 hn).mono ?_);rintro e L ⟨rfl,g,hv,a⟩;have f:=J (C.o.k.fB g hv a);have O1:=J (C.o.o.trans a);clear g hv a;go_wp2;go_end0;exact⟨rfl,⟨n+1,by omega,f.o⟩,O1.o⟩
 rotate_right
 .go_wp2_with(go_at_call 155;refine(ET b x z (.map (T y)) m n B _ H _ C.o.k.dK C.o.k.t8 S).mono ?_);rintro e L ⟨rfl,g,a⟩;have f:=J (C.o.step g a);obtain⟨j,l,o,p,r,t,u,v⟩:=f.o.s.c8;simp only[gP,gQ]at j l o p r t u v;have Q:=f.o.o.size;clear g a;go_wp2;go_end0;exact⟨rfl,⟨n,by omega,f.o.k⟩,f.o.o⟩
 all_goals
  go_wp2_with(go_at_call 155;refine(ET b x z (.map (T y)) m n B _ P _ C.o.k.dK C.o.k.t8 ht).mono ?_);rintro e L ⟨rfl,g,a⟩;have f:=J (C.o.step g a);obtain⟨j,l,o,p,r,t,u,v⟩:=f.o.s.c8;simp only[gP,gQ]at j l o p r t u v;have Q:=f.o.o.size;clear g a
 .go_wp2;go_end0;exact⟨rfl,⟨n,by omega,f.o.k⟩,f.o.o⟩
 rotate_left 2
 .go_wp2_with(go_at_call 156;refine(Kc b x z (.map (T m)) y V F _ H _ f.o.k.dK f.o.k.dY S).mono ?_);rintro e L ⟨rfl,g,a⟩;have h:=J (f.o.step g a);obtain⟨j,l,o,p,r,t,u,v⟩:=h.o.s.c8;simp only[gP,gQ]at j l o p r t u v;have Q:=h.o.o.size;clear g a;go_wp2;go_end0;exact⟨rfl,⟨n,by omega,h.o.k⟩,h.o.o⟩
 rotate_left 2
 .go_wp2_with(go_at_call 157;refine(Rm b d U x M z (.map (T m)) y V F _ H I.length _ f.o.k.dK f.o.k.dY f.o.k.rows f.o.k.fin S f.o.k.dC).mono ?_);rintro e L ⟨rfl,g,a⟩;have h:=J (f.o.step g a);obtain⟨j,l,o,p,r,t,u,v⟩:=h.o.s.c8;simp only[gP,gQ]at j l o p r t u v;have Q:=h.o.o.size;clear g a;go_wp2_with(go_at_call 158;refine(Gg b x z (.map (T y)) m n B _ I _ _ h.o.k.dK h.o.k.t8 h.o.a a3 a0).mono ?_);rintro e L ⟨rfl,g,a⟩;have E:=J (h.o.step g a);obtain⟨j,l,o,p,r,t,u,v⟩:=E.o.s.c8;simp only[gP,gQ]at j l o p r t u v;have Q:=E.o.o.size;clear g a;go_wp2;go_end0;exact⟨rfl,⟨n,by omega,E.o.k⟩,E.o.o⟩
 all_goals
  go_wp2_with(go_at_call 155;refine(ET b x z (.map (T y)) m n B _ H _ f.o.k.dK f.o.k.t8 S).mono ?_);rintro e L ⟨rfl,g,a⟩;have h:=J (f.o.step g a);obtain⟨j,l,o,p,r,t,u,v⟩:=h.o.s.c8;simp only[gP,gQ]at j l o p r t u v;have Q:=h.o.o.size;clear g a
 .go_wp2_with(go_at_call 158;refine(Gg b x z (.map (T y)) m n B _ I _ _ h.o.k.dK h.o.k.t8 h.o.a a3 a0).mono ?_);rintro e L ⟨rfl,g,a⟩;have E:=J (h.o.step g a);obtain⟨j,l,o,p,r,t,u,v⟩:=E.o.s.c8;simp only[gP,gQ]at j l o p r t u v;have Q:=E.o.o.size;clear g a;go_wp2;go_end0;exact⟨rfl,⟨n,by omega,E.o.k⟩,E.o.o⟩
 all_goals
  go_wp2;go_end0;exact⟨rfl,⟨n,by omega,h.o.k⟩,h.o.o⟩

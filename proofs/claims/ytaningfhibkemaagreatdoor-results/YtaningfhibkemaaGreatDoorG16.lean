/- Part of the proof: EqH EqI EqJ EqK EqL EqM EqS. -/
import Derived.Test.YtaningfhibkemaaGreatDoorG15
namespace Go.Proofs.YtaningfhibkemaaGreatDoor
open Go.Maps Go.Proofs.Tryz
theorem Dn.each{A}{R:Nat->Nat->A->Prop}{i j l}(h:Dn R i j l):∀a,a∈l->∃p q,R p q a:=by
 induction h with
 |nil _=>intro a b;cases b
 |cons h _ c=>
  intro a b;rcases iZ.1 b with rfl|b
  .exact⟨_,_,h⟩
  .exact c a b
theorem IZ{A}{R:Nat->Nat->A->Prop}{f:A->Nat}(k:∀i j a,R i j a->f a+i<=j){i j l}(h:Dn R i j l):(l.map f).sum+i<=j:=by
 induction h with
 |nil h=>simpa using h
 |cons h _ b=>have:=k _ _ _ h;simp only[iK,iS];omega
theorem Cd.fJ{n:List PT}:∀{d i j:Nat} {t:TS},Cd n d i j t->Cs d t+i<=j
 |0,_,_,_,h=>h.elim
 |d+1,i,j,.mk s p,h=>by
  obtain⟨u,v,o⟩:=h;have C:∀a b l,Dn (Cd n d) a b l->(l.map (Cs d)).sum+a<=b:=fun a b l r=>IZ (fun _ _ _ q=>q.fJ) r
  rw[Cs];rcases o with⟨rfl,_⟩|⟨k,l,m,rfl,_,c,e,f⟩|⟨k,l,m,w,y,x,rfl,_,c,e,f,g,h⟩
  .simp;omega
  .have:=C _ _ _ e;simp only[iK,List.map_nil,iS,List.sum_nil];omega
  .have:=C _ _ _ e;have:=C _ _ _ g;simp only[iK,List.map_nil,iS,List.sum_nil];omega
theorem Cd.tok{u:List PT}(x:u.length<=4001):∀{d i j:Nat} {t:TS},Cd u d i j t->OK d t
 |0,_,_,_,h=>h.elim
 |d+1,i,j,.mk s A,h=>by
  obtain⟨B,E,v⟩:=h;have V:∀k,ZT (EA k):=fun k=>⟨gV _,gV _,gV _,by simp[EA],gV _⟩
  have C:∀a b l,b<j->Dn (Cd u d) (a+1) b l->l.length<=4000/\∀t,t∈l->OK d t:=fun a b l F r=> ⟨by have:=r.le (fun _ _ _ q=>q.lt);omega,fun t y=>by obtain⟨p,q,w⟩:=r.each t y;exact w.tok x⟩
  rcases v with⟨rfl,G,z,_⟩|⟨k,l,m,rfl,n,c,e,f⟩|⟨k,l,m,H,K,I,rfl,n,c,e,f,g,h⟩
  .exact⟨z,Z,jY,jY⟩
  .refine⟨by rcases n with rfl|rfl<;>exact V _,by rcases n with rfl|rfl<;>decide,jY,fun q o=>?_⟩;rw[iB.1 o];exact C _ _ _ Z e
  .have:=g.le (fun _ _ _ q=>q.lt);refine⟨by subst n;exact V _,by subst n;decide,jY,fun q o=>?_⟩;simp only[iZ,iH,or_false]at o;rcases o with rfl|rfl
   .exact C _ _ _ Z e
   .exact C _ _ _ Z g
theorem Cd.fI{l:List PT}:∀{e i j:Nat} {t:TS} {d:Nat} {U:Nat->Prop} {w:World} {c:List Value},Cd l e i j t->BW d U w t c->BW e U w t c
 |0,_,_,_,_,_,_,_,h,_=>h.elim
 |e+1,i,j,.mk s a,0,U,w,c,_,h=>h.elim
 |e+1,i,j,.mk s a,d+1,U,w,c,N,h=>by
  obtain⟨n,u,o,F,G,H,I,K,L,M⟩:=h;refine⟨n,u,o,F,G,H,I,K,L,fun k b Q=>?_⟩;obtain⟨X,v,x,y,z,A,B⟩:=M k b Q;refine⟨X,v,x,y,z,A,fun m C E=>?_⟩;have g:a[k].2[m]∈a[k].2:=gQ _;obtain⟨p,q,P⟩:∃p q,Cd l e p q a[k].2[m]:=by
   obtain⟨_,_,x3⟩:=N;rcases x3 with⟨rfl,_⟩|⟨R,Y,S,rfl,_,_,r,_⟩|⟨R,Y,S,k2,a0,m2,rfl,_,_,r,_,V,_⟩
   .simp at b
   .have f:k=0:=by simp at b;omega
    subst f;exact r.each _ g
   .have f:k=0\/k=1:=by simp at b;omega
    rcases f with rfl|rfl
    .exact r.each _ g
    .exact V.each _ g
  exact P.fI (B m C E)
theorem Cd.flat{F:List PT}{E:Nat}:∀{e i j:Nat} {t:TS} {d:Nat} {o:List FS} {k:Nat},Cd F e i j t->Dp E d o k t->Dp E e o k t
 |0,_,_,_,_,_,_,h,_=>h.elim
 |e+1,i,j,.mk s H,0,o,k,_,h=>h.elim
 |e+1,i,j,.mk s H,d+1,o,k,N,h=>by
  obtain⟨u,L,h⟩:=h;refine⟨u,L,?_⟩;have C:∀p c,(p,c)∈H->∀t,t∈c->∃a b,Cd F e a b t:=by
   intro p c g t n;obtain⟨_,_,X⟩:=N;rcases X with⟨rfl,_⟩|⟨R,V,S,rfl,_,_,r,_⟩|⟨R,V,S,Y,G,m2,rfl,_,_,r,_,U,_⟩
   .cases g
   .simp only[iZ,iH,or_false,iV]at g;rw[g.2]at n;exact r.each t n
   .simp only[iZ,iH,or_false,iV]at g;rcases g with g|g
    .rw[g.2]at n;exact r.each t n
    .rw[g.2]at n;exact U.each t n
  have M:∀(l:List Nat) (m:List TS),(∀t,t∈m->∃a b,Cd F e a b t)->CJ (fun j t=>k<j/\Dp E d o j t) l m->CJ (fun j t=>k<j/\Dp E e o j t) l m:=by
   intro l m I q;induction q with
   |nil=>exact .nil
   |cons h _ Q=> obtain⟨a,b,P⟩:=I _ (jF ..);exact .cons ⟨h.1,P.flat h.2⟩ (Q (fun t n=>I t (iA _ n)))
  rcases h with h|⟨p,c,f,v,w,x,y,z,A,B⟩|⟨p,c,f,v,w,x,y,z,A,B⟩|⟨p,c,K,G,f,v,w,x,y,z,A,B⟩
  .exact .inl h
  .exact .inr (.inl ⟨p,c,f,v,w,x,y,z,A,M _ _ (C p c (by rw[f];simp)) B⟩)
  .exact .inr (.inr (.inl ⟨p,c,f,v,w,x,y,z,A,M _ _ (C p c (by rw[f];simp)) B⟩))
  .exact .inr (.inr (.inr ⟨p,c,K,G,f,v,w,x,y,z,M _ _ (C p c (by rw[f];simp)) A,M _ _ (C K G (by rw[f];simp)) B⟩))
structure Lk(F:DataW Unit)(fns:List TF)(fns0:List RF):Prop where
 nm:∀s,has F (Bn s)=true↔0<=Bz (fns0.map fun f=>f.name.d9) s 0
 ar:∀s,0<=Bz (fns0.map fun f=>f.name.d9) s 0->Ju fns (Cg F s)=((fns0.map fun f=>f.cG.length)[(Bz (fns0.map fun f=>f.name.d9) s 0).toNat]?).getD 0
def DZ(lo:Nat)(D:DataW Unit)(c:CS)(vs:List ByteArray)(a:CS):Prop:=
 c=a/\((c.cI=0/\Tidy D/\(∀s,has D (Bn s)=true↔s∈vs)/\size D=vs.length)\/(c.cI≠0/\c.l7<lo))
theorem DZ.mono{d e a c f b}(h:DZ d a c f b)(g:d<=e):DZ e a c f b:=
 ⟨h.1,h.2.imp id (fun q=>⟨q.1,Z⟩)⟩
theorem DZ.dY{lo p e D c vs f}(h:DZ lo D c vs f)(l:lo<=p)(i:e≠0)(g j):DZ (p+1) g (BO e p c) j (Be e p f):=by
 obtain⟨rfl,h⟩:=h;rcases h with⟨d,_⟩|⟨d,k⟩
 .have a:BO e p c=⟨e,p⟩:=by simp[BO,d]
  have b:Be e p c=⟨e,p⟩:=by simp[Be,d]
  rw[a,b];exact⟨rfl,.inr ⟨i,jY⟩⟩
 .have a:BO e p c=c:=by simp[BO,d]
  have b:Be e p c=c:=by unfold Be;rw[jG Z]
  rw[a,b];exact⟨rfl,.inr ⟨d,Z⟩⟩
theorem DZ.cB{d p f c i a}(h:DZ d f c i a)(k:d<=p)(b:c.cI≠0)(e):BO e p c=c/\Be e p a=c:=by
 obtain⟨rfl,h⟩:=h;rcases h with⟨g,_⟩|⟨_,j⟩
 .exact jO g b
 .exact⟨by simp[BO,b],by unfold Be;rw[jG Z]⟩
theorem DZ.name{m a c d g}(h:DZ m a c d g)(t)(l:m<=t.l7):DZ (t.l7+1) a (Cx a t c) d (DL d (Ao t) g):=by
 by_cases i:c.cI=0
 .rcases h.2 with⟨_,_,k,_⟩|⟨q,_⟩
  .have j:=(CR d t.d9 0).1;unfold Cx DL;have e:(Ao t).d9=t.d9:=rfl;rw[e];by_cases f:has a (Bn t.d9)=true
   .rw[jH f,jH (j.2 ((k _).1 f))];exact h.mono Z
   .rw[jG f,jG (fun q=>f ((k _).2 (j.1 q)))];exact h.dY l T _ _
  .exact jO i q
 .have b:=h.cB l i 6;have n:Cx a t c=c:=by unfold Cx;split;rfl;exact b.1
  have o:DL d (Ao t) g=c:=by unfold DL;split;exact h.1.symm;exact b.2
  rw[n,o];rcases h.2 with⟨q,_⟩|q
  .exact jO q i
  .exact⟨rfl,.inr ⟨q.1,Z⟩⟩
theorem DZ.decl{k d c b l}(h:DZ k d c b l)(t)(o:k<=t.l7):DZ (t.l7+1) (Ig d t) (EZ d t c) (b++[t.d9]) (Dk b (Ao t) l):=by
 by_cases a:c.cI=0
 .obtain⟨rfl,m⟩:=h;rcases m with⟨_,j,i,p⟩|⟨q,_⟩
  .have v:=(CR b t.d9 0).1;unfold EZ Dk;simp only;rw[p];have e:(Ao t).d9=t.d9:=rfl;have A:(Ao t).pos=t.l7:=rfl;rw[e,A];by_cases g:12<=b.length
   .have w:BO 4 t.l7 c=⟨4,t.l7⟩:=by simp[BO,a]
    have x:Be 4 t.l7 c=⟨4,t.l7⟩:=by simp[Be,a]
    rw[jH g,jH g,w,x];have y:BO 5 t.l7 ⟨4,t.l7⟩=⟨4,t.l7⟩:=by simp[BO]
    have z:Be 5 t.l7 ⟨4,t.l7⟩=⟨4,t.l7⟩:=by simp[Be]
    rw[y,z];refine⟨?_,.inr ?_⟩
    .simp
    .simp
   .rw[jG g,jG g];by_cases f:has d (Bn t.d9)=true
    .rw[jH f,jH (v.2 ((i _).1 f))];exact DZ.dY (lo:=k) (D:=d) (vs:=b) ⟨rfl,.inl ⟨a,j,i,p⟩⟩ o T _ _
    .rw[jG f,jG (fun q=>f ((i _).2 (v.1 q)))];refine⟨rfl,.inl ⟨a,j.put (Gd _) _,fun s=>?_,?_⟩⟩
     .unfold Ig;by_cases n:Bn s=Bn t.d9
      .have:=Jl n;subst this;rw[has_put_same j.isMap (Gd _)];simp
      .rw[has_put_other n,i s];have:s≠t.d9:=fun q=>n (by rw[q])
       simp[this]
     .unfold Ig;rw[size_put j,jG f,p];simp
  .exact jO a q
 .have r:=h.cB o a 4;have u:=h.cB o a 5;have B:EZ d t c=c:=by unfold EZ;simp only;split<;>split<;>simp[r.1,u.1]
  have m:Dk b (Ao t) l=c:=by have e:=h.1;subst e;unfold Dk;simp only[show(Ao t).pos=t.l7 from rfl];split<;>split<;>simp[r.2,u.2]
  rw[B,m];rcases h.2 with⟨q,_⟩|q
  .exact jO q a
  .exact⟨rfl,.inr ⟨q.1,Z⟩⟩
theorem DZ.fun{F:DataW Unit}{j:List TF}{e:List RF}(L:Lk F j e){g:Nat}{b:DataW Unit}{c:CS}{i:List ByteArray}{d:CS}(h:DZ g b c i d)(t:PT)(k:g<=t.l7):DZ (t.l7+1) b (Cx F t c) i (Em e (Ao t) (-1) d):=by
 have f:=L.nm t.d9;unfold Cx Em;rw[show(Ao t).d9=t.d9 from rfl,show(Ao t).pos=t.l7 from rfl];by_cases a:has F (Bn t.d9)=true
 .rw[jH a,jH (f.1 a),jG Z];exact h.mono Z
 .rw[jG a,jG (fun q=>a (f.2 q))];exact h.dY k T _ _
theorem DZ.called{F:DataW Unit}{j:List TF}{d:List RF}(L:Lk F j d){m:Nat}{g:DataW Unit}{c:CS}{n:List ByteArray}{i:CS}(h:DZ m g c n i)(t:PT)(a:Nat)(l:m<=t.l7):DZ (t.l7+1) g (Es F j t a c) n (Em d (Ao t) a i):=by
 have e:=L.nm t.d9;unfold Es Em;rw[show(Ao t).d9=t.d9 from rfl,show(Ao t).pos=t.l7 from rfl];by_cases b:has F (Bn t.d9)=true
 .rw[jH b,jH (e.1 b),L.ar _ (e.1 b)];by_cases k:((d.map fun f=>f.cG.length)[(Bz (d.map fun f=>f.name.d9) t.d9 0).toNat]?).getD 0=a
  .rw[jH k,jG Z];exact h.mono Z
  .rw[jG k,jH ⟨Z,Z⟩];exact h.dY l T _ _
 .rw[jG b,jG (fun q=>b (e.2 q))];exact h.dY l T _ _
section
variable{N:Nat}{f:List PT}(H:TksOk N f)
include H
theorem Qf{p q:Nat}(h:p<q)(a:q<f.length):(Aj f p).l7<(Aj f q).l7:=by have:=List.pairwise_iff_getElem.1 H.eF p q Z a h;unfold Aj;rw[gL Z,gL a];exact this
theorem Dx{p q:Nat}(h:p<=q)(a:q<f.length):(Aj f p).l7<=(Aj f q).l7:=by
 rcases iW p q with l|l
 .exact Nat.le_of_lt (Qf H l a)
 .have:p=q:=Z;rw[this];exact gI _
theorem DZ.to{i p j:Nat}{a b:DataW Unit}{c d:CS}{m o:List ByteArray}{e k:CS}(h:DZ (Aj f i).l7 a c m e)(s:∀l,DZ l a c m e->l<=(Aj f p).l7->DZ ((Aj f p).l7+1) b d o k)(q:i<=p)(t:p+1<=j)(r:j<f.length):DZ (Aj f j).l7 b d o k:=
 (s _ h (Dx H q Z)).mono (Qf H Z r)
theorem DZ.args{e:DataW Unit}{l:List ByteArray}:∀(b:List Nat) {i j:Nat} {c d:CS},DZ (Aj f i).l7 e c l d->MH i j b->j<f.length->DZ (Aj f j).l7 e (FJ e (b.map (Aj f)) c) l (((b.map (Aj f)).map Ao).foldl (fun c t=>DL l t c) d)
 |[],i,j,c,d,h,a,k=>h.mono (Dx H a k)
 |p::b,i,j,c,d,h,a,k=>by have r:=a.2.le;have m:=h.to H (p:=p) (j:=p+1) (fun s q o=>q.name (Aj f p) o) a.1 (gI _) Z;exact DZ.args b m a.2 k
variable{F:DataW Unit}{n:List TF}{g:List RF}(L:Lk F n g)
include L
theorem DZ.plain{s:VS}{G:List Nat}{i j:Nat}(hk:s.kind<=10)(X:s.kind≠7->s.kind≠8->s.args=[])(o:Y6 s=G.map (Aj f))(d:MH i j G)(I:j<f.length){M:DataW Unit}{c:CS}{V:List ByteArray}{R:CS}(h:DZ (Aj f i).l7 M c V R):
 DZ (Aj f j).l7 (Ff F n s (M,c)).1 (Ff F n s (M,c)).2 (Dg g s (V,R)).1 (Dg g s (V,R)).2:=by
 obtain⟨m,v,y,a5,Q⟩:=s;simp only at hk X o⊢;have a0:∀t:PT,[t]=G.map (Aj f)->∃p,G=[p]/\t=Aj f p:=by
  intro t e;rcases G with _|⟨p,_|⟨q,r⟩⟩
  .simp at e
  .simp only[iK,List.map_nil,List.cons.injEq,and_true]at e;exact⟨p,rfl,e⟩
  .simp at e
 have a4:∀(t u:PT) (l:List PT),t::u::l=G.map (Aj f)->∃p q r,G=p::q::r/\t=Aj f p/\u=Aj f q/\l=r.map (Aj f):=by
  intro t u l e;rcases G with _|⟨p,_|⟨q,r⟩⟩
  .simp at e
  .simp at e
  .simp only[iK,List.cons.injEq]at e;exact⟨p,q,r,rfl,e.1,e.2.1,e.2.2⟩
 unfold Y6 at o;simp only at o;have T2:∀(t u:PT),(m≠0/\m≠1/\m≠10/\m≠7/\m≠8)->∃p q,G=[p,q]/\v=Aj f p/\y=Aj f q:=by
  intro t u P;rw[jG Z,jG Z,jG Z]at o;obtain⟨p,q,r,B,C,E,N⟩:=a4 v y [] o;have:r=[]:=by cases r with|nil=>rfl|cons a b=>simp at N
  subst this;exact⟨p,q,B,C,E⟩
 have S:(m≠0/\m≠1/\m≠10/\m≠7/\m≠8/\m≠4)->DZ (Aj f j).l7 M (Cx M y (Cx M v c)) (Dg g ⟨m,v,y,a5,Q⟩ (V,R)).1 (Dg g ⟨m,v,y,a5,Q⟩ (V,R)).2:=by intro P;obtain⟨p,q,B,C,E⟩:=T2 v y ⟨P.1,P.2.1,P.2.2.1,P.2.2.2.1,P.2.2.2.2.1⟩;subst B;have Y:=X Z Z;subst Y;have a1:=d.1;have a2:=d.2.1;have A:q+1<=j:=d.2.2;have x:=h.to H (p:=p) (j:=p+1) (fun w z k=>z.name (Aj f p) k) a1 (gI _) Z;have K:=x.to H (p:=q) (j:=j) (fun w z k=>z.name (Aj f q) k) a2 A I;unfold Dg Mr;simp only;rw[jG Z,jG Z,jG Z,jG Z,jG Z];rw[C,E];exact K
 rcases m with _|_|_|_|_|_|_|_|_|_|_|m
 .obtain⟨p,rfl,e⟩:=a0 v (by simpa using o);have A:p+1<=j:=d.2;simp only[Ff,Dg,if_true];rw[e];exact h.to H (p:=p) (fun w z k=>z.decl (Aj f p) k) d.1 A I
 .obtain⟨p,rfl,e⟩:=a0 v (by simpa using o);have A:p+1<=j:=d.2;simp only[Ff,Dg,Mr];rw[e];exact h.to H (p:=p) (fun w z k=>z.name (Aj f p) k) d.1 A I
 .exact S Z
 .exact S Z
 .obtain⟨p,q,B,C,E⟩:=T2 v y Z;subst B;have Y:=X Z Z;subst Y;have A:q+1<=j:=d.2.2;have x:=h.to H (p:=p) (j:=p+1) (fun w z k=>z.name (Aj f p) k) d.1 (gI _) (by have:=d.2.1;omega);have K:=x.to H (p:=q) (j:=j) (fun w z k=>z.fun L (Aj f q) k) d.2.1 A I;simp only[Ff,Dg,Mr];rw[C,E];exact K
 .exact S Z
 .exact S Z
 .rw[jG Z,jG Z,jH Z]at o;obtain⟨p,q,r,B,C,E,N⟩:=a4 v y Q o;subst B;have hl:=d.2.2.le;have x:=h.to H (p:=p) (j:=p+1) (fun w z k=>z.name (Aj f p) k) d.1 (gI _) (by have:=d.2.1;omega);have K:=x.to H (p:=q) (j:=q+1) (fun w z k=>z.called L (Aj f q) Q.length k) d.2.1 (gI _) Z;have U:=DZ.args H r K d.2.2 I;simp only[Ff,Dg,Mr];rw[C,E,<-N]at*;rw[<-N]at U;exact U
 .rw[jG Z,jG Z,jH Z]at o;obtain⟨p,q,r,B,C,E,N⟩:=a4 v y Q o;subst B;have hl:=d.2.2.le;have x:=h.to H (p:=p) (j:=p+1) (fun w z k=>z.name (Aj f p) k) d.1 (gI _) (by have:=d.2.1;omega);have K:=x.to H (p:=q) (j:=q+1) (fun w z k=>z.name (Aj f q) k) d.2.1 (gI _) Z;have U:=DZ.args H r K d.2.2 I;rw[<-N,<-C,<-E]at U;exact U
 .exact S Z
 .obtain⟨p,rfl,e⟩:=a0 y (by simpa using o);have A:p+1<=j:=d.2;have x:=h.to H (p:=p) (fun w z k=>z.name (Aj f p) k) d.1 A I;rw[<-e]at x;exact x
 .omega
theorem DZ.stmt:∀{d i j:Nat} {t:TS},Cd f d i j t->∀(c:Nat) (x:DataW Unit×CS) (y:List ByteArray×CS),DZ (Aj f i).l7 x.1 x.2 y.1 y.2->DZ (Aj f j).l7 (Lw F n d c t x).1 (Lw F n d c t x).2 (Fy g d c t y).1 (Fy g d c t y).2
 |0,_,_,_,h=>h.elim
 |d+1,i,j,.mk s bl,S=>by
  intro c x y h;obtain⟨h1,B,P⟩:=S;have C:∀(a b:Nat) (l:List TS),b<f.length->Dn (Cd f d) a b l->∀(x:DataW Unit×CS) (y:List ByteArray×CS),DZ (Aj f a).l7 x.1 x.2 y.1 y.2->DZ (Aj f b).l7 (l.foldl (fun x t=>Lw F n d (c+1) t x) x).1 (l.foldl (fun x t=>Lw F n d (c+1) t x) x).2 (l.foldl (fun x t=>Fy g d (c+1) t x) y).1 (l.foldl (fun x t=>Fy g d (c+1) t x) y).2:=by
   intro a b l G r;induction r with
   |nil h=>intro x y e;exact e.mono (Dx H h G)
   |cons h _ ih=>intro x y e;exact ih G _ _ (DZ.stmt h (c+1) x y e)
  have v:∀(k:Nat) (x:DataW Unit×CS) (y:List ByteArray×CS) (i:Nat),i<=k->k+1<f.length->DZ (Aj f i).l7 x.1 x.2 y.1 y.2->DZ (Aj f (k+1)).l7 x.1 (if 6<c+1 then BO 4 (Aj f k).l7 x.2 else x.2) y.1 (if 6<c+1 then Be 4 (Aj f k).l7 y.2 else y.2):=by
   intro k x y i U u e;split
   .exact e.to H (p:=k) (fun lo z E=>z.dY E T _ _) U (gI _) u
   .exact e.mono (Dx H Z u)
  rcases P with⟨rfl,u,_,Q,ps,E,R⟩|⟨k,l,m,rfl,e,V,r,Y⟩|⟨k,l,m,I,a0,m2,rfl,e,V,r,Y,K,a2⟩
  .rw[Lw,Fy,jG Z,jG Z];exact DZ.plain H L u Q E R B h
  .have X:=r.le (fun _ _ _ q=>q.lt);have o:s.kind=11\/s.kind=12:=by rcases e with rfl|rfl<;>simp[EA]
   rw[Lw,Fy,jH o,jH o];simp only[iR,jC];have w:=v k x y i Z Z h;have A:=C (k+1) m l Z r (x.1,if 6<c+1 then BO 4 (Aj f k).l7 x.2 else x.2) (y.1,if 6<c+1 then Be 4 (Aj f k).l7 y.2 else y.2) w;exact A.mono (Dx H Z B)
  .have X:=r.le (fun _ _ _ q=>q.lt);have a1:=K.le (fun _ _ _ q=>q.lt);have o:s.kind=11\/s.kind=12:=by rw[e];simp[EA]
   rw[Lw,Fy,jH o,jH o];simp only[iR,jC];have w:=v k x y i Z Z h;have A:=C (k+1) m l Z r (x.1,if 6<c+1 then BO 4 (Aj f k).l7 x.2 else x.2) (y.1,if 6<c+1 then Be 4 (Aj f k).l7 y.2 else y.2) w;have M:=v I _ _ m Z Z A;have N:=C (I+1) m2 a0 Z K (_,_) (_,_) M;exact N.mono (Dx H Z B)
end
def UL(n:Nat)(b:List FS):Prop:=∀u,u∈b->u.args.length<=n/\u.cJ.length<=n/\u.other.length<=n
theorem UL.snoc{n b u}(h:UL n b)(d:u.args.length<=n/\u.cJ.length<=n/\u.other.length<=n):UL n (b++[u]):=by
 intro v e;rcases iM.1 e with q|q
 .exact h v q
 .rw[iB.1 q];exact d
theorem UL.set{n b u}(h:UL n b)(i)(d:u.args.length<=n/\u.cJ.length<=n/\u.other.length<=n):UL n (b.set i u):=by
 intro v e;rcases List.mem_or_eq_of_mem_set e with q|q
 .exact h v q
 .rw[q];exact d
theorem PO(a:List Tk):∀(f d:Nat) (e:Option Nat) (b:List Tk),(DG a f d e b).1.length<=b.length+f
 |0,d,e,b=>by unfold DG;simp
 |f+1,d,e,b=>by
  unfold DG;split
  .have:=PO a f (d+1) e (b++[tokAt a d]);simp only[gM,iC]at this;omega
  .simp
theorem Nj(a x):(BQ a x).1.length<=a.length:=by have:=PO a a.length x.bZ x.cB [];unfold BQ CM;simpa using this
theorem Xu(a x s)(h:s.args.length<=a.length):(C0 a x s).1.args.length<=a.length:=by
 unfold C0;split
 .exact h
 .split
  .simp only;split<;>exact h
  .split
   .exact h
   .split
    .exact h
    .split
     .exact Nj _ _
     .simp only;split
      .exact Nj _ _
      .exact h
theorem RE(a d x):(Ba a d x).1.args.length<=a.length/\(Ba a d x).1.cJ.length<=a.length/\(Ba a d x).1.other.length<=a.length:=by
 unfold Ba;split
 .simp[Cv]
 .split
  .simp[Cv]
  .split
   .simp[Cv]
   .simp only;have b:=NJ a (Aw a [61] (Bm a 1 x).2) {Cv d (-1)with p:=(Bm a 1 x).1};refine⟨Xu _ _ _ (by simp[Cv]),by rw[b.1];simp[Cv],by rw[b.2];simp[Cv]⟩
theorem VB{a n}(U:a.length=n)(p:(tokAt a (n-1)).sort=0):∀f:Nat,
 (∀(i:Nat) (x:St) (d:List FS) (j:List Nat),Iq n x d.length->UL n d->UL n (Az a f i x d j).2.2/\(Az a f i x d j).1.length<=j.length+((Az a f i x d j).2.1.bZ-x.bZ)+1)/\
 (∀(i:Nat) (x:St) (d:List FS),Iq n x d.length->x.cB=none->UL n d->UL n (AJ a f i x d).2.2):=by
 have E:=A8 a;have C:∀(L:List UInt8) (x:St),x.bZ<n->(Aw a L x).bZ<n:=fun L x h=>Cb rfl p h
 have z:(Cv 0 0).args.length<=n/\(Cv 0 0).cJ.length<=n/\(Cv 0 0).other.length<=n:=by simp[Cv]
 intro f;induction f with
 |zero=>
  refine⟨fun i x d j _ h=>?_,fun i x d _ _ h=>?_⟩
  .rw[Az];exact⟨h,kC⟩
  .rw[AJ];exact h
 |succ f t=>
  refine⟨fun i x d j o h=>?_,fun i x d o s h=>?_⟩
  .rw[Az];split
   .exact⟨h,kC⟩
   .rename_i S;have s:x.cB=none:=by
     cases V:x.cB with
     |none=>rfl
     |some b=>exact jO (.inl (by simp[V])) S
    have Y:=t.2 i x d o s h;obtain⟨k,A,a3,M⟩:=(DQ p f).2 i x d o s;obtain⟨B,F,b3⟩:=(DQ p f).1 i _ _ (j++[(AJ a f i x d).1]) k;obtain⟨N,v⟩:=t.1 i (AJ a f i x d).2.1 (AJ a f i x d).2.2 (j++[(AJ a f i x d).1]) k Y;refine⟨N,?_⟩;simp only[gM,iC]at v;by_cases G:f=0
    .subst G;rw[Az];simp only[gM,iC];omega
    .cases m:(AJ a f i x d).2.1.cB with
     |none=>have:=M G m;omega
     |some b=> rw[CB _ _ _ _ _ m];simp only[gM,iC];omega
  .rw[AJ];split
   .simp only;have K:=((E (AF (tokAt a x.bZ)) x).trans (E [63] _)).trans (E [123] (Aw a [63] (Aw a (AF (tokAt a x.bZ)) x)));have v:=C [63] _ (C (AF (tokAt a x.bZ)) x o.1);have P:=C [123] _ v;generalize Aw a [63] (Aw a (AF (tokAt a x.bZ)) x)=x2 at*;generalize Aw a [123] x2=u at*;have y:Iq n u (d++[Cv 0 0]).length:=by obtain⟨g1,g2,g3,Q⟩:=K;obtain⟨h1,h2,h3,h4,R⟩:=o;have h6:=R s;refine⟨P,Z,Z,jX,fun e=>?_⟩;have:=Q e;simp only[gM,gK,gZ];omega
    obtain⟨k,A⟩:=t.1 i u (d++[Cv 0 0]) [] y (h.snoc z);obtain⟨w,p2,p3⟩:=(DQ p f).1 i u (d++[Cv 0 0]) [] y;generalize Az a f i u (d++[Cv 0 0]) []=r at*;have m:r.1.length<=n:=by have:=w.1;simp only[gZ]at A;omega
    have H:=w.cY (E [125] r.2.1) (C [125] _ w.1);split
    .split
     .have I:=H.cY ((E D8 _).trans (E [123] _)) (C [123] _ (C D8 _ H.1));obtain⟨B,F⟩:=t.1 i (Aw a [123] (Aw a D8 (Aw a [125] r.2.1))) r.2.2 [] I k;obtain⟨X,q2,q3⟩:=(DQ p f).1 i (Aw a [123] (Aw a D8 (Aw a [125] r.2.1))) r.2.2 [] I;refine B.set _ ⟨by simp[Cv],m,?_⟩;have:=X.1;simp only[gZ]at F;simp only;omega
     .exact k.set _ ⟨by simp[Cv],m,by simp[Cv]⟩
    .exact k.set _ ⟨by simp[Cv],m,by simp[Cv]⟩
   .simp only;have q:=RE a i x;rw[U]at q;exact(h.snoc z).set _ q
structure Kl(a:List PT)(d i j:Nat)(t:TF):Prop where
 w:∃kn ps kb m,i<=kn/\t.name=Aj a kn/\t.u9=ps.map (Aj a)/\MH (kn+1) kb ps/\t.l7=(Aj a kb).l7/\Dn (Cd a d) (kb+1) m t.cF/\m<j
 lt:i<j
 top:j<a.length
structure Zc(d:Nat)(fs:List FS)(i:Nat)(f:RF)(t:TF):Prop where
 name:f.name=Ao t.name
 cG:f.cG=t.u9.map Ao
 cJ:CJ (Dp i d fs) f.cJ t.cF
 t8:f.t8=[]
section
variable{N:Nat}{a:List PT}(H:TksOk N a)(c:DigOk a)(g:N<=4000)(l:a.length<=4001)
include H
include g l in
theorem SP{x:PS}(o:x.next<a.length)(h:(JL a a.length x).2.cH=false):x.cH=false/\Kl a (2*a.length+1) x.next (JL a a.length x).2.next (JL a a.length x).1:=by
 have b:=fun(k:Nat) (u:k≠0) {x:PS} (h:(Af a a.length k x).cH=false)=>C8 u h
 have d:=Gb H.end_ o;have i:=Ah (n:=a.length) H.end_ 3 o;have j:=i.trans (Ah H.end_ 1 i.2);have m:=j.trans (Ex H.end_ j.2);have t:=m.trans (Ah H.end_ 12 m.2);unfold JL at h d⊢;simp only at h d⊢;have B:=b 13 T h;obtain⟨z,G,r,e⟩:=(TO H g l (2*a.length+1)).1 _ [] t.2 Z B.1;have f:=b 12 T z;obtain⟨v,y,w,p,F⟩:=IF f.1;have s:=b 1 T v;have A:=b 3 T s.1;simp only[jE]at r;rw[f.2.1]at e;have C:=e.le (fun _ _ _ q=>q.lt);have E:=p.le;refine⟨A.1,⟨⟨(Af a a.length 3 x).next,y,(Br a a.length (Af a a.length 1 (Af a a.length 3 x))).2.next,_,Z,s.2.2.1,w,?_,by simp only;rw[f.2.2.1],by rw[r];exact e,Z⟩,Z,d.2⟩⟩;exact p.left Z
include c
theorem YZ{x:PS}{y:St}(k:Nat)(b:List FS)(A:Al a.length x y):Al a.length (JL a a.length x).2 (GB (a.map Ao) (2*a.length) k y b).2.1/\
 ((GB (a.map Ao) (2*a.length) k y b).2.1.cB=none->Zc (2*a.length+1) (GB (a.map Ao) (2*a.length) k y b).2.2 k (GB (a.map Ao) (2*a.length) k y b).1 (JL a a.length x).1/\Km b (GB (a.map Ao) (2*a.length) k y b).2.2):=by
 have E:=fun(k:Nat) (v:3<=k) (u:k<=20) {x:PS} {y:St} (h:Al a.length x y)=>Iw H v u h
 have d:=E 3 T T A;obtain⟨f,m⟩:=NU H (k:=1) (so:=1) T d;have i:=E 10 T T f;obtain⟨j,n⟩:=NW H i;simp only[CW,Nat.reduceEqDiff,if_true,if_false]at d f m i j n;have o:Al a.length (Br a a.length (Af a a.length 1 (Af a a.length 3 x))).2 (BQ (a.map Ao) (Aw (a.map Ao) [40] (Bm (a.map Ao) 1 (Aw (a.map Ao) [102,110] y)).2)).2:=j;obtain⟨p,q⟩:=IV H (XU H c (2*a.length+1)).1 (f2:=2*a.length) k b o (fun _=>Z);unfold JL GB;simp only;refine⟨p,fun e=>?_⟩;obtain⟨s,t,w,z⟩:=q e;exact⟨⟨m,n,s.mono (fun _ _ r=>r.2),rfl⟩,t⟩
end
section
variable{N:Nat}{toks:List PT}(H:TksOk N toks)(a:DigOk toks)(b:N<=4000)(c:toks.length<=4001)
include H a
structure MY(fs:List FS)(rf:List RF)(tf:List TF):Prop where
 len:rf.length=tf.length
 each:∀i (h:i<rf.length) (h':i<tf.length),Zc (2*toks.length+1) fs i rf[i] tf[i]
omit H a in
theorem MY.snoc{k g:List FS}{d:List RF}{m:List TF}{f:RF}{t:TF}(h:MY (toks:=toks) k d m)(o:Km k g)(r:Zc (2*toks.length+1) g d.length f t):MY (toks:=toks) g (d++[f]) (m++[t]):=by
 have j:=h.len;refine⟨by simp[j],fun i n p=>?_⟩;by_cases l:i<d.length
 .rw[iG l,iG Z];have q:=h.each i l Z;exact⟨q.name,q.cG,q.cJ.mono (fun _ _ z=>z.pre o),q.t8⟩
 .have e:i=d.length:=by simp at n;omega
  subst e;rw[iE (gI _),iE Z];simp only[Nat.sub_self,j,iD];rw[<-j];exact r
theorem Zg:∀(j h:Nat) (x:PS) (y:St) (f:List FS) (l:List TF) (d:List RF),Al toks.length x y->d≠[]->(x.cH=false->toks.length-x.next<=j/\toks.length-x.next<=h)->(y.cB=none->MY (toks:=toks) f d l)->
 Al toks.length (Af toks toks.length 0 (Ee toks toks.length j x l).2) (Ce (toks.map Ao) (2*toks.length) h y f d).2.1/\((Ce (toks.map Ao) (2*toks.length) h y f d).2.1.cB=none->MY (toks:=toks) (Ce (toks.map Ao) (2*toks.length) h y f d).2.2 (Ce (toks.map Ao) (2*toks.length) h y f d).1 (Ee toks toks.length j x l).1):=by
 have w:∀(m:Nat) (y:St) (f:List FS) (d:List RF) (p:Nat),y.cB=some p->Ce (toks.map Ao) (2*toks.length) m y f d=(d,y,f):=by
  intro m y f d p g;cases m with
  |zero=>rw[Ce]
  |succ m=>rw[Ce,jG (by rw[g];simp)]
 intro j;induction j with
 |zero=>
  intro h x y f l d A C u hrel;rcases A with A|⟨p,i,g⟩
  .have:=u A.1;have:=A.2.2.2;omega
  .rw[w _ _ _ _ _ g,Ee];refine⟨.inr ⟨p,?_,g⟩,fun e=>by rw[g]at e;cases e⟩;unfold Af;rw[jH (by rw[i.2.2];exact H.end_),jH rfl];exact i
 |succ j N=>
  intro h x y f l d A C u hrel;rcases A with A|⟨p,i,g⟩
  .obtain⟨R,S⟩:=u A.1;have M:=A.2.2.2;obtain⟨s,L⟩:∃s,h=s+1:=⟨h-1,Z⟩;subst L;have v:(tokAt (toks.map Ao) y.bZ).sort=0↔(Aj toks x.next).kind=0:=by rw[A.2.2.1,Bq];exact Sd _
   by_cases r:(Aj toks x.next).kind=3
   .rw[Ee,jH r,Ce,jH ⟨A.2.1,.inr (by rw[Ne,v];omega)⟩];obtain⟨F,G⟩:=YZ H a d.length f (.inl A);have U:=LL (n:=toks.length) H.end_ M r;refine N s _ _ _ _ _ F jY (fun _=>Z) (fun e=>?_);obtain⟨P,Q⟩:=G e;exact(hrel A.2.1).snoc Q P
   .rw[Ee,jG r];by_cases o:(Aj toks x.next).kind=0
    .rw[Ce,jG (fun q=>q.2.elim C (fun z=>z (v.2 o)))];refine⟨?_,hrel⟩;unfold Af;rw[jH o,jH rfl];exact .inl A
    .rw[Ce,jH ⟨A.2.1,.inr (fun z=>o (v.1 z))⟩];have t:(GB (toks.map Ao) (2*toks.length) d.length y f).2.1.cB=some (Aj toks x.next).l7:=by
      have E:=Hf H (k:=3) T T (.inl A:Al toks.length x y);simp only[CW,Nat.reduceEqDiff,if_true,if_false]at E;have I:(Aw (toks.map Ao) [102,110] y).cB=some (Aj toks x.next).l7:=by unfold Aw E8;rw[jG (fun z=>r (E.1 z)),A.2.2.1,Bq,A.2.1];rfl
      unfold GB;simp only;refine Dy _ _ ?_;have K:=Hr (toks.map Ao) (Dy (toks.map Ao) [40] (Jx (toks.map Ao) 1 I));have B:=Dy (toks.map Ao) [123] K;rw[CB _ _ _ _ _ B];exact B
     rw[w _ _ _ _ _ t];refine⟨.inr ⟨_,?_,t⟩,fun e=>by simp only at e;rw[t]at e;cases e⟩;unfold Af;rw[jG o];exact⟨rfl,by simp[Ii,A.1],rfl⟩
  .rw[w _ _ _ _ _ g,Ee,jG (by rw[i.2.2,H.end_];decide)];refine⟨.inr ⟨p,?_,g⟩,fun e=>by rw[g]at e;cases e⟩;unfold Af;rw[jH (by rw[i.2.2];exact H.end_),jH rfl];exact i
theorem XV:Al toks.length (Cf toks toks.length ⟨0,false,0⟩).2.2 (Ce (toks.map Ao) (2*toks.length) toks.length ⟨0,none,0,0⟩ [] []).2.1/\((Ce (toks.map Ao) (2*toks.length) toks.length ⟨0,none,0,0⟩ [] []).2.1.cB=none->MY (toks:=toks) (Ce (toks.map Ao) (2*toks.length) toks.length ⟨0,none,0,0⟩ [] []).2.2 (Ce (toks.map Ao) (2*toks.length) toks.length ⟨0,none,0,0⟩ [] []).1 (Cf toks toks.length ⟨0,false,0⟩).1):=by
 have h:=H.pos;obtain⟨f,o⟩:∃f,toks.length=f+1:=⟨toks.length-1,Z⟩;have A:Al toks.length (⟨0,false,0⟩:PS) (⟨0,none,0,0⟩:St):=.inl ⟨rfl,rfl,rfl,h⟩;obtain⟨j,r⟩:=YZ H a 0 [] A;have y:=Gb (n:=toks.length) H.end_ (x:=⟨0,false,0⟩) h;have e:Ce (toks.map Ao) (2*toks.length) toks.length ⟨0,none,0,0⟩ [] []=Ce (toks.map Ao) (2*toks.length) f (GB (toks.map Ao) (2*toks.length) 0 ⟨0,none,0,0⟩ []).2.1 (GB (toks.map Ao) (2*toks.length) 0 ⟨0,none,0,0⟩ []).2.2 [(GB (toks.map Ao) (2*toks.length) 0 ⟨0,none,0,0⟩ []).1]:=by
  conv=>lhs;rw[show toks.length=f+1 from o]
  rw[Ce,jH ⟨rfl,.inl rfl⟩];simp[o]
 rw[e];unfold Cf;simp only;refine Zg H a toks.length f _ _ _ _ _ j jY (fun v=>⟨Z,?_⟩) (fun d=>?_)
 .have t:=C8 (k:=3) T (x:=(⟨0,false,0⟩:PS)) (toks:=toks);by_cases p:(Aj toks 0).kind=3
  .have:=LL (n:=toks.length) H.end_ (x:=⟨0,false,0⟩) h p;simp only at this;omega
  .exfalso;have:=(Vt j v);have d:=this.2.1;have q:=Hf H (k:=3) T T A;simp only[CW,Nat.reduceEqDiff,if_true,if_false]at q;have g:(Aw (toks.map Ao) [102,110] ⟨0,none,0,0⟩).cB=some (Aj toks 0).l7:=by unfold Aw E8;rw[jG (fun z=>p (q.1 z))];simp only[Bq];rfl
   have l:=Hr (toks.map Ao) (Dy (toks.map Ao) [40] (Jx (toks.map Ao) 1 g));have m:=Dy (toks.map Ao) [123] l;unfold GB at d;simp only at d;rw[CB _ _ _ _ _ m]at d;have u:=Dy (toks.map Ao) [125] m;rw[u]at d;cases d
 .obtain⟨w,B⟩:=r d;refine⟨rfl,fun i g l=>?_⟩;have s:i=0:=by simp at g;omega
  subst s;exact w
end
theorem IB(s:ByteArray):∀(l:List TF) (k:Nat) (a:DataW Unit),IsMap a->(has (A7 l k a) (Bn s)=true↔has a (Bn s)=true\/0<=Bz (l.map fun t=>t.name.d9) s k)
 |[],k,a,_=>by simp[A7,Bz]
 |t::l,k,a,d=>by
  rw[A7,iK,Bz];have e:t.name.d9.toList=s.toList↔s=t.name.d9:=⟨fun h=>(Ct h).symm,fun h=>by rw[h]⟩;by_cases c:has a (Bn t.name.d9)=true
  .rw[jH c,IB s l (k+1) a d];by_cases b:s=t.name.d9
   .subst b;rw[jH rfl];simp[c]
   .rw[jG (fun q=>b (e.1 q))]
  .rw[jG c,IB s l (k+1) _ (d.put _ _)];by_cases b:s=t.name.d9
   .subst b;rw[jH rfl,has_put_same d (Gd _)];simp
   .rw[jG (fun q=>b (e.1 q)),has_put_other (fun q=>b (Jl q))]
theorem Hi(s:ByteArray)(z:DataW Unit):∀(l:List TF) (k:Nat) (c:DataW Unit),IsMap c->(has c (Bn s)=true->(A7 l k c).atKey (Bn s) z=c.atKey (Bn s) z)/\(¬has c (Bn s)=true->0<=Bz (l.map fun t=>t.name.d9) s k->(A7 l k c).atKey (Bn s) z=.lit (.int .i64 (Bz (l.map fun t=>t.name.d9) s k)))
 |[],k,c,_=>by simp[A7,Bz]
 |t::l,k,c,i=>by
  rw[A7,iK,Bz];have m:t.name.d9.toList=s.toList↔s=t.name.d9:=⟨fun h=>(Ct h).symm,fun h=>by rw[h]⟩;by_cases g:has c (Bn t.name.d9)=true
  .rw[jH g];obtain⟨a,b⟩:=Hi s z l (k+1) c i;refine⟨a,fun d f=>?_⟩;by_cases e:s=t.name.d9
   .subst e;exact jO g d
   .rw[jG (fun q=>e (m.1 q))]at f⊢;exact b d f
  .rw[jG g];obtain⟨a,b⟩:=Hi s z l (k+1) (c.put (Bn t.name.d9) (.lit (.int .i64 k))) (i.put _ _);by_cases e:s=t.name.d9
   .subst e;rw[jH rfl];refine⟨fun d=>jO d g,fun _ _=>?_⟩;rw[a (has_put_same i (Gd _) _),atKey_put_same i (Gd _)]
   .have j:Bn s≠Bn t.name.d9:=fun q=>e (Jl q)
    rw[jG (fun q=>e (m.1 q))];refine⟨fun d=>?_,fun d f=>b (by rw[has_put_other j];exact d) f⟩;rw[a (by rw[has_put_other j];exact d),atKey_put_other j]
theorem aK{u a}(b:a.map (fun f=>f.name.d9)=u.map (fun t=>t.name.d9))(g:a.map (fun f=>f.cG.length)=u.map (fun t=>t.u9.length)):Lk (A7 u 0 (.map [])) u a:=by
 have d:∀s,¬has (DataW.map []:DataW Unit) (Bn s)=true:=fun s=>by simp[has_eq]
 refine⟨fun s=>?_,fun s c=>?_⟩
 .rw[b,IB s u 0 _ isMap_empty];exact⟨fun q=>q.elim (fun z=>jO z (d s)) id,.inr⟩
 .rw[b]at c⊢;rw[g];have e:Cg (A7 u 0 (.map [])) s=(Bz (u.map fun t=>t.name.d9) s 0).toNat:=by unfold Cg;rw[(Hi s _ u 0 _ isMap_empty).2 (d s) c]
  rw[e];unfold Ju;rw[iL]
def Q4(b:Nat)(c a:CS):Prop:=c=a/\(c.cI=0\/c.l7<b)
theorem DZ.c{b d c e a}(h:DZ b d c e a):Q4 b c a:=⟨h.1,h.2.imp (fun q=>q.1) (fun q=>q.2)⟩
theorem Q4.start{d c b}(h:Q4 d c b):DZ d (.map []) c [] b:=by
 refine⟨h.1,?_⟩;by_cases a:c.cI=0
 .exact .inl ⟨a,tidy_empty,fun s=>by simp[has_eq],rfl⟩
 .exact .inr ⟨a,h.2.resolve_left a⟩
section
variable{N:Nat}{o:List PT}(H:TksOk N o)
include H
theorem DZ.dX:∀(a:List Nat) {i j:Nat} {x:DataW Unit×CS} {y:List ByteArray×CS},DZ (Aj o i).l7 x.1 x.2 y.1 y.2->MH i j a->j<o.length->DZ (Aj o j).l7 (Th (a.map (Aj o)) x).1 (Th (a.map (Aj o)) x).2 (CI (a.map (Aj o)) y).1 (CI (a.map (Aj o)) y).2
 |[],i,j,x,y,h,b,c=>h.mono (Dx H b c)
 |p::a,i,j,x,y,h,b,c=>by have f:=b.2.le;have d:=h.to H (p:=p) (j:=p+1) (fun g q e=>q.decl (Aj o p) e) b.1 (gI _) Z;exact DZ.dX a (x:=(Ig x.1 (Aj o p),EZ x.1 (Aj o p) x.2)) (y:=(y.1++[(Aj o p).d9],Dk y.1 (Ao (Aj o p)) y.2)) d b.2 c
variable{F:DataW Unit}{u:List TF}{v:List RF}(L:Lk F u v)
include L
theorem DZ.stmts{d dep:Nat}:∀{a b:Nat} {c:List TS},Dn (Cd o d) a b c->b<o.length->∀(x:DataW Unit×CS) (y:List ByteArray×CS),DZ (Aj o a).l7 x.1 x.2 y.1 y.2->DZ (Aj o b).l7 (c.foldl (fun x t=>Lw F u d dep t x) x).1 (c.foldl (fun x t=>Lw F u d dep t x) x).2 (Gi v d dep c y).1 (Gi v d dep c y).2:=by
 intro a b c r;induction r with
 |nil h=>intro e x y f;exact f.mono (Dx H h e)
 |cons h _ g=>intro e x y f;exact g e _ _ (DZ.stmt H L h dep x y f)
theorem YF{d i j idx:Nat}{t:TF}(g:Kl o d i j t)(S:Cg F t.name.d9=idx↔Bz (v.map fun f=>f.name.d9) t.name.d9 0=(idx:Int)){c r:CS}(h:Q4 (Aj o i).l7 c r):Q4 (Aj o j).l7 (Rp F u d idx t c) (Ey v d idx t r).2:=by
 obtain⟨l,X,kb,m,N,P,Q,C,Y,E,g7⟩:=g.w;have hl:=C.le;have a0:=E.le (fun _ _ _ q=>q.lt);have V:=g.top;have K:DZ (Aj o (l+1)).l7 (.map []) (if Cg F t.name.d9=idx then(if 12<=idx then BO 4 t.name.l7 c else c)else BO 5 t.name.l7 (if 12<=idx then BO 4 t.name.l7 c else c)) [] (FM v idx t r):=by
  unfold FM;have R:(Cg F t.name.d9=idx)=(Bz (v.map fun f=>f.name.d9) t.name.d9 0=(idx:Int)):=propext S;simp only[R];refine h.start.to H (p:=l) (fun lo q k=>?_) N (gI _) Z;rw[P];by_cases b:12<=idx
  .rw[jH b,jH b];have G:=q.dY (e:=4) k T (.map []) [];split
   .exact G
   .by_cases a:c.cI=0
    .have I:BO 4 (Aj o l).l7 c=⟨4,(Aj o l).l7⟩:=by simp[BO,a]
     rw[<-G.1,I];exact⟨by simp[BO,Be],.inr (by simp[BO])⟩
    .have s:=q.cB k a 4;have n:=q.cB k a 5;have U:=q.1;rw[s.1,s.2,n.1];rw[<-U]at n;rw[n.2];exact⟨rfl,q.2.imp (fun z=>jO z.1 a) (fun z=>⟨z.1,Z⟩)⟩
  .rw[jG b,jG b];split
   .exact q.mono Z
   .exact q.dY k T _ _
 have B:=DZ.dX H X (x:=(.map [],_)) (y:=([],_)) K C Z;rw[<-Q]at B;have M:=DZ.stmts H L (dep:=1) E Z _ _ (B.mono (Dx H Z Z));unfold Rp Ey OM;simp only[show¬(6<1) by decide,if_false];exact(M.mono (Dx H Z V)).c
theorem YE{d:Nat}:∀{i j:Nat} {l:List TF},Dn (Kl o d) i j l->j<o.length->∀(k:Nat) (c:CS) (x:List RF×CS),(∀m (s:m<l.length),Cg F l[m].name.d9=k+m↔Bz (v.map fun f=>f.name.d9) l[m].name.d9 0=((k+m:Nat):Int))->Q4 (Aj o i).l7 c x.2->Q4 (Aj o j).l7 (GI F u d l k c) (BC v d l k x).2:=by
 intro i j l r;induction r with
 |nil h=>intro b k c x _ a;exact⟨a.1,a.2.imp id (fun q=>gY q (Dx H h b))⟩
 |@cons i m j t l h _ n=> intro b k c x e a;have p:=YF H L h (idx:=k) (by have:=e 0 jY;simpa using this) a;rw[GI,BC];refine n b (k+1) _ _ (fun q g=>?_) p;have:=e (q+1) (by simpa using g);simp only[iX]at this;rw[show k+1+q=k+(q+1) by omega];exact this
end
section
variable{N:Nat}{o:List PT}(H:TksOk N o)(w:N<=4000)(A:o.length<=4001)
include H w A
theorem Pu:∀(m:Nat) (x:PS) (d:List TF),x.next<o.length->(Af o o.length 0 (Ee o o.length m x d).2).cH=false->x.cH=false/\∃f,(Ee o o.length m x d).1=d++f/\Dn (Kl o (2*o.length+1)) x.next (Ee o o.length m x d).2.next f/\(Aj o (Ee o o.length m x d).2.next).kind=0/\(Ee o o.length m x d).2.next<o.length
 |0,x,d,e,h=>by rw[Ee]at h⊢;obtain⟨a,b,c⟩:=Gg h;exact⟨b,[],jY,.nil (gI _),a,e⟩
 |m+1,x,d,e,h=>by
  rw[Ee]at h⊢;split at h
  .rename_i g;rw[jH g];have s:=Gb (n:=o.length) H.end_ e;obtain⟨i,f,j,k,l,p⟩:=Pu m _ _ s.2 h;obtain⟨q,r⟩:=SP H w A e i;exact⟨q,(JL o o.length x).1::f,by rw[j];simp,.cons r k,l,p⟩
  .rename_i g;rw[jG g];obtain⟨a,b,c⟩:=Gg h;exact⟨b,[],jY,.nil (gI _),a,e⟩
theorem Nv(h:(Cf o o.length ⟨0,false,0⟩).2.2.cH=false):Dn (Kl o (2*o.length+1)) 0 (o.length-1) (Cf o o.length ⟨0,false,0⟩).1/\(Cf o o.length ⟨0,false,0⟩).2.1=N/\(Aj o (o.length-1)).l7=N:=by
 have d:=H.pos;obtain⟨B,k,s,t,l⟩:=H.last;have e:(Aj o (o.length-1)).l7=N:=by unfold Aj;rw[k];exact l
 unfold Cf at h⊢;simp only at h⊢;have j:=Gb (n:=o.length) H.end_ (x:=⟨0,false,0⟩) d;obtain⟨f,C,g,b,a,p⟩:=Pu H w A o.length _ _ j.2 h;obtain⟨r,i⟩:=SP H w A (x:=⟨0,false,0⟩) d f;have c:(Ee o o.length o.length (JL o o.length ⟨0,false,0⟩).2 [(JL o o.length ⟨0,false,0⟩).1]).2.next=o.length-1:=by
  rcases iW (Ee o o.length o.length (JL o o.length ⟨0,false,0⟩).2 [(JL o o.length ⟨0,false,0⟩).1]).2.next (o.length-1)with q|q
  .have:=H.d8 _ _ q (gL Z);exfalso;apply this;unfold Aj at a;rw[gL Z]at a;exact a
  .omega
 obtain⟨y,z,m⟩:=Gg h;rw[m,c,g];rw[c]at b;exact⟨.cons i b,e,e⟩
end
def Q0:Nat->TS->Prop
 |0,_=>False
 |d+1,.mk s b=>(b=[]/\s.kind<=10)\/(∃p a,b=[(p,a)]/\(s=EA 11\/s=EA 12)/\∀t,t∈a->Q0 d t)\/∃p a f e,b=[(p,a),(f,e)]/\s=EA 11/\(∀t,t∈a->Q0 d t)/\∀t,t∈e->Q0 d t
theorem Cd.shp{c:List PT}:∀{d i j:Nat} {t:TS},Cd c d i j t->Q0 d t
 |0,_,_,_,h=>h.elim
 |d+1,i,j,.mk s v,h=>by
  obtain⟨_,_,p⟩:=h;have C:∀a b f,Dn (Cd c d) a b f->∀t,t∈f->Q0 d t:=fun a b f r t u=>by obtain⟨x,y,q⟩:=r.each t u;exact q.shp
  rcases p with⟨rfl,h,_⟩|⟨k,f,m,rfl,l,_,e,_⟩|⟨k,f,m,w,A,z,rfl,l,_,e,_,g,_⟩
  .exact .inl ⟨rfl,h⟩
  .exact .inr (.inl ⟨_,_,rfl,l,C _ _ _ e⟩)
  .exact .inr (.inr ⟨_,_,_,_,rfl,l,C _ _ _ e,C _ _ _ g⟩)
theorem Sw{N:Nat}:∀(l:List PT) (k:Nat),l.Pairwise (fun a b=>a.l7<b.l7)->(∀t,t∈l->k<=t.l7/\t.l7<=N)->l.length<=N+1-k
 |[],_,_,_=>gV _
 |t::l,k,h,d=>by
  rw[List.pairwise_cons]at h;have f:=d t jF;have:=Sw l (k+1) h.2 fun u e=>⟨by have:=h.1 u e;omega,(d u (iA _ e)).2⟩
  simp only[gK];omega
theorem TksOk.cR{N:Nat}{l:List PT}(h:TksOk N l):l.length<=N+1:=Sw l 0 h.eF fun t a=>⟨gV _,(h.len t a).2⟩
section
variable{N:Nat}{c:List PT}(H:TksOk N c)(n:N<=4000)(o:c.length<=4001)
include H n o
theorem Ny(h:List TF)(a9:Nat)(x:PS)(hP:Cf c c.length ⟨0,false,0⟩=(h,a9,x))(hx:x.cH=false):
 TJ 4000 h/\(∀d U w v,DF d U w v h->DF 4000 U w v h)/\(∀t,t∈h->∀s,s∈t.cF->∃a b,Cd c 4000 a b s)/\(∀t,t∈h->t.u9.length+(t.cF.map (Cs 4000)).sum<=4000/\t.cF.length<=4000)/\h.length<=4001/\
 ∀k:List RF,k.map (fun f=>f.name.d9)=h.map (fun t=>t.name.d9)->k.map (fun f=>f.cG.length)=h.map (fun t=>t.u9.length)->Ib h 4000 a9=MK k N (BC k 4000 h 0 (k,⟨0,0⟩)).2:=by
 have hp:=H.pos;have a2:=Nv H n o (by rw[hP];exact hx);rw[hP]at a2;obtain⟨a1,a8,b5⟩:=a2;simp only at a1 a8;have E:Dn (Kl c 4000) 0 (c.length-1) h:=a1.mono (fun i j t g=>⟨by obtain⟨P,Q,M,m,F,B,u,C,G,r,I⟩:=g.w;refine⟨P,Q,M,m,F,B,u,C,G,?_,I⟩;have b9:=g.top;exact r.low (i0:=0) (j0:=4000) (fun _ _ _ q=>q.lt) (fun a b z _ K q=>Cd.lower 4000 q Z) (gV _) Z,g.lt,g.top⟩)
 have c0:=E.le (fun _ _ _ q=>q.lt);have X:∀t,t∈h->∀s,s∈t.cF->∃a b,Cd c 4000 a b s:=by intro t l s A;obtain⟨i,j,g⟩:=E.each t l;obtain⟨P,Q,M,m,F,B,u,C,G,r,I⟩:=g.w;exact r.each s A
 have V:∀t,t∈h->t.u9.length+(t.cF.map (Cs 4000)).sum<=4000/\t.cF.length<=4000:=by intro t l;obtain⟨i,j,g⟩:=E.each t l;obtain⟨P,Q,M,m,F,B,u,C,G,r,I⟩:=g.w;have b9:=g.top;have l1:=C.le;have l2:=IZ (f:=Cs 4000) (fun _ _ _ q=>q.fJ) r;have l3:=r.le (fun _ _ _ q=>q.lt);rw[u];simp only[iJ];exact⟨Z,Z⟩
 have hT:TJ 4000 h:=by
  refine⟨Z,T,fun t l=>?_⟩;obtain⟨i,j,g⟩:=E.each t l;obtain⟨P,Q,M,m,F,B,u,C,G,r,I⟩:=g.w;refine⟨by rw[B];exact gW (Kd H _).1 n,fun s A=>?_,fun p a6=>?_,(V t l).1,(V t l).2⟩
  .obtain⟨a,b,Y⟩:=X t l s A;exact Y.tok o
  .rw[u]at a6;obtain⟨q,_,rfl⟩:=iT.1 a6;exact⟨gW (Kd H _).1 n,gW (Kd H _).2 n⟩
 refine⟨hT,fun d U w v b6=>?_,X,V,Z,fun k a5 b8=>?_⟩
 .obtain⟨b0,h1,h2,h3,h4⟩:=b6;refine⟨b0,h1,h2,h3,fun j g g'=>?_⟩;obtain⟨av,sv,R,S,e3,b1,e4,e5,e6,e7⟩:=h4 j g g';refine⟨av,sv,R,S,e3,b1,e4,e5,e6,fun m gm b2=>?_⟩;obtain⟨p,q,Y⟩:=X h[j] (gQ _) _ (gQ gm);exact Y.fI (e7 m gm b2)
 .have L:=aK a5 b8;have b3:∀m (hm:m<h.length),Cg (A7 h 0 (.map [])) h[m].name.d9=0+m↔Bz (k.map fun f=>f.name.d9) h[m].name.d9 0=((0+m:Nat):Int):=by
   intro m hm;have b4:0<=Bz (h.map fun t=>t.name.d9) h[m].name.d9 0:=(CR _ _ 0).1.2 (iT.2 ⟨h[m],gQ _,rfl⟩);have e:Cg (A7 h 0 (.map [])) h[m].name.d9=(Bz (h.map fun t=>t.name.d9) h[m].name.d9 0).toNat:=by unfold Cg;rw[(Hi _ _ h 0 _ isMap_empty).2 (by simp[has_eq]) b4]
   rw[e,a5];omega
  have A:=YE H L E Z 0 ⟨0,0⟩ (k,⟨0,0⟩) b3 ⟨rfl,.inl rfl⟩;rw[b5]at A;unfold Ib MK;rw[a8];have a3:=L.nm ⟨#[109,97,105,110]⟩;have a4:=L.ar ⟨#[109,97,105,110]⟩;obtain⟨a7,b7⟩:=A;by_cases y:0<=Bz (k.map fun f=>f.name.d9) ⟨#[109,97,105,110]⟩ 0/\((k.map fun f=>f.cG.length)[(Bz (k.map fun f=>f.name.d9) ⟨#[109,97,105,110]⟩ 0).toNat]?).getD 0=0
  .have K:(has (A7 h 0 (.map [])) (Bn ⟨#[109,97,105,110]⟩) && Ju h (Cg (A7 h 0 (.map [])) ⟨#[109,97,105,110]⟩)==0)=true:=by rw[Bool.and_eq_true,beq_iff_eq];exact⟨a3.2 y.1,by rw[a4 y.1];exact y.2⟩
   rw[jH K,jH y]
   exact a7
  .have K:¬(has (A7 h 0 (.map [])) (Bn ⟨#[109,97,105,110]⟩) && Ju h (Cg (A7 h 0 (.map [])) ⟨#[109,97,105,110]⟩)==0)=true:=by rw[Bool.and_eq_true,beq_iff_eq];rintro⟨q1,q2⟩;have q3:=a3.1 q1;exact y ⟨q3,by rw[<-a4 q3];exact q2⟩
   rw[jG K,jG y,<-a7]
   rcases b7 with h0|h0
   .simp[BO,Be,h0]
   .by_cases a0:(GI (A7 h 0 (.map [])) h 4000 h 0 ⟨0,0⟩).cI=0
    .simp[BO,Be,a0]
    .have R:BO 6 N (GI (A7 h 0 (.map [])) h 4000 h 0 ⟨0,0⟩)=GI (A7 h 0 (.map [])) h 4000 h 0 ⟨0,0⟩:=by simp[BO,a0]
     have S:Be 6 N (GI (A7 h 0 (.map [])) h 4000 h 0 ⟨0,0⟩)=GI (A7 h 0 (.map [])) h 4000 h 0 ⟨0,0⟩:=by unfold Be;rw[jG Z]
     rw[R,S]
end
theorem CJ.cU{A B}{R S:A->B->Prop}{l m}(h:CJ R l m)(k:∀a b,b∈m->R a b->S a b):CJ S l m:=by
 induction h with
 |nil=>exact .nil
 |cons h _ f=>exact .cons (k _ _ (jF ..) h) (f (fun a b d=>k a b (iA _ d)))
section
variable{N:Nat}{c:List PT}(H:TksOk N c)(e:DigOk c)(g:N<=4000)(j:c.length<=4001)
include H
theorem Ps:∀(m:Nat) (y:St) (a:List FS) (b:List RF),Iq c.length y a.length->UL c.length a->Iq c.length (Ce (c.map Ao) (2*c.length) m y a b).2.1 (Ce (c.map Ao) (2*c.length) m y a b).2.2.length/\UL c.length (Ce (c.map Ao) (2*c.length) m y a b).2.2
 |0,y,a,b,d,k=>by rw[Ce];exact⟨d,k⟩
 |m+1,y,a,b,d,k=>by
  have f:(tokAt (c.map Ao) (c.length-1)).sort=0:=by rw[Bq];simp[Ao,H.end_,CO]
  rw[Ce];split
  .have s:=(Jg f (2*c.length) b.length y a d).1;refine Ps m _ _ _ s ?_;unfold GB;simp only;have E:=A8 (c.map Ao);have C:∀(L:List UInt8) (x:St),x.bZ<c.length->(Aw (c.map Ao) L x).bZ<c.length:=fun L x h=>Cb rfl f h
   have p:=(E [102,110] y).trans (EN (c.map Ao) 1 (Aw (c.map Ao) [102,110] y));have n:(Bm (c.map Ao) 1 (Aw (c.map Ao) [102,110] y)).2.bZ<c.length:=Ev (q:=(Bm (c.map Ao) 1 (Aw (c.map Ao) [102,110] y)).1) rfl T f (C _ _ d.1);generalize (Bm (c.map Ao) 1 (Aw (c.map Ao) [102,110] y)).2=i at*;have r:=p.trans ((E [40] i).trans (Fb (c.map Ao) (Aw (c.map Ao) [40] i)));have o:(BQ (c.map Ao) (Aw (c.map Ao) [40] i)).2.bZ<c.length:=EO (q:=(BQ (c.map Ao) (Aw (c.map Ao) [40] i)).1) rfl f (C _ _ n);generalize (BQ (c.map Ao) (Aw (c.map Ao) [40] i)).2=l at*;have t:=d.cY (r.trans (E [123] l)) (C [123] l o);exact((VB jY f (2*c.length)).1 b.length _ a [] t k).1
  .exact⟨d,k⟩
include e g j
theorem Nw(h:List TF)(C:Nat)(x:PS)(F:Cf c c.length ⟨0,false,0⟩=(h,C,x))(k:List RF)(y:St)(E:List FS)(G:Ce (c.map Ao) (2*c.length) c.length ⟨0,none,0,0⟩ [] []=(k,y,E)):
 (x.cH=true->y.cB=some x.cW)/\
 (x.cH=false->y.cB=none/\TE 4000 k E h/\TJ 4000 h/\(∀d U w v,DF d U w v h->DF 4000 U w v h)/\Ib h 4000 C=MK k N (BC k 4000 h 0 (k,⟨0,0⟩)).2):=by
 have V:=H.pos;obtain⟨o,z⟩:=XV H e;rw[F,G]at o z;simp only at o z;refine⟨fun n=>?_,fun n=>?_⟩
 .rcases o with a|⟨p,a,b⟩
  .rw[a.1]at n;cases n
  .rw[b,a.2.1]
 have K:y.cB=none:=(Vt o n).2.1;have hrel:=z K;obtain⟨L,X,Q,I,a0,P⟩:=Ny H g j h C x F n
 have S:k.map (fun f=>f.name.d9)=h.map (fun t=>t.name.d9):=by
  apply jB
  .simp[hrel.len]
  .intro i l m;simp only[iU,(hrel.each i (by simpa using l) (by simpa using m)).name];rfl
 have Y:k.map (fun f=>f.cG.length)=h.map (fun t=>t.u9.length):=by
  apply jB
  .simp[hrel.len]
  .intro i l m;simp only[iU,(hrel.each i (by simpa using l) (by simpa using m)).cG,iJ]
 have s:=Ps H c.length ⟨0,none,0,0⟩ [] [] ⟨V,gV _,gV _,gV _,fun _=>⟨gI _,gI _,gI _⟩⟩ (fun u B=>by cases B);rw[G]at s;simp only at s;refine⟨K,⟨hrel.len,by rw[hrel.len];omega,by have:=s.1.2.2.2.1;omega,fun u B=>?_,fun i l m=>?_,T⟩,L,X,P k S Y⟩
 .have:=s.2 u B;omega
 .have r:=hrel.each i l m;have A:h[i]∈h:=gQ _;refine⟨r.name,r.cG,r.cJ.cU (fun a b M q=>?_),r.t8,?_,?_⟩
  .obtain⟨p,q',R⟩:=Q _ A b M;exact R.flat q
  .rw[r.cJ.length];have:=(I _ A).2;omega
  .have:=(I _ A).1;omega
end

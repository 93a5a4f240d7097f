/- Part of the proof: RnE RnF RuA RuB RuC RuF. -/
import Derived.Test.YtaningfhibkemaaGreatDoorG10
import Derived.Lib.ItoaNum
import Derived.Sort.Walk0
import Derived.Deep.AppendSrc
set_option maxRecDepth 100000
set_option maxHeartbeats 2000000
namespace Go.Proofs.YtaningfhibkemaaGreatDoor
open Go.Proofs.Tryz Go.RowKit
def It(R:Nat->Nat->Nat->Nat->Nat->Prop):List Nat->Nat->Nat->Nat->Nat->Prop
 |[],c,a,d,b=>d=c/\b=a
 |j::l,c,a,d,b=>∃f e,R j c a f e/\It R l f e d b
theorem It.mono{R S:Nat->Nat->Nat->Nat->Nat->Prop}(h:∀j a b c d,R j a b c d->S j a b c d):∀{l:List Nat} {a b c d:Nat},It R l a b c d->It S l a b c d
 |[],_,_,_,_,q=>q
 |_::_,_,_,_,_,⟨f,e,g,i⟩=>⟨f,e,h _ _ _ _ _ g,It.mono h i⟩
def Fp:Nat->List FS->Nat->Nat->Nat->Nat->Nat->Prop
 |0,_,_,_,_,_,_=>False
 |d+1,g,i,h,f,n,l=>∃u,g[i]? =some u/\
   ((u.kind≠12/\u.kind≠13/\n=h+(if u.kind=2 then 1 else 0)/\l=f+(if u.kind=9 then 1 else 0)/\(u.kind=2->u.l7=h+1)/\(u.kind=9->u.l7=f+1))\/
    ((u.kind=12\/u.kind=13)/\∃m k,It (fun j a b c e=>i<j/\Fp d g j a b c e) u.cJ h f m k/\It (fun j a b c e=>i<j/\Fp d g j a b c e) u.other m k n l))
theorem Fp.up:∀{d:Nat} {f:List FS} {i a b c e:Nat},Fp d f i a b c e->Fp (d+1) f i a b c e
 |0,_,_,_,_,_,_,h=>h.elim
 |d+1,f,i,a,b,c,e,h=>by
  obtain⟨u,j,h⟩:=h;refine⟨u,j,?_⟩;rcases h with h|⟨k,n,g,l,m⟩
  .exact .inl h
  .exact .inr ⟨k,n,g,l.mono (fun _ _ _ _ _ q=>⟨q.1,q.2.up⟩),m.mono (fun _ _ _ _ _ q=>⟨q.1,q.2.up⟩)⟩
theorem Fp.dJ{k:Nat}:∀{d:Nat} {f g:List FS} {i a b c e:Nat},Fp d f i a b c e->k<=i->(∀j,k<=j->j<f.length->g[j]? =f[j]?)->Fp d g i a b c e
 |0,_,_,_,_,_,_,_,h,_,_=>h.elim
 |d+1,f,g,i,a,b,c,e,h,t,m=>by
  obtain⟨u,l,h⟩:=h;have s:i<f.length:=by
   rcases iW i f.length with q|q
   .exact q
   .rw[iI q]at l;cases l
  refine⟨u,by rw[m i t s];exact l,?_⟩;rcases h with h|⟨o,v,n,p,r⟩
  .exact .inl h
  .exact .inr ⟨o,v,n,p.mono (fun _ _ _ _ _ q=>⟨q.1,q.2.dJ (by have:=q.1;omega) m⟩),r.mono (fun _ _ _ _ _ q=>⟨q.1,q.2.dJ (by have:=q.1;omega) m⟩)⟩
theorem Fp.pre{d:Nat}{f g:List FS}{i a b c e:Nat}(h:Fp d f i a b c e)(m:Km f g):Fp d g i a b c e:=h.dJ (k:=0) (gV _) (fun j _ l=>m.2 j l)
inductive KV (fs:List FS) (l:List Nat):Nat->Prop
 |root {k:Nat}:k∈l->KV fs l k
 |cJ {j k:Nat} {u:FS}:KV fs l j->fs[j]? =some u->u.kind=12\/u.kind=13->k∈u.cJ->KV fs l k
 |other {j k:Nat} {u:FS}:KV fs l j->fs[j]? =some u->u.kind=12\/u.kind=13->k∈u.other->KV fs l k
theorem KV.thru{a:List FS}{l m:List Nat}{k:Nat}(h:KV a l k)(f:∀j,j∈l->KV a m j):KV a m k:=by
 induction h with
 |root q=>exact f _ q
 |cJ _ c b d e=>exact .cJ e c b d
 |other _ c b d e=>exact .other e c b d
theorem KV.look{e f:List FS}{l:List Nat}{k:Nat}(h:KV e l k)(g:∀(j:Nat) (u:FS),e[j]? =some u->f[j]? =some u\/(u.cJ=[]/\u.other=[])):KV f l k:=by
 induction h with
 |root q=>exact .root q
 |cJ _ c b a d=>
  rcases g _ _ c with q|q
  .exact .cJ d q b a
  .rw[q.1]at a;cases a
 |other _ c b a d=>
  rcases g _ _ c with q|q
  .exact .other d q b a
  .rw[q.2]at a;cases a
theorem KV.pre{a b:List FS}{l:List Nat}{k:Nat}(h:KV a l k)(c:Km a b):KV b l k:=h.look fun j u q=>.inl (by rw[c.2 j (List.getElem?_eq_some_iff.1 q).1];exact q)
theorem KV.set{a r:List FS}{l:List Nat}{k:Nat}(h:KV r l k)(u:FS)(c:Km (a++[Cv 0 0]) r):KV (r.set a.length u) l k:=h.look fun j v q=>by
 by_cases e:j=a.length
 .have b:=c.2 a.length jY;rw[<-e,q,e,jI (gI _),Nat.sub_self]at b;cases b;exact .inr ⟨rfl,rfl⟩
 .rw[List.getElem?_set_ne (fun q=>e q.symm)];exact .inl q
theorem Xv(a:List Tk)(x:St)(s:FS):(C0 a x s).1.kind<=9/\(C0 a x s).2.pl=x.pl+(if (C0 a x s).1.kind=2 then 1 else 0)/\(C0 a x s).2.ca=x.ca+(if (C0 a x s).1.kind=9 then 1 else 0)/\((C0 a x s).1.kind=2->(C0 a x s).1.l7=x.pl+1)/\((C0 a x s).1.kind=9->(C0 a x s).1.l7=x.ca+1):=by
 unfold C0;split
 .simp[Aw]
 .split
  .simp only;split<;>simp[Aw,Bm]
  .split
   .simp[Aw,Bm]
   .split
    .simp[Aw,Bm]
    .split
     .simp[Aw,Bm,BQ]
     .simp only;split<;>simp[Aw,Bm,BQ]
theorem RG(a:List Tk)(b:Nat)(x:St):(Ba a b x).1.kind<=11/\(Ba a b x).2.pl=x.pl+(if (Ba a b x).1.kind=2 then 1 else 0)/\(Ba a b x).2.ca=x.ca+(if (Ba a b x).1.kind=9 then 1 else 0)/\((Ba a b x).1.kind=2->(Ba a b x).1.l7=x.pl+1)/\((Ba a b x).1.kind=9->(Ba a b x).1.l7=x.ca+1):=by
 unfold Ba;split
 .simp[Aw,Bm]
 .split
  .simp[Aw,Bm]
  .split
   .simp[Aw,Bm]
   .obtain⟨c,d,e,f,g⟩:=Xv a (Aw a [61] (Bm a 1 x).2) {Cv b (-1)with p:=(Bm a 1 x).1};exact⟨gW c T,d,e,f,g⟩
theorem VD{g:List Tk}{n:Nat}(hz:(tokAt g (n-1)).sort=0):∀f:Nat,
 (∀(i:Nat) (x:St) (d:List FS) (m:List Nat),Iq n x d.length->(x.cB=none->2*(n-x.bZ)+1<=f)->(Az g f i x d m).2.1.cB=none->
   ∃F,(Az g f i x d m).1=m++F/\It (fun j a b c e=>d.length<=j/\Fp f (Az g f i x d m).2.2 j a b c e) F x.pl x.ca (Az g f i x d m).2.1.pl (Az g f i x d m).2.1.ca/\Km d (Az g f i x d m).2.2/\∀k,d.length<=k->k<(Az g f i x d m).2.2.length->KV (Az g f i x d m).2.2 F k)/\
 (∀(i:Nat) (x:St) (d:List FS),Iq n x d.length->x.cB=none->2*(n-x.bZ)<=f->(AJ g f i x d).2.1.cB=none->
   (AJ g f i x d).1=d.length/\Fp f (AJ g f i x d).2.2 d.length x.pl x.ca (AJ g f i x d).2.1.pl (AJ g f i x d).2.1.ca/\Km d (AJ g f i x d).2.2/\∀k,d.length<=k->k<(AJ g f i x d).2.2.length->KV (AJ g f i x d).2.2 [d.length] k):=by
 have E:=A8 g;have C:∀(L:List UInt8) (x:St),x.bZ<n->(Aw g L x).bZ<n:=fun L x h=>Cb rfl hz h
 have BP:=DQ (toks:=g) (n:=n) hz;intro f;induction f with
 |zero=>
  refine⟨fun i x d m h Q l=>?_,fun i x d h l Q _=>?_⟩
  .rw[Az]at l;have:=Q l;omega
  .have:=h.1;omega
 |succ f ih=>
  refine⟨fun i x d m h Q l=>?_,fun i x d h B Q l=>?_⟩
  .rw[Az]at l⊢;split at l
   .rename_i hc;rw[jH hc];exact⟨[],jY,⟨rfl,rfl⟩,Km.refl _,fun k a b=>jO b (Nat.not_lt.2 a)⟩
   .rename_i hc;rw[jG hc];have B:x.cB=none:=by
     cases B:x.cB with
     |none=>rfl
     |some b=>exact jO (.inl (by simp[B])) hc
    have b8:=Q B;have b7:=h.1;obtain⟨X,a2,a3,a4⟩:=(BP f).2 i x d h B;have a8:(AJ g f i x d).2.1.cB=none:=by
     cases hq:(AJ g f i x d).2.1.cB with
     |none=>rfl
     |some p=>rw[CB _ _ _ _ _ hq]at l;simp only[hq]at l;cases l
    have a5:=a4 Z a8;obtain⟨b1,b2,b3,b4⟩:=ih.2 i x d h B Z a8;obtain⟨F,c1,c2,M,Y⟩:=ih.1 i _ _ (m++[(AJ g f i x d).1]) X (fun _=>Z) l;refine⟨d.length::F,by rw[c1,b1];simp,⟨_,_,⟨gI _,(b2.pre M).up⟩,c2.mono (fun _ _ _ _ _ q=>⟨by have:=q.1;omega,q.2.up⟩)⟩,b3.trans M,fun k hk hl=>?_⟩;rcases iW k (AJ g f i x d).2.2.length with q|q
    .exact((b4 k hk q).pre M).thru fun j s=>.root (by rw[iB.1 s];exact jF)
    .exact(Y k q hl).thru fun j s=>.root (iA _ s)
  .have hi:=h;obtain⟨h1,h2,h3,h4,h5⟩:=h;obtain⟨p1,p2,p3⟩:=h5 B;rw[AJ]at l⊢;by_cases hw:AF (tokAt g x.bZ)=XE\/AF (tokAt g x.bZ)=Hd
   .rw[jH hw]at l⊢;simp only at l⊢;have A:=((E (AF (tokAt g x.bZ)) x).trans (E [63] _)).trans (E [123] (Aw g [63] (Aw g (AF (tokAt g x.bZ)) x)));have c2:=C [63] _ (C (AF (tokAt g x.bZ)) x h1);have M:=C [123] _ c2;generalize Aw g [63] (Aw g (AF (tokAt g x.bZ)) x)=x2 at*;generalize Aw g [123] x2=I at*;have I0:Iq n I (d++[Cv 0 0]).length:=by obtain⟨g1,g2,g3,g4⟩:=A;refine⟨M,Z,Z,jX,fun e=>?_⟩;have:=g4 e;simp only[gM,gK,gZ];omega
    have N1:=ih.1 i I (d++[Cv 0 0]) [] I0 (fun e=>by have:=(A.2.2.2 e).2;omega);obtain⟨X,a2,a3⟩:=(BP f).1 i I (d++[Cv 0 0]) [] I0;generalize Az g f i I (d++[Cv 0 0]) []=r at*;have w:=E [125] r.2.1;have Y:=C [125] r.2.1 X.1;have I3:=X.cY w Y;generalize Aw g [125] r.2.1=o at*;have a9:∀(u:FS),(u.kind=12\/u.kind=13)->u.cJ=r.1->u.other=[]->o.cB=none->
     Fp (f+1) (r.2.2.set d.length u) d.length x.pl x.ca o.pl o.ca/\Km d (r.2.2.set d.length u)/\∀k,d.length<=k->k<(r.2.2.set d.length u).length->KV (r.2.2.set d.length u) [d.length] k:=by
     intro u hk a0 ho he;obtain⟨P,e2⟩:=w.2.2.2 he;obtain⟨F,U,n2,G,n4⟩:=N1 P;obtain⟨V,z,s3,s4⟩:=Gs d r.2.2 (Cv 0 0) u G;refine⟨⟨u,z,.inr ⟨hk,o.pl,o.ca,?_,by rw[ho];exact⟨rfl,rfl⟩⟩⟩,V,fun k a6 R=>?_⟩;rotate_left
     .rcases iW d.length k with q|q
      .refine((n4 k (by simp only[gM,iC];omega) (by simpa using R)).set u G).thru fun j s=>.cJ (.root jF) z hk (by rw[a0,U];exact s)
      .exact .root (by rw[show k=d.length by omega];exact jF)
     rw[a0,U,jE,w.2.1,w.2.2.1,<-A.2.1,<-A.2.2.1];refine n2.mono (fun j a b c e q=>?_);have y:=q.1;simp only[gM,iC]at y;exact⟨Z,q.2.dJ (k:=d.length+1) Z s4⟩
    by_cases a7:AF (tokAt g x.bZ)=XE
    .rw[jH a7]at l⊢;by_cases he:Bs o.cB (tokAt g o.bZ) D8=true
     .rw[jH he]at l⊢;simp only at l⊢;have K:=(E D8 o).trans (E [123] (Aw g D8 o));have c5:=C [123] _ (C D8 o Y);generalize Aw g D8 o=x4 at*;generalize Aw g [123] x4=v at*;have I5:=I3.cY K c5;have b6:I.bZ<=o.bZ:=gW a2 w.1;have N2:=ih.1 i v r.2.2 [] I5 (fun e=>by have:=(K.2.2.2 e).2;have:=A.1;omega);obtain⟨b1,b2,b3⟩:=(BP f).1 i v r.2.2 [] I5;have RB:∀p,v.cB=some p->(Az g f i v r.2.2 []).2.1.cB=some p:=fun p h=>by rw[CB _ _ _ _ _ h];exact h
      generalize Az g f i v r.2.2 []=t at*;have E6:=E [125] t.2.1;generalize Aw g [125] t.2.1=x5 at*;obtain⟨P,e2⟩:=E6.2.2.2 l;obtain⟨b9,m1,m2,S,m4⟩:=N2 P;have b0:v.cB=none:=by
       cases hq:v.cB with
       |none=>rfl
       |some p=>rw[RB p hq]at P;cases P
      obtain⟨f1,f2⟩:=K.2.2.2 b0;obtain⟨g1,g2⟩:=w.2.2.2 f1;obtain⟨F,U,n2,G,n4⟩:=N1 g1;obtain⟨V,z,s3,s4⟩:=Gs d t.2.2 (Cv 0 0) {Cv i (-1)with kind:=12,br:=(tokAt g x2.bZ).pos,cJ:=r.1,dG:=(tokAt g x4.bZ).pos,other:=t.1} (G.trans S);have b5:=G.1;simp only[gM,iC]at b5;refine⟨by trivial,⟨_,z,.inr ⟨.inl rfl,r.2.1.pl,r.2.1.ca,?_,?_⟩⟩,V,fun k a6 R=>?_⟩;rotate_left 2
      .rcases iW d.length k with q|q
       .rcases iW k r.2.2.length with H|H
        .exact(((n4 k (by simp only[gM,iC];omega) H).pre S).set _ (G.trans S)).thru fun j s=>.cJ (.root jF) z (.inl rfl) (by show j∈r.1;rw[U];exact s)
        .exact((m4 k H (by simpa using R)).set _ (G.trans S)).thru fun j s=>.other (.root jF) z (.inl rfl) (by show j∈t.1;rw[m1];exact s)
       .exact .root (by rw[show k=d.length by omega];exact jF)
      .have N:It (fun j a b c e=>(d++[Cv 0 0]).length<=j/\Fp f r.2.2 j a b c e) r.1 I.pl I.ca r.2.1.pl r.2.1.ca:=by rw[U,jE];exact n2
       rw[A.2.1,A.2.2.1]at N;refine N.mono (fun j a b c e q=>?_);have y:=q.1;simp only[gM,iC]at y;exact⟨Z,(q.2.pre S).dJ (k:=d.length+1) Z s4⟩
      .have N:It (fun j a b c e=>r.2.2.length<=j/\Fp f t.2.2 j a b c e) t.1 v.pl v.ca t.2.1.pl t.2.1.ca:=by rw[m1,jE];exact m2
       rw[K.2.1,K.2.2.1,w.2.1,w.2.2.1,<-E6.2.1,<-E6.2.2.1]at N;refine N.mono (fun j a b c e q=>?_);have y:=q.1;exact⟨Z,q.2.dJ (k:=d.length+1) Z s4⟩
     .rw[jG he]at l⊢;simp only at l⊢;obtain⟨y,H⟩:=a9 {Cv i (-1)with kind:=12,br:=(tokAt g x2.bZ).pos,cJ:=r.1} (.inl rfl) rfl rfl l;exact⟨by trivial,y,H⟩
    .rw[jG a7]at l⊢;simp only at l⊢;obtain⟨y,H⟩:=a9 {Cv i (-1)with kind:=13,br:=(tokAt g x2.bZ).pos,cJ:=r.1} (.inr rfl) rfl rfl l;exact⟨by trivial,y,H⟩
   .rw[jG hw]at l⊢;simp only at l⊢;obtain⟨k1,k2,k3,k4,k5⟩:=RG g i x;obtain⟨V,z,s3,_⟩:=Gs d (d++[Cv 0 0]) (Cv 0 0) (Ba g i x).1 (Km.refl _);have e:=E [59] (Ba g i x).2;exact⟨by trivial,⟨_,z,.inl ⟨Z,Z,by rw[e.2.1];exact k2,by rw[e.2.2.1];exact k3,k4,k5⟩⟩,V,fun k a6 R=>.root (by simp at R;rw[show k=d.length by omega];exact jF)⟩
mutual
def FN(fs:List FS)(inn:Nat):TS->Nat->Nat->Nat->Prop
 |.mk s [],i,pl,ca=>∃u,fs[i]? =some u/\SC s u inn/\(s.kind=1->u.l7=pl+1)/\(s.kind=8->u.l7=ca+1)
 |.mk s [(_,ts)],i,pl,ca=>∃u,fs[i]? =some u/\u.cS=inn/\((s.kind=12/\u.kind=13)\/(s.kind=11/\u.kind=12))/\u.other=[]/\Tz fs inn ts u.cJ pl ca
 |.mk s [(_,ts),(_,ts2)],i,pl,ca=>∃u,fs[i]? =some u/\u.cS=inn/\s.kind=11/\u.kind=12/\Tz fs inn ts u.cJ pl ca/\Tz fs inn ts2 u.other (pl+nL 1 ts) (ca+nL 8 ts)
 |.mk _ (_::_::_::_),_,_,_=>False
def Tz(fs:List FS)(inn:Nat):List TS->List Nat->Nat->Nat->Prop
 |[],l,_,_=>l=[]
 |t::ts,l,pl,ca=>∃j l',l=j::l'/\FN fs inn t j pl ca/\Tz fs inn ts l' (pl+nK 1 t) (ca+nK 8 t)
end
theorem Uc{k:Nat}:Du k=2↔k=1:=by
 unfold Du;repeat' split
 all_goals omega
theorem Rs{k:Nat}:Du k=9↔k=8:=by
 unfold Du;repeat' split
 all_goals omega
theorem Pn{M:Nat}{y:List FS}:∀(d e i m k w r:Nat) (t:TS),Dp M d y i t->Fp e y i m k w r->FN y M t i m k/\w=m+nK 1 t/\r=k+nK 8 t
 |0,_,_,_,_,_,_,_,h,_=>h.elim
 |_+1,0,_,_,_,_,_,_,_,h=>h.elim
 |d+1,e+1,i,m,k,w,r,.mk s bl,h,B=>by
  have L:∀(l:List Nat) (o:List TS) (m k w r:Nat),CJ (fun j t=>i<j/\Dp M d y j t) l o->It (fun j a b c x=>i<j/\Fp e y j a b c x) l m k w r->Tz y M o l m k/\w=m+nL 1 o/\r=k+nL 8 o:=by
   intro l o m k w r U;induction U generalizing m k with
   |nil=>intro h;exact⟨rfl,by simp[nL,h.1],by simp[nL,h.2]⟩
   |@cons j t l o X _ Y=> rintro⟨K,C,q1,q2⟩;obtain⟨r1,r2,r3⟩:=Pn d e j m k K C t X.2 q1.2;obtain⟨N,Q,R⟩:=Y K C q2;subst r2 r3;exact⟨⟨j,l,rfl,r1,N⟩,by rw[Q];simp[nL];omega,by rw[R];simp[nL];omega⟩
  obtain⟨u,I,h⟩:=h;obtain⟨u',S,B⟩:=B;rw[I]at S;cases S;rcases h with⟨rfl,P⟩|⟨p,o,rfl,rfl,q,G,_,_,H,F⟩|⟨p,o,rfl,rfl,q,G,_,_,H,F⟩|⟨p,o,p2,a1,rfl,rfl,q,G,_,_,F,V⟩
  .have q:=P.kind;have hf:=P.cR;have a0:u.kind≠12/\u.kind≠13:=by
    rw[q];unfold Du;repeat' split
    all_goals omega
   rcases B with⟨_,_,n,g,f,v⟩|⟨n,_⟩
   .rw[q]at n g f v;simp only[Uc,Rs]at n g f v;refine⟨⟨u,I,P,f,v⟩,?_,?_⟩
    .rw[n];simp[nK,nB]
    .rw[g];simp[nK,nB]
   .omega
  .rcases B with⟨n,g,_⟩|⟨n,K,C,g,f⟩
   .omega
   .obtain⟨E,z,A⟩:=L _ _ _ _ _ _ F g;rw[H]at f;obtain⟨f,v⟩:=f;exact⟨⟨u,I,G,.inl ⟨rfl,q⟩,H,E⟩,by rw[f,z];simp[nK,nB,EA],by rw[v,A];simp[nK,nB,EA]⟩
  .rcases B with⟨n,g,_⟩|⟨n,K,C,g,f⟩
   .omega
   .obtain⟨E,z,A⟩:=L _ _ _ _ _ _ F g;rw[H]at f;obtain⟨f,v⟩:=f;exact⟨⟨u,I,G,.inr ⟨rfl,q⟩,H,E⟩,by rw[f,z];simp[nK,nB,EA],by rw[v,A];simp[nK,nB,EA]⟩
  .rcases B with⟨n,g,_⟩|⟨n,K,C,g,f⟩
   .omega
   .obtain⟨E,z,A⟩:=L _ _ _ _ _ _ F g;obtain⟨N,Q,R⟩:=L _ _ _ _ _ _ V f;rw[z,A]at N;exact⟨⟨u,I,G,rfl,q,E,N⟩,by rw[Q,z];simp[nK,nB,EA];omega,by rw[R,A];simp[nK,nB,EA];omega⟩
theorem Ni{p:Nat}{m:List FS}(d e:Nat):∀(l:List Nat) (i:List TS) (g f n k:Nat),CJ (Dp p d m) l i->It (fun j a b c x=>Fp e m j a b c x) l g f n k->Tz m p i l g f/\n=g+nL 1 i/\k=f+nL 8 i:=by
 intro l i g f n k r;induction r generalizing g f with
 |nil=>intro h;exact⟨rfl,by simp[nL,h.1],by simp[nL,h.2]⟩
 |@cons j t l i s _ u=> rintro⟨q,o,z,A⟩;obtain⟨B,C,E⟩:=Pn d e j g f q o t s z;obtain⟨v,w,y⟩:=u q o A;subst C E;exact⟨⟨j,l,rfl,B,v⟩,by rw[w];simp[nL];omega,by rw[y];simp[nL];omega⟩
def IS(e:Nat)(m:List FS):List RF->Nat->Nat->Nat->Nat->Prop
 |[],h,d,i,g=>i=h/\g=d
 |f::l,h,d,i,g=>∃n k,It (fun j a b c x=>Fp e m j a b c x) f.cJ h d n k/\IS e m l n k i g
theorem IS.pre{e:Nat}{f g:List FS}(i:Km f g):∀{l:List RF} {a b c d:Nat},IS e f l a b c d->IS e g l a b c d
 |[],_,_,_,_,h=>h
 |_::_,_,_,_,_,⟨n,j,k,m⟩=>⟨n,j,k.mono (fun _ _ _ _ _ q=>q.pre i),IS.pre i m⟩
theorem IS.snoc{e:Nat}{k:List FS}:∀{l:List RF} {a b c d:Nat} {f:RF} {i g:Nat},IS e k l a b c d->It (fun j a b c x=>Fp e k j a b c x) f.cJ c d i g->IS e k (l++[f]) a b i g
 |[],_,_,_,_,f,i,g,h,q=>by obtain⟨rfl,rfl⟩:=h;exact⟨i,g,q,rfl,rfl⟩
 |_::_,_,_,_,_,_,_,_,⟨p,m,n,o⟩,q=>⟨p,m,n,IS.snoc o q⟩
def OU(c e:Nat)(v:Vl):Prop:=(v.kind=0/\v.dF=0)\/(v.kind=1/\v.dF<c)\/(v.kind=2/\v.dF<e)
def TC(n i:Nat)(t:Tg):Prop:=t.kind=0\/(t.kind=1/\t.cP<=4000/\t.cT<=3/\t.cT<=i/\i+(3-t.cT)<n)
structure IR(nf:Nat)(m:List Cl):Prop where
 nm:∀i (h:i<m.length),TC m.length i m[i].nm
 vl:∀i (h:i<m.length),OU nf m.length m[i].v
theorem OU.more{e n c:Nat}{v:Vl}(h:OU e n v)(i:n<=c):OU e c v:=by
 rcases h with h|h|⟨f,g⟩
 .exact .inl h
 .exact .inr (.inl h)
 .exact .inr (.inr ⟨f,Z⟩)
theorem TC.more{n c i:Nat}{t:Tg}(h:TC n i t)(l:n<=c):TC c i t:=by
 rcases h with h|⟨e,f,g,j,k⟩
 .exact .inl h
 .exact .inr ⟨e,f,g,j,Z⟩
theorem ZO(c n:Nat):OU c n Tu:=.inl ⟨rfl,rfl⟩
theorem Ya{m:List Cl}{i:Nat}(h:i<m.length):Ek m i=m[i]:=by unfold Ek;rw[gL h];rfl
theorem IR.at_{e:Nat}{m:List Cl}(h:IR e m){i:Nat}(c:i<m.length):TC m.length i (Ek m i).nm/\OU e m.length (Ek m i).v:=by rw[Ya c];exact⟨h.nm i c,h.vl i c⟩
theorem IR.set{g:Nat}{m:List Cl}(h:IR g m){c:Nat}{v:Vl}(j:OU g m.length v):IR g (m.set c ⟨(Ek m c).nm,v⟩):=by
 refine⟨fun i f=>?_,fun i f=>?_⟩
 .simp only[jL]at f⊢;rw[List.getElem_set];split
  .rename_i e;subst e;exact(h.at_ f).1
  .exact h.nm i f
 .simp only[jL]at f⊢;rw[List.getElem_set];split
  .exact j
  .exact h.vl i f
theorem IR.app{j:Nat}{m l:List Cl}(h:IR j m)(g:∀i (c:i<l.length),TC (m.length+l.length) (m.length+i) l[i].nm/\l[i].v=Tu):IR j (m++l):=by
 have e:(m++l).length=m.length+l.length:=gM;refine⟨fun i c=>?_,fun i c=>?_⟩
 .rw[e]at c⊢;rw[List.getElem_append];split
  .rename_i f;exact(h.nm i f).more Z
  .rename_i k;have:=(g (i-m.length) Z).1;rw[show m.length+(i-m.length)=i by omega]at this;exact this
 .rw[e]at c⊢;rw[List.getElem_append];split
  .rename_i f;exact(h.vl i f).more Z
  .rename_i k;rw[(g (i-m.length) Z).2];exact ZO _ _
structure bH(a:List ByteArray)(b:List Nat)(vs:List ByteArray)(s:VS):Prop where
 tg:s.kind≠0->s.kind≠10->s.tg.d9∈vs
 func:s.kind=4\/s.kind=7->s.sr.d9∈a
 many:s.kind=7->b[vx a s.sr.d9]?.getD 0=s.args.length
 sr:s.kind=2\/s.kind=3\/s.kind=5\/s.kind=6\/s.kind=8\/s.kind=9\/s.kind=10->s.sr.d9∈vs
 args:s.kind=7\/s.kind=8->∀t,t∈s.args->t.d9∈vs
 field:s.kind=3->s.field<=3
mutual
def bG(a:List ByteArray)(b:List Nat)(vs:List ByteArray):TS->Prop
 |.mk s []=>s.kind<=10/\bH a b vs s
 |.mk s [(_,ts)]=>(s.kind=11\/s.kind=12)/\XT a b vs ts
 |.mk s [(_,ts),(_,ts2)]=>s.kind=11/\XT a b vs ts/\XT a b vs ts2
 |.mk _ (_::_::_::_)=>False
def XT(a:List ByteArray)(b:List Nat)(vs:List ByteArray):List TS->Prop
 |[]=>True
 |t::ts=>bG a b vs t/\XT a b vs ts
end
structure XOk(a:List ByteArray)(b:List Nat)(X:List XF):Prop where
 len:X.length=a.length
 us:∀f,XT a b (CC X f).t8 (CC X f).cF
 cR:∀f,(CC X f).t8.length<=12
 pm:∀f,(CC X f).u9<=(CC X f).t8.length
 dX:∀f,f<X.length->b[f]?.getD 0=(CC X f).u9
 pl:∀f,(CC X f).pl+nL 1 (CC X f).cF<=4000
 ca:∀f,(CC X f).ca+nL 8 (CC X f).cF<=4000
structure Zf(K nf:Nat)(S:RS):Prop where
 m:IR nf S.c.cU
 ml:S.c.cU.length+20*S.left<=K
 pl:S.c.fK.length+S.c.dT.length+20*S.left<=K
 gv:OU nf S.c.cU.length S.eB
structure YU(K nf:Nat)(S S':RS):Prop where
 inv:Zf K nf S'
 lo:S.c.cU.length<=S'.c.cU.length
 left:S'.left<=S.left
theorem Io{l:List ByteArray}{s:ByteArray}(h:s∈l):vx l s<l.length/\Bz l s 0=(vx l s:Int):=by have c:=CR l s 0;have e:=c.1.2 h;unfold vx;omega
def bC(a:List ByteArray)(b:List Nat)(X:List XF)(F:Nat):Prop:=∀(K c f:Nat) (e:List TS) (g h:Nat) (S:RS),
 Zf K a.length S->S.left<F->f+(CC X c).t8.length<=S.c.cU.length->XT a b (CC X c).t8 e->g+nL 1 e<=4000->YU K a.length S (Kv X a F c f e g h S).2
section
variable{a:List ByteArray}{b:List Nat}{X:List XF}(d:XOk a b X)
include d
omit d in
theorem Ub{F K f base k ca:Nat}{g:List TS}(p:bC a b X F)(m:XT a b (CC X f).t8 g)(o:k+nL 1 g<=4000):∀(n:Nat) (S:RS),Zf K a.length S->S.left<F->base+(CC X f).t8.length<=S.c.cU.length->YU K a.length S (Kj (Kv X a F f base g k ca) n S).2
 |0,S,h,_,_=>⟨h,gI _,gI _⟩
 |n+1,S,h,t,s=>by
  unfold Kj;simp only;split
  .exact⟨⟨h.m,h.ml,h.pl,h.gv⟩,gI _,gI _⟩
  .have I:=p K f base g k ca {S with c:={S.c with ch:=(Rd S.c.ch).2}} ⟨h.m,h.ml,h.pl,h.gv⟩ t s m o;generalize Kv X a F f base g k ca {S with c:={S.c with ch:=(Rd S.c.ch).2}}=r at I⊢;obtain⟨e,i,j⟩:=I;simp only at i j;split
   .exact⟨e,i,j⟩
   .split
    .exact⟨⟨e.m,e.ml,e.pl,e.gv⟩,i,j⟩
    .have u:=e.ml;have v:=e.pl;have l:=Ub (K:=K) (base:=base) (ca:=ca) p m o n r.2.one ⟨e.m,by simp only[RS.one];omega,by simp only[RS.one];omega,e.gv⟩ (by simp only[RS.one];omega) (by simp only[RS.one];omega);have q:r.2.one.left<=r.2.left:=Nat.sub_le _ _;exact⟨l.inv,gW i l.lo,gW l.left (gW q j)⟩
end
abbrev Xk:ByteArray:=⟨#[48,49,50,51,52,53,54,55,56,57]⟩
theorem Tn:∀n:Nat,n<10->(Xk.extract n (n+1)).data.toList=[UInt8.ofNat (48+n)]:=by decide+kernel
theorem GK{s:ByteArray}{l:List UInt8}(h:s.data.toList=l):s=⟨l.toArray⟩:=by subst h;cases s;simp
theorem Ja:∀n:Nat,(Lib.decDigits n).length<=n+1:=by
 intro n;induction n using Nat.strongRecOn with
 |ind n a=>
  rw[Lib.decDigits];split
  .simp
  .have:=a (n / 10) Z;simp only[gM,iC];omega
theorem UX(r:Nat)(h:r<10)(a:World):(Instr.sliceAt 9 (.string Xk) (some (.int .i64 (r:Int))) (some (.int .i64 ((r:Int)+1))) none).run prog a=.ok (.string (Xk.extract r (r+1))) a:=by have e:r=0\/r=1\/r=2\/r=3\/r=4\/r=5\/r=6\/r=7\/r=8\/r=9:=Z;rcases e with rfl|rfl|rfl|rfl|rfl|rfl|rfl|rfl|rfl|rfl<;>(show _=_)<;>kernel_rfl
theorem GW:∀(n:Nat),n<=100000->∀(w:World),Calls prog 23 #[.int .i64 n] w fun e t=>e=.returned (.string ⟨(Lib.decDigits n).toArray⟩)/\∃m,t=w.drewN m:=by
 intro n;induction n using Nat.strongRecOn with
 |ind n g=>
  intro v w;by_cases h:n<10
  .have k:decide ((n:Int)<10)=true:=jX;have c:D (Xk.extract n (n+1)=⟨(Lib.decDigits n).toArray⟩):=GK (by rw[Tn n h,Lib.decDigits_one h]);clear g;go_enter func23,ntmps23;go_wp2;go_ret;exact⟨congrArg (fun s=>Ending.returned (Value.string s)) c.o,0,rfl⟩
  .have k:decide ((n:Int)<10)=false:=jX;obtain⟨L,d⟩:∃L,Lib.decDigits (n / 10)=L:=⟨_,rfl⟩;have l:=Ja (n / 10);have a:=g (n / 10) Z Z;rw[d]at l a;have a:=J a;obtain⟨r,i⟩:∃r,n % 10=r:=⟨_,rfl⟩;have j:r<10:=Z;have o:=UX r j;obtain⟨x,f⟩:∃x,Xk.extract r (r+1)=x:=⟨_,rfl⟩;have b:=Tn r j;have A:x.size=1:=by
    have:x.data.toList.length=1:=by rw[<-f,b];rfl
    simpa using this
   rw[f]at b o;have c:D ((⟨L.toArray⟩:ByteArray)++x=⟨(Lib.decDigits n).toArray⟩):=GK (by
    have e:Lib.decDigits n=Lib.decDigits (n / 10)++[UInt8.ofNat (48+n % 10)]:=by conv=>lhs;rw[Lib.decDigits,dif_neg h]
    rw[e,i,d];simp only[ByteArray.data_append,Array.toList_append,b])
   have p:D ((n:Int) / 10=((n / 10:Nat):Int)):=by show _=_;omega
   have q:D (IntKind.i64.wrap ((n:Int) / 10)=((n / 10:Nat):Int)):=by show _=_;rw[IntKind.wrap_i64];omega
   have z:(n:Int).tmod 10=(r:Int):=by rw[Int.tmod_eq_emod_of_nonneg Z];omega
   have y:IntKind.i64.wrap ((r:Int)+1)=(r:Int)+1:=by rw[IntKind.wrap_i64];omega
   have u:¬9223372036854775807<L.length+1:=Z;clear g i d f b;go_enter func23,ntmps23;go_wp2;go_quiet((go_at_call 23;(first|rw[q.o]|rw[p.o]);exact Calls.quiet_of (a.o _)));go_wp2;go_ret;exact⟨congrArg (fun s=>Ending.returned (Value.string s)) c.o,nq,rfl⟩
def GC(a b:ByteArray):Bool:=decide (a.data.toList<b.data.toList)
def Df:List ByteArray->ByteArray->List ByteArray
 |[],s=>[s]
 |a::l,s=>if GC a s then a::Df l s else if a=s then a::l else s::a::l
theorem JH{P}(w){f j o a}{Q:Exit->Act->World->Prop}(p:o.guard=none)(s x t)
 (r:o.op=.call {callee:=.builtin .append,args:=#[s,x],argTypes:=#[t,t]})
 (k e i B)(d:P.underlying t=some (.slice e))(q:P.info? e=some i)(g b n C)(y:a.eval s=.slice (some ⟨g,0,none⟩) n b)(u:w.ownsRow k e B (.slice (some ⟨g,0,none⟩) n b) n C)
 (c)(A:a.eval x=.slice none 0 c)(h:wpList P f Q j (a.put o.dst (.slice (some ⟨g,0,none⟩) n b)) w):wpList P f Q (o::j) a w:=
 wpList_plain p fun K m=>by
  have I:n<=b:=by
   rcases u.2 with⟨l,_⟩|⟨G,E,F,z,_,_,H,_⟩
   .simp at l
   .simp only[Value.slice.injEq]at z;omega
  have v:=run_append_room_src (P:=P) w t t o.type e i d q g 0 n b (.slice none 0 c) 0 [] (Src.ofNil w d c) Z jY jY;unfold Oper.wp;simp[execOp,r,resolve,invoke,builtin,y,A,v,Result.andThen];exact m _ _ h
theorem Us{w:World}{B:Nat}{e:TypeId}{f:Nat}{v:Value}{n:Nat}{i:List Value}(h:w.ownsRow B e f v (n+1) i):∃g c,v=.slice (some ⟨g,0,none⟩) (n+1) c:=by
 rcases h.2 with⟨_,k⟩|⟨b,a,j,d,_⟩
 .omega
 .exact⟨b,a,d⟩
theorem Ol{w:World}{B:Nat}{e:TypeId}{d:Nat}{g l c n:Nat}{f:List Value}(h:w.ownsRow B e d (.slice (some ⟨g,0,none⟩) l c) n f):n<=c:=by
 rcases h.2 with⟨a,_⟩|⟨k,i,j,b,_,_,m,_⟩
 .simp at a
 .simp only[Value.slice.injEq]at b;omega
theorem QE{B w g n c l}(h:Au B w (.slice (some ⟨g,0,none⟩) n c) l)(k):∀j u,((l.drop k).map Value.string)[j]? =some u->w.cell? ((⟨g,k,none⟩:Addr).add j)=some u:=by
 intro j u a;have d:=Ag h;subst d;rw[iL,List.getElem?_drop]at a;have e:k+j<l.length:=by
  rcases iW (k+j) l.length with q|q
  .exact q
  .rw[iI q]at a;cases a
 have b:=h.cellAt (k+j) Z;rw[iL]at b;rw[Addr.add_lit,b];exact a
theorem Yg{l:List ByteArray}{s:ByteArray}{k:Nat}(h:k<l.length)(a:GC l[k] s=true):l.take k++Df (l.drop k) s=l.take (k+1)++Df (l.drop (k+1)) s:=by rw[gT h,Df,jH a,iN h,jK];rfl
theorem Yf{l:List ByteArray}{s:ByteArray}{k:Nat}(h:k<l.length)(b:GC l[k] s=false)(a:l[k]=s):Df (l.drop k) s=l.drop k:=by rw[gT h,Df,jG (by simp[b]),jH a]
theorem Yh{l:List ByteArray}{s:ByteArray}{k:Nat}(h:k<l.length)(b:GC l[k] s=false)(a:l[k]≠s):Df (l.drop k) s=s::l.drop k:=by rw[gT h,Df,jG (by simp[b]),jG a]
theorem LO(B v l s w)(h:Au B w v l)(hl:l.length<=1000000):
 Calls prog 70 #[v,.string s] w fun e w'=>∃n,e=.returned n/\Au w.heap.size w' n (Df l s)/\O kD w w':=by
 obtain⟨A,t,G,H,I⟩:=info_parts Tryz.infoStr;obtain⟨va,vl,Q,rfl⟩:=Ad h;have b4:=Ag h;subst b4;obtain⟨V,hV⟩:∃V,Df l s=V:=⟨_,rfl⟩;rw[hV];have HV:D (l.take 0++Df (l.drop 0) s=V):=hV;have HR:=J h;clear hV h;go_enter func70,ntmps70;go_wp2;go_loopw[5,6] (fun ov i wr=>∃k:Nat,k<=l.length/\i=.int .i64 k/\D (wr.ownsRow w.heap.size 9 1 ov k ((l.take k).map Value.string))/\D (O kD w wr)/\D (l.take k++Df (l.drop k) s=V)) (fun _ i _=>l.length-(intOf i).toNat)
 case atStart=>exact⟨0,Z,rfl,gR _ _ _ _,O.refl _ _,HV⟩
 case round=>
  obtain⟨k,hk,rfl,d,F,M⟩:=hrel;clear HV;have E:Au B wr (.slice va l.length Q) l:=Ac HR.o F.o (fun _ _ q=>q);by_cases a0:k<l.length
  .obtain⟨g,rfl⟩:=Ap E Z;have c:=E.cellAt k Z;rw[iL,gL a0]at c;simp only[Option.map_some]at c;have lg:=(E.lt g rfl).2;have b9:=(HR.o.lt g rfl).2;have a6:Op.bytesLess l[k].toList s.toList=GC l[k] s:=by unfold GC;rw[bytesLess_eq,Lib.toList_data,Lib.toList_data]
   cases L:GC l[k] s with
   |true=>
    rw[L]at a6;have p:=J ((Yg a0 L).symm.trans M.o);have b3:=J (iN a0);generalize l[k]=a at*;have l0:=F.o.size;clear M L;go_wp2_with(at_builtin;refine iQ _ rfl _ _ 51 rfl w.heap.size 9 A (.string ByteArray.empty) 1 16 underlying51 t G H I rfl T _ _ _ rfl (d.o.alloc _) ⟨wr.heap.size,0,none⟩ 1 1 [.string a] rfl rfl (cell_one_new _ _ _) (fun x b=>by simp at b;subst b;rfl) jZ Z jX ?_;intro n C z r a1);have a8:=J z;have b0:=J (O.grown (F.o.alloc _) r (fun j f=>.inr (d.o.lt j f).1));clear z r a1 d F;go_wp2;go_roundw
    case rel=>exact⟨k+1,Z,by go_num,by rw[b3.o,jP];exact a8,b0,p⟩
    case measure=>simp[intOf];omega
   |false=>
    rw[L]at a6;have b7:=Ol E;have b8:¬Q=k:=Z;have hz:=F.o.size;by_cases S:l[k]=s
    .have b1:(l[k].toList==s.toList)=true:=by rw[S];simp
     have p:D (l.take k++l.drop k=V):=by rw[<-Yf a0 L S];exact M.o
     have a3:=J E;generalize l[k]=a at*;clear M L S E;go_wp2_with(at_builtin;refine iQ _ rfl _ _ 51 rfl w.heap.size 9 A (.string ByteArray.empty) 1 16 underlying51 t G H I rfl T _ _ _ rfl d.o ⟨g,k,none⟩ (l.length-k) (Q-k) ((l.drop k).map Value.string) rfl jY (QE a3.o k) (fun x b=>by obtain⟨y,_,rfl⟩:=iT.1 b;rfl) jZ Z Z ?_;intro n C z r a1);go_wp2;go_ret;refine⟨n,rfl,?_,O.grown F.o r (fun j f=>.inr (d.o.lt j f).1)⟩;unfold Au;rw[<-p.o,jP];have e:(l.take k++l.drop k).length=k+(l.length-k):=jX;rw[e];exact z
    .have b1:(l[k].toList==s.toList)=false:=by
      cases hq:(l[k].toList==s.toList)with
      |false=>rfl
      |true=>exact jO (Ct (by simpa using hq)) S
     have p:D (l.take k++s::l.drop k=V):=by rw[<-Yh a0 L S];exact M.o
     have a3:=J E
     generalize l[k]=a at*
     clear M L S E
     have K:True:=trivial
     have a9:∀W',(wr.alloc (.cells #[.string s] 9)).grownBy W' u5.ownBlock->Au B W' (.slice (some ⟨g,0,none⟩) l.length Q) l:=fun W' hg=>Ac a3.o (X:=fun j=>u5.ownBlock=some j) (O.grown ((O.refl _ _).alloc _) hg (fun j f=>.inl f)) (fun j f q=>by simp[Value.ownBlock]at f;subst f;have:=(d.o.lt _ q).1;omega)
     go_wp2_with(first|(at_builtin;have _t:=K;refine iQ _ rfl _ _ 51 rfl w.heap.size 9 A (.string ByteArray.empty) 1 16 underlying51 t G H I rfl T _ _ _ rfl (d.o.alloc _) ⟨wr.heap.size,0,none⟩ 1 1 [.string s] rfl rfl (cell_one_new _ _ _) (fun x b=>by simp at b;subst b;rfl) jZ Z jX ?_;intro P N m o a4;clear K)|(at_builtin;refine iQ _ rfl _ _ 51 rfl w.heap.size 9 A (.string ByteArray.empty) 1 16 underlying51 t G H I rfl T _ _ _ rfl m ⟨g,k,none⟩ (l.length-k) (Q-k) ((l.drop k).map Value.string) rfl jY (QE (a9 _ o) k) (fun x b=>by obtain⟨y,_,rfl⟩:=iT.1 b;rfl) jZ Z (by have:=o.size;simp at this;omega) ?_;intro n C z r a1))
     go_wp2
     go_ret
     refine⟨n,rfl,?_,O.grown (O.grown (F.o.alloc _) o (fun j f=>.inr (d.o.lt j f).1)) r (fun j f=>.inr (m.lt j f).1)⟩
     unfold Au
     have e:V.length=k+1+(l.length-k):=by rw[<-p.o];simp;omega
     have e2:V.map Value.string=(l.take k).map Value.string++[.string s]++(l.drop k).map Value.string:=by rw[<-p.o];simp
     rw[e,e2]
     exact z
  .have e:k=l.length:=Z;subst e;have p:l++[s]=V:=by have:=M.o;simpa[Df]using this
   have p:=J p;have hz:=F.o.size;have d:wr.ownsRow w.heap.size 9 1 u5 l.length (l.map Value.string):=by have:=d.o;simpa using this
   have d:=J d;clear M;have K:True:=trivial;have a5:∀(n:Value) (N C:World) (P:Value),(wr.alloc (.cells #[.string s] 9)).grownBy N u5.ownBlock->N.ownsRow w.heap.size 9 1 P (l.length+1) (l.map Value.string++[.string s])->N.grownBy C P.ownBlock->C.ownsRow w.heap.size 9 1 n (l.length+1) (l.map Value.string++[.string s])->Au w.heap.size C n V/\O kD w C:=by intro n N C P h1 R h3 h4;refine⟨?_,O.grown (O.grown (F.o.alloc _) h1 (fun j f=>.inr (d.o.lt j f).1)) h3 (fun j f=>.inr (R.lt j f).1)⟩;unfold Au;rw[<-p.o];simpa using h4
   have a2:=J a5;clear a5;rcases E.2 with⟨R,h0⟩|⟨g,b5,b6,a7,_⟩
   .simp only[Value.slice.injEq]at R;obtain⟨rfl,R,rfl⟩:=R;have b2:l=[]:=List.eq_nil_of_length_eq_zero R;subst b2;simp only[gZ,List.map_nil,jE,iO]at a2 d p⊢;go_wp2_with(first|(at_builtin;have _t:=K;refine iQ _ rfl _ _ 51 rfl w.heap.size 9 A (.string ByteArray.empty) 1 16 underlying51 t G H I rfl T _ _ _ rfl (d.o.alloc _) ⟨wr.heap.size,0,none⟩ 1 1 [.string s] rfl rfl (cell_one_new _ _ _) (fun x b=>by simp at b;subst b;rfl) jZ Z jX ?_;intro P N m o a4;clear K)|(at_builtin;obtain⟨g2,c2,rfl⟩:=Us m;refine JH _ rfl _ _ 51 rfl w.heap.size 9 A 1 underlying51 t g2 c2 1 _ rfl m 0 rfl ?_));go_wp2;go_ret;obtain⟨U,Y⟩:=a2.o _ _ _ _ o m (World.grownBy.refl _ _) m;exact⟨_,rfl,U,Y⟩
   .simp only[Value.slice.injEq]at a7;obtain⟨rfl,_,rfl⟩:=a7;by_cases hc:Q=l.length
    .subst hc;go_wp2_with(first|(at_builtin;have _t:=K;refine iQ _ rfl _ _ 51 rfl w.heap.size 9 A (.string ByteArray.empty) 1 16 underlying51 t G H I rfl T _ _ _ rfl (d.o.alloc _) ⟨wr.heap.size,0,none⟩ 1 1 [.string s] rfl rfl (cell_one_new _ _ _) (fun x b=>by simp at b;subst b;rfl) jZ Z jX ?_;intro P N m o a4;clear K)|(at_builtin;refine iQ _ rfl _ _ 51 rfl w.heap.size 9 A (.string ByteArray.empty) 1 16 underlying51 t G H I rfl T _ _ _ rfl m ⟨g,0,none⟩ 0 0 [] rfl rfl (fun j u hu=>by simp at hu) (fun x b=>by simp at b) jZ Z (by have:=o.size;simp at this;omega) ?_;intro n C z r a1));go_wp2;go_ret;obtain⟨U,Y⟩:=a2.o _ _ _ _ o m r (by simpa using z);exact⟨_,rfl,U,Y⟩
    .go_wp2_with(first|(at_builtin;have _t:=K;refine iQ _ rfl _ _ 51 rfl w.heap.size 9 A (.string ByteArray.empty) 1 16 underlying51 t G H I rfl T _ _ _ rfl (d.o.alloc _) ⟨wr.heap.size,0,none⟩ 1 1 [.string s] rfl rfl (cell_one_new _ _ _) (fun x b=>by simp at b;subst b;rfl) jZ Z jX ?_;intro P N m o a4;clear K)|(at_builtin;refine iQ _ rfl _ _ 51 rfl w.heap.size 9 A (.string ByteArray.empty) 1 16 underlying51 t G H I rfl T _ _ _ rfl m ⟨g,l.length,none⟩ 0 (Q-l.length) [] rfl rfl (fun j u hu=>by simp at hu) (fun x b=>by simp at b) jZ Z (by have:=o.size;simp at this;omega) ?_;intro n C z r a1));go_wp2;go_ret;obtain⟨U,Y⟩:=a2.o _ _ _ _ o m r (by simpa using z);exact⟨_,rfl,U,Y⟩
def VU(a:List ByteArray)(i:Nat):ByteArray:=a[i]?.getD ByteArray.empty
def aU(X:List XF)(f i:Nat):ByteArray:=(CC X f).t8[i]?.getD ByteArray.empty
theorem Hm{a b c}(h:GC a b=true)(k:GC b c=true):GC a c=true:=by unfold GC at*;simp only[jD]at*;exact List.lt_trans h k
theorem Fe(a):GC a a=false:=by unfold GC;simp only[decide_eq_false_iff_not];exact List.lt_irrefl _
theorem Nn{a b}(h:GC a b=false)(c:a≠b):GC b a=true:=by
 unfold GC at*;simp only[jD,decide_eq_false_iff_not]at*;rcases List.le_iff_lt_or_eq.1 (List.not_lt.1 h)with q|q
 .exact q
 .exact jO (ByteArray.ext (Array.toList_inj.1 q.symm)) c
theorem Ew(s x:ByteArray):∀l:List ByteArray,x∈Df l s↔x=s\/x∈l
 |[]=>by simp[Df]
 |a::l=>by
  rw[Df];split
  .rw[iZ,Ew s x l,iZ];constructor
   .rintro(h|h|h)
    .exact .inr (.inl h)
    .exact .inl h
    .exact .inr (.inr h)
   .rintro(h|h|h)
    .exact .inr (.inl h)
    .exact .inl h
    .exact .inr (.inr h)
  .split
   .rename_i h;subst h;constructor
    .exact .inr
    .rintro(h|h)
     .rw[h];exact jF ..
     .exact h
   .exact iZ
theorem PJ(s:ByteArray):∀l:List ByteArray,(Df l s).length<=l.length+1
 |[]=>by simp[Df]
 |a::l=>by
  rw[Df];have:=PJ s l;split
  .simp only[gK];omega
  .split<;>simp only[gK]<;>omega
theorem FE(s:ByteArray):∀l:List ByteArray,l.Pairwise (fun a b=>GC a b=true)->(Df l s).Pairwise (fun a b=>GC a b=true)
 |[],_=>by simp[Df]
 |a::l,h=>by
  obtain⟨e,g⟩:=List.pairwise_cons.1 h;rw[Df];split
  .rename_i d;refine List.pairwise_cons.2 ⟨fun b c=>?_,FE s l g⟩;rcases(Ew s b l).1 c with q|q
   .rw[q];exact d
   .exact e b q
  .rename_i d;split
   .exact h
   .rename_i i;have f:=Nn (by simpa using d) i;refine List.pairwise_cons.2 ⟨fun b c=>?_,h⟩;rcases iZ.1 c with q|q
    .rw[q];exact f
    .exact Hm f (e b q)
structure OS(pb B:Nat)(U:Nat->Prop)(fv sv:Value)(rf:List RF)(fs:List FS)(pl ca:Nat)(w:World):Prop where
 pr:BZ pb fv sv pl ca w
 fn:Cp B w fv rf
 st:Bx B U w sv fs
structure Z5(fn:List ByteArray)(X:List XF)(rf:List RF):Prop where
 bX:rf.map (fun f=>f.name.d9)=fn
 cR:rf.length<=4001
 gB:∀i,(VU fn i).size<=4000
 gE:∀i j,(aU X i j).size<=4000
 t8:∀i (h:i<rf.length),rf[i].t8=(CC X i).t8
 gD:∀i,(CC X i).t8.length<=12
theorem Z5.eD{a X b}(h:Z5 a X b):a.length=b.length:=by rw[<-h.bX,iJ]
theorem Z5.name{b X a}(h:Z5 b X a){i}(c:i<a.length):a[i].name.d9=VU b i:=by unfold VU;rw[<-h.bX,iL,gL c];rfl
theorem OS.s9{e B f b}{U:Nat->Prop}{d j g c w k}(h:OS e B U d j g c f b w)(a:O kD w k):OS e B U d j g c f b k:=by obtain⟨l,r,o,p⟩:=h.st;exact⟨h.pr.bY.d8 a id,h.fn.s9 a,⟨l,Ac r a (fun _ _ q=>q),o,fun i m n=>(p i m n).d8 a (fun _ _ _ _ q=>q.elim)⟩⟩
structure RuS(fn:List ByteArray)(par:List Nat)(X:List XF)(rf:List RF)(fs:List FS):Prop where
 h:Z5 fn X rf
 x:XOk fn par X
 cJ:∀f (hf:f<rf.length),Tz fs f (CC X f).cF rf[f].cJ (CC X f).pl (CC X f).ca
 fY:∀f,f<rf.length->Dr (CC X f).cF<=4001
 cG:∀f (hf:f<rf.length),rf[f].cG.length=(CC X f).u9
 fP:fs.length<=4001

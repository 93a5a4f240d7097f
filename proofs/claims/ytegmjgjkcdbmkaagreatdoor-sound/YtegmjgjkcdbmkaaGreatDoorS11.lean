/- One of the texts of the proof: EqH EqI EqJ EqL EqM EqS. -/
import Derived.Test.YtegmjgjkcdbmkaaGreatDoorS10
namespace Go.Proofs.YtegmjgjkcdbmkaaGreatDoor
open Go.Maps
theorem CH.each{A}{R:Nat→Nat→A→Prop}{i j l}(h:CH R i j l):∀a,a∈l→∃p q,R p q a:=by
 induction h with
 | nil _=>intro a b;cases b
 | cons h _ c=>
   intro a b;rcases List.mem_cons.1 b with rfl | b
   ·exact ⟨_,_,h⟩
   ·exact c a b
theorem Hu{A}{R:Nat→Nat→A→Prop}{f:A→Nat}(k:∀i j a,R i j a→f a+i≤j){i j l}(h:CH R i j l):(l.map f).sum+i≤j:=by
 induction h with
 | nil h=>simpa using h
 | cons h _ b=>have:=k _ _ _ h;simp only [List.map_cons,List.sum_cons];omega
theorem BS.cV{n:List PT}:∀{d i j:Nat} {t:TS},BS n d i j t→DC d t+i≤j
 | 0,_,_,_,h=>h.elim
 | d+1,i,j,.mk s p,h=>by
   obtain ⟨u,v,o⟩:=h;have C:∀a b l,CH (BS n d) a b l→(l.map (DC d)).sum+a≤b:=fun a b l r=>Hu (fun _ _ _ q=>q.cV) r
   rw [DC];rcases o with ⟨rfl,_⟩ | ⟨k,l,m,rfl,_,c,e,f⟩ | ⟨k,l,m,w,y,x,rfl,_,c,e,f,g,h⟩
   ·simp;omega
   ·have:=C _ _ _ e;simp only [List.map_cons,List.map_nil,List.sum_cons,List.sum_nil];omega
   ·have:=C _ _ _ e;have:=C _ _ _ g;simp only [List.map_cons,List.map_nil,List.sum_cons,List.sum_nil];omega
theorem BS.tok{u:List PT}(x:u.length≤4001):∀{d i j:Nat} {t:TS},BS u d i j t→Na d t
 | 0,_,_,_,h=>h.elim
 | d+1,i,j,.mk s A,h=>by
   obtain ⟨B,D,v⟩:=h;have V:∀k,Y5 (Dh k):=fun k=>⟨rR _,rR _,rR _,by simp [Dh],rR _⟩
   have C:∀a b l,b<j→CH (BS u d) (a+1) b l→l.length≤4000∧∀t,t∈l→Na d t:=fun a b l E r=> ⟨by have:=r.le (fun _ _ _ q=>q.lt);omega,fun t y=>by obtain ⟨p,q,w⟩:=r.each t y;exact w.tok x⟩
   rcases v with ⟨rfl,F,z,_⟩ | ⟨k,l,m,rfl,n,c,e,f⟩ | ⟨k,l,m,G,I,H,rfl,n,c,e,f,g,h⟩
   ·exact ⟨z,by omega,by simp,by simp⟩
   ·refine ⟨by rcases n with rfl | rfl<;>exact V _,by rcases n with rfl | rfl<;>decide,by simp,fun q o=>?_⟩;rw [List.mem_singleton.1 o];exact C _ _ _ (by omega) e
   ·have:=g.le (fun _ _ _ q=>q.lt);refine ⟨by subst n;exact V _,by subst n;decide,by simp,fun q o=>?_⟩;simp only [List.mem_cons,List.not_mem_nil,or_false] at o;rcases o with rfl | rfl
    ·exact C _ _ _ (by omega) e
    ·exact C _ _ _ (by omega) g
theorem BS.cS{l:List PT}:∀{e i j:Nat} {t:TS} {d:Nat} {U:Nat→Prop} {w:World} {c:List Value},BS l e i j t→BD d U w t c→BD e U w t c
 | 0,_,_,_,_,_,_,_,h,_=>h.elim
 | e+1,i,j,.mk s a,0,U,w,c,_,h=>h.elim
 | e+1,i,j,.mk s a,d+1,U,w,c,L,h=>by
   obtain ⟨n,u,o,E,F,G,H,I,J,K⟩:=h;refine ⟨n,u,o,E,F,G,H,I,J,fun k b N=>?_⟩;obtain ⟨R,v,x,y,z,A,B⟩:=K k b N;refine ⟨R,v,x,y,z,A,fun m C D=>?_⟩;have g:a[k].2[m]∈a[k].2:=rQ _;obtain ⟨p,q,M⟩:∃p q,BS l e p q a[k].2[m]:=by
    obtain ⟨_,_,T⟩:=L;rcases T with ⟨rfl,_⟩ | ⟨O,S,P,rfl,_,_,r,_⟩ | ⟨O,S,P,V,X,W,rfl,_,_,r,_,Q,_⟩
    ·simp at b
    ·have f:k=0:=by simp at b;omega
     subst f;exact r.each _ g
    ·have f:k=0∨k=1:=by simp at b;omega
     rcases f with rfl | rfl
     ·exact r.each _ g
     ·exact Q.each _ g
   exact M.cS (B m C D)
theorem BS.flat{E:List PT}{D:Nat}:∀{e i j:Nat} {t:TS} {d:Nat} {o:List FS} {k:Nat},BS E e i j t→Dc D d o k t→Dc D e o k t
 | 0,_,_,_,_,_,_,h,_=>h.elim
 | e+1,i,j,.mk s G,0,o,k,_,h=>h.elim
 | e+1,i,j,.mk s G,d+1,o,k,K,h=>by
   obtain ⟨u,J,h⟩:=h;refine ⟨u,J,?_⟩;have C:∀p c,(p,c)∈G→∀t,t∈c→∃a b,BS E e a b t:=by
    intro p c g t n;obtain ⟨_,_,S⟩:=K;rcases S with ⟨rfl,_⟩ | ⟨O,R,P,rfl,_,_,r,_⟩ | ⟨O,R,P,T,F,U,rfl,_,_,r,_,Q,_⟩
    ·cases g
    ·simp only [List.mem_cons,List.not_mem_nil,or_false,Prod.mk.injEq] at g;rw [g.2] at n;exact r.each t n
    ·simp only [List.mem_cons,List.not_mem_nil,or_false,Prod.mk.injEq] at g;rcases g with g | g
     ·rw [g.2] at n;exact r.each t n
     ·rw [g.2] at n;exact Q.each t n
   have M:∀(l:List Nat) (m:List TS),(∀t,t∈m→∃a b,BS E e a b t)→CG (fun j t=>k<j∧Dc D d o j t) l m→CG (fun j t=>k<j∧Dc D e o j t) l m:=by
    intro l m H q;induction q with
    | nil=>exact .nil
    | cons h _ N=> obtain ⟨a,b,L⟩:=H _ (List.mem_cons_self ..);exact .cons ⟨h.1,L.flat h.2⟩ (N (fun t n=>H t (rT _ n)))
   rcases h with h | ⟨p,c,f,v,w,x,y,z,A,B⟩ | ⟨p,c,f,v,w,x,y,z,A,B⟩ | ⟨p,c,I,F,f,v,w,x,y,z,A,B⟩
   ·exact .inl h
   ·exact .inr (.inl ⟨p,c,f,v,w,x,y,z,A,M _ _ (C p c (by rw [f];simp)) B⟩)
   ·exact .inr (.inr (.inl ⟨p,c,f,v,w,x,y,z,A,M _ _ (C p c (by rw [f];simp)) B⟩))
   ·exact .inr (.inr (.inr ⟨p,c,I,F,f,v,w,x,y,z,M _ _ (C p c (by rw [f];simp)) A,M _ _ (C I F (by rw [f];simp)) B⟩))
structure Lk(F:DataW Unit)(fns:List TF)(fns0:List RF):Prop where
 nm:∀s,has F (Ba s)=true↔0≤CE (fns0.map fun f=>f.name.a9) s 0
 ar:∀s,0≤CE (fns0.map fun f=>f.name.a9) s 0→Iv fns (BI F s)=((fns0.map fun f=>f.aZ.length)[(CE (fns0.map fun f=>f.name.a9) s 0).toNat]?).getD 0
def Dk(lo:Nat)(D:DataW Unit)(c:CS)(vs:List ByteArray)(a:CS):Prop:=
 c=a∧((c.aR=0∧Tidy D∧(∀s,has D (Ba s)=true↔s∈vs)∧size D=vs.length)∨(c.aR≠0∧c.c9<lo))
theorem Dk.mono{b d D c e a}(h:Dk b D c e a)(f:b≤d):Dk d D c e a:=
 ⟨h.1,h.2.imp id (fun q=>⟨q.1,by omega⟩)⟩
theorem Dk.bV{lo p e D c vs f}(h:Dk lo D c vs f)(l:lo≤p)(i:e≠0)(g j):Dk (p+1) g (BA e p c) j (C7 e p f):=by
 obtain ⟨rfl,h⟩:=h;rcases h with ⟨d,_⟩ | ⟨d,k⟩
 ·have a:BA e p c=⟨e,p⟩:=by simp [BA,d]
  have b:C7 e p c=⟨e,p⟩:=by simp [C7,d]
  rw [a,b];exact ⟨rfl,.inr ⟨i,by simp⟩⟩
 ·have a:BA e p c=c:=by simp [BA,d]
  have b:C7 e p c=c:=by unfold C7;rw [if_neg (by omega)]
  rw [a,b];exact ⟨rfl,.inr ⟨d,by omega⟩⟩
theorem Dk.aT{d p D c g a}(h:Dk d D c g a)(j:d≤p)(b:c.aR≠0)(e):BA e p c=c∧C7 e p a=c:=by
 obtain ⟨rfl,h⟩:=h;rcases h with ⟨f,_⟩ | ⟨_,i⟩
 ·exact absurd f b
 ·exact ⟨by simp [BA,b],by unfold C7;rw [if_neg (by omega)]⟩
theorem Dk.name{l D c a f}(h:Dk l D c a f)(t)(k:l≤t.c9):Dk (t.c9+1) D (B6 D t c) a (FH a (Ai t) f):=by
 by_cases g:c.aR=0
 ·rcases h.2 with ⟨_,_,j,_⟩ | ⟨q,_⟩
  ·have i:=(Db a t.a9 0).1;unfold B6 FH;have e:(Ai t).a9=t.a9:=rfl;rw [e];by_cases d:has D (Ba t.a9)=true
   ·rw [if_pos d,if_pos (i.2 ((j _).1 d))];exact h.mono (by omega)
   ·rw [if_neg d,if_neg (fun q=>d ((j _).2 (i.1 q)))];exact h.bV k (by decide) _ _
  ·exact absurd g q
 ·have b:=h.aT k g 6;have m:B6 D t c=c:=by unfold B6;split;rfl;exact b.1
  have n:FH a (Ai t) f=c:=by unfold FH;split;exact h.1.symm;exact b.2
  rw [m,n];rcases h.2 with ⟨q,_⟩ | q
  ·exact absurd q g
  ·exact ⟨rfl,.inr ⟨q.1,by omega⟩⟩
theorem Dk.decl{j D c b k}(h:Dk j D c b k)(t)(n:j≤t.c9):Dk (t.c9+1) (GJ D t) (El D t c) (b++[t.a9]) (EU b (Ai t) k):=by
 by_cases a:c.aR=0
 ·obtain ⟨rfl,l⟩:=h;rcases l with ⟨_,i,g,o⟩ | ⟨q,_⟩
  ·have u:=(Db b t.a9 0).1;unfold El EU;simp only;rw [o];have e:(Ai t).a9=t.a9:=rfl;have z:(Ai t).pos=t.c9:=rfl;rw [e,z];by_cases f:12≤b.length
   ·have v:BA 4 t.c9 c=⟨4,t.c9⟩:=by simp [BA,a]
    have w:C7 4 t.c9 c=⟨4,t.c9⟩:=by simp [C7,a]
    rw [if_pos f,if_pos f,v,w];have x:BA 5 t.c9 ⟨4,t.c9⟩=⟨4,t.c9⟩:=by simp [BA]
    have y:C7 5 t.c9 ⟨4,t.c9⟩=⟨4,t.c9⟩:=by simp [C7]
    rw [x,y];refine ⟨?_,.inr ?_⟩
    ·simp
    ·simp
   ·rw [if_neg f,if_neg f];by_cases d:has D (Ba t.a9)=true
    ·rw [if_pos d,if_pos (u.2 ((g _).1 d))];exact Dk.bV (lo:=j) (D:=D) (vs:=b) ⟨rfl,.inl ⟨a,i,g,o⟩⟩ n (by decide) _ _
    ·rw [if_neg d,if_neg (fun q=>d ((g _).2 (u.1 q)))];refine ⟨rfl,.inl ⟨a,i.put (E8 _) _,fun s=>?_,?_⟩⟩
     ·unfold GJ;by_cases m:Ba s=Ba t.a9
      ·have:=Ij m;subst this;rw [has_put_same i.isMap (E8 _)];simp
      ·rw [has_put_other m,g s];have:s≠t.a9:=fun q=>m (by rw [q])
       simp [this]
     ·unfold GJ;rw [size_put i,if_neg d,o];simp
  ·exact absurd a q
 ·have p:=h.aT n a 4;have r:=h.aT n a 5;have A:El D t c=c:=by unfold El;simp only;split<;>split<;>simp [p.1,r.1]
  have l:EU b (Ai t) k=c:=by have e:=h.1;subst e;unfold EU;simp only [show (Ai t).pos=t.c9 from rfl];split<;>split<;>simp [p.2,r.2]
  rw [A,l];rcases h.2 with ⟨q,_⟩ | q
  ·exact absurd q a
  ·exact ⟨rfl,.inr ⟨q.1,by omega⟩⟩
theorem Dk.fun{F:DataW Unit}{i:List TF}{d:List RF}(L:Lk F i d){f:Nat}{D:DataW Unit}{c:CS}{g:List ByteArray}{b:CS}(h:Dk f D c g b)(t:PT)(j:f≤t.c9):Dk (t.c9+1) D (B6 F t c) g (JT d (Ai t) (-1) b):=by
 have e:=L.nm t.a9;unfold B6 JT;rw [show (Ai t).a9=t.a9 from rfl,show (Ai t).pos=t.c9 from rfl];by_cases a:has F (Ba t.a9)=true
 ·rw [if_pos a,if_pos (e.1 a),if_neg (by omega)];exact h.mono (by omega)
 ·rw [if_neg a,if_neg (fun q=>a (e.2 q))];exact h.bV j (by decide) _ _
theorem Dk.called{F:DataW Unit}{i:List TF}{d:List RF}(L:Lk F i d){l:Nat}{D:DataW Unit}{c:CS}{m:List ByteArray}{g:CS}(h:Dk l D c m g)(t:PT)(a:Nat)(k:l≤t.c9):Dk (t.c9+1) D (DH F i t a c) m (JT d (Ai t) a g):=by
 have e:=L.nm t.a9;unfold DH JT;rw [show (Ai t).a9=t.a9 from rfl,show (Ai t).pos=t.c9 from rfl];by_cases b:has F (Ba t.a9)=true
 ·rw [if_pos b,if_pos (e.1 b),L.ar _ (e.1 b)];by_cases j:((d.map fun f=>f.aZ.length)[(CE (d.map fun f=>f.name.a9) t.a9 0).toNat]?).getD 0=a
  ·rw [if_pos j,if_neg (by omega)];exact h.mono (by omega)
  ·rw [if_neg j,if_pos ⟨by omega,by omega⟩];exact h.bV k (by decide) _ _
 ·rw [if_neg b,if_neg (fun q=>b (e.2 q))];exact h.bV k (by decide) _ _
section
variable {N : Nat} {f : List PT} (H : TksOk N f)
include H
theorem Od{p q:Nat}(h:p<q)(a:q<f.length):(Ag f p).c9<(Ag f q).c9:=by have:=List.pairwise_iff_getElem.1 H.bZ p q (by omega) a h;unfold Ag;rw [rU (by omega),rU a];exact this
theorem CK{p q:Nat}(h:p≤q)(a:q<f.length):(Ag f p).c9≤(Ag f q).c9:=by
 rcases Nat.lt_or_ge p q with l | l
 ·exact Nat.le_of_lt (Od H l a)
 ·have:p=q:=by omega
  rw [this];exact rN _
theorem Dk.to{i p j:Nat}{D a:DataW Unit}{c b:CS}{l m:List ByteArray}{d e:CS}(h:Dk (Ag f i).c9 D c l d)(r:∀k,Dk k D c l d→k≤(Ag f p).c9→Dk ((Ag f p).c9+1) a b m e)(o:i≤p)(s:p+1≤j)(q:j<f.length):Dk (Ag f j).c9 a b m e:=
 (r _ h (CK H o (by omega))).mono (Od H (by omega) q)
theorem Dk.args{D:DataW Unit}{k:List ByteArray}:∀(b:List Nat) {i j:Nat} {c d:CS},Dk (Ag f i).c9 D c k d→Lp i j b→j<f.length→Dk (Ag f j).c9 D (EJ D (b.map (Ag f)) c) k (((b.map (Ag f)).map Ai).foldl (fun c t=>FH k t c) d)
 | [],i,j,c,d,h,a,e=>h.mono (CK H a e)
 | p::b,i,j,c,d,h,a,e=>by have o:=a.2.le;have l:=h.to H (p:=p) (j:=p+1) (fun r q m=>q.name (Ag f p) m) a.1 (rN _) (by omega);exact Dk.args b l a.2 e
variable {F : DataW Unit} {n : List TF} {g : List RF} (L : Lk F n g)
include L
theorem Dk.plain{s:VS}{G:List Nat}{i j:Nat}(hk:s.kind≤10)(S:s.kind≠7→s.kind≠8→s.args=[])(o:Yd s=G.map (Ag f))(d:Lp i j G)(I:j<f.length){D:DataW Unit}{c:CS}{R:List ByteArray}{O:CS}(h:Dk (Ag f i).c9 D c R O):
 Dk (Ag f j).c9 (Er F n s (D,c)).1 (Er F n s (D,c)).2 (C3 g s (R,O)).1 (C3 g s (R,O)).2:=by
 obtain ⟨m,v,y,X,N⟩:=s;simp only at hk S o⊢;have U:∀t:PT,[t]=G.map (Ag f)→∃p,G=[p]∧t=Ag f p:=by
  intro t e;rcases G with _ | ⟨p,_ | ⟨q,r⟩⟩
  ·simp at e
  ·simp only [List.map_cons,List.map_nil,List.cons.injEq,and_true] at e;exact ⟨p,rfl,e⟩
  ·simp at e
 have V:∀(t u:PT) (l:List PT),t::u::l=G.map (Ag f)→∃p q r,G=p::q::r∧t=Ag f p∧u=Ag f q∧l=r.map (Ag f):=by
  intro t u l e;rcases G with _ | ⟨p,_ | ⟨q,r⟩⟩
  ·simp at e
  ·simp at e
  ·simp only [List.map_cons,List.cons.injEq] at e;exact ⟨p,q,r,rfl,e.1,e.2.1,e.2.2⟩
 unfold Yd at o;simp only at o;have W:∀(t u:PT),(m≠0∧m≠1∧m≠10∧m≠7∧m≠8)→∃p q,G=[p,q]∧v=Ag f p∧y=Ag f q:=by
  intro t u M;rw [if_neg (by omega),if_neg (by omega),if_neg (by omega)] at o;obtain ⟨p,q,r,B,C,E,K⟩:=V v y [] o;have:r=[]:=by cases r with | nil=>rfl | cons a b=>simp at K
  subst this;exact ⟨p,q,B,C,E⟩
 have P:(m≠0∧m≠1∧m≠10∧m≠7∧m≠8∧m≠4)→Dk (Ag f j).c9 D (B6 D y (B6 D v c)) (C3 g ⟨m,v,y,X,N⟩ (R,O)).1 (C3 g ⟨m,v,y,X,N⟩ (R,O)).2:=by intro M;obtain ⟨p,q,B,C,E⟩:=W v y ⟨M.1,M.2.1,M.2.2.1,M.2.2.2.1,M.2.2.2.2.1⟩;subst B;have T:=S (by omega) (by omega);subst T;have Y:=d.1;have Z:=d.2.1;have A:q+1≤j:=d.2.2;have x:=h.to H (p:=p) (j:=p+1) (fun w z k=>z.name (Ag f p) k) Y (rN _) (by omega);have J:=x.to H (p:=q) (j:=j) (fun w z k=>z.name (Ag f q) k) Z A I;unfold C3 Qq;simp only;rw [if_neg (by omega),if_neg (by omega),if_neg (by omega),if_neg (by omega),if_neg (by omega)];rw [C,E];exact J
 rcases m with _ | _ | _ | _ | _ | _ | _ | _ | _ | _ | _ | m
 ·obtain ⟨p,rfl,e⟩:=U v (by simpa using o);have A:p+1≤j:=d.2;simp only [Er,C3,if_true];rw [e];exact h.to H (p:=p) (fun w z k=>z.decl (Ag f p) k) d.1 A I
 ·obtain ⟨p,rfl,e⟩:=U v (by simpa using o);have A:p+1≤j:=d.2;simp only [Er,C3,Qq];rw [e];exact h.to H (p:=p) (fun w z k=>z.name (Ag f p) k) d.1 A I
 ·exact P (by omega)
 ·exact P (by omega)
 ·obtain ⟨p,q,B,C,E⟩:=W v y (by omega);subst B;have T:=S (by omega) (by omega);subst T;have A:q+1≤j:=d.2.2;have x:=h.to H (p:=p) (j:=p+1) (fun w z k=>z.name (Ag f p) k) d.1 (rN _) (by have:=d.2.1;omega);have J:=x.to H (p:=q) (j:=j) (fun w z k=>z.fun L (Ag f q) k) d.2.1 A I;simp only [Er,C3,Qq];rw [C,E];exact J
 ·exact P (by omega)
 ·exact P (by omega)
 ·rw [if_neg (by omega),if_neg (by omega),if_pos (by omega)] at o;obtain ⟨p,q,r,B,C,E,K⟩:=V v y N o;subst B;have hl:=d.2.2.le;have x:=h.to H (p:=p) (j:=p+1) (fun w z k=>z.name (Ag f p) k) d.1 (rN _) (by have:=d.2.1;omega);have J:=x.to H (p:=q) (j:=q+1) (fun w z k=>z.called L (Ag f q) N.length k) d.2.1 (rN _) (by omega);have Q:=Dk.args H r J d.2.2 I;simp only [Er,C3,Qq];rw [C,E,←K] at*;rw [←K] at Q;exact Q
 ·rw [if_neg (by omega),if_neg (by omega),if_pos (by omega)] at o;obtain ⟨p,q,r,B,C,E,K⟩:=V v y N o;subst B;have hl:=d.2.2.le;have x:=h.to H (p:=p) (j:=p+1) (fun w z k=>z.name (Ag f p) k) d.1 (rN _) (by have:=d.2.1;omega);have J:=x.to H (p:=q) (j:=q+1) (fun w z k=>z.name (Ag f q) k) d.2.1 (rN _) (by omega);have Q:=Dk.args H r J d.2.2 I;rw [←K,←C,←E] at Q;exact Q
 ·exact P (by omega)
 ·obtain ⟨p,rfl,e⟩:=U y (by simpa using o);have A:p+1≤j:=d.2;have x:=h.to H (p:=p) (fun w z k=>z.name (Ag f p) k) d.1 A I;rw [←e] at x;exact x
 ·omega
theorem Dk.stmt:∀{d i j:Nat} {t:TS},BS f d i j t→∀(c:Nat) (x:DataW Unit×CS) (y:List ByteArray×CS),Dk (Ag f i).c9 x.1 x.2 y.1 y.2→Dk (Ag f j).c9 (Kn F n d c t x).1 (Kn F n d c t x).2 (Hc g d c t y).1 (Hc g d c t y).2
 | 0,_,_,_,h=>h.elim
 | d+1,i,j,.mk s X,P=>by
   intro c x y h;obtain ⟨Y,B,M⟩:=P;have C:∀(a b:Nat) (l:List TS),b<f.length→CH (BS f d) a b l→∀(x:DataW Unit×CS) (y:List ByteArray×CS),Dk (Ag f a).c9 x.1 x.2 y.1 y.2→Dk (Ag f b).c9 (l.foldl (fun x t=>Kn F n d (c+1) t x) x).1 (l.foldl (fun x t=>Kn F n d (c+1) t x) x).2 (l.foldl (fun x t=>Hc g d (c+1) t x) y).1 (l.foldl (fun x t=>Hc g d (c+1) t x) y).2:=by
    intro a b l E r;induction r with
    | nil h=>intro x y e;exact e.mono (CK H h E)
    | cons h _ U=>intro x y e;exact U E _ _ (Dk.stmt h (c+1) x y e)
   have v:∀(k:Nat) (x:DataW Unit×CS) (y:List ByteArray×CS) (i:Nat),i≤k→k+1<f.length→Dk (Ag f i).c9 x.1 x.2 y.1 y.2→Dk (Ag f (k+1)).c9 x.1 (if 6<c+1 then BA 4 (Ag f k).c9 x.2 else x.2) y.1 (if 6<c+1 then C7 4 (Ag f k).c9 y.2 else y.2):=by
    intro k x y i Q u e;split
    ·exact e.to H (p:=k) (fun lo z D=>z.bV D (by decide) _ _) Q (rN _) u
    ·exact e.mono (CK H (by omega) u)
   rcases M with ⟨rfl,u,_,N,ps,D,O⟩ | ⟨k,l,m,rfl,e,R,r,T⟩ | ⟨k,l,m,G,W,V,rfl,e,R,r,T,I,a0⟩
   ·rw [Kn,Hc,if_neg (by omega),if_neg (by omega)];exact Dk.plain H L u N D O B h
   ·have S:=r.le (fun _ _ _ q=>q.lt);have o:s.kind=11∨s.kind=12:=by rcases e with rfl | rfl<;>simp [Dh]
    rw [Kn,Hc,if_pos o,if_pos o];simp only [List.foldl_cons,List.foldl_nil];have w:=v k x y i (by omega) (by omega) h;have A:=C (k+1) m l (by omega) r (x.1,if 6<c+1 then BA 4 (Ag f k).c9 x.2 else x.2) (y.1,if 6<c+1 then C7 4 (Ag f k).c9 y.2 else y.2) w;exact A.mono (CK H (by omega) B)
   ·have S:=r.le (fun _ _ _ q=>q.lt);have Z:=I.le (fun _ _ _ q=>q.lt);have o:s.kind=11∨s.kind=12:=by rw [e];simp [Dh]
    rw [Kn,Hc,if_pos o,if_pos o];simp only [List.foldl_cons,List.foldl_nil];have w:=v k x y i (by omega) (by omega) h;have A:=C (k+1) m l (by omega) r (x.1,if 6<c+1 then BA 4 (Ag f k).c9 x.2 else x.2) (y.1,if 6<c+1 then C7 4 (Ag f k).c9 y.2 else y.2) w;have J:=v G _ _ m (by omega) (by omega) A;have K:=C (G+1) V W (by omega) I (_,_) (_,_) J;exact K.mono (CK H (by omega) B)
end
structure Jn(a:List PT)(d i j:Nat)(t:TF):Prop where
 w:∃kn ps kb m,i≤kn∧t.name=Ag a kn∧t.i8=ps.map (Ag a)∧Lp (kn+1) kb ps∧t.c9=(Ag a kb).c9∧CH (BS a d) (kb+1) m t.v8∧m<j
 lt:i<j
 top:j<a.length
section
variable {N : Nat} {a : List PT} (H : TksOk N a) (e : DigOk a) (b : N ≤ 4000) (c : a.length ≤ 4001)
include H
include b c in
theorem Rh{x:PS}(m:x.next<a.length)(h:(Hh a a.length x).2.m8=false):x.m8=false∧Jn a (2*a.length+1) x.next (Hh a a.length x).2.next (Hh a a.length x).1:=by
 have T:=fun (k:Nat) (t:k≠0) {x:PS} (h:(Af a a.length k x).m8=false)=>Cu t h
 have d:=EY H.end_ m;have i:=Ah (n:=a.length) H.end_ 3 m;have j:=i.trans (Ah H.end_ 1 i.2);have l:=j.trans (DP H.end_ j.2);have s:=l.trans (Ah H.end_ 12 l.2);unfold Hh at h d⊢;simp only at h d⊢;have A:=T 13 (by decide) h;obtain ⟨y,E,p,f⟩:=(Sg H b c (2*a.length+1)).1 _ [] s.2 (by omega) A.1;have g:=T 12 (by decide) y;obtain ⟨u,w,v,o,D⟩:=G7 g.1;have r:=T 1 (by decide) u;have z:=T 3 (by decide) r.1;simp only [List.nil_append] at p;rw [g.2.1] at f;have B:=f.le (fun _ _ _ q=>q.lt);have C:=o.le;refine ⟨z.1,⟨⟨(Af a a.length 3 x).next,w,(A6 a a.length (Af a a.length 1 (Af a a.length 3 x))).2.next,_,by omega,r.2.2.1,v,?_,by simp only;rw [g.2.2.1],by rw [p];exact f,by omega⟩,by omega,d.2⟩⟩;exact o.left (by omega)
include e
end
theorem G4(s:ByteArray):∀(l:List TF) (k:Nat) (D:DataW Unit),IsMap D→(has (AW l k D) (Ba s)=true↔has D (Ba s)=true∨0≤CE (l.map fun t=>t.name.a9) s k)
 | [],k,D,_=>by simp [AW,CE]
 | t::l,k,D,c=>by
   rw [AW,List.map_cons,CE];have d:t.name.a9.toList=s.toList↔s=t.name.a9:=⟨fun h=>(Dd h).symm,fun h=>by rw [h]⟩;by_cases b:has D (Ba t.name.a9)=true
   ·rw [if_pos b,G4 s l (k+1) D c];by_cases a:s=t.name.a9
    ·subst a;rw [if_pos rfl];simp [b]
    ·rw [if_neg (fun q=>a (d.1 q))]
   ·rw [if_neg b,G4 s l (k+1) _ (c.put _ _)];by_cases a:s=t.name.a9
    ·subst a;rw [if_pos rfl,has_put_same c (E8 _)];simp
    ·rw [if_neg (fun q=>a (d.1 q)),has_put_other (fun q=>a (Ij q))]
theorem Gk(s:ByteArray)(z:DataW Unit):∀(l:List TF) (k:Nat) (D:DataW Unit),IsMap D→(has D (Ba s)=true→(AW l k D).atKey (Ba s) z=D.atKey (Ba s) z)∧(¬has D (Ba s)=true→0≤CE (l.map fun t=>t.name.a9) s k→(AW l k D).atKey (Ba s) z=.lit (.int .i64 (CE (l.map fun t=>t.name.a9) s k)))
 | [],k,D,_=>by simp [AW,CE]
 | t::l,k,D,g=>by
   rw [AW,List.map_cons,CE];have j:t.name.a9.toList=s.toList↔s=t.name.a9:=⟨fun h=>(Dd h).symm,fun h=>by rw [h]⟩;by_cases f:has D (Ba t.name.a9)=true
   ·rw [if_pos f];obtain ⟨a,b⟩:=Gk s z l (k+1) D g;refine ⟨a,fun c e=>?_⟩;by_cases d:s=t.name.a9
    ·subst d;exact absurd f c
    ·rw [if_neg (fun q=>d (j.1 q))] at e⊢;exact b c e
   ·rw [if_neg f];obtain ⟨a,b⟩:=Gk s z l (k+1) (D.put (Ba t.name.a9) (.lit (.int .i64 k))) (g.put _ _);by_cases d:s=t.name.a9
    ·subst d;rw [if_pos rfl];refine ⟨fun c=>absurd c f,fun _ _=>?_⟩;rw [a (has_put_same g (E8 _) _),atKey_put_same g (E8 _)]
    ·have i:Ba s≠Ba t.name.a9:=fun q=>d (Ij q)
     rw [if_neg (fun q=>d (j.1 q))];refine ⟨fun c=>?_,fun c e=>b (by rw [has_put_other i];exact c) e⟩;rw [a (by rw [has_put_other i];exact c),atKey_put_other i]
theorem Zs{u a}(b:a.map (fun f=>f.name.a9)=u.map (fun t=>t.name.a9))(g:a.map (fun f=>f.aZ.length)=u.map (fun t=>t.i8.length)):Lk (AW u 0 (.map [])) u a:=by
 have d:∀s,¬has (DataW.map []:DataW Unit) (Ba s)=true:=fun s=>by simp [has_eq]
 refine ⟨fun s=>?_,fun s c=>?_⟩
 ·rw [b,G4 s u 0 _ isMap_empty];exact ⟨fun q=>q.elim (fun z=>absurd z (d s)) id,.inr⟩
 ·rw [b] at c⊢;rw [g];have e:BI (AW u 0 (.map [])) s=(CE (u.map fun t=>t.name.a9) s 0).toNat:=by unfold BI;rw [(Gk s _ u 0 _ isMap_empty).2 (d s) c]
  rw [e];unfold Iv;rw [List.getElem?_map]
def Pk(b:Nat)(c a:CS):Prop:=c=a∧(c.aR=0∨c.c9<b)
theorem Dk.c{b D c d a}(h:Dk b D c d a):Pk b c a:=⟨h.1,h.2.imp (fun q=>q.1) (fun q=>q.2)⟩
theorem Pk.start{d c b}(h:Pk d c b):Dk d (.map []) c [] b:=by
 refine ⟨h.1,?_⟩;by_cases a:c.aR=0
 ·exact .inl ⟨a,tidy_empty,fun s=>by simp [has_eq],rfl⟩
 ·exact .inr ⟨a,h.2.resolve_left a⟩
section
variable {N : Nat} {o : List PT} (H : TksOk N o)
include H
theorem Dk.bX:∀(a:List Nat) {i j:Nat} {x:DataW Unit×CS} {y:List ByteArray×CS},Dk (Ag o i).c9 x.1 x.2 y.1 y.2→Lp i j a→j<o.length→Dk (Ag o j).c9 (RA (a.map (Ag o)) x).1 (RA (a.map (Ag o)) x).2 (Dt (a.map (Ag o)) y).1 (Dt (a.map (Ag o)) y).2
 | [],i,j,x,y,h,b,c=>h.mono (CK H b c)
 | p::a,i,j,x,y,h,b,c=>by have f:=b.2.le;have d:=h.to H (p:=p) (j:=p+1) (fun g q e=>q.decl (Ag o p) e) b.1 (rN _) (by omega);exact Dk.bX a (x:=(GJ x.1 (Ag o p),El x.1 (Ag o p) x.2)) (y:=(y.1++[(Ag o p).a9],EU y.1 (Ai (Ag o p)) y.2)) d b.2 c
variable {F : DataW Unit} {u : List TF} {v : List RF} (L : Lk F u v)
include L
theorem Dk.stmts{d dep:Nat}:∀{a b:Nat} {c:List TS},CH (BS o d) a b c→b<o.length→∀(x:DataW Unit×CS) (y:List ByteArray×CS),Dk (Ag o a).c9 x.1 x.2 y.1 y.2→Dk (Ag o b).c9 (c.foldl (fun x t=>Kn F u d dep t x) x).1 (c.foldl (fun x t=>Kn F u d dep t x) x).2 (Oz v d dep c y).1 (Oz v d dep c y).2:=by
 intro a b c r;induction r with
 | nil h=>intro e x y f;exact f.mono (CK H h e)
 | cons h _ g=>intro e x y f;exact g e _ _ (Dk.stmt H L h dep x y f)
theorem Xr{d i j idx:Nat}{t:TF}(g:Jn o d i j t)(P:BI F t.name.a9=idx↔CE (v.map fun f=>f.name.a9) t.name.a9 0=(idx:Int)){c r:CS}(h:Pk (Ag o i).c9 c r):Pk (Ag o j).c9 (PN F u d idx t c) (DZ v d idx t r).2:=by
 obtain ⟨l,S,X,m,K,M,N,C,T,D,U⟩:=g.w;have V:=C.le;have W:=D.le (fun _ _ _ q=>q.lt);have R:=g.top;have I:Dk (Ag o (l+1)).c9 (.map []) (if BI F t.name.a9=idx then (if 12≤idx then BA 4 t.name.c9 c else c) else BA 5 t.name.c9 (if 12≤idx then BA 4 t.name.c9 c else c)) [] (EK v idx t r):=by
  unfold EK;have O:(BI F t.name.a9=idx)=(CE (v.map fun f=>f.name.a9) t.name.a9 0=(idx:Int)):=propext P;simp only [O];refine h.start.to H (p:=l) (fun Y q k=>?_) K (rN _) (by omega);rw [M];by_cases b:12≤idx
  ·rw [if_pos b,if_pos b];have E:=q.bV (e:=4) k (by decide) (.map []) [];split
   ·exact E
   ·by_cases a:c.aR=0
    ·have G:BA 4 (Ag o l).c9 c=⟨4,(Ag o l).c9⟩:=by simp [BA,a]
     rw [←E.1,G];exact ⟨by simp [BA,C7],.inr (by simp [BA])⟩
    ·have s:=q.aT k a 4;have n:=q.aT k a 5;have Q:=q.1;rw [s.1,s.2,n.1];rw [←Q] at n;rw [n.2];exact ⟨rfl,q.2.imp (fun z=>absurd z.1 a) (fun z=>⟨z.1,by omega⟩)⟩
  ·rw [if_neg b,if_neg b];split
   ·exact q.mono (by omega)
   ·exact q.bV k (by decide) _ _
 have B:=Dk.bX H S (x:=(.map [],_)) (y:=([],_)) I C (by omega);rw [←N] at B;have J:=Dk.stmts H L (dep:=1) D (by omega) _ _ (B.mono (CK H (by omega) (by omega)));unfold PN DZ Nb;simp only [show¬(6<1) by decide,if_false];exact (J.mono (CK H (by omega) R)).c
theorem Xq{d:Nat}:∀{i j:Nat} {l:List TF},CH (Jn o d) i j l→j<o.length→∀(k:Nat) (c:CS) (x:List RF×CS),(∀m (s:m<l.length),BI F l[m].name.a9=k+m↔CE (v.map fun f=>f.name.a9) l[m].name.a9 0=((k+m:Nat):Int))→Pk (Ag o i).c9 c x.2→Pk (Ag o j).c9 (FM F u d l k c) (Ds v d l k x).2:=by
 intro i j l r;induction r with
 | nil h=>intro b k c x _ a;exact ⟨a.1,a.2.imp id (fun q=>rP q (CK H h b))⟩
 | @cons i m j t l h _ n=> intro b k c x e a;have p:=Xr H L h (idx:=k) (by have:=e 0 (by simp);simpa using this) a;rw [FM,Ds];refine n b (k+1) _ _ (fun q g=>?_) p;have:=e (q+1) (by simpa using g);simp only [List.getElem_cons_succ] at this;rw [show k+1+q=k+(q+1) by omega];exact this
end
section
variable {N : Nat} {o : List PT} (H : TksOk N o) (w : N ≤ 4000) (A : o.length ≤ 4001)
include H w A
theorem NH:∀(m:Nat) (x:PS) (d:List TF),x.next<o.length→(Af o o.length 0 (CZ o o.length m x d).2).m8=false→x.m8=false∧∃f,(CZ o o.length m x d).1=d++f∧CH (Jn o (2*o.length+1)) x.next (CZ o o.length m x d).2.next f∧(Ag o (CZ o o.length m x d).2.next).kind=0∧(CZ o o.length m x d).2.next<o.length
 | 0,x,d,e,h=>by rw [CZ] at h⊢;obtain ⟨a,b,c⟩:=Fi h;exact ⟨b,[],by simp,.nil (rN _),a,e⟩
 | m+1,x,d,e,h=>by
   rw [CZ] at h⊢;split at h
   ·rename_i g;rw [if_pos g];have s:=EY (n:=o.length) H.end_ e;obtain ⟨i,f,j,k,l,p⟩:=NH m _ _ s.2 h;obtain ⟨q,r⟩:=Rh H w A e i;exact ⟨q,(Hh o o.length x).1::f,by rw [j];simp,.cons r k,l,p⟩
   ·rename_i g;rw [if_neg g];obtain ⟨a,b,c⟩:=Fi h;exact ⟨b,[],by simp,.nil (rN _),a,e⟩
theorem Mf(h:(CM o o.length ⟨0,false,0⟩).2.2.m8=false):CH (Jn o (2*o.length+1)) 0 (o.length-1) (CM o o.length ⟨0,false,0⟩).1∧(CM o o.length ⟨0,false,0⟩).2.1=N∧(Ag o (o.length-1)).c9=N:=by
 have d:=H.pos;obtain ⟨B,k,s,t,l⟩:=H.last;have e:(Ag o (o.length-1)).c9=N:=by unfold Ag;rw [k];exact l
 unfold CM at h⊢;simp only at h⊢;have j:=EY (n:=o.length) H.end_ (x:=⟨0,false,0⟩) d;obtain ⟨f,C,g,b,a,p⟩:=NH H w A o.length _ _ j.2 h;obtain ⟨r,i⟩:=Rh H w A (x:=⟨0,false,0⟩) d f;have c:(CZ o o.length o.length (Hh o o.length ⟨0,false,0⟩).2 [(Hh o o.length ⟨0,false,0⟩).1]).2.next=o.length-1:=by
  rcases Nat.lt_or_ge (CZ o o.length o.length (Hh o o.length ⟨0,false,0⟩).2 [(Hh o o.length ⟨0,false,0⟩).1]).2.next (o.length-1) with q | q
  ·have:=H.O _ _ q (rU (by omega));exfalso;apply this;unfold Ag at a;rw [rU (by omega)] at a;exact a
  ·omega
 obtain ⟨y,z,m⟩:=Fi h;rw [m,c,g];rw [c] at b;exact ⟨.cons i b,e,e⟩
end
def nG:Nat→TS→Prop
 | 0,_=>False
 | d+1,.mk s b=>(b=[]∧s.kind≤10)∨(∃p a,b=[(p,a)]∧(s=Dh 11∨s=Dh 12)∧∀t,t∈a→nG d t)∨∃p a f e,b=[(p,a),(f,e)]∧s=Dh 11∧(∀t,t∈a→nG d t)∧∀t,t∈e→nG d t
theorem BS.shp{c:List PT}:∀{d i j:Nat} {t:TS},BS c d i j t→nG d t
 | 0,_,_,_,h=>h.elim
 | d+1,i,j,.mk s v,h=>by
   obtain ⟨_,_,p⟩:=h;have C:∀a b f,CH (BS c d) a b f→∀t,t∈f→nG d t:=fun a b f r t u=>by obtain ⟨x,y,q⟩:=r.each t u;exact q.shp
   rcases p with ⟨rfl,h,_⟩ | ⟨k,f,m,rfl,l,_,e,_⟩ | ⟨k,f,m,w,A,z,rfl,l,_,e,_,g,_⟩
   ·exact .inl ⟨rfl,h⟩
   ·exact .inr (.inl ⟨_,_,rfl,l,C _ _ _ e⟩)
   ·exact .inr (.inr ⟨_,_,_,_,rfl,l,C _ _ _ e,C _ _ _ g⟩)
theorem lV{N:Nat}:∀(l:List PT) (k:Nat),l.Pairwise (fun a b=>a.c9<b.c9)→(∀t,t∈l→k≤t.c9∧t.c9≤N)→l.length≤N+1-k
 | [],_,_,_=>rR _
 | t::l,k,h,d=>by
   rw [List.pairwise_cons] at h;have f:=d t List.mem_cons_self;have:=lV l (k+1) h.2 fun u e=>⟨by have:=h.1 u e;omega,(d u (rT _ e)).2⟩
   simp only [rW];omega
theorem TksOk.bA{N:Nat}{l:List PT}(h:TksOk N l):l.length≤N+1:=lV l 0 h.bZ fun t a=>⟨rR _,(h.len t a).2⟩
def qK(a:List TF):List RF:=a.map fun t=>⟨Ai t.name,t.i8.map Ai,[],0,[]⟩
theorem lM(a:List TF):(qK a).map (fun f=>f.name.a9)=a.map (fun t=>t.name.a9):=by unfold qK;rw [List.map_map];rfl
theorem lN(a:List TF):(qK a).map (fun f=>f.aZ.length)=a.map (fun t=>t.i8.length):=by unfold qK;rw [List.map_map];exact List.map_congr_left fun t _=>rX ..
section
variable {N : Nat} {c : List PT} (H : TksOk N c) (n : N ≤ 4000) (o : c.length ≤ 4001)
include H n o
theorem mX(h:List TF)(a6:Nat)(x:PS)(X:CM c c.length ⟨0,false,0⟩=(h,a6,x))(hx:x.m8=false):
 WD 4000 h∧(∀d U w v,Di d U w v h→Di 4000 U w v h)∧(∀t,t∈h→∀s,s∈t.v8→∃a b,BS c 4000 a b s)∧(∀t,t∈h→t.i8.length+(t.v8.map (DC 4000)).sum≤4000∧t.v8.length≤4000)∧h.length≤4001∧
 ∀k:List RF,k.map (fun f=>f.name.a9)=h.map (fun t=>t.name.a9)→k.map (fun f=>f.aZ.length)=h.map (fun t=>t.i8.length)→Lt h 4000 a6=Nz k N (Ds k 4000 h 0 (k,⟨0,0⟩)).2:=by
 have hp:=H.pos;have Z:=Mf H n o (by rw [X];exact hx);rw [X] at Z;obtain ⟨Y,a5,b2⟩:=Z;simp only at Y a5;have D:CH (Jn c 4000) 0 (c.length-1) h:=Y.mono (fun i j t g=>⟨by obtain ⟨K,M,J,m,E,B,u,C,F,r,G⟩:=g.w;refine ⟨K,M,J,m,E,B,u,C,F,?_,G⟩;have b6:=g.top;exact r.low (i0:=0) (j0:=4000) (fun _ _ _ q=>q.lt) (fun a b z _ I q=>BS.lower 4000 q (by omega)) (rR _) (by omega),g.lt,g.top⟩)
 have b7:=D.le (fun _ _ _ q=>q.lt);have R:∀t,t∈h→∀s,s∈t.v8→∃a b,BS c 4000 a b s:=by intro t l s A;obtain ⟨i,j,g⟩:=D.each t l;obtain ⟨K,M,J,m,E,B,u,C,F,r,G⟩:=g.w;exact r.each s A
 have Q:∀t,t∈h→t.i8.length+(t.v8.map (DC 4000)).sum≤4000∧t.v8.length≤4000:=by intro t l;obtain ⟨i,j,g⟩:=D.each t l;obtain ⟨K,M,J,m,E,B,u,C,F,r,G⟩:=g.w;have b6:=g.top;have l1:=C.le;have l2:=Hu (f:=DC 4000) (fun _ _ _ q=>q.cV) r;have l3:=r.le (fun _ _ _ q=>q.lt);rw [u];simp only [rX];exact ⟨by omega,by omega⟩
 have hT:WD 4000 h:=by
  refine ⟨by omega,by decide,fun t l=>?_⟩;obtain ⟨i,j,g⟩:=D.each t l;obtain ⟨K,M,J,m,E,B,u,C,F,r,G⟩:=g.w;refine ⟨by rw [B];exact rO (KV H _).1 n,fun s A=>?_,fun p a3=>?_,(Q t l).1,(Q t l).2⟩
  ·obtain ⟨a,b,S⟩:=R t l s A;exact S.tok o
  ·rw [u] at a3;obtain ⟨q,_,rfl⟩:=List.mem_map.1 a3;exact ⟨rO (KV H _).1 n,rO (KV H _).2 n⟩
 refine ⟨hT,fun d U w v b3=>?_,R,Q,by omega,fun k a2 b5=>?_⟩
 ·obtain ⟨a7,h1,h2,h3,h4⟩:=b3;refine ⟨a7,h1,h2,h3,fun j g g'=>?_⟩;obtain ⟨av,sv,O,P,e3,a8,e4,e5,e6,e7⟩:=h4 j g g';refine ⟨av,sv,O,P,e3,a8,e4,e5,e6,fun m T a9=>?_⟩;obtain ⟨p,q,S⟩:=R h[j] (rQ _) _ (rQ T);exact S.cS (e7 m T a9)
 ·have L:=Zs a2 b5;have b0:∀m (hm:m<h.length),BI (AW h 0 (.map [])) h[m].name.a9=0+m↔CE (k.map fun f=>f.name.a9) h[m].name.a9 0=((0+m:Nat):Int):=by
   intro m hm;have b1:0≤CE (h.map fun t=>t.name.a9) h[m].name.a9 0:=(Db _ _ 0).1.2 (List.mem_map.2 ⟨h[m],rQ _,rfl⟩);have e:BI (AW h 0 (.map [])) h[m].name.a9=(CE (h.map fun t=>t.name.a9) h[m].name.a9 0).toNat:=by unfold BI;rw [(Gk _ _ h 0 _ isMap_empty).2 (by simp [has_eq]) b1]
   rw [e,a2];omega
  have A:=Xq H L D (by omega) 0 ⟨0,0⟩ (k,⟨0,0⟩) b0 ⟨rfl,.inl rfl⟩;rw [b2] at A;unfold Lt Nz;rw [a5];have a0:=L.nm ⟨#[109,97,105,110]⟩;have a1:=L.ar ⟨#[109,97,105,110]⟩;obtain ⟨a4,b4⟩:=A;by_cases y:0≤CE (k.map fun f=>f.name.a9) ⟨#[109,97,105,110]⟩ 0∧((k.map fun f=>f.aZ.length)[(CE (k.map fun f=>f.name.a9) ⟨#[109,97,105,110]⟩ 0).toNat]?).getD 0=0
  ·have I:(has (AW h 0 (.map [])) (Ba ⟨#[109,97,105,110]⟩) && Iv h (BI (AW h 0 (.map [])) ⟨#[109,97,105,110]⟩)==0)=true:=by rw [Bool.and_eq_true,beq_iff_eq];exact ⟨a0.2 y.1,by rw [a1 y.1];exact y.2⟩
   rw [if_pos I,if_pos y]
   exact a4
  ·have I:¬(has (AW h 0 (.map [])) (Ba ⟨#[109,97,105,110]⟩) && Iv h (BI (AW h 0 (.map [])) ⟨#[109,97,105,110]⟩)==0)=true:=by rw [Bool.and_eq_true,beq_iff_eq];rintro ⟨q1,q2⟩;have q3:=a0.1 q1;exact y ⟨q3,by rw [←a1 q3];exact q2⟩
   rw [if_neg I,if_neg y,←a4]
   rcases b4 with V | V
   ·simp [BA,C7,V]
   ·by_cases W:(FM (AW h 0 (.map [])) h 4000 h 0 ⟨0,0⟩).aR=0
    ·simp [BA,C7,W]
    ·have O:BA 6 N (FM (AW h 0 (.map [])) h 4000 h 0 ⟨0,0⟩)=FM (AW h 0 (.map [])) h 4000 h 0 ⟨0,0⟩:=by simp [BA,W]
     have P:C7 6 N (FM (AW h 0 (.map [])) h 4000 h 0 ⟨0,0⟩)=FM (AW h 0 (.map [])) h 4000 h 0 ⟨0,0⟩:=by unfold C7;rw [if_neg (by omega)]
     rw [O,P]
end
theorem CG.aY{A B}{R S:A→B→Prop}{l m}(h:CG R l m)(k:∀a b,b∈m→R a b→S a b):CG S l m:=by
 induction h with
 | nil=>exact .nil
 | cons h _ i=>exact .cons (k _ _ (List.mem_cons_self ..) h) (i (fun a b g=>k a b (rT _ g)))
section
variable {N : Nat} {c : List PT} (H : TksOk N c) (d : DigOk c) (e : N ≤ 4000) (f : c.length ≤ 4001)
include H
include d e f
end
end Go.Proofs.YtegmjgjkcdbmkaaGreatDoor

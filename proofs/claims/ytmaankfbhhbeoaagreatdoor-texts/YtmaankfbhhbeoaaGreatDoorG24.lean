/- One of the texts of the proof of texts_card_holds: EqH EqI EqJ EqK. -/
import Derived.Test.YtmaankfbhhbeoaaGreatDoorG13
import Derived.Test.YtmaankfbhhbeoaaGreatDoorG23
namespace Go.Proofs.YtmaankfbhhbeoaaGreatDoor
open Go.Maps
theorem Cg.each{A}{R:Nat→Nat→A→Prop}{i j l}(h:Cg R i j l):∀a,a∈l→∃p q,R p q a:=by
 induction h with
 | nil _=>intro a b;cases b
 | cons h _ c=>
   intro a b;rcases List.mem_cons.1 b with rfl | b
   ·exact ⟨_,_,h⟩
   ·exact c a b
theorem JF{A}{R:Nat→Nat→A→Prop}{f:A→Nat}(k:∀i j a,R i j a→f a+i≤j){i j l}(h:Cg R i j l):(l.map f).sum+i≤j:=by
 induction h with
 | nil h=>simpa using h
 | cons h _ b=>have:=k _ _ _ h;simp only [List.map_cons,List.sum_cons];omega
theorem Bz.M3{n:List PT}:∀{d i j:Nat} {t:TS},Bz n d i j t→Bl d t+i≤j
 | 0,_,_,_,h=>h.elim
 | d+1,i,j,.mk s p,h=>by
   obtain ⟨u,v,o⟩:=h;have C:∀a b l,Cg (Bz n d) a b l→(l.map (Bl d)).sum+a≤b:=fun a b l r=>JF (fun _ _ _ q=>q.M3) r
   rw [Bl];rcases o with ⟨rfl,_⟩ | ⟨k,l,m,rfl,_,c,e,f⟩ | ⟨k,l,m,w,y,x,rfl,_,c,e,f,g,h⟩
   ·simp;omega
   ·have:=C _ _ _ e;simp only [List.map_cons,List.map_nil,List.sum_cons,List.sum_nil];omega
   ·have:=C _ _ _ e;have:=C _ _ _ g;simp only [List.map_cons,List.map_nil,List.sum_cons,List.sum_nil];omega
theorem Bz.tok{u:List PT}(x:u.length≤4001):∀{d i j:Nat} {t:TS},Bz u d i j t→LT d t
 | 0,_,_,_,h=>h.elim
 | d+1,i,j,.mk s A,h=>by
   obtain ⟨B,D,v⟩:=h;have V:∀k,Mh (Ec k):=fun k=>⟨Nat.zero_le _,Nat.zero_le _,Nat.zero_le _,by simp [Ec],Nat.zero_le _⟩
   have C:∀a b l,b<j→Cg (Bz u d) (a+1) b l→l.length≤4000∧∀t,t∈l→LT d t:=fun a b l E r=> ⟨by have:=r.le (fun _ _ _ q=>q.lt);omega,fun t y=>by obtain ⟨p,q,w⟩:=r.each t y;exact w.tok x⟩
   rcases v with ⟨rfl,F,z,_⟩ | ⟨k,l,m,rfl,n,c,e,f⟩ | ⟨k,l,m,G,I,H,rfl,n,c,e,f,g,h⟩
   ·exact ⟨z,by omega,by simp,by simp⟩
   ·refine ⟨by rcases n with rfl | rfl<;>exact V _,by rcases n with rfl | rfl<;>decide,by simp,fun q o=>?_⟩;rw [List.mem_singleton.1 o];exact C _ _ _ (by omega) e
   ·have:=g.le (fun _ _ _ q=>q.lt);refine ⟨by subst n;exact V _,by subst n;decide,by simp,fun q o=>?_⟩;simp only [List.mem_cons,List.not_mem_nil,or_false] at o;rcases o with rfl | rfl
    ·exact C _ _ _ (by omega) e
    ·exact C _ _ _ (by omega) g
theorem Bz.MZ{l:List PT}:∀{e i j:Nat} {t:TS} {d:Nat} {U:Nat→Prop} {w:World} {c:List Value},Bz l e i j t→BB d U w t c→BB e U w t c
 | 0,_,_,_,_,_,_,_,h,_=>h.elim
 | e+1,i,j,.mk s a,0,U,w,c,_,h=>h.elim
 | e+1,i,j,.mk s a,d+1,U,w,c,L,h=>by
   obtain ⟨n,u,o,E,F,G,H,I,J,K⟩:=h;refine ⟨n,u,o,E,F,G,H,I,J,fun k b N=>?_⟩;obtain ⟨R,v,x,y,z,A,B⟩:=K k b N;refine ⟨R,v,x,y,z,A,fun m C D=>?_⟩;have g:a[k].2[m]∈a[k].2:=List.getElem_mem _;obtain ⟨p,q,M⟩:∃p q,Bz l e p q a[k].2[m]:=by
    obtain ⟨_,_,T⟩:=L;rcases T with ⟨rfl,_⟩ | ⟨O,S,P,rfl,_,_,r,_⟩ | ⟨O,S,P,V,X,W,rfl,_,_,r,_,Q,_⟩
    ·simp at b
    ·have f:k=0:=by simp at b;omega
     subst f;exact r.each _ g
    ·have f:k=0∨k=1:=by simp at b;omega
     rcases f with rfl | rfl
     ·exact r.each _ g
     ·exact Q.each _ g
   exact M.MZ (B m C D)
theorem Bz.flat{E:List PT}{D:Nat}:∀{e i j:Nat} {t:TS} {d:Nat} {o:List FS} {k:Nat},Bz E e i j t→Cq D d o k t→Cq D e o k t
 | 0,_,_,_,_,_,_,h,_=>h.elim
 | e+1,i,j,.mk s G,0,o,k,_,h=>h.elim
 | e+1,i,j,.mk s G,d+1,o,k,K,h=>by
   obtain ⟨u,J,h⟩:=h;refine ⟨u,J,?_⟩;have C:∀p c,(p,c)∈G→∀t,t∈c→∃a b,Bz E e a b t:=by
    intro p c g t n;obtain ⟨_,_,S⟩:=K;rcases S with ⟨rfl,_⟩ | ⟨O,R,P,rfl,_,_,r,_⟩ | ⟨O,R,P,T,F,U,rfl,_,_,r,_,Q,_⟩
    ·cases g
    ·simp only [List.mem_cons,List.not_mem_nil,or_false,Prod.mk.injEq] at g;rw [g.2] at n;exact r.each t n
    ·simp only [List.mem_cons,List.not_mem_nil,or_false,Prod.mk.injEq] at g;rcases g with g | g
     ·rw [g.2] at n;exact r.each t n
     ·rw [g.2] at n;exact Q.each t n
   have M:∀(l:List Nat) (m:List TS),(∀t,t∈m→∃a b,Bz E e a b t)→BS (fun j t=>k<j∧Cq D d o j t) l m→BS (fun j t=>k<j∧Cq D e o j t) l m:=by
    intro l m H q;induction q with
    | nil=>exact .nil
    | cons h _ N=> obtain ⟨a,b,L⟩:=H _ (List.mem_cons_self ..);exact .cons ⟨h.1,L.flat h.2⟩ (N (fun t n=>H t (List.mem_cons_of_mem _ n)))
   rcases h with h | ⟨p,c,f,v,w,x,y,z,A,B⟩ | ⟨p,c,f,v,w,x,y,z,A,B⟩ | ⟨p,c,I,F,f,v,w,x,y,z,A,B⟩
   ·exact .inl h
   ·exact .inr (.inl ⟨p,c,f,v,w,x,y,z,A,M _ _ (C p c (by rw [f];simp)) B⟩)
   ·exact .inr (.inr (.inl ⟨p,c,f,v,w,x,y,z,A,M _ _ (C p c (by rw [f];simp)) B⟩))
   ·exact .inr (.inr (.inr ⟨p,c,I,F,f,v,w,x,y,z,M _ _ (C p c (by rw [f];simp)) A,M _ _ (C I F (by rw [f];simp)) B⟩))
structure Lk(F:DataW Unit)(fns:List TF)(fns0:List RF):Prop where
 nm:∀s,has F (AT s)=true↔0≤Ch (fns0.map fun f=>f.name.d9) s 0
 ar:∀s,0≤Ch (fns0.map fun f=>f.name.d9) s 0→EP fns (Bf F s)=((fns0.map fun f=>f.p7.length)[(Ch (fns0.map fun f=>f.name.d9) s 0).toNat]?).getD 0
def Ct(lo:Nat)(D:DataW Unit)(c:CS)(vs:List ByteArray)(a:CS):Prop:=
 c=a∧((c.p9=0∧Tidy D∧(∀s,has D (AT s)=true↔s∈vs)∧size D=vs.length)∨(c.p9≠0∧c.f8<lo))
theorem Ct.mono{b d D c e a}(h:Ct b D c e a)(f:b≤d):Ct d D c e a:=
 ⟨h.1,h.2.imp id (fun q=>⟨q.1,by omega⟩)⟩
theorem Ct.y6{lo p e D c vs f}(h:Ct lo D c vs f)(l:lo≤p)(i:e≠0)(g j):Ct (p+1) g (Bb e p c) j (AU e p f):=by
 obtain ⟨rfl,h⟩:=h;rcases h with ⟨d,_⟩ | ⟨d,k⟩
 ·have a:Bb e p c=⟨e,p⟩:=by simp [Bb,d]
  have b:AU e p c=⟨e,p⟩:=by simp [AU,d]
  rw [a,b];exact ⟨rfl,.inr ⟨i,by simp⟩⟩
 ·have a:Bb e p c=c:=by simp [Bb,d]
  have b:AU e p c=c:=by unfold AU;rw [if_neg (by omega)]
  rw [a,b];exact ⟨rfl,.inr ⟨d,by omega⟩⟩
theorem Ct.l6{d p D c g a}(h:Ct d D c g a)(j:d≤p)(b:c.p9≠0)(e):Bb e p c=c∧AU e p a=c:=by
 obtain ⟨rfl,h⟩:=h;rcases h with ⟨f,_⟩ | ⟨_,i⟩
 ·exact absurd f b
 ·exact ⟨by simp [Bb,b],by unfold AU;rw [if_neg (by omega)]⟩
theorem Ct.name{l D c a f}(h:Ct l D c a f)(t)(k:l≤t.f8):Ct (t.f8+1) D (Bp D t c) a (Cw a (Ak t) f):=by
 by_cases g:c.p9=0
 ·rcases h.2 with ⟨_,_,j,_⟩ | ⟨q,_⟩
  ·have i:=(EI a t.d9 0).1;unfold Bp Cw;have e:(Ak t).d9=t.d9:=rfl;rw [e];by_cases d:has D (AT t.d9)=true
   ·rw [if_pos d,if_pos (i.2 ((j _).1 d))];exact h.mono (by omega)
   ·rw [if_neg d,if_neg (fun q=>d ((j _).2 (i.1 q)))];exact h.y6 k (by decide) _ _
  ·exact absurd g q
 ·have b:=h.l6 k g 6;have m:Bp D t c=c:=by unfold Bp;split;rfl;exact b.1
  have n:Cw a (Ak t) f=c:=by unfold Cw;split;exact h.1.symm;exact b.2
  rw [m,n];rcases h.2 with ⟨q,_⟩ | q
  ·exact absurd q g
  ·exact ⟨rfl,.inr ⟨q.1,by omega⟩⟩
theorem Ct.decl{j D c b k}(h:Ct j D c b k)(t)(n:j≤t.f8):Ct (t.f8+1) (Ed D t) (CZ D t c) (b++[t.d9]) (Cm b (Ak t) k):=by
 by_cases a:c.p9=0
 ·obtain ⟨rfl,l⟩:=h;rcases l with ⟨_,i,g,o⟩ | ⟨q,_⟩
  ·have u:=(EI b t.d9 0).1;unfold CZ Cm;simp only;rw [o];have e:(Ak t).d9=t.d9:=rfl;have z:(Ak t).pos=t.f8:=rfl;rw [e,z];by_cases f:12≤b.length
   ·have v:Bb 4 t.f8 c=⟨4,t.f8⟩:=by simp [Bb,a]
    have w:AU 4 t.f8 c=⟨4,t.f8⟩:=by simp [AU,a]
    rw [if_pos f,if_pos f,v,w];have x:Bb 5 t.f8 ⟨4,t.f8⟩=⟨4,t.f8⟩:=by simp [Bb]
    have y:AU 5 t.f8 ⟨4,t.f8⟩=⟨4,t.f8⟩:=by simp [AU]
    rw [x,y];refine ⟨?_,.inr ?_⟩
    ·simp
    ·simp
   ·rw [if_neg f,if_neg f];by_cases d:has D (AT t.d9)=true
    ·rw [if_pos d,if_pos (u.2 ((g _).1 d))];exact Ct.y6 (lo:=j) (D:=D) (vs:=b) ⟨rfl,.inl ⟨a,i,g,o⟩⟩ n (by decide) _ _
    ·rw [if_neg d,if_neg (fun q=>d ((g _).2 (u.1 q)))];refine ⟨rfl,.inl ⟨a,i.put (DA _) _,fun s=>?_,?_⟩⟩
     ·unfold Ed;by_cases m:AT s=AT t.d9
      ·have:=Gf m;subst this;rw [has_put_same i.isMap (DA _)];simp
      ·rw [has_put_other m,g s];have:s≠t.d9:=fun q=>m (by rw [q])
       simp [this]
     ·unfold Ed;rw [size_put i,if_neg d,o];simp
  ·exact absurd a q
 ·have p:=h.l6 n a 4;have r:=h.l6 n a 5;have A:CZ D t c=c:=by unfold CZ;simp only;split<;>split<;>simp [p.1,r.1]
  have l:Cm b (Ak t) k=c:=by have e:=h.1;subst e;unfold Cm;simp only [show (Ak t).pos=t.f8 from rfl];split<;>split<;>simp [p.2,r.2]
  rw [A,l];rcases h.2 with ⟨q,_⟩ | q
  ·exact absurd q a
  ·exact ⟨rfl,.inr ⟨q.1,by omega⟩⟩
theorem Ct.fun{F:DataW Unit}{i:List TF}{d:List RF}(L:Lk F i d){f:Nat}{D:DataW Unit}{c:CS}{g:List ByteArray}{b:CS}(h:Ct f D c g b)(t:PT)(j:f≤t.f8):Ct (t.f8+1) D (Bp F t c) g (CO d (Ak t) (-1) b):=by
 have e:=L.nm t.d9;unfold Bp CO;rw [show (Ak t).d9=t.d9 from rfl,show (Ak t).pos=t.f8 from rfl];by_cases a:has F (AT t.d9)=true
 ·rw [if_pos a,if_pos (e.1 a),if_neg (by omega)];exact h.mono (by omega)
 ·rw [if_neg a,if_neg (fun q=>a (e.2 q))];exact h.y6 j (by decide) _ _
theorem Ct.called{F:DataW Unit}{i:List TF}{d:List RF}(L:Lk F i d){l:Nat}{D:DataW Unit}{c:CS}{m:List ByteArray}{g:CS}(h:Ct l D c m g)(t:PT)(a:Nat)(k:l≤t.f8):Ct (t.f8+1) D (CF F i t a c) m (CO d (Ak t) a g):=by
 have e:=L.nm t.d9;unfold CF CO;rw [show (Ak t).d9=t.d9 from rfl,show (Ak t).pos=t.f8 from rfl];by_cases b:has F (AT t.d9)=true
 ·rw [if_pos b,if_pos (e.1 b),L.ar _ (e.1 b)];by_cases j:((d.map fun f=>f.p7.length)[(Ch (d.map fun f=>f.name.d9) t.d9 0).toNat]?).getD 0=a
  ·rw [if_pos j,if_neg (by omega)];exact h.mono (by omega)
  ·rw [if_neg j,if_pos ⟨by omega,by omega⟩];exact h.y6 k (by decide) _ _
 ·rw [if_neg b,if_neg (fun q=>b (e.2 q))];exact h.y6 k (by decide) _ _
section
variable {N : Nat} {f : List PT} (H : TksOk N f)
include H
theorem ID{p q:Nat}(h:p<q)(a:q<f.length):(Ah f p).f8<(Ah f q).f8:=by have:=List.pairwise_iff_getElem.1 H.My p q (by omega) a h;unfold Ah;rw [List.getElem?_eq_getElem (by omega),List.getElem?_eq_getElem a];exact this
theorem BW{p q:Nat}(h:p≤q)(a:q<f.length):(Ah f p).f8≤(Ah f q).f8:=by
 rcases Nat.lt_or_ge p q with l | l
 ·exact Nat.le_of_lt (ID H l a)
 ·have:p=q:=by omega
  rw [this];exact Nat.le_refl _
theorem Ct.to{i p j:Nat}{D a:DataW Unit}{c b:CS}{l m:List ByteArray}{d e:CS}(h:Ct (Ah f i).f8 D c l d)(r:∀k,Ct k D c l d→k≤(Ah f p).f8→Ct ((Ah f p).f8+1) a b m e)(o:i≤p)(s:p+1≤j)(q:j<f.length):Ct (Ah f j).f8 a b m e:=
 (r _ h (BW H o (by omega))).mono (ID H (by omega) q)
theorem Ct.args{D:DataW Unit}{k:List ByteArray}:∀(b:List Nat) {i j:Nat} {c d:CS},Ct (Ah f i).f8 D c k d→GG i j b→j<f.length→Ct (Ah f j).f8 D (Dn D (b.map (Ah f)) c) k (((b.map (Ah f)).map Ak).foldl (fun c t=>Cw k t c) d)
 | [],i,j,c,d,h,a,e=>h.mono (BW H a e)
 | p::b,i,j,c,d,h,a,e=>by have o:=a.2.le;have l:=h.to H (p:=p) (j:=p+1) (fun r q m=>q.name (Ah f p) m) a.1 (Nat.le_refl _) (by omega);exact Ct.args b l a.2 e
variable {F : DataW Unit} {n : List TF} {g : List RF} (L : Lk F n g)
include L
theorem Ct.plain{s:VS}{G:List Nat}{i j:Nat}(hk:s.kind≤10)(S:s.kind≠7→s.kind≠8→s.args=[])(o:LW s=G.map (Ah f))(d:GG i j G)(I:j<f.length){D:DataW Unit}{c:CS}{R:List ByteArray}{O:CS}(h:Ct (Ah f i).f8 D c R O):
 Ct (Ah f j).f8 (C7 F n s (D,c)).1 (C7 F n s (D,c)).2 (Cl g s (R,O)).1 (Cl g s (R,O)).2:=by
 obtain ⟨m,v,y,X,N⟩:=s;simp only at hk S o⊢;have U:∀t:PT,[t]=G.map (Ah f)→∃p,G=[p]∧t=Ah f p:=by
  intro t e;rcases G with _ | ⟨p,_ | ⟨q,r⟩⟩
  ·simp at e
  ·simp only [List.map_cons,List.map_nil,List.cons.injEq,and_true] at e;exact ⟨p,rfl,e⟩
  ·simp at e
 have V:∀(t u:PT) (l:List PT),t::u::l=G.map (Ah f)→∃p q r,G=p::q::r∧t=Ah f p∧u=Ah f q∧l=r.map (Ah f):=by
  intro t u l e;rcases G with _ | ⟨p,_ | ⟨q,r⟩⟩
  ·simp at e
  ·simp at e
  ·simp only [List.map_cons,List.cons.injEq] at e;exact ⟨p,q,r,rfl,e.1,e.2.1,e.2.2⟩
 unfold LW at o;simp only at o;have W:∀(t u:PT),(m≠0∧m≠1∧m≠10∧m≠7∧m≠8)→∃p q,G=[p,q]∧v=Ah f p∧y=Ah f q:=by
  intro t u M;rw [if_neg (by omega),if_neg (by omega),if_neg (by omega)] at o;obtain ⟨p,q,r,B,C,E,K⟩:=V v y [] o;have:r=[]:=by cases r with | nil=>rfl | cons a b=>simp at K
  subst this;exact ⟨p,q,B,C,E⟩
 have P:(m≠0∧m≠1∧m≠10∧m≠7∧m≠8∧m≠4)→Ct (Ah f j).f8 D (Bp D y (Bp D v c)) (Cl g ⟨m,v,y,X,N⟩ (R,O)).1 (Cl g ⟨m,v,y,X,N⟩ (R,O)).2:=by intro M;obtain ⟨p,q,B,C,E⟩:=W v y ⟨M.1,M.2.1,M.2.2.1,M.2.2.2.1,M.2.2.2.2.1⟩;subst B;have T:=S (by omega) (by omega);subst T;have Y:=d.1;have Z:=d.2.1;have A:q+1≤j:=d.2.2;have x:=h.to H (p:=p) (j:=p+1) (fun w z k=>z.name (Ah f p) k) Y (Nat.le_refl _) (by omega);have J:=x.to H (p:=q) (j:=j) (fun w z k=>z.name (Ah f q) k) Z A I;unfold Cl GM;simp only;rw [if_neg (by omega),if_neg (by omega),if_neg (by omega),if_neg (by omega),if_neg (by omega)];rw [C,E];exact J
 rcases m with _ | _ | _ | _ | _ | _ | _ | _ | _ | _ | _ | m
 ·obtain ⟨p,rfl,e⟩:=U v (by simpa using o);have A:p+1≤j:=d.2;simp only [C7,Cl,if_true];rw [e];exact h.to H (p:=p) (fun w z k=>z.decl (Ah f p) k) d.1 A I
 ·obtain ⟨p,rfl,e⟩:=U v (by simpa using o);have A:p+1≤j:=d.2;simp only [C7,Cl,GM];rw [e];exact h.to H (p:=p) (fun w z k=>z.name (Ah f p) k) d.1 A I
 ·exact P (by omega)
 ·exact P (by omega)
 ·obtain ⟨p,q,B,C,E⟩:=W v y (by omega);subst B;have T:=S (by omega) (by omega);subst T;have A:q+1≤j:=d.2.2;have x:=h.to H (p:=p) (j:=p+1) (fun w z k=>z.name (Ah f p) k) d.1 (Nat.le_refl _) (by have:=d.2.1;omega);have J:=x.to H (p:=q) (j:=j) (fun w z k=>z.fun L (Ah f q) k) d.2.1 A I;simp only [C7,Cl,GM];rw [C,E];exact J
 ·exact P (by omega)
 ·exact P (by omega)
 ·rw [if_neg (by omega),if_neg (by omega),if_pos (by omega)] at o;obtain ⟨p,q,r,B,C,E,K⟩:=V v y N o;subst B;have hl:=d.2.2.le;have x:=h.to H (p:=p) (j:=p+1) (fun w z k=>z.name (Ah f p) k) d.1 (Nat.le_refl _) (by have:=d.2.1;omega);have J:=x.to H (p:=q) (j:=q+1) (fun w z k=>z.called L (Ah f q) N.length k) d.2.1 (Nat.le_refl _) (by omega);have Q:=Ct.args H r J d.2.2 I;simp only [C7,Cl,GM];rw [C,E,←K] at*;rw [←K] at Q;exact Q
 ·rw [if_neg (by omega),if_neg (by omega),if_pos (by omega)] at o;obtain ⟨p,q,r,B,C,E,K⟩:=V v y N o;subst B;have hl:=d.2.2.le;have x:=h.to H (p:=p) (j:=p+1) (fun w z k=>z.name (Ah f p) k) d.1 (Nat.le_refl _) (by have:=d.2.1;omega);have J:=x.to H (p:=q) (j:=q+1) (fun w z k=>z.name (Ah f q) k) d.2.1 (Nat.le_refl _) (by omega);have Q:=Ct.args H r J d.2.2 I;rw [←K,←C,←E] at Q;exact Q
 ·exact P (by omega)
 ·obtain ⟨p,rfl,e⟩:=U y (by simpa using o);have A:p+1≤j:=d.2;have x:=h.to H (p:=p) (fun w z k=>z.name (Ah f p) k) d.1 A I;rw [←e] at x;exact x
 ·omega
theorem Ct.stmt:∀{d i j:Nat} {t:TS},Bz f d i j t→∀(c:Nat) (x:DataW Unit×CS) (y:List ByteArray×CS),Ct (Ah f i).f8 x.1 x.2 y.1 y.2→Ct (Ah f j).f8 (FQ F n d c t x).1 (FQ F n d c t x).2 (Ey g d c t y).1 (Ey g d c t y).2
 | 0,_,_,_,h=>h.elim
 | d+1,i,j,.mk s X,P=>by
   intro c x y h;obtain ⟨Y,B,M⟩:=P;have C:∀(a b:Nat) (l:List TS),b<f.length→Cg (Bz f d) a b l→∀(x:DataW Unit×CS) (y:List ByteArray×CS),Ct (Ah f a).f8 x.1 x.2 y.1 y.2→Ct (Ah f b).f8 (l.foldl (fun x t=>FQ F n d (c+1) t x) x).1 (l.foldl (fun x t=>FQ F n d (c+1) t x) x).2 (l.foldl (fun x t=>Ey g d (c+1) t x) y).1 (l.foldl (fun x t=>Ey g d (c+1) t x) y).2:=by
    intro a b l E r;induction r with
    | nil h=>intro x y e;exact e.mono (BW H h E)
    | cons h _ U=>intro x y e;exact U E _ _ (Ct.stmt h (c+1) x y e)
   have v:∀(k:Nat) (x:DataW Unit×CS) (y:List ByteArray×CS) (i:Nat),i≤k→k+1<f.length→Ct (Ah f i).f8 x.1 x.2 y.1 y.2→Ct (Ah f (k+1)).f8 x.1 (if 6<c+1 then Bb 4 (Ah f k).f8 x.2 else x.2) y.1 (if 6<c+1 then AU 4 (Ah f k).f8 y.2 else y.2):=by
    intro k x y i Q u e;split
    ·exact e.to H (p:=k) (fun lo z D=>z.y6 D (by decide) _ _) Q (Nat.le_refl _) u
    ·exact e.mono (BW H (by omega) u)
   rcases M with ⟨rfl,u,_,N,ps,D,O⟩ | ⟨k,l,m,rfl,e,R,r,T⟩ | ⟨k,l,m,G,W,V,rfl,e,R,r,T,I,a0⟩
   ·rw [FQ,Ey,if_neg (by omega),if_neg (by omega)];exact Ct.plain H L u N D O B h
   ·have S:=r.le (fun _ _ _ q=>q.lt);have o:s.kind=11∨s.kind=12:=by rcases e with rfl | rfl<;>simp [Ec]
    rw [FQ,Ey,if_pos o,if_pos o];simp only [List.foldl_cons,List.foldl_nil];have w:=v k x y i (by omega) (by omega) h;have A:=C (k+1) m l (by omega) r (x.1,if 6<c+1 then Bb 4 (Ah f k).f8 x.2 else x.2) (y.1,if 6<c+1 then AU 4 (Ah f k).f8 y.2 else y.2) w;exact A.mono (BW H (by omega) B)
   ·have S:=r.le (fun _ _ _ q=>q.lt);have Z:=I.le (fun _ _ _ q=>q.lt);have o:s.kind=11∨s.kind=12:=by rw [e];simp [Ec]
    rw [FQ,Ey,if_pos o,if_pos o];simp only [List.foldl_cons,List.foldl_nil];have w:=v k x y i (by omega) (by omega) h;have A:=C (k+1) m l (by omega) r (x.1,if 6<c+1 then Bb 4 (Ah f k).f8 x.2 else x.2) (y.1,if 6<c+1 then AU 4 (Ah f k).f8 y.2 else y.2) w;have J:=v G _ _ m (by omega) (by omega) A;have K:=C (G+1) V W (by omega) I (_,_) (_,_) J;exact K.mono (BW H (by omega) B)
end
def UL(n:Nat)(b:List FS):Prop:=∀u,u∈b→u.args.length≤n∧u.p8.length≤n∧u.other.length≤n
theorem UL.snoc{n b u}(h:UL n b)(d:u.args.length≤n∧u.p8.length≤n∧u.other.length≤n):UL n (b++[u]):=by
 intro v e;rcases List.mem_append.1 e with q | q
 ·exact h v q
 ·rw [List.mem_singleton.1 q];exact d
theorem UL.set{n b u}(h:UL n b)(i)(d:u.args.length≤n∧u.p8.length≤n∧u.other.length≤n):UL n (b.set i u):=by
 intro v e;rcases List.mem_or_eq_of_mem_set e with q | q
 ·exact h v q
 ·rw [q];exact d
theorem Ix(a:List Tk):∀(f d:Nat) (e:Option Nat) (b:List Tk),(Cs a f d e b).1.length≤b.length+f
 | 0,d,e,b=>by unfold Cs;simp
 | f+1,d,e,b=>by
   unfold Cs;split
   ·have:=Ix a f (d+1) e (b++[Ai a d]);simp only [List.length_append,List.length_singleton] at this;omega
   ·simp
theorem GY(a x):(Bv a x).1.length≤a.length:=by have:=Ix a a.length x.i9 x.l6 [];unfold Bv BE;simpa using this
theorem Lq(a x s)(h:s.args.length≤a.length):(CM a x s).1.args.length≤a.length:=by
 unfold CM;split
 ·exact h
 ·split
  ·simp only;split<;>exact h
  ·split
   ·exact h
   ·split
    ·exact h
    ·split
     ·exact GY _ _
     ·simp only;split
      ·exact GY _ _
      ·exact h
theorem Jo(a d x):(Bw a d x).1.args.length≤a.length∧(Bw a d x).1.p8.length≤a.length∧(Bw a d x).1.other.length≤a.length:=by
 unfold Bw;split
 ·simp [BQ]
 ·split
  ·simp [BQ]
  ·split
   ·simp [BQ]
   ·simp only;have b:=Hg a (Ao a [61] (Bc a 1 x).2) {BQ d (-1) with p:=(Bc a 1 x).1};refine ⟨Lq _ _ _ (by simp [BQ]),by rw [b.1];simp [BQ],by rw [b.2];simp [BQ]⟩
theorem KB{a n}(P:a.length=n)(p:(Ai a (n-1)).sort=0):∀f:Nat,
 (∀(i:Nat) (x:St) (d:List FS) (j:List Nat),Fq n x d.length→UL n d→UL n (As a f i x d j).2.2∧(As a f i x d j).1.length≤j.length+((As a f i x d j).2.1.i9-x.i9)+1)∧
 (∀(i:Nat) (x:St) (d:List FS),Fq n x d.length→x.l6=none→UL n d→UL n (AO a f i x d).2.2):=by
 have E:=AR a;have C:∀(L:List UInt8) (x:St),x.i9<n→(Ao a L x).i9<n:=fun L x h=>Bo rfl p h
 have Z:(BQ 0 0).args.length≤n∧(BQ 0 0).p8.length≤n∧(BQ 0 0).other.length≤n:=by simp [BQ]
 intro f;induction f with
 | zero=>
   refine ⟨fun i x d j _ h=>?_,fun i x d _ _ h=>?_⟩
   ·rw [As];exact ⟨h,by simp only;omega⟩
   ·rw [AO];exact h
 | succ f t=>
   refine ⟨fun i x d j o h=>?_,fun i x d o s h=>?_⟩
   ·rw [As];split
    ·exact ⟨h,by simp only;omega⟩
    ·rename_i O;have s:x.l6=none:=by
      cases Q:x.l6 with
      | none=>rfl
      | some b=>exact absurd (.inl (by simp [Q])) O
     have S:=t.2 i x d o s h;obtain ⟨k,z,U,I⟩:=(CA p f).2 i x d o s;obtain ⟨A,B,V⟩:=(CA p f).1 i _ _ (j++[(AO a f i x d).1]) k;obtain ⟨J,v⟩:=t.1 i (AO a f i x d).2.1 (AO a f i x d).2.2 (j++[(AO a f i x d).1]) k S;refine ⟨J,?_⟩;simp only [List.length_append,List.length_singleton] at v;by_cases D:f=0
     ·subst D;rw [As];simp only [List.length_append,List.length_singleton];omega
     ·cases m:(AO a f i x d).2.1.l6 with
      | none=>have:=I D m;omega
      | some b=> rw [BZ _ _ _ _ _ m];simp only [List.length_append,List.length_singleton];omega
   ·rw [AO];split
    ·simp only;have H:=((E (AB (Ai a x.i9)) x).trans (E [63] _)).trans (E [123] (Ao a [63] (Ao a (AB (Ai a x.i9)) x)));have v:=C [63] _ (C (AB (Ai a x.i9)) x o.1);have K:=C [123] _ v;generalize Ao a [63] (Ao a (AB (Ai a x.i9)) x)=T at*;generalize Ao a [123] T=u at*;have y:Fq n u (d++[BQ 0 0]).length:=by obtain ⟨W,X,Y,M⟩:=H;obtain ⟨h1,h2,h3,h4,N⟩:=o;have h6:=N s;refine ⟨K,by omega,by omega,by simp;omega,fun e=>?_⟩;have:=M e;simp only [List.length_append,List.length_cons,List.length_nil];omega
     obtain ⟨k,z⟩:=t.1 i u (d++[BQ 0 0]) [] y (h.snoc Z);obtain ⟨w,p2,p3⟩:=(CA p f).1 i u (d++[BQ 0 0]) [] y;generalize As a f i u (d++[BQ 0 0]) []=r at*;have m:r.1.length≤n:=by have:=w.1;simp only [List.length_nil] at z;omega
     have F:=w.t6 (E [125] r.2.1) (C [125] _ w.1);split
     ·split
      ·have G:=F.t6 ((E Dg _).trans (E [123] _)) (C [123] _ (C Dg _ F.1));obtain ⟨A,B⟩:=t.1 i (Ao a [123] (Ao a Dg (Ao a [125] r.2.1))) r.2.2 [] G k;obtain ⟨R,q2,q3⟩:=(CA p f).1 i (Ao a [123] (Ao a Dg (Ao a [125] r.2.1))) r.2.2 [] G;refine A.set _ ⟨by simp [BQ],m,?_⟩;have:=R.1;simp only [List.length_nil] at B;simp only;omega
      ·exact k.set _ ⟨by simp [BQ],m,by simp [BQ]⟩
     ·exact k.set _ ⟨by simp [BQ],m,by simp [BQ]⟩
    ·simp only;have q:=Jo a i x;rw [P] at q;exact (h.snoc Z).set _ q
structure GO(a:List PT)(d i j:Nat)(t:TF):Prop where
 w:∃kn ps kb m,i≤kn∧t.name=Ah a kn∧t.l8=ps.map (Ah a)∧GG (kn+1) kb ps∧t.f8=(Ah a kb).f8∧Cg (Bz a d) (kb+1) m t.t7∧m<j
 lt:i<j
 top:j<a.length
structure LY(d:Nat)(fs:List FS)(i:Nat)(f:RF)(t:TF):Prop where
 name:f.name=Ak t.name
 p7:f.p7=t.l8.map Ak
 p8:BS (Cq i d fs) f.p8 t.t7
 r6:f.r6=[]
section
variable {N : Nat} {a : List PT} (H : TksOk N a) (c : DigOk a) (g : N ≤ 4000) (l : a.length ≤ 4001)
include H
include g l in
theorem JH{x:PS}(m:x.d8<a.length)(h:(FA a a.length x).2.l7=false):x.l7=false∧GO a (2*a.length+1) x.d8 (FA a a.length x).2.d8 (FA a a.length x).1:=by
 have T:=fun (k:Nat) (t:k≠0) {x:PS} (h:(Ae a a.length k x).l7=false)=>BL t h
 have b:=Dy H.end_ m;have f:=Ag (n:=a.length) H.end_ 3 m;have i:=f.trans (Ag H.end_ 1 f.2);have j:=i.trans (CK H.end_ i.2);have s:=j.trans (Ag H.end_ 12 j.2);unfold FA at h b⊢;simp only at h b⊢;have A:=T 13 (by decide) h;obtain ⟨y,E,p,d⟩:=(JV H g l (2*a.length+1)).1 _ [] s.2 (by omega) A.1;have e:=T 12 (by decide) y;obtain ⟨u,w,v,o,D⟩:=Et e.1;have r:=T 1 (by decide) u;have z:=T 3 (by decide) r.1;simp only [List.nil_append] at p;rw [e.2.1] at d;have B:=d.le (fun _ _ _ q=>q.lt);have C:=o.le;refine ⟨z.1,⟨⟨(Ae a a.length 3 x).d8,w,(A0 a a.length (Ae a a.length 1 (Ae a a.length 3 x))).2.d8,_,by omega,r.2.2.1,v,?_,by simp only;rw [e.2.2.1],by rw [p];exact d,by omega⟩,by omega,b.2⟩⟩;exact o.left (by omega)
include c
theorem LU{x:PS}{y:St}(k:Nat)(b:List FS)(A:Al a.length x y):Al a.length (FA a a.length x).2 (FC (a.map Ak) (2*a.length) k y b).2.1∧
 ((FC (a.map Ak) (2*a.length) k y b).2.1.l6=none→LY (2*a.length+1) (FC (a.map Ak) (2*a.length) k y b).2.2 k (FC (a.map Ak) (2*a.length) k y b).1 (FA a a.length x).1∧IY b (FC (a.map Ak) (2*a.length) k y b).2.2):=by
 have E:=fun (k:Nat) (v:3≤k) (u:k≤20) {x:PS} {y:St} (h:Al a.length x y)=>Ei H v u h
 have d:=E 3 (by decide) (by decide) A;obtain ⟨f,m⟩:=Hn H (k:=1) (so:=1) (by decide) d;have i:=E 10 (by decide) (by decide) f;obtain ⟨j,n⟩:=Ho H i;simp only [BF,Nat.reduceEqDiff,if_true,if_false] at d f m i j n;have o:Al a.length (A0 a a.length (Ae a a.length 1 (Ae a a.length 3 x))).2 (Bv (a.map Ak) (Ao (a.map Ak) [40] (Bc (a.map Ak) 1 (Ao (a.map Ak) [102,110] y)).2)).2:=j;obtain ⟨p,q⟩:=EC H (Ly H c (2*a.length+1)).1 (f2:=2*a.length) k b o (fun _=>by omega);unfold FA FC;simp only;refine ⟨p,fun e=>?_⟩;obtain ⟨s,t,w,z⟩:=q e;exact ⟨⟨m,n,s.mono (fun _ _ r=>r.2),rfl⟩,t⟩
end
section
variable {N : Nat} {toks : List PT} (H : TksOk N toks) (a : DigOk toks) (b : N ≤ 4000) (c : toks.length ≤ 4001)
include H a
structure GN(fs:List FS)(rf:List RF)(tf:List TF):Prop where
 len:rf.length=tf.length
 each:∀i (h:i<rf.length) (h':i<tf.length),LY (2*toks.length+1) fs i rf[i] tf[i]
omit H a in
theorem GN.snoc{k g:List FS}{d:List RF}{m:List TF}{f:RF}{t:TF}(h:GN (toks:=toks) k d m)(o:IY k g)(r:LY (2*toks.length+1) g d.length f t):GN (toks:=toks) g (d++[f]) (m++[t]):=by
 have j:=h.len;refine ⟨by simp [j],fun i n p=>?_⟩;by_cases l:i<d.length
 ·rw [List.getElem_append_left l,List.getElem_append_left (by omega)];have q:=h.each i l (by omega);exact ⟨q.name,q.p7,q.p8.mono (fun _ _ z=>z.pre o),q.r6⟩
 ·have e:i=d.length:=by simp at n;omega
  subst e;rw [List.getElem_append_right (Nat.le_refl _),List.getElem_append_right (by omega)];simp only [Nat.sub_self,j,List.getElem_cons_zero];rw [←j];exact r
theorem LZ:∀(j h:Nat) (x:PS) (y:St) (f:List FS) (l:List TF) (d:List RF),Al toks.length x y→d≠[]→(x.l7=false→toks.length-x.d8≤j∧toks.length-x.d8≤h)→(y.l6=none→GN (toks:=toks) f d l)→
 Al toks.length (Ae toks toks.length 0 (Db toks toks.length j x l).2) (BU (toks.map Ak) (2*toks.length) h y f d).2.1∧((BU (toks.map Ak) (2*toks.length) h y f d).2.1.l6=none→GN (toks:=toks) (BU (toks.map Ak) (2*toks.length) h y f d).2.2 (BU (toks.map Ak) (2*toks.length) h y f d).1 (Db toks toks.length j x l).1):=by
 have w:∀(m:Nat) (y:St) (f:List FS) (d:List RF) (p:Nat),y.l6=some p→BU (toks.map Ak) (2*toks.length) m y f d=(d,y,f):=by
  intro m y f d p g;cases m with
  | zero=>rw [BU]
  | succ m=>rw [BU,if_neg (by rw [g];simp)]
 intro j;induction j with
 | zero=>
   intro h x y f l d A C u hrel;rcases A with A | ⟨p,i,g⟩
   ·have:=u A.1;have:=A.2.2.2;omega
   ·rw [w _ _ _ _ _ g,Db];refine ⟨.inr ⟨p,?_,g⟩,fun e=>by rw [g] at e;cases e⟩;unfold Ae;rw [if_pos (by rw [i.2.2];exact H.end_),if_pos rfl];exact i
 | succ j L=>
   intro h x y f l d A C u hrel;rcases A with A | ⟨p,i,g⟩
   ·obtain ⟨O,P⟩:=u A.1;have K:=A.2.2.2;obtain ⟨s,J⟩:∃s,h=s+1:=⟨h-1,by omega⟩;subst J;have v:(Ai (toks.map Ak) y.i9).sort=0↔(Ah toks x.d8).kind=0:=by rw [A.2.2.1,AY];exact Jx _
    by_cases r:(Ah toks x.d8).kind=3
    ·rw [Db,if_pos r,BU,if_pos ⟨A.2.1,.inr (by rw [Ne,v];omega)⟩];obtain ⟨E,F⟩:=LU H a d.length f (.inl A);have Q:=Gd (n:=toks.length) H.end_ K r;refine L s _ _ _ _ _ E (by simp) (fun _=>by omega) (fun e=>?_);obtain ⟨M,N⟩:=F e;exact (hrel A.2.1).snoc N M
    ·rw [Db,if_neg r];by_cases o:(Ah toks x.d8).kind=0
     ·rw [BU,if_neg (fun q=>q.2.elim C (fun z=>z (v.2 o)))];refine ⟨?_,hrel⟩;unfold Ae;rw [if_pos o,if_pos rfl];exact .inl A
     ·rw [BU,if_pos ⟨A.2.1,.inr (fun z=>o (v.1 z))⟩];have t:(FC (toks.map Ak) (2*toks.length) d.length y f).2.1.l6=some (Ah toks x.d8).f8:=by
       have D:=DZ H (k:=3) (by decide) (by decide) (.inl A:Al toks.length x y);simp only [BF,Nat.reduceEqDiff,if_true,if_false] at D;have G:(Ao (toks.map Ak) [102,110] y).l6=some (Ah toks x.d8).f8:=by unfold Ao C0;rw [if_neg (fun z=>r (D.1 z)),A.2.2.1,AY,A.2.1];rfl
       unfold FC;simp only;refine BY _ _ ?_;have I:=D8 (toks.map Ak) (BY (toks.map Ak) [40] (ER (toks.map Ak) 1 G));have B:=BY (toks.map Ak) [123] I;rw [BZ _ _ _ _ _ B];exact B
      rw [w _ _ _ _ _ t];refine ⟨.inr ⟨_,?_,t⟩,fun e=>by simp only at e;rw [t] at e;cases e⟩;unfold Ae;rw [if_neg o];exact ⟨rfl,by simp [Ef,A.1],rfl⟩
   ·rw [w _ _ _ _ _ g,Db,if_neg (by rw [i.2.2,H.end_];decide)];refine ⟨.inr ⟨p,?_,g⟩,fun e=>by rw [g] at e;cases e⟩;unfold Ae;rw [if_pos (by rw [i.2.2];exact H.end_),if_pos rfl];exact i
theorem Lz:Al toks.length (Bx toks toks.length ⟨0,false,0⟩).2.2 (BU (toks.map Ak) (2*toks.length) toks.length ⟨0,none,0,0⟩ [] []).2.1∧((BU (toks.map Ak) (2*toks.length) toks.length ⟨0,none,0,0⟩ [] []).2.1.l6=none→GN (toks:=toks) (BU (toks.map Ak) (2*toks.length) toks.length ⟨0,none,0,0⟩ [] []).2.2 (BU (toks.map Ak) (2*toks.length) toks.length ⟨0,none,0,0⟩ [] []).1 (Bx toks toks.length ⟨0,false,0⟩).1):=by
 have h:=H.pos;obtain ⟨f,o⟩:∃f,toks.length=f+1:=⟨toks.length-1,by omega⟩;have A:Al toks.length (⟨0,false,0⟩:PS) (⟨0,none,0,0⟩:St):=.inl ⟨rfl,rfl,rfl,h⟩;obtain ⟨j,r⟩:=LU H a 0 [] A;have y:=Dy (n:=toks.length) H.end_ (x:=⟨0,false,0⟩) h;have e:BU (toks.map Ak) (2*toks.length) toks.length ⟨0,none,0,0⟩ [] []=BU (toks.map Ak) (2*toks.length) f (FC (toks.map Ak) (2*toks.length) 0 ⟨0,none,0,0⟩ []).2.1 (FC (toks.map Ak) (2*toks.length) 0 ⟨0,none,0,0⟩ []).2.2 [(FC (toks.map Ak) (2*toks.length) 0 ⟨0,none,0,0⟩ []).1]:=by
  conv=>lhs;rw [show toks.length=f+1 from o]
  rw [BU,if_pos ⟨rfl,.inl rfl⟩];simp [o]
 rw [e];unfold Bx;simp only;refine LZ H a toks.length f _ _ _ _ _ j (by simp) (fun v=>⟨by omega,?_⟩) (fun d=>?_)
 ·have t:=BL (k:=3) (by decide) (x:=(⟨0,false,0⟩:PS)) (toks:=toks);by_cases p:(Ah toks 0).kind=3
  ·have:=Gd (n:=toks.length) H.end_ (x:=⟨0,false,0⟩) h p;simp only at this;omega
  ·exfalso;have:=(Ky j v);have d:=this.2.1;have q:=DZ H (k:=3) (by decide) (by decide) A;simp only [BF,Nat.reduceEqDiff,if_true,if_false] at q;have g:(Ao (toks.map Ak) [102,110] ⟨0,none,0,0⟩).l6=some (Ah toks 0).f8:=by unfold Ao C0;rw [if_neg (fun z=>p (q.1 z))];simp only [AY];rfl
   have l:=D8 (toks.map Ak) (BY (toks.map Ak) [40] (ER (toks.map Ak) 1 g));have m:=BY (toks.map Ak) [123] l;unfold FC at d;simp only at d;rw [BZ _ _ _ _ _ m] at d;have u:=BY (toks.map Ak) [125] m;rw [u] at d;cases d
 ·obtain ⟨w,B⟩:=r d;refine ⟨rfl,fun i g l=>?_⟩;have s:i=0:=by simp at g;omega
  subst s;exact w
end
end Go.Proofs.YtmaankfbhhbeoaaGreatDoor

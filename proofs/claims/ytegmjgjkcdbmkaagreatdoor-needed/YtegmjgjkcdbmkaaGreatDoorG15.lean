/- One of the texts of the proof: EqF EqG. -/
import Derived.Test.YtegmjgjkcdbmkaaGreatDoorG14
import Derived.Test.YtegmjgjkcdbmkaaGreatDoorG16
namespace Go.Proofs.YtegmjgjkcdbmkaaGreatDoor
inductive CG {A B:Type} (R:A→B→Prop):List A→List B→Prop
 | nil:CG R [] []
 | cons {a:A} {b:B} {l:List A} {m:List B} (h:R a b) (t:CG R l m):CG R (a::l) (b::m)
theorem CG.mono{A B}{R S:A→B→Prop}{l m}(h:CG R l m)(k:∀a b,R a b→S a b):CG S l m:=by
 induction h with
 | nil=>exact .nil
 | cons h _ c=>exact .cons (k _ _ h) c
theorem CG.append{A B:Type}{R:A→B→Prop}{l a:List A}{m b:List B}(h:CG R l m)(r:CG R a b):CG R (l++a) (m++b):=by
 induction h with
 | nil=>exact r
 | cons h _ c=>exact .cons h c
theorem CG.length{A B}{R:A→B→Prop}{l m}(h:CG R l m):l.length=m.length:=by
 induction h with
 | nil=>rfl
 | cons _ _ a=>simp [a]
theorem CG.get{A B}{R:A→B→Prop}{l m}(h:CG R l m):∀(i:Nat) (a:i<l.length) (b:i<m.length),R l[i] m[i]:=by
 induction h with
 | nil=>intro i a;simp at a
 | cons h _ c=>
   intro i a b;cases i with
   | zero=>exact h
   | succ i=>exact c i (by simpa using a) (by simpa using b)
def Dc(a:Nat):Nat→List FS→Nat→TS→Prop
 | 0,_,_,_=>False
 | d+1,c,i,.mk s e=>∃u,c[i]? =some u∧
    ((e=[]∧SC s u a)∨
     (∃p b,e=[(p,b)]∧s=Dh 12∧u.kind=13∧u.aW=a∧u.br=((p:Nat):Int)∧u.cG= -1∧u.other=[]∧CG (fun j t=>i<j∧Dc a d c j t) u.bD b)∨
     (∃p b,e=[(p,b)]∧s=Dh 11∧u.kind=12∧u.aW=a∧u.br=((p:Nat):Int)∧u.cG= -1∧u.other=[]∧CG (fun j t=>i<j∧Dc a d c j t) u.bD b)∨
     (∃p b f g,e=[(p,b),(f,g)]∧s=Dh 11∧u.kind=12∧u.aW=a∧u.br=((p:Nat):Int)∧u.cG=((f:Nat):Int)∧CG (fun j t=>i<j∧Dc a d c j t) u.bD b∧CG (fun j t=>i<j∧Dc a d c j t) u.other g))
theorem Dc.up{z:Nat}:∀{d:Nat} {c:List FS} {i:Nat} {t:TS},Dc z d c i t→Dc z (d+1) c i t
 | 0,_,_,_,h=>h.elim
 | d+1,c,i,.mk s D,h=>by
   obtain ⟨u,A,h⟩:=h;refine ⟨u,A,?_⟩;have M:∀(l:List Nat) (m:List TS),CG (fun j t=>i<j∧Dc z d c j t) l m→CG (fun j t=>i<j∧Dc z (d+1) c j t) l m:=fun l m q=>q.mono (fun a b r=>⟨r.1,r.2.up⟩)
   rcases h with h | ⟨p,y,e,f,g,k,n,v,w,x⟩ | ⟨p,y,e,f,g,k,n,v,w,x⟩ | ⟨p,y,B,C,e,f,g,k,n,v,w,x⟩
   ·exact .inl h
   ·exact .inr (.inl ⟨p,y,e,f,g,k,n,v,w,M _ _ x⟩)
   ·exact .inr (.inr (.inl ⟨p,y,e,f,g,k,n,v,w,M _ _ x⟩))
   ·exact .inr (.inr (.inr ⟨p,y,B,C,e,f,g,k,n,v,M _ _ w,M _ _ x⟩))
def Pb(a b:List FS):Prop:=a.length≤b.length∧∀i,i<a.length→b[i]? =a[i]?
theorem Pb.refl(a):Pb a a:=⟨Nat.le_refl _,fun _ _=>rfl⟩
theorem Pb.trans{a b c:List FS}(h:Pb a b)(k:Pb b c):Pb a c:=⟨Nat.le_trans h.1 k.1,fun i d=>(k.2 i (Nat.lt_of_lt_of_le d h.1)).trans (h.2 i d)⟩
theorem Dc.bW{B k:Nat}:∀{d:Nat} {c A:List FS} {i:Nat} {t:TS},Dc B d c i t→k≤i→(∀j,k≤j→j<c.length→A[j]? =c[j]?)→Dc B d A i t
 | 0,_,_,_,_,h,_,_=>h.elim
 | d+1,c,A,i,.mk s I,h,F,D=>by
   obtain ⟨u,C,h⟩:=h;have E:i<c.length:=by
    rcases Nat.lt_or_ge i c.length with q | q
    ·exact q
    ·rw [List.getElem?_eq_none q] at C;cases C
   refine ⟨u,by rw [D i F E];exact C,?_⟩;have M:∀(l:List Nat) (m:List TS),CG (fun j t=>i<j∧Dc B d c j t) l m→CG (fun j t=>i<j∧Dc B d A j t) l m:=fun l m q=>q.mono (fun a b r=>⟨r.1,r.2.bW (by have:=r.1;omega) D⟩)
   rcases h with h | ⟨p,z,e,f,g,n,v,w,x,y⟩ | ⟨p,z,e,f,g,n,v,w,x,y⟩ | ⟨p,z,G,H,e,f,g,n,v,w,x,y⟩
   ·exact .inl h
   ·exact .inr (.inl ⟨p,z,e,f,g,n,v,w,x,M _ _ y⟩)
   ·exact .inr (.inr (.inl ⟨p,z,e,f,g,n,v,w,x,M _ _ y⟩))
   ·exact .inr (.inr (.inr ⟨p,z,G,H,e,f,g,n,v,w,M _ _ x,M _ _ y⟩))
theorem Dc.pre{c d:Nat}{a b:List FS}{i:Nat}{t:TS}(h:Dc c d a i t)(f:Pb a b):Dc c d b i t:=h.bW (k:=0) (Nat.zero_le _) (fun j _ e=>f.2 j e)
theorem Ka(a b z u)(h:Pb (a++[z]) b):Pb a (b.set a.length u)∧(b.set a.length u)[a.length]? =some u∧a.length<(b.set a.length u).length∧(∀j,a.length+1≤j→j<b.length→(b.set a.length u)[j]? =b[j]?):=by
 have c:=h.1;simp only [List.length_append,List.length_singleton] at c;refine ⟨⟨by simp only [List.length_set];omega,fun i d=>?_⟩,?_,by simp only [List.length_set];omega,fun j e f=>?_⟩
 ·rw [List.getElem?_set_ne (by omega),h.2 i (by simp;omega),List.getElem?_append_left d]
 ·rw [List.getElem?_set_self (by omega)]
 ·rw [List.getElem?_set_ne (by omega)]
def Z9(toks:List PT)(x:PS)(y:St):Prop:=Al toks.length x y∨(x.m8=false∧x.next<toks.length∧(Ag toks x.next).kind≠13∧y.aT=some (Ag toks x.next).c9)
section
variable {N : Nat} {toks : List PT} (H : TksOk N toks) (o : DigOk toks)
include H o
omit o in
theorem Us{x:PS}{y:St}(h:Z9 toks x y):Al toks.length (Af toks toks.length 13 x) (Ay (toks.map Ai) [125] y):=by
 rcases h with h | ⟨a,d,b,c⟩
 ·exact GS H (k:=13) (by decide) (by decide) h
 ·refine .inr ⟨_,?_,CN _ _ c⟩;unfold Af;rw [if_neg b];exact ⟨rfl,by simp [GM,a],rfl⟩
omit H o in
theorem Cu{k}(d:k≠0){x}(h:(Af toks toks.length k x).m8=false):x.m8=false∧(Af toks toks.length k x).next=x.next+1∧(Ax toks k x)=Ag toks x.next∧(Ag toks x.next).kind=k:=by obtain ⟨a,b,c⟩:=Fi h;exact ⟨b,BE a d,c,a⟩
omit H o in
theorem IQ{n x y}(h:Al n x y)(a:y.aT=none):Kg n x y:=by
 rcases h with h | ⟨p,_,h⟩
 ·exact h
 ·rw [a] at h;cases h
omit H o in
theorem Ut{n x y}(h:Al n x y)(a:x.m8=false):Kg n x y:=by
 rcases h with h | ⟨p,h,_⟩
 ·exact h
 ·rw [h.1] at a;cases a
omit H o in
theorem CO(T f c){y p}(a b)(h:y.aT=some p):AQ T f c y a b=(b,y,a):=by
 cases f with
 | zero=>rw [AQ]
 | succ f=>rw [AQ,if_pos (.inl (by simp [h]))]
def QP(toks:List PT)(e:Nat):Prop:=∀(b:Nat) (x:PS) (y:St) (c:Nat) (a:List FS) (f:List TS) (d:List Nat),Al toks.length x y→(x.m8=false→2*(toks.length-x.next)+1≤e∧2*(toks.length-x.next)+1≤b)→
 Z9 toks (AB toks toks.length e x f).2 (AQ (toks.map Ai) b c y a d).2.1∧
 ((AQ (toks.map Ai) b c y a d).2.1.aT=none→∃h g,(AB toks toks.length e x f).1=f++h∧(AQ (toks.map Ai) b c y a d).1=d++g∧CG (fun j t=>a.length≤j∧Dc c e (AQ (toks.map Ai) b c y a d).2.2 j t) g h∧Pb a (AQ (toks.map Ai) b c y a d).2.2)
omit o in
theorem Ho{c f2:Nat}(B:QP toks c){x:PS}{y:St}(b:Nat)(a:List FS)(A:Al toks.length x y)(z:x.m8=false→2*(toks.length-x.next)≤c+1∧2*(toks.length-x.next)≤f2+1):
 Al toks.length (Af toks toks.length 13 (AB toks toks.length c (Af toks toks.length 12 x) []).2) (Ay (toks.map Ai) [125] (AQ (toks.map Ai) f2 b (Ay (toks.map Ai) [123] y) a []).2.1)∧
 ((Ay (toks.map Ai) [125] (AQ (toks.map Ai) f2 b (Ay (toks.map Ai) [123] y) a []).2.1).aT=none→
   CG (fun j t=>a.length≤j∧Dc b c (AQ (toks.map Ai) f2 b (Ay (toks.map Ai) [123] y) a []).2.2 j t) (AQ (toks.map Ai) f2 b (Ay (toks.map Ai) [123] y) a []).1 (AB toks toks.length c (Af toks toks.length 12 x) []).1∧Pb a (AQ (toks.map Ai) f2 b (Ay (toks.map Ai) [123] y) a []).2.2∧(AC (toks.map Ai) y.v9).pos=(Ax toks 12 x).c9∧y.aT=none):=by
 have d:=GS H (k:=12) (by decide) (by decide) A;simp only [Cq,Nat.reduceEqDiff,if_true,if_false] at d;obtain ⟨r,s⟩:=B f2 (Af toks toks.length 12 x) (Ay (toks.map Ai) [123] y) b a [] [] d (fun e=>by have q:=Cu (k:=12) (by decide) e;have:=z q.1;have:=(Ut d e).2.2.2;omega)
 refine ⟨Us H r,fun e=>?_⟩;have f:=((Ct (toks.map Ai) [125] _).2.2.2 e).1;have m:(Ay (toks.map Ai) [123] y).aT=none:=by
  cases l:(Ay (toks.map Ai) [123] y).aT with
  | none=>rfl
  | some p=>rw [CO _ _ _ _ _ l] at f;simp only [l] at f;cases f
 have n:=((Ct (toks.map Ai) [123] y).2.2.2 m).1;obtain ⟨D,C,h,i,u,v⟩:=s f;simp only [List.nil_append] at h i;rw [h,i];refine ⟨u,v,?_,n⟩;have w:=IQ d m;have g:=IQ A n;rw [(Cu (k:=12) (by decide) w.1).2.2.1,g.2.2.1,Bn];rfl
theorem WF:∀i:Nat,QP toks i∧
 (∀(j:Nat) (x:PS) (y:St) (d:Nat) (c:List FS),Kg toks.length x y→Bb (Ag toks x.next).kind→2*(toks.length-x.next)≤i→2*(toks.length-x.next)≤j→
   Al toks.length (AV toks toks.length i x).2 (Bx (toks.map Ai) j d y c).2.1∧
   ((Bx (toks.map Ai) j d y c).2.1.aT=none→(Bx (toks.map Ai) j d y c).1=c.length∧Dc d i (Bx (toks.map Ai) j d y c).2.2 c.length (AV toks toks.length i x).1∧Pb c (Bx (toks.map Ai) j d y c).2.2∧c.length<(Bx (toks.map Ai) j d y c).2.2.length)):=by
 have E:=fun (k:Nat) (V:3≤k) (U:k≤20) {x:PS} {y:St} (h:Al toks.length x y)=>GS H V U h
 have TN:=fun (k:Nat) (hk:k≠0) {x:PS} (h:(Af toks toks.length k x).m8=false)=>Cu hk h
 intro i;induction i with
 | zero=>
   refine ⟨fun j x y d c a8 a9 h X=>?_,fun j x y d c h I X _=>?_⟩
   ·rcases h with h | ⟨p,I,w⟩
    ·have:=(X h.1).1;have:=h.2.2.2;omega
    ·rw [CO _ _ _ _ _ w];refine ⟨.inl (.inr ⟨p,by rw [AB];exact I,w⟩),fun e=>?_⟩;rw [w] at e;cases e
   ·have:=h.2.2.2;omega
 | succ i ih=>
   refine ⟨fun j x y d c a8 a9 h X=>?_,fun j x y d c h I X b6=>?_⟩
   ·rcases h with h | ⟨p,I,w⟩
    ·obtain ⟨c5,b6⟩:=X h.1;have Z:=h.2.2.2;obtain ⟨f,a5⟩:∃f,j=f+1:=⟨j-1,by omega⟩;subst a5;have a0:=Gi H (k:=13) (by decide) (by decide) (.inl h:Al toks.length x y);simp only [Cq,Nat.reduceEqDiff,if_true,if_false] at a0;by_cases J:Bb (Ag toks x.next).kind
     ·have T:¬(Ag toks x.next).kind=13:=by unfold Bb at J;omega
      have a7:¬(y.aT≠none∨DQ y.aT (AC (toks.map Ai) y.v9) [125]=true):=by
       rintro (q | q)
       ·exact q h.2.1
       ·exact T (a0.1 q)
      rw [AB,if_pos J,AQ,if_neg a7];obtain ⟨a1,s⟩:=ih.2 f x y d c h J (by omega) (by omega);have b7:(AV toks toks.length i x).2.m8=false→x.next+1≤(AV toks toks.length i x).2.next:=by intro _;obtain ⟨Q,b4⟩:∃Q,i=Q+1:=⟨i-1,by omega⟩;subst b4;exact He H.end_ Q Z J
      obtain ⟨t,F⟩:=ih.1 f (AV toks toks.length i x).2 (Bx (toks.map Ai) f d y c).2.1 d (Bx (toks.map Ai) f d y c).2.2 (a8++[(AV toks toks.length i x).1]) (a9++[(Bx (toks.map Ai) f d y c).1]) a1 (fun e=>by have:=b7 e;omega);refine ⟨t,fun e=>?_⟩;obtain ⟨ts,ls,u,l,v,P⟩:=F e;have c0:(Bx (toks.map Ai) f d y c).2.1.aT=none:=by
       cases hq:(Bx (toks.map Ai) f d y c).2.1.aT with
       | none=>rfl
       | some p=>rw [CO _ _ _ _ _ hq] at e;simp only [hq] at e;cases e
      obtain ⟨d1,d2,d3,d4⟩:=s c0;refine ⟨(AV toks toks.length i x).1::ts,c.length::ls,by rw [u];simp,by rw [l,d1];simp,.cons ⟨Nat.le_refl _,(d2.pre P).up⟩ (v.mono (fun a b r=>⟨by have:=r.1;omega,r.2.up⟩)),d3.trans P⟩
     ·rw [AB,if_neg J];by_cases T:(Ag toks x.next).kind=13
      ·rw [AQ,if_pos (.inr (a0.2 T))];exact ⟨.inl (.inl h),fun _=>⟨[],[],by simp,by simp,.nil,Pb.refl _⟩⟩
      ·have a7:¬(y.aT≠none∨DQ y.aT (AC (toks.map Ai) y.v9) [125]=true):=by
        rintro (q | q)
        ·exact q h.2.1
        ·exact T (a0.1 q)
       rw [AQ,if_neg a7]
       obtain ⟨G,b5⟩:∃G,f=G+1:=⟨f-1,by omega⟩
       subst b5
       have W:=fun (k:Nat) (V:3≤k) (U:k≤20)=>Gp H V U h
       have w4:=W 4 (by decide) (by decide)
       have w6:=W 6 (by decide) (by decide)
       have D:=W 7 (by decide) (by decide)
       have N:=W 9 (by decide) (by decide)
       have b0:=W 17 (by decide) (by decide)
       simp only [Cq,Nat.reduceEqDiff,if_true,if_false] at w4 w6 D N b0
       unfold Bb at J
       have a3:(Bx (toks.map Ai) (G+1) d y c).2.1.aT=some (Ag toks x.next).c9:=by
        rw [Bx,if_neg (by rw [D,N];omega)];simp only;refine CN _ _ ?_;unfold C5;rw [if_neg (by rw [w4];omega),if_neg (by rw [w6];omega),if_neg (by rw [b0];omega)];simp only;refine Ou _ _ (CN _ _ ?_);unfold Ce JU;have hs:¬(y.aT.isNone=true∧(AC (toks.map Ai) y.v9).sort=1):=by rintro ⟨_,e⟩;rw [h.2.2.1,Bn] at e;have:=(Gu _).1 e;omega
        simp only [if_neg hs];rw [h.2.2.1,Bn,h.2.1];rfl
       rw [CO _ _ _ _ _ a3]
       refine ⟨.inr ⟨h.1,Z,T,a3⟩,fun e=>?_⟩
       simp only at e
       rw [a3] at e;cases e
    ·rw [CO _ _ _ _ _ w,AB,if_neg (by rw [I.2.2,H.end_];decide)];refine ⟨.inl (.inr ⟨p,I,w⟩),fun e=>?_⟩;rw [w] at e;cases e
   ·have Z:=h.2.2.2;obtain ⟨f,a5⟩:∃f,j=f+1:=⟨j-1,by omega⟩;subst a5;have A:Al toks.length x y:=.inl h;have W:=fun (k:Nat) (V:3≤k) (U:k≤20)=>Gp H V U h
    have D:=W 7 (by decide) (by decide);have N:=W 9 (by decide) (by decide);simp only [Cq,Nat.reduceEqDiff,if_true,if_false] at D N;have m:=fun (k:Nat) {x:PS} (hc:x.next<toks.length)=>Ah (n:=toks.length) H.end_ k hc
    by_cases K:(Ag toks x.next).kind=7
    ·have Y:=D.2 K;have a6:Bq (AC (toks.map Ai) y.v9)=ZS∨Bq (AC (toks.map Ai) y.v9)=QH:=.inl Y;rw [AV,if_pos K,Bx,if_pos a6];simp only [Y,if_true];have s:=E 20 (by decide) (by decide) (E 7 (by decide) (by decide) A);simp only [Cq,Nat.reduceEqDiff,if_true,if_false] at s;have R:=m 7 Z;have S:=R.trans (m 20 R.2);generalize Af toks toks.length 20 (Af toks toks.length 7 x)=x2 at*;generalize Ay (toks.map Ai) [63] (Ay (toks.map Ai) [105,102] y)=O at*;obtain ⟨t,F⟩:=Ho H ih.1 (f2:=f) d (c++[EN 0 0]) s (fun _=>by have:=S.1;omega);have g3:=S.trans (m 12 S.2);have g4:=g3.trans (Bo H.end_ i _ [] g3.2);have g5:=g4.trans (m 13 g4.2);generalize AB toks toks.length i (Af toks toks.length 12 x2) []=r at*;generalize AQ (toks.map Ai) f d (Ay (toks.map Ai) [123] O) (c++[EN 0 0]) []=q at*;have n8:=Gi H (k:=8) (by decide) (by decide) t;simp only [Cq,Nat.reduceEqDiff,if_true,if_false] at n8;by_cases k8:(Ag toks (Af toks toks.length 13 r.2).next).kind=8
     ·rw [if_pos k8,if_pos (n8.2 k8)];have a4:=E 8 (by decide) (by decide) t;simp only [Cq,Nat.reduceEqDiff,if_true,if_false] at a4;have g6:=g5.trans (m 8 g5.2);have b3:(Ay (toks.map Ai) [101,108,115,101] (Ay (toks.map Ai) [125] q.2.1)).aT=none→(Ay (toks.map Ai) [125] q.2.1).aT=none:=fun e=>((Ct (toks.map Ai) [101,108,115,101] _).2.2.2 e).1
      generalize Af toks toks.length 8 (Af toks toks.length 13 r.2)=x4 at*;generalize Ay (toks.map Ai) [101,108,115,101] (Ay (toks.map Ai) [125] q.2.1)=y4 at*;obtain ⟨d1,d2⟩:=Ho H ih.1 (f2:=f) d q.2.2 a4 (fun _=>by have:=g6.1;omega);generalize AB toks toks.length i (Af toks toks.length 12 x4) []=r2 at*;generalize AQ (toks.map Ai) f d (Ay (toks.map Ai) [123] y4) q.2.2 []=q2 at*;refine ⟨d1,fun e=>?_⟩;obtain ⟨Q,G,e3,e4⟩:=d2 e;obtain ⟨u,l,v,P⟩:=F (b3 e4);obtain ⟨z,B,C,M⟩:=Ka c q2.2.2 (EN 0 0) {EN d (-1) with kind:=12,br:=(AC (toks.map Ai) O.v9).pos,bD:=q.1,cG:=(AC (toks.map Ai) y4.v9).pos,other:=q2.1} (l.trans G);have b8:=l.1;simp only [List.length_append,List.length_singleton] at b8;refine ⟨by trivial,⟨_,B,.inr (.inr (.inr ⟨_,_,_,_,rfl,rfl,rfl,rfl,by simp only;rw [v],by simp only;rw [e3],?_,?_⟩))⟩,z,C⟩
      ·refine u.mono (fun a b r=>?_);have L:=r.1;simp only [List.length_append,List.length_singleton] at L;exact ⟨by omega,(r.2.pre G).bW (k:=c.length+1) (by omega) M⟩
      ·refine Q.mono (fun a b r=>?_);have L:=r.1;exact ⟨by omega,r.2.bW (k:=c.length+1) (by omega) M⟩
     ·rw [if_neg k8,if_neg (fun e=>k8 (n8.1 e))];refine ⟨t,fun e=>?_⟩;obtain ⟨u,l,v,P⟩:=F e;obtain ⟨z,B,C,M⟩:=Ka c q.2.2 (EN 0 0) {EN d (-1) with kind:=12,br:=(AC (toks.map Ai) O.v9).pos,bD:=q.1} l;refine ⟨by trivial,⟨_,B,.inr (.inr (.inl ⟨_,_,rfl,rfl,rfl,rfl,by simp only;rw [v],rfl,rfl,?_⟩))⟩,z,C⟩;refine u.mono (fun a b r=>?_);have L:=r.1;simp only [List.length_append,List.length_singleton] at L;exact ⟨by omega,r.2.bW (k:=c.length+1) (by omega) M⟩
    by_cases k9:(Ag toks x.next).kind=9
    ·have Y:=N.2 k9;have b9:¬Bq (AC (toks.map Ai) y.v9)=[105,102]:=fun e=>K (D.1 e)
     have a6:Bq (AC (toks.map Ai) y.v9)=ZS∨Bq (AC (toks.map Ai) y.v9)=QH:=.inr Y;rw [AV,if_neg K,if_pos k9,Bx,if_pos a6,if_neg b9];simp only [Y];have s:=E 20 (by decide) (by decide) (E 9 (by decide) (by decide) A);simp only [Cq,Nat.reduceEqDiff,if_true,if_false] at s;have R:=m 9 Z;have S:=R.trans (m 20 R.2);generalize Af toks toks.length 20 (Af toks toks.length 9 x)=x2 at*;generalize Ay (toks.map Ai) [63] (Ay (toks.map Ai) [119,104,105,108,101] y)=O at*;obtain ⟨t,F⟩:=Ho H ih.1 (f2:=f) d (c++[EN 0 0]) s (fun _=>by have:=S.1;omega);generalize AB toks toks.length i (Af toks toks.length 12 x2) []=r at*;generalize AQ (toks.map Ai) f d (Ay (toks.map Ai) [123] O) (c++[EN 0 0]) []=q at*;refine ⟨t,fun e=>?_⟩;obtain ⟨u,l,v,P⟩:=F e;obtain ⟨z,B,C,M⟩:=Ka c q.2.2 (EN 0 0) {EN d (-1) with kind:=13,br:=(AC (toks.map Ai) O.v9).pos,bD:=q.1} l;refine ⟨by trivial,⟨_,B,.inr (.inl ⟨_,_,rfl,rfl,rfl,rfl,by simp only;rw [v],rfl,rfl,?_⟩)⟩,z,C⟩;refine u.mono (fun a b r=>?_);have L:=r.1;simp only [List.length_append,List.length_singleton] at L;exact ⟨by omega,r.2.bW (k:=c.length+1) (by omega) M⟩
    ·rw [AV,if_neg K,if_neg k9,Bx,if_neg (fun e=>e.elim (fun e=>K (D.1 e)) (fun e=>k9 (N.1 e)))];simp only;obtain ⟨p1,p2⟩:=Uu H o d h;have p3:=E 14 (by decide) (by decide) p1;simp only [Cq,Nat.reduceEqDiff,if_true,if_false] at p3;refine ⟨p3,fun e=>?_⟩;have g:=IQ p3 e;have hg:=(TN 14 (by decide) g.1).1;obtain ⟨z,B,C,_⟩:=Ka c (c++[EN 0 0]) (EN 0 0) (C5 (toks.map Ai) d y).1 (Pb.refl _);exact ⟨by trivial,⟨_,B,.inl ⟨rfl,p2 hg⟩⟩,z,C⟩
end
def Lp:Nat→Nat→List Nat→Prop
 | i,j,[]=>i≤j
 | i,j,p::a=>i≤p∧Lp (p+1) j a
theorem Lp.left:∀{c:List Nat} {i b j:Nat},Lp i j c→b≤i→Lp b j c
 | [],_,_,_,h,a=>Nat.le_trans a h
 | _::_,_,_,_,h,a=>⟨Nat.le_trans a h.1,h.2⟩
theorem Lp.right:∀{c:List Nat} {i j b:Nat},Lp i j c→j≤b→Lp i b c
 | [],_,_,_,h,a=>Nat.le_trans h a
 | _::_,_,_,_,h,a=>⟨h.1,h.2.right a⟩
theorem Lp.le:∀{a:List Nat} {i j:Nat},Lp i j a→i+a.length≤j
 | [],_,_,h=>h
 | p::a,i,j,h=>by have:=h.2.le;have:=h.1;simp only [List.length_cons];omega
theorem Lp.snoc:∀{a:List Nat} {i j:Nat},Lp i j a→Lp i (j+1) (a++[j])
 | [],_,_,h=>⟨h,Nat.le_refl _⟩
 | _::_,_,_,h=>⟨h.1,h.2.snoc⟩
inductive CH {A:Type} (R:Nat→Nat→A→Prop):Nat→Nat→List A→Prop
 | nil {i j:Nat} (h:i≤j):CH R i j []
 | cons {i m j:Nat} {a:A} {l:List A} (h:R i m a) (t:CH R m j l):CH R i j (a::l)
theorem CH.snoc{A:Type}{R:Nat→Nat→A→Prop}{i m j:Nat}{l:List A}{a:A}(h:CH R i m l)(d:∀b i j a,R i j a→b≤i→R b j a)(r:R m j a)(c:m≤j):CH R i j (l++[a]):=by
 induction h with
 | nil h=>exact .cons (d _ _ _ _ r h) (.nil (Nat.le_refl _))
 | cons h _ e=>exact .cons h (e r c)
theorem CH.mono{A}{R S:Nat→Nat→A→Prop}{i j l}(h:CH R i j l)(k:∀i j a,R i j a→S i j a):CH S i j l:=by
 induction h with
 | nil h=>exact .nil h
 | cons h _ b=>exact .cons (k _ _ _ h) b
theorem CH.le{A}{R:Nat→Nat→A→Prop}{i j l}(h:CH R i j l)(k:∀i j a,R i j a→i<j):i+l.length≤j:=by
 induction h with
 | nil h=>exact h
 | cons h _ b=>have:=k _ _ _ h;simp only [List.length_cons];omega
theorem CH.low{A}{R S:Nat→Nat→A→Prop}{i j i0 j0 l}(h:CH R i j l)(c:∀i j a,R i j a→i<j)(k:∀a b x,i0≤a→b≤j0→R a b x→S a b x)(d:i0≤i)(e:j≤j0):CH S i j l:=by
 induction h with
 | nil h=>exact .nil h
 | cons h t f=> have q:=c _ _ _ h;have g:=t.le c;exact .cons (k _ _ _ d (by omega) h) (f (by omega) e)
def XL(v:VS):List PT:=if v.kind=1 then [] else if v.kind=7∨v.kind=8 then v.sr::v.args else [v.sr]
def Yd(s:VS):List PT:=if s.kind=0∨s.kind=1 then [s.tg] else if s.kind=10 then [s.sr] else if s.kind=7∨s.kind=8 then s.tg::s.sr::s.args else [s.tg,s.sr]
def BS(toks:List PT):Nat→Nat→Nat→TS→Prop
 | 0,_,_,_=>False
 | d+1,i,j,.mk s b=>i<j∧j<toks.length∧
   ((b=[]∧s.kind≤10∧Y5 s∧(s.kind≠7→s.kind≠8→s.args=[])∧∃f,Yd s=f.map (Ag toks)∧Lp i j f)∨
    (∃k a m,b=[((Ag toks k).c9,a)]∧(s=Dh 11∨s=Dh 12)∧i<k∧CH (BS toks d) (k+1) m a∧m<j)∨
    (∃k a m c g e,b=[((Ag toks k).c9,a),((Ag toks c).c9,g)]∧s=Dh 11∧i<k∧CH (BS toks d) (k+1) m a∧m<c∧CH (BS toks d) (c+1) e g∧e<j))
theorem BS.lt{toks d i j t}(h:BS toks d i j t):i<j:=by
 match d,t,h with
 | d+1,.mk s a,h=>exact h.1
theorem BS.left{toks d i n j t}(h:BS toks d i j t)(r:n≤i):BS toks d n j t:=by
 match d,t,h with
 | d+1,.mk s z,h=>
   obtain ⟨A,p,q⟩:=h;refine ⟨by omega,p,?_⟩;rcases q with ⟨a,b,c,g,x,e,f⟩ | ⟨k,l,m,a,b,c,e⟩ | ⟨k,l,m,v,y,w,a,b,c,e⟩
   ·exact .inl ⟨a,b,c,g,x,e,f.left r⟩
   ·exact .inr (.inl ⟨k,l,m,a,b,by omega,e⟩)
   ·exact .inr (.inr ⟨k,l,m,v,y,w,a,b,by omega,e⟩)
theorem BS.up{toks:List PT}:∀{d i j:Nat} {t:TS},BS toks d i j t→BS toks (d+1) i j t
 | 0,_,_,_,h=>h.elim
 | d+1,i,j,.mk s y,h=>by
   obtain ⟨n,p,q⟩:=h;refine ⟨n,p,?_⟩;rcases q with h | ⟨k,l,m,a,b,c,e,f⟩ | ⟨k,l,m,v,x,w,a,b,c,e,f,g,h⟩
   ·exact .inl h
   ·exact .inr (.inl ⟨k,l,m,a,b,c,e.mono (fun _ _ _ r=>r.up),f⟩)
   ·exact .inr (.inr ⟨k,l,m,v,x,w,a,b,c,e.mono (fun _ _ _ r=>r.up),f,g.mono (fun _ _ _ r=>r.up),h⟩)
theorem BS.lower{toks:List PT}:∀{d i j:Nat} {t:TS} (e:Nat),BS toks d i j t→j-i≤e→BS toks e i j t
 | 0,_,_,_,_,h,_=>h.elim
 | d+1,i,j,.mk s n,0,h,A=>by have:=h.1;omega
 | d+1,i,j,.mk s n,e+1,h,A=>by
   obtain ⟨p,v,w⟩:=h;refine ⟨p,v,?_⟩;have L:∀(a b:Nat) (l:List TS),i+1≤a→b≤j→CH (BS toks d) a b l→CH (BS toks e) a b l:=fun a b l y z r=> r.low (i0:=i+1) (j0:=j) (fun _ _ _ q=>q.lt) (fun E F x G H q=>BS.lower e q (by omega)) y z
   rcases w with h | ⟨k,l,m,a,b,c,q,f⟩ | ⟨k,l,m,B,D,C,a,b,c,q,f,g,h⟩
   ·exact .inl h
   ·exact .inr (.inl ⟨k,l,m,a,b,c,L _ _ _ (by omega) (by omega) q,f⟩)
   ·have:=g.le (fun _ _ _ q=>q.lt);have:=q.le (fun _ _ _ q=>q.lt);exact .inr (.inr ⟨k,l,m,B,D,C,a,b,c,L _ _ _ (by omega) (by omega) q,f,L _ _ _ (by omega) (by omega) g,h⟩)
theorem TV(toks n x):(Bw toks n x).1.kind≠7→(Bw toks n x).1.kind≠8→(Bw toks n x).1.args=[]:=by
 unfold Bw;split
 ·intro _ _;rfl
 ·split
  ·unfold DM;simp only;split<;>(intro _ _;rfl)
  ·split
   ·intro _ _;rfl
   ·split
    ·intro _ _;rfl
    ·split
     ·intro _ h;exact absurd rfl h
     ·split
      ·intro h;exact absurd rfl h
      ·intro _ _;rfl
theorem Oe(toks n x):(AF toks n x).1.kind≠7→(AF toks n x).1.kind≠8→(AF toks n x).1.args=[]:=by
 unfold AF;split
 ·intro _ _;rfl
 ·split
  ·intro _ _;rfl
  ·split
   ·intro _ _;rfl
   ·exact TV _ _ _
section
variable {N : Nat} {toks : List PT} (H : TksOk N toks) (o : N ≤ 4000) (u : toks.length ≤ 4001)
include H
theorem KV(p:Nat):(Ag toks p).a9.size≤N∧(Ag toks p).c9≤N:=by
 rcases Nat.lt_or_ge p toks.length with q | q
 ·exact H.len _ (Gb q)
 ·unfold Ag;rw [List.getElem?_eq_none q];exact ⟨Nat.zero_le _,Nat.zero_le _⟩
theorem Du(k:Nat)(x:PS):(Ax toks k x).a9.size≤N∧(Ax toks k x).c9≤N:=by
 unfold Ax;split
 ·exact KV H _
 ·exact ⟨Nat.zero_le _,Nat.zero_le _⟩
omit H in
theorem MO:∀(f:Nat) (x:PS) (a:List PT),∃b,(CJ toks f x a).1=a++b.map (Ag toks)∧Lp x.next (CJ toks f x a).2.next b∧(CJ toks f x a).2.m8=x.m8
 | 0,x,a=>⟨[],by simp [CJ],Nat.le_refl _,rfl⟩
 | f+1,x,a=>by
   rw [CJ];split
   ·obtain ⟨b,c,d,e⟩:=MO f ⟨x.next+1,x.m8,x.aS⟩ (a++[Ag toks x.next]);exact ⟨x.next::b,by rw [c];simp,⟨Nat.le_refl _,d⟩,e⟩
   ·exact ⟨[],by simp,Nat.le_refl _,rfl⟩
omit H in
theorem G7{x}(h:(A6 toks toks.length x).2.m8=false):x.m8=false∧∃a,(A6 toks toks.length x).1=a.map (Ag toks)∧Lp (x.next+1) (A6 toks toks.length x).2.next a∧x.next+2≤(A6 toks toks.length x).2.next:=by unfold A6 at h⊢;simp only at h⊢;obtain ⟨a,e,c,f⟩:=MO (toks:=toks) toks.length (Af toks toks.length 10 x) [];have b:=Cu (k:=11) (by decide) h;rw [f] at b;have d:=Cu (k:=10) (by decide) b.1;have:=c.le;rw [d.2.1] at c this;exact ⟨d.1,a,by simpa using e,c.right (by rw [b.2.1];omega),by rw [b.2.1];omega⟩
theorem N7{x:PS}:∀t,t∈(A6 toks toks.length x).1→t.a9.size≤N∧t.c9≤N:=by
 intro t a;obtain ⟨c,b,_,_⟩:=MO (toks:=toks) toks.length (Af toks toks.length 10 x) [];have e:(A6 toks toks.length x).1=c.map (Ag toks):=by unfold A6;simpa using b
 rw [e] at a;obtain ⟨p,_,rfl⟩:=List.mem_map.1 a;exact KV H p
theorem Wm{x:PS}(h:(Bw toks toks.length x).2.m8=false):x.m8=false∧x.next<(Bw toks toks.length x).2.next∧(∃d,XL (Bw toks toks.length x).1=d.map (Ag toks)∧Lp x.next (Bw toks toks.length x).2.next d)∧(Bw toks toks.length x).1.sr.a9.size≤N∧(∀t,t∈(Bw toks toks.length x).1.args→t.a9.size≤N)∧x.next+(Bw toks toks.length x).1.args.length≤(Bw toks toks.length x).2.next:=by
 have T:=fun (k:Nat) (b:k≠0) {x:PS} (h:(Af toks toks.length k x).m8=false)=>Cu b h
 have Z:(Bj:PT).a9.size≤N:=Nat.zero_le _;unfold Bw at h⊢;split at h
 ·rename_i b;rw [if_pos b];have t:=T 5 (by decide) h;simp only at t⊢;exact ⟨t.1,by omega,⟨[],rfl,show x.next≤_ by omega⟩,Z,by simp,by simp;omega⟩
 rename_i v;rw [if_neg v];split at h
 ·rename_i b;rw [if_pos b];unfold DM at h⊢;simp only at h⊢;split at h
  ·rename_i j;rw [if_pos j];have m:=T 2 (by decide) h;have g:=T 19 (by decide) m.1;have c:=T 1 (by decide) g.1;have a:=T 16 (by decide) c.1;simp only;refine ⟨a.1,by omega,⟨[(Af toks toks.length 16 x).next],by simp [XL,c.2.2.1],⟨by omega,show _≤_ by omega⟩⟩,(Du H _ _).1,by simp,by simp;omega⟩
  ·rename_i j;rw [if_neg j];have c:=T 1 (by decide) h;have a:=T 16 (by decide) c.1;simp only;refine ⟨a.1,by omega,⟨[(Af toks toks.length 16 x).next],by simp [XL,c.2.2.1],⟨by omega,show _≤_ by omega⟩⟩,(Du H _ _).1,by simp,by simp;omega⟩
 rename_i p;rw [if_neg p];split at h
 ·rename_i b;rw [if_pos b];have c:=T 1 (by decide) h;have a:=T 17 (by decide) c.1;simp only at c⊢;refine ⟨a.1,by omega,⟨[(Af toks toks.length 17 x).next],by simp [XL,c.2.2.1],⟨by omega,show _≤_ by omega⟩⟩,(Du H _ _).1,by simp,by simp;omega⟩
 rename_i r;rw [if_neg r];split at h
 ·rename_i b;rw [if_pos b];have c:=T 1 (by decide) h;have a:=T 18 (by decide) c.1;simp only at c⊢;refine ⟨a.1,by omega,⟨[(Af toks toks.length 18 x).next],by simp [XL,c.2.2.1],⟨by omega,show _≤_ by omega⟩⟩,(Du H _ _).1,by simp,by simp;omega⟩
 rename_i s;rw [if_neg s];split at h
 ·rename_i b;rw [if_pos b];unfold GI at h⊢;simp only at h⊢;obtain ⟨l,d,e,f,w⟩:=G7 h;have m:=T 11 (by decide) l;have g:=T 1 (by decide) m.1;have c:=T 17 (by decide) g.1;have a:=T 10 (by decide) c.1;have q:=f.le;have y:(A6 toks toks.length (Af toks toks.length 11 (Af toks toks.length 1 (Af toks toks.length 17 (Af toks toks.length 10 x))))).1.length=d.length:=by rw [e];simp
  refine ⟨a.1,by omega,⟨(Af toks toks.length 17 (Af toks toks.length 10 x)).next::d,by simp [XL,g.2.2.1,e],⟨by omega,f.left (by omega)⟩⟩,(Du H _ _).1,fun t i=>(N7 H t i).1,by omega⟩
 rename_i n;rw [if_neg n];split at h
 ·rename_i b;rw [if_pos b];simp only at h⊢;obtain ⟨l,d,e,f,w⟩:=G7 h;have a:=T 1 (by decide) l;have q:=f.le;have y:(A6 toks toks.length (Af toks toks.length 1 x)).1.length=d.length:=by rw [e];simp
  refine ⟨a.1,by omega,⟨x.next::d,by simp [XL,a.2.2.1,e],⟨by omega,f.left (by omega)⟩⟩,(Du H _ _).1,fun t i=>(N7 H t i).1,by omega⟩
 ·rename_i b;rw [if_neg b];have a:=T 1 (by decide) h;simp only at a⊢;refine ⟨a.1,by omega,⟨[x.next],by simp [XL,a.2.2.1],⟨by omega,show _≤_ by omega⟩⟩,(Du H _ _).1,by simp,by simp;omega⟩
include o u
theorem Qh{x:PS}(h:(AF toks toks.length x).2.m8=false)(e:(AF toks toks.length x).2.next<toks.length):x.m8=false∧x.next<(AF toks toks.length x).2.next∧(AF toks toks.length x).1.kind≤10∧Y5 (AF toks toks.length x).1∧∃g,Yd (AF toks toks.length x).1=g.map (Ag toks)∧Lp x.next (AF toks toks.length x).2.next g:=by
 have T:=fun (k:Nat) (c:k≠0) {x:PS} (h:(Af toks toks.length k x).m8=false)=>Cu c h
 have l:(Bj:PT).a9.size≤4000:=Nat.zero_le _;have n:(Bj:PT).c9≤4000:=Nat.zero_le _;have d:=fun (k:Nat) (x:PS)=>Nat.le_trans (Du H k x).1 o
 have i:=fun (k:Nat) (x:PS)=>Nat.le_trans (Du H k x).2 o
 unfold AF at h e⊢;split at h
 ·rename_i c;rw [if_pos c];have a:=T 1 (by decide) h;have b:=T 4 (by decide) a.1;simp only at a⊢;exact ⟨b.1,by omega,by omega,⟨d _ _,i _ _,l,by simp,by simp⟩,[(Af toks toks.length 4 x).next],by simp [Yd,a.2.2.1],⟨by omega,show _≤_ by omega⟩⟩
 rename_i r;rw [if_neg r] at e⊢;split at h
 ·rename_i c;rw [if_pos c];have a:=T 1 (by decide) h;have b:=T 6 (by decide) a.1;simp only at a⊢;exact ⟨b.1,by omega,by omega,⟨l,n,d _ _,by simp,by simp⟩,[(Af toks toks.length 6 x).next],by simp [Yd,a.2.2.1],⟨by omega,show _≤_ by omega⟩⟩
 rename_i s;rw [if_neg s] at e⊢;split at h
 ·rename_i c;rw [if_pos c];have j:=T 1 (by decide) h;have w:=T 15 (by decide) j.1;have a:=T 1 (by decide) w.1;have b:=T 17 (by decide) a.1;simp only at j⊢;exact ⟨b.1,by omega,by omega,⟨d _ _,i _ _,d _ _,by simp,by simp⟩,[(Af toks toks.length 17 x).next,(Af toks toks.length 15 (Af toks toks.length 1 (Af toks toks.length 17 x))).next],by simp [Yd,a.2.2.1,j.2.2.1],⟨by omega,by omega,show _≤_ by omega⟩⟩
 ·rename_i q;rw [if_neg q] at e⊢;simp only at h e⊢;have D:=OU toks toks.length (Af toks toks.length 15 (Af toks toks.length 1 x));obtain ⟨y,E,⟨g,z,A⟩,B,C,F⟩:=Wm H h;have a:=T 15 (by decide) y;have b:=T 1 (by decide) a.1;generalize (Bw toks toks.length (Af toks toks.length 15 (Af toks toks.length 1 x))).1=v at*;refine ⟨b.1,by omega,by omega,⟨d _ _,i _ _,Nat.le_trans B o,fun t p=>Nat.le_trans (C t p) o,by simp only;omega⟩,x.next::g,?_,⟨by omega,A.left (by omega)⟩⟩;rw [List.map_cons,←z,b.2.2.1];unfold Yd XL;simp only;by_cases m:v.kind=1
  ·simp [m]
  ·rw [if_neg (by omega),if_neg (by omega),if_neg m];by_cases f:v.kind=7∨v.kind=8
   ·rw [if_pos f,if_pos f]
   ·rw [if_neg f,if_neg f]
omit H o u in
theorem Zf{p}(h:Bb (Ag toks p).kind):p<toks.length:=by
 rcases Nat.lt_or_ge p toks.length with q | q
 ·exact q
 ·unfold Ag at h;rw [List.getElem?_eq_none q] at h;simp [Bb,Bj] at h
theorem Sg:∀f:Nat,
 (∀(x:PS) (l:List TS),x.next<toks.length→2*(toks.length-x.next)+1≤f→(AB toks toks.length f x l).2.m8=false→x.m8=false∧∃j,(AB toks toks.length f x l).1=l++j∧CH (BS toks f) x.next (AB toks toks.length f x l).2.next j)∧
 (∀(x:PS),x.next<toks.length→2*(toks.length-x.next)≤f→(AV toks toks.length f x).2.m8=false→x.m8=false∧BS toks f x.next (AV toks toks.length f x).2.next (AV toks toks.length f x).1):=by
 have T:=fun (k:Nat) (hk:k≠0) {x:PS} (h:(Af toks toks.length k x).m8=false)=>Cu hk h
 have c:=fun (k:Nat) {x:PS} (hc:x.next<toks.length)=>Ah (n:=toks.length) H.end_ k hc
 intro f;induction f with
 | zero=>exact ⟨fun x l d G=>by omega,fun x d G=>by omega⟩
 | succ f s=>
   refine ⟨fun x l d G h=>?_,fun x d G h=>?_⟩
   ·rw [AB] at h⊢;split at h
    ·rename_i w;rw [if_pos w];obtain ⟨C,a0⟩:∃C,f=C+1:=⟨f-1,by omega⟩;have hm:x.next+1≤(AV toks toks.length f x).2.next:=by subst a0;exact He H.end_ C d w
     have hg:=Fx H.end_ f x d;obtain ⟨A,j,O,B⟩:=s.1 _ _ hg.2 (by omega) h;obtain ⟨X,Y⟩:=s.2 x d (by omega) A;exact ⟨X,(AV toks toks.length f x).1::j,by rw [O];simp,.cons Y.up (B.mono (fun _ _ _ q=>q.up))⟩
    ·rename_i w;rw [if_neg w];exact ⟨h,[],by simp,.nil (Nat.le_refl _)⟩
   ·have a:=(Fx H.end_ (f+1) x d).2;rw [AV] at h a⊢;split at h
    ·rename_i y;rw [if_pos y] at a⊢;simp only at h a⊢;have m1:=BE (n:=toks.length) y (by decide);have F:=c 7 d;have m:=c 20 F.2;have g:=c 12 m.2;have P:=Bo H.end_ f _ [] g.2;have Q:=c 13 P.2;have i1:=s.1 (Af toks toks.length 12 (Af toks toks.length 20 (Af toks toks.length 7 x))) [] g.2 (by have:=m.1;have:=g.1;omega);have N:(Af toks toks.length 13 (AB toks toks.length f (Af toks toks.length 12 (Af toks toks.length 20 (Af toks toks.length 7 x))) []).2).m8=false→x.m8=false∧x.next+2=(Af toks toks.length 20 (Af toks toks.length 7 x)).next∧(Ax toks 12 (Af toks toks.length 20 (Af toks toks.length 7 x)))=Ag toks (Af toks toks.length 20 (Af toks toks.length 7 x)).next∧CH (BS toks f) ((Af toks toks.length 20 (Af toks toks.length 7 x)).next+1) (AB toks toks.length f (Af toks toks.length 12 (Af toks toks.length 20 (Af toks toks.length 7 x))) []).2.next (AB toks toks.length f (Af toks toks.length 12 (Af toks toks.length 20 (Af toks toks.length 7 x))) []).1∧(AB toks toks.length f (Af toks toks.length 12 (Af toks toks.length 20 (Af toks toks.length 7 x))) []).2.next+1=(Af toks toks.length 13 (AB toks toks.length f (Af toks toks.length 12 (Af toks toks.length 20 (Af toks toks.length 7 x))) []).2).next:=by intro h;have K:=T 13 (by decide) h;obtain ⟨t,j,e,b⟩:=i1 K.1;have i:=T 12 (by decide) t;have J:=T 20 (by decide) i.1;have v:=T 7 (by decide) J.1;simp only [List.nil_append] at e;rw [e];rw [i.2.1] at b;exact ⟨v.1,by omega,i.2.2.1,b,by omega⟩
     have a8:x.next+1≤(Af toks toks.length 13 (AB toks toks.length f (Af toks toks.length 12 (Af toks toks.length 20 (Af toks toks.length 7 x))) []).2).next:=by have:=m.1;have:=g.1;have:=P.1;have:=Q.1;omega
     generalize Af toks toks.length 20 (Af toks toks.length 7 x)=M at*;generalize AB toks toks.length f (Af toks toks.length 12 M) []=r at*;split at h
     ·rename_i I;rw [if_pos I] at a⊢;simp only at h a⊢;have R:=c 8 Q.2;have S:=c 12 R.2;have i2:=s.1 (Af toks toks.length 12 (Af toks toks.length 8 (Af toks toks.length 13 r.2))) [] S.2 (by have:=R.1;have:=S.1;omega);have w5:=T 13 (by decide) h;obtain ⟨t,a7,e,b⟩:=i2 w5.1;have L:=T 12 (by decide) t;have w2:=T 8 (by decide) L.1;obtain ⟨D,Z,E,p,f5⟩:=N w2.1;simp only [List.nil_append] at e;rw [L.2.1] at b;have l1:=p.le (fun _ _ _ q=>q.lt);have l2:=b.le (fun _ _ _ q=>q.lt);refine ⟨D,by omega,a,.inr (.inr ⟨M.next,r.1,r.2.next,(Af toks toks.length 8 (Af toks toks.length 13 r.2)).next,a7,_,?_,rfl,by omega,p,by omega,b,by omega⟩)⟩;rw [E,L.2.2.1,e]
     ·rename_i I;rw [if_neg I] at a⊢;simp only at h a⊢;obtain ⟨D,Z,E,p,f5⟩:=N h;have l1:=p.le (fun _ _ _ q=>q.lt);refine ⟨D,by omega,a,.inr (.inl ⟨M.next,r.1,r.2.next,?_,.inl rfl,by omega,p,by omega⟩)⟩;rw [E]
    ·rename_i y;rw [if_neg y] at a⊢;split at h
     ·rename_i z;rw [if_pos z] at a⊢;simp only at h a⊢;have m1:=BE (n:=toks.length) z (by decide);have F:=c 9 d;have m:=c 20 F.2;have g:=c 12 m.2;have K:=T 13 (by decide) h;obtain ⟨t,j,e,b⟩:=s.1 _ [] g.2 (by have:=m.1;have:=g.1;omega) K.1;have i:=T 12 (by decide) t;have J:=T 20 (by decide) i.1;have v:=T 9 (by decide) J.1;have l2:=b.le (fun _ _ _ q=>q.lt);simp only [List.nil_append] at e;rw [i.2.1] at b;refine ⟨v.1,by omega,a,.inr (.inl ⟨(Af toks toks.length 20 (Af toks toks.length 9 x)).next,j,_,?_,.inr rfl,by omega,b,by omega⟩)⟩;rw [i.2.2.1,e]
     ·rename_i z;rw [if_neg z] at a⊢;simp only at h a⊢;have v:=T 14 (by decide) h;obtain ⟨A,O,B,U,ps,V,W⟩:=Qh H o u v.1 (by omega);exact ⟨A,by omega,a,.inl ⟨rfl,B,U,Oe _ _ _,ps,V,W.right (by omega)⟩⟩
end
end Go.Proofs.YtegmjgjkcdbmkaaGreatDoor

/- One of the texts of the proof of texts_card_holds: RdK2 RdN RdO ChA. -/
import Derived.Test.YtmaankfbhhbeoaaGreatDoorG14
import Derived.Test.YtmaankfbhhbeoaaGreatDoorG11
set_option maxRecDepth 100000
set_option maxHeartbeats 2000000
namespace Go.Proofs.YtmaankfbhhbeoaaGreatDoor
open Go.RowKit
theorem SF.value{i c u g n f B}{U:Nat→Prop}{m j l x e o v w d}(h:SF i c u g n f B U m j l x o v w)(z:Ax i c g n f e.i9 e.l6 d)(A:AA g n f m d)(y:Bj c j l e.pl e.ca d)(s:Ab (fun k=>k=i∨k=c) w d):SF i c u g n f B U m j l e o v d:=by
 have r:=h.u5;refine ⟨z,A,y,h.sx.d7 s (fun q=>q.elim r.2.2.1 r.2.2.2.2.1),h.st.d7 s (fun k a q=>q.elim (h.z6 k a).1 (h.z6 k a).2.1) ?_,h.nb⟩;intro k C t D a p;rcases a with a | a
 ·subst a;have b:w.heap[k]? =_:=h.rd;rw [p] at b;simp only [Option.some.injEq,Obj.cells.injEq] at b;rw [b.2.1];decide
 ·subst a;have b:w.heap[k]? =_:=h.pr;rw [p] at b;simp only [Option.some.injEq,Obj.cells.injEq] at b;rw [b.2.1];decide
theorem Hg(a x s):(CM a x s).1.p8=s.p8∧(CM a x s).1.other=s.other:=by
 unfold CM;split
 ·exact ⟨rfl,rfl⟩
 ·split
  ·simp only;split<;>exact ⟨rfl,rfl⟩
  ·split
   ·exact ⟨rfl,rfl⟩
   ·split
    ·exact ⟨rfl,rfl⟩
    ·split
     ·exact ⟨rfl,rfl⟩
     ·simp only;split<;>exact ⟨rfl,rfl⟩
theorem IW{b n}(c:(Ai b (n-1)).sort=0)(x s)(a:x.i9<n):(CM b x s).2.i9<n:=by
 have E:∀(L:List UInt8) (x:St),x.i9<n→(Ao b L x).i9<n:=fun L x h=>Bo rfl c h
 have G:∀(k:Nat) (x:St),k≠0→x.i9<n→(Bc b k x).2.i9<n:=fun k x d h=>C5 (q:=(Bc b k x).1) rfl d c h
 have I:∀(x:St),x.i9<n→(Bv b x).2.i9<n:=fun x h=>DB (q:=(Bv b x).1) rfl c h
 unfold CM;split
 ·exact E _ _ a
 ·split
  ·simp only;split
   ·exact G _ _ (by decide) (E _ _ (G _ _ (by decide) (E _ _ a)))
   ·exact G _ _ (by decide) (E _ _ a)
  ·split
   ·exact G _ _ (by decide) (E _ _ a)
   ·split
    ·exact G _ _ (by decide) (E _ _ a)
    ·split
     ·exact I _ (E _ _ (E _ _ (G _ _ (by decide) (E _ _ (E _ _ a)))))
     ·simp only;split
      ·exact I _ (E _ _ (G _ _ (by decide) a))
      ·exact G _ _ (by decide) a
def Fq(n:Nat)(x:St)(m:Nat):Prop:=x.i9<n∧x.pl≤n∧x.ca≤n∧m≤n∧(x.l6=none→x.pl≤x.i9∧x.ca≤x.i9∧m≤x.i9)
theorem Fq.t6{n m k:Nat}{x y:St}(h:Fq n x m)(q:Ds k x y)(f:y.i9<n):Fq n y m:=by obtain ⟨i,j,l,c,d⟩:=h;obtain ⟨o,p,r,g⟩:=q;refine ⟨f,by omega,by omega,c,fun e=>?_⟩;have a:=g e;have b:=d a.1;omega
theorem Jn{a n}(c:(Ai a (n-1)).sort=0)(e x)(b:x.i9<n):(Bw a e x).2.i9<n:=by
 have E:∀(L:List UInt8) (x:St),x.i9<n→(Ao a L x).i9<n:=fun L x h=>Bo rfl c h
 have G:∀(k:Nat) (x:St),k≠0→x.i9<n→(Bc a k x).2.i9<n:=fun k x d h=>C5 (q:=(Bc a k x).1) rfl d c h
 unfold Bw;split
 ·exact G _ _ (by decide) (E _ _ b)
 ·split
  ·exact G _ _ (by decide) (E _ _ b)
  ·split
   ·exact G _ _ (by decide) (E _ _ (G _ _ (by decide) (E _ _ b)))
   ·exact IW c _ _ (E _ _ (G _ _ (by decide) b))
theorem CA{a n}(M:(Ai a (n-1)).sort=0):∀f:Nat,
 (∀(c:Nat) (x:St) (d:List FS) (g:List Nat),Fq n x d.length→Fq n (As a f c x d g).2.1 (As a f c x d g).2.2.length∧x.i9≤(As a f c x d g).2.1.i9∧d.length≤(As a f c x d g).2.2.length)∧
 (∀(c:Nat) (x:St) (d:List FS),Fq n x d.length→x.l6=none→Fq n (AO a f c x d).2.1 (AO a f c x d).2.2.length∧x.i9≤(AO a f c x d).2.1.i9∧d.length≤(AO a f c x d).2.2.length∧(f≠0→(AO a f c x d).2.1.l6=none→x.i9<(AO a f c x d).2.1.i9)):=by
 have E:=AR a;have C:∀(L:List UInt8) (x:St),x.i9<n→(Ao a L x).i9<n:=fun L x h=>Bo rfl M h
 intro f;induction f with
 | zero=>
   refine ⟨fun c x d g h=>?_,fun c x d h _=>?_⟩
   ·rw [As];exact ⟨h,Nat.le_refl _,Nat.le_refl _⟩
   ·rw [AO];exact ⟨h,Nat.le_refl _,Nat.le_refl _,fun q=>absurd rfl q⟩
 | succ f o=>
   refine ⟨fun c x d g h=>?_,fun c x d h A=>?_⟩
   ·rw [As];split
    ·exact ⟨h,Nat.le_refl _,Nat.le_refl _⟩
    ·rename_i X;have A:x.l6=none:=by
      cases Y:x.l6 with
      | none=>rfl
      | some b=>exact absurd (.inl (by simp [Y])) X
     obtain ⟨k,v,w,_⟩:=o.2 c x d h A;obtain ⟨l,F,G⟩:=o.1 c _ _ (g++[(AO a f c x d).1]) k;exact ⟨l,Nat.le_trans v F,Nat.le_trans w G⟩
   ·have hi:=h;obtain ⟨K,h2,h3,h4,W⟩:=h;obtain ⟨p1,p2,p3⟩:=W A;rw [AO];split
    ·simp only;have j:=((E (AB (Ai a x.i9)) x).trans (E [63] _)).trans (E [123] (Ao a [63] (Ao a (AB (Ai a x.i9)) x)));have y:=C [63] _ (C (AB (Ai a x.i9)) x K);have S:=C [123] _ y;generalize Ao a [63] (Ao a (AB (Ai a x.i9)) x)=Z at*;generalize Ao a [123] Z=p at*;have P:Fq n p (d++[BQ 0 0]).length:=by obtain ⟨z,m,V,I⟩:=j;refine ⟨S,by omega,by omega,by simp;omega,fun e=>?_⟩;have:=I e;simp only [List.length_append,List.length_cons,List.length_nil];omega
     obtain ⟨k,v,w⟩:=o.1 c p (d++[BQ 0 0]) [] P;generalize As a f c p (d++[BQ 0 0]) []=r at*;have a0:d.length+1≤r.2.2.length:=by simpa using w
     have s:=E [125] r.2.1;have H:=C [125] r.2.1 k.1;have u:=k.t6 s H;generalize Ao a [125] r.2.1=i at*;have z:p.i9≤i.i9:=Nat.le_trans v s.1;have m:i.l6=none→x.i9<i.i9:=fun e=>by have q:=s.2.2.2 e;have:=j.1;omega
     split
     ·split
      ·have D:=(E Dg i).trans (E [123] (Ao a Dg i));have T:=C [123] _ (C Dg i H);generalize Ao a Dg i=x4 at*;generalize Ao a [123] x4=N at*;have Q:=u.t6 D T;obtain ⟨l,F,G⟩:=o.1 c N r.2.2 [] Q;generalize As a f c N r.2.2 []=B at*;have t:=E [125] B.2.1;have U:=C [125] B.2.1 l.1;have R:=l.t6 t U;generalize Ao a [125] B.2.1=x5 at*;have:=j.1;have:=D.1;have:=t.1;refine ⟨by simpa using R,by simp only;omega,by simp only [List.length_set];omega,fun _ e=>?_⟩;have q:=t.2.2.2 e;simp only;omega
      ·have:=j.1;exact ⟨by simpa using u,by simp only;omega,by simp only [List.length_set];omega,fun _ e=>m e⟩
     ·have:=j.1;exact ⟨by simpa using u,by simp only;omega,by simp only [List.length_set];omega,fun _ e=>m e⟩
    ·simp only;have O:=(IG a c x).ahead (E [59] (Bw a c x).2);have y:=C [59] _ (Jn M c x K);generalize Ao a [59] (Bw a c x).2=x1 at*;obtain ⟨z,m,V,I,g5,J⟩:=O;refine ⟨⟨y,by omega,by omega,by simp;omega,fun e=>?_⟩,z,by simp,fun _ e=>?_⟩
     ·have:=J e;simp only [List.length_set,List.length_append,List.length_cons,List.length_nil];omega
     ·have:=J e;omega
def Eh(f:Nat):Prop:=∀(h d g n b B k:Nat) (U:Nat→Prop) (a:List Tk) (j i:Value) (x:St) (c:List FS) (w:World),Ax h d g n b x.i9 x.l6 w→AA g n b a w→Bj d j i x.pl x.ca w→A2 B U w i c→B≤w.heap.size→(Ai a (n-1)).sort=0→Fq n x c.length→x.l6=none→2*(n-x.i9)≤f→
 Calls Tryz.prog 47 #[.pointer (some ⟨h,0,none⟩),.int .i64 k] w fun e l=>Jy h d g n b B U a j i w (AO a f k x c) e l
def LA(i d g n h B:Nat)(U:Nat→Prop)(m:List Tk)(j l:Value)(w:World)(p:Nat)(r:List Nat×St×List FS)(e:Ending)(a:World):Prop:=
 ∃f c b,(∀k,U k→b k)∧(∀k,b k→U k∨w.heap.size≤k)∧(∀k,c.ownBlock=some k→¬b k)∧e=.returned (.tuple #[.int .i64 p,c])∧Bs w.heap.size a c r.1∧Ax i d g n h r.2.1.i9 r.2.1.l6 a∧AA g n h m a∧Bj d j f r.2.1.pl r.2.1.ca a∧A2 B b a f r.2.2∧Da i d l f w a
def Hx(a n:Nat)(w:World):Nat:=2*(n-Hb a w)+(match w.cell? ⟨a,2,none⟩ with | some v=>if intOf v<0 then 1 else 0 | none=>0)
theorem D9{f j g n i c a w}(h:Ax f j g n i c a w):Hx f n w=2*(n-c)+(if a=none then 1 else 0):=by
 have d:=Aj h 2;simp only [Ni,Ng,Nh] at d;unfold Hx;rw [Gp h,d];cases a with
 | none=>rfl
 | some b=>
   have e:¬(intOf (Value.int .i64 (Dv (some b)))<0):=by show¬((b:Int)<0);omega
   simp only;rw [if_neg e,if_neg (by simp)]
theorem A2.below{B}{U:Nat→Prop}{w f a}(h:A2 B U w f a):A2 B (fun k=>U k∧k<w.heap.size) w f a:=by
 obtain ⟨l,s,p,r⟩:=h;refine ⟨l,s,p,fun i m n=>?_⟩;obtain ⟨g,j,u,o,b,c,e,t⟩:=r i m n;refine ⟨g,j,u,o,b,c,e,fun k d=>⟨t k d,?_⟩⟩;rcases d with q | q | q
 ·exact (b.lt k q).2
 ·exact (c.lt k q).2
 ·exact (e.lt k q).2
theorem A2.rb{e s g n m c B}{U:Nat→Prop}{b j f w l}(h:A2 B U w j f)(i:Ax e s g n m c b w)(q:Ab (fun k=>k=e) w l):A2 B U l j f:=by
 refine h.d7 q (fun k a=>?_) (fun k o t u a p=>?_)
 ·obtain ⟨o,r,_⟩:=h;exact Az r i (by decide) k a
 ·have a:k=e:=a;subst a;have d:w.heap[k]? =_:=i;rw [p] at d;simp only [Option.some.injEq,Obj.cells.injEq] at d;rw [d.2.1];decide
theorem A2.m8{B}{U:Nat→Prop}{b a w c}(h:A2 B U w b a)(d:Ab (fun _=>False) w c):A2 B U c b a:=h.d7 d (fun _ _ q=>q) (fun _ _ _ _ q=>q.elim)
theorem KQ{U:Nat→Prop}{m f g n q c b B j A p s i C v l r w o}(h:Bs j w v l)(x:Ax m f g n q c b w)(u:Bj f s i A p w)(z:A2 B U w i r)(t:Da m f i C w o):Bs j o v l:=by
 obtain ⟨D,y,_⟩:=z;refine Am h t.d7 (fun k d e a=>?_);rcases a with a | a | a
 ·exact BD x.i6 (by decide) k d e a
 ·exact BD u.i6 (by decide) k d e a
 ·exact FF y (by decide) k d e a
theorem Da.owned{d c:Nat}{e f v:Value}{w g i:World}(h:Da d c e f w g)(a:Ab (fun k=>v.ownBlock=some k) g i)(j:∀k,v.ownBlock=some k→w.heap.size≤k):Da d c e f w i:=by refine ⟨⟨a.os.trans h.d7.os,a.tape.trans h.d7.tape,a.output.trans h.d7.output,Nat.le_trans h.d7.size a.size,fun k b l=>?_⟩,h.own⟩;rw [a.block k (Nat.lt_of_lt_of_le b h.d7.size) (fun q=>by have:=j k q;omega)];exact h.d7.block k b l
theorem IK{c k d x a b}(h:x.l6≠none∨AW x.l6 (Ai c x.i9) [125]=true):As c k d x a b=(b,x,a):=by
 cases k with
 | zero=>rw [As]
 | succ k=>rw [As,if_pos h]
theorem GP(f:Nat)(ih:∀k,k≤f→Eh k)(l d g n p B r:Nat)(U:Nat→Prop)(c:List Tk)(Z R:Value)(j:St)(D:List FS)(w:World)(K:Ax l d g n p j.i9 j.l6 w)(ht:AA g n p c w)(hp:Bj d Z R j.pl j.ca w)(d6:A2 B U w R D)(hU:∀k,U k→k<w.heap.size)(hB:B≤w.heap.size)(hz:(Ai c (n-1)).sort=0)(b3:Fq n j D.length)(hf:j.l6=none→2*(n-j.i9)≤f):
 Calls Tryz.prog 30 #[.pointer (some ⟨l,0,none⟩),.int .i64 r] w fun e w'=>LA l d g n p B U c Z R w (Ai c j.i9).pos ((As c f r (Ao c [123] j) D []).1,Ao c [125] (As c f r (Ao c [123] j) D []).2.1,(As c f r (Ao c [123] j) D []).2.2) e w':=by
 obtain ⟨i0,hi,f8,f9,g0⟩:=info_parts Tryz.infoInt;have b2:=b3.1;have hn:=ht.2.2;obtain ⟨t0,t1,t2⟩:=ht.cells b2;have r0:=K.i6.cell 0;have r1:=K.i6.cell 1;simp at r0 r1;have lr:=Ad K;have lp:=Ad hp;obtain ⟨V,hV⟩:∃V,As c f r (Ao c [123] j) D []=V:=⟨_,rfl⟩;rw [hV];have HV:=Aa hV;have s:=Aa K;have I:=Aa ht;have T:=Aa hp;have c7:=Aa d6;have HZ:=Aa hz;have c0:=Aa b3;have b8:=Aa hf;have IH:=Aa ih;have d1:=Aa hU;clear hV K ht hp d6 hz b3 hf ih hU;generalize f6:(Ai c j.i9).pos=h2 at*;clear f6;go_enter Tryz.func30,Tryz.ntmps30;go_wp2;go_quiet (fail);go_wp2_with fail;refine (EG l d g n p j.i9 j.l6 c _ [123] (by simp) (w.drewN nq) s.o I.o b2).mono ?_;rintro e w1 ⟨rfl,K,ho⟩;obtain ⟨y,a1⟩:∃z,Ao c [123] j=z:=⟨_,rfl⟩;have e9:=Aa a1;have hg:=AR c [123] j;have f0:y.i9<n:=Bo a1 HZ.o b2;rw [a1] at hg;have b9:Nj (Fq n y D.length):=c0.o.t6 hg f0;have d0:Nj (y.l6=none→2*(n-y.i9)+1≤f):=fun e=>by have q:=hg.2.2.2 e;have:=b8.o q.1;omega
 have O:Ax l d g n p y.i9 y.l6 w1:=by subst a1;exact K
 have c3:=Aa O;have b4:=(I.o.ne s.o (by decide));have b5:d≠l:=T.o.i6.ne s.o.i6 (by decide);have c8:=Aa (AA.d7 (w:=w.drewN nq) I.o ho b4);have c2:Nj (Bj d Z R y.pl y.ca w1):=by have:=Bj.i6 (w:=w.drewN nq) T.o;have q:=this.d7 ho b5;rw [hg.2.1,hg.2.2.1];exact q
 have c5:=Aa (A2.rb (w:=w.drewN nq) c7.o s.o ho);have b0:=Aa ((Da.refl l d R w).drewN nq |>.tr ho);have d2:Nj (As c f r y D []=V):=by rw [←a1];exact HV.o
 clear K ho a1 O hg HV s I T c7 c0 b8 t0 t1 t2 r0 r1;go_wp2_with fail;go_loopw [7] (fun v wr=>∃(k:Nat) (a:St) (J:List FS) (G:List Nat) (M:Value) (C:Nat→Prop),Nj ((∀k,U k→C k)∧(∀k,C k→U k∨w.heap.size≤k)∧(∀k,C k→k<wr.heap.size)∧∀k,v.ownBlock=some k→¬C k)∧Nj (Ax l d g n p a.i9 a.l6 wr)∧Nj (AA g n p c wr)∧Nj (Bj d Z M a.pl a.ca wr)∧Nj (A2 B C wr M J)∧Nj (Da l d R M w wr)∧Nj (Bs w.heap.size wr v G)∧Nj (Fq n a J.length)∧Nj (a.l6=none→2*(n-a.i9)+1≤k∧G.length≤a.i9)∧k≤f∧G.length≤n∧Nj (As c k r a J G=V)) (fun _ wr=>Hx l n wr)
 case atStart=>exact ⟨f,y,D,[],R,U,⟨fun _ h=>h,fun _ h=>.inl h,fun k h=>by have:=d1.o k h;have:=b0.o.d7.size;omega,fun k h=>by simp [Value.ownBlock] at h⟩,c3,c8,c2,c5,b0,World.ownsRow_nil _ _ _ _,b9,fun e=>⟨d0.o e,by simp⟩,Nat.le_refl _,by simp,d2⟩
 case round=>
  obtain ⟨k,a,J,G,M,C,A,s,I,T,HS,HF,HN,HI,HU,g7,g9,HC⟩:=hrel;clear c3 c8 c2 c5 b0 b9 d0 d2 e9;have b1:=HI.o.1;go_wp2_with fail;refine (Jm l d g n p a.i9 a.l6 c _ [125] (by simp) wr s.o I.o b1).mono ?_;rintro e S ⟨rfl,N⟩;have t:=Aa (s.o.d7 N (fun q=>q));have X:=Aa (I.o.d7 N (fun q=>q));have a4:Nj (Bj d Z M a.pl a.ca S):=T.o.i6.d7 N (fun q=>q);have a6:=Aa (HS.o.m8 N);have a2:=Aa (HF.o.trans (Da.q9 (N.mono (fun _ _ q=>q.elim))));have a3:Nj (Bs w.heap.size S u7 G):=Ac HN.o N (fun _ _ q=>q);have HM:=Aa (D9 s.o);clear s I T HS HF HN N;have r2:=t.o.i6.cell 2;simp at r2;by_cases P:a.l6≠none∨AW a.l6 (Ai c a.i9) [125]=true
  ·have hv:V=(G,a,J):=by rw [←HC.o,IK P]
   subst hv;have f1:(∃b:Nat,a.l6=some b∧AW a.l6 (Ai c a.i9) [125]=false)∨AW a.l6 (Ai c a.i9) [125]=true:=by
    cases Q:a.l6 with
    | none=>right;rcases P with q | q;exact absurd Q q;rw [Q] at q;exact q
    | some b=>left;exact ⟨b,rfl,rfl⟩
   clear P HC HU HM;rcases f1 with ⟨b,E,u⟩ | u
   ·rw [u];rw [E] at r2;simp only [Dv] at r2;have g6:decide ((0:Int)≤(b:Int))=true:=by simp
    have e3:=Aa u;have g5:=Aa E;clear u E;go_wp2_with fail;refine (EG l d g n p a.i9 a.l6 c _ [125] (by simp) S t.o X.o b1).mono ?_;rintro e H ⟨rfl,F,a7⟩;have a5:=Aa F;have o:=Aa a7;clear F a7;go_wp2_with fail;go_ret2;refine ⟨M,u7,C,A.o.1,A.o.2.1,A.o.2.2.2,rfl,?_,a5.o,X.o.d7 o.o b4,a4.o.i6.d7 o.o b5,a6.o.rb t.o o.o,a2.o.tr o.o⟩;exact Am a3.o o.o (fun k ds fz m=>BD t.o.i6 (by decide) k ds fz m)
   ·rw [u];have e3:=Aa u;clear u;go_wp2_with fail;refine (EG l d g n p a.i9 a.l6 c _ [125] (by simp) S t.o X.o b1).mono ?_;rintro e H ⟨rfl,F,a7⟩;have a5:=Aa F;have o:=Aa a7;clear F a7;go_wp2_with fail;go_ret2;refine ⟨M,u7,C,A.o.1,A.o.2.1,A.o.2.2.2,rfl,?_,a5.o,X.o.d7 o.o b4,a4.o.i6.d7 o.o b5,a6.o.rb t.o o.o,a2.o.tr o.o⟩;exact Am a3.o o.o (fun k ds fz m=>BD t.o.i6 (by decide) k ds fz m)
  ·have E:a.l6=none:=by
    cases Q:a.l6 with
    | none=>rfl
    | some b=>exact absurd (.inl (by simp [Q])) P
   have u:AW a.l6 (Ai c a.i9) [125]=false:=by
    cases hq:AW a.l6 (Ai c a.i9) [125] with
    | false=>rfl
    | true=>exact absurd (.inr hq) P
   have g8:=HU.o E
   obtain ⟨L,f3⟩:∃L,k=L+1:=⟨k-1,by omega⟩
   subst f3
   obtain ⟨ri,rx,rf,O⟩:∃i x f,AO c L r a J=(i,x,f):=⟨_,_,_,rfl⟩
   have W:=Aa ((CA HZ.o L).2 r a J HI.o E)
   rw [O] at W
   have e0:Nj (As c L r rx rf (G++[ri])=V):=by have:=HC.o;rw [As,if_neg P,O] at this;exact this
   rw [u]
   rw [E] at r2
   simp only [Dv] at r2
   have HB:=Aa E
   have e6:=Aa O
   have h1:w.heap.size≤S.heap.size:=a2.o.d7.size
   clear u E P HC HU O
   go_wp2_with fail
   refine (IH.o L (by omega) l d g n p B r C c Z M a J S t.o X.o a4.o a6.o (by omega) HZ.o HI.o HB.o (by omega)).mono ?_
   rw [e6.o]
   rintro e H ⟨g4,U2,d9,b7,rfl,F,d8,b6,d7,a9⟩
   have a0:=KQ a3.o t.o a4.o a6.o a9
   have d4:=Az a0 F (by decide)
   have d5:=Az a0 b6 (by decide)
   have h0:S.heap.size≤H.heap.size:=a9.d7.size
   have a5:=Aa F
   have c9:=Aa d8
   have e4:=Aa b6
   have c6:=Aa d7.below
   have e1:=Aa (a2.o.trans a9)
   have c1:=Aa (And.intro d4 d5)
   have a8:Nj ((∀k,U k→U2 k∧k<H.heap.size)∧(∀k,U2 k∧k<H.heap.size→U k∨w.heap.size≤k)∧∀k,u7.ownBlock=some k→¬(U2 k∧k<H.heap.size)):=by
    refine ⟨fun k h=>⟨d9 k (A.o.1 k h),?_⟩,fun k h=>?_,fun k h q=>?_⟩
    ·have:=d1.o k h;omega
    ·rcases b7 k h.1 with q | q
     ·exact A.o.2.1 k q
     ·exact .inr (by omega)
    ·rcases b7 k q.1 with q' | q'
     ·exact A.o.2.2.2 k h q'
     ·have:=(a3.o.lt k h).2;omega
   clear d9 b7 F d8 b6 d7 a9 d4 d5 a3 t X a4 a6 a2 r2
   go_wp2_with (at_builtin;refine EU _ rfl _ _ 53 rfl w.heap.size 3 i0 (.int .i64 0) 1 8 Tryz.underlying53 hi f8 f9 g0 rfl (by decide) _ _ _ rfl (a0.alloc _) ⟨H.heap.size,0,none⟩ 1 1 [.int .i64 (ri:Int)] rfl rfl (cell_one_new _ _ _) (fun x Q=>by simp at Q;subst Q;rfl) (by decide) (by unfold maxLen;omega) (by omega) (by simp;omega) ?_;intro v' w4 f5 f2 f4)
   have Y:Ab (fun k=>u7.ownBlock=some k) H w4:=Ab.grown ((Ab.refl _ _).alloc _) f2 (fun k m=>.inl m)
   have c4:=Aa (a5.o.d7 Y (fun q=>c1.o.1 l q rfl))
   have e8:=Aa (c9.o.d7 Y (EO c9.o.1 a0 (by decide) g rfl))
   have e5:=Aa (e4.o.i6.d7 Y (fun q=>c1.o.2 d q rfl))
   have e7:=Aa (c6.o.MC Y (fun k m=>by obtain ⟨cs,f7,_⟩:=c6.o;exact EO f7 a0 (by decide) k m) (fun k m q=>a8.o.2.2 k q m))
   have e2:=Aa (e1.o.owned Y (fun k m=>(a0.lt k m).1))
   have d3:L≠0:=by omega
   refine ⟨⟨L,rx,rf,G++[ri],g4,fun k=>U2 k∧k<H.heap.size,⟨a8.o.1,a8.o.2.1,fun k m=>by have:=Y.size;omega,fun k m q=>?_⟩,c4,e8,e5,e7,e2,?_,W.o.1,fun e=>?_,by omega,by simp;omega,e0⟩,?_⟩
   ·rcases f4 k m with q' | q'
    ·exact a8.o.2.2 k q' q
    ·simp at q';omega
   ·show World.ownsRow _ _ _ _ _ _ _
    rw [List.length_append,List.map_append];exact f5
   ·have:=W.o.2.2.2 d3 e
    simp only [List.length_append,List.length_cons,List.length_nil];omega
   ·rw [D9 c4.o,HM.o,if_pos HB.o]
    have g1:=W.o.2.1;have g2:=W.o.2.2.2 d3;have g3:=W.o.1.1;split
    ·rename_i e;have:=g2 e;omega
    ·omega
structure RF where
 name:Tk
 p7:List Tk
 p8:List Nat
 br:Nat
 r6:List ByteArray
def GL(f:RF)(b a c:Value):Array Value:=#[.string f.name.d9,.int .i64 f.name.pos,.int .i64 f.name.sort,b,a,.int .i64 f.br,c]
def Cz(B:Nat)(w:World)(v:Value)(l:List ByteArray):Prop:=w.ownsRow B 9 1 v l.length (l.map Value.string)
def Ib(B:Nat)(w:World)(c:List Value)(f:RF):Prop:=∃b a d,c=(GL f b a d).toList∧CP B w b f.p7∧Bs B w a f.p8∧Cz B w d f.r6
def IX(c:List Value):Value:=c[6]?.getD (.bool false)
def Bt(B:Nat)(w:World)(c:Value)(b:List RF):Prop:=
 ∃a:List (List Value),w.ownsRow B 56 7 c b.length a.flatten∧a.length=b.length∧(∀i (h:i<a.length) (d:i<b.length),Ib B w a[i] b[i])∧∀i j (e:i<a.length) (f:j<a.length),i≠j→∀k,(IX a[i]).ownBlock=some k→(IX a[j]).ownBlock≠some k
theorem Ib.d7{B w i c f}{X:Nat→Prop}(h:Ib B w c f)(e:Ab X w i)(g:∀k a t b,X k→w.heap[k]? =some (.cells a t b)→t≠3∧t≠52∧t≠9):Ib B i c f:=by obtain ⟨p,j,r,m,n,l,o⟩:=h;exact ⟨p,j,r,m,Am n e (fun k a b d q=>(g k a _ b d q).2.1 rfl),Am l e (fun k a b d q=>(g k a _ b d q).1 rfl),Am o e (fun k a b d q=>(g k a _ b d q).2.2 rfl)⟩
theorem Bt.d7{B w e b c}{X:Nat→Prop}(h:Bt B w b c)(d:Ab X w e)(p:∀k,b.ownBlock=some k→¬X k)(q:∀k a t f,X k→w.heap[k]? =some (.cells a t f)→t≠3∧t≠52∧t≠9):Bt B e b c:=by obtain ⟨a,o,m,n,l⟩:=h;exact ⟨a,Ac o d p,m,fun i g j=>(n i g j).d7 d q,l⟩
theorem Bt.m8{B w c b a}(h:Bt B w b a)(d:Ab (fun _=>False) w c):Bt B c b a:=h.d7 d (fun _ _ q=>q) (fun _ _ _ _ q=>q.elim)
theorem Bt.get{B w g l c a}(h:Bt B w (.slice (some ⟨g,0,none⟩) l c) a){i}(v:i<a.length):
 ∃d b f,(∀j,j<7→w.cell? ⟨g,i*7+j,none⟩=(GL a[i] d b f)[j]?)∧CP B w d a[i].p7∧Bs B w b a[i].p8∧Cz B w f a[i].r6:=by
 obtain ⟨m,p,C,o,A⟩:=h;have y:=Ap p;subst y;have n:i<m.length:=by omega
 have t:∀x,x∈m→x.length=7:=by intro x z;obtain ⟨j,k,rfl⟩:=List.mem_iff_getElem.1 z;obtain ⟨_,_,_,e,_⟩:=o j k (by omega);rw [e];rfl
 obtain ⟨d,b,f,e,q,r,s⟩:=o i n v;refine ⟨d,b,f,fun j k=>?_,q,r,s⟩;have u:=p.cellAt (i*7+j) (by omega);rw [u,CG t n k,e];simp
def Ch:List ByteArray→ByteArray→Nat→Int
 | [],_,_=> -1
 | a::l,s,k=>if a.toList=s.toList then (k:Int) else Ch l s (k+1)
theorem Ij(l:List ByteArray)(s:ByteArray)(k:Nat)(h:k<l.length):Ch (l.drop k) s k=if l[k].toList=s.toList then (k:Int) else Ch (l.drop (k+1)) s (k+1):=by rw [List.drop_eq_getElem_cons h];rfl
theorem EY{a b:ByteArray}(h:a.toList=b.toList):a=b:=by rw [ByteArray.toList_eq,ByteArray.toList_eq] at h;exact ByteArray.ext (Array.toList_inj.1 h)
theorem EI(l s):∀k,(0≤Ch l s k↔s∈l)∧ -1≤Ch l s k∧Ch l s k<k+l.length:=by
 induction l with
 | nil=>intro k;simp [Ch];omega
 | cons a l d=>
   intro k;rw [Ch];split
   ·rename_i h;have:=EY h;subst this;exact ⟨⟨fun _=>List.mem_cons_self ..,fun _=>by omega⟩,by omega,by simp;omega⟩
   ·rename_i h;obtain ⟨b,c,e⟩:=d (k+1);refine ⟨⟨fun q=>List.mem_cons_of_mem _ (b.1 q),fun q=>?_⟩,c,by simp only [List.length_cons];omega⟩;rcases List.mem_cons.1 q with q | q
    ·subst q;exact absurd rfl h
    ·exact b.2 q
theorem KI(B v l s w)(h:Cz B w v l)(y:l.length≤20000):
 Calls Tryz.prog 31 #[v,.string s] w fun e u=>e=.returned (.int .i64 (Ch l s 0))∧u=w:=by
 obtain ⟨A,D,C,rfl⟩:=Af h;have t:=Ap h;subst t;generalize n:Ch l s 0=V;have m:Nj (Ch (l.drop 0) s 0=V):=n;have j:=Aa h;clear n h;go_enter Tryz.func31,Tryz.ntmps31;go_wp2;go_loopw [5] (fun i wr=>∃k:Nat,k≤l.length∧i=.int .i64 k∧wr=w∧Nj (Ch (l.drop k) s k=V)) (fun i _=>l.length-(intOf i).toNat)
 case atStart=>exact ⟨0,by omega,rfl,rfl,m⟩
 case round=>
  obtain ⟨k,x,rfl,rfl,d⟩:=hrel;clear m;by_cases p:k<l.length
  ·obtain ⟨g,rfl⟩:=Ay j.o (by omega);have c:=j.o.cellAt k (by omega);rw [List.getElem?_map,List.getElem?_eq_getElem p] at c;simp only [Option.map_some] at c;have z:=(j.o.lt g rfl).2;have b:=Ij l s k p;generalize l[k]=a at c b;cases o:(a.toList==s.toList) with
   | true=>
     have f:a.toList=s.toList:=by simpa using o
     rw [if_pos f,d.o] at b;subst b;clear d f;go_wp2;go_ret;exact ⟨rfl,rfl⟩
   | false=>
     have f:¬a.toList=s.toList:=by simpa using o
     rw [if_neg f,d.o] at b;have q:=Aa b;clear d f b;go_wp2;go_round
     case rel=>exact ⟨k+1,by omega,by go_num,by trivial,q.o.symm⟩
     case measure=>simp [intOf];omega
  ·have e:k=l.length:=by omega
   subst e;have r:V= -1:=by have:=d.o;rw [List.drop_length] at this;exact this.symm
   subst r;clear d;go_wp2;go_ret;exact ⟨rfl,rfl⟩
theorem Dx(B v l s w)(h:Cz B w v l)(b:l.length≤4001):
 Calls Tryz.prog 31 #[v,.string s] w fun e a=>e=.returned (.int .i64 (Ch l s 0))∧a=w:=KI B v l s w h (by omega)
theorem CJ(B y G A r H b s w)(o:Bj y r H G A w)(h:Bt B w r b)(L:b.length≤4001):
 Calls Tryz.prog 14 #[.pointer (some ⟨y,0,none⟩),.string s] w fun e I=>e=.returned (.int .i64 (Ch (b.map fun f=>f.name.d9) s 0))∧I=w:=by
 have n:=h;obtain ⟨C,j,_⟩:=n;obtain ⟨P,R,Q,rfl⟩:=Af j;have E:=Ap j;subst E;have F:=o.i6.cell 0;simp at F;have N:=Ad o;generalize t:Ch (b.map fun f=>f.name.d9) s 0=V;have q:Nj (Ch ((b.map fun f=>f.name.d9).drop 0) s 0=V):=t;have p:=Aa h;clear t h j o;go_enter Tryz.func14,Tryz.ntmps14;go_wp2;go_loopw [5] (fun i wr=>∃k:Nat,k≤b.length∧i=.int .i64 k∧wr=w∧Nj (Ch ((b.map fun f=>f.name.d9).drop k) s k=V)) (fun i _=>b.length-(intOf i).toNat)
 case atStart=>exact ⟨0,by omega,rfl,rfl,q⟩
 case round=>
  obtain ⟨k,K,rfl,rfl,l⟩:=hrel;clear q;by_cases x:k<b.length
  ·have n:=p.o;obtain ⟨C,j,_⟩:=n;obtain ⟨g,rfl⟩:=Ay j (by omega);have M:=(j.lt g rfl).2;obtain ⟨O,J,S,u,_,_,_⟩:=p.o.get x;have c:=u 0 (by omega);simp only [GL,Ni,Ng,Nat.add_zero] at c;have d:=Ij (b.map fun f=>f.name.d9) s k (by simpa using x);rw [List.getElem_map] at d;clear u j;generalize b[k].name.d9=a at c d;cases v:(a.toList==s.toList) with
   | true=>
     have m:a.toList=s.toList:=by simpa using v
     rw [if_pos m,l.o] at d;subst d;clear l m;go_wp2;go_ret;exact ⟨rfl,rfl⟩
   | false=>
     have m:¬a.toList=s.toList:=by simpa using v
     rw [if_neg m,l.o] at d;have z:=Aa d;clear l m d;go_wp2;go_round
     case rel=>exact ⟨k+1,by omega,by go_num,by trivial,z.o.symm⟩
     case measure=>simp [intOf];omega
  ·have e:k=b.length:=by omega
   subst e;have D:V= -1:=by have:=l.o;rw [List.drop_of_length_le (by simp)] at this;exact this.symm
   subst D;clear l;go_wp2;go_ret;exact ⟨rfl,rfl⟩
def AU(e p:Nat)(c:CS):CS:=if c.p9=0∨p<c.f8∨(p=c.f8∧e<c.p9) then ⟨e,p⟩ else c
def EB(b:Nat)(c:CS)(w:World):Prop:=Aq b #[.int .i64 c.f8,.int .i64 c.p9] 46 w
theorem Bg(b e p:Nat)(c:CS)(w:World)(h:EB b c w):
 Calls Tryz.prog 13 #[.pointer (some ⟨b,0,none⟩),.int .i64 e,.int .i64 p] w fun r s=>r=.returned (.tuple #[])∧EB b (AU e p c) s∧Ab (fun k=>k=b) w s:=by
 have o:=Aj h 0;have q:=Aj h 1;have y:=fun i=>AK h i
 simp only [Ni,Ng,Nh] at o q;have z:=Ad h;have j:=Aa h;clear h;obtain ⟨d,f⟩:=c;simp only at o q;by_cases g:d=0
 ·have a:AU e p ⟨d,f⟩=⟨e,p⟩:=by simp [AU,g]
  rw [a];have t:((d:Int)==0)=true:=by simp [g]
  clear a g;go_enter Tryz.func13,Tryz.ntmps13;go_wp2;go_end0;refine ⟨rfl,?_,((Ab.refl _ _).i7 1 _).i7 0 _⟩;have:=(Aq.set (w:=w) j.o 1 (.int .i64 e)).set 0 (.int .i64 p);simpa [EB] using this
 ·have t:((d:Int)==0)=false:=by simp [g]
  by_cases m:p<f
  ·have a:AU e p ⟨d,f⟩=⟨e,p⟩:=by simp [AU,m]
   rw [a];have u:decide ((p:Int)<(f:Int))=true:=by simp [m]
   clear a g;go_enter Tryz.func13,Tryz.ntmps13;go_wp2;go_end0;refine ⟨rfl,?_,((Ab.refl _ _).i7 1 _).i7 0 _⟩;have:=(Aq.set (w:=w) j.o 1 (.int .i64 e)).set 0 (.int .i64 p);simpa [EB] using this
  ·have u:decide ((p:Int)<(f:Int))=false:=by simp;omega
   by_cases l:p=f
   ·have v:((p:Int)==(f:Int))=true:=by simp [l]
    by_cases n:e<d
    ·have a:AU e p ⟨d,f⟩=⟨e,p⟩:=by simp [AU,l,n]
     rw [a];have x:decide ((e:Int)<(d:Int))=true:=by simp [n]
     clear a g l;go_enter Tryz.func13,Tryz.ntmps13;go_wp2;go_end0;refine ⟨rfl,?_,((Ab.refl _ _).i7 1 _).i7 0 _⟩;have:=(Aq.set (w:=w) j.o 1 (.int .i64 e)).set 0 (.int .i64 p);simpa [EB] using this
    ·have a:AU e p ⟨d,f⟩=⟨d,f⟩:=by unfold AU;rw [if_neg (by simp only;omega)]
     rw [a];have x:decide ((e:Int)<(d:Int))=false:=by simp;omega
     clear a g l;go_enter Tryz.func13,Tryz.ntmps13;go_wp2;go_end0;exact ⟨rfl,j.o,Ab.refl _ _⟩
   ·have a:AU e p ⟨d,f⟩=⟨d,f⟩:=by unfold AU;rw [if_neg (by simp only;omega)]
    rw [a];have v:((p:Int)==(f:Int))=false:=by simp;omega
    clear a g;go_enter Tryz.func13,Tryz.ntmps13;go_wp2;go_end0;exact ⟨rfl,j.o,Ab.refl _ _⟩
end Go.Proofs.YtmaankfbhhbeoaaGreatDoor

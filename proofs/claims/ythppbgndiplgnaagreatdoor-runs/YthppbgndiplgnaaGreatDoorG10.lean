/- One of the texts of the proof of runs_card_holds: RdK RdK2 RdN RdO CkA. -/
import Derived.Test.YthppbgndiplgnaaGreatDoorG09
import Derived.Maps.OwnSet
import Derived.StringKeys
set_option maxRecDepth 100000
set_option maxHeartbeats 2000000
namespace Go.Proofs.YthppbgndiplgnaaGreatDoor
open Go.RowKit Go.Maps
abbrev Dw(a:Nat):Array Value:=#[.int .i64 0,.string {data:=#[]},.int .i64 0,.int .i64 0,.string {data:=#[]},.int .i64 0,.int .i64 0,.int .i64 0,A0,.int .i64 0,A0,A0,.int .i64 (-1),.int .i64 (-1),.int .i64 a]
def Vv(h b g n f B:Nat)(U:Nat→Prop)(l:List Tk)(j k:Value)(x:St)(i:List FS)(w a:World):Prop:=
 ∃c e d,AM h b g n f x.s9 x.Ya a∧AP g n f l a∧Cr b j (.slice c e d) x.pl x.ca a∧BA B U a (.slice c e d) (i++[CG 0 0])∧EW h b k (.slice c e d) w a
theorem Jl{y b g n p B:Nat}{U:Nat→Prop}{K:List Tk}{D j:Value}{x:St}{f:List FS}{w W d:World}{l:Option Addr}{o m:Nat}{a:List (List Value)}
 (H:AM y b g n p x.s9 x.Ya w)(I:AP g n p K w)(A:Cr b D j x.pl x.ca w)
 (C:w.ownsRow B 119 15 j f.length a.flatten)(L:a.length=f.length)(a2:∀i (h:i<a.length) (h':i<f.length),E0 B U w a[i] f[i])
 (R:Ab (fun _=>False) w W)(N:d.ownsRow B 119 15 (.slice l o m) (f.length+1) (a.flatten++zS.toList))(S:W.grownBy d j.ownBlock)(T:∀k,Value.ownBlock (.slice l o m)=some k→j.ownBlock=some k∨w.heap.size≤k):
 Vv y b g n p B U K D j x f w (d.setCell ⟨b,1,none⟩ (.slice l o m)):=by
 have X:=Ap C H (by decide);have V:=Ap C A (by decide);have v:Ab (fun k=>j.ownBlock=some k) w d:=Ab.grown (R.mono (fun _ _ q=>q.elim)) S (fun k c=>.inl c);have a0:b≠y:=A.l9.ne H.l9 (by decide);have a1:AM y b g n p x.s9 x.Ya d:=H.f8 v (fun q=>X y q rfl);have F:Cr b D j x.pl x.ca d:=A.l9.f8 v (fun q=>V b q rfl);have Y:g≠b:=I.ne A (by decide);have a3:AP g n p K d:=by
  refine I.f8 v (fun q=>?_);rcases C.2 with ⟨s,_⟩ | ⟨Q,O,P,J,_,u,_⟩
  ·rw [s] at q;simp [Value.ownBlock] at q
  ·rw [J] at q;simp [Value.ownBlock] at q;subst q;exact I.ne u (by decide) rfl
 have z:=(Ab.refl (fun k=>k=b) d).p7 1 (.slice l o m);have Z:∀k,Value.ownBlock (.slice l o m)=some k→k≠b:=Ap N F (by decide);refine ⟨l,o,m,a1.l9.Yt 1 _ a0.symm,a3.f8 z Y,F.l9.set 1 _,?_,?_⟩
 ·refine ⟨a++[zS.toList],?_,by simp [L],?_⟩
  ·rw [List.flatten_append,aZ];have:=Ac N z Z;simpa using this
  ·intro i h1 s;have hx:∀(k:Nat) (a:Array Value) (t:TypeId) (r:Nat×Nat),j.ownBlock=some k→w.heap[k]? =some (.cells a t r)→t≠3∧t≠64:=by
    intro k a t r c E;rcases C.2 with ⟨s,_⟩ | ⟨Q,O,P,J,_,u,_⟩
    ·rw [s] at c;simp [Value.ownBlock] at c
    ·rw [J] at c;simp [Value.ownBlock] at c;subst c;rw [E] at u;simp only [bA,bH] at u;rw [u.2.1];decide
   have a4:∀(k:Nat) (a:Array Value) (t:TypeId) (r:Nat×Nat),k=b→d.heap[k]? =some (.cells a t r)→t≠3∧t≠64:=by intro k a t r c E;subst c;have G:d.heap[k]? =_:=F;rw [E] at G;simp only [bA,bH] at G;rw [G.2.1];decide
   by_cases M:i<f.length
   ·rw [bT (by omega),bT M];exact ((a2 i (by omega) M).f8 v hx).f8 z a4
   ·have e:i=f.length:=by simp at s;omega
    subst e;rw [bR (by omega),bR (by omega)];simp only [Nat.sub_self,L,bQ];exact ⟨A0,A0,A0,rfl,bE _ _ _ _,bE _ _ _ _,bE _ _ _ _,fun k c=>by simp [Value.ownBlock] at c⟩
 ·refine ⟨(v.mono (fun k _ q=>.inr (.inr q))).trans (z.mono (fun k _ q=>.inr (.inl q))),T⟩
theorem XA(A B:List Value)(c d:List Value)(g:c.length=15)(a:d.length=15):∀k,k≤15→(List.range k).foldl (fun (l:List Value) j=>l.set (A.length+j) (d[j]?.getD (.bool false))) (A++(c++B))=A++((d.take k++c.drop k)++B):=by
 intro k;induction k with
 | zero=>intro _;simp
 | succ k h=>
   intro i;rw [List.range_succ,List.foldl_append,h (by omega)];simp only [cE,cP];rw [List.set_append_right _ _ (by omega),List.append_cancel_left_eq,Nat.add_sub_cancel_left,List.set_append_left _ _ (by simp [a,g];omega),List.append_cancel_right_eq,List.set_append_right _ _ (by simp [a];omega)];have e:(List.take k d).length=k:=by simp [a];omega
   rw [e,Nat.sub_self];have b:d.take (k+1)=d.take k++[d[k]?.getD (.bool false)]:=by rw [cA (by omega),aY (by omega)];rfl
   have f:c.drop k=c[k]'(by omega)::c.drop (k+1):=bG (by omega);rw [b,f,List.set_cons_zero,cX,List.singleton_append]
theorem Pr(a:List (List Value))(e:∀c∈a,c.length=15)(i:Nat)(f:i<a.length):a.flatten=(a.take i).flatten++(a[i]++(a.drop (i+1)).flatten)∧((a.take i).flatten).length=i*15:=by
 refine ⟨?_,?_⟩
 ·conv=>lhs;rw [←List.take_append_drop i a]
  rw [List.flatten_append,bG f,List.flatten_cons]
 ·have:∀l:List (List Value),(∀c∈l,c.length=15)→l.flatten.length=l.length*15:=by
   intro l d;induction l with
   | nil=>rfl
   | cons c l g=>rw [List.flatten_cons,aZ,g (fun c b=>d c (bN _ b)),d c (cS ..),aX];omega
  rw [this _ (fun c b=>e c (List.mem_of_mem_take b)),List.length_take]
  congr 1;omega
theorem TM(a:List (List Value))(b:∀c∈a,c.length=15)(i:Nat)(e:i<a.length)(d:List Value)(h:d.length=15):(List.range 15).foldl (fun (l:List Value) j=>l.set (i*15+j) (d[j]?.getD (.bool false))) a.flatten=(a.set i d).flatten:=by obtain ⟨f,g⟩:=Pr a b i e;have:=XA (a.take i).flatten (a.drop (i+1)).flatten a[i] d (b _ (bD _)) h 15 (aV _);rw [g,←f] at this;have k:List.take 15 d=d:=List.take_of_length_le (by omega);have m:List.drop 15 a[i]=[]:=List.drop_of_length_le (by rw [b _ (bD _)];omega);rw [this,k,m];rw [List.set_eq_take_append_cons_drop,cU e];simp
def KQ(w:World)(a o:Nat)(d:List Value):World:=(List.range 15).foldl (fun w j=>w.setCell ⟨a,o+j,none⟩ (d[j]?.getD (.bool false))) w
theorem Se{w B b n e a}(h:w.ownsRow B 119 15 (.slice (some ⟨b,0,none⟩) n e) n a)(o d):
 (KQ w b o d).ownsRow B 119 15 (.slice (some ⟨b,0,none⟩) n e) n ((List.range 15).foldl (fun (l:List Value) j=>l.set (o+j) (d[j]?.getD (.bool false))) a):=by
 unfold KQ;suffices H:∀(c:List Nat) (w:World) (a:List Value),w.ownsRow B 119 15 (.slice (some ⟨b,0,none⟩) n e) n a→(c.foldl (fun w j=>w.setCell ⟨b,o+j,none⟩ (d[j]?.getD (.bool false))) w).ownsRow B 119 15 (.slice (some ⟨b,0,none⟩) n e) n (c.foldl (fun (l:List Value) j=>l.set (o+j) (d[j]?.getD (.bool false))) a) from H _ _ _ h
 intro c;induction c with
 | nil=>intro w a h;exact h
 | cons j c f=>intro w a h;exact f _ _ (h.stored (o+j) _).1
theorem KI(w a o d):Ab (fun k=>k=a) w (KQ w a o d):=by
 unfold KQ;suffices H:∀(b:List Nat) (c:World),Ab (fun k=>k=a) w c→Ab (fun k=>k=a) w (b.foldl (fun w j=>w.setCell ⟨a,o+j,none⟩ (d[j]?.getD (.bool false))) c) from H _ _ (Ab.refl _ _)
 intro b;induction b with
 | nil=>intro c h;exact h
 | cons j b e=>intro c h;exact e _ (h.p7 _ _)
theorem KJ{w:World}{B:Nat}{a l c n:Nat}{e:List Value}(h:w.ownsRow B 119 15 (.slice (some ⟨a,0,none⟩) l c) n e)(i:Nat)(f:i<n)(j:Nat)(g:j<15):∃u,w.cell? ⟨a,i*15+j,none⟩=some u:=by
 have d:=Ah h;subst d;have b:i*15+j<l*15:=by omega
 rw [h.cellAt (i*15+j) b];exact ⟨_,aY (by rw [h.1];exact b)⟩
theorem Hx{w:World}{B:Nat}{a l c n:Nat}{d:List Value}(h:w.ownsRow B 119 15 (.slice (some ⟨a,0,none⟩) l c) n d)(j:Nat):w.frozen? ⟨a,j,none⟩=false:=by have b:=Ah h;subst b;exact h.frozenAt j
theorem EW.put{i g b j c w l m}(h:EW i g j c w l)(n:c.ownBlock=some b)(a:Ab (fun k=>k=b) l m):EW i g j c w m:=by
 refine ⟨⟨a.os.trans h.f8.os,a.tape.trans h.f8.tape,a.output.trans h.f8.output,bJ h.f8.size a.size,fun k d f=>?_⟩,h.own⟩;rw [a.block k (bL d h.f8.size) ?_]
 ·exact h.f8.block k d f
 ·intro e;have e:k=b:=e;subst e;rcases h.own k n with q | q
  ·exact f (.inr (.inr q))
  ·omega
theorem BA.put{B}{U:Nat→Prop}{w b l o i f s d}(h:BA B U w (.slice (some ⟨b,0,none⟩) l o) f)(I:i<f.length)(r:E0 B U w d s):BA B U (KQ w b (i*15) d) (.slice (some ⟨b,0,none⟩) l o) (f.set i s):=by
 obtain ⟨a,n,C,v⟩:=h;have D:=Ah n;subst D;have z:∀c∈a,c.length=15:=by intro c g;obtain ⟨j,e,rfl⟩:=bS.1 g;exact (v j e (by omega)).length
 have u:=KI w b (i*15) d;have y:∀(k:Nat) (a:Array Value) (t:TypeId) (p:Nat×Nat),k=b→w.heap[k]? =some (.cells a t p)→t≠3∧t≠64:=by
  intro k a t p A g;subst A;rcases n.2 with ⟨q,_⟩ | ⟨G,E,F,x,_,m,_⟩
  ·simp at q
  ·simp only [Value.slice.injEq,bA,Addr.mk.injEq] at x;rw [←x.1.1,g] at m;simp only [bA,bH] at m;rw [m.2.1];decide
 refine ⟨a.set i d,?_,by simp [C],?_⟩
 ·have:=Se n (i*15) d;rw [TM a z i (by omega) d r.length] at this;simpa using this
 ·intro j H q;by_cases e:i=j
  ·subst e;simp only [List.getElem_set_self];exact r.f8 u y
  ·simp only [List.getElem_set_ne e];exact (v j _ _).f8 u y
def Qp(h c g n f B:Nat)(U:Nat→Prop)(l:List Tk)(i j:Value)(w:World)(r:Nat×St×List FS)(e:Ending)(a:World):Prop:=
 ∃d b,(∀k,U k→b k)∧(∀k,b k→U k∨w.heap.size≤k)∧e=.returned (.int .i64 r.1)∧AM h c g n f r.2.1.s9 r.2.1.Ya a∧AP g n f l a∧Cr c i d r.2.1.pl r.2.1.ca a∧BA B b a d r.2.2∧EW h c j d w a
theorem SF.value{i c u g n f B}{U:Nat→Prop}{m j l x e o v w d}(h:SF i c u g n f B U m j l x o v w)(z:AM i c g n f e.s9 e.Ya d)(A:AP g n f m d)(y:Cr c j l e.pl e.ca d)(s:Ab (fun k=>k=i∨k=c) w d):SF i c u g n f B U m j l e o v d:=by
 have r:=h.YP;refine ⟨z,A,y,h.sx.f8 s (fun q=>q.elim r.2.2.1 r.2.2.2.2.1),h.st.f8 s (fun k a q=>q.elim (h.YX k a).1 (h.YX k a).2.1) ?_,h.nb⟩;intro k C t D a p;rcases a with a | a
 ·subst a;have b:w.heap[k]? =_:=h.rd;rw [p] at b;simp only [bA,bH] at b;rw [b.2.1];decide
 ·subst a;have b:w.heap[k]? =_:=h.pr;rw [p] at b;simp only [bA,bH] at b;rw [b.2.1];decide
theorem Mq(a x s):(Dh a x s).1.Yd=s.Yd∧(Dh a x s).1.other=s.other:=by
 unfold Dh;split
 ·exact ⟨rfl,rfl⟩
 ·split
  ·simp only;split<;>exact ⟨rfl,rfl⟩
  ·split
   ·exact ⟨rfl,rfl⟩
   ·split
    ·exact ⟨rfl,rfl⟩
    ·split
     ·exact ⟨rfl,rfl⟩
     ·simp only;split<;>exact ⟨rfl,rfl⟩
theorem OR{b n}(c:(Ai b (n-1)).sort=0)(x s)(a:x.s9<n):(Dh b x s).2.s9<n:=by
 have E:∀(L:List UInt8) (x:St),x.s9<n→(Au b L x).s9<n:=fun L x h=>Ca rfl c h
 have G:∀(k:Nat) (x:St),k≠0→x.s9<n→(Bq b k x).2.s9<n:=fun k x d h=>Eg (q:=(Bq b k x).1) rfl d c h
 have I:∀(x:St),x.s9<n→(Cc b x).2.s9<n:=fun x h=>Ez (q:=(Cc b x).1) rfl c h
 unfold Dh;split
 ·exact E _ _ a
 ·split
  ·simp only;split
   ·exact G _ _ (by decide) (E _ _ (G _ _ (by decide) (E _ _ a)))
   ·exact G _ _ (by decide) (E _ _ a)
  ·split
   ·exact G _ _ (by decide) (E _ _ a)
   ·split
    ·exact G _ _ (by decide) (E _ _ a)
    ·split
     ·exact I _ (E _ _ (E _ _ (G _ _ (by decide) (E _ _ (E _ _ a)))))
     ·simp only;split
      ·exact I _ (E _ _ (G _ _ (by decide) a))
      ·exact G _ _ (by decide) a
def H7(n:Nat)(x:St)(m:Nat):Prop:=x.s9<n∧x.pl≤n∧x.ca≤n∧m≤n∧(x.Ya=none→x.pl≤x.s9∧x.ca≤x.s9∧m≤x.s9)
theorem H7.YB{n m k:Nat}{x y:St}(h:H7 n x m)(q:Fs k x y)(f:y.s9<n):H7 n y m:=by obtain ⟨i,j,l,c,d⟩:=h;obtain ⟨o,p,r,g⟩:=q;refine ⟨f,by omega,by omega,c,fun e=>?_⟩;have a:=g e;have b:=d a.1;omega
theorem PJ{a n}(c:(Ai a (n-1)).sort=0)(e x)(b:x.s9<n):(Bo a e x).2.s9<n:=by
 have E:∀(L:List UInt8) (x:St),x.s9<n→(Au a L x).s9<n:=fun L x h=>Ca rfl c h
 have G:∀(k:Nat) (x:St),k≠0→x.s9<n→(Bq a k x).2.s9<n:=fun k x d h=>Eg (q:=(Bq a k x).1) rfl d c h
 unfold Bo;split
 ·exact G _ _ (by decide) (E _ _ b)
 ·split
  ·exact G _ _ (by decide) (E _ _ b)
  ·split
   ·exact G _ _ (by decide) (E _ _ (G _ _ (by decide) (E _ _ b)))
   ·exact OR c _ _ (E _ _ (G _ _ (by decide) b))
theorem DG{toks n}(K:(Ai toks (n-1)).sort=0):∀f:Nat,
 (∀(a:Nat) (x:St) (c:List FS) (d:List Nat),H7 n x c.length→H7 n (Az toks f a x c d).2.1 (Az toks f a x c d).2.2.length∧x.s9≤(Az toks f a x c d).2.1.s9∧c.length≤(Az toks f a x c d).2.2.length)∧
 (∀(a:Nat) (x:St) (c:List FS),H7 n x c.length→x.Ya=none→H7 n (AQ toks f a x c).2.1 (AQ toks f a x c).2.2.length∧x.s9≤(AQ toks f a x c).2.1.s9∧c.length≤(AQ toks f a x c).2.2.length∧(f≠0→(AQ toks f a x c).2.1.Ya=none→x.s9<(AQ toks f a x c).2.1.s9)):=by
 have E:=Bb toks;have C:∀(L:List UInt8) (x:St),x.s9<n→(Au toks L x).s9<n:=fun L x h=>Ca rfl K h
 intro f;induction f with
 | zero=>
   refine ⟨fun a x c d h=>?_,fun a x c h _=>?_⟩
   ·rw [Az];exact ⟨h,aV _,aV _⟩
   ·rw [AQ];exact ⟨h,aV _,aV _,fun q=>dC rfl q⟩
 | succ f m=>
   refine ⟨fun a x c d h=>?_,fun a x c h z=>?_⟩
   ·rw [Az];split
    ·exact ⟨h,aV _,aV _⟩
    ·rename_i W;have z:x.Ya=none:=by
      cases X:x.Ya with
      | none=>rfl
      | some b=>exact dC (.inl (by simp [X])) W
     obtain ⟨j,u,v,_⟩:=m.2 a x c h z;obtain ⟨k,D,F⟩:=m.1 a _ _ (d++[(AQ toks f a x c).1]) j;exact ⟨k,bJ u D,bJ v F⟩
   ·have hi:=h;obtain ⟨J,h2,h3,h4,V⟩:=h;obtain ⟨p1,p2,p3⟩:=V z;rw [AQ];split
    ·simp only;have i:=((E (AJ (Ai toks x.s9)) x).trans (E [63] _)).trans (E [123] (Au toks [63] (Au toks (AJ (Ai toks x.s9)) x)));have w:=C [63] _ (C (AJ (Ai toks x.s9)) x J);have R:=C [123] _ w;generalize Au toks [63] (Au toks (AJ (Ai toks x.s9)) x)=Y at*;generalize Au toks [123] Y=o at*;have O:H7 n o (c++[CG 0 0]).length:=by obtain ⟨y,l,U,H⟩:=i;refine ⟨R,by omega,by omega,by simp;omega,fun e=>?_⟩;have:=H e;simp only [aZ,aX,bM];omega
     obtain ⟨j,u,v⟩:=m.1 a o (c++[CG 0 0]) [] O;generalize Az toks f a o (c++[CG 0 0]) []=r at*;have a0:c.length+1≤r.2.2.length:=by simpa using v
     have p:=E [125] r.2.1;have G:=C [125] r.2.1 j.1;have t:=j.YB p G;generalize Au toks [125] r.2.1=g at*;have y:o.s9≤g.s9:=bJ u p.1;have l:g.Ya=none→x.s9<g.s9:=fun e=>by have q:=p.2.2.2 e;have:=i.1;omega
     split
     ·split
      ·have B:=(E DQ g).trans (E [123] (Au toks DQ g));have S:=C [123] _ (C DQ g G);generalize Au toks DQ g=Z at*;generalize Au toks [123] Z=M at*;have P:=t.YB B S;obtain ⟨k,D,F⟩:=m.1 a M r.2.2 [] P;generalize Az toks f a M r.2.2 []=A at*;have s:=E [125] A.2.1;have T:=C [125] A.2.1 k.1;have Q:=k.YB s T;generalize Au toks [125] A.2.1=x5 at*;have:=i.1;have:=B.1;have:=s.1;refine ⟨by simpa using Q,by simp only;omega,by simp only [cY];omega,fun _ e=>?_⟩;have q:=s.2.2.2 e;simp only;omega
      ·have:=i.1;exact ⟨by simpa using t,by simp only;omega,by simp only [cY];omega,fun _ e=>l e⟩
     ·have:=i.1;exact ⟨by simpa using t,by simp only;omega,by simp only [cY];omega,fun _ e=>l e⟩
    ·simp only;have N:=(Oh toks a x).ahead (E [59] (Bo toks a x).2);have w:=C [59] _ (PJ K a x J);generalize Au toks [59] (Bo toks a x).2=x1 at*;obtain ⟨y,l,U,H,g5,I⟩:=N;refine ⟨⟨w,by omega,by omega,by simp;omega,fun e=>?_⟩,y,by simp,fun _ e=>?_⟩
     ·have:=I e;simp only [cY,aZ,aX,bM];omega
     ·have:=I e;omega
def Hl(f:Nat):Prop:=∀(h d g n b B k:Nat) (U:Nat→Prop) (a:List Tk) (j i:Value) (x:St) (c:List FS) (w:World),AM h d g n b x.s9 x.Ya w→AP g n b a w→Cr d j i x.pl x.ca w→BA B U w i c→B≤w.heap.size→(Ai a (n-1)).sort=0→H7 n x c.length→x.Ya=none→2*(n-x.s9)≤f→
 Calls Tryz.prog 67 #[.pointer (some ⟨h,0,none⟩),.int .i64 k] w fun e l=>Qp h d g n b B U a j i w (AQ a f k x c) e l
def VJ(i d g n h B:Nat)(U:Nat→Prop)(m:List Tk)(j l:Value)(w:World)(p:Nat)(r:List Nat×St×List FS)(e:Ending)(a:World):Prop:=
 ∃f c b,(∀k,U k→b k)∧(∀k,b k→U k∨w.heap.size≤k)∧(∀k,c.ownBlock=some k→¬b k)∧e=.returned (.tuple #[.int .i64 p,c])∧AD w.heap.size a c r.1∧AM i d g n h r.2.1.s9 r.2.1.Ya a∧AP g n h m a∧Cr d j f r.2.1.pl r.2.1.ca a∧BA B b a f r.2.2∧EW i d l f w a
def MP(a n:Nat)(w:World):Nat:=2*(n-Mi a w)+(match w.cell? ⟨a,2,none⟩ with | some v=>if intOf v<0 then 1 else 0 | none=>0)
theorem GU{f j g n i c a w}(h:AM f j g n i c a w):MP f n w=2*(n-c)+(if a=none then 1 else 0):=by
 have d:=Ao h 2;simp only [aU,aS,aT] at d;unfold MP;rw [KU h,d];cases a with
 | none=>rfl
 | some b=>
   have e:¬(intOf (Value.int .i64 (Fv (some b)))<0):=by show¬((b:Int)<0);omega
   simp only;rw [cT e,cT (by simp)]
theorem BA.below{B}{U:Nat→Prop}{w f a}(h:BA B U w f a):BA B (fun k=>U k∧k<w.heap.size) w f a:=by
 obtain ⟨l,s,p,r⟩:=h;refine ⟨l,s,p,fun i m n=>?_⟩;obtain ⟨g,j,u,o,b,c,e,t⟩:=r i m n;refine ⟨g,j,u,o,b,c,e,fun k d=>⟨t k d,?_⟩⟩;rcases d with q | q | q
 ·exact (b.lt k q).2
 ·exact (c.lt k q).2
 ·exact (e.lt k q).2
theorem BA.rb{e s g n m c B}{U:Nat→Prop}{b j f w l}(h:BA B U w j f)(i:AM e s g n m c b w)(q:Ab (fun k=>k=e) w l):BA B U l j f:=by
 refine h.f8 q (fun k a=>?_) (fun k o t u a p=>?_)
 ·obtain ⟨o,r,_⟩:=h;exact Ap r i (by decide) k a
 ·have a:k=e:=a;subst a;have d:w.heap[k]? =_:=i;rw [p] at d;simp only [bA,bH] at d;rw [d.2.1];decide
theorem BA.p6{B}{U:Nat→Prop}{b a w c}(h:BA B U w b a)(d:Ab (fun _=>False) w c):BA B U c b a:=h.f8 d (fun _ _ q=>q) (fun _ _ _ _ q=>q.elim)
theorem TZ{U:Nat→Prop}{m f g n q c b B j A p s i C v l r w o}(h:AD j w v l)(x:AM m f g n q c b w)(u:Cr f s i A p w)(z:BA B U w i r)(t:EW m f i C w o):AD j o v l:=by
 obtain ⟨D,y,_⟩:=z;refine Am h t.f8 (fun k d e a=>?_);rcases a with a | a | a
 ·exact CR x.l9 (by decide) k d e a
 ·exact CR u.l9 (by decide) k d e a
 ·exact GS y (by decide) k d e a
theorem EW.owned{d c:Nat}{e f v:Value}{w g i:World}(h:EW d c e f w g)(a:Ab (fun k=>v.ownBlock=some k) g i)(j:∀k,v.ownBlock=some k→w.heap.size≤k):EW d c e f w i:=by refine ⟨⟨a.os.trans h.f8.os,a.tape.trans h.f8.tape,a.output.trans h.f8.output,bJ h.f8.size a.size,fun k b l=>?_⟩,h.own⟩;rw [a.block k (bL b h.f8.size) (fun q=>by have:=j k q;omega)];exact h.f8.block k b l
theorem Ok{c k d x a b}(h:x.Ya≠none∨Bn x.Ya (Ai c x.s9) [125]=true):Az c k d x a b=(b,x,a):=by
 cases k with
 | zero=>rw [Az]
 | succ k=>rw [Az,cU h]
theorem LF(f:Nat)(ih:∀k,k≤f→Hl k)(l d g n p B r:Nat)(U:Nat→Prop)(c:List Tk)(Z R:Value)(j:St)(D:List FS)(w:World)(K:AM l d g n p j.s9 j.Ya w)(ht:AP g n p c w)(hp:Cr d Z R j.pl j.ca w)(d6:BA B U w R D)(hU:∀k,U k→k<w.heap.size)(hB:B≤w.heap.size)(hz:(Ai c (n-1)).sort=0)(b3:H7 n j D.length)(hf:j.Ya=none→2*(n-j.s9)≤f):
 Calls Tryz.prog 36 #[.pointer (some ⟨l,0,none⟩),.int .i64 r] w fun e w'=>VJ l d g n p B U c Z R w (Ai c j.s9).pos ((Az c f r (Au c [123] j) D []).1,Au c [125] (Az c f r (Au c [123] j) D []).2.1,(Az c f r (Au c [123] j) D []).2.2) e w':=by
 obtain ⟨i0,hi,f8,f9,g0⟩:=info_parts Tryz.infoInt;have b2:=b3.1;have hn:=ht.2.2;obtain ⟨t0,t1,t2⟩:=ht.cells b2;have r0:=K.l9.cell 0;have r1:=K.l9.cell 1;simp at r0 r1;have lr:=Ae K;have lp:=Ae hp;obtain ⟨V,hV⟩:∃V,Az c f r (Au c [123] j) D []=V:=⟨_,rfl⟩;rw [hV];have HV:=Aa hV;have s:=Aa K;have I:=Aa ht;have T:=Aa hp;have c7:=Aa d6;have HZ:=Aa hz;have c0:=Aa b3;have b8:=Aa hf;have IH:=Aa ih;have d1:=Aa hU;clear hV K ht hp d6 hz b3 hf ih hU;generalize f6:(Ai c j.s9).pos=h2 at*;clear f6;go_enter Tryz.func36,Tryz.ntmps36;go_wp2;go_quiet (fail);go_wp2_with fail;refine (Ik l d g n p j.s9 j.Ya c _ [123] (by simp) (w.drewN nq) s.o I.o b2).mono ?_;rintro e w1 ⟨rfl,K,ho⟩;obtain ⟨y,a1⟩:∃z,Au c [123] j=z:=⟨_,rfl⟩;have e9:=Aa a1;have hg:=Bb c [123] j;have f0:y.s9<n:=Ca a1 HZ.o b2;rw [a1] at hg;have b9:dJ (H7 n y D.length):=c0.o.YB hg f0;have d0:dJ (y.Ya=none→2*(n-y.s9)+1≤f):=fun e=>by have q:=hg.2.2.2 e;have:=b8.o q.1;omega
 have O:AM l d g n p y.s9 y.Ya w1:=by subst a1;exact K
 have c3:=Aa O;have b4:=(I.o.ne s.o (by decide));have b5:d≠l:=T.o.l9.ne s.o.l9 (by decide);have c8:=Aa (AP.f8 (w:=w.drewN nq) I.o ho b4);have c2:dJ (Cr d Z R y.pl y.ca w1):=by have:=Cr.l9 (w:=w.drewN nq) T.o;have q:=this.f8 ho b5;rw [hg.2.1,hg.2.2.1];exact q
 have c5:=Aa (BA.rb (w:=w.drewN nq) c7.o s.o ho);have b0:=Aa ((EW.refl l d R w).drewN nq |>.tr ho);have d2:dJ (Az c f r y D []=V):=by rw [←a1];exact HV.o
 clear K ho a1 O hg HV s I T c7 c0 b8 t0 t1 t2 r0 r1;go_wp2_with fail;go_loopw [7] (fun v wr=>∃(k:Nat) (a:St) (J:List FS) (G:List Nat) (M:Value) (C:Nat→Prop),dJ ((∀k,U k→C k)∧(∀k,C k→U k∨w.heap.size≤k)∧(∀k,C k→k<wr.heap.size)∧∀k,v.ownBlock=some k→¬C k)∧dJ (AM l d g n p a.s9 a.Ya wr)∧dJ (AP g n p c wr)∧dJ (Cr d Z M a.pl a.ca wr)∧dJ (BA B C wr M J)∧dJ (EW l d R M w wr)∧dJ (AD w.heap.size wr v G)∧dJ (H7 n a J.length)∧dJ (a.Ya=none→2*(n-a.s9)+1≤k∧G.length≤a.s9)∧k≤f∧G.length≤n∧dJ (Az c k r a J G=V)) (fun _ wr=>MP l n wr)
 case atStart=>exact ⟨f,y,D,[],R,U,⟨fun _ h=>h,fun _ h=>.inl h,fun k h=>by have:=d1.o k h;have:=b0.o.f8.size;omega,fun k h=>by simp [Value.ownBlock] at h⟩,c3,c8,c2,c5,b0,bE _ _ _ _,b9,fun e=>⟨d0.o e,by simp⟩,aV _,by simp,d2⟩
 case round=>
  obtain ⟨k,a,J,G,M,C,A,s,I,T,HS,HF,HN,HI,HU,g7,g9,HC⟩:=hrel;clear c3 c8 c2 c5 b0 b9 d0 d2 e9;have b1:=HI.o.1;go_wp2_with fail;refine (PH l d g n p a.s9 a.Ya c _ [125] (by simp) wr s.o I.o b1).mono ?_;rintro e S ⟨rfl,N⟩;have t:=Aa (s.o.f8 N (fun q=>q));have X:=Aa (I.o.f8 N (fun q=>q));have a4:dJ (Cr d Z M a.pl a.ca S):=T.o.l9.f8 N (fun q=>q);have a6:=Aa (HS.o.p6 N);have a2:=Aa (HF.o.trans (EW.Yu (N.mono (fun _ _ q=>q.elim))));have a3:dJ (AD w.heap.size S u7 G):=Ac HN.o N (fun _ _ q=>q);have HM:=Aa (GU s.o);clear s I T HS HF HN N;have r2:=t.o.l9.cell 2;simp at r2;by_cases P:a.Ya≠none∨Bn a.Ya (Ai c a.s9) [125]=true
  ·have hv:V=(G,a,J):=by rw [←HC.o,Ok P]
   subst hv;have f1:(∃b:Nat,a.Ya=some b∧Bn a.Ya (Ai c a.s9) [125]=false)∨Bn a.Ya (Ai c a.s9) [125]=true:=by
    cases Q:a.Ya with
    | none=>right;rcases P with q | q;exact dC Q q;rw [Q] at q;exact q
    | some b=>left;exact ⟨b,rfl,rfl⟩
   clear P HC HU HM;rcases f1 with ⟨b,E,u⟩ | u
   ·rw [u];rw [E] at r2;simp only [Fv] at r2;have g6:decide ((0:Int)≤(b:Int))=true:=by simp
    have e3:=Aa u;have g5:=Aa E;clear u E;go_wp2_with fail;refine (Ik l d g n p a.s9 a.Ya c _ [125] (by simp) S t.o X.o b1).mono ?_;rintro e H ⟨rfl,F,a7⟩;have a5:=Aa F;have o:=Aa a7;clear F a7;go_wp2_with fail;go_ret2;refine ⟨M,u7,C,A.o.1,A.o.2.1,A.o.2.2.2,rfl,?_,a5.o,X.o.f8 o.o b4,a4.o.l9.f8 o.o b5,a6.o.rb t.o o.o,a2.o.tr o.o⟩;exact Am a3.o o.o (fun k ds fz m=>CR t.o.l9 (by decide) k ds fz m)
   ·rw [u];have e3:=Aa u;clear u;go_wp2_with fail;refine (Ik l d g n p a.s9 a.Ya c _ [125] (by simp) S t.o X.o b1).mono ?_;rintro e H ⟨rfl,F,a7⟩;have a5:=Aa F;have o:=Aa a7;clear F a7;go_wp2_with fail;go_ret2;refine ⟨M,u7,C,A.o.1,A.o.2.1,A.o.2.2.2,rfl,?_,a5.o,X.o.f8 o.o b4,a4.o.l9.f8 o.o b5,a6.o.rb t.o o.o,a2.o.tr o.o⟩;exact Am a3.o o.o (fun k ds fz m=>CR t.o.l9 (by decide) k ds fz m)
  ·have E:a.Ya=none:=by
    cases Q:a.Ya with
    | none=>rfl
    | some b=>exact dC (.inl (by simp [Q])) P
   have u:Bn a.Ya (Ai c a.s9) [125]=false:=by
    cases hq:Bn a.Ya (Ai c a.s9) [125] with
    | false=>rfl
    | true=>exact dC (.inr hq) P
   have g8:=HU.o E
   obtain ⟨L,f3⟩:∃L,k=L+1:=⟨k-1,by omega⟩
   subst f3
   obtain ⟨ri,rx,rf,O⟩:∃i x f,AQ c L r a J=(i,x,f):=⟨_,_,_,rfl⟩
   have W:=Aa ((DG HZ.o L).2 r a J HI.o E)
   rw [O] at W
   have e0:dJ (Az c L r rx rf (G++[ri])=V):=by have:=HC.o;rw [Az,cT P,O] at this;exact this
   rw [u]
   rw [E] at r2
   simp only [Fv] at r2
   have HB:=Aa E
   have e6:=Aa O
   have h1:w.heap.size≤S.heap.size:=a2.o.f8.size
   clear u E P HC HU O
   go_wp2_with fail
   refine (IH.o L (by omega) l d g n p B r C c Z M a J S t.o X.o a4.o a6.o (by omega) HZ.o HI.o HB.o (by omega)).mono ?_
   rw [e6.o]
   rintro e H ⟨g4,U2,d9,b7,rfl,F,d8,b6,d7,a9⟩
   have a0:=TZ a3.o t.o a4.o a6.o a9
   have d4:=Ap a0 F (by decide)
   have d5:=Ap a0 b6 (by decide)
   have h0:S.heap.size≤H.heap.size:=a9.f8.size
   have a5:=Aa F
   have c9:=Aa d8
   have e4:=Aa b6
   have c6:=Aa d7.below
   have e1:=Aa (a2.o.trans a9)
   have c1:=Aa (And.intro d4 d5)
   have a8:dJ ((∀k,U k→U2 k∧k<H.heap.size)∧(∀k,U2 k∧k<H.heap.size→U k∨w.heap.size≤k)∧∀k,u7.ownBlock=some k→¬(U2 k∧k<H.heap.size)):=by
    refine ⟨fun k h=>⟨d9 k (A.o.1 k h),?_⟩,fun k h=>?_,fun k h q=>?_⟩
    ·have:=d1.o k h;omega
    ·rcases b7 k h.1 with q | q
     ·exact A.o.2.1 k q
     ·exact .inr (by omega)
    ·rcases b7 k q.1 with q' | q'
     ·exact A.o.2.2.2 k h q'
     ·have:=(a3.o.lt k h).2;omega
   clear d9 b7 F d8 b6 d7 a9 d4 d5 a3 t X a4 a6 a2 r2
   go_wp2_with (at_builtin;refine Df _ rfl _ _ 65 rfl w.heap.size 3 i0 (.int .i64 0) 1 8 Tryz.underlying65 hi f8 f9 g0 rfl (by decide) _ _ _ rfl (a0.alloc _) ⟨H.heap.size,0,none⟩ 1 1 [.int .i64 (ri:Int)] rfl rfl (cell_one_new _ _ _) (fun x Q=>by simp at Q;subst Q;rfl) (by decide) (by unfold maxLen;omega) (by omega) (by simp;omega) ?_;intro v' w4 f5 f2 f4)
   have Y:Ab (fun k=>u7.ownBlock=some k) H w4:=Ab.grown ((Ab.refl _ _).alloc _) f2 (fun k m=>.inl m)
   have c4:=Aa (a5.o.f8 Y (fun q=>c1.o.1 l q rfl))
   have e8:=Aa (c9.o.f8 Y (IA c9.o.1 a0 (by decide) g rfl))
   have e5:=Aa (e4.o.l9.f8 Y (fun q=>c1.o.2 d q rfl))
   have e7:=Aa (c6.o.Zg Y (fun k m=>by obtain ⟨cs,f7,_⟩:=c6.o;exact IA f7 a0 (by decide) k m) (fun k m q=>a8.o.2.2 k q m))
   have e2:=Aa (e1.o.owned Y (fun k m=>(a0.lt k m).1))
   have d3:L≠0:=by omega
   refine ⟨⟨L,rx,rf,G++[ri],g4,fun k=>U2 k∧k<H.heap.size,⟨a8.o.1,a8.o.2.1,fun k m=>by have:=Y.size;omega,fun k m q=>?_⟩,c4,e8,e5,e7,e2,?_,W.o.1,fun e=>?_,by omega,by simp;omega,e0⟩,?_⟩
   ·rcases f4 k m with q' | q'
    ·exact a8.o.2.2 k q' q
    ·simp at q';omega
   ·show World.ownsRow _ _ _ _ _ _ _
    rw [aZ,dD];exact f5
   ·have:=W.o.2.2.2 d3 e
    simp only [aZ,aX,bM];omega
   ·rw [GU c4.o,HM.o,cU HB.o]
    have g1:=W.o.2.1;have g2:=W.o.2.2.2 d3;have g3:=W.o.1.1;split
    ·rename_i e;have:=g2 e;omega
    ·omega
theorem KB:Keyed Tryz.prog 9:=string_keyed Tryz.underlying9
theorem M8(w):(zeroValue 3).run Tryz.prog w=.ok (.int .i64 0) w:=by kernel_rfl
structure CS where
 Ym:Nat
 i9:Nat
def BK(f p:Nat)(c:CS):CS:=if c.Ym=0 then ⟨f,p⟩ else c
def CN(b:Nat)(a:Value)(f:Int)(d e:Value)(c:CS)(w:World):Prop:=Ar b #[a,.int .i64 f,d,e,.int .i64 c.Ym,.int .i64 c.i9] 137 w
def Bj(s:ByteArray):Lit:=.string s.data.toList
def Bh(b n:Nat)(D:DataW Unit)(w:World):Prop:=w.ownsMap Tryz.prog 9 (plainElem Tryz.prog 3) b n D
theorem Cg(b f p:Nat)(j:Value)(n:Int)(l m:Value)(c:CS)(w:World)(d:CN b j n l m c w):
 Calls Tryz.prog 49 #[.pointer (some ⟨b,0,none⟩),.int .i64 f,.int .i64 p] w fun e o=>e=.returned (.tuple #[])∧CN b j n l m (BK f p c) o∧Ab (fun k=>k=b) w o:=by
 have r:=Ao d 4;have s:=Ao d 5;have t:=fun i=>Aw d i
 simp only [aU,aS,aT] at r s;have u:=Ae d;have h:=Aa d;clear d;by_cases a:c.Ym=0
 ·have g:BK f p c=⟨f,p⟩:=by simp [BK,a]
  rw [g];have q:((c.Ym:Int)==0)=true:=by simp [a]
  clear g a;go_enter Tryz.func49,Tryz.ntmps49;go_wp2;go_end0;refine ⟨rfl,?_,?_⟩
  ·have:=(Ar.set (w:=w) h.o 4 (.int .i64 f)).set 5 (.int .i64 p);simpa [CN] using this
  ·exact ((Ab.refl _ _).p7 4 _).p7 5 _
 ·have g:BK f p c=c:=by simp [BK,a]
  rw [g];have q:((c.Ym:Int)==0)=false:=by simp [a]
  clear g a;go_enter Tryz.func49,Tryz.ntmps49;go_wp2;go_end0;exact ⟨rfl,h.o,Ab.refl _ _⟩
theorem Iu{s}(a:s.size≤4000):keyOf Tryz.prog 9 (.string s)=some (Bj s):=WideMaps.keyOf_string_mk Tryz.underlying9 (by unfold maxLen;omega)
theorem ER{m n D w s}(h:Bh m n D w)(d:s.size≤4000):
 ∃z:Int,(Instr.lookup 87 (.map (some m)) (.string s) true).run Tryz.prog w=.ok (.tuple #[.int .i64 z,.bool (Maps.has D (Bj s))]) w∧D.atKey (Bj s) (.lit (.int .i64 0))=.lit (.int .i64 z)∧(Lit.int .i64 z).wf=true:=by
 obtain ⟨v,i,e,f⟩:=World.ownsMap.look_ok h KB Tryz.underlying87 (M8 w) (plainElem_int Tryz.underlying3 (a:=0) (by decide)) (Iu d);obtain ⟨c,rfl,b,g⟩:=plainElem_int_inv Tryz.underlying3 f;exact ⟨c,e,congrArg Prod.fst b,g⟩
theorem Bh.f8{m n D}{X:Nat→Prop}{w w'}(h:Bh m n D w)(d:Ab X w w')(e:¬X m):Bh m n D w':=by obtain ⟨c,b,a,r⟩:=h;exact ⟨c,b,by rw [d.block m (lt_of_block a) e];exact a,r⟩
theorem Bh.ne{m n b D w}(h:Bh m n D w){c t d}(a:w.heap[b]? =some (.cells c t d)):m≠b:=by obtain ⟨g,f,e,r⟩:=h;rintro rfl;rw [e] at a;cases a
def Cx(D:DataW Unit)(t:PT)(c:CS):CS:=if Maps.has D (Bj t.i6) then c else BK 6 t.i9 c
theorem Ev(b g i h m n D c t w)(f:CN b g i h (.map (some m)) c w)(l:Bh m n D w)(r:t.i6.size≤4000):
 Calls Tryz.prog 120 #[.pointer (some ⟨b,0,none⟩),Jd t] w fun e p=>e=.returned (.tuple #[])∧CN b g i h (.map (some m)) (Cx D t c) p∧Ab (fun k=>k=b) w p:=by
 have v:=Ao f 3;simp only [aU,aS,aT] at v;have x:=Ae f;obtain ⟨z,o,_,_⟩:=ER (w:=(w.alloc (.cells #[.string t.i6,.int .i64 t.i9] 92)).drew) (l.f8 (((Ab.refl (fun _=>False) w).alloc _).drew) (fun q=>q)) r;have j:=Aa f;clear f l;unfold Jd;cases a:Maps.has D (Bj t.i6) with
 | true=>
   rw [a] at o;have d:Cx D t c=c:=by simp [Cx,a]
   rw [d];clear d a;go_enter Tryz.func120,Tryz.ntmps120;go_wp2;go_region;go_wp2;go_end0;exact ⟨rfl,j.o.f8 (((Ab.refl (fun _=>False) w).alloc _).drew) (fun q=>q),((Ab.refl _ w).alloc _).drew⟩
 | false=>
   rw [a] at o;have d:Cx D t c=BK 6 t.i9 c:=by simp [Cx,a]
   rw [d];clear d a;go_enter Tryz.func120,Tryz.ntmps120;go_wp2;go_region;go_wp2_with (go_at_call 49;refine (Cg b 6 t.i9 g i h (.map (some m)) c _ (j.o.f8 (((Ab.refl (fun _=>False) w).alloc _).drew) (fun q=>q))).mono ?_);rintro e y ⟨rfl,u,s⟩;go_wp2;go_end0;exact ⟨rfl,u,(((Ab.refl _ w).alloc _).drew).trans s⟩
end Go.Proofs.YthppbgndiplgnaaGreatDoor

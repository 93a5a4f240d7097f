/- One of the texts of the proof of texts_card_holds: RdR RdS ChG. -/
import Derived.Test.YtmaankfbhhbeoaaGreatDoorG22
set_option maxRecDepth 100000
set_option maxHeartbeats 4000000
namespace Go.Proofs.YtmaankfbhhbeoaaGreatDoor
open Go.RowKit
def FC(d:List Tk)(f k:Nat)(x:St)(A:List FS):RF×St×List FS:=
 let a:=Ao d [102,110] x
 let y:=Bc d 1 a
 let b:=Ao d [40] y.2
 let z:=Bv d b
 let r:=As d f k (Ao d [123] z.2) A []
 (⟨y.1,z.1,r.1,(Ai d z.2.i9).pos,[]⟩,Ao d [125] r.2.1,r.2.2)
def BU(d:List Tk)(F:Nat):Nat→St→List FS→List RF→List RF×St×List FS
 | 0,x,A,s=>(s,x,A)
 | m+1,x,A,s=>if x.l6=none∧(s=[]∨(Ai d x.i9).sort≠0) then BU d F m (FC d F s.length x A).2.1 (FC d F s.length x A).2.2 (s++[(FC d F s.length x A).1]) else (s,x,A)
abbrev Mq:Array Value:=#[.string {data:=#[]},.int .i64 0,.int .i64 0,.slice none 0 0,.slice none 0 0,.int .i64 0,.slice none 0 0]
theorem Tryz.infoRF:(Tryz.prog.info? 56).map (fun i=>(i.zero,i.size,i.bytes))=some (some (.agg Mq),7,112):=by kernel_rfl
theorem LK(f a b c j k m g h i):∀u∈(GL f (.slice a j g) (.slice b k h) (.slice c m i)).toList,u.oneCell'=true:=by intro u e;simp [GL] at e;rcases e with rfl | rfl | rfl | rfl | rfl | rfl | rfl<;>rfl
structure PF(l o g n C B:Nat)(U:Nat→Prop)(d:List Tk)(p E:Value)(x:St)(A:List FS)(s:List RF)(w:World):Prop where
 rd:Ax l o g n C x.i9 x.l6 w
 tk:AA g n C d w
 pr:Bj o p E x.pl x.ca w
 st:A2 B U w E A
 fn:Bt B w p s
 ul:∀k,U k→k<w.heap.size
section
variable {l o g n C B : Nat} {U : Nat → Prop} {d : List Tk} {p E : Value} {x : St} {A : List FS} {s : List RF} {w D : World}
theorem PF.u5(h:PF l o g n C B U d p E x A s w):g≠l∧o≠l∧g≠o:=⟨h.tk.ne h.rd (by decide),h.pr.i6.ne h.rd.i6 (by decide),h.tk.ne h.pr (by decide)⟩
theorem PF.z8(h:PF l o g n C B U d p E x A s w):∀k,p.ownBlock=some k→k≠l∧k≠o:=by intro k a;obtain ⟨c,b,_⟩:=h.fn;exact ⟨Az b h.rd (by decide) k a,Az b h.pr (by decide) k a⟩
theorem PF.m8(h:PF l o g n C B U d p E x A s w)(a:Ab (fun _=>False) w D):PF l o g n C B U d p E x A s D:=
 ⟨h.rd.d7 a (fun q=>q),h.tk.d7 a (fun q=>q),h.pr.i6.d7 a (fun q=>q),h.st.m8 a,h.fn.m8 a,fun k b=>Nat.lt_of_lt_of_le (h.ul k b) a.size⟩
theorem PF.call{c b}(h:PF l o g n C B U d p E x A s w)(e:Ab (fun k=>k=l) w D)(m:Ax l o g n C c b D):PF l o g n C B U d p E ⟨c,b,x.pl,x.ca⟩ A s D:=by have i:=h.u5;refine ⟨m,h.tk.d7 e i.1,h.pr.i6.d7 e i.2.1,h.st.rb h.rd e,h.fn.d7 e (fun k a=>(h.z8 k a).1) ?_,fun k a=>Nat.lt_of_lt_of_le (h.ul k a) e.size⟩;intro k q t r a j;have a:k=l:=a;subst a;have f:w.heap[k]? =_:=h.rd;rw [j] at f;simp only [Option.some.injEq,Obj.cells.injEq] at f;rw [f.2.1];decide
theorem PF.s8{L a}(h:PF l o g n C B U d p E x A s w)(e:Ao d L x=a)(b:Ab (fun k=>k=l) w D)(c:Ax l o g n C (C0 d x.i9 x.l6 L).1 (C0 d x.i9 x.l6 L).2 D):PF l o g n C B U d p E a A s D:=by subst e;exact h.call b c
theorem PF.get{k q a}(h:PF l o g n C B U d p E x A s w)(f:Bc d k x=(q,a))(b:Ab (fun k=>k=l) w D)(c:Ax l o g n C (BO d x.i9 x.l6 k).2.1 (BO d x.i9 x.l6 k).2.2 D):PF l o g n C B U d p E a A s D:=by have e:a=⟨(BO d x.i9 x.l6 k).2.1,(BO d x.i9 x.l6 k).2.2,x.pl,x.ca⟩:=(congrArg Prod.snd f).symm;subst e;exact h.call b c
theorem PF.list{q a}(h:PF l o g n C B U d p E x A s w)(f:Bv d x=(q,a))(b:Ab (fun k=>k=l) w D)(c:Ax l o g n C (BE d x.i9 x.l6).2.1 (BE d x.i9 x.l6).2.2 D):PF l o g n C B U d p E a A s D:=by have e:a=⟨(BE d x.i9 x.l6).2.1,(BE d x.i9 x.l6).2.2,x.pl,x.ca⟩:=(congrArg Prod.snd f).symm;subst e;exact h.call b c
theorem PF.Mx{f i u v}(h:PF l o g n C B U d p E x A s w)(j:Aq f u 56 w)(y:∀k,p.ownBlock=some k→k≠f):PF l o g n C B U d p E x A s (w.setCell ⟨f,i,none⟩ v):=by
 have e:=(Ab.refl (fun k=>k=f) w).i7 i v;have r:∀(k:Nat) (b:Array Value) (t:TypeId) (c:Nat×Nat),k=f→w.heap[k]? =some (.cells b t c)→t=56:=by intro k b t c a m;subst a;have q:w.heap[k]? =_:=j;rw [m] at q;simp only [Option.some.injEq,Obj.cells.injEq] at q;exact q.2.1
 refine ⟨h.rd.d7 e (h.rd.i6.ne j (by decide)),h.tk.d7 e (h.tk.ne j (by decide)),h.pr.i6.d7 e (h.pr.i6.ne j (by decide)),h.st.d7 e (fun k a=>?_) (fun k b t c a m=>by rw [r k b t c a m];decide),h.fn.d7 e (fun k a=>y k a) (fun k b t c a m=>by rw [r k b t c a m];decide),fun k a=>Nat.lt_of_lt_of_le (h.ul k a) e.size⟩;obtain ⟨F,z,_⟩:=h.st;exact Az z j (by decide) k a
theorem PF.block{c}{i:Nat→Prop}{x' j}(h:PF l o g n C B U d p E x A s w)(v:Ax l o g n C x'.i9 x'.l6 D)(G:AA g n C d D)(u:Bj o p c x'.pl x'.ca D)(z:A2 B i D c j)(r:Da l o E c w D):PF l o g n C B (fun k=>i k∧k<D.heap.size) d p c x' j s D:=by
 have F:=h.st;obtain ⟨K,m,_⟩:=F;refine ⟨v,G,u,z.below,h.fn.d7 r.d7 (fun k a q=>?_) (fun k N t O a e=>?_),fun k a=>a.2⟩
 ·rcases q with q | q | q
  ·exact (h.z8 k a).1 q
  ·exact (h.z8 k a).2 q
  ·obtain ⟨L,y,_⟩:=h.fn;exact EO y m (by decide) k a q
 ·rcases a with a | a | a
  ·subst a;have b:w.heap[k]? =_:=h.rd;rw [e] at b;simp only [Option.some.injEq,Obj.cells.injEq] at b;rw [b.2.1];decide
  ·subst a;have b:w.heap[k]? =_:=h.pr;rw [e] at b;simp only [Option.some.injEq,Obj.cells.injEq] at b;rw [b.2.1];decide
  ·rcases m.2 with ⟨I,_⟩ | ⟨P,J,M,H,_,f,_⟩
   ·rw [I] at a;simp [Value.ownBlock] at a
   ·rw [H] at a;simp [Value.ownBlock] at a;subst a;rw [e] at f;simp only [Option.some.injEq,Obj.cells.injEq] at f;rw [f.2.1];decide
end
theorem Bt.push{B w W g p z c f r m}(h:Bt B w p c)(N:Ab (fun _=>False) w W)(X:CP B w r f.p7)(P:Bs B w m f.p8)(x:f.r6=[])
 (J:g.ownsRow B 56 7 z (c.length+1) ((h.choose).flatten++(GL f r m AG).toList))(R:W.grownBy g p.ownBlock):Bt B g z (c++[f])∧Ab (fun k=>p.ownBlock=some k) w g:=by
 have K:=h.choose_spec;generalize h.choose=b at J K;obtain ⟨V,I,U,O⟩:=K;have v:Ab (fun k=>p.ownBlock=some k) w g:=Ab.grown (N.mono (fun _ _ q=>q.elim)) R (fun k a=>.inl a);have L:∀(k:Nat) (y:Array Value) (t:TypeId) (F:Nat×Nat),p.ownBlock=some k→w.heap[k]? =some (.cells y t F)→t≠3∧t≠52∧t≠9:=by
  intro k y t F a Q;rcases V.2 with ⟨Y,_⟩ | ⟨g',Z,a0,x,_,u,_⟩
  ·rw [Y] at a;simp [Value.ownBlock] at a
  ·rw [x] at a;simp [Value.ownBlock] at a;subst a;rw [Q] at u;simp only [Option.some.injEq,Obj.cells.injEq] at u;rw [u.2.1];decide
 refine ⟨⟨b++[(GL f r m AG).toList],?_,by simp [I],?_,?_⟩,v⟩
 ·rw [List.flatten_append,List.length_append];simpa using J
 ·intro i h1 M;by_cases n:i<c.length
  ·rw [List.getElem_append_left (by omega),List.getElem_append_left n];exact (U i (by omega) n).d7 v L
  ·have e:i=c.length:=by simp at M;omega
   subst e;rw [List.getElem_append_right (by omega),List.getElem_append_right (by omega)];simp only [Nat.sub_self,I,List.getElem_cons_zero];refine Ib.d7 ⟨r,m,AG,rfl,X,P,?_⟩ v L;rw [x];exact World.ownsRow_nil _ _ _ _
 ·intro i j n S T k a q;simp only [List.length_append,List.length_singleton] at n S;by_cases G:i<b.length
  ·rw [List.getElem_append_left G] at a;by_cases H:j<b.length
   ·rw [List.getElem_append_left H] at q;exact O i j G H T k a q
   ·rw [List.getElem_append_right (by omega)] at q;simp [IX,GL,Value.ownBlock,show j-b.length=0 by omega] at q
  ·rw [List.getElem_append_right (by omega)] at a;simp [IX,GL,Value.ownBlock,show i-b.length=0 by omega] at a
theorem Il{a n}(c:(Ai a (n-1)).sort=0)(f k x b)(h:Fq n x b.length):Fq n (FC a f k x b).2.1 (FC a f k x b).2.2.length∧((FC a f k x b).2.1.l6=none→x.i9<(FC a f k x b).2.1.i9)∧x.i9≤(FC a f k x b).2.1.i9:=by
 have E:=AR a;have C:∀(L:List UInt8) (x:St),x.i9<n→(Ao a L x).i9<n:=fun L x h=>Bo rfl c h
 unfold FC;simp only;have m:=(E [102,110] x).trans (Dz a 1 (Ao a [102,110] x));have j:(Bc a 1 (Ao a [102,110] x)).2.i9<n:=C5 (q:=(Bc a 1 (Ao a [102,110] x)).1) rfl (by decide) c (C _ _ h.1);generalize (Bc a 1 (Ao a [102,110] x)).2=y at*;have o:=m.trans ((E [40] y).trans (DI a (Ao a [40] y)));have l:(Bv a (Ao a [40] y)).2.i9<n:=DB (q:=(Bv a (Ao a [40] y)).1) rfl c (C _ _ j);generalize (Bv a (Ao a [40] y)).2=z at*;have d:=o.trans (E [123] z);have p:=h.t6 d (C [123] z l);obtain ⟨i,t,u⟩:=(CA c f).1 k _ b [] p;generalize As a f k (Ao a [123] z) b []=r at*;have g:=E [125] r.2.1;have s:=i.t6 g (C [125] _ i.1);refine ⟨s,fun e=>?_,?_⟩
 ·have:=g.2.2.2 e;have:=d.1;omega
 ·have:=g.1;have:=d.1;omega
theorem Ln{U:Nat→Prop}{m f g n q c b B j A p s i C v l r w o}(h:CP j w v l)(x:Ax m f g n q c b w)(u:Bj f s i A p w)(z:A2 B U w i r)(t:Da m f i C w o):CP j o v l:=by
 obtain ⟨D,y,_⟩:=z;refine Am h t.d7 (fun k d e a=>?_);rcases a with a | a | a
 ·exact BD x.i6 (by decide) k d e a
 ·exact BD u.i6 (by decide) k d e a
 ·exact FF y (by decide) k d e a
theorem Ab.new{X:Nat→Prop}{a w b:World}(h:Ab (fun _=>False) a w)(k:Ab X w b)(c:∀k,X k→a.heap.size≤k):Ab (fun _=>False) a b:=((h.mono (fun _ _ q=>q.elim)).trans k).mono (fun i d q=>by have:=c i q;omega)
theorem PF.grow{v e g n o B}{U:Nat→Prop}{z j i y x C G A w f}(h:PF v e g n o B U z j y x C G w)(hF:Bt B f i A)(l:Ab (fun k=>j.ownBlock=some k) w f)(J:∀k,i.ownBlock=some k→j.ownBlock=some k∨w.heap.size≤k):PF v e g n o B U z i y x C A (f.setCell ⟨e,0,none⟩ i):=by
 have m:=(Ab.refl (fun k=>k=e) f).i7 0 i;have D:=h.u5;have I:=h.fn;obtain ⟨P,s,_⟩:=I;have N:∀(k:Nat) (b:Array Value) (t:TypeId) (c:Nat×Nat),j.ownBlock=some k→w.heap[k]? =some (.cells b t c)→t=56:=by
  intro k b t c a d;rcases s.2 with ⟨M,_⟩ | ⟨R,O,Q,L,_,r,_⟩
  ·rw [M] at a;simp [Value.ownBlock] at a
  ·rw [L] at a;simp [Value.ownBlock] at a;subst a;rw [d] at r;simp only [Option.some.injEq,Obj.cells.injEq] at r;exact r.2.1
 have E:Bj e j y x.pl x.ca f:=h.pr.i6.d7 l (fun q=>(h.z8 e q).2 rfl);have F:∀(k:Nat) (b:Array Value) (t:TypeId) (c:Nat×Nat),k=e→f.heap[k]? =some (.cells b t c)→t=50:=by intro k b t c a d;subst a;have p:f.heap[k]? =_:=E;rw [d] at p;simp only [Option.some.injEq,Obj.cells.injEq] at p;exact p.2.1
 have S:=Ad h.pr;have K:AA g n o z f:=h.tk.d7 l (fun q=>EO s h.tk.1 (by decide) g q rfl);refine ⟨(h.rd.d7 l (fun q=>(h.z8 v q).1 rfl)).d7 m (fun q=>D.2.1 q.symm),K.d7 m D.2.2,?_,(h.st.d7 l (fun k a q=>?_) (fun k b t c a d=>by rw [N k b t c a d];decide)).d7 m (fun k a q=>?_) (fun k b t c a d=>by rw [F k b t c a d];decide),hF.d7 m (fun k a q=>?_) (fun k b t c a d=>by rw [F k b t c a d];decide),fun k a=>?_⟩
 ·have:=E.i6.set 0 i;simpa [Bj,Aq] using this
 ·obtain ⟨H,u,_⟩:=h.st;exact EO u s (by decide) k a q
 ·obtain ⟨H,u,_⟩:=h.st;exact Az u h.pr (by decide) k a q
 ·have q:k=e:=q;subst q;rcases J k a with q | q
  ·exact (h.z8 k q).2 rfl
  ·omega
 ·have:=h.ul k a;have:=l.size;have:=m.size;omega
def L6(w:World)(r:List RF×St×List FS)(e:Ending)(a:World):Prop:=
 ∃(b c:Value) (U:Nat→Prop),e=.returned (.tuple #[.pointer (some ⟨w.heap.size,0,none⟩),.int .i64 (Dv r.2.1.l6)])∧Bj w.heap.size b c r.2.1.pl r.2.1.ca a∧A2 w.heap.size U a c r.2.2∧Bt w.heap.size a b r.1∧Ab (fun _=>False) w a
theorem ET(g n B d w)(ht:AA g n B d w)(e8:0<n)(hz:(Ai d (n-1)).sort=0):
 Calls Tryz.prog 12 #[.slice (some ⟨g,0,none⟩) n B] w fun e w'=>L6 w (BU d (2*n) n ⟨0,none,0,0⟩ [] []) e w':=by
 obtain ⟨i0,hi,g4,g5,g6⟩:=info_parts Tryz.infoRF;have hn:=ht.2.2;have lg:g<w.heap.size:=(ht.1.lt g rfl).2;generalize hV:BU d (2*n) n ⟨0,none,0,0⟩ [] []=V;have HV:=Aa hV;have R:=Aa hz;have P0:Nj (PF (w.heap.size+1) w.heap.size g n B w.heap.size (fun _=>False) d (.slice none 0 0) (.slice none 0 0) ⟨0,none,0,0⟩ [] [] ((w.alloc (.cells #[.slice none 0 0,.slice none 0 0,.int .i64 0,.int .i64 0] 50)).alloc (.cells #[.slice (some ⟨g,0,none⟩) n B,.int .i64 0,.int .i64 (-1),.pointer (some ⟨w.heap.size,0,none⟩)] 78))):=by
  refine ⟨?_,ht.d7 (((Ab.refl (fun _=>False) w).alloc _).alloc _) (fun q=>q),?_,⟨[],World.ownsRow_nil _ _ _ _,rfl,fun i h=>by simp at h⟩,⟨[],World.ownsRow_nil _ _ _ _,rfl,fun i h=>by simp at h,fun i j h=>by simp at h⟩,fun _ h=>h.elim⟩
  ·have:=Aq.new (w.alloc (.cells #[.slice none 0 0,.slice none 0 0,.int .i64 0,.int .i64 0] 50)) #[.slice (some ⟨g,0,none⟩) n B,.int .i64 0,.int .i64 (-1),.pointer (some ⟨w.heap.size,0,none⟩)] 78;simpa [Ax,Aq,Dv] using this
  ·exact (Aq.new w _ _).alloc _
 have O0:=Aa (((Ab.refl (fun _=>False) w).alloc (.cells #[.slice none 0 0,.slice none 0 0,.int .i64 0,.int .i64 0] 50)).alloc (.cells #[.slice (some ⟨g,0,none⟩) n B,.int .i64 0,.int .i64 (-1),.pointer (some ⟨w.heap.size,0,none⟩)] 78));have I0:Nj (Fq n ⟨0,none,0,0⟩ 0):=⟨e8,Nat.zero_le _,Nat.zero_le _,Nat.zero_le _,fun _=>⟨Nat.le_refl _,Nat.le_refl _,Nat.le_refl _⟩⟩;clear ht hz hV;go_enter Tryz.func12,Tryz.ntmps12;go_wp2;go_loopw [] (fun wr=>∃(x:St) (L:List FS) (r:List RF) (fv sv:Value) (U:Nat→Prop) (m:Nat),Nj (PF (w.heap.size+1) w.heap.size g n B w.heap.size U d fv sv x L r wr)∧Nj (Ab (fun _=>False) w wr)∧Nj (Fq n x L.length)∧Nj (x.l6=none→n-x.i9≤m∧r.length≤x.i9)∧r.length≤n∧Nj (BU d (2*n) m x L r=V)) (fun wr=>Hx (w.heap.size+1) n wr)
 case atStart=>exact ⟨⟨0,none,0,0⟩,[],[],_,_,_,n,P0,O0,I0,fun _=>⟨by simp,by simp⟩,by simp,HV⟩
 case round=>
  clear P0 O0 I0 HV;obtain ⟨x,L,r,fv,sv,U,m,s,HO,HI,HB,g9,HC⟩:=hrel;have hc:=HI.o.1;obtain ⟨t0,t1,t2⟩:=s.o.tk.cells hc;have r0:=s.o.rd.i6.cell 0;have r1:=s.o.rd.i6.cell 1;have Q:=s.o.rd.i6.cell 2;have O:=s.o.pr.i6.cell 0;simp at r0 r1 Q O;have lr:=Ad s.o.rd;have lp:=Ad s.o.pr;have g7:g<wr.heap.size:=(s.o.tk.1.lt g rfl).2;obtain ⟨fa,fl,fc,rfl⟩:∃a l c,fv=.slice a l c:=by obtain ⟨_,h,_⟩:=s.o.fn;exact Af h
  have e6:fl=r.length:=by obtain ⟨_,h,_⟩:=s.o.fn;exact Ap h
  subst e6;have HM:=Aa (D9 s.o.rd);by_cases a2:x.l6=none∧(r=[]∨(Ai d x.i9).sort≠0)
  ·obtain ⟨y,b6⟩:=a2;have h3:=HB.o y;obtain ⟨m',e7⟩:∃m',m=m'+1:=⟨m-1,by omega⟩;subst e7;obtain ⟨f1,x9,b3,h9⟩:∃a b c,FC d (2*n) r.length x L=(a,b,c):=⟨_,_,_,rfl⟩;have e3:Nj (BU d (2*n) m' x9 b3 (r++[f1])=V):=by have:=HC.o;rw [BU,if_pos ⟨y,b6⟩,h9] at this;exact this
   have c0:=Il R.o (2*n) r.length x L HI.o;rw [h9] at c0;have a0:=Aa c0;have H9:=Aa h9;have e2:=Aa y;have h0:((r.length:Int)==0)=true∨(((r.length:Int)==0)=false∧(((Ai d x.i9).sort:Int) !=0)=true):=by
    cases r with
    | nil=>left;rfl
    | cons a l=>
      right;refine ⟨by simp;omega,?_⟩;rcases b6 with q | q
      ·cases q
      ·simp;omega
   rw [y] at Q;simp only [Dv] at Q;clear HC c0 h9 y b6;rcases h0 with h0 | ⟨h0,g8⟩
   all_goals
    go_wp2_with fail;go_quiet (fail);go_wp2_with fail;have PQ:=Aa (s.o.m8 ((Ab.refl (fun _=>False) wr).drewN nq));have OQ:Nj (Ab (fun _=>False) w (wr.drewN nq)):=HO.o.drewN nq;clear t0 t1 t2 r0 r1 Q O lr lp g7 s HO;generalize wr.drewN nq=wq at PQ OQ⊢;obtain ⟨S,b0⟩:∃z,Ao d [102,110] x=z:=⟨_,rfl⟩;refine (EG (w.heap.size+1) w.heap.size g n B x.i9 x.l6 d _ [102,110] (by simp) wq PQ.o.rd PQ.o.tk hc).mono ?_;rintro e o ⟨rfl,d1,b5⟩;have P1:=Aa (PQ.o.s8 b0 b5 d1);have O1:=Aa (Ab.new OQ.o b5 (fun k t=>by omega));have c5:S.i9<n:=Bo b0 R.o hc;have X1:=Aa b0;clear d1 b5 b0 PQ OQ;go_wp2_with fail;have P2:=Aa (P1.o.m8 ((Ab.refl (fun _=>False) o).alloc (.cells Mq 56)));have B2:=Aa (Aq.new o Mq 56);have O2:=Aa (O1.o.alloc (.cells Mq 56));have X:∀k,Value.ownBlock (.slice fa r.length fc)=some k→k≠o.heap.size:=fun k t=>by obtain ⟨_,h,_⟩:=P1.o.fn;have:=(h.lt k t).2;omega
    have a5:o.heap.size≠w.heap.size+1:=by have:=Ad P1.o.rd;omega
    have Y:=O1.o.size;obtain ⟨p,T,a3⟩:∃q z,Bc d 1 S=(q,z):=⟨_,_,rfl⟩;refine (FE (w.heap.size+1) w.heap.size g n B S.i9 1 S.l6 d _ P2.o.rd P2.o.tk c5).mono ?_;rw [show (BO d S.i9 S.l6 1).1=p from congrArg Prod.fst a3];rintro e w2 ⟨rfl,d2,a7⟩;have P3:=Aa (P2.o.get a3 a7 d2);have I:=Aa (B2.o.d7 a7 a5);have O3:=Aa (Ab.new O2.o a7 (fun k t=>by omega));have c6:T.i9<n:=C5 a3 (by decide) R.o c5;have X2:=Aa a3;clear d2 a7 a3 P1 P2 B2 O1 O2;unfold EW;have f0:=I.o.cell 0;have c4:=I.o.cell 1;have f2:=I.o.cell 2;have ff:=I.o.frozen;have Z:=Ad I.o;simp only [Ni,Ng,Nh] at f0 c4 f2;go_wp2_with fail;have P4:=Aa (((P3.o.Mx (i:=0) (v:=.string p.d9) I.o X).Mx (i:=1) (v:=.int .i64 p.pos) (I.o.set 0 _) X).Mx (i:=2) (v:=.int .i64 p.sort) ((I.o.set 0 _).set 1 _) X);have B4:Nj (Aq o.heap.size #[.string p.d9,.int .i64 p.pos,.int .i64 p.sort,.slice none 0 0,.slice none 0 0,.int .i64 0,.slice none 0 0] 56 (((w2.setCell ⟨o.heap.size,0,none⟩ (.string p.d9)).setCell ⟨o.heap.size,1,none⟩ (.int .i64 p.pos)).setCell ⟨o.heap.size,2,none⟩ (.int .i64 p.sort))):=by have:=((I.o.set 0 (.string p.d9)).set 1 (.int .i64 p.pos)).set 2 (.int .i64 p.sort);exact Aa (by simpa using this)
    have O4:=Aa (((O3.o.l9 (b:=o.heap.size) 0 (.string p.d9) Y).l9 (b:=o.heap.size) 1 (.int .i64 p.pos) Y).l9 (b:=o.heap.size) 2 (.int .i64 p.sort) Y);clear P3 I O3 f0 c4 f2 ff Z;generalize ((w2.setCell ⟨o.heap.size,0,none⟩ (.string p.d9)).setCell ⟨o.heap.size,1,none⟩ (.int .i64 p.pos)).setCell ⟨o.heap.size,2,none⟩ (.int .i64 p.sort)=w3 at P4 B4 O4⊢;obtain ⟨W,b1⟩:∃z,Ao d [40] T=z:=⟨_,rfl⟩;refine (EG (w.heap.size+1) w.heap.size g n B T.i9 T.l6 d _ [40] (by simp) w3 P4.o.rd P4.o.tk c6).mono ?_;rintro e w4 ⟨rfl,d3,a8⟩;have P5:=Aa (P4.o.s8 b1 a8 d3);have B5:=Aa (B4.o.d7 a8 a5);have O5:=Aa (Ab.new O4.o a8 (fun k t=>by omega));have c7:W.i9<n:=Bo b1 R.o c6;have X3:=Aa b1;clear d3 a8 b1 P4 B4 O4;go_wp2_with fail;obtain ⟨P,x4,a4⟩:∃q z,Bv d W=(q,z):=⟨_,_,rfl⟩;refine (Iu (w.heap.size+1) w.heap.size g n B W.i9 W.l6 d _ P5.o.rd P5.o.tk c7 R.o).mono ?_;rw [show (BE d W.i9 W.l6).1=P from congrArg Prod.fst a4];rintro e w5 ⟨v4,rfl,b7,d4,a9⟩;have T5:=Aa (Ar b7 (B':=w.heap.size) (by have:=O5.o.size;omega));obtain ⟨C,E,D,rfl⟩:=Af b7;have P6:=Aa (P5.o.list a4 a9 d4);have M:=Aa (B5.o.d7 a9 a5);have O6:=Aa (Ab.new O5.o a9 (fun k t=>by omega));have e4:x4.i9<n:=DB a4 R.o c7;have X4:=Aa a4;clear d4 a9 a4 b7 P5 B5 O5;have f3:=M.o.cell 3;have ff:=M.o.frozen;have Z:=Ad M.o;have O:=P6.o.pr.i6.cell 0;have lp:=Ad P6.o.pr;simp only [Ni,Ng,Nh] at f3 O;have f7:w.heap.size≠o.heap.size:=P6.o.pr.i6.ne M.o (by decide);go_wp2_with fail;have u:=Aa (P6.o.Mx (i:=3) (v:=.slice C E D) M.o X);have B7:Nj (Aq o.heap.size #[.string p.d9,.int .i64 p.pos,.int .i64 p.sort,.slice C E D,.slice none 0 0,.int .i64 0,.slice none 0 0] 56 (w5.setCell ⟨o.heap.size,3,none⟩ (.slice C E D))):=by have:=M.o.set 3 (.slice C E D);exact Aa (by simpa using this)
    have O7:=Aa (O6.o.l9 (b:=o.heap.size) 3 (.slice C E D) Y);have T7:Nj (CP w.heap.size (w5.setCell ⟨o.heap.size,3,none⟩ (.slice C E D)) (.slice C E D) P):=Am T5.o ((Ab.refl (fun k=>k=o.heap.size) w5).i7 3 _) (fun k ds fz t=>BD M.o (by decide) k ds fz t);clear P6 M O6 T5 f3 ff Z O lp;generalize w5.setCell ⟨o.heap.size,3,none⟩ (.slice C E D)=w6 at u B7 O7 T7⊢;have G4:Ds 4 x x4:=by have q:=(AR d [102,110] x).trans (Dz d 1 (Ao d [102,110] x));rw [X1.o,show (Bc d 1 S).2=T by rw [X2.o]] at q;have p:=q.trans ((AR d [40] T).trans (DI d (Ao d [40] T)));rw [X3.o,show (Bv d W).2=x4 by rw [X4.o]] at p;exact p
    have c3:=Aa (HI.o.t6 G4 e4);obtain ⟨ro,rx,rf,c1⟩:∃a b c,As d (2*n) r.length (Ao d [123] x4) L []=(a,b,c):=⟨_,_,_,rfl⟩;obtain ⟨x5,c2⟩:∃z,Ao d [125] rx=z:=⟨_,rfl⟩;obtain ⟨A,b9⟩:∃z,(Ai d x4.i9).pos=z:=⟨_,rfl⟩;have hF:f1=⟨p,P,ro,A,[]⟩∧x9=x5∧b3=rf:=by have:=H9.o;unfold FC at this;simp only [X1.o,X2.o,X3.o,X4.o,c1,c2,b9,Prod.mk.injEq] at this;exact ⟨this.1.symm,this.2.1.symm,this.2.2.symm⟩
    obtain ⟨rfl,rfl,rfl⟩:=hF;clear G4 HI H9;refine (GP (2*n) (fun k _=>Lg k) (w.heap.size+1) w.heap.size g n B w.heap.size r.length U d (.slice fa r.length fc) sv x4 L w6 u.o.rd u.o.tk u.o.pr u.o.st u.o.ul O7.o.size R.o c3.o (fun _=>by omega)).mono ?_;rw [c1,b9];simp only [c2];rintro e w7 ⟨h5,bv,U2,f8,f9,g0,rfl,b4,d5,d8,d0,d7,a1⟩;have P8:=Aa (u.o.block (x':=x9) d5 d8 d0 d7 a1);have T8:=Aa (Ln T7.o u.o.rd u.o.pr u.o.st a1);have I8:=Aa (Ar b4 (B':=w.heap.size) O7.o.size);have J:=Aa (B7.o.d7 a1.d7 (by
     rintro (q | q | q)
     ·exact a5 q
     ·exact f7 q.symm
     ·obtain ⟨_,h,_⟩:=u.o.st;exact Az h B7.o (by decide) _ q rfl))
    have O8:=Aa (Ab.new O7.o a1.d7 (fun k t=>by
     rcases t with q | q | q
     ·omega
     ·omega
     ·obtain ⟨_,h,_⟩:=u.o.st;exact (h.lt k q).1))
    obtain ⟨F,H,G,rfl⟩:=Af b4;clear f8 f9 g0 b4 d5 d8 d0 d7 a1 u B7 O7 T7 c1 c2 b9 c3;have f4:=J.o.cell 4;have f5:=J.o.cell 5;have ff:=J.o.frozen;have Z:=Ad J.o;simp only [Ni,Ng,Nh] at f4 f5;go_wp2_with fail;have N:=Aa ((P8.o.Mx (i:=5) (v:=.int .i64 A) J.o X).Mx (i:=4) (v:=.slice F H G) (J.o.set 5 _) X);have K:Nj (Aq o.heap.size #[.string p.d9,.int .i64 p.pos,.int .i64 p.sort,.slice C E D,.slice F H G,.int .i64 A,.slice none 0 0] 56 ((w7.setCell ⟨o.heap.size,5,none⟩ (.int .i64 A)).setCell ⟨o.heap.size,4,none⟩ (.slice F H G))):=by have:=(J.o.set 5 (.int .i64 A)).set 4 (.slice F H G);exact Aa (by simpa using this)
    have O9:=Aa ((O8.o.l9 (b:=o.heap.size) 5 (.int .i64 A) Y).l9 (b:=o.heap.size) 4 (.slice F H G) Y);have T9:Nj (CP w.heap.size ((w7.setCell ⟨o.heap.size,5,none⟩ (.int .i64 A)).setCell ⟨o.heap.size,4,none⟩ (.slice F H G)) (.slice C E D) P):=Am T8.o (((Ab.refl (fun k=>k=o.heap.size) w7).i7 5 _).i7 4 _) (fun k ds fz t=>BD J.o (by decide) k ds fz t);have I9:Nj (Bs w.heap.size ((w7.setCell ⟨o.heap.size,5,none⟩ (.int .i64 A)).setCell ⟨o.heap.size,4,none⟩ (.slice F H G)) (.slice F H G) ro):=Am I8.o (((Ab.refl (fun k=>k=o.heap.size) w7).i7 5 _).i7 4 _) (fun k ds fz t=>BD J.o (by decide) k ds fz t);clear P8 J O8 T8 I8 f4 f5 ff Z;generalize (w7.setCell ⟨o.heap.size,5,none⟩ (.int .i64 A)).setCell ⟨o.heap.size,4,none⟩ (.slice F H G)=w8 at N K O9 T9 I9⊢;have d6:=N.o.fn.choose_spec.1;have f0:=K.o.cell 0;have f1:=K.o.cell 1;have f2:=K.o.cell 2;have f3:=K.o.cell 3;have f4:=K.o.cell 4;have f5:=K.o.cell 5;have f6:=K.o.cell 6;have Z:=Ad K.o;have O:=N.o.pr.i6.cell 0;have pf:=N.o.pr.i6.frozen 0;have lp:=Ad N.o.pr;simp only [Ni,Ng,Nh] at f0 f1 f2 f3 f4 f5 f6 O;have NP:=Aa (fun k t=>(N.o.z8 k t).2);have h4:=O9.o.size;go_region_law (refine AV rfl _ _ 47 rfl w.heap.size 56 i0 (.agg Mq) 7 112 Tryz.underlying47 hi g4 g5 g6 rfl (by decide) _ _ _ rfl (d6.alloc _) ⟨w8.heap.size,0,none⟩ 1 1 (GL ⟨p,P,ro,A,[]⟩ (.slice C E D) (.slice F H G) AG).toList rfl rfl (Bn rfl _ _) (LK _ _ _ _ _ _ _ _ _ _) (by decide) (by unfold maxLen;omega) (by omega) (by simp;omega) ?_;intro v' w9 b8 a6 c9;have q1:w9.cell? ⟨w.heap.size,0,none⟩=some (.slice fa r.length fc):=(World.cell?_of_block (a6.block w.heap.size (by simp;omega) (fun h=>NP.o _ h.symm rfl))).trans (by rw [←O];exact World.cell?_of_block (Below.heap_alloc _ _ _ lp));have qf:w9.frozen? ⟨w.heap.size,0,none⟩=false:=(World.frozen?_of_block (a6.block w.heap.size (by simp;omega) (fun h=>NP.o _ h.symm rfl))).trans (by rw [←pf];exact World.frozen?_of_block (Below.heap_alloc _ _ _ lp));obtain ⟨d9,e1,e0,rfl⟩:=Af b8);all_goals
     have c8:(w8.alloc (.cells (GL ⟨p,P,ro,A,[]⟩ (.slice C E D) (.slice F H G) AG) 56)).drew.grownBy w9 (Value.ownBlock (.slice fa r.length fc)):=a6;have e9:∀k,Value.ownBlock (.slice d9 e1 e0)=some k→Value.ownBlock (.slice fa r.length fc)=some k∨w8.heap.size≤k:=fun k t=>(c9 k t).imp (fun q=>q) (fun q=>by simp at q;omega)
     have FP:=Bt.push (f:=⟨p,P,ro,A,[]⟩) N.o.fn (((Ab.refl _ w8).alloc _).drew) T9.o I9.o rfl b8 c8;have PX:=Aa (N.o.grow FP.1 FP.2 e9);have OX:=Aa ((Ab.new O9.o FP.2 (fun k t=>(d6.lt k t).1)).l9 (b:=w.heap.size) 0 (.slice d9 e1 e0) (Nat.le_refl _));clear a6 c9 b8 c8 FP;go_wp2_with fail;refine ⟨⟨x9,b3,r++[⟨p,P,ro,A,[]⟩],_,_,_,m',PX,OX,a0.o.1,fun e=>?_,?_,e3⟩,?_⟩
     ·have:=a0.o.2.1 e;simp only [List.length_append,List.length_singleton];omega
     ·simp only [List.length_append,List.length_singleton];omega
     ·rw [D9 PX.o.rd,HM.o,if_pos e2.o];have g1:=a0.o.2.2;have g2:=a0.o.2.1;have g3:=a0.o.1.1;split
      ·rename_i e;have:=g2 e;omega
      ·omega
  ·have hv:V=(r,x,L):=by
    rw [←HC.o];cases m with
    | zero=>rw [BU]
    | succ m=>rw [BU,if_neg a2]
   subst hv
   have e5:(∃b:Nat,x.l6=some b)∨(x.l6=none∧((r.length:Int)==0)=false∧(((Ai d x.i9).sort:Int) !=0)=false):=by
    cases hx:x.l6 with
    | some b=>exact .inl ⟨b,rfl⟩
    | none=>
      right;refine ⟨rfl,?_,?_⟩
      ·cases r with
       | nil=>exact absurd ⟨hx,.inl rfl⟩ a2
       | cons a l=>simp;omega
      ·by_cases hq:(Ai d x.i9).sort=0
       ·simp [hq]
       ·exact absurd ⟨hx,.inr hq⟩ a2
   clear HC a2
   rcases e5 with ⟨b,y⟩ | ⟨y,h0,h1⟩
   ·have h2:decide ((b:Int)<0)=false:=by simp
    rw [y] at Q;simp only [Dv] at Q;have b2:=Aa y;clear y;go_wp2_with fail;go_quiet (fail);go_wp2_with fail;go_quiet (fail);go_wp2;go_ret2;exact ⟨_,_,_,by rw [b2.o];rfl,(s.o.m8 (by repeat (first | exact Ab.refl _ _ | refine Ab.drew ?_ | refine Ab.drewN ?_ _ | refine Ab.alloc ?_ _))).pr,(s.o.m8 (by repeat (first | exact Ab.refl _ _ | refine Ab.drew ?_ | refine Ab.drewN ?_ _ | refine Ab.alloc ?_ _))).st,(s.o.m8 (by repeat (first | exact Ab.refl _ _ | refine Ab.drew ?_ | refine Ab.drewN ?_ _ | refine Ab.alloc ?_ _))).fn,HO.o.t8 (by repeat (first | exact Ab.refl _ _ | refine Ab.drew ?_ | refine Ab.drewN ?_ _ | refine Ab.alloc ?_ _))⟩
   ·rw [y] at Q
    simp only [Dv] at Q;have b2:=Aa y;clear y;go_wp2_with fail;go_quiet (fail);go_wp2_with fail;go_quiet (fail);go_wp2;go_ret2;exact ⟨_,_,_,by rw [b2.o];rfl,(s.o.m8 (by repeat (first | exact Ab.refl _ _ | refine Ab.drew ?_ | refine Ab.drewN ?_ _ | refine Ab.alloc ?_ _))).pr,(s.o.m8 (by repeat (first | exact Ab.refl _ _ | refine Ab.drew ?_ | refine Ab.drewN ?_ _ | refine Ab.alloc ?_ _))).st,(s.o.m8 (by repeat (first | exact Ab.refl _ _ | refine Ab.drew ?_ | refine Ab.drewN ?_ _ | refine Ab.alloc ?_ _))).fn,HO.o.t8 (by repeat (first | exact Ab.refl _ _ | refine Ab.drew ?_ | refine Ab.drewN ?_ _ | refine Ab.alloc ?_ _))⟩
theorem Es(s:ByteArray):∀(f i:Nat) (a l:List Tk),i≤s.size→AZ s f i a=.inr l→l.length+i≤a.length+s.size
 | 0,i,a,l,c,h=>by simp only [AZ,Sum.inr.injEq] at h;subst h;omega
 | f+1,i,a,l,c,h=>by
   simp only [AZ] at h;split at h
   ·rename_i d;split at h
    ·cases h
    ·rename_i t j e;have b:=DR d e;have:=Es s f j _ l b.2 h;have g:t.toList.length≤1:=by cases t<;>simp
     simp only [List.length_append] at this;omega
   ·simp only [Sum.inr.injEq] at h;subst h;omega
theorem Ci.M8{l B f g e i v n m w j}(h:Ci l B g w j)(u:w.ownsRow f e i v n m){c}(z:EB l c w){o}(t:Bt B w g o)(p:e≠46)(r:e≠56)(s:e≠9):j.ownsRow f e i v n m:=by
 refine Am u h ?_;rintro k D H (q | q | ⟨_,G,I,q⟩) b
 ·subst q;have d:w.heap[k]? =_:=z;rw [b] at d;simp only [Option.some.injEq,Obj.cells.injEq] at d;exact p d.2.1
 ·obtain ⟨E,x,_⟩:=t;rcases x.2 with ⟨A,_⟩ | ⟨J,C,F,y,_,a,_⟩
  ·rw [A] at q;simp [Value.ownBlock] at q
  ·rw [y] at q;simp [Value.ownBlock] at q;subst q;rw [b] at a;simp only [Option.some.injEq,Obj.cells.injEq] at a;exact r a.2.1
 ·rw [b] at q;simp only [Option.some.injEq,Obj.cells.injEq] at q;exact s q.2.1
structure FR(d:Nat)(fs:List FS)(i:Nat)(f:RF)(t:TF):Prop where
 name:f.name=Ak t.name
 p7:f.p7=t.l8.map Ak
 p8:BS (Cq i d fs) f.p8 t.t7
 r6:f.r6=[]
 Nc:f.p8.length≤4001
 M3:t.l8.length+(t.t7.map (Bl d)).sum≤4001
structure Mf(d:Nat)(fns:List RF)(fs:List FS)(tfs:List TF):Prop where
 len:fns.length=tfs.length
 Mz:fns.length≤4001
 Nd:fs.length≤4001
 Nf:∀u,u∈fs→u.args.length≤4001∧u.p8.length≤4001∧u.other.length≤4001
 fr:∀i (h:i<fns.length) (h':i<tfs.length),FR d fs i fns[i] tfs[i]
 dd:d≤8000
def CD(l:List PT)(x:List ByteArray×CS):List ByteArray×CS:=l.foldl (fun x t=>(x.1++[t.d9],Cm x.1 (Ak t) x.2)) x
def Gw(a:List RF)(i:Nat)(t:TF)(c:CS):CS:=
 if Ch (a.map fun f=>f.name.d9) t.name.d9 0=i then (if 12≤i then AU 4 t.name.f8 c else c) else AU 5 t.name.f8 (if 12≤i then AU 4 t.name.f8 c else c)
def Gv(a:List RF)(d i:Nat)(t:TF)(c:CS):List ByteArray×CS:=DM a d 1 t.t7 (CD t.l8 ([],Gw a i t c))
def DD(a:List RF)(d:Nat):List TF→Nat→List RF×CS→List RF×CS
 | [],_,x=>x
 | t::l,i,x=>DD a d l (i+1) (wv x.1 i (Gv a d i t x.2).1,(Gv a d i t x.2).2)
def Jf(a:List RF)(N:Nat)(c:CS):CS:=
 if 0≤Ch (a.map fun f=>f.name.d9) ⟨#[109,97,105,110]⟩ 0∧((a.map fun f=>f.p7.length)[(Ch (a.map fun f=>f.name.d9) ⟨#[109,97,105,110]⟩ 0).toNat]?).getD 0=0 then c else AU 6 N c
theorem Js(b:List RF)(d:Nat)(a:List TF)(i:Nat)(h:i<a.length)(x:List RF×CS):DD b d (a.drop i) i x=DD b d (a.drop (i+1)) (i+1) (wv x.1 i (Gv b d i a[i] x.2).1,(Gv b d i a[i] x.2).2):=by rw [List.drop_eq_getElem_cons h];rfl
theorem Gy:∀(l:List PT) (x:List ByteArray×CS),(CD l x).1.length=x.1.length+l.length
 | [],x=>rfl
 | t::l,x=>by have:=Gy l (x.1++[t.d9],Cm x.1 (Ak t) x.2);simp only [CD,List.foldl_cons,List.length_append,List.length_cons,List.length_nil] at this⊢;omega
theorem Ju(l:List PT)(k:Nat)(h:k<l.length)(x:List ByteArray×CS):CD (l.drop k) x=CD (l.drop (k+1)) (x.1++[l[k].d9],Cm x.1 (Ak l[k]) x.2):=by unfold CD;rw [List.drop_eq_getElem_cons h];rfl
structure DO(fns0 fns:List RF)(i:Nat):Prop where
 len:fns.length=fns0.length
 eq:∀j (h:j<fns.length) (h':j<fns0.length),fns[j].name=fns0[j].name∧fns[j].p7=fns0[j].p7∧fns[j].p8=fns0[j].p8∧fns[j].br=fns0[j].br∧(i≤j→fns[j].r6=fns0[j].r6)
theorem DO.z9{b a i}(h:DO b a i):a.map (fun f=>f.name.d9)=b.map (fun f=>f.name.d9):=by
 apply List.ext_getElem
 ·simp [h.len]
 ·intro j c d;simp only [List.getElem_map,(h.eq j (by simpa using c) (by simpa using d)).1]
theorem DO.p7{b a i}(h:DO b a i):a.map (fun f=>f.p7.length)=b.map (fun f=>f.p7.length):=by
 apply List.ext_getElem
 ·simp [h.len]
 ·intro j c d;simp only [List.getElem_map,(h.eq j (by simpa using c) (by simpa using d)).2.1]
theorem DO.fun{b a i}(h:DO b a i)(t m c):CO a t m c=CO b t m c:=by unfold CO;rw [h.z9,h.p7]
theorem DO.sec{b a i}(h:DO b a i)(d s c):GM a d s c=GM b d s c:=by unfold GM;simp only [h.fun]
theorem DO.MD{c b:List RF}{i:Nat}(h:DO c b i):∀(d a:Nat) (t:TS) (x:List ByteArray×CS),Ey b d a t x=Ey c d a t x
 | 0,_,_,x=>rfl
 | d+1,a,.mk s f,x=>by
   have e:(fun (x:List ByteArray×CS) (t:TS)=>Go.Proofs.YtmaankfbhhbeoaaGreatDoor.Ey b d (a+1) t x)=fun x t=>Go.Proofs.YtmaankfbhhbeoaaGreatDoor.Ey c d (a+1) t x:=by funext x t;exact h.MD d (a+1) t x
   simp only [Go.Proofs.YtmaankfbhhbeoaaGreatDoor.Ey,e,Cl,h.sec]
theorem DO.M7{c b i}(h:DO c b i)(d a f x):DM b d a f x=DM c d a f x:=by
 have e:(fun (x:List ByteArray×CS) (t:TS)=>Go.Proofs.YtmaankfbhhbeoaaGreatDoor.Ey b d a t x)=fun x t=>Go.Proofs.YtmaankfbhhbeoaaGreatDoor.Ey c d a t x:=by funext x t;exact h.MD d a t x
 simp only [Go.Proofs.YtmaankfbhhbeoaaGreatDoor.DM,e]
theorem DO.d8{b a i}(h:DO b a i)(g):DO b (wv a i g) (i+1):=by
 refine ⟨by rw [CX,h.len],fun j c f=>?_⟩;have d:j<a.length:=by rw [CX] at c;exact c
 have e:=h.eq j d f;simp only [wv,List.getElem_modify];split
 ·rename_i k;exact ⟨e.1,e.2.1,e.2.2.1,e.2.2.2.1,fun q=>by omega⟩
 ·exact ⟨e.1,e.2.1,e.2.2.1,e.2.2.2.1,fun q=>e.2.2.2.2 (by omega)⟩
theorem LQ{a i}(f:i<a.length){b}(h:a[i].r6=b):wv a i b=a:=by
 subst h;apply List.ext_getElem
 ·simp [wv]
 ·intro j d e;simp only [wv,List.getElem_modify];split
  ·rename_i c;subst c;rfl
  ·rfl
structure Lw(pb wb B pl ca g n cap:Nat)(U:Nat→Prop)(toks:List Tk)(fv sv:Value)(fns:List RF)(fs:List FS)(c:CS)(w w':World):Prop where
 k:RK pb wb B pl ca U fv sv fns fs c w'
 tk:AA g n cap toks w'
 d7:Ab (fun _=>False) w w'
theorem Lw.call{j b B l f g n r}{U:Nat→Prop}{u d m x s i c p w v o}(h:Lw j b B l f g n r U u d m x i c w v)(C:w.heap.size≤B)(D:w.heap.size≤b)(y:RK j b B l f U d m s i p o)(a:Ci b B d v o):Lw j b B l f g n r U u d m s i p w o:=by
 refine ⟨y,⟨a.M8 h.tk.1 h.k.wr h.k.fn (by decide) (by decide) (by decide),h.tk.2⟩,?_⟩;refine ⟨a.os.trans h.d7.os,a.tape.trans h.d7.tape,a.output.trans h.d7.output,Nat.le_trans h.d7.size a.size,fun k t A=>?_⟩;have e:=h.d7.block k t A;rw [a.block k (Nat.lt_of_lt_of_le t h.d7.size) ?_,e];rintro (q | q | ⟨q,_⟩)
 ·omega
 ·obtain ⟨_,z,_⟩:=h.k.fn;have:=(z.lt k q).1;omega
 ·omega
end Go.Proofs.YtmaankfbhhbeoaaGreatDoor

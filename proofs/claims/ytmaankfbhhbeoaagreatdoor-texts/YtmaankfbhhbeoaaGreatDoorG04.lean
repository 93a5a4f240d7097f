/- One of the texts of the proof of texts_card_holds: TrE TrF TrG PaD TrH TrI. -/
import Derived.Test.YtmaankfbhhbeoaaGreatDoorG03
set_option maxRecDepth 100000
set_option maxHeartbeats 2000000
namespace Go.Proofs.YtmaankfbhhbeoaaGreatDoor
open Go.RowKit
inductive TS where
 | mk (s:VS) (bl:List (Nat×List TS))
def Ec(k:Nat):VS:=⟨k,A7,A7,0,[]⟩
def BC(k:Nat):Prop:=k=4∨k=1∨k=17∨k=6∨k=7∨k=9
instance (k:Nat):Decidable (BC k):=by unfold BC;infer_instance
mutual
def AD(a:List PT)(n:Nat):Nat→PS→List TS→List TS×PS
 | 0,x,acc=>(acc,x)
 | f+1,x,acc=>if BC (Ah a x.d8).kind then AD a n f (A8 a n f x).2 (acc++[(A8 a n f x).1]) else (acc,x)
def A8(a:List PT)(n:Nat):Nat→PS→TS×PS
 | 0,x=>(.mk (Ec 0) [],x)
 | f+1,x=>
   if (Ah a x.d8).kind=7 then
    let x2:=Ae a n 20 (Ae a n 7 x)
    let r:=AD a n f (Ae a n 12 x2) []
    let x3:=Ae a n 13 r.2
    if (Ah a x3.d8).kind=8 then
     let x4:=Ae a n 8 x3
     let r2:=AD a n f (Ae a n 12 x4) []
     (.mk (Ec 11) [((Av a 12 x2).f8,r.1),((Av a 12 x4).f8,r2.1)],Ae a n 13 r2.2)
    else (.mk (Ec 11) [((Av a 12 x2).f8,r.1)],x3)
   else if (Ah a x.d8).kind=9 then
    let x2:=Ae a n 20 (Ae a n 9 x)
    let r:=AD a n f (Ae a n 12 x2) []
    (.mk (Ec 12) [((Av a 12 x2).f8,r.1)],Ae a n 13 r.2)
   else (.mk (AP a n x).1 [],Ae a n 14 (AP a n x).2)
end
section
variable {a : List PT} {n : Nat}
def EA(n:Nat)(x y:PS):Prop:=x.d8≤y.d8∧y.d8<n
theorem EA.trans{x y z:PS}(h:EA n x y)(k:EA n y z):EA n x z:=⟨Nat.le_trans h.1 k.1,k.2⟩
theorem Ag(c:(Ah a (n-1)).kind=0)(k:Nat){x:PS}(b:x.d8<n):EA n x (Ae a n k x):=by
 refine ⟨?_,AE c b⟩;unfold Ae;split
 ·split
  ·exact Nat.le_refl _
  ·exact Nat.le_succ _
 ·show x.d8≤n-1;omega
theorem Bd{k:Nat}{x:PS}(c:(Ah a x.d8).kind=k)(b:k≠0):(Ae a n k x).d8=x.d8+1:=by unfold Ae;rw [if_pos c,if_neg b]
theorem G6(c:(Ah a (n-1)).kind=0):∀(f:Nat) (x:PS) (b:List PT),x.d8<n→EA n x (Cj a f x b).2
 | 0,x,b,h=>⟨Nat.le_refl _,h⟩
 | f+1,x,b,h=>by
   simp only [Cj];split
   ·rename_i d;have g:x.d8≠n-1:=by intro e;rw [e,c] at d;omega
    have:=G6 c f ⟨x.d8+1,x.l7,x.r8⟩ (b++[Ah a x.d8]) (by show x.d8+1<n;omega);exact ⟨by have:=this.1;simp only at this;omega,this.2⟩
   ·exact ⟨Nat.le_refl _,h⟩
theorem CK(b:(Ah a (n-1)).kind=0){x:PS}(e:x.d8<n):EA n x (A0 a n x).2:=by have c:=Ag b 10 e;have d:=G6 b a.length _ [] c.2;exact (c.trans d).trans (Ag b 11 d.2)
theorem I4(b:(Ah a (n-1)).kind=0){x:PS}(g:x.d8<n):EA n x (EE a n x).2:=by have c:=Ag b 10 g;have d:=c.trans (Ag b 17 c.2);have e:=d.trans (Ag b 1 d.2);have f:=e.trans (Ag b 11 e.2);exact f.trans (CK b f.2)
theorem I2(b:(Ah a (n-1)).kind=0){x:PS}(f:x.d8<n):EA n x (Df a n x).2:=by
 have d:=Ag b 16 f;have c:=d.trans (Ag b 1 d.2);unfold Df;simp only;split
 ·have e:=c.trans (Ag b 19 c.2);exact e.trans (Ag b 2 e.2)
 ·exact c
theorem Hf(c:(Ah a (n-1)).kind=0){x:PS}(d:x.d8<n):EA n x (Bm a n x).2:=by
 unfold Bm;split
 ·exact Ag c 5 d
 ·split
  ·exact I2 c d
  ·split
   ·have b:=Ag c 17 d;exact b.trans (Ag c 1 b.2)
   ·split
    ·have b:=Ag c 18 d;exact b.trans (Ag c 1 b.2)
    ·split
     ·exact I4 c d
     ·have b:=Ag c 1 d;split
      ·exact b.trans (CK c b.2)
      ·exact b
theorem IF(c:(Ah a (n-1)).kind=0){x:PS}(g:x.d8<n)(j:(Ah a x.d8).kind=4∨(Ah a x.d8).kind=1∨(Ah a x.d8).kind=17∨(Ah a x.d8).kind=6):x.d8+1≤(AP a n x).2.d8∧(AP a n x).2.d8<n:=by
 unfold AP;split
 ·rename_i h;have d:=Ag c 4 g;have e:=Bd (n:=n) h (by omega);have b:=Ag c 1 d.2;exact ⟨by have:=b.1;simp only;omega,b.2⟩
 ·split
  ·rename_i h;have d:=Ag c 6 g;have e:=Bd (n:=n) h (by omega);have b:=Ag c 1 d.2;exact ⟨by have:=b.1;simp only;omega,b.2⟩
  ·split
   ·rename_i h;have d:=Ag c 17 g;have e:=Bd (n:=n) h (by omega);have b:=Ag c 1 d.2;have f:=b.trans (Ag c 15 b.2);have i:=f.trans (Ag c 1 f.2);exact ⟨by have:=i.1;simp only;omega,i.2⟩
   ·have h:(Ah a x.d8).kind=1:=by omega
    have d:=Ag c 1 g;have e:=Bd (n:=n) h (by omega);have b:=Ag c 15 d.2;have f:=b.trans (Hf c b.2);exact ⟨by have:=f.1;simp only;omega,f.2⟩
theorem Fl(c:(Ah a (n-1)).kind=0){x:PS}(e:x.d8<n):EA n x (AP a n x).2:=by
 unfold AP;split
 ·have b:=Ag c 4 e;exact b.trans (Ag c 1 b.2)
 ·split
  ·have b:=Ag c 6 e;exact b.trans (Ag c 1 b.2)
  ·split
   ·have b:=Ag c 17 e;have d:=b.trans (Ag c 1 b.2);have f:=d.trans (Ag c 15 d.2);exact f.trans (Ag c 1 f.2)
   ·have b:=Ag c 1 e;have d:=b.trans (Ag c 15 b.2);exact d.trans (Hf c d.2)
mutual
theorem A6(hz:(Ah a (n-1)).kind=0):∀(f:Nat) (x:PS) (acc:List TS),x.d8<n→EA n x (AD a n f x acc).2
 | 0,x,acc,h=>⟨Nat.le_refl _,h⟩
 | f+1,x,acc,h=>by
   unfold AD;split
   ·have h1:=DJ hz f x h;exact h1.trans (A6 hz f _ _ h1.2)
   ·exact ⟨Nat.le_refl _,h⟩
theorem DJ(hz:(Ah a (n-1)).kind=0):∀(f:Nat) (x:PS),x.d8<n→EA n x (A8 a n f x).2
 | 0,x,h=>⟨Nat.le_refl _,h⟩
 | f+1,x,h=>by
   unfold A8;split
   ·have h1:=Ag hz 7 h;have h2:=h1.trans (Ag hz 20 h1.2);have h3:=h2.trans (Ag hz 12 h2.2);have h4:=h3.trans (A6 hz f _ [] h3.2);have h5:=h4.trans (Ag hz 13 h4.2);simp only;split
    ·have h6:=h5.trans (Ag hz 8 h5.2);have h7:=h6.trans (Ag hz 12 h6.2);have h8:=h7.trans (A6 hz f _ [] h7.2);exact h8.trans (Ag hz 13 h8.2)
    ·exact h5
   ·split
    ·have h1:=Ag hz 9 h;have h2:=h1.trans (Ag hz 20 h1.2);have h3:=h2.trans (Ag hz 12 h2.2);have h4:=h3.trans (A6 hz f _ [] h3.2);exact h4.trans (Ag hz 13 h4.2)
    ·have h1:=Fl hz h;exact h1.trans (Ag hz 14 h1.2)
end
theorem Ev(b:(Ah a (n-1)).kind=0)(f:Nat){x:PS}(h:x.d8<n)(q:BC (Ah a x.d8).kind):x.d8+1≤(A8 a n (f+1) x).2.d8:=by
 unfold A8;split
 ·rename_i k;have d:=Ag b 7 h;have e:=Bd (n:=n) k (by omega);have c:=Ag b 20 d.2;have g:=c.trans (Ag b 12 c.2);have i:=g.trans (A6 b f _ [] g.2);have j:=i.trans (Ag b 13 i.2);simp only;split
  ·have l:=j.trans (Ag b 8 j.2);have m:=l.trans (Ag b 12 l.2);have o:=m.trans (A6 b f _ [] m.2);have p:=o.trans (Ag b 13 o.2);have:=p.1;simp only;omega
  ·have:=j.1;simp only;omega
 ·split
  ·rename_i k;have d:=Ag b 9 h;have e:=Bd (n:=n) k (by omega);have c:=Ag b 20 d.2;have g:=c.trans (Ag b 12 c.2);have i:=g.trans (A6 b f _ [] g.2);have j:=i.trans (Ag b 13 i.2);have:=j.1;simp only;omega
  ·have d:=IF b h (by unfold BC at q;omega);have c:=Ag b 14 d.2;have:=c.1;simp only;omega
end
def DX(s:VS)(a b:Value):Array Value:=#[.int .i64 s.kind,.string s.tg.d9,.int .i64 s.tg.f8,.string s.sr.d9,.int .i64 s.sr.f8,.int .i64 s.field,a,b]
def BB:Nat→(Nat→Prop)→World→TS→List Value→Prop
 | 0,_,_,_,_=>False
 | d+1,U,w,.mk s a,c=>∃(f l:Value) (b:List (List Value)),c=(DX s f l).toList∧w.ownsRow 0 120 2 f s.args.length (Ba s.args)∧(∀k,f.ownBlock=some k→U k)∧
    w.ownsRow 0 124 2 l a.length b.flatten∧b.length=a.length∧(∀k,l.ownBlock=some k→U k)∧
    ∀i (h:i<a.length) (o:i<b.length),∃(m:Value) (e:List (List Value)),b[i]=[.int .i64 (a[i].1:Nat),m]∧w.ownsRow 0 144 8 m a[i].2.length e.flatten∧e.length=a[i].2.length∧(∀k,m.ownBlock=some k→U k)∧
     ∀j (g:j<a[i].2.length) (n:j<e.length),BB d U w a[i].2[j] e[j]
def CI(d:Nat)(U:Nat→Prop)(w:World)(sv:Value)(sts:List TS):Prop:=∃a:List (List Value),w.ownsRow 0 144 8 sv sts.length a.flatten∧a.length=sts.length∧(∀k,sv.ownBlock=some k→U k)∧∀j (g:j<sts.length) (b:j<a.length),BB d U w sts[j] a[j]
theorem BB.d7:∀{d:Nat} {U:Nat→Prop} {w f:World} {t:TS} {c:List Value} {X:Nat→Prop},BB d U w t c→Ab X w f→(∀k,U k→¬X k)→BB d U f t c
 | 0,_,_,_,_,_,_,h,_,_=>h.elim
 | d+1,U,w,f,.mk s H,c,X,h,b,e=>by obtain ⟨n,p,o,A,B,l,C,D,m,E⟩:=h;refine ⟨n,p,o,A,Ac B b (fun k a=>e k (l k a)),l,Ac C b (fun k a=>e k (m k a)),D,m,fun i F G=>?_⟩;obtain ⟨sv,q,r,u,v,g,x⟩:=E i F G;exact ⟨sv,q,r,Ac u b (fun k a=>e k (g k a)),v,g,fun j y z=>(x j y z).d7 b e⟩
theorem BB.more:∀{d:Nat} {U U':Nat→Prop} {w:World} {t:TS} {c:List Value},BB d U w t c→(∀k,U k→U' k)→BB d U' w t c
 | 0,_,_,_,_,_,h,_=>h.elim
 | d+1,U,U',w,.mk s G,c,h,b=>by obtain ⟨e,g,f,v,x,y,z,A,B,C⟩:=h;refine ⟨e,g,f,v,x,fun k a=>b k (y k a),z,A,fun k a=>b k (B k a),fun i D E=>?_⟩;obtain ⟨F,l,m,n,o,p,q⟩:=C i D E;exact ⟨F,l,m,n,o,fun k a=>b k (p k a),fun j r u=>(q j r u).more b⟩
theorem BB.up:∀{d:Nat} {U:Nat→Prop} {w:World} {t:TS} {c:List Value},BB d U w t c→BB (d+1) U w t c
 | 0,_,_,_,_,h=>h.elim
 | d+1,U,w,.mk s D,c,h=>by obtain ⟨a,e,b,q,r,u,v,x,y,z⟩:=h;refine ⟨a,e,b,q,r,u,v,x,y,fun i A B=>?_⟩;obtain ⟨C,f,g,k,l,m,n⟩:=z i A B;exact ⟨C,f,g,k,l,m,fun j o p=>(n j o p).up⟩
theorem BB.u8{d e}{U:Nat→Prop}{w t c}(h:BB d U w t c)(a:d≤e):BB e U w t c:=by
 induction a with
 | refl=>exact h
 | step _ b=>exact b.up
theorem BB.length{d}{U:Nat→Prop}{w t c}(h:BB d U w t c):c.length=8:=by
 match d,t,h with
 | d+1,.mk s f,h=> obtain ⟨b,g,e,a,_⟩:=h;rw [a];rfl
theorem CI.d7{d}{U:Nat→Prop}{w e sv sts}{X:Nat→Prop}(h:CI d U w sv sts)(b:Ab X w e)(c:∀k,U k→¬X k):CI d U e sv sts:=by obtain ⟨f,l,m,a,n⟩:=h;exact ⟨f,Ac l b (fun k o=>c k (a k o)),m,a,fun j g i=>(n j g i).d7 b c⟩
theorem CI.more{d}{U U':Nat→Prop}{w c b}(h:CI d U w c b)(a:∀k,U k→U' k):CI d U' w c b:=by obtain ⟨e,i,l,m,n⟩:=h;exact ⟨e,i,l,fun k o=>a k (m k o),fun j g f=>(n j g f).more a⟩
theorem CI.u8{d e}{U:Nat→Prop}{w b a}(h:CI d U w b a)(n:d≤e):CI e U w b a:=by obtain ⟨c,i,k,l,m⟩:=h;exact ⟨c,i,k,l,fun j g f=>(m j g f).u8 n⟩
theorem BB.flat{U:Nat→Prop}{w s a}(h:w.ownsRow 0 120 2 a s.args.length (Ba s.args))(d:∀k,a.ownBlock=some k→U k):BB 1 U w (.mk s []) (DN s a).toList:=
 ⟨a,.slice none 0 0,[],rfl,h,d,World.ownsRow_nil _ _ _ _,rfl,fun k c=>by simp [Value.ownBlock] at c,fun i b=>by simp at b⟩
theorem BB.blocks{d}{U:Nat→Prop}{w k b a svs}(n:svs.length=a.length)(h:w.ownsRow 0 124 2 b a.length (((a.zip svs).map fun p=>[Value.int .i64 (p.1.1:Nat),p.2]).flatten))(q:∀k,b.ownBlock=some k→U k)
 (o:∀i (h:i<a.length) (r:i<svs.length),CI d U w svs[i] a[i].2):BB (d+1) U w (.mk (Ec k) a) (DX (Ec k) (.slice none 0 0) b).toList:=by
 refine ⟨.slice none 0 0,b,(a.zip svs).map fun p=>[Value.int .i64 (p.1.1:Nat),p.2],rfl,World.ownsRow_nil _ _ _ _,fun k m=>by simp [Value.ownBlock] at m,h,by simp [n],q,fun i l s=>?_⟩;obtain ⟨c,e,f,g,j⟩:=o i l (by omega);exact ⟨svs[i]'(by omega),c,by simp,e,f,g,j⟩
def La(b g n h:Nat)(w:World)(r:TS×PS)(e:Ending)(a:World):Prop:=
 ∃(d:Nat) (U:Nat→Prop) (s:VS) (c f:Value),e=.returned (.agg (DX s c f))∧BB d U a r.1 (DX s c f).toList∧(∀k,U k→w.heap.size≤k∧k<a.heap.size)∧AH b g n h r.2 a∧Ab (fun k=>k=b) w a
def Mi(b g n f:Nat)(w:World)(p:Nat)(r:List TS×PS)(e:Ending)(a:World):Prop:=
 ∃(d:Nat) (U:Nat→Prop) (c:Value),e=.returned (.agg #[.int .i64 p,c])∧CI d U a c r.1∧(∀k,U k→w.heap.size≤k∧k<a.heap.size)∧AH b g n f r.2 a∧Ab (fun k=>k=b) w a
def DY(c:Nat)(i:World)(f:Nat):Prop:=∀(b g n d:Nat) (x:PS) (a:List PT) (w:World),c≤b→Below c i w→c≤w.heap.size→AH b g n d x w→AI g n d a w→x.d8<n→(Ah a (n-1)).kind=0→BC (Ah a x.d8).kind→2*(n-x.d8)≤f→
 Calls Tryz.prog 73 #[.pointer (some ⟨b,0,none⟩)] w fun e h=>La b g n d w (A8 a n f x) e h
theorem BB.MB{d}{U:Nat→Prop}{w t s e f}(h:BB d U w t (DX s e f).toList):(∃a l c,e=.slice a l c)∧∃a l c,f=.slice a l c:=by
 match d,t,h with
 | d+1,.mk z x,h=> obtain ⟨u,y,v,b,o,_,p,_⟩:=h;simp only [DX,List.cons.injEq] at b;obtain ⟨g,q,j,m⟩:=Af o;obtain ⟨i,r,k,n⟩:=Af p;exact ⟨⟨g,q,j,by rw [←m];exact b.2.2.2.2.2.2.1⟩,⟨i,r,k,by rw [←n];exact b.2.2.2.2.2.2.2.1⟩⟩
structure BR(lb d:Nat)(U:Nat→Prop)(w:World)(sv:Value)(acc:List TS)(css:List (List Value)):Prop where
 row:w.ownsRow (lb+1) 144 8 sv acc.length css.flatten
 len:css.length=acc.length
 y6:∀j (g:j<acc.length) (g':j<css.length),BB d U w acc[j] css[j]
 u:∀k,U k→lb<k∧k<w.heap.size
 apart:∀k,sv.ownBlock=some k→¬U k
theorem BR.nil(a w):BR a 0 (fun _=>False) w (.slice none 0 0) [] []:=
 ⟨World.ownsRow_nil _ _ _ _,rfl,fun j g=>by simp at g,fun k h=>h.elim,fun k h=>by simp [Value.ownBlock] at h⟩
theorem BR.d7{c d}{U:Nat→Prop}{w l sv e f}{X:Nat→Prop}(h:BR c d U w sv e f)(b:Ab X w l)(i:∀k,c<k→k<w.heap.size→¬X k):BR c d U l sv e f:=
 ⟨Ac h.row b (fun k a=>i k (h.row.lt k a).1 (h.row.lt k a).2),h.len,fun j g m=>(h.y6 j g m).d7 b (fun k a=>i k (h.u k a).1 (h.u k a).2),fun k a=>⟨(h.u k a).1,Nat.lt_of_lt_of_le (h.u k a).2 b.size⟩,h.apart⟩
theorem BR.push{f d s}{U n:Nat→Prop}{w W l i r u g o t c}(h:BR f d U w i g o)(D:BB s n w t c)(b:∀k,n k→f<k∧k<w.heap.size∧¬i.ownBlock=some k)(A:Ab (fun _=>False) w W)
 (y:l.ownsRow (f+1) 144 8 r (g.length+1) (o.flatten++c))(B:W.grownBy l i.ownBlock)(C:∀k,r.ownBlock=some k→i.ownBlock=some k∨w.heap.size≤k):
 BR f (max d s) (fun k=>U k∨n k) (l.setCell ⟨f,1,none⟩ u) r (g++[t]) (o++[c]):=by
 have p:Ab (fun k=>i.ownBlock=some k) w l:=Ab.grown (A.mono (fun _ _ q=>q.elim)) B (fun k a=>.inl a);have m:=(Ab.refl (fun k=>k=f) l).i7 1 u;have x:=h.len;refine ⟨?_,by simp [x],?_,?_,?_⟩
 ·have:=Ac y m (fun k a=>by have:=(y.lt k a).1;omega);simpa using this
 ·intro j z E;by_cases v:j<g.length
  ·rw [List.getElem_append_left v,List.getElem_append_left (by omega)];exact ((((h.y6 j v (by omega)).d7 p (fun k a q=>h.apart k q a)).d7 m (fun k a=>by have:=(h.u k a).1;omega)).more (fun k a=>.inl a)).u8 (Nat.le_max_left _ _)
  ·have e:j=g.length:=by simp at z;omega
   subst e;rw [List.getElem_append_right (by omega),List.getElem_append_right (by omega)];simp only [Nat.sub_self,x,List.getElem_cons_zero];exact (((D.d7 p (fun k a=>(b k a).2.2)).d7 m (fun k a=>by have:=(b k a).1;omega)).more (fun k a=>.inr a)).u8 (Nat.le_max_right _ _)
 ·intro k a;have F:=p.size;have G:=m.size;rcases a with a | a
  ·exact ⟨(h.u k a).1,by have:=(h.u k a).2;omega⟩
  ·exact ⟨(b k a).1,by have:=(b k a).2.1;omega⟩
 ·intro k a q;rcases C k a with e | e
  ·rcases q with q | q
   ·exact h.apart k e q
   ·exact (b k q).2.2 e
  ·rcases q with q | q
   ·have:=(h.u k q).2;omega
   ·have:=(b k q).2.1;omega
theorem FJ(b g n c x a w)(m:AH b g n c x w)(o:AI g n c a w)(j:x.d8<n):
 Calls Tryz.prog 72 #[.pointer (some ⟨b,0,none⟩)] w fun e p=>e=.returned (.bool (decide (BC (Ah a x.d8).kind)))∧Ab (fun _=>False) w p:=by
 obtain ⟨k,d⟩:∃k,(Ah a x.d8).kind=k:=⟨_,rfl⟩;rw [d];obtain ⟨v,f⟩:∃v,decide (BC k)=v:=⟨_,rfl⟩;rw [f];have h:=Aa d;have i:=Aa f;clear d f;go_enter Tryz.func72,Tryz.ntmps72;go_wp2_with (go_at_call 55;refine (AJ b g n c x a _ m o j).mono ?_;rw [h.o];rintro e q ⟨rfl,l⟩);all_goals
  go_ret;refine ⟨CE ?_,l⟩;rw [←i.o];symm;simp only [beq_iff_eq,beq_eq_false_iff_ne,ne_eq] at*;first
   | (rw [decide_eq_true_iff];unfold BC;omega)
   | (rw [decide_eq_false_iff_not];unfold BC;omega)
theorem Tryz.placeOf(a s p w):(Instr.field 69 (.agg #[.int .i64 a,.string s,.int .i64 p]) 2).run Tryz.prog w=.ok (.int .i64 p) w:=by kernel_rfl
theorem Tryz.infoTS:(Tryz.prog.info? 144).map (fun i=>(i.zero,i.size,i.bytes))=some (some (.agg Ms),8,112):=by kernel_rfl
theorem LP(s a d l f c e):∀u∈(DX s (.slice a l c) (.slice d f e)).toList,u.oneCell'=true:=by intro u b;simp [DX] at b;rcases b with rfl | rfl | rfl | rfl | rfl | rfl | rfl | rfl<;>rfl
theorem Dw(B0 d6 f)(ih:∀k,k≤f→DY B0 d6 k)(b g n o s c w)(hb:B0≤b)(hG:Below B0 d6 w)(hB:B0≤w.heap.size)(hr:AH b g n o s w)(S:AI g n o c w)(c7:s.d8<n)(hz:(Ah c (n-1)).kind=0)(hf:2*(n-(Ae c n 12 s).d8)+1≤f):
 Calls Tryz.prog 66 #[.pointer (some ⟨b,0,none⟩)] w fun e w'=>Mi b g n o w (Av c 12 s).f8 ((AD c n f (Ae c n 12 s) []).1,Ae c n 13 (AD c n f (Ae c n 12 s) []).2) e w':=by
 obtain ⟨i0,hi,e8,e9,f0⟩:=info_parts Tryz.infoTS;have lr:=Ad hr;have lg:=S.lt;have hn:=S.2.2.1;have c9:=S.ne hr (by decide);have c8:=AE (k:=12) hz c7;obtain ⟨x1,M⟩:∃y,Ae c n 12 s=y:=⟨_,rfl⟩;rw [M] at hf c8⊢;obtain ⟨t,k1⟩:∃y,Av c 12 s=y:=⟨_,rfl⟩;rw [k1];obtain ⟨V,hV⟩:∃V,AD c n f x1 []=V:=⟨_,rfl⟩;rw [hV];have X1:=Aa M;have K1:=Aa k1;have HV:=Aa hV;have HZ:=Aa hz;have HG:=Aa hG;have IH:=Aa ih;clear M k1 hV hz hG ih;go_enter Tryz.func66,Tryz.ntmps66;go_wp2_with fail;refine (Au b g n o 12 s c _ (Aq.alloc hr _) (S.d7 ((Ab.refl (fun _=>False) _).alloc _) (fun q=>q)) c7).mono ?_;rw [X1.o,K1.o];rintro e l ⟨rfl,d3,a3⟩;have f1:=a3.size;simp at f1;have c0:=Aa ((S.d7 ((Ab.refl (fun _=>False) _).alloc (.cells #[.int .i64 0,.slice none 0 0] 124)) (fun q=>q)).d7 a3 c9);have b6:Nj (Aq w.heap.size #[.int .i64 0,.slice none 0 0] 124 l):=(Aq.new w _ _).d7 a3 (by omega);have b7:=Aa (((Ab.refl (fun k=>k=b) w).alloc _).trans a3);have b8:=Aa d3;have f7:w.heap.size+1≤l.heap.size:=by omega
 clear d3 a3 hr S;unfold K7;have e6:=Tryz.placeOf;go_wp2_with fail;clear e6;go_loopw [] (fun wr=>∃(x:PS) (z d:Nat) (U:Nat→Prop) (sv:Value) (L:List TS) (b2:List (List Value)),x.d8<n∧L.length≤x.d8∧z≤f∧2*(n-x.d8)+1≤z∧Nj (AH b g n o x wr)∧Nj (AI g n o c wr)∧Nj (Aq w.heap.size #[.int .i64 0,.slice none 0 0] 124 wr)∧Nj (Aq l.heap.size #[.int .i64 t.f8,sv] 124 wr)∧Nj (BR l.heap.size d U wr sv L b2)∧Nj (Ab (fun k=>k=b) w wr)∧Nj (AD c n z x L=V)) (fun wr=>n-Gj b wr)
 case atStart=> exact ⟨x1,f,0,fun _=>False,.slice none 0 0,[],[],c8,by simp,Nat.le_refl _,hf,Aq.alloc b8.o _,c0.o.d7 ((Ab.refl (fun _=>False) _).alloc _) (fun q=>q),Aq.alloc b6.o _,Aq.new _ _ _,BR.nil _ _,b7.o.alloc _,HV⟩
 case round=>
  clear b8 c0 b6 b7 HV;obtain ⟨x,z,d,U,sv,L,b2,T,f4,f5,f6,N,Q,a7,hC,a6,hO,HC⟩:=hrel;have d9:=Aa (CV N.o);by_cases A:BC (Ah c x.d8).kind
  ·obtain ⟨r,rfl⟩:∃r,z=r+1:=⟨z-1,by omega⟩;obtain ⟨t3,x3,h3⟩:∃t y,A8 c n r x=(t,y):=⟨_,_,rfl⟩;have c4:AD c n r x3 (L++[t3])=V:=by have:=HC.o;rw [AD,if_pos A,h3] at this;exact this
   have e7:x.d8+1≤x3.d8∧x3.d8<n:=by have g1:=DJ (n:=n) HZ.o r x T;rw [h3] at g1;obtain ⟨f3,rfl⟩:∃f3,r=f3+1:=⟨r-1,by omega⟩;have g2:=Ev HZ.o f3 T A;rw [h3] at g2;exact ⟨g2,g1.2⟩
   have X3:=Aa h3;have d8:=Aa c4;have d7:=Aa A;have a2:decide (BC (Ah c x.d8).kind)=true:=by simp [A]
   have a9:=Aa a2;clear HC h3 c4 A a2;go_wp2_with fail;refine (FJ b g n o x c _ N.o Q.o T).mono ?_;rw [a9.o];rintro e wk ⟨rfl,m⟩;have Y:=Aa (Aq.d7 N.o m (fun q=>q));have Z:=Aa (Q.o.d7 m (fun q=>q));have A1:=Aa (a7.o.d7 m (fun q=>q));have K:=Aa (hC.o.d7 m (fun q=>q));have J:=Aa (a6.o.d7 m (fun _ _ _ q=>q));have P:=Aa (hO.o.t8 m);clear N Q a7 hC a6 hO m;obtain ⟨C,G,E,rfl⟩:=Af J.o.row;have c1:=K.o.cell 1;have cf:=K.o.frozen 1;have lc:=Ad K.o;have g0:=Ad Y.o;have f9:=P.o.size;simp only [Ni,Ng,Nh] at c1;have W:=Aa (fun k (i:Value.ownBlock (.slice C G E)=some k)=>(J.o.row.lt k i).1);go_wp2_with fail;go_region_law (first
    | (refine AV rfl _ _ 122 rfl (l.heap.size+1) 144 i0 (.agg Ms) 8 112 Tryz.underlying122 hi e8 e9 f0 rfl (by decide) _ _ _ rfl (O.o.row.alloc _) ⟨w4.heap.size,0,none⟩ 1 1 (DX s4 (.slice aa al ac) (.slice ba bl bc)).toList rfl rfl (Bn rfl _ _) (LP _ _ _ _ _ _ _) (by decide) (by unfold maxLen;omega) (by omega) (by simp;omega) ?_;intro v' I b4 R d2;have q1:I.cell? ⟨l.heap.size,1,none⟩=some (.slice C G E):=(World.cell?_of_block (R.block l.heap.size (by simp;omega) (fun h=>by have:=W.o _ h.symm;omega))).trans (by rw [←c3];exact World.cell?_of_block (Below.heap_alloc _ _ _ d5));have q2:I.frozen? ⟨l.heap.size,1,none⟩=false:=(World.frozen?_of_block (R.block l.heap.size (by simp;omega) (fun h=>by have:=W.o _ h.symm;omega))).trans (by rw [←e0];exact World.frozen?_of_block (Below.heap_alloc _ _ _ d5));obtain ⟨D,H,F,rfl⟩:=Af b4)
    | (go_simp;go_at_call 73;refine (IH.o r (by omega) b g n o x c _ hb (Ab.keeps HG.o (P.o.t8 (by repeat (first | exact Ab.refl _ _ | refine Ab.drew ?_ | refine Ab.drewN ?_ _ | refine Ab.alloc ?_ _))) hB hb) (by simp;omega) (Aq.d7 (X:=fun _=>False) Y.o (by repeat (first | exact Ab.refl _ _ | refine Ab.drew ?_ | refine Ab.drewN ?_ _ | refine Ab.alloc ?_ _)) (fun q=>q)) (Z.o.d7 (X:=fun _=>False) (by repeat (first | exact Ab.refl _ _ | refine Ab.drew ?_ | refine Ab.drewN ?_ _ | refine Ab.alloc ?_ _)) (fun q=>q)) T HZ.o d7.o (by omega)).mono ?_;rw [X3.o];rintro e w4 ⟨d4,U4,s4,av,bv,rfl,b5,c6,a5,B⟩;obtain ⟨⟨aa,al,ac,rfl⟩,⟨ba,bl,bc,rfl⟩⟩:=b5.MB;have a4:=Ab.trans (X:=fun k=>k=b) (a:=wk) (by repeat (first | exact Ab.refl _ _ | refine Ab.drew ?_ | refine Ab.drewN ?_ _ | refine Ab.alloc ?_ _)) B;have O:=Aa (J.o.d7 a4 (fun k h _=>by omega));have p:=Aa (K.o.d7 a4 (by omega));have c3:=p.o.cell 1;have e0:=p.o.frozen 1;have d5:=Ad p.o;simp only [Ni,Ng,Nh] at c3;have f8:=a4.size;have b9:=Aa b5;have c2:=Aa c6;have R4:=Aa a5;have O5:=Aa a4;clear b5 c6 a5 B a4;unfold DX;dsimp only))
   all_goals
    have a0:Ab (fun k=>Value.ownBlock (.slice C G E)=some k) w4 I:=Ab.grown ((Ab.refl _ _).alloc _) R (fun k i=>.inl i);have a8:=(Ab.refl (fun k=>k=l.heap.size) I).i7 1 (.slice D H F);have b3:∀j,j<l.heap.size→¬Value.ownBlock (.slice C G E)=some j:=fun j hj q=>by have:=W.o j q;omega
    have hP:=BR.push (u:=.slice D H F) O.o b9.o (fun k i=>by have M:=c2.o k i;simp only [World.size_drew] at M;exact ⟨by omega,M.2,fun q=>by have:=(J.o.row.lt k q).2;omega⟩) ((Ab.refl _ _).alloc _) b4 R (fun k i=>(d2 k i).imp id (fun q=>by simp at q;omega));have c5:AH b g n o x3 (I.setCell ⟨l.heap.size,1,none⟩ (.slice D H F)):=(R4.o.d7 a0 (b3 b (by omega))).d7 a8 (by omega);have e5:AI g n o c (I.setCell ⟨l.heap.size,1,none⟩ (.slice D H F)):=((Z.o.d7 O5.o c9).d7 a0 (b3 g (by omega))).d7 a8 (by omega);have e1:=((A1.o.d7 O5.o (by omega)).d7 a0 (b3 w.heap.size (by omega))).d7 a8 (by omega);have e2:Aq l.heap.size #[.int .i64 t.f8,.slice D H F] 124 (I.setCell ⟨l.heap.size,1,none⟩ (.slice D H F)):=by have:=(p.o.d7 a0 (fun q=>by have:=W.o _ q;omega)).set 1 (.slice D H F);simpa using this
    have e4:Ab (fun k=>k=b) w (I.setCell ⟨l.heap.size,1,none⟩ (.slice D H F)):=(Ab.grown ((P.o.trans O5.o).alloc _) R (fun k i=>.inr (by have:=W.o k i;omega))).l9 1 _ (by omega);have e3:=CV c5;clear b4 R d2 q1 q2 b9 c2 O p R4 a0 a8;go_wp2_with fail;go_roundw
    case rel=>exact ⟨x3,r,_,_,_,L++[t3],_,e7.2,by simp;omega,by omega,by omega,c5,e5,e1,e2,hP,e4,d8⟩
    case measure=>rw [e3,d9.o];omega
  ·have hv:V=(L,x):=by
    rw [←HC.o];cases z with
    | zero=>rfl
    | succ z=>rw [AD,if_neg A]
   subst hv
   have a2:decide (BC (Ah c x.d8).kind)=false:=by simp [A]
   have a9:=Aa a2
   clear HC A a2
   go_wp2_with fail
   refine (FJ b g n o x c _ N.o Q.o T).mono ?_
   rw [a9.o]
   rintro e wk ⟨rfl,m⟩
   have Y:=Aa (Aq.d7 N.o m (fun q=>q))
   have Z:=Aa (Q.o.d7 m (fun q=>q))
   have A1:=Aa (a7.o.d7 m (fun q=>q))
   have K:=Aa (hC.o.d7 m (fun q=>q))
   have J:=Aa (a6.o.d7 m (fun _ _ _ q=>q))
   have P:=Aa (hO.o.t8 m)
   clear N Q a7 hC a6 hO m
   go_wp2_with fail
   refine (Au b g n o 13 x c _ Y.o Z.o T).mono ?_
   rintro e w4 ⟨rfl,a5,B⟩
   have A4:=Aa (A1.o.d7 B (by omega))
   have p:=Aa (K.o.d7 B (by omega))
   have O:=Aa (J.o.d7 B (fun k h _=>by omega))
   have O4:=Aa (P.o.trans B)
   have R4:=Aa a5
   clear Y Z A1 K J P a5 B
   obtain ⟨C,G,E,rfl⟩:=Af O.o.row
   have b0:=A4.o.cell 0
   have b1:=A4.o.cell 1
   have bf:=A4.o.frozen
   have d0:=p.o.cell 0
   have d1:=p.o.cell 1
   have lB:=Ad A4.o
   have lC:=Ad p.o
   simp only [Ni,Ng,Nh] at b0 b1 d0 d1
   go_wp2
   refine bodyPost_ret (v:=.agg #[.int .i64 t.f8,.slice C G E]) (by simp [results,Tryz.results66,go_sem,b0,b1]) rfl ?_
   have hs:=((Ab.refl (fun k=>k=w.heap.size) w4).i7 0 (.int .i64 t.f8)).i7 1 (.slice C G E)
   have a1:=O.o.d7 hs (fun k M _=>by omega)
   refine ⟨d,fun k=>U k∨Value.ownBlock (.slice C G E)=some k,_,rfl,⟨b2,Ar a1.row (Nat.zero_le _),a1.len,fun k i=>.inr i,fun j g1 g2=>(a1.y6 j g1 g2).more (fun k i=>.inl i)⟩,?_,R4.o.d7 hs (by omega),(O4.o.l9 0 _ (Nat.le_refl _)).l9 1 _ (Nat.le_refl _)⟩
   intro k i
   rcases i with i | i
   ·have:=a1.u k i;exact ⟨by omega,this.2⟩
   ·have:=a1.row.lt k i;exact ⟨by omega,this.2⟩
theorem KZ{w:World}{j:Nat}(b:j=w.heap.size)(a c:Value):(w.alloc (.cells #[a,c] 124)).ownsRow 0 124 2 (.slice (some ⟨j,0,none⟩) 1 1) 1 [a,c]:=by subst b;exact ⟨rfl,.inr ⟨w.heap.size,1,#[a,c],rfl,Nat.zero_le _,heap_alloc_new w _,Nat.le_refl _,by unfold maxLen;omega,rfl,rfl⟩⟩
theorem Jt(s J f)(ih:∀k,k≤f→DY s J k)(b g n r o a w)(Q:s≤b)(O:Below s J w)(hB:s≤w.heap.size)(m:AH b g n r o w)(Y:AI g n r a w)(R:o.d8<n)(x:(Ah a (n-1)).kind=0)(c:(Ah a o.d8).kind=9)(hf:2*(n-o.d8)≤f+1):
 Calls Tryz.prog 79 #[.pointer (some ⟨b,0,none⟩)] w fun e w'=>La b g n r w (A8 a n (f+1) o) e w':=by
 obtain ⟨K,t⟩:∃y,Ae a n 9 o=y:=⟨_,rfl⟩;obtain ⟨D,C⟩:∃y,Ae a n 20 K=y:=⟨_,rfl⟩;obtain ⟨p,I⟩:∃y,(Av a 12 D).f8=y:=⟨_,rfl⟩;obtain ⟨l3,y3,E⟩:∃l y,AD a n f (Ae a n 12 D) []=(l,y):=⟨_,_,rfl⟩;obtain ⟨x3,F⟩:∃y,Ae a n 13 y3=y:=⟨_,rfl⟩;have Z:A8 a n (f+1) o=(.mk (Ec 12) [(p,l3)],x3):=by rw [A8,if_neg (by omega),if_pos c];simp only [t,C,I,E,F]
 rw [Z];have M:=Bd (n:=n) c (by omega);rw [t] at M;have S:K.d8<n:=by rw [←t];exact AE x R
 have B:=Ag x 20 S;rw [C] at B;have T:=B.2;have N:=Ag x 12 T;have a1:2*(n-(Ae a n 12 D).d8)+1≤f:=by have:=B.1;have:=N.1;omega
 have z:=Aa (Fw.start m Y);have HG:=Aa O;have IH:=Aa ih;have HZ:=Aa x;have X1:=Aa t;have X2:=Aa C;have XP:=Aa I;have X3:=Aa E;have X4:=Aa F;clear t C I E F Z m Y x c O ih B N M;go_enter Tryz.func79,Tryz.ntmps79;go_wp2_with fail;refine (Au b g n r 9 o a _ z.o.pa z.o.pt R).mono ?_;rw [X1.o];rintro e w1 ⟨rfl,m,u⟩;have A:=Aa (z.o.call m u);clear m u z;go_wp2_with fail;refine (Au b g n r 20 K a _ A.o.pa A.o.pt S).mono ?_;rw [X2.o];rintro e w2 ⟨rfl,m,u⟩;have q:=Aa (A.o.call m u);clear m u A;have a6:=q.o.d7.size;have a2:=Aa (Ad q.o.i8);go_wp2_with fail;refine (Dw s J f IH.o b g n r D a _ Q (Ab.keeps HG.o q.o.d7 hB Q) (by omega) q.o.pa q.o.pt T HZ.o a1).mono ?_;rw [XP.o,X3.o];simp only;rw [X4.o];rintro e w3 ⟨d,U,sv,rfl,G,P,V,H⟩;have a0:=G;obtain ⟨a4,W,_⟩:=a0;obtain ⟨va,vl,vc,rfl⟩:=Af W;have j:=Aa (q.o.call V H);have HT:=Aa G;have L:=Aa P;have a7:=H.size;clear G P V H W q;have q0:=j.o.i8.cell 0;have q1:=j.o.i8.cell 1;have q2:=j.o.i8.cell 2;have q3:=j.o.i8.cell 3;have q4:=j.o.i8.cell 4;have q5:=j.o.i8.cell 5;have q6:=j.o.i8.cell 6;have q7:=j.o.i8.cell 7;have qf:=j.o.i8.frozen;have ql:=Ad j.o.i8;simp only [Ni,Ng,Nh] at q0 q1 q2 q3 q4 q5 q6 q7;go_wp2;refine bodyPost_ret (v:=.agg (DX (Ec 12) (.slice none 0 0) (.slice (some ⟨w3.heap.size,0,none⟩) 1 1))) (by simp [results,Tryz.results79,go_sem,DX,Ec,A7,q0,q1,q2,q3,q4,q5,q6,q7,ql];try rfl) rfl ?_;have a3:b≠w.heap.size:=by have:=j.o.bl;omega
 have a5:w.heap.size<w2.heap.size:=by have:=a2.o;omega
 refine ⟨d+1,fun k=>U k∨k=w3.heap.size,Ec 12,_,_,rfl,?_,?_,?_,?_⟩
 ·refine BB.blocks (svs:=[.slice va vl vc]) rfl (KZ (by simp) _ _) (fun k c=>.inr (by simp [Value.ownBlock] at c;omega)) ?_;intro i h h';have e:i=0:=by simp at h;omega
  subst e;refine CI.more ?_ (fun k c=>.inl c);refine HT.o.d7 (X:=fun k=>k=w.heap.size) ?_ (fun k c=>by have:=(L.o k c).1;omega);refine Ab.alloc ?_ _;iterate 8 refine Ab.i7 ?_ _ _
  exact Ab.refl _ _
 ·intro k c;simp only [World.size_alloc,World.size_setCell];rcases c with c | c
  ·have:=L.o k c;omega
  ·omega
 ·refine Aq.d7 (X:=fun k=>k=w.heap.size) j.o.pa ?_ a3;refine Ab.alloc ?_ _;iterate 8 refine Ab.i7 ?_ _ _
  exact Ab.refl _ _
 ·refine Ab.alloc ?_ _;iterate 8 refine Ab.l9 ?_ _ _ (Nat.le_refl _)
  exact j.o.d7
end Go.Proofs.YtmaankfbhhbeoaaGreatDoor

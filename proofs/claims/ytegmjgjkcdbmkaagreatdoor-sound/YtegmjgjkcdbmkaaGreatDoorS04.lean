/- One of the texts of the proof: PaD TrE TrF TrG TrH TrI TrJ TrK TrL. -/
import Derived.Test.YtegmjgjkcdbmkaaGreatDoorS03
set_option maxRecDepth 100000
set_option maxHeartbeats 2000000
namespace Go.Proofs.YtegmjgjkcdbmkaaGreatDoor
open Go.RowKit
inductive TS where
 | mk (s:VS) (bl:List (Nat×List TS))
def Dh(k:Nat):VS:=⟨k,Bj,Bj,0,[]⟩
def Bb(k:Nat):Prop:=k=4∨k=1∨k=17∨k=6∨k=7∨k=9
instance (k:Nat):Decidable (Bb k):=by unfold Bb;infer_instance
mutual
def AB(a:List PT)(n:Nat):Nat→PS→List TS→List TS×PS
 | 0,x,acc=>(acc,x)
 | f+1,x,acc=>if Bb (Ag a x.next).kind then AB a n f (AV a n f x).2 (acc++[(AV a n f x).1]) else (acc,x)
def AV(a:List PT)(n:Nat):Nat→PS→TS×PS
 | 0,x=>(.mk (Dh 0) [],x)
 | f+1,x=>
   if (Ag a x.next).kind=7 then
    let x2:=Af a n 20 (Af a n 7 x)
    let r:=AB a n f (Af a n 12 x2) []
    let x3:=Af a n 13 r.2
    if (Ag a x3.next).kind=8 then
     let x4:=Af a n 8 x3
     let r2:=AB a n f (Af a n 12 x4) []
     (.mk (Dh 11) [((Ax a 12 x2).c9,r.1),((Ax a 12 x4).c9,r2.1)],Af a n 13 r2.2)
    else (.mk (Dh 11) [((Ax a 12 x2).c9,r.1)],x3)
   else if (Ag a x.next).kind=9 then
    let x2:=Af a n 20 (Af a n 9 x)
    let r:=AB a n f (Af a n 12 x2) []
    (.mk (Dh 12) [((Ax a 12 x2).c9,r.1)],Af a n 13 r.2)
   else (.mk (AF a n x).1 [],Af a n 14 (AF a n x).2)
end
section
variable {a : List PT} {n : Nat}
def Hl(n:Nat)(x y:PS):Prop:=x.next≤y.next∧y.next<n
theorem Hl.trans{x y z:PS}(h:Hl n x y)(k:Hl n y z):Hl n x z:=⟨rO h.1 k.1,k.2⟩
theorem Ah(c:(Ag a (n-1)).kind=0)(k:Nat){x:PS}(b:x.next<n):Hl n x (Af a n k x):=by
 refine ⟨?_,AO c b⟩;unfold Af;split
 ·split
  ·exact rN _
  ·exact Nat.le_succ _
 ·show x.next≤n-1;omega
theorem BE{k:Nat}{x:PS}(c:(Ag a x.next).kind=k)(b:k≠0):(Af a n k x).next=x.next+1:=by unfold Af;rw [if_pos c,if_neg b]
theorem L4(c:(Ag a (n-1)).kind=0):∀(f:Nat) (x:PS) (b:List PT),x.next<n→Hl n x (CJ a f x b).2
 | 0,x,b,h=>⟨rN _,h⟩
 | f+1,x,b,h=>by
   simp only [CJ];split
   ·rename_i d;have g:x.next≠n-1:=by intro e;rw [e,c] at d;omega
    have:=L4 c f ⟨x.next+1,x.m8,x.aS⟩ (b++[Ag a x.next]) (by show x.next+1<n;omega);exact ⟨by have:=this.1;simp only at this;omega,this.2⟩
   ·exact ⟨rN _,h⟩
theorem DP(b:(Ag a (n-1)).kind=0){x:PS}(e:x.next<n):Hl n x (A6 a n x).2:=by have c:=Ah b 10 e;have d:=L4 b a.length _ [] c.2;exact (c.trans d).trans (Ah b 11 d.2)
theorem Pt(b:(Ag a (n-1)).kind=0){x:PS}(g:x.next<n):Hl n x (GI a n x).2:=by have c:=Ah b 10 g;have d:=c.trans (Ah b 17 c.2);have e:=d.trans (Ah b 1 d.2);have f:=e.trans (Ah b 11 e.2);exact f.trans (DP b f.2)
theorem Pn(b:(Ag a (n-1)).kind=0){x:PS}(f:x.next<n):Hl n x (DM a n x).2:=by
 have d:=Ah b 16 f;have c:=d.trans (Ah b 1 d.2);unfold DM;simp only;split
 ·have e:=c.trans (Ah b 19 c.2);exact e.trans (Ah b 2 e.2)
 ·exact c
theorem Mm(c:(Ag a (n-1)).kind=0){x:PS}(d:x.next<n):Hl n x (Bw a n x).2:=by
 unfold Bw;split
 ·exact Ah c 5 d
 ·split
  ·exact Pn c d
  ·split
   ·have b:=Ah c 17 d;exact b.trans (Ah c 1 b.2)
   ·split
    ·have b:=Ah c 18 d;exact b.trans (Ah c 1 b.2)
    ·split
     ·exact Pt c d
     ·have b:=Ah c 1 d;split
      ·exact b.trans (DP c b.2)
      ·exact b
theorem Og(c:(Ag a (n-1)).kind=0){x:PS}(g:x.next<n)(j:(Ag a x.next).kind=4∨(Ag a x.next).kind=1∨(Ag a x.next).kind=17∨(Ag a x.next).kind=6):x.next+1≤(AF a n x).2.next∧(AF a n x).2.next<n:=by
 unfold AF;split
 ·rename_i h;have d:=Ah c 4 g;have e:=BE (n:=n) h (by omega);have b:=Ah c 1 d.2;exact ⟨by have:=b.1;simp only;omega,b.2⟩
 ·split
  ·rename_i h;have d:=Ah c 6 g;have e:=BE (n:=n) h (by omega);have b:=Ah c 1 d.2;exact ⟨by have:=b.1;simp only;omega,b.2⟩
  ·split
   ·rename_i h;have d:=Ah c 17 g;have e:=BE (n:=n) h (by omega);have b:=Ah c 1 d.2;have f:=b.trans (Ah c 15 b.2);have i:=f.trans (Ah c 1 f.2);exact ⟨by have:=i.1;simp only;omega,i.2⟩
   ·have h:(Ag a x.next).kind=1:=by omega
    have d:=Ah c 1 g;have e:=BE (n:=n) h (by omega);have b:=Ah c 15 d.2;have f:=b.trans (Mm c b.2);exact ⟨by have:=f.1;simp only;omega,f.2⟩
theorem JD(c:(Ag a (n-1)).kind=0){x:PS}(e:x.next<n):Hl n x (AF a n x).2:=by
 unfold AF;split
 ·have b:=Ah c 4 e;exact b.trans (Ah c 1 b.2)
 ·split
  ·have b:=Ah c 6 e;exact b.trans (Ah c 1 b.2)
  ·split
   ·have b:=Ah c 17 e;have d:=b.trans (Ah c 1 b.2);have f:=d.trans (Ah c 15 d.2);exact f.trans (Ah c 1 f.2)
   ·have b:=Ah c 1 e;have d:=b.trans (Ah c 15 b.2);exact d.trans (Mm c d.2)
mutual
theorem Bo(hz:(Ag a (n-1)).kind=0):∀(f:Nat) (x:PS) (acc:List TS),x.next<n→Hl n x (AB a n f x acc).2
 | 0,x,acc,h=>⟨rN _,h⟩
 | f+1,x,acc,h=>by
   unfold AB;split
   ·have h1:=Fx hz f x h;exact h1.trans (Bo hz f _ _ h1.2)
   ·exact ⟨rN _,h⟩
theorem Fx(hz:(Ag a (n-1)).kind=0):∀(f:Nat) (x:PS),x.next<n→Hl n x (AV a n f x).2
 | 0,x,h=>⟨rN _,h⟩
 | f+1,x,h=>by
   unfold AV;split
   ·have h1:=Ah hz 7 h;have h2:=h1.trans (Ah hz 20 h1.2);have h3:=h2.trans (Ah hz 12 h2.2);have h4:=h3.trans (Bo hz f _ [] h3.2);have h5:=h4.trans (Ah hz 13 h4.2);simp only;split
    ·have h6:=h5.trans (Ah hz 8 h5.2);have h7:=h6.trans (Ah hz 12 h6.2);have h8:=h7.trans (Bo hz f _ [] h7.2);exact h8.trans (Ah hz 13 h8.2)
    ·exact h5
   ·split
    ·have h1:=Ah hz 9 h;have h2:=h1.trans (Ah hz 20 h1.2);have h3:=h2.trans (Ah hz 12 h2.2);have h4:=h3.trans (Bo hz f _ [] h3.2);exact h4.trans (Ah hz 13 h4.2)
    ·have h1:=JD hz h;exact h1.trans (Ah hz 14 h1.2)
end
theorem He(b:(Ag a (n-1)).kind=0)(f:Nat){x:PS}(h:x.next<n)(q:Bb (Ag a x.next).kind):x.next+1≤(AV a n (f+1) x).2.next:=by
 unfold AV;split
 ·rename_i k;have d:=Ah b 7 h;have e:=BE (n:=n) k (by omega);have c:=Ah b 20 d.2;have g:=c.trans (Ah b 12 c.2);have i:=g.trans (Bo b f _ [] g.2);have j:=i.trans (Ah b 13 i.2);simp only;split
  ·have l:=j.trans (Ah b 8 j.2);have m:=l.trans (Ah b 12 l.2);have o:=m.trans (Bo b f _ [] m.2);have p:=o.trans (Ah b 13 o.2);have:=p.1;simp only;omega
  ·have:=j.1;simp only;omega
 ·split
  ·rename_i k;have d:=Ah b 9 h;have e:=BE (n:=n) k (by omega);have c:=Ah b 20 d.2;have g:=c.trans (Ah b 12 c.2);have i:=g.trans (Bo b f _ [] g.2);have j:=i.trans (Ah b 13 i.2);have:=j.1;simp only;omega
  ·have d:=Og b h (by unfold Bb at q;omega);have c:=Ah b 14 d.2;have:=c.1;simp only;omega
end
def Ej(s:VS)(a b:Value):Array Value:=#[.int .i64 s.kind,.string s.tg.a9,.int .i64 s.tg.c9,.string s.sr.a9,.int .i64 s.sr.c9,.int .i64 s.field,a,b]
def BD:Nat→(Nat→Prop)→World→TS→List Value→Prop
 | 0,_,_,_,_=>False
 | d+1,U,w,.mk s a,c=>∃(f l:Value) (b:List (List Value)),c=(Ej s f l).toList∧w.ownsRow 0 128 2 f s.args.length (Bt s.args)∧(∀k,f.ownBlock=some k→U k)∧
    w.ownsRow 0 132 2 l a.length b.flatten∧b.length=a.length∧(∀k,l.ownBlock=some k→U k)∧
    ∀i (h:i<a.length) (o:i<b.length),∃(m:Value) (e:List (List Value)),b[i]=[.int .i64 (a[i].1:Nat),m]∧w.ownsRow 0 237 8 m a[i].2.length e.flatten∧e.length=a[i].2.length∧(∀k,m.ownBlock=some k→U k)∧
     ∀j (g:j<a[i].2.length) (n:j<e.length),BD d U w a[i].2[j] e[j]
def Cn(d:Nat)(U:Nat→Prop)(w:World)(sv:Value)(sts:List TS):Prop:=∃a:List (List Value),w.ownsRow 0 237 8 sv sts.length a.flatten∧a.length=sts.length∧(∀k,sv.ownBlock=some k→U k)∧∀j (g:j<sts.length) (b:j<a.length),BD d U w sts[j] a[j]
theorem BD.O:∀{d:Nat} {U:Nat→Prop} {w w':World} {t:TS} {c:List Value} {X:Nat→Prop},BD d U w t c→Ab X w w'→(∀k,U k→¬X k)→BD d U w' t c
 | 0,_,_,_,_,_,_,h,_,_=>h.elim
 | d+1,U,w,w',.mk s G,c,X,h,b,e=>by obtain ⟨m,o,n,z,A,g,B,C,l,D⟩:=h;refine ⟨m,o,n,z,Ac A b (fun k a=>e k (g k a)),g,Ac B b (fun k a=>e k (l k a)),C,l,fun i E F=>?_⟩;obtain ⟨sv,p,q,r,u,f,v⟩:=D i E F;exact ⟨sv,p,q,Ac r b (fun k a=>e k (f k a)),u,f,fun j x y=>(v j x y).O b e⟩
theorem BD.more:∀{d:Nat} {U e:Nat→Prop} {w:World} {t:TS} {c:List Value},BD d U w t c→(∀k,U k→e k)→BD d e w t c
 | 0,_,_,_,_,_,h,_=>h.elim
 | d+1,U,e,w,.mk s H,c,h,b=>by obtain ⟨f,l,g,x,y,z,A,B,C,D⟩:=h;refine ⟨f,l,g,x,y,fun k a=>b k (z k a),A,B,fun k a=>b k (C k a),fun i E F=>?_⟩;obtain ⟨G,m,n,o,p,q,r⟩:=D i E F;exact ⟨G,m,n,o,p,fun k a=>b k (q k a),fun j u v=>(r j u v).more b⟩
theorem BD.up:∀{d:Nat} {U:Nat→Prop} {w:World} {t:TS} {c:List Value},BD d U w t c→BD (d+1) U w t c
 | 0,_,_,_,_,h=>h.elim
 | d+1,U,w,.mk s D,c,h=>by obtain ⟨a,e,b,q,r,u,v,x,y,z⟩:=h;refine ⟨a,e,b,q,r,u,v,x,y,fun i A B=>?_⟩;obtain ⟨C,f,g,k,l,m,n⟩:=z i A B;exact ⟨C,f,g,k,l,m,fun j o p=>(n j o p).up⟩
theorem BD.bQ{d e}{U:Nat→Prop}{w t c}(h:BD d U w t c)(a:d≤e):BD e U w t c:=by
 induction a with
 | refl=>exact h
 | step _ b=>exact b.up
theorem BD.length{d}{U:Nat→Prop}{w t c}(h:BD d U w t c):c.length=8:=by
 match d,t,h with
 | d+1,.mk s f,h=> obtain ⟨b,g,e,a,_⟩:=h;rw [a];rfl
theorem Cn.O{d}{U:Nat→Prop}{w w' sv sts}{X:Nat→Prop}(h:Cn d U w sv sts)(b:Ab X w w')(c:∀k,U k→¬X k):Cn d U w' sv sts:=by obtain ⟨e,i,l,a,m⟩:=h;exact ⟨e,Ac i b (fun k n=>c k (a k n)),l,a,fun j g f=>(m j g f).O b c⟩
theorem Cn.more{d}{U a:Nat→Prop}{w e c}(h:Cn d U w e c)(b:∀k,U k→a k):Cn d a w e c:=by obtain ⟨f,l,m,n,o⟩:=h;exact ⟨f,l,m,fun k p=>b k (n k p),fun j g i=>(o j g i).more b⟩
theorem Cn.bQ{d e}{U:Nat→Prop}{w b a}(h:Cn d U w b a)(n:d≤e):Cn e U w b a:=by obtain ⟨c,i,k,l,m⟩:=h;exact ⟨c,i,k,l,fun j g f=>(m j g f).bQ n⟩
theorem BD.flat{U:Nat→Prop}{w s a}(h:w.ownsRow 0 128 2 a s.args.length (Bt s.args))(d:∀k,a.ownBlock=some k→U k):BD 1 U w (.mk s []) (FI s a).toList:=
 ⟨a,.slice none 0 0,[],rfl,h,d,World.ownsRow_nil _ _ _ _,rfl,fun k c=>by simp [Value.ownBlock] at c,fun i b=>by simp at b⟩
theorem BD.blocks{d}{U:Nat→Prop}{w k b a svs}(n:svs.length=a.length)(h:w.ownsRow 0 132 2 b a.length (((a.zip svs).map fun p=>[Value.int .i64 (p.1.1:Nat),p.2]).flatten))(q:∀k,b.ownBlock=some k→U k)
 (o:∀i (h:i<a.length) (r:i<svs.length),Cn d U w svs[i] a[i].2):BD (d+1) U w (.mk (Dh k) a) (Ej (Dh k) (.slice none 0 0) b).toList:=by
 refine ⟨.slice none 0 0,b,(a.zip svs).map fun p=>[Value.int .i64 (p.1.1:Nat),p.2],rfl,World.ownsRow_nil _ _ _ _,fun k m=>by simp [Value.ownBlock] at m,h,by simp [n],q,fun i l s=>?_⟩;obtain ⟨c,e,f,g,j⟩:=o i l (by omega);exact ⟨svs[i]'(by omega),c,by simp,e,f,g,j⟩
def VO(b g n h:Nat)(w:World)(r:TS×PS)(e:Ending)(a:World):Prop:=
 ∃(d:Nat) (U:Nat→Prop) (s:VS) (c f:Value),e=.returned (.agg (Ej s c f))∧BD d U a r.1 (Ej s c f).toList∧(∀k,U k→w.heap.size≤k∧k<a.heap.size)∧AR b g n h r.2 a∧Ab (fun k=>k=b) w a
def Ze(b g n f:Nat)(w:World)(p:Nat)(r:List TS×PS)(e:Ending)(a:World):Prop:=
 ∃(d:Nat) (U:Nat→Prop) (c:Value),e=.returned (.agg #[.int .i64 p,c])∧Cn d U a c r.1∧(∀k,U k→w.heap.size≤k∧k<a.heap.size)∧AR b g n f r.2 a∧Ab (fun k=>k=b) w a
def Gh(c:Nat)(i:World)(f:Nat):Prop:=∀(b g n d:Nat) (x:PS) (a:List PT) (w:World),c≤b→Below c i w→c≤w.heap.size→AR b g n d x w→AZ g n d a w→x.next<n→(Ag a (n-1)).kind=0→Bb (Ag a x.next).kind→2*(n-x.next)≤f→
 Calls Tryz.prog 162 #[.pointer (some ⟨b,0,none⟩)] w fun e h=>VO b g n d w (AV a n f x) e h
theorem BD.cB{d}{U:Nat→Prop}{w t s e f}(h:BD d U w t (Ej s e f).toList):(∃a l c,e=.slice a l c)∧∃a l c,f=.slice a l c:=by
 match d,t,h with
 | d+1,.mk z x,h=> obtain ⟨u,y,v,b,o,_,p,_⟩:=h;simp only [Ej,List.cons.injEq] at b;obtain ⟨g,q,j,m⟩:=Ad o;obtain ⟨i,r,k,n⟩:=Ad p;exact ⟨⟨g,q,j,by rw [←m];exact b.2.2.2.2.2.2.1⟩,⟨i,r,k,by rw [←n];exact b.2.2.2.2.2.2.2.1⟩⟩
structure BR(lb d:Nat)(U:Nat→Prop)(w:World)(sv:Value)(acc:List TS)(css:List (List Value)):Prop where
 row:w.ownsRow (lb+1) 237 8 sv acc.length css.flatten
 len:css.length=acc.length
 bV:∀j (g:j<acc.length) (g':j<css.length),BD d U w acc[j] css[j]
 u:∀k,U k→lb<k∧k<w.heap.size
 apart:∀k,sv.ownBlock=some k→¬U k
theorem BR.nil(a w):BR a 0 (fun _=>False) w (.slice none 0 0) [] []:=
 ⟨World.ownsRow_nil _ _ _ _,rfl,fun j g=>by simp at g,fun k h=>h.elim,fun k h=>by simp [Value.ownBlock] at h⟩
theorem BR.O{c d}{U:Nat→Prop}{w w' sv e f}{X:Nat→Prop}(h:BR c d U w sv e f)(b:Ab X w w')(i:∀k,c<k→k<w.heap.size→¬X k):BR c d U w' sv e f:=
 ⟨Ac h.row b (fun k a=>i k (h.row.lt k a).1 (h.row.lt k a).2),h.len,fun j g l=>(h.bV j g l).O b (fun k a=>i k (h.u k a).1 (h.u k a).2),fun k a=>⟨(h.u k a).1,rP (h.u k a).2 b.size⟩,h.apart⟩
theorem BR.push{f d s}{U n:Nat→Prop}{w W l i r u g o t c}(h:BR f d U w i g o)(D:BD s n w t c)(b:∀k,n k→f<k∧k<w.heap.size∧¬i.ownBlock=some k)(A:Ab (fun _=>False) w W)
 (y:l.ownsRow (f+1) 237 8 r (g.length+1) (o.flatten++c))(B:W.grownBy l i.ownBlock)(C:∀k,r.ownBlock=some k→i.ownBlock=some k∨w.heap.size≤k):
 BR f (max d s) (fun k=>U k∨n k) (l.setCell ⟨f,1,none⟩ u) r (g++[t]) (o++[c]):=by
 have p:Ab (fun k=>i.ownBlock=some k) w l:=Ab.grown (A.mono (fun _ _ q=>q.elim)) B (fun k a=>.inl a);have m:=(Ab.refl (fun k=>k=f) l).d8 1 u;have x:=h.len;refine ⟨?_,by simp [x],?_,?_,?_⟩
 ·have:=Ac y m (fun k a=>by have:=(y.lt k a).1;omega);simpa using this
 ·intro j z E;by_cases v:j<g.length
  ·rw [List.getElem_append_left v,List.getElem_append_left (by omega)];exact ((((h.bV j v (by omega)).O p (fun k a q=>h.apart k q a)).O m (fun k a=>by have:=(h.u k a).1;omega)).more (fun k a=>.inl a)).bQ (Nat.le_max_left _ _)
  ·have e:j=g.length:=by simp at z;omega
   subst e;rw [List.getElem_append_right (by omega),List.getElem_append_right (by omega)];simp only [Nat.sub_self,x,List.getElem_cons_zero];exact (((D.O p (fun k a=>(b k a).2.2)).O m (fun k a=>by have:=(b k a).1;omega)).more (fun k a=>.inr a)).bQ (Nat.le_max_right _ _)
 ·intro k a;have F:=p.size;have G:=m.size;rcases a with a | a
  ·exact ⟨(h.u k a).1,by have:=(h.u k a).2;omega⟩
  ·exact ⟨(b k a).1,by have:=(b k a).2.1;omega⟩
 ·intro k a q;rcases C k a with e | e
  ·rcases q with q | q
   ·exact h.apart k e q
   ·exact (b k q).2.2 e
  ·rcases q with q | q
   ·have:=(h.u k q).2;omega
   ·have:=(b k q).2.1;omega
theorem Kj(b g n c x a w)(m:AR b g n c x w)(o:AZ g n c a w)(j:x.next<n):
 Calls Tryz.prog 161 #[.pointer (some ⟨b,0,none⟩)] w fun e p=>e=.returned (.bool (decide (Bb (Ag a x.next).kind)))∧Ab (fun _=>False) w p:=by
 obtain ⟨k,d⟩:∃k,(Ag a x.next).kind=k:=⟨_,rfl⟩;rw [d];obtain ⟨v,f⟩:∃v,decide (Bb k)=v:=⟨_,rfl⟩;rw [f];have h:=Aa d;have i:=Aa f;clear d f;go_enter Tryz.func161,Tryz.ntmps161;go_wp2_with (go_at_call 113;refine (AS b g n c x a _ m o j).mono ?_;rw [h.o];rintro e q ⟨rfl,l⟩);all_goals
  go_ret;refine ⟨DG ?_,l⟩;rw [←i.o];symm;simp only [beq_iff_eq,beq_eq_false_iff_ne,ne_eq] at*;first
   | (rw [decide_eq_true_iff];unfold Bb;omega)
   | (rw [decide_eq_false_iff_not];unfold Bb;omega)
theorem Tryz.placeOf(a s p w):(Instr.field 114 (.agg #[.int .i64 a,.string s,.int .i64 p]) 2).run Tryz.prog w=.ok (.int .i64 p) w:=by kernel_rfl
theorem Tryz.infoTS:(Tryz.prog.info? 237).map (fun i=>(i.zero,i.size,i.bytes))=some (some (.agg ZX),8,112):=by kernel_rfl
theorem XO(s a d l f c e):∀u∈(Ej s (.slice a l c) (.slice d f e)).toList,u.oneCell'=true:=by intro u b;simp [Ej] at b;rcases b with rfl | rfl | rfl | rfl | rfl | rfl | rfl | rfl<;>rfl
theorem ES(B0 d6 f)(ih:∀k,k≤f→Gh B0 d6 k)(b g n o s c w)(hb:B0≤b)(hG:Below B0 d6 w)(hB:B0≤w.heap.size)(hr:AR b g n o s w)(S:AZ g n o c w)(c7:s.next<n)(hz:(Ag c (n-1)).kind=0)(hf:2*(n-(Af c n 12 s).next)+1≤f):
 Calls Tryz.prog 141 #[.pointer (some ⟨b,0,none⟩)] w fun e w'=>Ze b g n o w (Ax c 12 s).c9 ((AB c n f (Af c n 12 s) []).1,Af c n 13 (AB c n f (Af c n 12 s) []).2) e w':=by
 obtain ⟨i0,hi,e8,e9,f0⟩:=info_parts Tryz.infoTS;have lr:=Ae hr;have lg:=S.lt;have hn:=S.2.2.1;have c9:=S.ne hr (by decide);have c8:=AO (k:=12) hz c7;obtain ⟨x1,M⟩:∃y,Af c n 12 s=y:=⟨_,rfl⟩;rw [M] at hf c8⊢;obtain ⟨t,k1⟩:∃y,Ax c 12 s=y:=⟨_,rfl⟩;rw [k1];obtain ⟨V,hV⟩:∃V,AB c n f x1 []=V:=⟨_,rfl⟩;rw [hV];have X1:=Aa M;have K1:=Aa k1;have HV:=Aa hV;have HZ:=Aa hz;have HG:=Aa hG;have IH:=Aa ih;clear M k1 hV hz hG ih;go_enter Tryz.func141,Tryz.ntmps141;go_wp2_with fail;refine (AG b g n o 12 s c _ (Ak.alloc hr _) (S.O ((Ab.refl (fun _=>False) _).alloc _) (fun q=>q)) c7).mono ?_;rw [X1.o,K1.o];rintro e l ⟨rfl,d3,a3⟩;have f1:=a3.size;simp at f1;have c0:=Aa ((S.O ((Ab.refl (fun _=>False) _).alloc (.cells #[.int .i64 0,.slice none 0 0] 132)) (fun q=>q)).O a3 c9);have b6:dN (Ak w.heap.size #[.int .i64 0,.slice none 0 0] 132 l):=(Ak.new w _ _).O a3 (by omega);have b7:=Aa (((Ab.refl (fun k=>k=b) w).alloc _).trans a3);have b8:=Aa d3;have f7:w.heap.size+1≤l.heap.size:=by omega
 clear d3 a3 hr S;unfold Vy;have e6:=Tryz.placeOf;go_wp2_with fail;clear e6;go_loopw [] (fun wr=>∃(x:PS) (z d:Nat) (U:Nat→Prop) (sv:Value) (L:List TS) (b2:List (List Value)),x.next<n∧L.length≤x.next∧z≤f∧2*(n-x.next)+1≤z∧dN (AR b g n o x wr)∧dN (AZ g n o c wr)∧dN (Ak w.heap.size #[.int .i64 0,.slice none 0 0] 132 wr)∧dN (Ak l.heap.size #[.int .i64 t.c9,sv] 132 wr)∧dN (BR l.heap.size d U wr sv L b2)∧dN (Ab (fun k=>k=b) w wr)∧dN (AB c n z x L=V)) (fun wr=>n-KP b wr)
 case atStart=> exact ⟨x1,f,0,fun _=>False,.slice none 0 0,[],[],c8,by simp,rN _,hf,Ak.alloc b8.o _,c0.o.O ((Ab.refl (fun _=>False) _).alloc _) (fun q=>q),Ak.alloc b6.o _,Ak.new _ _ _,BR.nil _ _,b7.o.alloc _,HV⟩
 case round=>
  clear b8 c0 b6 b7 HV;obtain ⟨x,z,d,U,sv,L,b2,T,f4,f5,f6,N,Q,a7,hC,a6,hO,HC⟩:=hrel;have d9:=Aa (Ed N.o);by_cases A:Bb (Ag c x.next).kind
  ·obtain ⟨r,rfl⟩:∃r,z=r+1:=⟨z-1,by omega⟩;obtain ⟨t3,x3,h3⟩:∃t y,AV c n r x=(t,y):=⟨_,_,rfl⟩;have c4:AB c n r x3 (L++[t3])=V:=by have:=HC.o;rw [AB,if_pos A,h3] at this;exact this
   have e7:x.next+1≤x3.next∧x3.next<n:=by have g1:=Fx (n:=n) HZ.o r x T;rw [h3] at g1;obtain ⟨f3,rfl⟩:∃f3,r=f3+1:=⟨r-1,by omega⟩;have g2:=He HZ.o f3 T A;rw [h3] at g2;exact ⟨g2,g1.2⟩
   have X3:=Aa h3;have d8:=Aa c4;have d7:=Aa A;have a2:decide (Bb (Ag c x.next).kind)=true:=by simp [A]
   have a9:=Aa a2;clear HC h3 c4 A a2;go_wp2_with fail;refine (Kj b g n o x c _ N.o Q.o T).mono ?_;rw [a9.o];rintro e wk ⟨rfl,m⟩;have Y:=Aa (Ak.O N.o m (fun q=>q));have Z:=Aa (Q.o.O m (fun q=>q));have A1:=Aa (a7.o.O m (fun q=>q));have K:=Aa (hC.o.O m (fun q=>q));have J:=Aa (a6.o.O m (fun _ _ _ q=>q));have P:=Aa (hO.o.bI m);clear N Q a7 hC a6 hO m;obtain ⟨C,G,E,rfl⟩:=Ad J.o.row;have c1:=K.o.cell 1;have cf:=K.o.frozen 1;have lc:=Ae K.o;have g0:=Ae Y.o;have f9:=P.o.size;simp only [dM,dJ,dK] at c1;have W:=Aa (fun k (i:Value.ownBlock (.slice C G E)=some k)=>(J.o.row.lt k i).1);go_wp2_with fail;go_region_law (first
    | (refine AT rfl _ _ 130 rfl (l.heap.size+1) 237 i0 (.agg ZX) 8 112 Tryz.underlying130 hi e8 e9 f0 rfl (by decide) _ _ _ rfl (O.o.row.alloc _) ⟨w4.heap.size,0,none⟩ 1 1 (Ej s4 (.slice aa al ac) (.slice ba bl bc)).toList rfl rfl (A5 rfl _ _) (XO _ _ _ _ _ _ _) (by decide) (by unfold maxLen;omega) (by omega) (by simp;omega) ?_;intro v' I b4 R d2;have q1:I.cell? ⟨l.heap.size,1,none⟩=some (.slice C G E):=(rM (R.block l.heap.size (by simp;omega) (fun h=>by have:=W.o _ h.symm;omega))).trans (by rw [←c3];exact rM (Below.heap_alloc _ _ _ d5));have q2:I.frozen? ⟨l.heap.size,1,none⟩=false:=(rS (R.block l.heap.size (by simp;omega) (fun h=>by have:=W.o _ h.symm;omega))).trans (by rw [←e0];exact rS (Below.heap_alloc _ _ _ d5));obtain ⟨D,H,F,rfl⟩:=Ad b4)
    | (go_simp;go_at_call 162;refine (IH.o r (by omega) b g n o x c _ hb (Ab.keeps HG.o (P.o.bI (by repeat (first | exact Ab.refl _ _ | refine Ab.drew ?_ | refine Ab.drewN ?_ _ | refine Ab.alloc ?_ _))) hB hb) (by simp;omega) (Ak.O (X:=fun _=>False) Y.o (by repeat (first | exact Ab.refl _ _ | refine Ab.drew ?_ | refine Ab.drewN ?_ _ | refine Ab.alloc ?_ _)) (fun q=>q)) (Z.o.O (X:=fun _=>False) (by repeat (first | exact Ab.refl _ _ | refine Ab.drew ?_ | refine Ab.drewN ?_ _ | refine Ab.alloc ?_ _)) (fun q=>q)) T HZ.o d7.o (by omega)).mono ?_;rw [X3.o];rintro e w4 ⟨d4,U4,s4,av,bv,rfl,b5,c6,a5,B⟩;obtain ⟨⟨aa,al,ac,rfl⟩,⟨ba,bl,bc,rfl⟩⟩:=b5.cB;have a4:=Ab.trans (X:=fun k=>k=b) (a:=wk) (by repeat (first | exact Ab.refl _ _ | refine Ab.drew ?_ | refine Ab.drewN ?_ _ | refine Ab.alloc ?_ _)) B;have O:=Aa (J.o.O a4 (fun k h _=>by omega));have p:=Aa (K.o.O a4 (by omega));have c3:=p.o.cell 1;have e0:=p.o.frozen 1;have d5:=Ae p.o;simp only [dM,dJ,dK] at c3;have f8:=a4.size;have b9:=Aa b5;have c2:=Aa c6;have R4:=Aa a5;have O5:=Aa a4;clear b5 c6 a5 B a4;unfold Ej;dsimp only))
   all_goals
    have a0:Ab (fun k=>Value.ownBlock (.slice C G E)=some k) w4 I:=Ab.grown ((Ab.refl _ _).alloc _) R (fun k i=>.inl i);have a8:=(Ab.refl (fun k=>k=l.heap.size) I).d8 1 (.slice D H F);have b3:∀j,j<l.heap.size→¬Value.ownBlock (.slice C G E)=some j:=fun j hj q=>by have:=W.o j q;omega
    have hP:=BR.push (u:=.slice D H F) O.o b9.o (fun k i=>by have M:=c2.o k i;simp only [World.size_drew] at M;exact ⟨by omega,M.2,fun q=>by have:=(J.o.row.lt k q).2;omega⟩) ((Ab.refl _ _).alloc _) b4 R (fun k i=>(d2 k i).imp id (fun q=>by simp at q;omega));have c5:AR b g n o x3 (I.setCell ⟨l.heap.size,1,none⟩ (.slice D H F)):=(R4.o.O a0 (b3 b (by omega))).O a8 (by omega);have e5:AZ g n o c (I.setCell ⟨l.heap.size,1,none⟩ (.slice D H F)):=((Z.o.O O5.o c9).O a0 (b3 g (by omega))).O a8 (by omega);have e1:=((A1.o.O O5.o (by omega)).O a0 (b3 w.heap.size (by omega))).O a8 (by omega);have e2:Ak l.heap.size #[.int .i64 t.c9,.slice D H F] 132 (I.setCell ⟨l.heap.size,1,none⟩ (.slice D H F)):=by have:=(p.o.O a0 (fun q=>by have:=W.o _ q;omega)).set 1 (.slice D H F);simpa using this
    have e4:Ab (fun k=>k=b) w (I.setCell ⟨l.heap.size,1,none⟩ (.slice D H F)):=(Ab.grown ((P.o.trans O5.o).alloc _) R (fun k i=>.inr (by have:=W.o k i;omega))).u9 1 _ (by omega);have e3:=Ed c5;clear b4 R d2 q1 q2 b9 c2 O p R4 a0 a8;go_wp2_with fail;go_roundw
    case rel=>exact ⟨x3,r,_,_,_,L++[t3],_,e7.2,by simp;omega,by omega,by omega,c5,e5,e1,e2,hP,e4,d8⟩
    case measure=>rw [e3,d9.o];omega
  ·have hv:V=(L,x):=by
    rw [←HC.o];cases z with
    | zero=>rfl
    | succ z=>rw [AB,if_neg A]
   subst hv
   have a2:decide (Bb (Ag c x.next).kind)=false:=by simp [A]
   have a9:=Aa a2
   clear HC A a2
   go_wp2_with fail
   refine (Kj b g n o x c _ N.o Q.o T).mono ?_
   rw [a9.o]
   rintro e wk ⟨rfl,m⟩
   have Y:=Aa (Ak.O N.o m (fun q=>q))
   have Z:=Aa (Q.o.O m (fun q=>q))
   have A1:=Aa (a7.o.O m (fun q=>q))
   have K:=Aa (hC.o.O m (fun q=>q))
   have J:=Aa (a6.o.O m (fun _ _ _ q=>q))
   have P:=Aa (hO.o.bI m)
   clear N Q a7 hC a6 hO m
   go_wp2_with fail
   refine (AG b g n o 13 x c _ Y.o Z.o T).mono ?_
   rintro e w4 ⟨rfl,a5,B⟩
   have A4:=Aa (A1.o.O B (by omega))
   have p:=Aa (K.o.O B (by omega))
   have O:=Aa (J.o.O B (fun k h _=>by omega))
   have O4:=Aa (P.o.trans B)
   have R4:=Aa a5
   clear Y Z A1 K J P a5 B
   obtain ⟨C,G,E,rfl⟩:=Ad O.o.row
   have b0:=A4.o.cell 0
   have b1:=A4.o.cell 1
   have bf:=A4.o.frozen
   have d0:=p.o.cell 0
   have d1:=p.o.cell 1
   have lB:=Ae A4.o
   have lC:=Ae p.o
   simp only [dM,dJ,dK] at b0 b1 d0 d1
   go_wp2
   refine bodyPost_ret (v:=.agg #[.int .i64 t.c9,.slice C G E]) (by simp [results,Tryz.results141,go_sem,b0,b1]) rfl ?_
   have hs:=((Ab.refl (fun k=>k=w.heap.size) w4).d8 0 (.int .i64 t.c9)).d8 1 (.slice C G E)
   have a1:=O.o.O hs (fun k M _=>by omega)
   refine ⟨d,fun k=>U k∨Value.ownBlock (.slice C G E)=some k,_,rfl,⟨b2,Ao a1.row (rR _),a1.len,fun k i=>.inr i,fun j g1 g2=>(a1.bV j g1 g2).more (fun k i=>.inl i)⟩,?_,R4.o.O hs (by omega),(O4.o.u9 0 _ (rN _)).u9 1 _ (rN _)⟩
   intro k i
   rcases i with i | i
   ·have:=a1.u k i;exact ⟨by omega,this.2⟩
   ·have:=a1.row.lt k i;exact ⟨by omega,this.2⟩
theorem Vo{w:World}{j:Nat}(b:j=w.heap.size)(a c:Value):(w.alloc (.cells #[a,c] 132)).ownsRow 0 132 2 (.slice (some ⟨j,0,none⟩) 1 1) 1 [a,c]:=by subst b;exact ⟨rfl,.inr ⟨w.heap.size,1,#[a,c],rfl,rR _,heap_alloc_new w _,rN _,by unfold maxLen;omega,rfl,rfl⟩⟩
theorem Qn(s J f)(ih:∀k,k≤f→Gh s J k)(b g n r o a w)(Q:s≤b)(O:Below s J w)(hB:s≤w.heap.size)(m:AR b g n r o w)(Y:AZ g n r a w)(R:o.next<n)(x:(Ag a (n-1)).kind=0)(c:(Ag a o.next).kind=9)(hf:2*(n-o.next)≤f+1):
 Calls Tryz.prog 178 #[.pointer (some ⟨b,0,none⟩)] w fun e w'=>VO b g n r w (AV a n (f+1) o) e w':=by
 obtain ⟨K,t⟩:∃y,Af a n 9 o=y:=⟨_,rfl⟩;obtain ⟨D,C⟩:∃y,Af a n 20 K=y:=⟨_,rfl⟩;obtain ⟨p,I⟩:∃y,(Ax a 12 D).c9=y:=⟨_,rfl⟩;obtain ⟨l3,y3,E⟩:∃l y,AB a n f (Af a n 12 D) []=(l,y):=⟨_,_,rfl⟩;obtain ⟨x3,F⟩:∃y,Af a n 13 y3=y:=⟨_,rfl⟩;have Z:AV a n (f+1) o=(.mk (Dh 12) [(p,l3)],x3):=by rw [AV,if_neg (by omega),if_pos c];simp only [t,C,I,E,F]
 rw [Z];have M:=BE (n:=n) c (by omega);rw [t] at M;have S:K.next<n:=by rw [←t];exact AO x R
 have B:=Ah x 20 S;rw [C] at B;have T:=B.2;have N:=Ah x 12 T;have a1:2*(n-(Af a n 12 D).next)+1≤f:=by have:=B.1;have:=N.1;omega
 have z:=Aa (JX.start m Y);have HG:=Aa O;have IH:=Aa ih;have HZ:=Aa x;have X1:=Aa t;have X2:=Aa C;have XP:=Aa I;have X3:=Aa E;have X4:=Aa F;clear t C I E F Z m Y x c O ih B N M;go_enter Tryz.func178,Tryz.ntmps178;go_wp2_with fail;refine (AG b g n r 9 o a _ z.o.pa z.o.pt R).mono ?_;rw [X1.o];rintro e w1 ⟨rfl,m,u⟩;have A:=Aa (z.o.call m u);clear m u z;go_wp2_with fail;refine (AG b g n r 20 K a _ A.o.pa A.o.pt S).mono ?_;rw [X2.o];rintro e w2 ⟨rfl,m,u⟩;have q:=Aa (A.o.call m u);clear m u A;have a6:=q.o.O.size;have a2:=Aa (Ae q.o.l7);go_wp2_with fail;refine (ES s J f IH.o b g n r D a _ Q (Ab.keeps HG.o q.o.O hB Q) (by omega) q.o.pa q.o.pt T HZ.o a1).mono ?_;rw [XP.o,X3.o];simp only;rw [X4.o];rintro e w3 ⟨d,U,sv,rfl,G,P,V,H⟩;have a0:=G;obtain ⟨a4,W,_⟩:=a0;obtain ⟨va,vl,vc,rfl⟩:=Ad W;have j:=Aa (q.o.call V H);have HT:=Aa G;have L:=Aa P;have a7:=H.size;clear G P V H W q;have q0:=j.o.l7.cell 0;have q1:=j.o.l7.cell 1;have q2:=j.o.l7.cell 2;have q3:=j.o.l7.cell 3;have q4:=j.o.l7.cell 4;have q5:=j.o.l7.cell 5;have q6:=j.o.l7.cell 6;have q7:=j.o.l7.cell 7;have qf:=j.o.l7.frozen;have ql:=Ae j.o.l7;simp only [dM,dJ,dK] at q0 q1 q2 q3 q4 q5 q6 q7;go_wp2;refine bodyPost_ret (v:=.agg (Ej (Dh 12) (.slice none 0 0) (.slice (some ⟨w3.heap.size,0,none⟩) 1 1))) (by simp [results,Tryz.results178,go_sem,Ej,Dh,Bj,q0,q1,q2,q3,q4,q5,q6,q7,ql];try rfl) rfl ?_;have a3:b≠w.heap.size:=by have:=j.o.bl;omega
 have a5:w.heap.size<w2.heap.size:=by have:=a2.o;omega
 refine ⟨d+1,fun k=>U k∨k=w3.heap.size,Dh 12,_,_,rfl,?_,?_,?_,?_⟩
 ·refine BD.blocks (svs:=[.slice va vl vc]) rfl (Vo (by simp) _ _) (fun k c=>.inr (by simp [Value.ownBlock] at c;omega)) ?_;intro i h h';have e:i=0:=by simp at h;omega
  subst e;refine Cn.more ?_ (fun k c=>.inl c);refine HT.o.O (X:=fun k=>k=w.heap.size) ?_ (fun k c=>by have:=(L.o k c).1;omega);refine Ab.alloc ?_ _;iterate 8 refine Ab.d8 ?_ _ _
  exact Ab.refl _ _
 ·intro k c;simp only [World.size_alloc,World.size_setCell];rcases c with c | c
  ·have:=L.o k c;omega
  ·omega
 ·refine Ak.O (X:=fun k=>k=w.heap.size) j.o.pa ?_ a3;refine Ab.alloc ?_ _;iterate 8 refine Ab.d8 ?_ _ _
  exact Ab.refl _ _
 ·refine Ab.alloc ?_ _;iterate 8 refine Ab.u9 ?_ _ _ (rN _)
  exact j.o.O
theorem Ma{w:World}(a c:Value):(w.alloc (.cells #[a,c] 132)).ownsRow w.heap.size 132 2 (.slice (some ⟨w.heap.size,0,none⟩) 1 1) 1 [a,c]:=
 ⟨rfl,.inr ⟨w.heap.size,1,#[a,c],rfl,rN _,heap_alloc_new w _,rN _,by unfold maxLen;omega,rfl,rfl⟩⟩
theorem Tryz.infoTB:(Tryz.prog.info? 132).map (fun i=>(i.zero,i.size,i.bytes))=some (some (.agg #[.int .i64 0,.slice none 0 0]),2,32):=by kernel_rfl
theorem Pw(H a5 f)(ih:∀k,k≤f→Gh H a5 k)(b g n r z c w)(V:H≤b)(hG:Below H a5 w)(hB:H≤w.heap.size)(o:AR b g n r z w)(ht:AZ g n r c w)(b2:z.next<n)(A:(Ag c (n-1)).kind=0)(a:(Ag c z.next).kind=7)(hf:2*(n-z.next)≤f+1):
 Calls Tryz.prog 177 #[.pointer (some ⟨b,0,none⟩)] w fun e w'=>VO b g n r w (AV c n (f+1) z) e w':=by
 obtain ⟨x1,I⟩:∃y,Af c n 7 z=y:=⟨_,rfl⟩;obtain ⟨W,Q⟩:∃y,Af c n 20 x1=y:=⟨_,rfl⟩;obtain ⟨p,hp⟩:∃y,(Ax c 12 W).c9=y:=⟨_,rfl⟩;obtain ⟨l3,y3,R⟩:∃l y,AB c n f (Af c n 12 W) []=(l,y):=⟨_,_,rfl⟩;obtain ⟨E,S⟩:∃y,Af c n 13 y3=y:=⟨_,rfl⟩;have e1:=BE (n:=n) a (by omega);rw [I] at e1;have b3:x1.next<n:=by rw [←I];exact AO A b2
 have P:=Ah A 20 b3;rw [Q] at P;have b4:=P.2;have g3:=Ah A 12 b4;have c3:2*(n-(Af c n 12 W).next)+1≤f:=by have:=P.1;have:=g3.1;omega
 have g4:=Bo A f (Af c n 12 W) [] g3.2;rw [R] at g4;have g5:=Ah A 13 g4.2;rw [S] at g5;have a8:=g5.2;have e7:z.next+1≤E.next:=by have:=P.1;have:=g3.1;have:=g4.1;have:=g5.1;omega
 have lg:=ht.lt;have F:=Aa (JX.start o ht);have HG:=Aa hG;have IH:=Aa ih;have HZ:=Aa A;have X1:=Aa I;have X2:=Aa Q;have XP:=Aa hp;have X3:=Aa R;have X4:=Aa S;by_cases h8:(Ag c E.next).kind=8
 ·obtain ⟨x4,k4⟩:∃y,Af c n 8 E=y:=⟨_,rfl⟩;obtain ⟨p2,b6⟩:∃y,(Ax c 12 x4).c9=y:=⟨_,rfl⟩;obtain ⟨l5,y5,h5⟩:∃l y,AB c n f (Af c n 12 x4) []=(l,y):=⟨_,_,rfl⟩;obtain ⟨x6,h6⟩:∃y,Af c n 13 y5=y:=⟨_,rfl⟩;have hv:AV c n (f+1) z=(.mk (Dh 11) [(p,l3),(p2,l5)],x6):=by rw [AV,if_pos a];simp only [I,Q,hp,R,S,if_pos h8,k4,b6,h5,h6]
  rw [hv];have g6:=Ah A 8 a8;rw [k4] at g6;have c2:=g6.2;have g7:=Ah A 12 c2;have d4:2*(n-(Af c n 12 x4).next)+1≤f:=by have:=g6.1;have:=g7.1;omega
  have d3:(((Ag c E.next).kind:Int)==8)=true:=by simp [h8]
  have K4:=Aa k4;have d1:=Aa b6;have X5:=Aa h5;have X6:=Aa h6;obtain ⟨i0,hi,d9,e0,e3⟩:=info_parts Tryz.infoTB;clear I Q hp R S hv o ht A a hG ih P g3 e1 g4 g5 h8 k4 b6 h5 h6 g6 g7;go_enter Tryz.func177,Tryz.ntmps177;go_wp2_with fail;refine (AG b g n r 7 z c _ F.o.pa F.o.pt b2).mono ?_;rw [X1.o];rintro e w1 ⟨rfl,o,t⟩;have C:=Aa (F.o.call o t);clear o t F;go_wp2_with fail;refine (AG b g n r 20 x1 c _ C.o.pa C.o.pt b3).mono ?_;rw [X2.o];rintro e w2 ⟨rfl,o,t⟩;have m:=Aa (C.o.call o t);clear o t C;have e2:=m.o.O.size;have d7:=Ae m.o.l7;go_wp2_with fail;refine (ES H a5 f IH.o b g n r W c _ V (Ab.keeps HG.o m.o.O hB V) (by omega) m.o.pa m.o.pt b4 HZ.o c3).mono ?_;rw [XP.o,X3.o];simp only;rw [X4.o];rintro e B ⟨d,U,sv,rfl,K,hU,a3,L⟩;have a0:=K;obtain ⟨d2,a4,_⟩:=a0;obtain ⟨M,O,N,rfl⟩:=Ad a4;have J:=(Ab.refl (fun _=>False) B).alloc (.cells #[.int .i64 p,.slice M O N] 132);have D:=Aa ((m.o.call a3 L).quiet J);have HT:=Aa (K.O J (fun _ _ q=>q));have G:=Aa hU;have HR:=Aa (Ma (w:=B) (.int .i64 p) (.slice M O N));have e4:=L.size;clear K hU a3 L a4 m J;go_wp2_with fail;refine (AS b g n r E c _ D.o.pa D.o.pt a8).mono ?_;rintro e wk ⟨rfl,x⟩;have j:=Aa (D.o.quiet x);have a7:=Aa (HT.o.O x (fun _ _ q=>q));have a6:=Aa (Ac HR.o x (fun _ _ q=>q));have b7:=x.size;simp at b7;clear x D HT HR;go_wp2_with fail;refine (AG b g n r 8 E c _ j.o.pa j.o.pt a8).mono ?_;rw [K4.o];rintro e w4 ⟨rfl,c5,a1⟩;have Y:=Aa (j.o.call c5 a1);have e6:=j.o.bl;have c0:=Aa (a7.o.O a1 (fun k a=>by have:=(G.o k a).1;omega));have b9:=Aa (Ac a6.o a1 (fun k a=>by simp [Value.ownBlock] at a;omega));have e9:=a1.size;clear c5 a1 j a7 a6;go_wp2_with fail;refine (ES H a5 f IH.o b g n r x4 c _ V (Ab.keeps HG.o Y.o.O hB V) (by omega) Y.o.pa Y.o.pt c2 HZ.o d4).mono ?_;rw [d1.o,X5.o];simp only;rw [X6.o];rintro e w5 ⟨d5,U5,f2,rfl,b1,c1,c6,a2⟩;have a0:=b1;obtain ⟨e5,c7,_⟩:=a0;obtain ⟨wa,wl,b8,rfl⟩:=Ad c7;have Z:=Aa (Y.o.call c6 a2);have c9:=Aa b1;have b0:=Aa c1;have d0:=Aa (c0.o.O a2 (fun k a=>by have:=(G.o k a).1;omega));have c8:=Aa (Ac b9.o a2 (fun k a=>by simp [Value.ownBlock] at a;omega));have f0:=a2.size;clear b1 c1 c6 a2 c7 Y c0 b9;have d8:=c8.o;go_wp2_with (at_builtin;refine wpList_append_own _ rfl _ _ 235 rfl B.heap.size 132 i0 (.agg #[.int .i64 0,.slice none 0 0]) 2 32 Tryz.underlying235 hi d9 e0 e3 rfl (by decide) _ _ _ rfl (d8.alloc _) ⟨w5.heap.size,0,none⟩ 1 1 [.int .i64 p2,.slice wa wl b8] rfl rfl (A5 rfl _ _) (fun u hu=>by simp at hu;rcases hu with rfl | rfl<;>rfl) (by unfold maxLen;omega) (by omega) (by simp;omega) ?_;intro v' w6 a9 d6 e8;obtain ⟨ya,yl,yc,rfl⟩:=Ad a9;have c4:(w5.alloc (.cells #[.int .i64 p2,.slice wa wl b8] 132)).grownBy w6 (some B.heap.size):=d6;have T:Ab (fun k=>k=B.heap.size) w5 w6:=Ab.grown ((Ab.refl _ _).alloc _) c4 (fun k a=>.inl (Option.some.inj a).symm);have s:=Aa (JX.mk (Ak.O Z.o.pa T (by omega)) (Z.o.pt.O T (by omega)) (Z.o.l7.O T (by omega)) (Ab.grown (Z.o.O.alloc _) c4 (fun k a=>.inr (by have:=Option.some.inj a;omega))) Z.o.bl);have q0:=s.o.l7.cell 0;have q1:=s.o.l7.cell 1;have q2:=s.o.l7.cell 2;have q3:=s.o.l7.cell 3;have q4:=s.o.l7.cell 4;have q5:=s.o.l7.cell 5;have q6:=s.o.l7.cell 6;have q7:=s.o.l7.cell 7;have qf:=s.o.l7.frozen;have ql:=Ae s.o.l7;simp only [dM,dJ,dK] at q0 q1 q2 q3 q4 q5 q6 q7);refine bodyPost_ret (v:=.agg (Ej (Dh 11) (.slice none 0 0) (.slice ya yl yc))) (by simp [results,Tryz.results177,go_sem,Ej,Dh,Bj,q0,q1,q2,q3,q4,q5,q6,q7];try rfl) rfl ?_;have b5:b≠w.heap.size:=by omega
  have f1:=T.size;have T1:=d0.o.O T (fun k a=>by have:=(G.o k a).2;omega);have T2:=c9.o.O T (fun k a=>by have:=(b0.o k a).1;omega);refine ⟨max d d5+1,fun k=>U k∨U5 k∨Value.ownBlock (.slice ya yl yc)=some k,Dh 11,_,_,rfl,?_,?_,?_,?_⟩
  ·refine BD.O (X:=fun k=>k=w.heap.size) (w:=w6) ?_ ?_ ?_
   ·refine BD.blocks (svs:=[.slice M O N,.slice wa wl b8]) rfl (Ao a9 (rR _)) (fun k a=>.inr (.inr a)) ?_;intro i h h';have e:i=0∨i=1:=by simp at h;omega
    rcases e with rfl | rfl
    ·exact (T1.more (fun k a=>.inl a)).bQ (Nat.le_max_left _ _)
    ·exact (T2.more (fun k a=>.inr (.inl a))).bQ (Nat.le_max_right _ _)
   ·iterate 8 refine Ab.d8 ?_ _ _
    exact Ab.refl _ _
   ·intro k a;rcases a with a | a | a
    ·have:=(G.o k a).1;omega
    ·have:=(b0.o k a).1;omega
    ·have:=(a9.lt k a).1;omega
  ·intro k a;simp only [World.size_setCell];rcases a with a | a | a
   ·have:=G.o k a;omega
   ·have:=b0.o k a;omega
   ·have:=a9.lt k a;omega
  ·refine Ak.O (X:=fun k=>k=w.heap.size) s.o.pa ?_ b5;iterate 8 refine Ab.d8 ?_ _ _
   exact Ab.refl _ _
  ·iterate 8 refine Ab.u9 ?_ _ _ (rN _)
   exact s.o.O
 ·have hv:AV c n (f+1) z=(.mk (Dh 11) [(p,l3)],E):=by rw [AV,if_pos a];simp only [I,Q,hp,R,S,if_neg h8]
  rw [hv]
  have d3:(((Ag c E.next).kind:Int)==8)=false:=by simp;omega
  clear I Q hp R S hv o ht A a hG ih P g3 e1 g4 g5 h8
  go_enter Tryz.func177,Tryz.ntmps177
  go_wp2_with fail
  refine (AG b g n r 7 z c _ F.o.pa F.o.pt b2).mono ?_
  rw [X1.o]
  rintro e w1 ⟨rfl,o,t⟩
  have C:=Aa (F.o.call o t)
  clear o t F
  go_wp2_with fail
  refine (AG b g n r 20 x1 c _ C.o.pa C.o.pt b3).mono ?_
  rw [X2.o]
  rintro e w2 ⟨rfl,o,t⟩
  have m:=Aa (C.o.call o t)
  clear o t C
  have e2:=m.o.O.size
  have d7:=Ae m.o.l7
  go_wp2_with fail
  refine (ES H a5 f IH.o b g n r W c _ V (Ab.keeps HG.o m.o.O hB V) (by omega) m.o.pa m.o.pt b4 HZ.o c3).mono ?_
  rw [XP.o,X3.o]
  simp only
  rw [X4.o]
  rintro e B ⟨d,U,sv,rfl,K,hU,a3,L⟩
  have a0:=K
  obtain ⟨d2,a4,_⟩:=a0
  obtain ⟨M,O,N,rfl⟩:=Ad a4
  have J:=(Ab.refl (fun _=>False) B).alloc (.cells #[.int .i64 p,.slice M O N] 132)
  have D:=Aa ((m.o.call a3 L).quiet J)
  have HT:=Aa (K.O J (fun _ _ q=>q))
  have G:=Aa hU
  have HR:=Aa (Ma (w:=B) (.int .i64 p) (.slice M O N))
  have e4:=L.size
  clear K hU a3 L a4 m J
  go_wp2_with fail
  refine (AS b g n r E c _ D.o.pa D.o.pt a8).mono ?_
  rintro e wk ⟨rfl,x⟩
  have j:=Aa (D.o.quiet x)
  have a7:=Aa (HT.o.O x (fun _ _ q=>q))
  have a6:=Aa (Ac HR.o x (fun _ _ q=>q))
  have b7:=x.size
  simp at b7
  clear x D HT HR
  have q0:=j.o.l7.cell 0
  have q1:=j.o.l7.cell 1
  have q2:=j.o.l7.cell 2
  have q3:=j.o.l7.cell 3
  have q4:=j.o.l7.cell 4
  have q5:=j.o.l7.cell 5
  have q6:=j.o.l7.cell 6
  have q7:=j.o.l7.cell 7
  have qf:=j.o.l7.frozen
  have ql:=Ae j.o.l7
  simp only [dM,dJ,dK] at q0 q1 q2 q3 q4 q5 q6 q7
  go_wp2
  refine bodyPost_ret (v:=.agg (Ej (Dh 11) (.slice none 0 0) (.slice (some ⟨B.heap.size,0,none⟩) 1 1))) (by simp [results,Tryz.results177,go_sem,Ej,Dh,Bj,q0,q1,q2,q3,q4,q5,q6,q7];try rfl) rfl ?_
  have b5:b≠w.heap.size:=by have:=j.o.bl;omega
  refine ⟨d+1,fun k=>U k∨k=B.heap.size,Dh 11,_,_,rfl,?_,?_,?_,?_⟩
  ·refine BD.O (X:=fun k=>k=w.heap.size) (w:=wk) ?_ ?_ (fun k a=>by rcases a with a | a;have:=(G.o k a).1;omega;omega)
   ·refine BD.blocks (svs:=[.slice M O N]) rfl (Ao a6.o (rR _)) (fun k a=>.inr (by simp [Value.ownBlock] at a;omega)) ?_;intro i h h';have e:i=0:=by simp at h;omega
    subst e;exact a7.o.more (fun k a=>.inl a)
   ·iterate 8 refine Ab.d8 ?_ _ _
    exact Ab.refl _ _
  ·intro k a
   simp only [World.size_setCell];rcases a with a | a
   ·have:=G.o k a;omega
   ·omega
  ·refine Ak.O (X:=fun k=>k=w.heap.size) j.o.pa ?_ b5
   iterate 8 refine Ab.d8 ?_ _ _
   exact Ab.refl _ _
  ·iterate 8 refine Ab.u9 ?_ _ _ (rN _)
   exact j.o.O
theorem K9(O R)(hF:Cf O R)(f)(ih:∀k,k≤f→Gh O R k):Gh O R (f+1):=by
 intro b g n K l i w Q hG hB m ht M Z a2 hf;have a:=Aa (JX.start m ht);have HG:=Aa hG;have IH:=Aa ih;have HZ:=Aa Z;have HF:=Aa hF;by_cases L:(Ag i l.next).kind=7
 ·have S:=Aa L;clear m ht Z hG ih hF a2;obtain ⟨r,m⟩:∃r,AV i n (f+1) l=r:=⟨_,rfl⟩;rw [m];have a1:=Aa m;have a9:=Aa L;clear m L;go_enter Tryz.func162,Tryz.ntmps162;go_wp2_with fail;refine (AS b g n K l i _ a.o.pa a.o.pt M).mono ?_;rw [S.o];rintro e w0 ⟨rfl,B⟩;have t:=Aa (a.o.quiet B);clear B a;have a:=t;clear t;have a7:=a.o.O.size;have a5:=Ae a.o.l7;go_wp2_with fail;refine (Pw O R f IH.o b g n K l i _ Q (Ab.keeps HG.o a.o.O hB Q) (by omega) a.o.pa a.o.pt M HZ.o a9.o hf).mono ?_;rw [a1.o];rintro e w1 ⟨d,U,s,av,bv,rfl,N,V,p,o⟩;obtain ⟨⟨x,A,z,rfl⟩,⟨ba,bl,bc,rfl⟩⟩:=N.cB;have c:=Aa (a.o.call p o);have a0:=Aa N;have T:=Aa V;have a8:=o.size;clear N V p o a;have C:=c.o.l7.cell 0;have D:=c.o.l7.cell 1;have E:=c.o.l7.cell 2;have F:=c.o.l7.cell 3;have G:=c.o.l7.cell 4;have H:=c.o.l7.cell 5;have I:=c.o.l7.cell 6;have J:=c.o.l7.cell 7;have qf:=c.o.l7.frozen;have ql:=Ae c.o.l7;simp only [dM,dJ,dK] at C D E F G H I J;unfold Ej;go_wp2;refine bodyPost_ret (v:=.agg (Ej s (.slice x A z) (.slice ba bl bc))) (by simp [results,Tryz.results162,go_sem,Ej,C,D,E,F,G,H,I,J]) rfl ?_;have W:b≠w.heap.size:=by have:=c.o.bl;omega
  refine ⟨d,U,s,_,_,rfl,?_,?_,?_,?_⟩
  ·refine a0.o.O (X:=fun k=>k=w.heap.size) ?_ (fun k h=>by have:=(T.o k h).1;omega);iterate 8 refine Ab.d8 ?_ _ _
   exact Ab.refl _ _
  ·intro k h;simp only [World.size_setCell];have:=T.o k h;omega
  ·refine Ak.O (X:=fun k=>k=w.heap.size) c.o.pa ?_ W;iterate 8 refine Ab.d8 ?_ _ _
   exact Ab.refl _ _
  ·iterate 8 refine Ab.u9 ?_ _ _ (rN _)
   exact c.o.O
 ·by_cases P:(Ag i l.next).kind=9
  ·have S:=Aa P;clear m ht Z hG ih hF a2;obtain ⟨r,m⟩:∃r,AV i n (f+1) l=r:=⟨_,rfl⟩;rw [m];have a1:=Aa m;have b0:=Aa P;clear m P L;go_enter Tryz.func162,Tryz.ntmps162;go_wp2_with fail;refine (AS b g n K l i _ a.o.pa a.o.pt M).mono ?_;rw [S.o];rintro e w0 ⟨rfl,B⟩;have t:=Aa (a.o.quiet B);clear B a;have a:=t;clear t;have a7:=a.o.O.size;have a5:=Ae a.o.l7;go_wp2_with fail;refine (Qn O R f IH.o b g n K l i _ Q (Ab.keeps HG.o a.o.O hB Q) (by omega) a.o.pa a.o.pt M HZ.o b0.o hf).mono ?_;rw [a1.o];rintro e w1 ⟨d,U,s,av,bv,rfl,N,V,p,o⟩;obtain ⟨⟨x,A,z,rfl⟩,⟨ba,bl,bc,rfl⟩⟩:=N.cB;have c:=Aa (a.o.call p o);have a0:=Aa N;have T:=Aa V;have a8:=o.size;clear N V p o a;have C:=c.o.l7.cell 0;have D:=c.o.l7.cell 1;have E:=c.o.l7.cell 2;have F:=c.o.l7.cell 3;have G:=c.o.l7.cell 4;have H:=c.o.l7.cell 5;have I:=c.o.l7.cell 6;have J:=c.o.l7.cell 7;have qf:=c.o.l7.frozen;have ql:=Ae c.o.l7;simp only [dM,dJ,dK] at C D E F G H I J;unfold Ej;go_wp2;refine bodyPost_ret (v:=.agg (Ej s (.slice x A z) (.slice ba bl bc))) (by simp [results,Tryz.results162,go_sem,Ej,C,D,E,F,G,H,I,J]) rfl ?_;have W:b≠w.heap.size:=by have:=c.o.bl;omega
   refine ⟨d,U,s,_,_,rfl,?_,?_,?_,?_⟩
   ·refine a0.o.O (X:=fun k=>k=w.heap.size) ?_ (fun k h=>by have:=(T.o k h).1;omega);iterate 8 refine Ab.d8 ?_ _ _
    exact Ab.refl _ _
   ·intro k h;simp only [World.size_setCell];have:=T.o k h;omega
   ·refine Ak.O (X:=fun k=>k=w.heap.size) c.o.pa ?_ W;iterate 8 refine Ab.d8 ?_ _ _
    exact Ab.refl _ _
   ·iterate 8 refine Ab.u9 ?_ _ _ (rN _)
    exact c.o.O
  ·obtain ⟨s1,x1,h1⟩:∃s y,AF i n l=(s,y):=⟨_,_,rfl⟩;obtain ⟨x2,h2⟩:∃y,Af i n 14 x1=y:=⟨_,rfl⟩;have hv:AV i n (f+1) l=(.mk s1 [],x2):=by rw [AV,if_neg L,if_neg P,h1];simp only [h2]
   rw [hv];have g1:=JD Z M;rw [h1] at g1;have b1:=g1.2;obtain ⟨kk,a3⟩:∃k,(Ag i l.next).kind=k:=⟨_,rfl⟩;rw [a3] at L P;have S:=Aa a3;have j7:((kk:Int)==7)=false:=by simp;omega
   have j9:((kk:Int)==9)=false:=by simp;omega
   have X1:=Aa h1;have X2:=Aa h2;clear m ht Z hG ih hF a2 h1 h2 hv a3 L P g1;go_enter Tryz.func162,Tryz.ntmps162;go_wp2_with fail;refine (AS b g n K l i _ a.o.pa a.o.pt M).mono ?_;rw [S.o];rintro e w0 ⟨rfl,B⟩;have t:=Aa (a.o.quiet B);clear B a;have a:=t;clear t;have a7:=a.o.O.size;have a5:=Ae a.o.l7;go_wp2_with fail;refine (Ti O R HF.o b g n K l i _ Q (Ab.keeps HG.o a.o.O hB Q) (by omega) a.o.pa a.o.pt M HZ.o).mono ?_;rw [X1.o];rintro e w1 ⟨av,rfl,a4,p,o⟩;obtain ⟨x,A,z,rfl⟩:=Ad a4;have hA:=(Ab.refl (fun _=>False) w1).alloc (.cells (FI s1 (.slice x A z)) 237);have c:=Aa ((a.o.call p o).quiet hA);have L1:=Aa (Ak.new w1 (FI s1 (.slice x A z)) 237);have O1:=Aa (Ac a4 hA (fun _ _ q=>q));have a8:=o.size;have b3:b<w1.heap.size:=Ae p;clear a4 p o a hA;unfold FI at c L1 O1⊢;go_wp2_with fail;refine (AG b g n K 14 x1 i _ c.o.pa c.o.pt b1).mono ?_;rw [X2.o];rintro e w2 ⟨rfl,a6,Y⟩;have j:=Aa (c.o.call a6 Y);have u:=Aa (L1.o.O Y (by omega));have O2:=Aa (Ac O1.o Y (fun k h=>by have:=(O1.o.lt k h).1;have:=c.o.bl;omega));have b2:=Y.size;simp at b2;clear a6 Y c L1 O1;have m0:=u.o.cell 0;have m1:=u.o.cell 1;have m2:=u.o.cell 2;have m3:=u.o.cell 3;have m4:=u.o.cell 4;have m5:=u.o.cell 5;have m6:=u.o.cell 6;have m7:=u.o.cell 7;simp only [dM,dJ,dK] at m0 m1 m2 m3 m4 m5 m6 m7;have C:=j.o.l7.cell 0;have D:=j.o.l7.cell 1;have E:=j.o.l7.cell 2;have F:=j.o.l7.cell 3;have G:=j.o.l7.cell 4;have H:=j.o.l7.cell 5;have I:=j.o.l7.cell 6;have J:=j.o.l7.cell 7;have qf:=j.o.l7.frozen;have ql:=Ae j.o.l7;simp only [dM,dJ,dK] at C D E F G H I J;go_wp2;refine bodyPost_ret (v:=.agg (Ej s1 (.slice x A z) (.slice none 0 0))) (by simp [results,Tryz.results162,go_sem,Ej,C,D,E,F,G,H,I,J]) rfl ?_;have W:b≠w.heap.size:=by have:=j.o.bl;omega
   refine ⟨1,fun k=>Value.ownBlock (.slice x A z)=some k,s1,_,_,rfl,?_,?_,?_,?_⟩
   ·refine BD.O (X:=fun k=>k=w.heap.size) (w:=w2) (BD.flat (Ao O2.o (rR _)) (fun k h=>h)) ?_ (fun k h=>by have:=(O2.o.lt k h).1;omega);iterate 8 refine Ab.d8 ?_ _ _
    exact Ab.refl _ _
   ·intro k h;simp only [World.size_setCell];have:=O2.o.lt k h;omega
   ·refine Ak.O (X:=fun k=>k=w.heap.size) j.o.pa ?_ W;iterate 8 refine Ab.d8 ?_ _ _
    exact Ab.refl _ _
   ·iterate 8 refine Ab.u9 ?_ _ _ (rN _)
    exact j.o.O
theorem EL(a:Nat)(c:World)(hF:Cf a c):∀f,∀k,k≤f→Gh a c k
 | 0,k,d=>by intro b g n i x m w _ _ _ _ _ j _ _ l;omega
 | f+1,k,d=>by
   by_cases h:k≤f
   ·exact EL a c hF f k h
   ·have e:k=f+1:=by omega
    subst e;exact K9 a c hF f (EL a c hF f)
structure TF where
 name:PT
 i8:List PT
 c9:Nat
 v8:List TS
def Hh(a:List PT)(n:Nat)(x:PS):TF×PS:=
 let b:=Af a n 3 x
 let c:=Af a n 1 b
 let y:=A6 a n c
 let r:=AB a n (2*n+1) (Af a n 12 y.2) []
 (⟨Ax a 1 b,y.1,(Ax a 12 y.2).c9,r.1⟩,Af a n 13 r.2)
def Lv(t:TF)(a b:Value):Array Value:=#[.string t.name.a9,.int .i64 t.name.c9,a,.int .i64 t.c9,b]
def GC(d:Nat)(U:Nat→Prop)(w:World)(t:TF)(c:List Value):Prop:=∃a b,c=(Lv t a b).toList∧w.ownsRow 0 128 2 a t.i8.length (Bt t.i8)∧(∀k,a.ownBlock=some k→U k)∧Cn d U w b t.v8
theorem GC.O{d}{U:Nat→Prop}{w w' t c}{X:Nat→Prop}(h:GC d U w t c)(b:Ab X w w')(e:∀k,U k→¬X k):GC d U w' t c:=by obtain ⟨f,sv,g,i,a,j⟩:=h;exact ⟨f,sv,g,Ac i b (fun k l=>e k (a k l)),a,j.O b e⟩
theorem GC.more{d}{U a:Nat→Prop}{w t c}(h:GC d U w t c)(b:∀k,U k→a k):GC d a w t c:=by obtain ⟨e,m,f,g,i,j⟩:=h;exact ⟨e,m,f,g,fun k l=>b k (i k l),j.more b⟩
theorem GC.bQ{d e}{U:Nat→Prop}{w t c}(h:GC d U w t c)(j:d≤e):GC e U w t c:=by obtain ⟨a,k,b,f,g,i⟩:=h;exact ⟨a,k,b,f,g,i.bQ j⟩
def Zk(b g n m:Nat)(w:World)(r:TF×PS)(e:Ending)(f:World):Prop:=
 ∃(d:Nat) (U:Nat→Prop) (a:Option Addr) (l c:Nat) (h:Option Addr) (j i:Nat),e=.returned (.agg (Lv r.1 (.slice a l c) (.slice h j i)))∧GC d U f r.1 (Lv r.1 (.slice a l c) (.slice h j i)).toList∧(∀k,U k→w.heap.size≤k∧k<f.heap.size)∧AR b g n m r.2 f∧Ab (fun k=>k=b) w f
theorem EY{g n}(a:(Ag g (n-1)).kind=0){x}(h:x.next<n):Hl n x (Hh g n x).2:=by have b:=Ah a 3 h;have c:=b.trans (Ah a 1 b.2);have d:=c.trans (DP a c.2);have e:=d.trans (Ah a 12 d.2);have f:=e.trans (Bo a (2*n+1) _ [] e.2);exact f.trans (Ah a 13 f.2)
theorem KA{b n}(a:(Ag b (n-1)).kind=0){x}(j:x.next<n)(k:(Ag b x.next).kind=3):x.next+1≤(Hh b n x).2.next:=by have h:=Ah a 3 j;have e:=BE (n:=n) k (by omega);have c:=Ah a 1 h.2;have d:=c.trans (DP a c.2);have f:=d.trans (Ah a 12 d.2);have g:=f.trans (Bo a (2*n+1) _ [] f.2);have i:=g.trans (Ah a 13 g.2);have:=i.1;unfold Hh;simp only;omega
abbrev Zm:Array Value:=#[.string {data:=#[]},.int .i64 0,.slice none 0 0,.int .i64 0,.slice none 0 0]
theorem Ie(j G)(hF:Cf j G)(b g n i r d w)(hb:j≤b)(hG:Below j G w)(hB:j≤w.heap.size)(F:AR b g n i r w)(u:AZ g n i d w)(a8:r.next<n)(x:(Ag d (n-1)).kind=0):
 Calls Tryz.prog 112 #[.pointer (some ⟨b,0,none⟩)] w fun e w'=>Zk b g n i w (Hh d n r) e w':=by
 have lr:=Ae F;have lg:=u.lt;have P:=u.ne F (by decide);obtain ⟨H,o⟩:∃y,Af d n 3 r=y:=⟨_,rfl⟩;obtain ⟨Y,s⟩:∃y,Af d n 1 H=y:=⟨_,rfl⟩;obtain ⟨f,S⟩:∃y,Ax d 1 H=y:=⟨_,rfl⟩;obtain ⟨l3,z,C⟩:∃l y,A6 d n Y=(l,y):=⟨_,_,rfl⟩;obtain ⟨p4,T⟩:∃y,(Ax d 12 z).c9=y:=⟨_,rfl⟩;obtain ⟨l4,y4,M⟩:∃l y,AB d n (2*n+1) (Af d n 12 z) []=(l,y):=⟨_,_,rfl⟩;obtain ⟨x5,N⟩:∃y,Af d n 13 y4=y:=⟨_,rfl⟩;have hv:Hh d n r=(⟨f,l3,p4,l4⟩,x5):=by simp only [Hh,o,s,S,C,T,M,N]
 rw [hv];have a9:H.next<n:=by rw [←o];exact AO x a8
 have b5:Y.next<n:=by rw [←s];exact AO x a9
 have c8:z.next<n:=by have:=S8 x b5;rw [C] at this;exact this
 have IH:=Aa (EL j G hF (2*n+1));have HG:=Aa hG;have HZ:=Aa x;have X1:=Aa o;have X2:=Aa s;have K2:=Aa S;have X3:=Aa C;have K4:=Aa T;have X4:=Aa M;have X5:=Aa N;clear o s S C T M N hv x hG hF;go_enter Tryz.func112,Tryz.ntmps112;go_wp2_with fail;refine (AG b g n i 3 r d _ (Ak.alloc F _) (u.O ((Ab.refl (fun _=>False) _).alloc _) (fun q=>q)) a8).mono ?_;rw [X1.o];rintro e w2 ⟨rfl,b7,D⟩;have Z:=Aa ((Ak.new w Zm 134).O D (by omega));have a1:=Aa (((Ab.refl (fun k=>k=b) w).alloc (.cells Zm 134)).trans D);have K:=Aa ((u.O ((Ab.refl (fun _=>False) _).alloc (.cells Zm 134)) (fun q=>q)).O D P);have a3:=Aa b7;clear b7 D F u;go_wp2_with fail;refine (B7 b g n i H d _ a3.o K.o a9).mono ?_;rw [X2.o,K2.o];rintro e w3 ⟨rfl,R,E⟩;have I:=Aa (Z.o.O E (by omega));have a2:=Aa (a1.o.trans E);have L:=Aa (K.o.O E P);have a4:=Aa R;have d9:=Ae I.o;have e2:=Ae R;clear R E Z a1 K a3;unfold Je;go_wp2_with fail;refine (Jd b g n i Y d _ (Ak.alloc a4.o _) (L.o.O ((Ab.refl (fun _=>False) _).alloc _) (fun q=>q)) b5 HZ.o).mono ?_;rw [X3.o];rintro e w4 ⟨v,rfl,Q,b8,t⟩;obtain ⟨U,W,V,rfl⟩:=Ad Q;have A:=Aa ((Ak.new w3 #[.string f.a9,.int .i64 f.c9] 128).O t (by omega));have h:=Aa ((I.o.alloc (.cells #[.string f.a9,.int .i64 f.c9] 128)).O t (by omega));have J:=Aa ((a2.o.alloc (.cells #[.string f.a9,.int .i64 f.c9] 128)).trans t);have c5:=Aa ((L.o.O ((Ab.refl (fun _=>False) _).alloc (.cells #[.string f.a9,.int .i64 f.c9] 128)) (fun q=>q)).O t P);have c3:=Aa b8;have B:=Aa Q;have n0:=A.o.cell 0;have n1:=A.o.cell 1;have b0:=h.o.cell 0;have b1:=h.o.cell 1;have b2:=h.o.cell 2;have b3:=h.o.cell 3;have b4:=h.o.cell 4;have bf:=h.o.frozen;simp only [dM,dJ,dK] at n0 n1 b0 b1 b2 b3 b4;have e0:=Ae A.o;have e1:=Ae h.o;have d7:=J.o.size;have c9:2*(n-(Af d n 12 z).next)+1≤2*n+1:=by omega
 clear b8 t Q I a2 L a4;go_wp2_with fail;go_region_with (go_at_call 141;refine (ES j G (2*n+1) IH.o b g n i z d _ hb (Ab.keeps HG.o (J.o.bI (by repeat (first | exact Ab.refl _ _ | refine Ab.drew ?_ | refine Ab.drewN ?_ _ | refine Ab.alloc ?_ _))) hB hb) (by simp;omega) (Ak.O (X:=fun _=>False) c3.o (by repeat (first | exact Ab.refl _ _ | refine Ab.drew ?_ | refine Ab.drewN ?_ _ | refine Ab.alloc ?_ _)) (fun q=>q)) (c5.o.O (X:=fun _=>False) (by repeat (first | exact Ab.refl _ _ | refine Ab.drew ?_ | refine Ab.drewN ?_ _ | refine Ab.alloc ?_ _)) (fun q=>q)) c8 HZ.o c9).mono ?_;rw [K4.o,X4.o];simp only;rw [X5.o];rintro e w5 ⟨d5,U5,e3,rfl,O,a7,b9,b6⟩;have c7:=O;obtain ⟨d6,c0,_⟩:=c7;obtain ⟨wa,wl,c1,rfl⟩:=Ad c0;have p:=Ab.trans (X:=fun k=>k=b) (a:=w4) (by repeat (first | exact Ab.refl _ _ | refine Ab.drew ?_ | refine Ab.drewN ?_ _ | refine Ab.alloc ?_ _)) b6;have a0:=Aa (A.o.O p (by omega));have m:=Aa (h.o.O p (by omega));have a6:=Aa (Ac B.o p (fun k c=>by have:=(B.o.lt k c).1;simp at this;omega));have m0:=a0.o.cell 0;have m1:=a0.o.cell 1;have d0:=m.o.cell 0;have d1:=m.o.cell 1;have d2:=m.o.cell 2;have d3:=m.o.cell 3;have d4:=m.o.cell 4;have df:=m.o.frozen;simp only [dM,dJ,dK] at m0 m1 d0 d1 d2 d3 d4;have c6:=Aa O;have a5:=Aa a7;have c2:=Aa (J.o.trans p);have c4:=Aa b9;have d8:=p.size;clear O a7 b9 b6 p c0);all_goals
  go_wp2;refine bodyPost_ret (v:=.agg (Lv ⟨f,l3,p4,l4⟩ (.slice U W V) (.slice wa wl c1))) (by simp [results,Tryz.results112,go_sem,Lv,d0,d1,d2,d3,d4]) rfl ?_;refine ⟨d5,fun k=>U5 k∨Value.ownBlock (.slice U W V)=some k,U,W,V,wa,wl,c1,rfl,?_,?_,?_,?_⟩
  ·refine GC.O (X:=fun k=>k=w.heap.size) (w:=w5) ⟨_,_,rfl,Ao a6.o (rR _),fun k c=>.inr c,c6.o.more (fun k c=>.inl c)⟩ ?_ ?_
   ·iterate 5 refine Ab.d8 ?_ _ _
    exact Ab.refl _ _
   ·intro k c;rcases c with c | c
    ·have:=(a5.o k c).1;simp at this;omega
    ·have:=(B.o.lt k c).1;simp at this;omega
  ·intro k c;simp only [World.size_setCell];rcases c with c | c
   ·have:=a5.o k c;simp at this;omega
   ·have o:=(B.o.lt k c).1;have s:=(a6.o.lt k c).2;simp at o;omega
  ·refine Ak.O (X:=fun k=>k=w.heap.size) c4.o ?_ (by omega);iterate 5 refine Ab.d8 ?_ _ _
   exact Ab.refl _ _
  ·iterate 5 refine Ab.u9 ?_ _ _ (rN _)
   exact c2.o
end Go.Proofs.YtegmjgjkcdbmkaaGreatDoor

/- One of the texts of the proof: PlA. -/
import Derived.Test.YtegmjgjkcdbmkaaGreatDoorS08
namespace Go.Proofs.YtegmjgjkcdbmkaaGreatDoor
open Go.RowKit Go.Maps
def Hk(s:AY)(a:Value):List Value:=[.int .i64 s.kind,.int .i64 s.aQ,.int .i64 s.r9,.int .i64 s.field,.int .i64 s.m9,a,.int .i64 s.next,.int .i64 s.taken]
def QO(B:Nat)(w:World)(c:List Value)(s:AY):Prop:=∃a,c=Hk s a∧AD B w a s.args
def AN(B:Nat)(w:World)(b:Value)(l:List AY):Prop:=∃a:List (List Value),w.ownsRow B 190 8 b l.length a.flatten∧a.length=l.length∧∀i (h:i<a.length) (c:i<l.length),QO B w a[i] l[i]
def MR(f:PFn)(b a:Value):List Value:=[.string f.name,b,.int .i64 f.i8,a]
def IN(B:Nat)(w:World)(c:List Value)(f:PFn):Prop:=∃b a,c=MR f b a∧Au B w b f.l8∧AN B w a f.b9
def Bh(B:Nat)(w:World)(b:Value)(P:List PFn):Prop:=∃a:List (List Value),w.ownsRow B 136 4 b P.length a.flatten∧a.length=P.length∧∀i (h:i<a.length) (c:i<P.length),IN B w a[i] P[i]
def Mq(X:Nat→Prop)(w:World):Prop:=∀k a t b,X k→w.heap[k]? =some (.cells a t b)→t≠3∧t≠9∧t≠190∧t≠136
theorem AN.O{B w w' sv l}{X:Nat→Prop}(h:AN B w sv l)(d:Ab X w w')(f:Mq X w):AN B w' sv l:=by obtain ⟨a,p,n,o⟩:=h;refine ⟨a,Av p d (fun k a b c q=>(f k a _ b c q).2.2.1 rfl),n,fun i h j=>?_⟩;obtain ⟨g,e,m⟩:=o i h j;exact ⟨g,e,Av m d (fun k a b c q=>(f k a _ b c q).1 rfl)⟩
theorem Bh.O{B w w' g P}{X:Nat→Prop}(h:Bh B w g P)(d:Ab X w w')(f:Mq X w):Bh B w' g P:=by obtain ⟨a,n,l,m⟩:=h;refine ⟨a,Av n d (fun k a b c q=>(f k a _ b c q).2.2.2 rfl),l,fun i h j=>?_⟩;obtain ⟨r,sv,e,p,o⟩:=m i h j;exact ⟨r,sv,e,Av p d (fun k a b c q=>(f k a _ b c q).2.1 rfl),o.O d f⟩
theorem Bh.i9{B w b a P}(h:Bh B w a P)(c:Ab (fun _=>False) w b):Bh B b a P:=h.O c (fun _ _ _ _ q=>q.elim)
theorem FR.qY{i j b B a v x n o c m P w l}(p:FR i j b B w l)(h:TN i j b B o v x n m w)(s:Bh a w c P):Bh a l c P:=by
 obtain ⟨C,D,y,h⟩:=h;refine s.O p (fun k z t A q r=>?_);have u:t=121∨t=184∨t=176:=by
  by_cases d:t=121
  ·exact .inl d
  by_cases f:t=184
  ·exact .inr (.inl f)
  by_cases g:t=176
  ·exact .inr (.inr g)
  exact absurd q (h.cP r d f g)
 rcases u with e | e | e<;>(rw [e];decide)
theorem Bh.get{B w g l c P}(h:Bh B w (.slice (some ⟨g,0,none⟩) l c) P){i}(s:i<P.length):
 ∃b a,(∀j,j<4→w.cell? ⟨g,i*4+j,none⟩=(MR P[i] b a)[j]?)∧Au B w b P[i].l8∧AN B w a P[i].b9:=by
 obtain ⟨f,n,v,m⟩:=h;have t:=Aq n;subst t;have k:i<f.length:=by omega
 have q:∀x,x∈f→x.length=4:=by intro x u;obtain ⟨j,d,rfl⟩:=List.mem_iff_getElem.1 u;obtain ⟨_,_,e,_⟩:=m j d (by omega);rw [e];rfl
 obtain ⟨b,a,e,o,p⟩:=m i k s;refine ⟨b,a,fun j d=>?_,o,p⟩;have r:=n.cellAt (i*4+j) (by omega);rw [r,Cz q k d,e]
theorem AN.get{B w g l c L}(h:AN B w (.slice (some ⟨g,0,none⟩) l c) L){i}(q:i<L.length):
 ∃a,(∀j,j<8→w.cell? ⟨g,i*8+j,none⟩=(Hk L[i] a)[j]?)∧AD B w a L[i].args:=by
 obtain ⟨d,m,t,k⟩:=h;have r:=Aq m;subst r;have f:i<d.length:=by omega
 have o:∀x,x∈d→x.length=8:=by intro x s;obtain ⟨j,b,rfl⟩:=List.mem_iff_getElem.1 s;obtain ⟨_,e,_⟩:=k j b (by omega);rw [e];rfl
 obtain ⟨a,e,n⟩:=k i f q;refine ⟨a,fun j b=>?_,n⟩;have p:=m.cellAt (i*8+j) (by omega);rw [p,Cz o f b,e]
theorem AN.form{B w d L}(h:AN B w d L):∃a c,d=.slice a L.length c∧(0<L.length→∃g,a=some ⟨g,0,none⟩∧g<w.heap.size):=by obtain ⟨i,b,_⟩:=h;obtain ⟨a,l,c,rfl⟩:=Ad b;have f:=Aq b;subst f;refine ⟨a,c,rfl,fun e=>?_⟩;obtain ⟨g,rfl⟩:=AA b e;exact ⟨g,rfl,(b.lt g rfl).2⟩
theorem Bh.form{B w d P}(h:Bh B w d P)(e:0<P.length):∃g c,d=.slice (some ⟨g,0,none⟩) P.length c∧g<w.heap.size:=by obtain ⟨i,b,_⟩:=h;obtain ⟨a,l,c,rfl⟩:=Ad b;have f:=Aq b;subst f;obtain ⟨g,rfl⟩:=AA b e;exact ⟨g,c,rfl,(b.lt g rfl).2⟩
end Go.Proofs.YtegmjgjkcdbmkaaGreatDoor

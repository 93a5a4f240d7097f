/- Part of the proof: PlA. -/
import Derived.Test.YtaningfhibkemaaGreatDoorG18
namespace Go.Proofs.YtaningfhibkemaaGreatDoor
open Go.RowKit Go.Maps Go.Proofs.Tryz
def Ki(s:Bb)(a:Value):List Value:=[.int .i64 s.kind,.int .i64 s.cO,.int .i64 s.cC,.int .i64 s.field,.int .i64 s.cA,a,.int .i64 s.next,.int .i64 s.taken]
def Sr(B:Nat)(w:World)(c:List Value)(s:Bb):Prop:=∃a,c=Ki s a/\Ax B w a s.args
def AQ(B:Nat)(w:World)(b:Value)(l:List Bb):Prop:=∃a:List (List Value),w.ownsRow B 189 8 b l.length a.flatten/\a.length=l.length/\∀i (h:i<a.length) (c:i<l.length),Sr B w a[i] l[i]
def Oo(f:PFn)(b a:Value):List Value:=[.string f.name,b,.int .i64 f.u9,a]
def JP(B:Nat)(w:World)(c:List Value)(f:PFn):Prop:=∃b a,c=Oo f b a/\Au B w b f.t8/\AQ B w a f.r9
def Bv(B:Nat)(w:World)(b:Value)(P:List PFn):Prop:=∃a:List (List Value),w.ownsRow B 134 4 b P.length a.flatten/\a.length=P.length/\∀i (h:i<a.length) (c:i<P.length),JP B w a[i] P[i]
def NO(X:Nat->Prop)(w:World):Prop:=∀k a t b,X k->w.heap[k]? =some (.cells a t b)->t≠3/\t≠9/\t≠189/\t≠134
theorem AQ.d8{B w g sv l}{X:Nat->Prop}(h:AQ B w sv l)(d:O X w g)(f:NO X w):AQ B g sv l:=by obtain⟨a,r,o,p⟩:=h;refine⟨a,Ai r d (fun k a b c q=>(f k a _ b c q).2.2.1 rfl),o,fun i h m=>?_⟩;obtain⟨j,e,n⟩:=p i h m;exact⟨j,e,Ai n d (fun k a b c q=>(f k a _ b c q).1 rfl)⟩
theorem Bv.d8{B w j g P}{X:Nat->Prop}(h:Bv B w g P)(d:O X w j)(f:NO X w):Bv B j g P:=by obtain⟨a,o,m,n⟩:=h;refine⟨a,Ai o d (fun k a b c q=>(f k a _ b c q).2.2.2 rfl),m,fun i h l=>?_⟩;obtain⟨s,sv,e,r,p⟩:=n i h l;exact⟨s,sv,e,Ai r d (fun k a b c q=>(f k a _ b c q).2.1 rfl),p.d8 d f⟩
theorem Bv.s9{B w b a P}(h:Bv B w a P)(c:O kD w b):Bv B b a P:=h.d8 c (fun _ _ _ _ q=>q.elim)
theorem Bv.get{B w g l c P}(h:Bv B w (.slice (some ⟨g,0,none⟩) l c) P){i}(s:i<P.length):
 ∃b a,(∀j,j<4->w.cell? ⟨g,i*4+j,none⟩=(Oo P[i] b a)[j]?)/\Au B w b P[i].t8/\AQ B w a P[i].r9:=by
 obtain⟨f,n,v,m⟩:=h;have t:=Ag n;subst t;have k:i<f.length:=Z;have q:∀x,x∈f->x.length=4:=by intro x u;obtain⟨j,d,rfl⟩:=iF.1 u;obtain⟨_,_,e,_⟩:=m j d Z;rw[e];rfl
 obtain⟨b,a,e,o,p⟩:=m i k s;refine⟨b,a,fun j d=>?_,o,p⟩;have r:=n.cellAt (i*4+j) Z;rw[r,Cw q k d,e]
theorem AQ.get{B w g l c L}(h:AQ B w (.slice (some ⟨g,0,none⟩) l c) L){i}(q:i<L.length):
 ∃a,(∀j,j<8->w.cell? ⟨g,i*8+j,none⟩=(Ki L[i] a)[j]?)/\Ax B w a L[i].args:=by
 obtain⟨d,m,t,k⟩:=h;have r:=Ag m;subst r;have f:i<d.length:=Z;have o:∀x,x∈d->x.length=8:=by intro x s;obtain⟨j,b,rfl⟩:=iF.1 s;obtain⟨_,e,_⟩:=k j b Z;rw[e];rfl
 obtain⟨a,e,n⟩:=k i f q;refine⟨a,fun j b=>?_,n⟩;have p:=m.cellAt (i*8+j) Z;rw[p,Cw o f b,e]
theorem AQ.form{B w d L}(h:AQ B w d L):∃a c,d=.slice a L.length c/\(0<L.length->∃g,a=some ⟨g,0,none⟩/\g<w.heap.size):=by obtain⟨i,b,_⟩:=h;obtain⟨a,l,c,rfl⟩:=Ad b;have f:=Ag b;subst f;refine⟨a,c,rfl,fun e=>?_⟩;obtain⟨g,rfl⟩:=Ap b e;exact⟨g,rfl,(b.lt g rfl).2⟩
theorem Bv.form{B w d P}(h:Bv B w d P)(e:0<P.length):∃g c,d=.slice (some ⟨g,0,none⟩) P.length c/\g<w.heap.size:=by obtain⟨i,b,_⟩:=h;obtain⟨a,l,c,rfl⟩:=Ad b;have f:=Ag b;subst f;obtain⟨g,rfl⟩:=Ap b e;exact⟨g,c,rfl,(b.lt g rfl).2⟩

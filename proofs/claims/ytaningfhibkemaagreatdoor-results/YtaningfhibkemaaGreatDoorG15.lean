/- Part of the proof: PlA. -/
import Derived.Test.YtaningfhibkemaaGreatDoorG14
namespace Go.Proofs.YtaningfhibkemaaGreatDoor
open Go.RowKit Go.Maps Go.Proofs.Tryz
open Option renaming none->Z,some->T
open Value renaming int->G,slice->Y
open IntKind renaming i64->A
def Kr(s:Be)(a:Value):List Value:=[G A s.kind,G A s.cY,G A s.cM,G A s.field,G A s.cK,a,G A s.next,G A s.taken]
def SJ(B:Nat)(w:World)(c:List Value)(s:Be):Prop:=∃a,c=Kr s a/\Ay B w a s.args
def AR(B:Nat)(w:World)(b:Value)(l:List Be):Prop:=∃a:List (List Value),w.ownsRow B 189 8 b l.length a.flatten/\a.length=l.length/\∀i (h:i<a.length) (c:i<l.length),SJ B w a[i] l[i]
def OA(f:PFn)(b a:Value):List Value:=[.string f.name,b,G A f.u9,a]
def JY(B:Nat)(w:World)(c:List Value)(f:PFn):Prop:=∃b a,c=OA f b a/\Au B w b f.t8/\AR B w a f.r9
def Bx(B:Nat)(w:World)(b:Value)(P:List PFn):Prop:=∃a:List (List Value),w.ownsRow B 134 4 b P.length a.flatten/\a.length=P.length/\∀i (h:i<a.length) (c:i<P.length),JY B w a[i] P[i]
def N7(X:Nat->Prop)(w:World):Prop:=∀k a t b,X k->w.heap[k]? =T (.cells a t b)->t≠3/\t≠9/\t≠189/\t≠134
theorem AR.d8{B w g sv l}{X:Nat->Prop}(h:AR B w sv l)(d:O X w g)(f:N7 X w):AR B g sv l:=by obtain⟨a,r,o,p⟩:=h;refine⟨a,Ai r d (fun k a b c q=>(f k a _ b c q).2.2.1 rfl),o,fun i h m=>?_⟩;obtain⟨j,e,n⟩:=p i h m;exact⟨j,e,Ai n d (fun k a b c q=>(f k a _ b c q).1 rfl)⟩
theorem Bx.d8{B w j g P}{X:Nat->Prop}(h:Bx B w g P)(d:O X w j)(f:N7 X w):Bx B j g P:=by obtain⟨a,o,m,n⟩:=h;refine⟨a,Ai o d (fun k a b c q=>(f k a _ b c q).2.2.2 rfl),m,fun i h l=>?_⟩;obtain⟨s,sv,e,r,p⟩:=n i h l;exact⟨s,sv,e,Ai r d (fun k a b c q=>(f k a _ b c q).2.1 rfl),p.d8 d f⟩
theorem Bx.s9{B w b a P}(h:Bx B w a P)(c:O kJ w b):Bx B b a P:=h.d8 c (fun _ _ _ _ q=>q.elim)
theorem Bx.get{B w g l c P}(h:Bx B w (Y (T ⟨g,0,Z⟩) l c) P){i}(s:i<P.length):
 ∃b a,(∀j,j<4->w.cell? ⟨g,i*4+j,Z⟩=(OA P[i] b a)[j]?)/\Au B w b P[i].t8/\AR B w a P[i].r9:=by
 obtain⟨f,n,v,m⟩:=h;have t:=Ag n;subst t;have k:i<f.length:=by omega
 have q:∀x,x∈f->x.length=4:=by intro x u;obtain⟨j,d,rfl⟩:=iP.1 u;obtain⟨_,_,e,_⟩:=m j d (by omega);rw[e];rfl
 obtain⟨b,a,e,o,p⟩:=m i k s;refine⟨b,a,fun j d=>?_,o,p⟩;have r:=n.cellAt (i*4+j) (by omega);rw[r,CD q k d,e]
theorem AR.get{B w g l c L}(h:AR B w (Y (T ⟨g,0,Z⟩) l c) L){i}(q:i<L.length):
 ∃a,(∀j,j<8->w.cell? ⟨g,i*8+j,Z⟩=(Kr L[i] a)[j]?)/\Ay B w a L[i].args:=by
 obtain⟨d,m,t,k⟩:=h;have r:=Ag m;subst r;have f:i<d.length:=by omega
 have o:∀x,x∈d->x.length=8:=by intro x s;obtain⟨j,b,rfl⟩:=iP.1 s;obtain⟨_,e,_⟩:=k j b (by omega);rw[e];rfl
 obtain⟨a,e,n⟩:=k i f q;refine⟨a,fun j b=>?_,n⟩;have p:=m.cellAt (i*8+j) (by omega);rw[p,CD o f b,e]
theorem AR.form{B w d L}(h:AR B w d L):∃a c,d=Y a L.length c/\(0<L.length->∃g,a=T ⟨g,0,Z⟩/\g<w.heap.size):=by obtain⟨i,b,_⟩:=h;obtain⟨a,l,c,rfl⟩:=Ad b;have f:=Ag b;subst f;refine⟨a,c,rfl,fun e=>?_⟩;obtain⟨g,rfl⟩:=Ap b e;exact⟨g,rfl,(b.lt g rfl).2⟩
theorem Bx.form{B w d P}(h:Bx B w d P)(e:0<P.length):∃g c,d=Y (T ⟨g,0,Z⟩) P.length c/\g<w.heap.size:=by obtain⟨i,b,_⟩:=h;obtain⟨a,l,c,rfl⟩:=Ad b;have f:=Ag b;subst f;obtain⟨g,rfl⟩:=Ap b e;exact⟨g,c,rfl,(b.lt g rfl).2⟩

/- Part of the proof: AnU AnV AnW. -/
import Derived.Test.YtaningfhibkemaaGreatDoorG24
set_option maxRecDepth 100000
set_option maxHeartbeats 4000000
namespace Go.Proofs.YtaningfhibkemaaGreatDoor
open Go.RowKit Go.Maps Go.ChangeMaps Go.Proofs.Tryz
open Option renaming none->Z,some->T
open Value renaming int->G,slice->Y
open IntKind renaming i64->A
structure Ec(g:Nat)(p:Value)(s u n:Nat)(o:So)(l m:Nat->Nat->Prop)(w:World):Prop where
 cI:W g (Hh o p s u n) 120 w
 mp:∀t,t<=4->BW IU IT (o.om t) (o.bk t) w
 st:∀t i k,o.bk t i=T k->Bn k (fun x=>t=4/\m i x) w
 dj:∀t i t' i' k,o.bk t i=T k->o.bk t' i'=T k->t=t'/\i=i'
 oj:∀t t',t<=5->t'<=5->o.om t=o.om t'->t=t'
 ne:∀t i k t',o.bk t i=T k->t'<=5->k≠o.om t'
 t4:∀t i k,o.bk t i=T k->t<=4
 d:∀t i,(∃k,o.bk t i=T k)↔l t i
 fm:BW UY UX (o.om 5) o.fw w
 f0:∀c,o.fw c=Z
 r0:∀c,o.rl c=[]
section
variable{P:List PFn}{g:Nat}{p:Value}{s u n:Nat}{o z:So}{l Dm' m B:Nat->Nat->Prop}{w w':World}
theorem Ec.kind(h:Ec g p s u n o l m w){k}(a:o.own g k):(∃e c,w.heap[k]? =T (.map e c))\/∃d,w.heap[k]? =T (.cells d 120 (0,0)):=by
 rcases a with rfl|⟨t,j,rfl⟩|⟨t,i,a⟩|⟨c,t,b,rfl⟩
 .exact .inr ⟨_,h.cI⟩
 .by_cases f:t=5
  .subst f;exact .inl h.fm.isMap
  .exact .inl (h.mp t (by omega)).isMap
 .exact .inl (h.st t i k a).isMap
 .rw[h.f0]at b;cases b
theorem Ec.ownLt(h:Ec g p s u n o l m w){k}(a:o.own g k):k<w.heap.size:=by rcases h.kind a with⟨_,_,e⟩|⟨_,e⟩<;>exact lt_of_block e
theorem Ec.d8{X:Nat->Prop}(h:Ec g p s u n o l m w)(a:O X w w')(b:∀k,X k->¬o.own g k):Ec g p s u n o l m w':=
 {h with
  cI:=h.cI.d8 a (fun q=>b _ q (.inl rfl))
  mp:=fun t d=>(h.mp t d).d8 a (fun q=>b _ q (.inr (.inl ⟨t,by omega,rfl⟩)))
  st:=fun t i k c=>(h.st t i k c).d8 a (fun q=>b _ q (.inr (.inr (.inl ⟨t,i,c⟩))))
  fm:=h.fm.d8 a (fun q=>b _ q (.inr (.inl ⟨5,by omega,rfl⟩)))}
def So.gr(o:So)(a:Nat->Nat->Option Nat):So:={o with bk:=fun t i=>match a t i with|some f=>T f|none=>o.bk t i}
theorem So.gr_bk{o:So}{a:Nat->Nat->Option Nat}{t i k}(h:(o.gr a).bk t i=T k):a t i=T k\/(a t i=Z/\o.bk t i=T k):=by
 unfold So.gr at h;dsimp only at h;split at h
 .next f e=>cases h;exact .inl e
 .next e=>exact .inr ⟨e,h⟩
theorem Ec.grow(h:Ec g p s u n o l m w){nb:Nat->Nat->Option Nat}(v:∀t i f,nb t i=T f->t<=4/\w.heap.size<=f/\Bn f (fun _=>False) w'/\(t=4->∀x,¬m i x))(K:∀t i b y f,nb t i=T f->nb b y=T f->t=b/\i=y)
 (L:∀t,t<=4->BW IU IT (o.om t) ((o.gr nb).bk t) w')(C:O (fun k=>∃t,t<=4/\k=o.om t) w w')(M:∀t i,Dm' t i↔l t i\/∃f,nb t i=T f):
 Ec g p s u n (o.gr nb) Dm' m w'/\(∀k,(o.gr nb).own g k->o.own g k\/w.heap.size<=k)/\O (o.own g) w w':=by
 have R:∀t,t<=5->o.om t<w.heap.size:=fun t c=>h.ownLt (.inr (.inl ⟨t,c,rfl⟩))
 have Q:∀t,t<=4->g≠o.om t:=fun t c q=>by obtain⟨_,_,e⟩:=(h.mp t c).isMap;have E:=h.cI;unfold W at E;rw[q,e]at E;cases E
 have H:∀t i k,o.bk t i=T k->k<w.heap.size:=fun t i k a=>h.ownLt (.inr (.inr (.inl ⟨t,i,a⟩)))
 refine⟨{h with cI:=h.cI.d8 C (fun⟨t,c,q⟩=>Q t c q),mp:=L,st:=fun t i k a=>?_,dj:=fun t i b y k a I=>?_,ne:=fun t i k b a F=>?_,t4:=fun t i k a=>?_,d:=fun t i=>?_,fm:=h.fm.d8 C (fun⟨t,c,q⟩=>jY (h.oj 5 t (by omega) (by omega) q) (by omega))},fun k a=>?_,C.mono fun k _ ⟨t,c,q⟩=>.inr (.inl ⟨t,by omega,q⟩)⟩
 .rcases So.gr_bk a with q|⟨_,q⟩
  .obtain⟨_,_,P,N⟩:=v t i k q;exact P.iff fun x=>⟨False.elim,fun⟨e,r⟩=>N e x r⟩
  .exact(h.st t i k q).d8 C fun⟨b,F,e⟩=>h.ne t i k b q (by omega) e
 .rcases So.gr_bk a with q|⟨_,q⟩
  .rcases So.gr_bk I with j|⟨_,j⟩
   .exact K t i b y k q j
   .have:=(v t i k q).2.1;have:=H _ _ _ j;omega
  .rcases So.gr_bk I with j|⟨_,j⟩
   .have:=(v _ _ k j).2.1;have:=H _ _ _ q;omega
   .exact h.dj t i b y k q j
 .rcases So.gr_bk a with q|⟨_,q⟩
  .have:=(v t i k q).2.1;have:=R b F;intro e;have e:k=o.om b:=e;omega
  .exact h.ne t i k b q F
 .rcases So.gr_bk a with q|⟨_,q⟩
  .exact(v t i k q).1
  .exact h.t4 t i k q
 .rw[M,<-h.d t i];constructor
  .rintro⟨k,a⟩;rcases So.gr_bk a with q|⟨_,q⟩
   .exact .inr ⟨k,q⟩
   .exact .inl ⟨k,q⟩
  .rintro(⟨k,a⟩|⟨k,a⟩)
   .unfold So.gr;dsimp only;cases nb t i with
    |some f=>exact⟨f,rfl⟩
    |none=>exact⟨k,a⟩
   .exact⟨k,by unfold So.gr;dsimp only;rw[a]⟩
 .rcases a with q|q|⟨t,i,q⟩|q
  .exact .inl (.inl q)
  .exact .inl (.inr (.inl q))
  .rcases So.gr_bk q with q|⟨_,q⟩
   .exact .inr (v t i k q).2.1
   .exact .inl (.inr (.inr (.inl ⟨t,i,q⟩)))
  .exact .inl (.inr (.inr (.inr q)))
end
def aH(g:Nat)(p:Value)(s u n:Nat)(o:So)(l m:Nat->Nat->Prop)(w w':World):Prop:=∃z,Ec g p s u n z l m w'/\(∀k,z.own g k->o.own g k\/w.heap.size<=k)/\O (o.own g) w w'
theorem BW.new{e:Type}{R:Value->Option (DataW Unit×List MemPlace)}{a:e->DataW Unit}{w:World}{f:Nat}(h:w.heap[f]? =T (.map #[] 0)):BW R a f (fun _=>Z) w:=by obtain⟨c,⟨j,i,b,r⟩,d⟩:=BW.made (R:=R) (dc:=a) w;rw[heap_alloc_new]at b;cases b;exact⟨c,⟨#[],0,h,r⟩,d⟩
theorem OE{w:World}{f:Nat}(h:w.heap[f]? =T (.map #[] 0)):Bn f (fun _=>False) w:=⟨_,BW.new h,Wd.nil⟩
section
theorem JM(a:World)(b:Nat)(x:Obj):(setBlock a b x).heap.size=a.heap.size:=by simp[setBlock]
theorem Ex(a:World)(b k:Nat)(x:Obj)(h:k≠b):(setBlock a b x).heap[k]? =a.heap[k]? :=by unfold setBlock;dsimp only;rw[Array.getElem?_setIfInBounds_ne (Ne.symm h)]
theorem Tv(a:World)(b:Nat)(x:Obj)(h:b<a.heap.size):(setBlock a b x).heap[b]? =T x:=by unfold setBlock;dsimp only;rw[Array.getElem?_setIfInBounds_self_of_lt h]
theorem O.setB{X:Nat->Prop}{a c:World}{b:Nat}{x:Obj}(h:O X a c)(d:X b):O X a (setBlock c b x):=by
 refine h.thn (Y:=fun k=>k=b) ⟨rfl,rfl,rfl,?_,fun k e q=>?_⟩ (fun j _ q=>q▸d)
 .rw[JM];exact gS _
 .exact Ex _ _ _ _ q
end
theorem Kw(g p s u n o l m w)(c:Nat)(h:Ec g p s u n o l m w)(hc:c<20000)(h0:¬l 0 c)(h3:¬l 3 c):
 Calls prog 84 #[.pointer (T ⟨g,0,Z⟩),G A c] w fun e w'=>e=.returned (.tuple #[])/\aH g p s u n o (fun t i=>l t i\/((t=0\/t=3)/\i=c)) m w w':=by
 have n0:o.bk 0 c=Z:=by
  cases I:o.bk 0 c with
  |none=>rfl
  |some k=>exact jY ((h.d 0 c).1 ⟨k,I⟩) h0
 have n3:o.bk 3 c=Z:=by
  cases I:o.bk 3 c with
  |none=>rfl
  |some k=>exact jY ((h.d 3 c).1 ⟨k,I⟩) h3
 obtain⟨a8,N,d6,b8,c6,c0⟩:=(h.mp 0 (by omega)).entry Eh underlying67 Cs hc n0;obtain⟨a9,P,d7,b9,c7,c5⟩:=(h.mp 3 (by omega)).entry Eh underlying67 Cs hc n3;have c8:o.om 0≠o.om 3:=fun q=>jY (h.oj 0 3 (by omega) (by omega) q) (by omega)
 have d1:=Ne.symm c8;have l0:=(h.mp 0 (by omega)).lt;have l3:=(h.mp 3 (by omega)).lt;have s0:g≠o.om 0:=fun q=>(h.mp 0 (by omega)).ne h.cI q.symm
 have s3:g≠o.om 3:=fun q=>(h.mp 3 (by omega)).ne h.cI q.symm
 obtain⟨p4,p7⟩:=h.cI.e2 4 7;have e5:=Ae h.cI;simp only[Hh,gR,gP,gQ]at p4 p7;unfold goInt at b8 c6 b9 c7;obtain⟨F1,a0⟩:∃F:World->World,F=fun a=>ChangeMaps.setBlock a (o.om 0) (.map (a8.push ⟨G A c,.map Z,N⟩) (N+1)):=⟨_,rfl⟩
 obtain⟨F2,a1⟩:∃F:Nat->World->World,F=fun x a=>ChangeMaps.setBlock a (o.om 0) (.map (a8.push ⟨G A c,.map (T x),N⟩) (N+1)):=⟨_,rfl⟩
 obtain⟨F3,a2⟩:∃F:World->World,F=fun a=>ChangeMaps.setBlock a (o.om 3) (.map (a9.push ⟨G A c,.map Z,P⟩) (P+1)):=⟨_,rfl⟩
 obtain⟨F4,a3⟩:∃F:Nat->World->World,F=fun x a=>ChangeMaps.setBlock a (o.om 3) (.map (a9.push ⟨G A c,.map (T x),P⟩) (P+1)):=⟨_,rfl⟩
 obtain⟨A0,b0⟩:∃a6:World->Prop,a6=fun a=>a.heap[o.om 0]? =T (.map a8 N)/\w.heap.size<=a.heap.size:=⟨_,rfl⟩
 obtain⟨R,a5⟩:∃a6:World->Prop,a6=fun a=>a.heap[o.om 3]? =T (.map a9 P)/\w.heap.size<=a.heap.size:=⟨_,rfl⟩
 obtain⟨B0,b2⟩:∃a6:World->Prop,a6=fun a=>a.heap[o.om 0]? =T (.map (a8.push ⟨G A c,.map Z,N⟩) (N+1))/\w.heap.size<=a.heap.size:=⟨_,rfl⟩
 obtain⟨B3,b3⟩:∃a6:World->Prop,a6=fun a=>a.heap[o.om 3]? =T (.map (a9.push ⟨G A c,.map Z,P⟩) (P+1))/\w.heap.size<=a.heap.size:=⟨_,rfl⟩
 have e1:∀a,A0 a->(Instr.mapEntry 67 (.map (T (o.om 0))) (G A c)).run prog a=.ok (.tuple #[.map Z,G A N]) (F1 a):=fun a b=>by rw[a0];rw[b0]at b;exact b8 a b.1
 have Q:∀a x,B0 a->(Instr.entryStore 67 (.map (T (o.om 0))) (G A N) (.map (T x))).run prog a=.ok () (F2 x a):=fun a x b=>by rw[a1];rw[b2]at b;exact c6 a _ b.1
 have L:∀a,R a->(Instr.mapEntry 67 (.map (T (o.om 3))) (G A c)).run prog a=.ok (.tuple #[.map Z,G A P]) (F3 a):=fun a b=>by rw[a2];rw[a5]at b;exact b9 a b.1
 have U:∀a x,B3 a->(Instr.entryStore 67 (.map (T (o.om 3))) (G A P) (.map (T x))).run prog a=.ok () (F4 x a):=fun a x b=>by rw[a3];rw[b3]at b;exact c7 a _ b.1
 have al:∀(a:World) (x:Obj) (k:Nat),k<w.heap.size->w.heap.size<=a.heap.size->(a.alloc x).heap[k]? =a.heap[k]? :=fun a x k K M=>iC _ _ _ (by omega)
 have z1:∀a,(F1 a).heap.size=a.heap.size:=fun a=>by rw[a0];exact JM _ _ _
 have z2:∀x a,(F2 x a).heap.size=a.heap.size:=fun x a=>by rw[a1];exact JM _ _ _
 have z3:∀a,(F3 a).heap.size=a.heap.size:=fun a=>by rw[a2];exact JM _ _ _
 have z4:∀x a,(F4 x a).heap.size=a.heap.size:=fun x a=>by rw[a3];exact JM _ _ _
 have V:A0 w:=by rw[b0];exact⟨d6,gS _⟩
 have X:∀a,A0 a->A0 a.drew:=fun a b=>by rw[b0]at b⊢;exact b
 have a4:∀a x,A0 a->A0 (a.alloc x):=fun a x b=>by rw[b0]at b⊢;exact⟨(al a x _ l0 b.2).trans b.1,by simp;omega⟩
 have a7:∀a,A0 a->B0 (F1 a):=fun a b=>by rw[b0]at b;rw[b2];refine⟨?_,by rw[z1];exact b.2⟩;rw[a0];exact Tv _ _ _ (by omega)
 have b1:∀a x,B0 a->B0 (a.alloc x):=fun a x b=>by rw[b2]at b⊢;exact⟨(al a x _ l0 b.2).trans b.1,by simp;omega⟩
 have C:R w:=by rw[a5];exact⟨d7,gS _⟩
 have r:∀a,R a->R a.drew:=fun a b=>by rw[a5]at b⊢;exact b
 have d2:∀a,B0 a->B0 a.drew:=fun a b=>by rw[b2]at b⊢;exact b
 have d3:∀a,B3 a->B3 a.drew:=fun a b=>by rw[b3]at b⊢;exact b
 have d:∀a x,R a->R (a.alloc x):=fun a x b=>by rw[a5]at b⊢;exact⟨(al a x _ l3 b.2).trans b.1,by simp;omega⟩
 have E:∀a,R a->R (F1 a):=fun a b=>by rw[a5]at b⊢;refine⟨?_,by rw[z1];exact b.2⟩;rw[a0];exact(Ex _ _ _ _ d1).trans b.1
 have H:∀x a,R a->R (F2 x a):=fun x a b=>by rw[a5]at b⊢;refine⟨?_,by rw[z2];exact b.2⟩;rw[a1];exact(Ex _ _ _ _ d1).trans b.1
 have S:∀a,R a->B3 (F3 a):=fun a b=>by rw[a5]at b;rw[b3];refine⟨?_,by rw[z3];exact b.2⟩;rw[a2];exact Tv _ _ _ (by omega)
 have b7:∀a x,B3 a->B3 (a.alloc x):=fun a x b=>by rw[b3]at b⊢;exact⟨(al a x _ l3 b.2).trans b.1,by simp;omega⟩
 have c1:∀a j,(F1 a).cell? ⟨g,j,Z⟩=a.cell? ⟨g,j,Z⟩:=fun a j=>by rw[a0];exact gT (Ex _ _ _ _ s0)
 have c2:∀x a j,(F2 x a).cell? ⟨g,j,Z⟩=a.cell? ⟨g,j,Z⟩:=fun x a j=>by rw[a1];exact gT (Ex _ _ _ _ s0)
 have c3:∀a j,(F3 a).cell? ⟨g,j,Z⟩=a.cell? ⟨g,j,Z⟩:=fun a j=>by rw[a2];exact gT (Ex _ _ _ _ s3)
 have c4:∀x a j,(F4 x a).cell? ⟨g,j,Z⟩=a.cell? ⟨g,j,Z⟩:=fun x a j=>by rw[a3];exact gT (Ex _ _ _ _ s3)
 have y1:=e1 _ (X _ V);have y2:=e1 _ (X _ (a4 _ (.map #[] 0) V));have y3:=e1 _ (X _ (a4 _ (.map #[] 0) (a4 _ (.map #[] 0) V)));have y4:=fun x=>Q _ x (b1 _ (.map #[] 0) (a7 _ (X _ V)))
 have y5:=fun x=>L _ (H x _ (d _ (.map #[] 0) (E _ (r _ C))))
 have y6:=fun x y=>U _ y (S _ (H x _ (d _ (.map #[] 0) (E _ (r _ C)))))
 have y7:=fun x=>L _ (d _ (.map #[] 0) (H x _ (d _ (.map #[] 0) (E _ (r _ C)))))
 have y8:=fun x y=>U _ y (S _ (d _ (.map #[] 0) (H x _ (d _ (.map #[] 0) (E _ (r _ C))))))
 have y9:=fun x y=>U _ y (b7 _ (.map #[] 0) (S _ (H x _ (d _ (.map #[] 0) (E _ (r _ C))))))
 have e6:=fun x=>Q _ x (b1 _ (.map #[] 0) (b1 _ (.map #[] 0) (a7 _ (X _ V))))
 have e7:=fun x=>L _ (H x _ (d _ (.map #[] 0) (d _ (.map #[] 0) (E _ (r _ C)))))
 have e8:=fun x y=>U _ y (S _ (H x _ (d _ (.map #[] 0) (d _ (.map #[] 0) (E _ (r _ C))))))
 have e9:=fun x=>Q _ x (a7 _ (X _ (a4 _ (.map #[] 0) V)))
 have f0:=fun x=>L _ (H x _ (E _ (r _ (d _ (.map #[] 0) C))))
 have f3:=fun x y=>U _ y (S _ (H x _ (E _ (r _ (d _ (.map #[] 0) C)))))
 have f4:=fun x=>L _ (d _ (.map #[] 0) (H x _ (E _ (r _ (d _ (.map #[] 0) C)))))
 have f5:=fun x y=>U _ y (S _ (d _ (.map #[] 0) (H x _ (E _ (r _ (d _ (.map #[] 0) C))))))
 have f6:=fun x y=>U _ y (b7 _ (.map #[] 0) (S _ (H x _ (E _ (r _ (d _ (.map #[] 0) C))))))
 have f7:=fun x=>Q _ x (b1 _ (.map #[] 0) (a7 _ (X _ (a4 _ (.map #[] 0) V))))
 have f8:=fun x=>L _ (H x _ (d _ (.map #[] 0) (E _ (r _ (d _ (.map #[] 0) C)))))
 have f9:=fun x y=>U _ y (S _ (H x _ (d _ (.map #[] 0) (E _ (r _ (d _ (.map #[] 0) C))))))
 have g0:=fun x=>Q _ x (a7 _ (X _ (a4 _ (.map #[] 0) (a4 _ (.map #[] 0) V))))
 have g9:=fun x=>L _ (H x _ (E _ (r _ (d _ (.map #[] 0) (d _ (.map #[] 0) C)))))
 have h4:=fun x y=>U _ y (S _ (H x _ (E _ (r _ (d _ (.map #[] 0) (d _ (.map #[] 0) C))))))
 have o1:∀(a:World),O (fun k=>k=o.om 0\/k=o.om 3) w a->O (fun k=>k=o.om 0\/k=o.om 3) w (F1 a):=fun a b=>by rw[a0];exact b.setB (.inl rfl)
 have m1:∀(a:World) (f:Nat),w.heap.size<=f->a.heap[f]? =T (.map #[] 0)->(F1 a).heap[f]? =T (.map #[] 0):=fun a f K M=>by rw[a0];exact(Ex _ _ _ _ (by omega)).trans M
 have o2:∀(x:Nat) (a:World),O (fun k=>k=o.om 0\/k=o.om 3) w a->O (fun k=>k=o.om 0\/k=o.om 3) w (F2 x a):=fun x a b=>by rw[a1];exact b.setB (.inl rfl)
 have m2:∀(x:Nat) (a:World) (f:Nat),w.heap.size<=f->a.heap[f]? =T (.map #[] 0)->(F2 x a).heap[f]? =T (.map #[] 0):=fun x a f K M=>by rw[a1];exact(Ex _ _ _ _ (by omega)).trans M
 have o3:∀(a:World),O (fun k=>k=o.om 0\/k=o.om 3) w a->O (fun k=>k=o.om 0\/k=o.om 3) w (F3 a):=fun a b=>by rw[a2];exact b.setB (.inr rfl)
 have m3:∀(a:World) (f:Nat),w.heap.size<=f->a.heap[f]? =T (.map #[] 0)->(F3 a).heap[f]? =T (.map #[] 0):=fun a f K M=>by rw[a2];exact(Ex _ _ _ _ (by omega)).trans M
 have q3:∀(a:World) v,a.heap[o.om 0]? =v->(F3 a).heap[o.om 0]? =v:=fun a v M=>by rw[a2];exact(Ex _ _ _ _ c8).trans M
 have o4:∀(x:Nat) (a:World),O (fun k=>k=o.om 0\/k=o.om 3) w a->O (fun k=>k=o.om 0\/k=o.om 3) w (F4 x a):=fun x a b=>by rw[a3];exact b.setB (.inr rfl)
 have m4:∀(x:Nat) (a:World) (f:Nat),w.heap.size<=f->a.heap[f]? =T (.map #[] 0)->(F4 x a).heap[f]? =T (.map #[] 0):=fun x a f K M=>by rw[a3];exact(Ex _ _ _ _ (by omega)).trans M
 have q4:∀(x:Nat) (a:World) v,a.heap[o.om 0]? =v->(F4 x a).heap[o.om 0]? =v:=fun x a v M=>by rw[a3];exact(Ex _ _ _ _ c8).trans M
 have q2:∀f a,w.heap.size<=a.heap.size->(F2 f a).heap[o.om 0]? =T (.map (a8.push ⟨G A c,.map (T f),N⟩) (N+1)):=fun f a K=>by rw[a1];exact Tv _ _ _ (by omega)
 have r4:∀f a,w.heap.size<=a.heap.size->(F4 f a).heap[o.om 3]? =T (.map (a9.push ⟨G A c,.map (T f),P⟩) (P+1)):=fun f a K=>by rw[a3];exact Tv _ _ _ (by omega)
 have qa:∀(a:World) v,w.heap.size<=a.heap.size->a.heap[o.om 0]? =v->(a.alloc (.map #[] 0)).heap[o.om 0]? =v:=fun a v K M=>(al a _ _ l0 K).trans M
 have b5:∀(a:World) (f:Nat),f=a.heap.size->(a.alloc (.map #[] 0)).heap[f]? =T (.map #[] 0):=fun a f K=>by rw[K];exact heap_alloc_new a _
 have ma:∀(a:World) (f:Nat),a.heap[f]? =T (.map #[] 0)->(a.alloc (.map #[] 0)).heap[f]? =T (.map #[] 0):=fun a f K=>(iC _ _ _ (lt_of_block K)).trans K
 have md:∀(a:World) (f:Nat),a.heap[f]? =T (.map #[] 0)->a.drew.heap[f]? =T (.map #[] 0):=fun a f K=>K
 have d0:∀(a:World) (f1 f2:Nat),O (fun k=>k=o.om 0\/k=o.om 3) w a->a.heap[f1]? =T (.map #[] 0)->a.heap[f2]? =T (.map #[] 0)->f1≠f2->w.heap.size<=f1->w.heap.size<=f2->a.heap[o.om 0]? =T (.map (a8.push ⟨G A c,.map (T f1),N⟩) (N+1))->a.heap[o.om 3]? =T (.map (a9.push ⟨G A c,.map (T f2),P⟩) (P+1))->aH g p s u n o (fun t i=>l t i\/((t=0\/t=3)/\i=c)) m w a:=fun a f1 f2 g1 g2 g3 g4 g5 g6 g7 g8=>by
  obtain⟨nb,b4⟩:∃nb:Nat->Nat->Option Nat,nb=fun t i=>if i=c then(if t=0 then T f1 else if t=3 then T f2 else Z)else Z:=⟨_,rfl⟩
  have b6:∀t i f,nb t i=T f->(t=0/\i=c/\f=f1)\/(t=3/\i=c/\f=f2):=fun t i f I=>by
   rw[b4]at I;dsimp only at I;split at I
   .next e=>
    split at I
    .next Q=>cases I;exact .inl ⟨Q,e,rfl⟩
    .split at I
     .next L=>cases I;exact .inr ⟨L,e,rfl⟩
     .cases I
   .cases I
  have d4:=c0 f1 trivial a g7;have d5:=c5 f2 trivial a g8;refine⟨o.gr nb,h.grow (fun t i f I=>?_) (fun t i t' i' f I d8=>?_) (fun t ht=>?_) (g1.mono fun k _ q=>q.elim (fun q=>⟨0,by omega,q⟩) fun q=>⟨3,by omega,q⟩) (fun t i=>?_)⟩
  .rcases b6 t i f I with⟨rfl,rfl,rfl⟩|⟨rfl,rfl,rfl⟩
   .exact⟨by omega,g5,OE g2,fun q=>by omega⟩
   .exact⟨by omega,g6,OE g3,fun q=>by omega⟩
  .rcases b6 t i f I with⟨rfl,rfl,e⟩|⟨rfl,rfl,e⟩<;>rcases b6 t' i' f d8 with⟨rfl,rfl,e'⟩|⟨rfl,rfl,e'⟩
   .exact⟨rfl,rfl⟩
   .exact jY (e.symm.trans e') g4
   .exact jY (e'.symm.trans e) g4
   .exact⟨rfl,rfl⟩
  .by_cases e0:t=0
   .subst e0;refine d4.ext fun x=>?_
    unfold So.gr;dsimp only;rw[b4];dsimp only;by_cases e:x=c
    .rw[jR e,jR e,jR rfl]
    .rw[jQ e,jQ e]
   .by_cases L:t=3
    .subst L;refine d5.ext fun x=>?_
     unfold So.gr;dsimp only;rw[b4];dsimp only;by_cases e:x=c
     .rw[jR e,jR e,jQ (by omega),jR rfl]
     .rw[jQ e,jQ e]
    .have:(o.gr nb).bk t=o.bk t:=funext fun x=>by
      unfold So.gr;dsimp only;rw[b4];dsimp only;by_cases e:x=c
      .rw[jR e,jQ e0,jQ L]
      .rw[jQ e]
     rw[this]
     exact(h.mp t ht).d8 g1 fun q=>q.elim (fun q=>e0 (h.oj t 0 (by omega) (by omega) q)) fun q=>L (h.oj t 3 (by omega) (by omega) q)
  .constructor
   .rintro(q|⟨q1,q2⟩)
    .exact .inl q
    .rw[b4];rcases q1 with rfl|rfl
     .exact .inr ⟨f1,by simp[q2]⟩
     .exact .inr ⟨f2,by simp[q2]⟩
   .rintro(q|⟨f,q⟩)
    .exact .inl q
    .rcases b6 t i f q with⟨e1,Q,_⟩|⟨e1,Q,_⟩
     .exact .inr ⟨.inl e1,Q⟩
     .exact .inr ⟨.inr e1,Q⟩
 have c9:=J d0;have d9:=@run_makeMap prog;obtain⟨HH,H1,H2,H3,H4,M0,M3⟩:=Wk h a0 a1 a2 a3 c0 c5;clear e1 Q L U V a4 X r C d E H a7 b1 d2 S b7 d3;obtain⟨OO,MM,QQ⟩:=Ax (And.intro o1 (And.intro o2 (And.intro o3 o4))) (And.intro m1 (And.intro m2 (And.intro m3 (And.intro m4 (And.intro b5 (And.intro ma md)))))) (And.intro q2 (And.intro q3 (And.intro q4 (And.intro qa r4))));clear d0 o1 o2 o3 o4 m1 m2 m3 m4 b5 ma md q2 q3 q4 qa r4 h a0 a1 a2 a3 b0 a5 b2 b3 b8 b9 c6 c7 c0 c5 al;go_enter func84,ntmps84;go_region_held3(fun w'=>w'.cell? ⟨g,4,Z⟩=T (.map (T (o.om 0)))/\w'.cell? ⟨g,7,Z⟩=T (.map (T (o.om 3)))) (go_keep) (fail);all_goals
  go_wp2_with fail;go_end0;refine⟨rfl,?_⟩;obtain⟨o1,o2,o3,o4⟩:=OO.o;obtain⟨m1,m2,m3,m4,b5,ma,md⟩:=MM.o;obtain⟨q2,q3,q4,qa,r4⟩:=QQ.o;clear y1 y2 y3 y4;first
   |refine c9.o _ w.heap.size (w.heap.size+1) ?_ ?_ ?_ ?_ ?_ ?_ ?g7 (r4 (w.heap.size+1) _ (by simp[z1,z2,z3]<;>omega))
   |refine c9.o _ (w.heap.size+1) w.heap.size ?_ ?_ ?_ ?_ ?_ ?_ ?g7 (r4 w.heap.size _ (by simp[z1,z2,z3]<;>omega))
  case g7=>repeat(first|exact q2 _ _ (by simp[z1]<;>omega)|refine q3 _ _ ?_|refine q4 _ _ _ ?_|refine qa _ _ (by simp[z1,z2,z3]<;>omega) ?_)
  .repeat(first|exact O.refl _ _|refine o1 _ ?_|refine o2 _ _ ?_|refine o3 _ ?_|refine o4 _ _ ?_|refine O.alloc ?_ _|refine O.drew ?_)
  .repeat(first|refine m1 _ _ (by omega) ?_|refine m2 _ _ _ (by omega) ?_|refine m3 _ _ (by omega) ?_|refine m4 _ _ _ (by omega) ?_|refine md _ _ ?_|(refine b5 _ _ ?_;(simp[z1,z2,z3];done))|refine ma _ _ ?_)
  .repeat(first|refine m1 _ _ (by omega) ?_|refine m2 _ _ _ (by omega) ?_|refine m3 _ _ (by omega) ?_|refine m4 _ _ _ (by omega) ?_|refine md _ _ ?_|(refine b5 _ _ ?_;(simp[z1,z2,z3];done))|refine ma _ _ ?_)
  .omega
  .omega
  .omega
structure Di(b:Nat)(v:Value)(u p m:Nat)(o z:So)(l d:Nat->Nat->Prop)(w B:World):Prop where
 c:Ec b v u p m z l d B
 ow:∀k,z.own b k->o.own b k\/w.heap.size<=k
 on:O (o.own b) w B
section
variable{P:List PFn}{b:Nat}{v:Value}{u p m:Nat}{o z E:So}{l C d F:Nat->Nat->Prop}{w B w2:World}
theorem Di.rf(h:Ec b v u p m o l d w):Di b v u p m o o l d w w:=⟨h,fun _ q=>.inl q,O.refl _ _⟩
theorem Di.trans(h:Di b v u p m o z l d w B)(k:Di b v u p m z E C F B w2):Di b v u p m o E C F w w2:=
 ⟨k.c,fun j a=>(k.ow j a).elim (h.ow j) fun q=>.inr (iG h.on.size q),h.on.thn k.on fun j a q=>(h.ow j q).elim id fun r=>jY r (by omega)⟩
theorem Di.s9(h:Di b v u p m o z l d w B)(k:O kJ B w2):Di b v u p m o z l d w w2:=⟨h.c.d8 k (fun _ q=>q.elim),h.ow,h.on.dM k⟩
theorem Ec.iff(h:Ec b v u p m o l d w)(a:∀t i,l t i↔C t i)(c:∀i x,d i x↔F i x):Ec b v u p m o C F w:=by rw[<-show l=C from funext fun t=>funext fun i=>propext (a t i),<-show d=F from funext fun t=>funext fun i=>propext (c t i)];exact h
theorem Di.iff(h:Di b v u p m o z l d w B)(a:∀t i,l t i↔C t i)(c:∀i x,d i x↔F i x):Di b v u p m o z C F w B:=⟨h.c.iff a c,h.ow,h.on⟩
theorem Ec.noPlan(h:Ec b v u p m o l d w):N7 (o.own b) w:=fun k c t f a q=>by
 rcases h.kind a with⟨_,_,e⟩|⟨_,e⟩
 .rw[e]at q;cases q
 .rw[e]at q;cases q;decide
theorem Ec.ret(h:Ec b v u p m o l d w){f k y}(a:o.bk 4 f=T k)(L:Bn k (fun x=>d f x\/x=y) B)(s:O (fun j=>j=k) w B):Di b v u p m o o l (fun i x=>d i x\/(i=f/\x=y)) w B:=by
 obtain⟨Q,c,M⟩:=(h.st 4 f k a).isMap;have P:b≠k:=fun q=>by have H:=h.cI;unfold W at H;rw[q,M]at H;cases H
 refine⟨{h with cI:=h.cI.d8 s P,mp:=fun g N=>(h.mp g N).d8 s (fun q=>h.ne 4 f k g a (by omega) q.symm),st:=fun g I K t=>?_,fm:=h.fm.d8 s (fun q=>h.ne 4 f k 5 a (by omega) q.symm)},fun _ q=>.inl q,s.mono fun j _ q=>by rw[q];exact .inr (.inr (.inl ⟨4,f,a⟩))⟩;by_cases e:g=4/\I=f
 .obtain⟨rfl,rfl⟩:=e;rw[a]at t;cases t;exact L.iff fun n=>by simp
 .have:K≠k:=fun q=>e (h.dj g I 4 f k (q▸t) a)
  refine((h.st g I K t).d8 s this).iff fun n=>⟨fun q=>⟨q.1,.inl q.2⟩,fun q=>⟨q.1,q.2.elim id fun r=>jY ⟨q.1,r.1⟩ e⟩⟩
theorem Ec.one(h:Ec b v u p m o l d w){t i f}(I:t<=4)(R:w.heap.size<=f)(U:B.heap[f]? =T (.map #[] 0))(S:BW IU IT (o.om t) (fun x=>if x=i then T f else o.bk t x) B)(H:O (fun k=>k=o.om t) w B)(V:t=4->∀x,¬d i x):
 ∃z,Di b v u p m o z (fun a j=>l a j\/(a=t/\j=i)) d w B:=by
 obtain⟨r,s⟩:∃r:Nat->Nat->Option Nat,r=fun a j=>if a=t/\j=i then T f else Z:=⟨_,rfl⟩
 have y:∀a j g,r a j=T g->a=t/\j=i/\g=f:=fun a j g n=>by
  rw[s]at n;dsimp only at n;split at n
  .next e=>cases n;exact⟨e.1,e.2,rfl⟩
  .cases n
 obtain⟨c,ow,on⟩:=h.grow (nb:=r) (Dm':=fun a j=>l a j\/(a=t/\j=i)) (w':=B) (fun a j g n=>by
  obtain⟨rfl,rfl,rfl⟩:=y a j g n;exact⟨I,R,OE U,V⟩) (fun t1 i1 t2 i2 g P Q=>by
  obtain⟨K,L,_⟩:=y _ _ _ P;obtain⟨M,N,_⟩:=y _ _ _ Q;exact⟨K.trans M.symm,L.trans N.symm⟩) (fun a X=>by
  by_cases e:a=t
  .subst e;refine S.ext fun x=>?_
   unfold So.gr;dsimp only;rw[s];dsimp only;by_cases e:x=i
   .rw[jR e,jR ⟨rfl,e⟩]
   .rw[jQ e,jQ (fun q=>e q.2)]
  .have:(o.gr r).bk a=o.bk a:=funext fun x=>by unfold So.gr;dsimp only;rw[s];dsimp only;rw[jQ (fun q=>e q.1)]
   rw[this]
   exact(h.mp a X).d8 H fun q=>e (h.oj a t (by omega) (by omega) q)) (H.mono fun k _ q=>⟨t,I,q⟩) (fun a j=>by
  rw[s];constructor
  .rintro(q|q)
   .exact .inl q
   .exact .inr ⟨f,by simp[q]⟩
  .rintro(q|⟨g,q⟩)
   .exact .inl q
   .dsimp only at q;split at q
    .next e=>exact .inr e
    .cases q)
 exact⟨_,c,ow,on⟩
end
theorem KW(P b v u p m o l d w)(a0:AnOk P p m)(h:Ec b v u p m o l d w)(hp:Bx 0 w v P)(f:Nat)(hf:f<P.length)(hD:∀i,i<12->¬l 0 (vN f i)/\¬l 3 (vN f i))(hR:∀x,¬d f x):
 Calls prog 83 #[.pointer (T ⟨b,0,Z⟩),G A f] w fun e w'=>e=.returned (.tuple #[])/\
  ∃o',Di b v u p m o o' (fun t i=>l t i\/((t=0\/t=3)/\∃j,j<(As P f).t8.length/\i=vN f j)\/(t=4/\i=f)) (fun i x=>d i x\/(i=f/\Fq P f x)) w w':=by
 obtain⟨r,R,rfl,d5⟩:=hp.form (by omega);obtain⟨vv,sv,b0,b5,a7⟩:=hp.get hf;obtain⟨sa,sc,rfl,b3⟩:=a7.form;obtain⟨va,vl,vc,rfl⟩:=Ad b5;have d4:=Ag b5;have c1:=b0 1 (by omega);simp only[OA,gP,gQ]at c1;have b2:As P f=P[f]:=by unfold As;rw[gV hf];rfl
 rw[<-b2]at d4 a7 b3;subst d4;have g1:=a0.dC;have g5:=a0.ok.t8 f;have g3:=a0.ok.many f;have p0:=h.cI.cell 0;have a8:=Ae h.cI;simp only[Hh,gR,gP]at p0;have g2:(f:Int)<(P.length:Int):=by omega
 obtain⟨HA,HP,e6,e4,HC,HD,HR,e3⟩:=En a0 hp a7 b3 h hD hR b2;have e2:=J b0;have M0:D (Di b (Y (T ⟨r,0,Z⟩) P.length R) u p m o o (fun t i=>l t i\/((t=0\/t=3)/\∃j,j<0/\i=vN f j)) d w w):=(Di.rf h).iff (fun t i=>⟨.inl,fun q=>q.elim id fun⟨_,j,q,_⟩=>by omega⟩) (fun _ _=>Iff.rfl);clear h hp a7 b3 hD hR b2 b5 b0 a0;go_enter func83,ntmps83;go_wp2_with fail;clear p0 c1 a8;go_loopw[17] (fun i wr=>∃(k:Nat) (z:So),k<=(As P f).t8.length/\i=G A k/\D (Di b (Y (T ⟨r,0,Z⟩) P.length R) u p m o z (fun t i=>l t i\/((t=0\/t=3)/\∃j,j<k/\i=vN f j)) d w wr)) (fun i _=>(As P f).t8.length-(intOf i).toNat)
 case atStart=>exact⟨0,o,by omega,rfl,M0⟩
 case round=>
  clear M0;obtain⟨k,z,hk,rfl,M⟩:=hrel;by_cases f0:k<(As P f).t8.length
  .have e9:(k:Int)<((As P f).t8.length:Int):=by omega
   have e8:k+1<=(As P f).t8.length:=f0;have b4:vN f k<20000:=by unfold vN;omega
   have a6:∀t,t=0\/t=3->¬(l t (vN f k)\/((t=0\/t=3)/\∃j,j<k/\vN f k=vN f j)):=fun t ht q=>by
    rcases q with q|⟨_,j,g,H⟩
    .have:=HD.o k (by omega);rcases ht with rfl|rfl
     .exact this.1 q
     .exact this.2 q
    .unfold vN at H;omega
   have b6:=J a6;clear a6;go_wp2_with(first|(go_at_call 119;refine(Fu f k _ (by omega) (by omega)).mono ?_;rintro e w' ⟨rfl,hw⟩;have hw:=hw.symm;subst hw));refine(Kw b _ u p m z _ d wr (vN f k) M.o.c b4 (b6.o 0 (.inl rfl)) (b6.o 3 (.inr rfl))).mono ?_;rintro e w2 ⟨rfl,E,c2,d8,d7⟩;have Q:D (Di b (Y (T ⟨r,0,Z⟩) P.length R) u p m o E (fun t i=>l t i\/((t=0\/t=3)/\∃j,j<k+1/\i=vN f j)) d w w2):=(M.o.trans ⟨c2,d8,d7⟩).iff (fun t i=>by
    constructor
    .rintro((q|⟨g,j,H,n⟩)|⟨g,H⟩)
     .exact .inl q
     .exact .inr ⟨g,j,by omega,n⟩
     .exact .inr ⟨g,k,by omega,H⟩
    .rintro(q|⟨g,j,H,n⟩)
     .exact .inl (.inl q)
     .by_cases e:j=k
      .subst e;exact .inr ⟨g,n⟩
      .exact .inl (.inr ⟨g,j,by omega,n⟩)) (fun _ _=>Iff.rfl)
   clear c2 d8 d7 M;go_wp2_with fail;go_roundw
   case rel=>exact⟨k+1,E,e8,by go_num,Q⟩
   case measure=>simp[intOf];omega
  .have e:k=(As P f).t8.length:=by omega
   subst e;have e9:decide (((As P f).t8.length:Int)<((As P f).t8.length:Int))=false:=by simp
   have p9:=M.o.c.cI.cell 9;have a8:=Ae M.o.c.cI;simp only[Hh,gR,gP,gQ]at p9;have f1:=@run_makeMap prog;have oa:O kJ wr (wr.alloc (.map #[] 0)):=(O.refl _ wr).alloc _;obtain⟨w2,d2,c9,b1⟩:=(((M.o.c.mp 4 (by omega)).d8 oa id)).put Eh underlying67 (k:=f) (a:=wr.heap.size) (by omega) trivial;unfold Hd at d2;have n4:wr.heap.size≠z.om 4:=fun q=>by have:=M.o.c.ownLt (k:=z.om 4) (.inr (.inl ⟨4,by omega,rfl⟩));omega
   have d0:w2.heap[wr.heap.size]? =T (.map #[] 0):=(b1.block _ (by simp) n4).trans (heap_alloc_new wr _);obtain⟨E,s2⟩:=M.o.c.one (t:=4) (i:=f) (by omega) (gS _) d0 c9 ((oa.mono (fun _ _ q=>q.elim)).trans b1) (fun _=>HR.o);have b8:¬o.own b r:=fun q=>by obtain⟨cs,f9,_⟩:=HP.o;obtain⟨g0,e⟩:=DU f9;rcases HC.o.kind q with⟨_,_,e'⟩|⟨_,e'⟩<;>rw[e]at e'<;>cases e'
   have Q:D (Di b (Y (T ⟨r,0,Z⟩) P.length R) u p m o E (fun t i=>l t i\/((t=0\/t=3)/\∃j,j<(As P f).t8.length/\i=vN f j)\/(t=4/\i=f)) (fun i x=>d i x\/(i=f/\∃s c,c<0/\(As P f).r9[c]? =T s/\s.kind=10/\x=vN f s.cM)) w w2):=(M.o.trans s2).iff (fun t i=>by
    constructor
    .rintro((q|q)|q)
     .exact .inl q
     .exact .inr (.inl q)
     .exact .inr (.inr q)
    .rintro(q|q|q)
     .exact .inl (.inl q)
     .exact .inl (.inr q)
     .exact .inr q) (fun i x=>⟨.inl,fun q=>q.elim id fun⟨_,_,_,q,_⟩=>by omega⟩)
   have c3:w2.cell? ⟨r,f*4+3,Z⟩=T (Y sa (As P f).r9.length sc):=by rw[gT (Q.o.on.block r d5 b8),e2.o 3 (by omega)];simp only[OA,gP,gQ];rw[e3.o]
   have f4:r<w2.heap.size:=iI d5 Q.o.on.size;have d9:=Q.o.c.cI.cell 0;have f6:=Ae Q.o.c.cI;simp only[Hh,gR,gP]at d9;clear d0 c9 b1 s2 M oa;go_wp2_with fail;clear p9 a8 d2 c3 d9 f6 f1 f4 b8;go_loopw[42] (fun i wi=>∃(j:Nat) (K:So),j<=(As P f).r9.length/\i=G A j/\D (Di b (Y (T ⟨r,0,Z⟩) P.length R) u p m o K (fun t i=>l t i\/((t=0\/t=3)/\∃j,j<(As P f).t8.length/\i=vN f j)\/(t=4/\i=f)) (fun i x=>d i x\/(i=f/\∃s c,c<j/\(As P f).r9[c]? =T s/\s.kind=10/\x=vN f s.cM)) w wi)) (fun i _=>(As P f).r9.length-(intOf i).toNat)
   case atStart=>exact⟨0,E,by omega,rfl,Q⟩
   case round=>
    clear Q;obtain⟨j,K,hj,rfl,a1⟩:=hrel;by_cases a5:j<(As P f).r9.length
    .obtain⟨gs,rfl,d6⟩:=e4.o (by omega);have d3:=e6.o.d8 a1.o.on HC.o.noPlan;have f5:gs<wr.heap.size:=iI d6 a1.o.on.size;obtain⟨av,N,hI⟩:=d3.get a5;have c0:=N 0 (by omega);have c1:=N 1 (by omega);have c2:=N 2 (by omega);have c3:=N 3 (by omega);have c4:=N 4 (by omega);have c5:=N 5 (by omega);have c6:=N 6 (by omega);have c7:=N 7 (by omega);simp only[Kr,gP,gQ,iH]at c0 c1 c2 c3 c4 c5 c6 c7;have f2:=HA.o.ok.ok f hf _ (iA a5);have HG:=J (gV a5);have e7:(j:Int)<((As P f).r9.length:Int):=by omega
     have c8:j+1<=(As P f).r9.length:=a5;obtain⟨aa,al,ac,rfl⟩:=Ad hI;clear d3 N hI d6;generalize (As P f).r9[j]=s at*;have oa:O kJ wr (wr.alloc (.cells #[G A s.kind,G A s.cY,G A s.cM,G A s.field,G A s.cK,Y aa al ac,G A s.next,G A s.taken] 189)):=(O.refl _ wr).alloc _;have a4:=W.new wr #[G A s.kind,G A s.cY,G A s.cM,G A s.field,G A s.cK,Y aa al ac,G A s.next,G A s.taken] 189;have b7:=a1.o.s9 oa;have a6:¬K.own b wr.heap.size:=fun q=>by have:=a1.o.c.ownLt q;omega
     go_upto_region 9 with fail;generalize wr.alloc (.cells #[G A s.kind,G A s.cY,G A s.cM,G A s.field,G A s.cK,Y aa al ac,G A s.next,G A s.taken] 189)=X at*;generalize wr.heap.size=tb at*;obtain⟨t0,t2⟩:=a4.e2 0 2;have g6:=Ae a4;simp only[gR,gP,gQ]at t0 t2;have I:=J b7;have e1:=J a4;clear c0 c1 c2 c3 c4 c5 c6 c7 b7 a4 oa f5;by_cases a2:s.kind=10
     .have f3:(((s.kind:Nat):Int)==10)=true:=by rw[a2];rfl
      have g4:=f2.sr (by omega);obtain⟨S,a3⟩:=(I.o.c.d 4 f).2 (.inr (.inr ⟨rfl,rfl⟩));have e0:=J a2;have b4:vN f s.cM<19200:=by unfold vN;omega
      have p9:=I.o.c.cI.cell 9;have a8:=Ae I.o.c.cI;simp only[Hh,gR,gP,gQ]at p9;have od:O kJ X X.drew:=(O.refl _ X).drew;have l9:=(((I.o.c.mp 4 (by omega)).d8 od id).look Eh underlying67 (Cs X.drew) (k:=f) (by omega) false).2 S a3;unfold Hd at l9;have d1:=((I.o.c.st 4 f S a3).d8 od id).iff (m':=fun x=>(d f x\/(f=f/\∃s c,c<j/\(As P f).r9[c]? =T s/\s.kind=10/\x=vN f s.cM))) fun x=>by simp
      have e5:=J d1;have f7:b≠S:=fun q=>by obtain⟨_,_,e⟩:=(I.o.c.st 4 f S a3).isMap;have hb:=I.o.c.cI;unfold W at hb;rw[q,e]at hb;cases hb
      have f8:tb≠S:=fun q=>a6 (q▸.inr (.inr (.inl ⟨4,f,a3⟩)))
      have HS:D (∀W6,O (fun k=>k=S) X W6->W6.cell? ⟨b,9,Z⟩=T (.map (T (K.om 4)))/\W6.cell? ⟨tb,2,Z⟩=T (G A s.cM)):=fun W6 h6=>by have r1:=(I.o.c.cI.d8 h6 f7).cell 9;have r2:=(e1.o.d8 h6 f8).cell 2;simp only[Hh,gR,gP,gQ]at r1 r2;exact⟨r1,r2⟩
      clear a2 d1 od;go_wp2_with fail;go_region_held3(fun w'=>w'.cell? ⟨b,9,Z⟩=T (.map (T (K.om 4)))/\w'.cell? ⟨tb,2,Z⟩=T (G A s.cM)) (go_keep)
       (first
         |(go_at_call 119;refine(Fu f s.cM _ (by omega) (by omega)).mono ?_;rintro e w' ⟨rfl,hw⟩;have hw:=hw.symm;subst hw)
         |(go_at_call 91;refine(Gp S _ (vN f s.cM) _ e5.o b4).mono ?_;rintro e w6 ⟨rb,rfl,_,s6,o6⟩;have S6:=J s6;have O6:=J ((O.drew (O.refl (fun k=>k=S) X)).trans o6);clear s6 o6;obtain⟨r1,r2⟩:=HS.o w6 O6.o))
      all_goals
       have a9:D (Di b (Y (T ⟨r,0,Z⟩) P.length R) u p m o K (fun t i=>l t i\/((t=0\/t=3)/\∃j,j<(As P f).t8.length/\i=vN f j)\/(t=4/\i=f)) (fun i x=>d i x\/(i=f/\∃s c,c<j+1/\(As P f).r9[c]? =T s/\s.kind=10/\x=vN f s.cM)) w w6):=(I.o.trans (I.o.c.ret (y:=vN f s.cM) a3 (S6.o.iff fun x=>by simp) O6.o)).iff (fun _ _=>Iff.rfl) (fun i x=>by
        constructor
        .rintro((q|⟨g,L,c,H,n⟩)|⟨g,H⟩)
         .exact .inl q
         .exact .inr ⟨g,L,c,by omega,n⟩
         .exact .inr ⟨g,s,j,by omega,HG.o,e0.o,H⟩
        .rintro(q|⟨g,L,c,H,n,U,V⟩)
         .exact .inl (.inl q)
         .by_cases e:c=j
          .subst e;rw[HG.o]at n;cases n;exact .inr ⟨g,V⟩
          .exact .inl (.inr ⟨g,L,c,by omega,n,U,V⟩))
       clear S6 O6;go_wp2_with fail;go_roundw
       case rel=>exact⟨j+1,K,c8,by go_num,a9⟩
       case measure=>simp[intOf];omega
     .have f3:(((s.kind:Nat):Int)==10)=false:=by simp;omega
      have a9:D (Di b (Y (T ⟨r,0,Z⟩) P.length R) u p m o K (fun t i=>l t i\/((t=0\/t=3)/\∃j,j<(As P f).t8.length/\i=vN f j)\/(t=4/\i=f)) (fun i x=>d i x\/(i=f/\∃s c,c<j+1/\(As P f).r9[c]? =T s/\s.kind=10/\x=vN f s.cM)) w X):=I.o.iff (fun _ _=>Iff.rfl) (fun i x=>by
       constructor
       .rintro(q|⟨g,L,c,H,n⟩)
        .exact .inl q
        .exact .inr ⟨g,L,c,by omega,n⟩
       .rintro(q|⟨g,L,c,H,n,U,V⟩)
        .exact .inl q
        .by_cases e:c=j
         .subst e;rw[HG.o]at n;cases n;exact jY U a2
         .exact .inr ⟨g,L,c,by omega,n,U,V⟩)
      clear a2;go_wp2_with fail;go_roundw
      case rel=>exact⟨j+1,K,c8,by go_num,a9⟩
      case measure=>simp[intOf];omega
    .have e:j=(As P f).r9.length:=by omega
     subst e;have e7:decide (((As P f).r9.length:Int)<((As P f).r9.length:Int))=false:=by simp
     have HX:D (Di b (Y (T ⟨r,0,Z⟩) P.length R) u p m o K (fun t i=>l t i\/((t=0\/t=3)/\∃j,j<(As P f).t8.length/\i=vN f j)\/(t=4/\i=f)) (fun i x=>d i x\/(i=f/\Fq P f x)) w wr):=a1.o.iff (fun _ _=>Iff.rfl) (fun i x=>by
      constructor
      .rintro(q|⟨g,L,c,H,n,U,V⟩)
       .exact .inl q
       .exact .inr ⟨g,L,List.mem_of_getElem? n,U,V⟩
      .rintro(q|⟨g,L,n,U,V⟩)
       .exact .inl q
       .obtain⟨c,b9,e⟩:=iP.1 n;exact .inr ⟨g,L,c,b9,by rw[gV b9,e],U,V⟩)
     go_wp2_with fail;go_end0;exact⟨rfl,K,HX.o⟩
def Sv.zero:Sv:=⟨⟨fun _ _=>False,fun _ _=>False,fun _ _=>False⟩,fun _ _=>False,fun _ _=>False⟩
theorem Y3(P:List PFn)(X):BQ P X Sv.zero:=⟨⟨fun _ _ q=>q.elim,fun _ _ q=>q.elim,fun _ _ q=>q.elim⟩,fun _ _ q=>q.elim,fun _ _ _ q=>q.elim,fun _ _ _ q=>q.elim⟩
theorem Y4(P:List PFn){o:So}(h:∀c,o.rl c=[]):Ph P o Sv.zero (fun _=>False) 0:=⟨fun _ _ q=>q.elim,Y3 P _,fun _ _ q=>q.elim,fun _ q=>q.elim,fun c=>by rw[h];exact gS _⟩
def So.ini(n:Nat):So:=⟨fun t=>if t=4 then n+6 else if t=5 then n+5 else n+1+t,fun _ _=>Z,fun _=>Z,fun _=>[]⟩
theorem So.ini_inj{n t a:Nat}(_ht:t<=5)(_ht':a<=5)(h:(So.ini n).om t=(So.ini n).om a):t=a:=by unfold So.ini at h;dsimp only at h;split at h<;>split at h<;>(try split at h)<;>(try split at h)<;>omega
theorem So.ini_own{n a k:Nat}(h:(So.ini n).own a k)(b:a=n+7):n<k/\k<=n+7:=by
 rcases h with q|⟨t,d,q⟩|⟨t,i,q⟩|⟨c,t,q,_⟩
 .omega
 .unfold So.ini at q;dsimp only at q;split at q
  .omega
  .split at q<;>omega
 .cases q
 .cases q
theorem Ec.ini{n:Nat}{g:Value}{j l f:Nat}{w:World}(o:W (n+7) (Hh (So.ini n) g j l f) 120 w)(h:∀k,n<k->k<=n+6->w.heap[k]? =T (.map #[] 0)):Ec (n+7) g j l f (So.ini n) (fun _ _=>False) (fun _ _=>False) w:=by
 have b:∀t,t<=5->n<(So.ini n).om t/\(So.ini n).om t<=n+6:=fun t c=>by
  unfold So.ini;dsimp only;split
  .omega
  .split<;>omega
 exact{cI:=o,mp:=fun t c=>BW.new (h _ (b t (by omega)).1 (b t (by omega)).2),st:=fun t i k a=>(by cases a),dj:=fun t i m r k a=>(by cases a),oj:=fun t m c p e=>So.ini_inj c p e,ne:=fun t i k m a=>(by cases a),t4:=fun t i k a=>(by cases a),d:=fun t i=>⟨fun⟨k,a⟩=>(by cases a),fun q=>q.elim⟩,fm:=BW.new (h _ (b 5 (by omega)).1 (b 5 (by omega)).2),f0:=fun _=>rfl,r0:=fun _=>rfl}
theorem W7{P:List PFn}{f x:Nat}(h:Fq P f x):f<P.length:=by obtain⟨s,a,_⟩:=h;apply Classical.byContradiction;intro q;unfold As at a;rw[iS (by omega)]at a;cases a
theorem EZ{a:Nat}{b:World}(h:∀k,a<=k->k<b.heap.size->b.heap[k]? =T (.map #[] 0)):∀k,a<=k->k<(b.alloc (.map #[] 0)).heap.size->(b.alloc (.map #[] 0)).heap[k]? =T (.map #[] 0):=fun k c d=>by
 by_cases e:k=b.heap.size
 .rw[e];exact heap_alloc_new b _
 .simp only[World.size_alloc]at d;rw[iC _ _ _ (by omega)];exact h k c (by omega)
theorem Ec.fin{P:List PFn}{z:Nat}{m:Value}{v j g:Nat}{o:So}{a l:Nat->Nat->Prop}{w:World}(h:Ec z m v j g o a l w)(B:∀c t,t=0\/t=3->(a t c↔AM P j c))(C:∀n,a 1 n↔1<=n/\n<=g)(p:∀f,a 4 f↔f<P.length)(E:∀c,¬a 2 c)(s:∀i x,l i x↔Fq P i x):BN P z m v j g o Sv.zero w:=by
 have y:∀c k,o.bk 2 c≠T k:=fun c k q=>E c ((h.d 2 c).1 ⟨k,q⟩)
 refine{cI:=h.cI,mp:=h.mp,st:=fun t i k d=>(h.st t i k d).iff fun x=>?_,dj:=h.dj,oj:=h.oj,ne:=h.ne,t4:=h.t4,d0:=fun c t u=>(h.d t c).trans (B c t u),d1:=fun n=>(h.d 1 n).trans (C n),d4:=fun f=>(h.d 4 f).trans (p f),d2:=fun c k d=>jY d (y c k),ins:=fun t i x u q=>?_,fm:=h.fm,fr:=fun c t b=>(by rw[h.f0]at b;cases b),fj:=fun c H t I b=>(by rw[h.f0]at b;cases b),f0:=fun c _=>h.r0 c,fvr:=fun c r=>by rw[h.r0];simp[Sv.zero]}
 .have F:=h.t4 t i k d;have K:t≠2:=fun e=>y i k (e▸d)
  constructor
  .rintro⟨e,q⟩;subst e;simp only[Ch,Nat.reduceEqDiff,false_implies,true_and,forall_const];exact(s i x).1 q
  .intro q;by_cases e:t=4
   .exact⟨e,(s i x).2 (q.2.2.2.2 e)⟩
   .have:t=0\/t=1\/t=3:=by omega
    rcases this with e|e|e
    .exact(q.1 e).elim
    .exact(q.2.1 e).elim
    .exact(q.2.2.2.1 e).elim
 .have:t=0\/t=1\/t=2\/t=3\/t=4:=by omega
  rcases this with e|e|e|e|e
  .exact(q.1 e).elim
  .exact(q.2.1 e).elim
  .exact(q.2.2.1 e).elim
  .exact(q.2.2.2.1 e).elim
  .subst e;exact(h.d 4 i).2 ((p i).2 (W7 (q.2.2.2.2 rfl)))
theorem MZ(P:List PFn)(fv:Value)(m d g:Nat)(w:World)(N:AnOk P d g)(hp:Bx 0 w fv P)(tb:JZ w)(tl:0<w.heap.size):
 Calls prog 40 #[.agg #[fv,G A m,G A d,G A g]] w fun e w'=>∃u o,e=.returned (.pointer (T ⟨u,0,Z⟩))/\Ed P u fv m d g o Sv.zero w'/\(∀k,o.own u k->w.heap.size<=k)/\O kJ w w'/\Ph P o Sv.zero (fun _=>False) 0:=by
 obtain⟨p,fl,r,d1,d0⟩:∃a l c,fv=Y a l c/\l=P.length:=by obtain⟨cs,q,_⟩:=hp;obtain⟨a,l,c,e⟩:=Ad q;rw[e]at q;exact⟨a,l,c,e,Ag q⟩
 subst d0;subst d1;have d9:=N.dC;have e3:=N.lp;have e2:=N.lc;have e1:=@run_makeMap prog;obtain⟨HA,HP,HT⟩:=Ax N hp tb;clear N hp tb;go_enter func40,ntmps40;go_upto_region 2 with fail;have a5:(((((((w.alloc (.cells #[Y p P.length r,G A m,G A d,G A g] 66)).alloc (.map #[] 0)).alloc (.map #[] 0)).alloc (.map #[] 0)).alloc (.map #[] 0)).alloc (.map #[] 0)).alloc (.map #[] 0)).heap.size=w.heap.size+7:=by simp
 have b6:W (w.heap.size+7) (Hh (So.ini w.heap.size) (Y p P.length r) m d g) 120 ((((((((w.alloc (.cells #[Y p P.length r,G A m,G A d,G A g] 66)).alloc (.map #[] 0)).alloc (.map #[] 0)).alloc (.map #[] 0)).alloc (.map #[] 0)).alloc (.map #[] 0)).alloc (.map #[] 0)).alloc (.cells #[Y p P.length r,G A m,G A d,G A g,.map (T (w.heap.size+1)),.map (T (w.heap.size+1+1)),.map (T (w.heap.size+1+1+1)),.map (T (w.heap.size+1+1+1+1)),.map (T (w.heap.size+1+1+1+1+1)),.map (T (w.heap.size+1+1+1+1+1+1))] 120)):=by have q:=W.new (((((((w.alloc (.cells #[Y p P.length r,G A m,G A d,G A g] 66)).alloc (.map #[] 0)).alloc (.map #[] 0)).alloc (.map #[] 0)).alloc (.map #[] 0)).alloc (.map #[] 0)).alloc (.map #[] 0)) #[Y p P.length r,G A m,G A d,G A g,.map (T (w.heap.size+1)),.map (T (w.heap.size+1+1)),.map (T (w.heap.size+1+1+1)),.map (T (w.heap.size+1+1+1+1)),.map (T (w.heap.size+1+1+1+1+1)),.map (T (w.heap.size+1+1+1+1+1+1))] 120;rw[a5]at q;exact q
 have a1:W w.heap.size #[Y p P.length r,G A m,G A d,G A g] 66 ((((((((w.alloc (.cells #[Y p P.length r,G A m,G A d,G A g] 66)).alloc (.map #[] 0)).alloc (.map #[] 0)).alloc (.map #[] 0)).alloc (.map #[] 0)).alloc (.map #[] 0)).alloc (.map #[] 0)).alloc (.cells #[Y p P.length r,G A m,G A d,G A g,.map (T (w.heap.size+1)),.map (T (w.heap.size+1+1)),.map (T (w.heap.size+1+1+1)),.map (T (w.heap.size+1+1+1+1)),.map (T (w.heap.size+1+1+1+1+1)),.map (T (w.heap.size+1+1+1+1+1+1))] 120)):=(((((((W.new w _ _).alloc _).alloc _).alloc _).alloc _).alloc _).alloc _).alloc _;have b9:∀k,w.heap.size<k->k<=w.heap.size+6->((((((((w.alloc (.cells #[Y p P.length r,G A m,G A d,G A g] 66)).alloc (.map #[] 0)).alloc (.map #[] 0)).alloc (.map #[] 0)).alloc (.map #[] 0)).alloc (.map #[] 0)).alloc (.map #[] 0)).alloc (.cells #[Y p P.length r,G A m,G A d,G A g,.map (T (w.heap.size+1)),.map (T (w.heap.size+1+1)),.map (T (w.heap.size+1+1+1)),.map (T (w.heap.size+1+1+1+1)),.map (T (w.heap.size+1+1+1+1+1)),.map (T (w.heap.size+1+1+1+1+1+1))] 120)).heap[k]? =T (.map #[] 0):=fun k h1 h2=>by rw[iC _ _ _ (by rw[a5];omega)];refine EZ (a:=w.heap.size+1) (EZ (EZ (EZ (EZ (EZ (fun k b h=>?_)))))) k (by omega) (by rw[a5];omega);simp only[World.size_alloc]at h;omega
 have a8:O kJ w ((((((((w.alloc (.cells #[Y p P.length r,G A m,G A d,G A g] 66)).alloc (.map #[] 0)).alloc (.map #[] 0)).alloc (.map #[] 0)).alloc (.map #[] 0)).alloc (.map #[] 0)).alloc (.map #[] 0)).alloc (.cells #[Y p P.length r,G A m,G A d,G A g,.map (T (w.heap.size+1)),.map (T (w.heap.size+1+1)),.map (T (w.heap.size+1+1+1)),.map (T (w.heap.size+1+1+1+1)),.map (T (w.heap.size+1+1+1+1+1)),.map (T (w.heap.size+1+1+1+1+1+1))] 120)):=(by repeat first|exact BI _ _|apply BG|apply BH|apply BE);have d7:((((((((w.alloc (.cells #[Y p P.length r,G A m,G A d,G A g] 66)).alloc (.map #[] 0)).alloc (.map #[] 0)).alloc (.map #[] 0)).alloc (.map #[] 0)).alloc (.map #[] 0)).alloc (.map #[] 0)).alloc (.cells #[Y p P.length r,G A m,G A d,G A g,.map (T (w.heap.size+1)),.map (T (w.heap.size+1+1)),.map (T (w.heap.size+1+1+1)),.map (T (w.heap.size+1+1+1+1)),.map (T (w.heap.size+1+1+1+1+1)),.map (T (w.heap.size+1+1+1+1+1+1))] 120)).heap.size=w.heap.size+8:=by simp
 have hC:=Ec.ini b6 b9;clear b6 b9 a5;obtain⟨u,b1⟩:∃u,u=w.heap.size+1+1+1+1+1+1+1:=⟨_,rfl⟩;have a4:u=w.heap.size+7:=b1;rw[<-a4]at hC;rw[<-b1];generalize ((((((((w.alloc (.cells #[Y p P.length r,G A m,G A d,G A g] 66)).alloc (.map #[] 0)).alloc (.map #[] 0)).alloc (.map #[] 0)).alloc (.map #[] 0)).alloc (.map #[] 0)).alloc (.map #[] 0)).alloc (.cells #[Y p P.length r,G A m,G A d,G A g,.map (T (w.heap.size+1)),.map (T (w.heap.size+1+1)),.map (T (w.heap.size+1+1+1)),.map (T (w.heap.size+1+1+1+1)),.map (T (w.heap.size+1+1+1+1+1)),.map (T (w.heap.size+1+1+1+1+1+1))] 120))=z at*;have a7:¬(So.ini w.heap.size).own u w.heap.size:=fun q=>by have:=So.ini_own q a4;omega
 have b7:∀k,(So.ini w.heap.size).own u k->w.heap.size<=k:=fun k q=>by have:=So.ini_own q a4;omega
 generalize So.ini w.heap.size=E at*;have f0:=a1.cell 0;have c3:=Ae a1;simp only[gR,gP]at f0;obtain⟨c8,c7,a0,L,b3⟩:=BB (HP.o.s9 a8) hC a1 a8 b7;have d8:w.heap.size<z.heap.size:=by omega
 have M0:D (Di u (Y p P.length r) m d g E E (fun t i=>((t=0\/t=3)/\∃f j,f<0/\j<(As P f).t8.length/\i=vN f j)\/(t=4/\i<0)) (fun i x=>i<0/\Fq P i x) z z):=(Di.rf hC).iff (fun t i=>⟨False.elim,fun q=>by rcases q with⟨_,f,j,q,_⟩|⟨_,q⟩<;>omega⟩) (fun i x=>⟨False.elim,fun q=>by omega⟩)
 clear hC a1 a8 b1 a4 d7 b7;obtain⟨nb,a3⟩:∃nb,nb=w.heap.size:=⟨_,rfl⟩;rw[<-a3]at a7 d8 f0 c3⊢;have a0:D (W nb #[Y p P.length r,G A m,G A d,G A g] 66 z):=by rw[a3];exact a0.o
 have b4:=J a3;clear a3;go_wp2_with fail;clear f0 c3;go_loopw[20] (fun i wr=>∃(k:Nat) (V:So),k<=P.length/\i=G A k/\D (Di u (Y p P.length r) m d g E V (fun t i=>((t=0\/t=3)/\∃f j,f<k/\j<(As P f).t8.length/\i=vN f j)\/(t=4/\i<k)) (fun i x=>i<k/\Fq P i x) z wr)) (fun i _=>P.length-(intOf i).toNat)
 case atStart=>exact⟨0,E,by omega,rfl,M0⟩
 case round=>
  clear M0;obtain⟨k,V,hk,rfl,I⟩:=hrel;by_cases a2:k<P.length
  .have a6:(k:Int)<(P.length:Int):=by omega
   have S:k+1<=P.length:=a2;have c9:=J (c8.o.d8 I.o.on c7.o.noPlan);have hD:∀t,t=0\/t=3->∀i,i<12->¬(fun t i=>((t=0\/t=3)/\∃f j,f<k/\j<(As P f).t8.length/\i=vN f j)\/(t=4/\i<k)) t (vN k i):=fun t ht i hi q=>by
    rcases q with⟨_,f,j,b,h,s⟩|⟨q,_⟩
    .have:=HA.o.ok.t8 f;unfold vN at s;omega
    .omega
   have HD:=J hD;clear hD;go_wp2_with fail;refine(KW P u (Y p P.length r) m d g V (fun t i=>((t=0\/t=3)/\∃f j,f<k/\j<(As P f).t8.length/\i=vN f j)\/(t=4/\i<k)) (fun i x=>i<k/\Fq P i x) wr HA.o I.o.c c9.o k a2 (fun i hi=>⟨HD.o 0 (.inl rfl) i hi,HD.o 3 (.inr rfl) i hi⟩) (fun x q=>by omega)).mono ?_;rintro e w2 ⟨rfl,H,s2⟩;have K:D (Di u (Y p P.length r) m d g E H (fun t i=>((t=0\/t=3)/\∃f j,f<k+1/\j<(As P f).t8.length/\i=vN f j)\/(t=4/\i<k+1)) (fun i x=>i<k+1/\Fq P i x) z w2):=(I.o.trans s2).iff (fun t i=>by
    constructor
    .rintro((⟨b,f,j,h,s⟩|⟨b,h⟩)|⟨b,j,h,s⟩|⟨b,h⟩)
     .exact .inl ⟨b,f,j,by omega,s⟩
     .exact .inr ⟨b,by omega⟩
     .exact .inl ⟨b,k,j,by omega,h,s⟩
     .exact .inr ⟨b,by omega⟩
    .rintro(⟨b,f,j,h,s,F⟩|⟨b,h⟩)
     .by_cases e:f=k
      .subst e;exact .inr (.inl ⟨b,j,s,F⟩)
      .exact .inl (.inl ⟨b,f,j,by omega,s,F⟩)
     .by_cases e:i=k
      .exact .inr (.inr ⟨b,e⟩)
      .exact .inl (.inr ⟨b,by omega⟩)) (fun i x=>by
    constructor
    .rintro(⟨b,h⟩|⟨b,h⟩)
     .exact⟨by omega,h⟩
     .exact⟨by omega,by rw[b];exact h⟩
    .rintro⟨b,h⟩;by_cases e:i=k
     .subst e;exact .inr ⟨rfl,h⟩
     .exact .inl ⟨by omega,h⟩)
   clear s2 I;go_wp2_with fail;go_roundw
   case rel=>exact⟨k+1,H,S,by go_num,K⟩
   case measure=>simp[intOf];omega
  .have e:k=P.length:=by omega
   subst e;have a6:decide ((P.length:Int)<(P.length:Int))=false:=by simp
   have M:=a0.o.d8 I.o.on a7;have f2:=M.cell 2;have b2:=Ae M;simp only[gR,gP,gQ]at f2;have M2:D (Di u (Y p P.length r) m d g E V (fun t i=>(((t=0\/t=3)/\∃f j,f<P.length/\j<(As P f).t8.length/\i=vN f j)\/(t=4/\i<P.length))\/((t=0\/t=3)/\∃n j,1<=n/\n<=0/\j<4/\i=pN n j)) (fun i x=>i<P.length/\Fq P i x) z wr):=I.o.iff (fun t i=>⟨.inl,fun q=>q.elim id fun⟨_,n,j,b,h,_⟩=>by omega⟩) (fun _ _=>Iff.rfl);clear M I;go_wp2_with fail;clear f2 b2;go_loopw[29] (fun i wi=>∃(k:Nat) (H:So),k<=d/\i=G A k/\D (Di u (Y p P.length r) m d g E H (fun t i=>(((t=0\/t=3)/\∃f j,f<P.length/\j<(As P f).t8.length/\i=vN f j)\/(t=4/\i<P.length))\/((t=0\/t=3)/\∃n j,1<=n/\n<=k/\j<4/\i=pN n j)) (fun i x=>i<P.length/\Fq P i x) z wi)) (fun i _=>d-(intOf i).toNat)
   case atStart=>exact⟨0,V,by omega,rfl,M2⟩
   case round=>
    clear M2;obtain⟨k,H,hk,rfl,K⟩:=hrel;by_cases a2:k<d
    .have a6:(k:Int)<(d:Int):=by omega
     have S:k+1<=d:=a2;have R:D (Di u (Y p P.length r) m d g E H (fun t i=>((((t=0\/t=3)/\∃f j,f<P.length/\j<(As P f).t8.length/\i=vN f j)\/(t=4/\i<P.length))\/((t=0\/t=3)/\∃n j,1<=n/\n<=k/\j<4/\i=pN n j))\/((t=0\/t=3)/\∃C,C<0/\i=pN (k+1) C)) (fun i x=>i<P.length/\Fq P i x) z wr):=K.o.iff (fun t i=>⟨.inl,fun q=>q.elim id fun⟨_,j,b,_⟩=>by omega⟩) (fun _ _=>Iff.rfl);clear K;go_wp2_with fail;go_loopw[32] (fun i wi=>∃(j:Nat) (y:So),j<=4/\i=G A j/\D (Di u (Y p P.length r) m d g E y (fun t i=>((((t=0\/t=3)/\∃f j,f<P.length/\j<(As P f).t8.length/\i=vN f j)\/(t=4/\i<P.length))\/((t=0\/t=3)/\∃n j,1<=n/\n<=k/\j<4/\i=pN n j))\/((t=0\/t=3)/\∃C,C<j/\i=pN (k+1) C)) (fun i x=>i<P.length/\Fq P i x) z wi)) (fun i _=>4-(intOf i).toNat)
     case atStart=>exact⟨0,H,by omega,rfl,R⟩
     case round=>
      clear R;obtain⟨j,y,hj,rfl,v⟩:=hrel;by_cases d4:j<4
      .have e0:(j:Int)<4:=by omega
       have d2:j+1<=4:=d4;have d6:pN (k+1) j<20000:=by unfold pN;omega
       have c1:∀t,t=0\/t=3->¬(fun t i=>((((t=0\/t=3)/\∃f j,f<P.length/\j<(As P f).t8.length/\i=vN f j)\/(t=4/\i<P.length))\/((t=0\/t=3)/\∃n j,1<=n/\n<=k/\j<4/\i=pN n j))\/((t=0\/t=3)/\∃C,C<j/\i=pN (k+1) C)) t (pN (k+1) j):=fun t ht q=>by
        rcases q with((⟨_,f,B,b,h,s⟩|⟨q,_⟩)|⟨_,n,B,b,h,s,F⟩)|⟨_,B,b,h⟩
        .have:=HA.o.ok.t8 f;unfold vN pN at s;omega
        .omega
        .unfold pN at F;omega
        .unfold pN at h;omega
       have b5:=J c1;clear c1;go_wp2_with(first|(go_at_call 85;refine(JE (k+1) j _ (by omega) (by omega) (by omega)).mono ?_;rintro e w' ⟨rfl,hw⟩;have hw:=hw.symm;subst hw));refine(Kw u (Y p P.length r) m d g y (fun t i=>((((t=0\/t=3)/\∃f j,f<P.length/\j<(As P f).t8.length/\i=vN f j)\/(t=4/\i<P.length))\/((t=0\/t=3)/\∃n j,1<=n/\n<=k/\j<4/\i=pN n j))\/((t=0\/t=3)/\∃C,C<j/\i=pN (k+1) C)) (fun i x=>i<P.length/\Fq P i x) wr (pN (k+1) j) v.o.c d6 (b5.o 0 (.inl rfl)) (b5.o 3 (.inr rfl))).mono ?_;rintro e w4 ⟨rfl,X,c4,c6,c5⟩;have Q:D (Di u (Y p P.length r) m d g E X (fun t i=>((((t=0\/t=3)/\∃f j,f<P.length/\j<(As P f).t8.length/\i=vN f j)\/(t=4/\i<P.length))\/((t=0\/t=3)/\∃n j,1<=n/\n<=k/\j<4/\i=pN n j))\/((t=0\/t=3)/\∃C,C<j+1/\i=pN (k+1) C)) (fun i x=>i<P.length/\Fq P i x) z w4):=(v.o.trans ⟨c4,c6,c5⟩).iff (fun t i=>by
        constructor
        .rintro((q|⟨b,B,h,s⟩)|⟨b,h⟩)
         .exact .inl q
         .exact .inr ⟨b,B,by omega,s⟩
         .exact .inr ⟨b,j,by omega,h⟩
        .rintro(q|⟨b,B,h,s⟩)
         .exact .inl (.inl q)
         .by_cases e:B=j
          .subst e;exact .inr ⟨b,s⟩
          .exact .inl (.inr ⟨b,B,by omega,s⟩)) (fun _ _=>Iff.rfl)
       clear c4 c6 c5 v;go_wp2_with fail;go_roundw
       case rel=>exact⟨j+1,X,d2,by go_num,Q⟩
       case measure=>simp[intOf];omega
      .have e:j=4:=by omega
       subst e;have Q:D (Di u (Y p P.length r) m d g E y (fun t i=>(((t=0\/t=3)/\∃f j,f<P.length/\j<(As P f).t8.length/\i=vN f j)\/(t=4/\i<P.length))\/((t=0\/t=3)/\∃n j,1<=n/\n<=k+1/\j<4/\i=pN n j)) (fun i x=>i<P.length/\Fq P i x) z wr):=v.o.iff (fun t i=>by
        constructor
        .rintro((q|⟨b,n,B,h,s,F⟩)|⟨b,B,h,s⟩)
         .exact .inl q
         .exact .inr ⟨b,n,B,h,by omega,F⟩
         .exact .inr ⟨b,k+1,B,by omega,by omega,h,s⟩
        .rintro(q|⟨b,n,B,h,s,F,q5⟩)
         .exact .inl (.inl q)
         .by_cases e:n=k+1
          .subst e;exact .inr ⟨b,B,F,q5⟩
          .exact .inl (.inr ⟨b,n,B,h,by omega,F,q5⟩)) (fun _ _=>Iff.rfl)
       clear v;go_wp2_with fail;go_roundw
       case rel=>exact⟨k+1,y,S,by go_num,Q⟩
       case measure=>simp[intOf];omega
    .have e:d=k:=by omega
     subst e;have a6:decide ((d:Int)<(d:Int))=false:=by simp
     have M:=a0.o.d8 K.o.on a7;have f3:=M.cell 3;have b2:=Ae M;simp only[gR,gP,gQ]at f3;have R:D (Di u (Y p P.length r) m d g E H (fun t i=>((((t=0\/t=3)/\∃f j,f<P.length/\j<(As P f).t8.length/\i=vN f j)\/(t=4/\i<P.length))\/((t=0\/t=3)/\∃n j,1<=n/\n<=d/\j<4/\i=pN n j))\/(t=1/\1<=i/\i<=0)) (fun i x=>i<P.length/\Fq P i x) z wr):=K.o.iff (fun t i=>⟨.inl,fun q=>q.elim id fun⟨_,b,h⟩=>by omega⟩) (fun _ _=>Iff.rfl);clear M K;go_wp2_with fail;clear f3 b2;go_loopw[45] (fun i wi=>∃(k:Nat) (y:So),k<=g/\i=G A k/\D (Di u (Y p P.length r) m d g E y (fun t i=>((((t=0\/t=3)/\∃f j,f<P.length/\j<(As P f).t8.length/\i=vN f j)\/(t=4/\i<P.length))\/((t=0\/t=3)/\∃n j,1<=n/\n<=d/\j<4/\i=pN n j))\/(t=1/\1<=i/\i<=k)) (fun i x=>i<P.length/\Fq P i x) z wi)) (fun i _=>g-(intOf i).toNat)
     case atStart=>exact⟨0,H,by omega,rfl,R⟩
     case round=>
      clear R;obtain⟨k,y,hk,rfl,v⟩:=hrel;by_cases d5:k<g
      .have d3:(k:Int)<(g:Int):=by omega
       have S:k+1<=g:=d5;have p5:=v.o.c.cI.cell 5;have e4:=Ae v.o.c.cI;simp only[Hh,gR,gP,gQ]at p5;have oa:O kJ wr (wr.alloc (.map #[] 0)):=(O.refl _ wr).alloc _;obtain⟨w4,c2,b8,a9⟩:=((v.o.c.mp 1 (by omega)).d8 oa id).put Eh underlying67 (k:=k+1) (a:=wr.heap.size) (by omega) trivial;unfold Hd at c2;rw[show(((k+1:Nat):Nat):Int)=(k:Int)+1 by omega]at c2;have n4:wr.heap.size≠y.om 1:=fun q=>by have:=v.o.c.ownLt (k:=y.om 1) (.inr (.inl ⟨1,by omega,rfl⟩));omega
       have c0:w4.heap[wr.heap.size]? =T (.map #[] 0):=(a9.block _ (by simp) n4).trans (heap_alloc_new wr _);obtain⟨X,s4⟩:=v.o.c.one (t:=1) (i:=k+1) (by omega) (gS _) c0 b8 ((oa.mono (fun _ _ q=>q.elim)).trans a9) (fun q=>by omega);have Q:D (Di u (Y p P.length r) m d g E X (fun t i=>((((t=0\/t=3)/\∃f j,f<P.length/\j<(As P f).t8.length/\i=vN f j)\/(t=4/\i<P.length))\/((t=0\/t=3)/\∃n j,1<=n/\n<=d/\j<4/\i=pN n j))\/(t=1/\1<=i/\i<=k+1)) (fun i x=>i<P.length/\Fq P i x) z w4):=(v.o.trans s4).iff (fun t i=>by
        constructor
        .rintro((q|⟨b,h,s⟩)|⟨b,h⟩)
         .exact .inl q
         .exact .inr ⟨b,h,by omega⟩
         .exact .inr ⟨b,by omega,by omega⟩
        .rintro(q|⟨b,h,s⟩)
         .exact .inl (.inl q)
         .by_cases e:i=k+1
          .exact .inr ⟨b,e⟩
          .exact .inl (.inr ⟨b,h,by omega⟩)) (fun _ _=>Iff.rfl)
       clear b8 a9 oa c0 s4 v;go_wp2_with fail;go_roundw
       case rel=>exact⟨k+1,X,S,by go_num,Q⟩
       case measure=>simp[intOf];omega
      .have e:g=k:=by omega
       subst e;have d3:decide ((g:Int)<(g:Int))=false:=by simp
       have hR:BN P u (Y p P.length r) m d g y Sv.zero wr:=v.o.c.fin (fun c t ht=>by
        constructor
        .rintro(((⟨_,f,j,b,h,s⟩|⟨q,_⟩)|⟨_,n,j,b,h,s,F⟩)|⟨q,_⟩)
         .exact .inl ⟨f,j,b,h,s⟩
         .omega
         .exact .inr ⟨n,j,b,h,s,F⟩
         .omega
        .rintro(⟨f,j,b,h,s⟩|⟨n,j,b,h,s,F⟩)
         .exact .inl (.inl (.inl ⟨ht,f,j,b,h,s⟩))
         .exact .inl (.inr ⟨ht,n,j,b,h,s,F⟩)) (fun n=>by
        constructor
        .rintro(((⟨q,_⟩|⟨q,_⟩)|⟨q,_⟩)|⟨_,q⟩)
         .omega
         .omega
         .omega
         .exact q
        .exact fun q=>.inr ⟨rfl,q⟩) (fun f=>by
        constructor
        .rintro(((⟨q,_⟩|⟨_,q⟩)|⟨q,_⟩)|⟨q,_⟩)
         .omega
         .exact q
         .omega
         .omega
        .exact fun q=>.inl (.inl (.inr ⟨rfl,q⟩))) (fun c q=>by
        rcases q with((⟨q,_⟩|⟨q,_⟩)|⟨q,_⟩)|⟨q,_⟩<;>omega) (fun i x=>⟨fun q=>q.2,fun q=>⟨W7 q,q⟩⟩)
       have U:O kJ w wr:=⟨v.o.on.os.trans L.o.os,v.o.on.tape.trans L.o.tape,v.o.on.output.trans L.o.output,iG L.o.size v.o.on.size,fun j hj _=>(v.o.on.block j (iI hj L.o.size) (fun q=>by have:=b3.o j q;have:=b4.o;omega)).trans (L.o.block j hj id)⟩;have b0:∀j,y.own u j->w.heap.size<=j:=fun j q=>(v.o.ow j q).elim (fun q=>by have:=b3.o j q;have:=b4.o;omega) fun q=>iG L.o.size q
       have HX:D (Ed P u (Y p P.length r) m d g y Sv.zero wr/\(∀j,y.own u j->w.heap.size<=j)/\O kJ w wr/\Ph P y Sv.zero (fun _=>False) 0):=⟨⟨hR,HP.o.s9 U,HT.o.d8 U id tl,iI tl U.size,fun q=>by have:=b0 _ q;omega⟩,b0,U,Y4 P v.o.c.r0⟩;clear hR U b0;go_wp2_with fail;go_ret;exact⟨u,y,rfl,HX.o⟩

/- Part of the proof: AnU AnV. -/
import Derived.Test.YtaningfhibkemaaGreatDoorG31
set_option maxRecDepth 100000
set_option maxHeartbeats 4000000
namespace Go.Proofs.YtaningfhibkemaaGreatDoor
open Go.RowKit Go.Maps Go.ChangeMaps Go.Proofs.Tryz
structure D5(g:Nat)(p:Value)(s u n:Nat)(o:So)(l m:Nat->Nat->Prop)(w:World):Prop where
 bY:W g (G7 o p s u n) 120 w
 mp:∀t,t<=4->BK IK IJ (o.om t) (o.bk t) w
 st:∀t i k,o.bk t i=some k->Bl k (fun x=>t=4/\m i x) w
 dj:∀t i t' i' k,o.bk t i=some k->o.bk t' i'=some k->t=t'/\i=i'
 oj:∀t t',t<=5->t'<=5->o.om t=o.om t'->t=t'
 ne:∀t i k t',o.bk t i=some k->t'<=5->k≠o.om t'
 t4:∀t i k,o.bk t i=some k->t<=4
 d:∀t i,(∃k,o.bk t i=some k)↔l t i
 fm:BK UO UN (o.om 5) o.fw w
 f0:∀c,o.fw c=none
 r0:∀c,o.rl c=[]
section
variable{P:List PFn}{g:Nat}{p:Value}{s u n:Nat}{o z:So}{l Dm' m B:Nat->Nat->Prop}{w w':World}
theorem D5.kind(h:D5 g p s u n o l m w){k}(a:o.own g k):(∃e c,w.heap[k]? =some (.map e c))\/∃d,w.heap[k]? =some (.cells d 120 (0,0)):=by
 rcases a with rfl|⟨t,j,rfl⟩|⟨t,i,a⟩|⟨c,t,b,rfl⟩
 .exact .inr ⟨_,h.bY⟩
 .by_cases f:t=5
  .subst f;exact .inl h.fm.isMap
  .exact .inl (h.mp t Z).isMap
 .exact .inl (h.st t i k a).isMap
 .rw[h.f0]at b;cases b
theorem D5.ownLt(h:D5 g p s u n o l m w){k}(a:o.own g k):k<w.heap.size:=by rcases h.kind a with⟨_,_,e⟩|⟨_,e⟩<;>exact lt_of_block e
theorem D5.d8{X:Nat->Prop}(h:D5 g p s u n o l m w)(a:O X w w')(b:∀k,X k->¬o.own g k):D5 g p s u n o l m w':=
 {h with
  bY:=h.bY.d8 a (fun q=>b _ q (.inl rfl))
  mp:=fun t d=>(h.mp t d).d8 a (fun q=>b _ q (.inr (.inl ⟨t,Z,rfl⟩)))
  st:=fun t i k c=>(h.st t i k c).d8 a (fun q=>b _ q (.inr (.inr (.inl ⟨t,i,c⟩))))
  fm:=h.fm.d8 a (fun q=>b _ q (.inr (.inl ⟨5,Z,rfl⟩)))}
def So.gr(o:So)(a:Nat->Nat->Option Nat):So:={o with bk:=fun t i=>match a t i with|some f=>some f|none=>o.bk t i}
theorem So.gr_bk{o:So}{a:Nat->Nat->Option Nat}{t i k}(h:(o.gr a).bk t i=some k):a t i=some k\/(a t i=none/\o.bk t i=some k):=by
 unfold So.gr at h;dsimp only at h;split at h
 .next f e=>cases h;exact .inl e
 .next e=>exact .inr ⟨e,h⟩
theorem D5.grow(h:D5 g p s u n o l m w){nb:Nat->Nat->Option Nat}(v:∀t i f,nb t i=some f->t<=4/\w.heap.size<=f/\Bl f (fun _=>False) w'/\(t=4->∀x,¬m i x))(H:∀t i b y f,nb t i=some f->nb b y=some f->t=b/\i=y)
 (I:∀t,t<=4->BK IK IJ (o.om t) ((o.gr nb).bk t) w')(A:O (fun k=>∃t,t<=4/\k=o.om t) w w')(K:∀t i,Dm' t i↔l t i\/∃f,nb t i=some f):
 D5 g p s u n (o.gr nb) Dm' m w'/\(∀k,(o.gr nb).own g k->o.own g k\/w.heap.size<=k)/\O (o.own g) w w':=by
 have P:∀t,t<=5->o.om t<w.heap.size:=fun t c=>h.ownLt (.inr (.inl ⟨t,c,rfl⟩))
 have N:∀t,t<=4->g≠o.om t:=fun t c q=>by obtain⟨_,_,e⟩:=(h.mp t c).isMap;have C:=h.bY;unfold W at C;rw[q,e]at C;cases C
 have F:∀t i k,o.bk t i=some k->k<w.heap.size:=fun t i k a=>h.ownLt (.inr (.inr (.inl ⟨t,i,a⟩)))
 refine⟨{h with bY:=h.bY.d8 A (fun⟨t,c,q⟩=>N t c q),mp:=I,st:=fun t i k a=>?_,dj:=fun t i b y k a G=>?_,ne:=fun t i k b a E=>?_,t4:=fun t i k a=>?_,d:=fun t i=>?_,fm:=h.fm.d8 A (fun⟨t,c,q⟩=>jO (h.oj 5 t Z Z q) Z)},fun k a=>?_,A.mono fun k _ ⟨t,c,q⟩=>.inr (.inl ⟨t,Z,q⟩)⟩
 .rcases So.gr_bk a with q|⟨_,q⟩
  .obtain⟨_,_,M,L⟩:=v t i k q;exact M.iff fun x=>⟨False.elim,fun⟨e,r⟩=>L e x r⟩
  .exact(h.st t i k q).d8 A fun⟨b,E,e⟩=>h.ne t i k b q Z e
 .rcases So.gr_bk a with q|⟨_,q⟩
  .rcases So.gr_bk G with j|⟨_,j⟩
   .exact H t i b y k q j
   .have:=(v t i k q).2.1;have:=F _ _ _ j;omega
  .rcases So.gr_bk G with j|⟨_,j⟩
   .have:=(v _ _ k j).2.1;have:=F _ _ _ q;omega
   .exact h.dj t i b y k q j
 .rcases So.gr_bk a with q|⟨_,q⟩
  .have:=(v t i k q).2.1;have:=P b E;intro e;have e:k=o.om b:=e;omega
  .exact h.ne t i k b q E
 .rcases So.gr_bk a with q|⟨_,q⟩
  .exact(v t i k q).1
  .exact h.t4 t i k q
 .rw[K,<-h.d t i];constructor
  .rintro⟨k,a⟩;rcases So.gr_bk a with q|⟨_,q⟩
   .exact .inr ⟨k,q⟩
   .exact .inl ⟨k,q⟩
  .rintro(⟨k,a⟩|⟨k,a⟩)
   .unfold So.gr;dsimp only;cases nb t i with
    |some f=>exact⟨f,rfl⟩
    |none=>exact⟨k,a⟩
   .exact⟨k,by unfold So.gr;dsimp only;rw[a]⟩
 .rcases a with q|q|⟨t,i,q⟩|q
  .exact .inl (.inl q)
  .exact .inl (.inr (.inl q))
  .rcases So.gr_bk q with q|⟨_,q⟩
   .exact .inr (v t i k q).2.1
   .exact .inl (.inr (.inr (.inl ⟨t,i,q⟩)))
  .exact .inl (.inr (.inr (.inr q)))
end
def Z6(g:Nat)(p:Value)(s u n:Nat)(o:So)(l m:Nat->Nat->Prop)(w w':World):Prop:=∃z,D5 g p s u n z l m w'/\(∀k,z.own g k->o.own g k\/w.heap.size<=k)/\O (o.own g) w w'
theorem BK.new{e:Type}{R:Value->Option (DataW Unit×List MemPlace)}{a:e->DataW Unit}{w:World}{f:Nat}(h:w.heap[f]? =some (.map #[] 0)):BK R a f (fun _=>none) w:=by obtain⟨c,⟨j,i,b,r⟩,d⟩:=BK.made (R:=R) (dc:=a) w;rw[heap_alloc_new]at b;cases b;exact⟨c,⟨#[],0,h,r⟩,d⟩
theorem Ov{w:World}{f:Nat}(h:w.heap[f]? =some (.map #[] 0)):Bl f (fun _=>False) w:=⟨_,BK.new h,Wd.nil⟩
section
theorem JD(a:World)(b:Nat)(x:Obj):(setBlock a b x).heap.size=a.heap.size:=by simp[setBlock]
theorem Eo(a:World)(b k:Nat)(x:Obj)(h:k≠b):(setBlock a b x).heap[k]? =a.heap[k]? :=by unfold setBlock;dsimp only;rw[Array.getElem?_setIfInBounds_ne (Ne.symm h)]
theorem Tj(a:World)(b:Nat)(x:Obj)(h:b<a.heap.size):(setBlock a b x).heap[b]? =some x:=by unfold setBlock;dsimp only;rw[Array.getElem?_setIfInBounds_self_of_lt h]
theorem O.setB{X:Nat->Prop}{a c:World}{b:Nat}{x:Obj}(h:O X a c)(d:X b):O X a (setBlock c b x):=by
 refine h.thn (Y:=fun k=>k=b) ⟨rfl,rfl,rfl,?_,fun k e q=>?_⟩ (fun j _ q=>q▸d)
 .rw[JD];exact gI _
 .exact Eo _ _ _ _ q
end
theorem Kn(g p s u n o l m w)(c:Nat)(h:D5 g p s u n o l m w)(hc:c<20000)(h0:¬l 0 c)(h3:¬l 3 c):
 Calls prog 84 #[.pointer (some ⟨g,0,none⟩),.int .i64 c] w fun e w'=>e=.returned (.tuple #[])/\Z6 g p s u n o (fun t i=>l t i\/((t=0\/t=3)/\i=c)) m w w':=by
 have n0:o.bk 0 c=none:=by
  cases H:o.bk 0 c with
  |none=>rfl
  |some k=>exact jO ((h.d 0 c).1 ⟨k,H⟩) h0
 have n3:o.bk 3 c=none:=by
  cases H:o.bk 3 c with
  |none=>rfl
  |some k=>exact jO ((h.d 3 c).1 ⟨k,H⟩) h3
 obtain⟨a7,M,d5,b7,c5,b9⟩:=(h.mp 0 Z).entry Ea underlying67 Ci hc n0;obtain⟨a8,N,d6,b8,c6,c0⟩:=(h.mp 3 Z).entry Ea underlying67 Ci hc n3;have c7:o.om 0≠o.om 3:=fun q=>jO (h.oj 0 3 Z Z q) Z
 have d0:=Ne.symm c7;have l0:=(h.mp 0 Z).lt;have l3:=(h.mp 3 Z).lt;have s0:g≠o.om 0:=fun q=>(h.mp 0 Z).ne h.bY q.symm
 have s3:g≠o.om 3:=fun q=>(h.mp 3 Z).ne h.bY q.symm
 obtain⟨p4,p7⟩:=h.bY.e2 4 7;have d9:=Ae h.bY;simp only[G7,gH,gF,gG]at p4 p7;unfold goInt at b7 c5 b8 c6;obtain⟨F1,a0⟩:∃F:World->World,F=fun a=>ChangeMaps.setBlock a (o.om 0) (.map (a7.push ⟨.int .i64 c,.map none,M⟩) (M+1)):=⟨_,rfl⟩
 obtain⟨F2,a1⟩:∃F:Nat->World->World,F=fun x a=>ChangeMaps.setBlock a (o.om 0) (.map (a7.push ⟨.int .i64 c,.map (some x),M⟩) (M+1)):=⟨_,rfl⟩
 obtain⟨F3,a2⟩:∃F:World->World,F=fun a=>ChangeMaps.setBlock a (o.om 3) (.map (a8.push ⟨.int .i64 c,.map none,N⟩) (N+1)):=⟨_,rfl⟩
 obtain⟨F4,a3⟩:∃F:Nat->World->World,F=fun x a=>ChangeMaps.setBlock a (o.om 3) (.map (a8.push ⟨.int .i64 c,.map (some x),N⟩) (N+1)):=⟨_,rfl⟩
 obtain⟨A0,a9⟩:∃A:World->Prop,A=fun a=>a.heap[o.om 0]? =some (.map a7 M)/\w.heap.size<=a.heap.size:=⟨_,rfl⟩
 obtain⟨Q,a5⟩:∃A:World->Prop,A=fun a=>a.heap[o.om 3]? =some (.map a8 N)/\w.heap.size<=a.heap.size:=⟨_,rfl⟩
 obtain⟨B0,b1⟩:∃A:World->Prop,A=fun a=>a.heap[o.om 0]? =some (.map (a7.push ⟨.int .i64 c,.map none,M⟩) (M+1))/\w.heap.size<=a.heap.size:=⟨_,rfl⟩
 obtain⟨B3,b2⟩:∃A:World->Prop,A=fun a=>a.heap[o.om 3]? =some (.map (a8.push ⟨.int .i64 c,.map none,N⟩) (N+1))/\w.heap.size<=a.heap.size:=⟨_,rfl⟩
 have e1:∀a,A0 a->(Instr.mapEntry 67 (.map (some (o.om 0))) (.int .i64 c)).run prog a=.ok (.tuple #[.map none,.int .i64 M]) (F1 a):=fun a b=>by rw[a0];rw[a9]at b;exact b7 a b.1
 have P:∀a x,B0 a->(Instr.entryStore 67 (.map (some (o.om 0))) (.int .i64 M) (.map (some x))).run prog a=.ok () (F2 x a):=fun a x b=>by rw[a1];rw[b1]at b;exact c5 a _ b.1
 have K:∀a,Q a->(Instr.mapEntry 67 (.map (some (o.om 3))) (.int .i64 c)).run prog a=.ok (.tuple #[.map none,.int .i64 N]) (F3 a):=fun a b=>by rw[a2];rw[a5]at b;exact b8 a b.1
 have S:∀a x,B3 a->(Instr.entryStore 67 (.map (some (o.om 3))) (.int .i64 N) (.map (some x))).run prog a=.ok () (F4 x a):=fun a x b=>by rw[a3];rw[b2]at b;exact c6 a _ b.1
 have al:∀(a:World) (x:Obj) (k:Nat),k<w.heap.size->w.heap.size<=a.heap.size->(a.alloc x).heap[k]? =a.heap[k]? :=fun a x k I L=>gS _ _ _ Z
 have z1:∀a,(F1 a).heap.size=a.heap.size:=fun a=>by rw[a0];exact JD _ _ _
 have z2:∀x a,(F2 x a).heap.size=a.heap.size:=fun x a=>by rw[a1];exact JD _ _ _
 have z3:∀a,(F3 a).heap.size=a.heap.size:=fun a=>by rw[a2];exact JD _ _ _
 have z4:∀x a,(F4 x a).heap.size=a.heap.size:=fun x a=>by rw[a3];exact JD _ _ _
 have U:A0 w:=by rw[a9];exact⟨d5,gI _⟩
 have V:∀a,A0 a->A0 a.drew:=fun a b=>by rw[a9]at b⊢;exact b
 have a4:∀a x,A0 a->A0 (a.alloc x):=fun a x b=>by rw[a9]at b⊢;exact⟨(al a x _ l0 b.2).trans b.1,jX⟩
 have a6:∀a,A0 a->B0 (F1 a):=fun a b=>by rw[a9]at b;rw[b1];refine⟨?_,by rw[z1];exact b.2⟩;rw[a0];exact Tj _ _ _ Z
 have b0:∀a x,B0 a->B0 (a.alloc x):=fun a x b=>by rw[b1]at b⊢;exact⟨(al a x _ l0 b.2).trans b.1,jX⟩
 have C:Q w:=by rw[a5];exact⟨d6,gI _⟩
 have r:∀a,Q a->Q a.drew:=fun a b=>by rw[a5]at b⊢;exact b
 have d1:∀a,B0 a->B0 a.drew:=fun a b=>by rw[b1]at b⊢;exact b
 have d2:∀a,B3 a->B3 a.drew:=fun a b=>by rw[b2]at b⊢;exact b
 have d:∀a x,Q a->Q (a.alloc x):=fun a x b=>by rw[a5]at b⊢;exact⟨(al a x _ l3 b.2).trans b.1,jX⟩
 have E:∀a,Q a->Q (F1 a):=fun a b=>by rw[a5]at b⊢;refine⟨?_,by rw[z1];exact b.2⟩;rw[a0];exact(Eo _ _ _ _ d0).trans b.1
 have G:∀x a,Q a->Q (F2 x a):=fun x a b=>by rw[a5]at b⊢;refine⟨?_,by rw[z2];exact b.2⟩;rw[a1];exact(Eo _ _ _ _ d0).trans b.1
 have R:∀a,Q a->B3 (F3 a):=fun a b=>by rw[a5]at b;rw[b2];refine⟨?_,by rw[z3];exact b.2⟩;rw[a2];exact Tj _ _ _ Z
 have b6:∀a x,B3 a->B3 (a.alloc x):=fun a x b=>by rw[b2]at b⊢;exact⟨(al a x _ l3 b.2).trans b.1,jX⟩
 have c1:∀a j,(F1 a).cell? ⟨g,j,none⟩=a.cell? ⟨g,j,none⟩:=fun a j=>by rw[a0];exact gJ (Eo _ _ _ _ s0)
 have c2:∀x a j,(F2 x a).cell? ⟨g,j,none⟩=a.cell? ⟨g,j,none⟩:=fun x a j=>by rw[a1];exact gJ (Eo _ _ _ _ s0)
 have c3:∀a j,(F3 a).cell? ⟨g,j,none⟩=a.cell? ⟨g,j,none⟩:=fun a j=>by rw[a2];exact gJ (Eo _ _ _ _ s3)
 have c4:∀x a j,(F4 x a).cell? ⟨g,j,none⟩=a.cell? ⟨g,j,none⟩:=fun x a j=>by rw[a3];exact gJ (Eo _ _ _ _ s3)
 have y1:=e1 _ (V _ U);have y2:=e1 _ (V _ (a4 _ (.map #[] 0) U));have y3:=e1 _ (V _ (a4 _ (.map #[] 0) (a4 _ (.map #[] 0) U)));have y4:=fun x=>P _ x (b0 _ (.map #[] 0) (a6 _ (V _ U)))
 have y5:=fun x=>K _ (G x _ (d _ (.map #[] 0) (E _ (r _ C))))
 have y6:=fun x y=>S _ y (R _ (G x _ (d _ (.map #[] 0) (E _ (r _ C)))))
 have y7:=fun x=>K _ (d _ (.map #[] 0) (G x _ (d _ (.map #[] 0) (E _ (r _ C)))))
 have y8:=fun x y=>S _ y (R _ (d _ (.map #[] 0) (G x _ (d _ (.map #[] 0) (E _ (r _ C))))))
 have y9:=fun x y=>S _ y (b6 _ (.map #[] 0) (R _ (G x _ (d _ (.map #[] 0) (E _ (r _ C))))))
 have e5:=fun x=>P _ x (b0 _ (.map #[] 0) (b0 _ (.map #[] 0) (a6 _ (V _ U))))
 have e6:=fun x=>K _ (G x _ (d _ (.map #[] 0) (d _ (.map #[] 0) (E _ (r _ C)))))
 have e7:=fun x y=>S _ y (R _ (G x _ (d _ (.map #[] 0) (d _ (.map #[] 0) (E _ (r _ C))))))
 have e8:=fun x=>P _ x (a6 _ (V _ (a4 _ (.map #[] 0) U)))
 have e9:=fun x=>K _ (G x _ (E _ (r _ (d _ (.map #[] 0) C))))
 have f0:=fun x y=>S _ y (R _ (G x _ (E _ (r _ (d _ (.map #[] 0) C)))))
 have f3:=fun x=>K _ (d _ (.map #[] 0) (G x _ (E _ (r _ (d _ (.map #[] 0) C)))))
 have f4:=fun x y=>S _ y (R _ (d _ (.map #[] 0) (G x _ (E _ (r _ (d _ (.map #[] 0) C))))))
 have f5:=fun x y=>S _ y (b6 _ (.map #[] 0) (R _ (G x _ (E _ (r _ (d _ (.map #[] 0) C))))))
 have f6:=fun x=>P _ x (b0 _ (.map #[] 0) (a6 _ (V _ (a4 _ (.map #[] 0) U))))
 have f7:=fun x=>K _ (G x _ (d _ (.map #[] 0) (E _ (r _ (d _ (.map #[] 0) C)))))
 have f8:=fun x y=>S _ y (R _ (G x _ (d _ (.map #[] 0) (E _ (r _ (d _ (.map #[] 0) C))))))
 have f9:=fun x=>P _ x (a6 _ (V _ (a4 _ (.map #[] 0) (a4 _ (.map #[] 0) U))))
 have g0:=fun x=>K _ (G x _ (E _ (r _ (d _ (.map #[] 0) (d _ (.map #[] 0) C)))))
 have g9:=fun x y=>S _ y (R _ (G x _ (E _ (r _ (d _ (.map #[] 0) (d _ (.map #[] 0) C))))))
 have o1:∀(a:World),O (fun k=>k=o.om 0\/k=o.om 3) w a->O (fun k=>k=o.om 0\/k=o.om 3) w (F1 a):=fun a b=>by rw[a0];exact b.setB (.inl rfl)
 have m1:∀(a:World) (f:Nat),w.heap.size<=f->a.heap[f]? =some (.map #[] 0)->(F1 a).heap[f]? =some (.map #[] 0):=fun a f I L=>by rw[a0];exact(Eo _ _ _ _ Z).trans L
 have o2:∀(x:Nat) (a:World),O (fun k=>k=o.om 0\/k=o.om 3) w a->O (fun k=>k=o.om 0\/k=o.om 3) w (F2 x a):=fun x a b=>by rw[a1];exact b.setB (.inl rfl)
 have m2:∀(x:Nat) (a:World) (f:Nat),w.heap.size<=f->a.heap[f]? =some (.map #[] 0)->(F2 x a).heap[f]? =some (.map #[] 0):=fun x a f I L=>by rw[a1];exact(Eo _ _ _ _ Z).trans L
 have o3:∀(a:World),O (fun k=>k=o.om 0\/k=o.om 3) w a->O (fun k=>k=o.om 0\/k=o.om 3) w (F3 a):=fun a b=>by rw[a2];exact b.setB (.inr rfl)
 have m3:∀(a:World) (f:Nat),w.heap.size<=f->a.heap[f]? =some (.map #[] 0)->(F3 a).heap[f]? =some (.map #[] 0):=fun a f I L=>by rw[a2];exact(Eo _ _ _ _ Z).trans L
 have q3:∀(a:World) v,a.heap[o.om 0]? =v->(F3 a).heap[o.om 0]? =v:=fun a v L=>by rw[a2];exact(Eo _ _ _ _ c7).trans L
 have o4:∀(x:Nat) (a:World),O (fun k=>k=o.om 0\/k=o.om 3) w a->O (fun k=>k=o.om 0\/k=o.om 3) w (F4 x a):=fun x a b=>by rw[a3];exact b.setB (.inr rfl)
 have m4:∀(x:Nat) (a:World) (f:Nat),w.heap.size<=f->a.heap[f]? =some (.map #[] 0)->(F4 x a).heap[f]? =some (.map #[] 0):=fun x a f I L=>by rw[a3];exact(Eo _ _ _ _ Z).trans L
 have q4:∀(x:Nat) (a:World) v,a.heap[o.om 0]? =v->(F4 x a).heap[o.om 0]? =v:=fun x a v L=>by rw[a3];exact(Eo _ _ _ _ c7).trans L
 have q2:∀f a,w.heap.size<=a.heap.size->(F2 f a).heap[o.om 0]? =some (.map (a7.push ⟨.int .i64 c,.map (some f),M⟩) (M+1)):=fun f a I=>by rw[a1];exact Tj _ _ _ Z
 have r4:∀f a,w.heap.size<=a.heap.size->(F4 f a).heap[o.om 3]? =some (.map (a8.push ⟨.int .i64 c,.map (some f),N⟩) (N+1)):=fun f a I=>by rw[a3];exact Tj _ _ _ Z
 have qa:∀(a:World) v,w.heap.size<=a.heap.size->a.heap[o.om 0]? =v->(a.alloc (.map #[] 0)).heap[o.om 0]? =v:=fun a v I L=>(al a _ _ l0 I).trans L
 have b4:∀(a:World) (f:Nat),f=a.heap.size->(a.alloc (.map #[] 0)).heap[f]? =some (.map #[] 0):=fun a f I=>by rw[I];exact heap_alloc_new a _
 have ma:∀(a:World) (f:Nat),a.heap[f]? =some (.map #[] 0)->(a.alloc (.map #[] 0)).heap[f]? =some (.map #[] 0):=fun a f I=>(gS _ _ _ (lt_of_block I)).trans I
 have md:∀(a:World) (f:Nat),a.heap[f]? =some (.map #[] 0)->a.drew.heap[f]? =some (.map #[] 0):=fun a f I=>I
 have c9:∀(a:World) (X Y:Nat),O (fun k=>k=o.om 0\/k=o.om 3) w a->a.heap[X]? =some (.map #[] 0)->a.heap[Y]? =some (.map #[] 0)->X≠Y->w.heap.size<=X->w.heap.size<=Y->a.heap[o.om 0]? =some (.map (a7.push ⟨.int .i64 c,.map (some X),M⟩) (M+1))->a.heap[o.om 3]? =some (.map (a8.push ⟨.int .i64 c,.map (some Y),N⟩) (N+1))->Z6 g p s u n o (fun t i=>l t i\/((t=0\/t=3)/\i=c)) m w a:=fun a X Y g1 g2 g3 g4 g5 g6 g7 g8=>by
  obtain⟨nb,b3⟩:∃nb:Nat->Nat->Option Nat,nb=fun t i=>if i=c then(if t=0 then some X else if t=3 then some Y else none)else none:=⟨_,rfl⟩
  have b5:∀t i f,nb t i=some f->(t=0/\i=c/\f=X)\/(t=3/\i=c/\f=Y):=fun t i f H=>by
   rw[b3]at H;dsimp only at H;split at H
   .next e=>
    split at H
    .next P=>cases H;exact .inl ⟨P,e,rfl⟩
    .split at H
     .next K=>cases H;exact .inr ⟨K,e,rfl⟩
     .cases H
   .cases H
  have d3:=b9 X trivial a g7;have d4:=c0 Y trivial a g8;refine⟨o.gr nb,h.grow (fun t i f H=>?_) (fun t i t' i' f H d7=>?_) (fun t ht=>?_) (g1.mono fun k _ q=>q.elim (fun q=>⟨0,Z,q⟩) fun q=>⟨3,Z,q⟩) (fun t i=>?_)⟩
  .rcases b5 t i f H with⟨rfl,rfl,rfl⟩|⟨rfl,rfl,rfl⟩
   .exact⟨Z,g5,Ov g2,fun q=>Z⟩
   .exact⟨Z,g6,Ov g3,fun q=>Z⟩
  .rcases b5 t i f H with⟨rfl,rfl,e⟩|⟨rfl,rfl,e⟩<;>rcases b5 t' i' f d7 with⟨rfl,rfl,e'⟩|⟨rfl,rfl,e'⟩
   .exact⟨rfl,rfl⟩
   .exact jO (e.symm.trans e') g4
   .exact jO (e'.symm.trans e) g4
   .exact⟨rfl,rfl⟩
  .by_cases e0:t=0
   .subst e0;refine d3.ext fun x=>?_
    unfold So.gr;dsimp only;rw[b3];dsimp only;by_cases e:x=c
    .rw[jH e,jH e,jH rfl]
    .rw[jG e,jG e]
   .by_cases K:t=3
    .subst K;refine d4.ext fun x=>?_
     unfold So.gr;dsimp only;rw[b3];dsimp only;by_cases e:x=c
     .rw[jH e,jH e,jG Z,jH rfl]
     .rw[jG e,jG e]
    .have:(o.gr nb).bk t=o.bk t:=funext fun x=>by
      unfold So.gr;dsimp only;rw[b3];dsimp only;by_cases e:x=c
      .rw[jH e,jG e0,jG K]
      .rw[jG e]
     rw[this]
     exact(h.mp t ht).d8 g1 fun q=>q.elim (fun q=>e0 (h.oj t 0 Z Z q)) fun q=>K (h.oj t 3 Z Z q)
  .constructor
   .rintro(q|⟨q1,q2⟩)
    .exact .inl q
    .rw[b3];rcases q1 with rfl|rfl
     .exact .inr ⟨X,by simp[q2]⟩
     .exact .inr ⟨Y,by simp[q2]⟩
   .rintro(q|⟨f,q⟩)
    .exact .inl q
    .rcases b5 t i f q with⟨e1,P,_⟩|⟨e1,P,_⟩
     .exact .inr ⟨.inl e1,P⟩
     .exact .inr ⟨.inr e1,P⟩
 have c8:=J c9;have d8:=@run_makeMap prog;have HH:=J h;have H1:=J a0;have H2:=J a1;have H3:=J a2;have H4:=J a3;have M0:=J b9;have M3:=J c0;clear e1 P K S U a4 V r C d E G a6 b0 d1 R b6 d2;have OO:=J (And.intro o1 (And.intro o2 (And.intro o3 o4)));have MM:=J (And.intro m1 (And.intro m2 (And.intro m3 (And.intro m4 (And.intro b4 (And.intro ma md))))));have QQ:=J (And.intro q2 (And.intro q3 (And.intro q4 (And.intro qa r4))));clear c9 o1 o2 o3 o4 m1 m2 m3 m4 b4 ma md q2 q3 q4 qa r4 h a0 a1 a2 a3 a9 a5 b1 b2 b7 b8 c5 c6 b9 c0 al;go_enter func84,ntmps84;go_region_held3(fun w'=>w'.cell? ⟨g,4,none⟩=some (.map (some (o.om 0)))/\w'.cell? ⟨g,7,none⟩=some (.map (some (o.om 3)))) (go_keep) (fail);all_goals
  go_wp2_with fail;go_end0;refine⟨rfl,?_⟩;obtain⟨o1,o2,o3,o4⟩:=OO.o;obtain⟨m1,m2,m3,m4,b4,ma,md⟩:=MM.o;obtain⟨q2,q3,q4,qa,r4⟩:=QQ.o;clear y1 y2 y3 y4;first
   |refine c8.o _ w.heap.size (w.heap.size+1) ?_ ?_ ?_ ?_ ?_ ?_ ?g7 (r4 (w.heap.size+1) _ (by simp[z1,z2,z3]<;>omega))
   |refine c8.o _ (w.heap.size+1) w.heap.size ?_ ?_ ?_ ?_ ?_ ?_ ?g7 (r4 w.heap.size _ (by simp[z1,z2,z3]<;>omega))
  case g7=>repeat(first|exact q2 _ _ (by simp[z1]<;>omega)|refine q3 _ _ ?_|refine q4 _ _ _ ?_|refine qa _ _ (by simp[z1,z2,z3]<;>omega) ?_)
  .repeat(first|exact O.refl _ _|refine o1 _ ?_|refine o2 _ _ ?_|refine o3 _ ?_|refine o4 _ _ ?_|refine O.alloc ?_ _|refine O.drew ?_)
  .repeat(first|refine m1 _ _ Z ?_|refine m2 _ _ _ Z ?_|refine m3 _ _ Z ?_|refine m4 _ _ _ Z ?_|refine md _ _ ?_|(refine b4 _ _ ?_;(simp[z1,z2,z3];done))|refine ma _ _ ?_)
  .repeat(first|refine m1 _ _ Z ?_|refine m2 _ _ _ Z ?_|refine m3 _ _ Z ?_|refine m4 _ _ _ Z ?_|refine md _ _ ?_|(refine b4 _ _ ?_;(simp[z1,z2,z3];done))|refine ma _ _ ?_)
  .omega
  .omega
  .omega
structure Db(b:Nat)(v:Value)(u p m:Nat)(o z:So)(l d:Nat->Nat->Prop)(w B:World):Prop where
 c:D5 b v u p m z l d B
 ow:∀k,z.own b k->o.own b k\/w.heap.size<=k
 on:O (o.own b) w B
section
variable{P:List PFn}{b:Nat}{v:Value}{u p m:Nat}{o z E:So}{l C d F:Nat->Nat->Prop}{w B w2:World}
theorem Db.rf(h:D5 b v u p m o l d w):Db b v u p m o o l d w w:=⟨h,fun _ q=>.inl q,O.refl _ _⟩
theorem Db.trans(h:Db b v u p m o z l d w B)(k:Db b v u p m z E C F B w2):Db b v u p m o E C F w w2:=
 ⟨k.c,fun j a=>(k.ow j a).elim (h.ow j) fun q=>.inr (gW h.on.size q),h.on.thn k.on fun j a q=>(h.ow j q).elim id fun r=>jO r Z⟩
theorem Db.s9(h:Db b v u p m o z l d w B)(k:O kD B w2):Db b v u p m o z l d w w2:=⟨h.c.d8 k (fun _ q=>q.elim),h.ow,h.on.dA k⟩
theorem D5.iff(h:D5 b v u p m o l d w)(a:∀t i,l t i↔C t i)(c:∀i x,d i x↔F i x):D5 b v u p m o C F w:=by rw[<-show l=C from funext fun t=>funext fun i=>propext (a t i),<-show d=F from funext fun t=>funext fun i=>propext (c t i)];exact h
theorem Db.iff(h:Db b v u p m o z l d w B)(a:∀t i,l t i↔C t i)(c:∀i x,d i x↔F i x):Db b v u p m o z C F w B:=⟨h.c.iff a c,h.ow,h.on⟩
theorem D5.noPlan(h:D5 b v u p m o l d w):NO (o.own b) w:=fun k c t f a q=>by
 rcases h.kind a with⟨_,_,e⟩|⟨_,e⟩
 .rw[e]at q;cases q
 .rw[e]at q;cases q;decide
theorem D5.ret(h:D5 b v u p m o l d w){f k y}(a:o.bk 4 f=some k)(I:Bl k (fun x=>d f x\/x=y) B)(s:O (fun j=>j=k) w B):Db b v u p m o o l (fun i x=>d i x\/(i=f/\x=y)) w B:=by
 obtain⟨N,c,K⟩:=(h.st 4 f k a).isMap;have M:b≠k:=fun q=>by have A:=h.bY;unfold W at A;rw[q,K]at A;cases A
 refine⟨{h with bY:=h.bY.d8 s M,mp:=fun g L=>(h.mp g L).d8 s (fun q=>h.ne 4 f k g a Z q.symm),st:=fun g G H t=>?_,fm:=h.fm.d8 s (fun q=>h.ne 4 f k 5 a Z q.symm)},fun _ q=>.inl q,s.mono fun j _ q=>by rw[q];exact .inr (.inr (.inl ⟨4,f,a⟩))⟩;by_cases e:g=4/\G=f
 .obtain⟨rfl,rfl⟩:=e;rw[a]at t;cases t;exact I.iff fun n=>jY
 .have:H≠k:=fun q=>e (h.dj g G 4 f k (q▸t) a)
  refine((h.st g G H t).d8 s this).iff fun n=>⟨fun q=>⟨q.1,.inl q.2⟩,fun q=>⟨q.1,q.2.elim id fun r=>jO ⟨q.1,r.1⟩ e⟩⟩
theorem D5.one(h:D5 b v u p m o l d w){t i f}(G:t<=4)(P:w.heap.size<=f)(R:B.heap[f]? =some (.map #[] 0))(Q:BK IK IJ (o.om t) (fun x=>if x=i then some f else o.bk t x) B)(A:O (fun k=>k=o.om t) w B)(S:t=4->∀x,¬d i x):
 ∃z,Db b v u p m o z (fun a j=>l a j\/(a=t/\j=i)) d w B:=by
 obtain⟨r,s⟩:∃r:Nat->Nat->Option Nat,r=fun a j=>if a=t/\j=i then some f else none:=⟨_,rfl⟩
 have y:∀a j g,r a j=some g->a=t/\j=i/\g=f:=fun a j g n=>by
  rw[s]at n;dsimp only at n;split at n
  .next e=>cases n;exact⟨e.1,e.2,rfl⟩
  .cases n
 obtain⟨c,X,V⟩:=h.grow (nb:=r) (Dm':=fun a j=>l a j\/(a=t/\j=i)) (w':=B) (fun a j g n=>by
  obtain⟨rfl,rfl,rfl⟩:=y a j g n;exact⟨G,P,Ov R,S⟩) (fun t1 Y t2 i2 g M N=>by
  obtain⟨H,I,_⟩:=y _ _ _ M;obtain⟨K,L,_⟩:=y _ _ _ N;exact⟨H.trans K.symm,I.trans L.symm⟩) (fun a U=>by
  by_cases e:a=t
  .subst e;refine Q.ext fun x=>?_
   unfold So.gr;dsimp only;rw[s];dsimp only;by_cases e:x=i
   .rw[jH e,jH ⟨rfl,e⟩]
   .rw[jG e,jG (fun q=>e q.2)]
  .have:(o.gr r).bk a=o.bk a:=funext fun x=>by unfold So.gr;dsimp only;rw[s];dsimp only;rw[jG (fun q=>e q.1)]
   rw[this]
   exact(h.mp a U).d8 A fun q=>e (h.oj a t Z Z q)) (A.mono fun k _ q=>⟨t,G,q⟩) (fun a j=>by
  rw[s];constructor
  .rintro(q|q)
   .exact .inl q
   .exact .inr ⟨f,by simp[q]⟩
  .rintro(q|⟨g,q⟩)
   .exact .inl q
   .dsimp only at q;split at q
    .next e=>exact .inr e
    .cases q)
 exact⟨_,c,X,V⟩
end
theorem KJ(P b v u p m o l d w)(A:AnOk P p m)(h:D5 b v u p m o l d w)(hp:Bv 0 w v P)(f:Nat)(hf:f<P.length)(hD:∀i,i<12->¬l 0 (vN f i)/\¬l 3 (vN f i))(hR:∀x,¬d f x):
 Calls prog 83 #[.pointer (some ⟨b,0,none⟩),.int .i64 f] w fun e w'=>e=.returned (.tuple #[])/\
  ∃o',Db b v u p m o o' (fun t i=>l t i\/((t=0\/t=3)/\∃j,j<(As P f).t8.length/\i=vN f j)\/(t=4/\i=f)) (fun i x=>d i x\/(i=f/\Fg P f x)) w w':=by
 obtain⟨r,Q,rfl,d4⟩:=hp.form Z;obtain⟨vv,sv,a9,b4,a6⟩:=hp.get hf;obtain⟨sa,sc,rfl,b2⟩:=a6.form;obtain⟨va,vl,vc,rfl⟩:=Ad b4;have d3:=Ag b4;have c1:=a9 1 Z;simp only[Oo,gF,gG]at c1;have b1:As P f=P[f]:=by unfold As;rw[gL hf];rfl
 rw[<-b1]at d3 a6 b2;subst d3;have g0:=A.cR;have g4:=A.ok.t8 f;have g2:=A.ok.many f;have p0:=h.bY.cell 0;have a7:=Ae h.bY;simp only[G7,gH,gF]at p0;have g1:(f:Int)<(P.length:Int):=Z;have HA:=J A;have HP:=J hp;have e5:=J a6;have e3:=J b2;have HC:=J h;have HD:=J hD;have HR:=J hR;have e2:=J b1;have e1:=J a9;have M0:D (Db b (.slice (some ⟨r,0,none⟩) P.length Q) u p m o o (fun t i=>l t i\/((t=0\/t=3)/\∃j,j<0/\i=vN f j)) d w w):=(Db.rf h).iff (fun t i=>⟨.inl,fun q=>q.elim id fun⟨_,j,q,_⟩=>Z⟩) (fun _ _=>Iff.rfl);clear h hp a6 b2 hD hR b1 b4 a9 A;go_enter func83,ntmps83;go_wp2_with fail;clear p0 c1 a7;go_loopw[17] (fun i wr=>∃(k:Nat) (z:So),k<=(As P f).t8.length/\i=.int .i64 k/\D (Db b (.slice (some ⟨r,0,none⟩) P.length Q) u p m o z (fun t i=>l t i\/((t=0\/t=3)/\∃j,j<k/\i=vN f j)) d w wr)) (fun i _=>(As P f).t8.length-(intOf i).toNat)
 case atStart=>exact⟨0,o,Z,rfl,M0⟩
 case round=>
  clear M0;obtain⟨k,z,hk,rfl,L⟩:=hrel;by_cases e9:k<(As P f).t8.length
  .have e8:(k:Int)<((As P f).t8.length:Int):=Z;have e7:k+1<=(As P f).t8.length:=e9;have b3:vN f k<20000:=by unfold vN;omega
   have a5:∀t,t=0\/t=3->¬(l t (vN f k)\/((t=0\/t=3)/\∃j,j<k/\vN f k=vN f j)):=fun t ht q=>by
    rcases q with q|⟨_,j,g,G⟩
    .have:=HD.o k Z;rcases ht with rfl|rfl
     .exact this.1 q
     .exact this.2 q
    .unfold vN at G;omega
   have b5:=J a5;clear a5;go_wp2_with(first|(go_at_call 119;refine(Fj f k _ Z Z).mono ?_;rintro e w' ⟨rfl,X⟩;have X:=X.symm;subst X));refine(Kn b _ u p m z _ d wr (vN f k) L.o.c b3 (b5.o 0 (.inl rfl)) (b5.o 3 (.inr rfl))).mono ?_;rintro e w2 ⟨rfl,E,c2,d7,d6⟩;have N:D (Db b (.slice (some ⟨r,0,none⟩) P.length Q) u p m o E (fun t i=>l t i\/((t=0\/t=3)/\∃j,j<k+1/\i=vN f j)) d w w2):=(L.o.trans ⟨c2,d7,d6⟩).iff (fun t i=>by
    constructor
    .rintro((q|⟨g,j,G,n⟩)|⟨g,G⟩)
     .exact .inl q
     .exact .inr ⟨g,j,Z,n⟩
     .exact .inr ⟨g,k,Z,G⟩
    .rintro(q|⟨g,j,G,n⟩)
     .exact .inl (.inl q)
     .by_cases e:j=k
      .subst e;exact .inr ⟨g,n⟩
      .exact .inl (.inr ⟨g,j,Z,n⟩)) (fun _ _=>Iff.rfl)
   clear c2 d7 d6 L;go_wp2_with fail;go_roundw
   case rel=>exact⟨k+1,E,e7,by go_num,N⟩
   case measure=>simp[intOf];omega
  .have e:k=(As P f).t8.length:=Z;subst e;have e8:decide (((As P f).t8.length:Int)<((As P f).t8.length:Int))=false:=jY;have p9:=L.o.c.bY.cell 9;have a7:=Ae L.o.c.bY;simp only[G7,gH,gF,gG]at p9;have f0:=@run_makeMap prog;have Y:O kD wr (wr.alloc (.map #[] 0)):=(O.refl _ wr).alloc _;obtain⟨w2,d1,c8,b0⟩:=(((L.o.c.mp 4 Z).d8 Y id)).put Ea underlying67 (k:=f) (a:=wr.heap.size) Z trivial;unfold GY at d1;have n4:wr.heap.size≠z.om 4:=fun q=>by have:=L.o.c.ownLt (k:=z.om 4) (.inr (.inl ⟨4,Z,rfl⟩));omega
   have c9:w2.heap[wr.heap.size]? =some (.map #[] 0):=(b0.block _ jY n4).trans (heap_alloc_new wr _);obtain⟨E,s2⟩:=L.o.c.one (t:=4) (i:=f) Z (gI _) c9 c8 ((Y.mono (fun _ _ q=>q.elim)).trans b0) (fun _=>HR.o);have b7:¬o.own b r:=fun q=>by obtain⟨cs,f8,_⟩:=HP.o;obtain⟨f9,e⟩:=DN f8;rcases HC.o.kind q with⟨_,_,e'⟩|⟨_,e'⟩<;>rw[e]at e'<;>cases e'
   have N:D (Db b (.slice (some ⟨r,0,none⟩) P.length Q) u p m o E (fun t i=>l t i\/((t=0\/t=3)/\∃j,j<(As P f).t8.length/\i=vN f j)\/(t=4/\i=f)) (fun i x=>d i x\/(i=f/\∃s c,c<0/\(As P f).r9[c]? =some s/\s.kind=10/\x=vN f s.cC)) w w2):=(L.o.trans s2).iff (fun t i=>by
    constructor
    .rintro((q|q)|q)
     .exact .inl q
     .exact .inr (.inl q)
     .exact .inr (.inr q)
    .rintro(q|q|q)
     .exact .inl (.inl q)
     .exact .inl (.inr q)
     .exact .inr q) (fun i x=>⟨.inl,fun q=>q.elim id fun⟨_,_,_,q,_⟩=>Z⟩)
   have c3:w2.cell? ⟨r,f*4+3,none⟩=some (.slice sa (As P f).r9.length sc):=by rw[gJ (N.o.on.block r d4 b7),e1.o 3 Z];simp only[Oo,gF,gG];rw[e2.o]
   have f3:r<w2.heap.size:=gY d4 N.o.on.size;have d8:=N.o.c.bY.cell 0;have f5:=Ae N.o.c.bY;simp only[G7,gH,gF]at d8;clear c9 c8 b0 s2 L Y;go_wp2_with fail;clear p9 a7 d1 c3 d8 f5 f0 f3 b7;go_loopw[42] (fun i wi=>∃(j:Nat) (I:So),j<=(As P f).r9.length/\i=.int .i64 j/\D (Db b (.slice (some ⟨r,0,none⟩) P.length Q) u p m o I (fun t i=>l t i\/((t=0\/t=3)/\∃j,j<(As P f).t8.length/\i=vN f j)\/(t=4/\i=f)) (fun i x=>d i x\/(i=f/\∃s c,c<j/\(As P f).r9[c]? =some s/\s.kind=10/\x=vN f s.cC)) w wi)) (fun i _=>(As P f).r9.length-(intOf i).toNat)
   case atStart=>exact⟨0,E,Z,rfl,N⟩
   case round=>
    clear N;obtain⟨j,I,hj,rfl,a0⟩:=hrel;by_cases a4:j<(As P f).r9.length
    .obtain⟨gs,rfl,d5⟩:=e3.o Z;have d2:=e5.o.d8 a0.o.on HC.o.noPlan;have f4:gs<wr.heap.size:=gY d5 a0.o.on.size;obtain⟨av,M,hI⟩:=d2.get a4;have c0:=M 0 Z;have c1:=M 1 Z;have c2:=M 2 Z;have c3:=M 3 Z;have c4:=M 4 Z;have c5:=M 5 Z;have c6:=M 6 Z;have c7:=M 7 Z;simp only[Ki,gF,gG,gX]at c0 c1 c2 c3 c4 c5 c6 c7;have f1:=HA.o.ok.ok f hf _ (gQ a4);have HG:=J (gL a4);have e6:(j:Int)<((As P f).r9.length:Int):=Z;have b9:j+1<=(As P f).r9.length:=a4;obtain⟨aa,al,ac,rfl⟩:=Ad hI;clear d2 M hI d5;generalize (As P f).r9[j]=s at*;have Y:O kD wr (wr.alloc (.cells #[.int .i64 s.kind,.int .i64 s.cO,.int .i64 s.cC,.int .i64 s.field,.int .i64 s.cA,.slice aa al ac,.int .i64 s.next,.int .i64 s.taken] 189)):=(O.refl _ wr).alloc _;have a3:=W.new wr #[.int .i64 s.kind,.int .i64 s.cO,.int .i64 s.cC,.int .i64 s.field,.int .i64 s.cA,.slice aa al ac,.int .i64 s.next,.int .i64 s.taken] 189;have b6:=a0.o.s9 Y;have a5:¬I.own b wr.heap.size:=fun q=>by have:=a0.o.c.ownLt q;omega
     go_upto_region 9 with fail;generalize wr.alloc (.cells #[.int .i64 s.kind,.int .i64 s.cO,.int .i64 s.cC,.int .i64 s.field,.int .i64 s.cA,.slice aa al ac,.int .i64 s.next,.int .i64 s.taken] 189)=V at*;generalize wr.heap.size=tb at*;obtain⟨t0,t2⟩:=a3.e2 0 2;have g5:=Ae a3;simp only[gH,gF,gG]at t0 t2;have H:=J b6;have e0:=J a3;clear c0 c1 c2 c3 c4 c5 c6 c7 b6 a3 Y f4;by_cases a1:s.kind=10
     .have f2:(((s.kind:Nat):Int)==10)=true:=by rw[a1];rfl
      have g3:=f1.sr Z;obtain⟨R,a2⟩:=(H.o.c.d 4 f).2 (.inr (.inr ⟨rfl,rfl⟩));have d9:=J a1;have b3:vN f s.cC<19200:=by unfold vN;omega
      have p9:=H.o.c.bY.cell 9;have a7:=Ae H.o.c.bY;simp only[G7,gH,gF,gG]at p9;have od:O kD V V.drew:=(O.refl _ V).drew;have l9:=(((H.o.c.mp 4 Z).d8 od id).look Ea underlying67 (Ci V.drew) (k:=f) Z false).2 R a2;unfold GY at l9;have d0:=((H.o.c.st 4 f R a2).d8 od id).iff (m':=fun x=>(d f x\/(f=f/\∃s c,c<j/\(As P f).r9[c]? =some s/\s.kind=10/\x=vN f s.cC))) fun x=>jY
      have e4:=J d0;have f6:b≠R:=fun q=>by obtain⟨_,_,e⟩:=(H.o.c.st 4 f R a2).isMap;have hb:=H.o.c.bY;unfold W at hb;rw[q,e]at hb;cases hb
      have f7:tb≠R:=fun q=>a5 (q▸.inr (.inr (.inl ⟨4,f,a2⟩)))
      have HS:D (∀W6,O (fun k=>k=R) V W6->W6.cell? ⟨b,9,none⟩=some (.map (some (I.om 4)))/\W6.cell? ⟨tb,2,none⟩=some (.int .i64 s.cC)):=fun W6 h6=>by have r1:=(H.o.c.bY.d8 h6 f6).cell 9;have r2:=(e0.o.d8 h6 f7).cell 2;simp only[G7,gH,gF,gG]at r1 r2;exact⟨r1,r2⟩
      clear a1 d0 od;go_wp2_with fail;go_region_held3(fun w'=>w'.cell? ⟨b,9,none⟩=some (.map (some (I.om 4)))/\w'.cell? ⟨tb,2,none⟩=some (.int .i64 s.cC)) (go_keep)
       (first
         |(go_at_call 119;refine(Fj f s.cC _ Z Z).mono ?_;rintro e w' ⟨rfl,X⟩;have X:=X.symm;subst X)
         |(go_at_call 91;refine(Gf R _ (vN f s.cC) _ e4.o b3).mono ?_;rintro e w6 ⟨rb,rfl,_,s6,o6⟩;have S6:=J s6;have O6:=J ((O.drew (O.refl (fun k=>k=R) V)).trans o6);clear s6 o6;obtain⟨r1,r2⟩:=HS.o w6 O6.o))
      all_goals
       have a8:D (Db b (.slice (some ⟨r,0,none⟩) P.length Q) u p m o I (fun t i=>l t i\/((t=0\/t=3)/\∃j,j<(As P f).t8.length/\i=vN f j)\/(t=4/\i=f)) (fun i x=>d i x\/(i=f/\∃s c,c<j+1/\(As P f).r9[c]? =some s/\s.kind=10/\x=vN f s.cC)) w w6):=(H.o.trans (H.o.c.ret (y:=vN f s.cC) a2 (S6.o.iff fun x=>jY) O6.o)).iff (fun _ _=>Iff.rfl) (fun i x=>by
        constructor
        .rintro((q|⟨g,K,c,G,n⟩)|⟨g,G⟩)
         .exact .inl q
         .exact .inr ⟨g,K,c,Z,n⟩
         .exact .inr ⟨g,s,j,Z,HG.o,d9.o,G⟩
        .rintro(q|⟨g,K,c,G,n,S,U⟩)
         .exact .inl (.inl q)
         .by_cases e:c=j
          .subst e;rw[HG.o]at n;cases n;exact .inr ⟨g,U⟩
          .exact .inl (.inr ⟨g,K,c,Z,n,S,U⟩))
       clear S6 O6;go_wp2_with fail;go_roundw
       case rel=>exact⟨j+1,I,b9,by go_num,a8⟩
       case measure=>simp[intOf];omega
     .have f2:(((s.kind:Nat):Int)==10)=false:=jX;have a8:D (Db b (.slice (some ⟨r,0,none⟩) P.length Q) u p m o I (fun t i=>l t i\/((t=0\/t=3)/\∃j,j<(As P f).t8.length/\i=vN f j)\/(t=4/\i=f)) (fun i x=>d i x\/(i=f/\∃s c,c<j+1/\(As P f).r9[c]? =some s/\s.kind=10/\x=vN f s.cC)) w V):=H.o.iff (fun _ _=>Iff.rfl) (fun i x=>by
       constructor
       .rintro(q|⟨g,K,c,G,n⟩)
        .exact .inl q
        .exact .inr ⟨g,K,c,Z,n⟩
       .rintro(q|⟨g,K,c,G,n,S,U⟩)
        .exact .inl q
        .by_cases e:c=j
         .subst e;rw[HG.o]at n;cases n;exact jO S a1
         .exact .inr ⟨g,K,c,Z,n,S,U⟩)
      clear a1;go_wp2_with fail;go_roundw
      case rel=>exact⟨j+1,I,b9,by go_num,a8⟩
      case measure=>simp[intOf];omega
    .have e:j=(As P f).r9.length:=Z;subst e;have e6:decide (((As P f).r9.length:Int)<((As P f).r9.length:Int))=false:=jY;have HX:D (Db b (.slice (some ⟨r,0,none⟩) P.length Q) u p m o I (fun t i=>l t i\/((t=0\/t=3)/\∃j,j<(As P f).t8.length/\i=vN f j)\/(t=4/\i=f)) (fun i x=>d i x\/(i=f/\Fg P f x)) w wr):=a0.o.iff (fun _ _=>Iff.rfl) (fun i x=>by
      constructor
      .rintro(q|⟨g,K,c,G,n,S,U⟩)
       .exact .inl q
       .exact .inr ⟨g,K,List.mem_of_getElem? n,S,U⟩
      .rintro(q|⟨g,K,n,S,U⟩)
       .exact .inl q
       .obtain⟨c,b8,e⟩:=iF.1 n;exact .inr ⟨g,K,c,b8,by rw[gL b8,e],S,U⟩)
     go_wp2_with fail;go_end0;exact⟨rfl,I,HX.o⟩

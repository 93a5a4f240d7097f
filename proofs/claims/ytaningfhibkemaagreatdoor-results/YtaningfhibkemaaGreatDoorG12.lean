/- Part of the proof: ChB ChC ChD CkH CkI. -/
import Derived.Test.YtaningfhibkemaaGreatDoorG09
set_option maxRecDepth 100000
set_option maxHeartbeats 2000000
namespace Go.Proofs.YtaningfhibkemaaGreatDoor
open Go.RowKit Go.Proofs.Tryz Go.Maps
structure RK(j wb B p o:Nat)(U:Nat->Prop)(fv m:Value)(d:List RF)(r:List FS)(c:CS)(w:World):Prop where
 pr:BZ j fv m p o w
 fn:Cp B w fv d
 st:Bx B U w m r
 wr:IU wb c w
def KX(wb B:Nat)(fv:Value)(w:World)(k:Nat):Prop:=k=wb\/fv.ownBlock=some k\/(B<=k/\∃a b,w.heap[k]? =some (.cells a 9 b))
def DP(wb B:Nat)(fv:Value)(w l:World):Prop:=O (KX wb B fv w) w l
theorem DP.refl(wb B fv w):DP wb B fv w w:=O.refl _ _
theorem DP.trans{wb B:Nat}{fv:Value}{a b c:World}(h:DP wb B fv a b)(k:DP wb B fv b c):DP wb B fv a c:=by
 refine⟨k.os.trans h.os,k.tape.trans h.tape,k.output.trans h.output,gW h.size k.size,fun i g f=>?_⟩;have e:=h.block i g f;rw[k.block i (gY g h.size) ?_,e];rintro(q|q|⟨t,n,s,q⟩)
 .exact f (.inl q)
 .exact f (.inr (.inl q))
 .rw[e]at q;exact f (.inr (.inr ⟨t,n,s,q⟩))
theorem DP.cV{wb B fv a b}(h:O (fun k=>k=wb) a b):DP wb B fv a b:=h.mono (fun _ _ q=>.inl q)
theorem DP.cM{wb B fv a b}(h:O kD a b):DP wb B fv a b:=h.mono (fun _ _ q=>q.elim)
theorem DP.bY{wb B b fv c t w l}(h:DP wb B fv w l)(e:W b c t w)(f:b≠wb)(g:fv.ownBlock≠some b)(i:t≠9):W b c t l:=by
 refine e.d8 h ?_;rintro(q|q|⟨_,k,n,q⟩)
 .exact f q
 .exact g q
 .have a:w.heap[b]? =_:=e;rw[q]at a;simp only[gN,gU]at a;exact i a.2.1.symm
theorem DP.row{wb B fv e g v n i w l}(h:DP wb B fv w l)(y:w.ownsRow B e g v n i){c}(C:IU wb c w){d}(x:Cp B w fv d)(s:e≠82)(t:e≠53)(u:e≠9):l.ownsRow B e g v n i:=by
 refine Ai y h ?_;rintro k G L (q|q|⟨_,K,M,q⟩) b
 .subst q;have f:w.heap[k]? =_:=C;rw[b]at f;simp only[gN,gU]at f;exact s f.2.1
 .obtain⟨H,z,_⟩:=x;rcases z.2 with⟨E,_⟩|⟨N,F,I,A,_,a,_⟩
  .rw[E]at q;simp[Value.ownBlock]at q
  .rw[A]at q;simp[Value.ownBlock]at q;subst q;rw[b]at a;simp only[gN,gU]at a;exact t a.2.1
 .rw[b]at q;simp only[gN,gU]at q;exact u q.2.1
section
variable{j wb B p o:Nat}{U:Nat->Prop}{fv m:Value}{d:List RF}{r:List FS}{c:CS}{w l:World}
theorem RK.dI(K:RK j wb B p o U fv m d r c w):∀k,fv.ownBlock=some k->k≠wb/\k≠j:=by intro k a;obtain⟨e,b,_⟩:=K.fn;exact⟨Am b K.wr T k a,Am b K.pr T k a⟩
theorem RK.fX(K:RK j wb B p o U fv m d r c w):∀k,m.ownBlock=some k->k≠wb/\k≠j:=by intro k a;obtain⟨e,b,_⟩:=K.st;exact⟨Am b K.wr T k a,Am b K.pr T k a⟩
theorem RK.pw(K:RK j wb B p o U fv m d r c w):j≠wb:=K.pr.bY.ne K.wr T
theorem RK.s9(K:RK j wb B p o U fv m d r c w)(a:O kD w l):RK j wb B p o U fv m d r c l:=
 ⟨K.pr.bY.d8 a id,K.fn.s9 a,K.st.s9 a,W.d8 K.wr a id⟩
theorem RK.add{i:CS}(K:RK j wb B p o U fv m d r c w)(q:IU wb i l)(g:O (fun k=>k=wb) w l):RK j wb B p o U fv m d r i l:=by
 have n:∀(k:Nat) (b:Array Value) (t:TypeId) (e:Nat×Nat),k=wb->w.heap[k]? =some (.cells b t e)->t=82:=by intro k b t e a f;subst a;have h:w.heap[k]? =_:=K.wr;rw[f]at h;simp only[gN,gU]at h;exact h.2.1
 exact⟨K.pr.bY.d8 g K.pw,K.fn.d8 g (fun k a=>(K.dI k a).1) (fun k b t e a f=>by rw[n k b t e a f];decide),K.st.d8 g (fun k a=>(K.fX k a).1) (fun k b t e a f=>by rw[n k b t e a f];decide),q⟩
end
def DL(a:List ByteArray)(t:Tk)(c:CS):CS:=if 0<=Bz a t.d9 0 then c else Be 6 t.pos c
def Em(d:List RF)(t:Tk)(a:Int)(c:CS):CS:=
 if 0<=Bz (d.map fun f=>f.name.d9) t.d9 0 then
  (if 0<=a/\((((d.map fun f=>f.cG.length)[(Bz (d.map fun f=>f.name.d9) t.d9 0).toNat]?).getD 0:Nat):Int)≠a then Be 7 t.pos c else c)
 else Be 6 t.pos c
def Dk(b:List ByteArray)(t:Tk)(c:CS):CS:=
 let a:=if 12<=b.length then Be 4 t.pos c else c
 if 0<=Bz b t.d9 0 then Be 5 t.pos a else a
theorem C7(j wb B p o b:Nat)(U:Nat->Prop)(fv m:Value)(d:List RF)(r:List FS)(c:CS)(t:Tk)(w:World)(K:RK j wb B p o U fv m d r c w)(F:b<d.length)(V:d.length<=4001)(y:d[b].t8.length<=4001):
 Calls prog 56 #[.pointer (some ⟨j,0,none⟩),.pointer (some ⟨wb,0,none⟩),.int .i64 b,JN t] w fun e l=>e=.returned (.tuple #[])/\RK j wb B p o U fv m d r (DL d[b].t8 t c) l/\DP wb B fv w l:=by
 have L:=K.pr.bY.cell 0;simp at L;have Y:=Ae K.pr;have lw:=Ae K.wr;have E:=K.fn;obtain⟨R,i,_⟩:=E;obtain⟨va,vl,vc,rfl⟩:=Ad i;have H:=Ag i;subst H;obtain⟨g,rfl⟩:=Ap i Z;have X:=(i.lt g rfl).2;obtain⟨tv,Q,vv,u,_,_,s⟩:=K.fn.get F;have A:=u 6 Z;simp only[EH,gH,gF,gG]at A;obtain⟨M,P,N,rfl⟩:=Ad s;have S:(b:Int)<(d.length:Int):=Z;have k:=J K;have z:=J s;clear u i K s;generalize I:d[b].t8=a at*;clear I;unfold JN;have x:∀n:Nat,Au B (((w.alloc (.cells #[.string t.d9,.int .i64 t.pos,.int .i64 t.sort] 49))).drewN n) (.slice M P N) a:=fun n=>Ac z.o (((O.refl kD w).alloc _).drewN n) (fun _ _ q=>q)
 by_cases h:0<=Bz a t.d9 0
 .have f:DL a t c=c:=by simp[DL,h]
  rw[f];have C:decide (Bz a t.d9 0<0)=false:=by simp;exact h
  clear f h;go_enter func56,ntmps56;go_wp2;go_quiet((go_at_call 55;refine Calls.quiet_of_same (Ga B _ a t.d9 _ (x _) y)));go_wp2;go_end0;exact⟨rfl,k.o.s9 (((O.refl _ w).alloc _).drewN _),DP.cM (((O.refl _ w).alloc _).drewN _)⟩
 .have f:DL a t c=Be 6 t.pos c:=by simp[DL,h]
  rw[f];have C:decide (Bz a t.d9 0<0)=true:=jX;clear f h;go_enter func56,ntmps56;go_wp2;go_quiet((go_at_call 55;refine Calls.quiet_of_same (Ga B _ a t.d9 _ (x _) y)));go_wp2_with(go_at_call 19;refine(Ch wb 6 t.pos c _ (k.o.s9 (((O.refl _ w).alloc _).drewN _)).wr).mono ?_);rintro e w2 ⟨rfl,G,v⟩;go_wp2;go_end0;exact⟨rfl,(k.o.s9 (((O.refl _ w).alloc _).drewN _)).add G v,(DP.cM (((O.refl _ w).alloc _).drewN _)).trans (DP.cV v)⟩
theorem Im(j wb B p o:Nat)(U:Nat->Prop)(fv m:Value)(d:List RF)(r:List FS)(c:CS)(t:Tk)(z:Int)(w:World)(K:RK j wb B p o U fv m d r c w)(C:d.length<=4001)(E:z= -1\/∃a:Nat,z=a/\a<=4001):
 Calls prog 100 #[.pointer (some ⟨j,0,none⟩),.pointer (some ⟨wb,0,none⟩),JN t,.int .i64 z] w fun e l=>e=.returned (.tuple #[])/\RK j wb B p o U fv m d r (Em d t z c) l/\DP wb B fv w l:=by
 have Y:=K.pr.bY.cell 0;simp at Y;have lp:=Ae K.pr;have lw:=Ae K.wr;have Q:=K.fn;obtain⟨cs,s,_⟩:=Q;obtain⟨va,vl,vc,rfl⟩:=Ad s;have R:=Ag s;subst R;have k:=J K;have A:=CR (d.map fun f=>f.name.d9) t.d9 0;have b:=J ((O.refl kD w).alloc (.cells #[.string t.d9,.int .i64 t.pos,.int .i64 t.sort] 49));unfold JN;by_cases x:0<=Bz (d.map fun f=>f.name.d9) t.d9 0
 .obtain⟨i,q⟩:∃i:Nat,Bz (d.map fun f=>f.name.d9) t.d9 0=i:=⟨(Bz (d.map fun f=>f.name.d9) t.d9 0).toNat,Z⟩;have M:i<d.length:=by have:=A.2.2;simp only[iJ]at this;omega
  obtain⟨g,rfl⟩:=Ap s Z;have lg:=(s.lt g rfl).2;obtain⟨tv,bv,vv,I,G,_,_⟩:=K.fn.get M;have N:=I 3 Z;simp only[EH,gH,gF,gG]at N;obtain⟨xa,u,xc,rfl⟩:=Ad G;have X:=Ag G;have a1:(i:Int)<(d.length:Int):=Z;have a0:decide ((i:Int)<0)=false:=jY;have L:(((d.map fun f=>f.cG.length)[i]?).getD 0:Nat)=u:=by rw[iL,gL M,X];rfl
  clear I s K G A;rcases E with E|⟨a,rfl,ha⟩
  .subst E;have n:Em d t (-1) c=c:=by simp[Em,x]
   rw[n];clear n x;go_enter func100,ntmps100;go_wp2_with(go_at_call 20;refine(DI B j p o _ m d t.d9 _ (k.o.s9 b.o).pr (k.o.s9 b.o).fn C).mono ?_;rw[q];rintro e l ⟨rfl,h⟩;have h:=h.symm;subst h);go_end0;exact⟨rfl,k.o.s9 b.o,DP.cM b.o⟩
  .by_cases H:u=a
   .have n:Em d t a c=c:=by simp only[Em,q,Int.toNat_natCast,L,H];simp
    rw[n];have S:((u:Int) !=(a:Int))=false:=by simp[H]
    have V:((u:Int)==(a:Int))=true:=by simp[H]
    have P:decide ((0:Int)<=(a:Int))=true:=jY;clear n x;go_enter func100,ntmps100;go_wp2_with(go_at_call 20;refine(DI B j p o _ m d t.d9 _ (k.o.s9 b.o).pr (k.o.s9 b.o).fn C).mono ?_;rw[q];rintro e l ⟨rfl,h⟩;have h:=h.symm;subst h);go_end0;exact⟨rfl,k.o.s9 b.o,DP.cM b.o⟩
   .have n:Em d t a c=Be 7 t.pos c:=by simp only[Em,q,Int.toNat_natCast,L];rw[jH Z,jH ⟨Z,Z⟩]
    rw[n];have S:((u:Int) !=(a:Int))=true:=jX;have V:((u:Int)==(a:Int))=false:=jX;have P:decide ((0:Int)<=(a:Int))=true:=jY;clear n x;go_enter func100,ntmps100;go_wp2_with(first|(go_at_call 20;refine(DI B j p o _ m d t.d9 _ (k.o.s9 b.o).pr (k.o.s9 b.o).fn C).mono ?_;rw[q];rintro e l ⟨rfl,h⟩;have h:=h.symm;subst h)|(go_at_call 19;refine(Ch wb 7 t.pos c _ (k.o.s9 b.o).wr).mono ?_;rintro e w2 ⟨rfl,F,y⟩));go_end0;exact⟨rfl,(k.o.s9 b.o).add F y,(DP.cM b.o).trans (DP.cV y)⟩
 .have q:Bz (d.map fun f=>f.name.d9) t.d9 0= -1:=by have:=A.2.1;omega
  have n:Em d t z c=Be 6 t.pos c:=by simp[Em,q]
  rw[n];clear n x s K A;go_enter func100,ntmps100;go_wp2_with(first|(go_at_call 20;refine(DI B j p o _ m d t.d9 _ (k.o.s9 b.o).pr (k.o.s9 b.o).fn C).mono ?_;rw[q];rintro e l ⟨rfl,h⟩;have h:=h.symm;subst h)|(go_at_call 19;refine(Ch wb 6 t.pos c _ (k.o.s9 b.o).wr).mono ?_;rintro e w2 ⟨rfl,F,y⟩));refine gP (v:=.tuple #[]) (by simp[results,results100,go_sem]) rfl ⟨rfl,(k.o.s9 b.o).add F y,(DP.cM b.o).trans (DP.cV y)⟩
theorem Tryz.infoStr:(Tryz.prog.info? 9).map (fun i=>(i.zero,i.size,i.bytes))=some (some (.string ByteArray.empty),1,16):=jW
theorem Jf{s:Nat}:∀{a:List (List Value)},(∀c,c∈a->c.length=s)->∀{i j:Nat} (d:i<a.length),j<s->∀u,a.flatten.set (i*s+j) u=(a.set i (a[i].set j u)).flatten
 |[],_,_,_,d,_,_=>by simp at d
 |c::a,f,i,j,d,g,u=>by
  have b:=f c (jF ..);cases i with
  |zero=> simp only[Nat.zero_mul,iO,List.flatten_cons,An,iD];rw[List.set_append_left _ _ Z]
  |succ i=>
   simp only[List.flatten_cons,jU,iX];rw[List.set_append_right _ _ (by rw[b,Nat.succ_mul];omega),b];have e:(i+1)*s+j-s=i*s+j:=by rw[Nat.succ_mul];omega
   rw[e,Jf (fun c b=>f c (iA _ b)) (by simpa using d) g u]
def PV(f:RF)(s:ByteArray):RF:={f with t8:=f.t8++[s]}
theorem Cp.decl{B w a0 u g l c b r A p s}(h:Cp B w (.slice (some ⟨g,0,none⟩) l c) r)(hi:b<r.length)(a1:w.cell? ⟨g,b*7+6,none⟩=some A)
 (hW:O kD w a0)(hg:a0.grownBy u A.ownBlock)(b0:u.ownsRow B 9 1 p (r[b].t8.length+1) (r[b].t8.map Value.string++[.string s]))(X:∀k,p.ownBlock=some k->A.ownBlock=some k\/w.heap.size<=k):
 Cp B (u.setCell ⟨g,b*7+6,none⟩ p) (.slice (some ⟨g,0,none⟩) l c) (r.set b (PV r[b] s))/\O (fun k=>k=g\/A.ownBlock=some k) w (u.setCell ⟨g,b*7+6,none⟩ p)/\∀k,A.ownBlock=some k->B<=k/\∃o f,w.heap[k]? =some (.cells o 9 f):=by
 obtain⟨o,F,hl,M,I⟩:=h;have b4:=Ag F;subst b4;have z:b<o.length:=Z;have h7:∀x,x∈o->x.length=7:=by intro x hx;obtain⟨j,E,rfl⟩:=iF.1 hx;obtain⟨_,_,_,e,_⟩:=M j E Z;rw[e];rfl
 obtain⟨tv,bv,H,e,h1,h2,Q⟩:=M b z hi;have b1:H=A:=by have R:=F.cellAt (b*7+6) Z;rw[R,Cw h7 z Z,e]at a1;simpa[EH]using a1
 subst b1;have Y:QN o[b]=H:=by rw[e];rfl
 have G:∀k,H.ownBlock=some k->B<=k/\∃o f,w.heap[k]? =some (.cells o 9 f):=by
  intro k a;refine⟨(Q.lt k a).1,?_⟩;rcases Q.2 with⟨q,_⟩|⟨g',b5,b6,hv,_,hh,_⟩
  .rw[q]at a;simp[Value.ownBlock]at a
  .rw[hv]at a;simp[Value.ownBlock]at a;subst a;exact⟨_,_,hh⟩
 obtain⟨gc,a9⟩:=DN F;have a5:∀k,H.ownBlock=some k->k≠g:=Am Q a9 T;have v:O (fun k=>H.ownBlock=some k) w u:=O.grown (hW.mono (fun _ _ q=>q.elim)) hg (fun k a=>.inl a);have y:=(O.refl (fun k=>k=g) u).t9 (b*7+6) p;have a6:u.ownsRow B 53 7 (.slice (some ⟨g,0,none⟩) r.length c) r.length o.flatten:=Ac F v (fun k a q=>by simp[Value.ownBlock]at a;exact a5 k q a.symm)
 have b9:=(F.lt g rfl).2;have b2:∀k,p.ownBlock=some k->k≠g:=fun k a=>by
  rcases X k a with q|q
  .exact a5 k q
  .omega
 have C:∀(k:Nat) (n:Array Value) (t:TypeId) (f:Nat×Nat),k=g->u.heap[k]? =some (.cells n t f)->t≠3/\t≠49/\t≠9:=by intro k n t f a R;subst a;obtain⟨b7,S⟩:=DN a6;rw[R]at S;simp only[gN,gU]at S;rw[S.2.1];decide
 refine⟨⟨o.set b (o[b].set 6 p),?_,by simp[hl],?_,?_⟩,?_,G⟩
 .have:=(a6.stored (b*7+6) p).1;rw[Jf h7 z Z]at this;simpa using this
 .intro j a8 b8;by_cases E:b=j
  .subst E;simp only[List.getElem_set_self];refine⟨tv,bv,p,by rw[e];rfl,?_,?_,?_⟩
   .refine Ai (Ai h1 v (fun k n f a q=>?_)) y (fun k n f a q=>(C k n _ f a q).2.1 rfl);obtain⟨_,N,P,d⟩:=G k a;rw[q]at d;simp only[gN,gU]at d;exact jO d.2.1 T
   .refine Ai (Ai h2 v (fun k n f a q=>?_)) y (fun k n f a q=>(C k n _ f a q).1 rfl);obtain⟨_,N,P,d⟩:=G k a;rw[q]at d;simp only[gN,gU]at d;exact jO d.2.1 T
   .have:=Ac b0 y b2;unfold Au PV;simpa using this
  .simp only[List.getElem_set_ne E];have a3:j<o.length:=by simpa using a8
   obtain⟨tj,bj,vj,ej,j1,j2,j3⟩:=M j a3 Z;have b3:QN o[j]=vj:=by rw[ej];rfl
   refine⟨tj,bj,vj,ej,?_,?_,?_⟩
   .refine Ai (Ai j1 v (fun k n f a q=>?_)) y (fun k n f a q=>(C k n _ f a q).2.1 rfl);obtain⟨_,N,P,d⟩:=G k a;rw[q]at d;simp only[gN,gU]at d;exact jO d.2.1 T
   .refine Ai (Ai j2 v (fun k n f a q=>?_)) y (fun k n f a q=>(C k n _ f a q).1 rfl);obtain⟨_,N,P,d⟩:=G k a;rw[q]at d;simp only[gN,gU]at d;exact jO d.2.1 T
   .refine Ai (Ac j3 v (fun k a q=>?_)) y (fun k n f a q=>(C k n _ f a q).2.2 rfl);exact I b j z a3 E k (by rw[Y];exact q) (by rw[b3];exact a)
 .intro i j K L V k a;simp only[jL]at K L;have a4:∀m (hm:m<o.length) k,(QN o[m]).ownBlock=some k->k<w.heap.size:=by intro m hm k a;obtain⟨_,_,vm,em,_,_,m3⟩:=M m hm Z;rw[em]at a;exact(m3.lt k a).2
  have a7:QN (o[b].set 6 p)=p:=by rw[e];rfl
  by_cases U:b=i
  .subst U;rw[List.getElem_set_self,a7]at a;rw[List.getElem_set_ne V];intro q;rcases X k a with d|d
   .exact I b j z L V k (by rw[Y];exact d) q
   .have:=a4 j L k q;omega
  .rw[List.getElem_set_ne U]at a;by_cases a2:b=j
   .subst a2;rw[List.getElem_set_self,a7];intro q;rcases X k q with d|d
    .exact I b i z K U k (by rw[Y];exact d) a
    .have:=a4 i K k a;omega
   .rw[List.getElem_set_ne a2];exact I i j K L V k a
 .exact(v.mono (fun k _ q=>.inr q)).trans (y.mono (fun k _ q=>.inl q))
theorem RK.decl{A r B C s g l h:Nat}{U:Nat->Prop}{E:Value}{F v:List RF}{x:List FS}{c:CS}{m:Value}{w n:World}(K:RK A r B C s U (.slice (some ⟨g,0,none⟩) l h) E F x c w)(hF:Cp B n (.slice (some ⟨g,0,none⟩) l h) v)(j:O (fun k=>k=g\/m.ownBlock=some k) w n)(y:∀k,m.ownBlock=some k->B<=k/\∃u f,w.heap[k]? =some (.cells u 9 f)):
 RK A r B C s U (.slice (some ⟨g,0,none⟩) l h) E v x c n/\DP r B (.slice (some ⟨g,0,none⟩) l h) w n:=by
 have L:=K.fn;obtain⟨u,N,_⟩:=L;obtain⟨gc,o⟩:=DN N;have p:∀(k:Nat) (d:Array Value) (t:TypeId) (f:Nat×Nat),(k=g\/m.ownBlock=some k)->w.heap[k]? =some (.cells d t f)->t=53\/t=9:=by
  rintro k d t f (a|a) i
  .subst a;rw[i]at o;simp only[gN,gU]at o;exact .inl o.2.1
  .obtain⟨_,Y,a0,q⟩:=y k a;rw[i]at q;simp only[gN,gU]at q;exact .inr q.2.1
 have hK:=K.dI g rfl;have z:∀(b:Nat) (d:Array Value) (t:TypeId),W b d t w->t≠53->t≠9->¬(b=g\/m.ownBlock=some b):=fun b d t I G H q=>(p b d t (0,0) q I).elim G H
 refine⟨⟨K.pr.bY.d8 j (z _ _ _ K.pr.bY T T),hF,K.st.d8 j (fun k a q=>?_) (fun k d t f a i=>?_),W.d8 K.wr j (z _ _ _ K.wr T T)⟩,j.mono (fun k _ q=>?_)⟩
 .obtain⟨V,P,_⟩:=K.st;rcases P.2 with⟨R,_⟩|⟨g',S,X,Q,_,M,_⟩
  .rw[R]at a;simp[Value.ownBlock]at a
  .rw[Q]at a;simp[Value.ownBlock]at a;subst a;exact(p _ _ _ _ q M).elim T T
 .rcases p k d t f a i with e|e<;>(rw[e];decide)
 .rcases q with q|q
  .exact .inr (.inl (by rw[q];rfl))
  .exact .inr (.inr (y k q))
theorem O.cell{X:Nat->Prop}{w a b}(d:O X w a)(i)(c:b<w.heap.size)(e:¬X b):a.cell? ⟨b,i,none⟩=w.cell? ⟨b,i,none⟩:=gJ (d.block b c e)
theorem Jy(pb o B pl ca d:Nat)(U:Nat->Prop)(fv sv:Value)(F:List RF)(fs:List FS)(c:CS)(t:Tk)(w:World)(K:RK pb o B pl ca U fv sv F fs c w)(hi:d<F.length)(hn:F.length<=4001)(hv:F[d].t8.length<=4001):
 Calls prog 21 #[.pointer (some ⟨pb,0,none⟩),.pointer (some ⟨o,0,none⟩),.int .i64 d,JN t] w fun e w'=>e=.returned (.tuple #[])/\RK pb o B pl ca U fv sv (F.set d (PV F[d] t.d9)) fs (Dk F[d].t8 t c) w'/\DP o B fv w w':=by
 obtain⟨i0,b5,b7,b8,b9⟩:=info_parts Tryz.infoStr;have p0:=K.pr.bY.cell 0;simp at p0;have lp:=Ae K.pr;have lw:=Ae K.wr;have a0:=K.fn;obtain⟨cs,p1,_⟩:=a0;obtain⟨va,vl,vc,rfl⟩:=Ad p1;have d4:=Ag p1;subst d4;obtain⟨g,rfl⟩:=Ap p1 Z;have lg:=(p1.lt g rfl).2;obtain⟨tv,bv,vv,hc,_,_,b6⟩:=K.fn.get hi;have c6:=hc 6 Z;simp only[EH,gH,gF,gG]at c6;obtain⟨xa,xl,xc,rfl⟩:=Ad b6;have d5:=Ag b6;have e2:(d:Int)<(F.length:Int):=Z;have m:=J ((O.refl kD w).alloc (.cells #[.string t.d9,.int .i64 t.pos,.int .i64 t.sort] 49));have HT:=J (W.new w #[.string t.d9,.int .i64 t.pos,.int .i64 t.sort] 49);have HK:=J K;have b3:=J b6;have d1:=(K.dI g rfl).1;clear hc p1 K b6;generalize d2:F[d].t8=a at*;have a2:=J d2;clear d2;subst d5;unfold JN;by_cases b4:12<=a.length
 .have d7:decide ((12:Int)<=(a.length:Int))=true:=jX;by_cases Y:0<=Bz a t.d9 0
  .have v:=Y;have L:Dk a t c=Be 5 t.pos (Be 4 t.pos c):=by simp only[Dk,jH b4,jH Y]
   have c3:decide ((0:Int)<=Bz a t.d9 0)=true:=jX;rw[L];clear L;go_enter func21,ntmps21;go_wp2_with(go_at_call 19;refine(Ch o 4 t.pos c _ (HK.o.s9 m.o).wr).mono ?_;rintro e C ⟨rfl,b1,r⟩);have V:=J ((HK.o.s9 m.o).add b1 r);have G:=J (W.d8 HT.o r Z);have F2:=J ((DP.cM (wb:=o) (B:=B) (fv:=(.slice (some ⟨g,0,none⟩) F.length vc)) m.o).trans (DP.cV r));have d3:=(r.cell (d*7+6) jX d1).trans ((m.o.cell (d*7+6) lg id).trans c6);obtain⟨c7,c8⟩:=G.o.e2 0 1;simp only[gH,gF,gG]at c7 c8;have hq:∀n:Nat,Au B (C.drewN n) (.slice xa a.length xc) a:=fun n=>Ac (X:=kD) (Ai (Ac b3.o m.o (fun _ _ q=>q)) r (fun k ds fz N=>CT (HK.o.s9 m.o).wr T k ds fz N)) ((O.refl _ C).drewN n) (fun _ _ q=>q)
   have d8:g<C.heap.size:=by have:=r.size;simp at this;omega
   have e1:o<C.heap.size:=by have:=r.size;simp at this;omega
   have d9:=Ae G.o;clear b1 r;go_quiet((go_at_call 55;refine Calls.quiet_of_same (Ga B _ _ t.d9 _ (hq _) hv)));have p:D (O kD C (C.drewN nq)):=(O.refl _ _).drewN nq;go_wp2_with(go_at_call 19;refine(Ch o 5 t.pos (Be 4 t.pos c) _ (V.o.s9 p.o).wr).mono ?_;rintro e f ⟨rfl,b2,a1⟩);have j:=J ((V.o.s9 p.o).add b2 a1);have E:=J (W.d8 (W.d8 G.o p.o id) a1 Z);have S:=J ((F2.o.trans (DP.cM p.o)).trans (DP.cV a1));clear b2 a1;have a0:=j.o.fn;obtain⟨c1,i,_⟩:=a0;have R:=(i.lt g rfl).2;obtain⟨c9,c0,d0,M,_,_,b⟩:=j.o.fn.get hi;have u:=M 6 Z;simp only[EH,gH,gF,gG]at u;have df:=i.frozenAt (d*7+6);rw[a2.o]at b;obtain⟨z,yl,A,rfl⟩:=Ad b;have a7:=Ag b;subst a7;obtain⟨c2,a4⟩:=DN i;have I:=J (Am b a4 T);have a3:=J b;have u0:=E.o.cell 0;simp only[gH,gF]at u0;have c5:=Ae E.o;have c4:B<=f.heap.size:=by have:=(i.lt g rfl).1;omega
   clear M i b;go_region_law(refine AB rfl _ _ 51 rfl B 9 i0 (.string ByteArray.empty) 1 16 underlying51 b5 b7 b8 b9 rfl T _ _ _ rfl (a3.o.alloc _) ⟨f.heap.size,0,none⟩ 1 1 [.string t.d9] rfl rfl (AC rfl _ _) (fun x v=>by simp at v;subst v;rfl) T jZ Z jX ?_;intro v' y Q l P;have q1:y.cell? ⟨g,d*7+6,none⟩=some (.slice z a.length A):=(gJ (l.block g jX (fun h=>I.o g h.symm rfl))).trans (by rw[<-u];exact gJ (gS _ _ _ R));have q2:y.frozen? ⟨g,d*7+6,none⟩=false:=(gO (l.block g jX (fun h=>I.o g h.symm rfl))).trans (by rw[<-df];exact gO (gS _ _ _ R));obtain⟨a8,b0,a9,rfl⟩:=Ad Q);all_goals
    have a5:(f.alloc (.cells #[.string t.d9] 9)).drew.grownBy y (Value.ownBlock (.slice z a.length A)):=l;have a6:∀k,Value.ownBlock (.slice a8 b0 a9)=some k->Value.ownBlock (.slice z a.length A)=some k\/f.heap.size<=k:=fun k N=>(P k N).imp id (fun q=>by simp at q;omega)
    have s:=Cp.decl j.o.fn hi u (((O.refl _ f).alloc _).drew) a5 (by rw[a2.o];exact Q) a6;have H:=j.o.decl s.1 s.2.1 s.2.2;clear l P;go_wp2_with fail;go_end0;exact⟨rfl,H.1,S.o.trans H.2⟩
  .have v:=Y;have L:Dk a t c=Be 4 t.pos c:=by simp only[Dk,jH b4,jG Y]
   have c3:decide ((0:Int)<=Bz a t.d9 0)=false:=jX;rw[L];clear L;go_enter func21,ntmps21;go_wp2_with(go_at_call 19;refine(Ch o 4 t.pos c _ (HK.o.s9 m.o).wr).mono ?_;rintro e C ⟨rfl,b1,r⟩);have V:=J ((HK.o.s9 m.o).add b1 r);have G:=J (W.d8 HT.o r Z);have F2:=J ((DP.cM (wb:=o) (B:=B) (fv:=(.slice (some ⟨g,0,none⟩) F.length vc)) m.o).trans (DP.cV r));have d3:=(r.cell (d*7+6) jX d1).trans ((m.o.cell (d*7+6) lg id).trans c6);obtain⟨c7,c8⟩:=G.o.e2 0 1;simp only[gH,gF,gG]at c7 c8;have hq:∀n:Nat,Au B (C.drewN n) (.slice xa a.length xc) a:=fun n=>Ac (X:=kD) (Ai (Ac b3.o m.o (fun _ _ q=>q)) r (fun k ds fz N=>CT (HK.o.s9 m.o).wr T k ds fz N)) ((O.refl _ C).drewN n) (fun _ _ q=>q)
   have d8:g<C.heap.size:=by have:=r.size;simp at this;omega
   have e1:o<C.heap.size:=by have:=r.size;simp at this;omega
   have d9:=Ae G.o;clear b1 r;go_quiet((go_at_call 55;refine Calls.quiet_of_same (Ga B _ _ t.d9 _ (hq _) hv)));have p:D (O kD C (C.drewN nq)):=(O.refl _ _).drewN nq;go_wp2;have j:=J (V.o.s9 p.o);have E:=J (W.d8 G.o p.o id);have S:=J (F2.o.trans (DP.cM p.o));generalize C.drewN nq=f at j E S⊢;have a0:=j.o.fn;obtain⟨c1,i,_⟩:=a0;have R:=(i.lt g rfl).2;obtain⟨c9,c0,d0,M,_,_,b⟩:=j.o.fn.get hi;have u:=M 6 Z;simp only[EH,gH,gF,gG]at u;have df:=i.frozenAt (d*7+6);rw[a2.o]at b;obtain⟨z,yl,A,rfl⟩:=Ad b;have a7:=Ag b;subst a7;obtain⟨c2,a4⟩:=DN i;have I:=J (Am b a4 T);have a3:=J b;have u0:=E.o.cell 0;simp only[gH,gF]at u0;have c5:=Ae E.o;have c4:B<=f.heap.size:=by have:=(i.lt g rfl).1;omega
   clear M i b;go_region_law(refine AB rfl _ _ 51 rfl B 9 i0 (.string ByteArray.empty) 1 16 underlying51 b5 b7 b8 b9 rfl T _ _ _ rfl (a3.o.alloc _) ⟨f.heap.size,0,none⟩ 1 1 [.string t.d9] rfl rfl (AC rfl _ _) (fun x v=>by simp at v;subst v;rfl) T jZ Z jX ?_;intro v' y Q l P;have q1:y.cell? ⟨g,d*7+6,none⟩=some (.slice z a.length A):=(gJ (l.block g jX (fun h=>I.o g h.symm rfl))).trans (by rw[<-u];exact gJ (gS _ _ _ R));have q2:y.frozen? ⟨g,d*7+6,none⟩=false:=(gO (l.block g jX (fun h=>I.o g h.symm rfl))).trans (by rw[<-df];exact gO (gS _ _ _ R));obtain⟨a8,b0,a9,rfl⟩:=Ad Q);all_goals
    have a5:(f.alloc (.cells #[.string t.d9] 9)).drew.grownBy y (Value.ownBlock (.slice z a.length A)):=l;have a6:∀k,Value.ownBlock (.slice a8 b0 a9)=some k->Value.ownBlock (.slice z a.length A)=some k\/f.heap.size<=k:=fun k N=>(P k N).imp id (fun q=>by simp at q;omega)
    have s:=Cp.decl j.o.fn hi u (((O.refl _ f).alloc _).drew) a5 (by rw[a2.o];exact Q) a6;have H:=j.o.decl s.1 s.2.1 s.2.2;clear l P;go_wp2_with fail;go_end0;exact⟨rfl,H.1,S.o.trans H.2⟩
 .have d7:decide ((12:Int)<=(a.length:Int))=false:=jX;by_cases Y:0<=Bz a t.d9 0
  .have v:=Y;have L:Dk a t c=Be 5 t.pos (c):=by simp only[Dk,jG b4,jH Y]
   have c3:decide ((0:Int)<=Bz a t.d9 0)=true:=jX;rw[L];clear L;go_enter func21,ntmps21;go_wp2;have V:=J (HK.o.s9 m.o);have G:=HT;have F2:=J (DP.cM (wb:=o) (B:=B) (fv:=(.slice (some ⟨g,0,none⟩) F.length vc)) m.o);have hq:∀n:Nat,Au B ((w.alloc (.cells #[.string t.d9,.int .i64 t.pos,.int .i64 t.sort] 49)).drewN n) (.slice xa a.length xc) a:=fun n=>Ac b3.o (m.o.drewN n) (fun _ _ q=>q)
   go_quiet((go_at_call 55;refine Calls.quiet_of_same (Ga B _ _ t.d9 _ (hq _) hv)));have p:D (O kD (w.alloc (.cells #[.string t.d9,.int .i64 t.pos,.int .i64 t.sort] 49)) ((w.alloc (.cells #[.string t.d9,.int .i64 t.pos,.int .i64 t.sort] 49)).drewN nq)):=(O.refl _ _).drewN nq;go_wp2_with(go_at_call 19;refine(Ch o 5 t.pos (c) _ (V.o.s9 p.o).wr).mono ?_;rintro e f ⟨rfl,b2,a1⟩);have j:=J ((V.o.s9 p.o).add b2 a1);have E:=J (W.d8 (W.d8 G.o p.o id) a1 Z);have S:=J ((F2.o.trans (DP.cM p.o)).trans (DP.cV a1));clear b2 a1;have a0:=j.o.fn;obtain⟨c1,i,_⟩:=a0;have R:=(i.lt g rfl).2;obtain⟨c9,c0,d0,M,_,_,b⟩:=j.o.fn.get hi;have u:=M 6 Z;simp only[EH,gH,gF,gG]at u;have df:=i.frozenAt (d*7+6);rw[a2.o]at b;obtain⟨z,yl,A,rfl⟩:=Ad b;have a7:=Ag b;subst a7;obtain⟨c2,a4⟩:=DN i;have I:=J (Am b a4 T);have a3:=J b;have u0:=E.o.cell 0;simp only[gH,gF]at u0;have c5:=Ae E.o;have c4:B<=f.heap.size:=by have:=(i.lt g rfl).1;omega
   clear M i b;go_region_law(refine AB rfl _ _ 51 rfl B 9 i0 (.string ByteArray.empty) 1 16 underlying51 b5 b7 b8 b9 rfl T _ _ _ rfl (a3.o.alloc _) ⟨f.heap.size,0,none⟩ 1 1 [.string t.d9] rfl rfl (AC rfl _ _) (fun x v=>by simp at v;subst v;rfl) T jZ Z jX ?_;intro v' y Q l P;have q1:y.cell? ⟨g,d*7+6,none⟩=some (.slice z a.length A):=(gJ (l.block g jX (fun h=>I.o g h.symm rfl))).trans (by rw[<-u];exact gJ (gS _ _ _ R));have q2:y.frozen? ⟨g,d*7+6,none⟩=false:=(gO (l.block g jX (fun h=>I.o g h.symm rfl))).trans (by rw[<-df];exact gO (gS _ _ _ R));obtain⟨a8,b0,a9,rfl⟩:=Ad Q);all_goals
    have a5:(f.alloc (.cells #[.string t.d9] 9)).drew.grownBy y (Value.ownBlock (.slice z a.length A)):=l;have a6:∀k,Value.ownBlock (.slice a8 b0 a9)=some k->Value.ownBlock (.slice z a.length A)=some k\/f.heap.size<=k:=fun k N=>(P k N).imp id (fun q=>by simp at q;omega)
    have s:=Cp.decl j.o.fn hi u (((O.refl _ f).alloc _).drew) a5 (by rw[a2.o];exact Q) a6;have H:=j.o.decl s.1 s.2.1 s.2.2;clear l P;go_wp2_with fail;go_end0;exact⟨rfl,H.1,S.o.trans H.2⟩
  .have v:=Y;have L:Dk a t c=c:=by simp only[Dk,jG b4,jG Y]
   have c3:decide ((0:Int)<=Bz a t.d9 0)=false:=jX;rw[L];clear L;go_enter func21,ntmps21;go_wp2;have V:=J (HK.o.s9 m.o);have G:=HT;have F2:=J (DP.cM (wb:=o) (B:=B) (fv:=(.slice (some ⟨g,0,none⟩) F.length vc)) m.o);have hq:∀n:Nat,Au B ((w.alloc (.cells #[.string t.d9,.int .i64 t.pos,.int .i64 t.sort] 49)).drewN n) (.slice xa a.length xc) a:=fun n=>Ac b3.o (m.o.drewN n) (fun _ _ q=>q)
   go_quiet((go_at_call 55;refine Calls.quiet_of_same (Ga B _ _ t.d9 _ (hq _) hv)));have p:D (O kD (w.alloc (.cells #[.string t.d9,.int .i64 t.pos,.int .i64 t.sort] 49)) ((w.alloc (.cells #[.string t.d9,.int .i64 t.pos,.int .i64 t.sort] 49)).drewN nq)):=(O.refl _ _).drewN nq;go_wp2;have j:=J (V.o.s9 p.o);have E:=J (W.d8 G.o p.o id);have S:=J (F2.o.trans (DP.cM p.o));generalize (w.alloc (.cells #[.string t.d9,.int .i64 t.pos,.int .i64 t.sort] 49)).drewN nq=f at j E S⊢;have a0:=j.o.fn;obtain⟨c1,i,_⟩:=a0;have R:=(i.lt g rfl).2;obtain⟨c9,c0,d0,M,_,_,b⟩:=j.o.fn.get hi;have u:=M 6 Z;simp only[EH,gH,gF,gG]at u;have df:=i.frozenAt (d*7+6);rw[a2.o]at b;obtain⟨z,yl,A,rfl⟩:=Ad b;have a7:=Ag b;subst a7;obtain⟨c2,a4⟩:=DN i;have I:=J (Am b a4 T);have a3:=J b;have u0:=E.o.cell 0;simp only[gH,gF]at u0;have c5:=Ae E.o;have c4:B<=f.heap.size:=by have:=(i.lt g rfl).1;omega
   clear M i b;go_region_law(refine AB rfl _ _ 51 rfl B 9 i0 (.string ByteArray.empty) 1 16 underlying51 b5 b7 b8 b9 rfl T _ _ _ rfl (a3.o.alloc _) ⟨f.heap.size,0,none⟩ 1 1 [.string t.d9] rfl rfl (AC rfl _ _) (fun x v=>by simp at v;subst v;rfl) T jZ Z jX ?_;intro v' y Q l P;have q1:y.cell? ⟨g,d*7+6,none⟩=some (.slice z a.length A):=(gJ (l.block g jX (fun h=>I.o g h.symm rfl))).trans (by rw[<-u];exact gJ (gS _ _ _ R));have q2:y.frozen? ⟨g,d*7+6,none⟩=false:=(gO (l.block g jX (fun h=>I.o g h.symm rfl))).trans (by rw[<-df];exact gO (gS _ _ _ R));obtain⟨a8,b0,a9,rfl⟩:=Ad Q);all_goals
    have a5:(f.alloc (.cells #[.string t.d9] 9)).drew.grownBy y (Value.ownBlock (.slice z a.length A)):=l;have a6:∀k,Value.ownBlock (.slice a8 b0 a9)=some k->Value.ownBlock (.slice z a.length A)=some k\/f.heap.size<=k:=fun k N=>(P k N).imp id (fun q=>by simp at q;omega)
    have s:=Cp.decl j.o.fn hi u (((O.refl _ f).alloc _).drew) a5 (by rw[a2.o];exact Q) a6;have H:=j.o.decl s.1 s.2.1 s.2.2;clear l P;go_wp2_with fail;go_end0;exact⟨rfl,H.1,S.o.trans H.2⟩
def Mq(a:List RF)(b:List ByteArray)(u:FS)(c:CS):CS:=
 if u.kind=2 then c else
 u.args.foldl (fun c t=>DL b t c) (if u.kind=6 then Em a u.q (-1) c else if u.kind=8 then Em a u.q u.args.length c else DL b u.q c)
structure TI(pb wb B pl ca:Nat)(U:Nat->Prop)(fv sv:Value)(fns:List RF)(fs:List FS)(sb:Nat)(sc:Array Value)(av:Value)(args:List Tk)(c:CS)(w w':World):Prop where
 k:RK pb wb B pl ca U fv sv fns fs c w'
 bY:W sb sc 92 w'
 row:CE B w' av args
 fr:DP wb B fv w w'
theorem TI.call{j b B k e}{U:Nat->Prop}{a l f g d q o n c p w r m}(h:TI j b B k e U a l f g d q o n c w r)(u:RK j b B k e U a l f g p m)(i:DP b B a r m)(s:d≠b)(t:a.ownBlock≠some d):TI j b B k e U a l f g d q o n p w m:=
 ⟨u,i.bY h.bY s t T,i.row h.row h.k.wr h.k.fn T T T,h.fr.trans i⟩
theorem TI.s9{j p B k e}{U:Nat->Prop}{i n f g l m d b c w o w2}(h:TI j p B k e U i n f g l m d b c w o)(a:O kD o w2):TI j p B k e U i n f g l m d b c w w2:=
 ⟨h.k.s9 a,h.bY.d8 a id,Ac h.row a (fun _ _ q=>q),h.fr.trans (DP.cM a)⟩
theorem Et{B w g l c a}(h:CE B w (.slice (some ⟨g,0,none⟩) l c) a){i}(d:i<a.length):w.cell? ⟨g,i*3,none⟩=some (.string (tokAt a i).d9)/\w.cell? ⟨g,i*3+1,none⟩=some (.int .i64 (tokAt a i).pos)/\w.cell? ⟨g,i*3+2,none⟩=some (.int .i64 (tokAt a i).sort):=by have e:=Ag h;subst e;have b:=KG d;unfold CE at h;exact⟨by rw[h.cellAt _ Z];exact b.1,by rw[h.cellAt _ Z];exact b.2.1,by rw[h.cellAt _ Z];exact b.2.2⟩
theorem IC{B:Type}(f:B->Tk->B)(l:List Tk)(k:Nat)(h:k<l.length)(x:B):(l.drop k).foldl f x=(l.drop (k+1)).foldl f (f x (tokAt l k)):=by
 rw[gT h];have:tokAt l k=l[k]:=by unfold tokAt;rw[gL h];rfl
 rw[this];rfl
theorem RY(o m B x p:Nat)(U:Nat->Prop)(fv y:Value)(f:List RF)(r:List FS)(c:CS)(u:FS)(av bv ov:Value)(j:List ByteArray)(w:World)(K:RK o m B x p U fv y f r c w)(a6:CE B w av u.args)(b0:∃a l c,bv=.slice a l c)(b1:∃a l c,ov=.slice a l c)(a7:u.cS<f.length)(hn:f.length<=4001)(a8:f[u.cS].t8=j)(hv:j.length<=4001)(ha:u.args.length<=4001):
 Calls prog 57 #[.pointer (some ⟨o,0,none⟩),.pointer (some ⟨m,0,none⟩),.agg (Bo u av bv ov)] w fun e w'=>e=.returned (.tuple #[])/\RK o m B x p U fv y f r (Mq f j u c) w'/\DP m B fv w w':=by
 obtain⟨C,al,E,rfl⟩:=Ad a6;have a9:=Ag a6;subst a9;obtain⟨R,X,S,rfl⟩:=b0;obtain⟨oa,ol,oc,rfl⟩:=b1;obtain⟨fa,fl,fc,rfl⟩:∃a l c,fv=.slice a l c:=by obtain⟨_,h,_⟩:=K.fn;exact Ad h
 have lw:=Ae K.wr;have a1:w.heap.size≠m:=Z;have a0:Value.ownBlock (.slice fa fl fc)≠some w.heap.size:=fun q=>by obtain⟨_,h,_⟩:=K.fn;have:=(h.lt _ q).2;omega
 have b2:=Ae K.pr;have z:D (TI o m B x p U (.slice fa fl fc) y f r w.heap.size (Bo u (.slice C u.args.length E) (.slice R X S) (.slice oa ol oc)) (.slice C u.args.length E) u.args c w (w.alloc (.cells (Bo u (.slice C u.args.length E) (.slice R X S) (.slice oa ol oc)) 92))):=by have ho:=(O.refl kD w).alloc (.cells (Bo u (.slice C u.args.length E) (.slice R X S) (.slice oa ol oc)) 92);exact⟨K.s9 ho,W.new _ _ _,Ac a6 ho (fun _ _ q=>q),DP.cM ho⟩
 have G:=J a8;clear K a6 a8;unfold Bo;by_cases Q:u.kind=2
 .have e0:Mq f j u c=c:=by simp[Mq,Q]
  rw[e0];have k2:((u.kind:Int)==2)=true:=by simp[Q]
  clear e0 Q;go_enter func57,ntmps57;go_wp2;refine gP (v:=.tuple #[]) (by simp[results,results57,go_sem]) rfl ⟨rfl,z.o.k,z.o.fr⟩
 have k2:((u.kind:Int)==2)=false:=jX;generalize s:Mq f j u c=V;unfold Mq at s;rw[jG Q]at s;by_cases Y:u.kind=6
 .rw[jH Y]at s;have F:D ((u.args.drop 0).foldl (fun c t=>DL j t c) (Em f u.q (-1) c)=V):=s;have k6:((u.kind:Int)==6)=true:=by simp[Y]
  clear s Q Y;go_enter func57,ntmps57;go_wp2_with(go_at_call 100;refine(Im o m B x p U _ y f r c u.q (-1) _ z.o.k hn (.inl rfl)).mono ?_;rintro e w1 ⟨rfl,M,I⟩);have H:=J (z.o.call M I a1 a0);clear M I z;go_loopw[6] (fun i wr=>∃(k:Nat) (d:CS),k<=u.args.length/\i=.int .i64 k/\D (TI o m B x p U (.slice fa fl fc) y f r w.heap.size (Bo u (.slice C u.args.length E) (.slice R X S) (.slice oa ol oc)) (.slice C u.args.length E) u.args d w wr)/\D ((u.args.drop k).foldl (fun c t=>DL j t c) d=V)) (fun i _=>u.args.length-(intOf i).toNat)
  case atStart=>exact⟨0,_,Z,rfl,H,F⟩
  case round=>
   clear H F;obtain⟨k,d,hk,rfl,b,n⟩:=hrel;obtain⟨b8,a3⟩:=b.o.bY.e2 8 14;simp only[Bo,gH,gF,gG]at b8 a3;have lb:=Ae b.o.bY;by_cases P:k<u.args.length
   .obtain⟨g,rfl⟩:=Ap b.o.row Z;obtain⟨t0,t1,t2⟩:=Et b.o.row P;have lg:=(b.o.row.lt g rfl).2;have A:=IC (fun c t=>DL j t c) u.args k P d;rw[n.o]at A;generalize tokAt u.args k=t at*;have a2:=J A;have a4:(k:Int)<(u.args.length:Int):=Z;clear n A;go_wp2_with fail;go_region_with(go_at_call 56;refine(C7 o m B x p u.cS U _ y f r d t _ (b.o.s9 jV).k a7 hn (by rw[G.o];exact hv)).mono ?_;rw[G.o];rintro e w2 ⟨rfl,N,L⟩);all_goals
     have S2:=J (TI.call (b.o.s9 (w2:=wr.drew) ((O.refl _ wr).drew)) N L a1 a0);clear N L;go_wp2_with fail;exact⟨⟨k+1,_,Z,by go_num,S2,a2.o.symm⟩,by simp[intOf];omega⟩
   .have e:k=u.args.length:=Z;have a5:V=d:=by have:=n.o;rw[e,jM]at this;exact this.symm
    subst a5;have a4:decide ((k:Int)<(u.args.length:Int))=false:=jX;clear n;go_wp2;go_end0;exact⟨rfl,b.o.k,b.o.fr⟩
 have k6:((u.kind:Int)==6)=false:=jX;rw[jG Y]at s;by_cases h8:u.kind=8
 .rw[jH h8]at s;have F:D ((u.args.drop 0).foldl (fun c t=>DL j t c) (Em f u.q u.args.length c)=V):=s;have k8:((u.kind:Int)==8)=true:=by simp[h8]
  clear s Q Y h8;go_enter func57,ntmps57;go_wp2_with(go_at_call 100;refine(Im o m B x p U _ y f r c u.q u.args.length _ z.o.k hn (.inr ⟨_,rfl,ha⟩)).mono ?_;rintro e w1 ⟨rfl,M,I⟩);have H:=J (z.o.call M I a1 a0);clear M I z;go_loopw[6] (fun i wr=>∃(k:Nat) (d:CS),k<=u.args.length/\i=.int .i64 k/\D (TI o m B x p U (.slice fa fl fc) y f r w.heap.size (Bo u (.slice C u.args.length E) (.slice R X S) (.slice oa ol oc)) (.slice C u.args.length E) u.args d w wr)/\D ((u.args.drop k).foldl (fun c t=>DL j t c) d=V)) (fun i _=>u.args.length-(intOf i).toNat)
  case atStart=>exact⟨0,_,Z,rfl,H,F⟩
  case round=>
   clear H F;obtain⟨k,d,hk,rfl,b,n⟩:=hrel;obtain⟨b8,a3⟩:=b.o.bY.e2 8 14;simp only[Bo,gH,gF,gG]at b8 a3;have lb:=Ae b.o.bY;by_cases P:k<u.args.length
   .obtain⟨g,rfl⟩:=Ap b.o.row Z;obtain⟨t0,t1,t2⟩:=Et b.o.row P;have lg:=(b.o.row.lt g rfl).2;have A:=IC (fun c t=>DL j t c) u.args k P d;rw[n.o]at A;generalize tokAt u.args k=t at*;have a2:=J A;have a4:(k:Int)<(u.args.length:Int):=Z;clear n A;go_wp2_with fail;go_region_with(go_at_call 56;refine(C7 o m B x p u.cS U _ y f r d t _ (b.o.s9 jV).k a7 hn (by rw[G.o];exact hv)).mono ?_;rw[G.o];rintro e w2 ⟨rfl,N,L⟩);all_goals
     have S2:=J (TI.call (b.o.s9 (w2:=wr.drew) ((O.refl _ wr).drew)) N L a1 a0);clear N L;go_wp2_with fail;exact⟨⟨k+1,_,Z,by go_num,S2,a2.o.symm⟩,by simp[intOf];omega⟩
   .have e:k=u.args.length:=Z;have a5:V=d:=by have:=n.o;rw[e,jM]at this;exact this.symm
    subst a5;have a4:decide ((k:Int)<(u.args.length:Int))=false:=jX;clear n;go_wp2;go_end0;exact⟨rfl,b.o.k,b.o.fr⟩
 have k8:((u.kind:Int)==8)=false:=jX;rw[jG h8]at s;have F:D ((u.args.drop 0).foldl (fun c t=>DL j t c) (DL j u.q c)=V):=s;clear s Q Y h8;go_enter func57,ntmps57;go_wp2_with(go_at_call 56;refine(C7 o m B x p u.cS U _ y f r c u.q _ z.o.k a7 hn (by rw[G.o];exact hv)).mono ?_;rw[G.o];rintro e w1 ⟨rfl,M,I⟩);have H:=J (z.o.call M I a1 a0);clear M I z;go_loopw[6] (fun i wr=>∃(k:Nat) (d:CS),k<=u.args.length/\i=.int .i64 k/\D (TI o m B x p U (.slice fa fl fc) y f r w.heap.size (Bo u (.slice C u.args.length E) (.slice R X S) (.slice oa ol oc)) (.slice C u.args.length E) u.args d w wr)/\D ((u.args.drop k).foldl (fun c t=>DL j t c) d=V)) (fun i _=>u.args.length-(intOf i).toNat)
 case atStart=>exact⟨0,_,Z,rfl,H,F⟩
 case round=>
  clear H F;obtain⟨k,d,hk,rfl,b,n⟩:=hrel;obtain⟨b8,a3⟩:=b.o.bY.e2 8 14;simp only[Bo,gH,gF,gG]at b8 a3;have lb:=Ae b.o.bY;by_cases P:k<u.args.length
  .obtain⟨g,rfl⟩:=Ap b.o.row Z;obtain⟨t0,t1,t2⟩:=Et b.o.row P;have lg:=(b.o.row.lt g rfl).2;have A:=IC (fun c t=>DL j t c) u.args k P d;rw[n.o]at A;generalize tokAt u.args k=t at*;have a2:=J A;have a4:(k:Int)<(u.args.length:Int):=Z;clear n A;go_wp2_with fail;go_region_with(go_at_call 56;refine(C7 o m B x p u.cS U _ y f r d t _ (b.o.s9 jV).k a7 hn (by rw[G.o];exact hv)).mono ?_;rw[G.o];rintro e w2 ⟨rfl,N,L⟩);all_goals
    have S2:=J (TI.call (b.o.s9 (w2:=wr.drew) ((O.refl _ wr).drew)) N L a1 a0);clear N L;go_wp2_with fail;exact⟨⟨k+1,_,Z,by go_num,S2,a2.o.symm⟩,by simp[intOf];omega⟩
  .have e:k=u.args.length:=Z;have a5:V=d:=by have:=n.o;rw[e,jM]at this;exact this.symm
   subst a5;have a4:decide ((k:Int)<(u.args.length:Int))=false:=jX;clear n;go_wp2;go_end0;exact⟨rfl,b.o.k,b.o.fr⟩
def Oa(d:Nat)(q:Nat×List TS):Nat:=(q.2.map (Cs d)).sum
theorem NF(f:Nat×List TS->Nat)(l:List (Nat×List TS))(k:Nat)(h:k<l.length):((l.drop k).map f).sum=f l[k]+((l.drop (k+1)).map f).sum:=by rw[gT h,iK,iS]
theorem Oc(d:Nat)(hS:Vk d)(b I f:Nat)(U:Nat->Prop)(L:Value)(h:List TF)(P:Int)(M N m n:Nat)(F C:DataW Unit)(c:CS)(s:VS)(a:List (Nat×List TS))(cs:Array Value)(w:World)
 (K:Ck b I U L h P M N m n F C c w)(hT:BW (d+1) U w (.mk s a) cs.toList)(hO:OK (d+1) (.mk s a))(hn:n+Cs (d+1) (.mk s a)<=4000)(hd:f+(d+1)<=4001)(hk:s.kind=11\/s.kind=12):
 Calls prog 144 #[.pointer (some ⟨b,0,none⟩),.agg cs,.int .i64 f] w fun e w'=>e=.returned (.tuple #[])/\(∃n',n'<=n+Cs (d+1) (.mk s a)/\Ck b I U L h P M N m n' F (a.foldl (fun x q=>OM F h d (f+1) q x) (C,c)).1 (a.foldl (fun x q=>OM F h d (f+1) q x) (C,c)).2 w')/\O (fun k=>k=b\/k=m) w w':=by
 obtain⟨av,bv,b1,b4,ha,b7,a7,c7,b2,b5⟩:=hT;obtain⟨ho,_,c8,b6⟩:=hO;obtain⟨a1,l1,c1,rfl⟩:=Ad ha;obtain⟨a2,l2,c2,rfl⟩:=Ad a7;have c6:=Ag a7;subst c6;have b8:cs=EW s (.slice a1 l1 c1) (.slice a2 a.length c2):=Array.ext' b4;subst b8;have b3:Cs (d+1) (.mk s a)=1+(a.map (Oa d)).sum:=rfl;rw[b3]at hn⊢;have lb:=Ae K.cZ;have c0:∃kd:Nat,s.kind=kd:=⟨_,rfl⟩;generalize hV:a.foldl (fun x q=>OM F h d (f+1) q x) (C,c)=V;have HV:D ((a.drop 0).foldl (fun x q=>OM F h d (f+1) q x) (C,c)=V):=hV;have HS:=J hS;have HI:=J b5;have HB:=J a7;clear hV hS b5 b4 ha b7 b3 c0;rcases hk with hk|hk
 .have B:=J ((O.refl kD w).alloc (.cells #[.int .i64 11,.string s.tg.d9,.int .i64 s.tg.l7,.string s.sr.d9,.int .i64 s.sr.l7,.int .i64 s.field,.slice a1 l1 c1,.slice a2 a.length c2] 230));unfold EW;rw[hk,show((11:Nat):Int)=11 from rfl];go_enter func144,ntmps144;go_wp2;go_loopw[89] (fun i wr=>∃(k v:Nat) (l:DataW Unit) (o:CS),k<=a.length/\i=.int .i64 k/\v+((a.drop k).map (Oa d)).sum<=n+(1+(a.map (Oa d)).sum)/\D (Ck b I U L h P M N m v F l o wr)/\D (O (fun k=>k=b\/k=m) w wr)/\D ((a.drop k).foldl (fun x q=>OM F h d (f+1) q x) (l,o)=V)) (fun i _=>a.length-(intOf i).toNat)
  case atStart=>exact⟨0,n,C,c,Z,rfl,jY,J (K.quiet B.o),J (B.o.mono (fun _ _ q=>q.elim)),HV⟩
  case round=>
   obtain⟨k,v,l,o,c3,rfl,a8,k1,y,a3⟩:=hrel;clear HV B;by_cases G:k<a.length
   .have X:∀j,U j->¬(j=b\/j=m):=fun _ z q=>q.elim (fun e=>K.ub (e▸z)) (fun e=>K.um (e▸z))
    have p:=Ac HB.o y.o (fun j z=>X j (b2 j z));obtain⟨sv,a6,e,r,a4,u,a5⟩:=HI.o k G Z;have hR:=J (CU.d8 (d:=d) (U:=U) (w:=w) (sv:=sv) (sts:=a[k].2) ⟨a6,r,a4,u,a5⟩ y.o X);obtain⟨sa,sl,sc,rfl⟩:=Ad r;obtain⟨g,rfl⟩:=Ap p Z;have lg:=(p.lt g rfl).2;have H:∀x,x∈b1->x.length=2:=by intro x hx;obtain⟨i,hi,rfl⟩:=iF.1 hx;obtain⟨_,_,e',_⟩:=HI.o i Z hi;rw[e'];rfl
    have R:=p.cellAt (k*2) Z;have S:=p.cellAt (k*2+1) Z;have E:=Cw H (j:=k) (i:=0) Z Z;have Q:=Cw H (j:=k) (i:=1) Z Z;rw[gX]at E;rw[E,e]at R;rw[Q,e]at S;simp only[gF,gG]at R S;have a9:=J (E9 (fun x q=>OM F h d (f+1) q x) a k G (l,o));have c5:=NF (Oa d) a k G;have a0:=J (b6 a[k] (gQ _));clear p r a5 u e E Q H a4;generalize a[k]=t at*;have l0:=y.o.size;have A:=J ((O.refl kD wr).alloc (.cells #[.int .i64 t.1,.slice sa sl sc] 130));have Y:((f:Int)+1)=((f+1:Nat):Int):=Z;have b9:Oa d t=(t.2.map (Cs d)).sum:=rfl;have HD:=J Y;clear Y;go_wp2_with(go_at_call 116;rw[HD.o];refine(Ix d HS.o b I (f+1) t.1 U L h P M N m v F l o t.2 (.slice sa sl sc) _ (k1.o.quiet A.o) (CU.d8 hR.o A.o (fun _ _ q=>q)) a0.o.2 Z Z a0.o.1).mono ?_;rintro e w2 ⟨rfl,⟨n2,c4,k2⟩,o2⟩);go_round
    case rel=>exact⟨k+1,n2,_,_,Z,by go_num,Z,J k2,J (y.o.trans ((A.o.mono (fun _ _ q=>q.elim)).trans o2)),J (a9.o.symm.trans a3.o)⟩
    case measure=>simp[intOf];omega
   .have e:k=a.length:=Z;subst e;have b0:(l,o)=V:=by have:=a3.o;simpa using this
    subst b0;go_wp2;go_end0;simp at a8;exact⟨rfl,⟨v,Z,k1.o⟩,y.o⟩
 .have B:=J ((O.refl kD w).alloc (.cells #[.int .i64 12,.string s.tg.d9,.int .i64 s.tg.l7,.string s.sr.d9,.int .i64 s.sr.l7,.int .i64 s.field,.slice a1 l1 c1,.slice a2 a.length c2] 230));unfold EW;rw[hk,show((12:Nat):Int)=12 from rfl];go_enter func144,ntmps144;go_wp2;go_loopw[89] (fun i wr=>∃(k v:Nat) (l:DataW Unit) (o:CS),k<=a.length/\i=.int .i64 k/\v+((a.drop k).map (Oa d)).sum<=n+(1+(a.map (Oa d)).sum)/\D (Ck b I U L h P M N m v F l o wr)/\D (O (fun k=>k=b\/k=m) w wr)/\D ((a.drop k).foldl (fun x q=>OM F h d (f+1) q x) (l,o)=V)) (fun i _=>a.length-(intOf i).toNat)
  case atStart=>exact⟨0,n,C,c,Z,rfl,jY,J (K.quiet B.o),J (B.o.mono (fun _ _ q=>q.elim)),HV⟩
  case round=>
   obtain⟨k,v,l,o,c3,rfl,a8,k1,y,a3⟩:=hrel;clear HV B;by_cases G:k<a.length
   .have X:∀j,U j->¬(j=b\/j=m):=fun _ z q=>q.elim (fun e=>K.ub (e▸z)) (fun e=>K.um (e▸z))
    have p:=Ac HB.o y.o (fun j z=>X j (b2 j z));obtain⟨sv,a6,e,r,a4,u,a5⟩:=HI.o k G Z;have hR:=J (CU.d8 (d:=d) (U:=U) (w:=w) (sv:=sv) (sts:=a[k].2) ⟨a6,r,a4,u,a5⟩ y.o X);obtain⟨sa,sl,sc,rfl⟩:=Ad r;obtain⟨g,rfl⟩:=Ap p Z;have lg:=(p.lt g rfl).2;have H:∀x,x∈b1->x.length=2:=by intro x hx;obtain⟨i,hi,rfl⟩:=iF.1 hx;obtain⟨_,_,e',_⟩:=HI.o i Z hi;rw[e'];rfl
    have R:=p.cellAt (k*2) Z;have S:=p.cellAt (k*2+1) Z;have E:=Cw H (j:=k) (i:=0) Z Z;have Q:=Cw H (j:=k) (i:=1) Z Z;rw[gX]at E;rw[E,e]at R;rw[Q,e]at S;simp only[gF,gG]at R S;have a9:=J (E9 (fun x q=>OM F h d (f+1) q x) a k G (l,o));have c5:=NF (Oa d) a k G;have a0:=J (b6 a[k] (gQ _));clear p r a5 u e E Q H a4;generalize a[k]=t at*;have l0:=y.o.size;have A:=J ((O.refl kD wr).alloc (.cells #[.int .i64 t.1,.slice sa sl sc] 130));have Y:((f:Int)+1)=((f+1:Nat):Int):=Z;have b9:Oa d t=(t.2.map (Cs d)).sum:=rfl;have HD:=J Y;clear Y;go_wp2_with(go_at_call 116;rw[HD.o];refine(Ix d HS.o b I (f+1) t.1 U L h P M N m v F l o t.2 (.slice sa sl sc) _ (k1.o.quiet A.o) (CU.d8 hR.o A.o (fun _ _ q=>q)) a0.o.2 Z Z a0.o.1).mono ?_;rintro e w2 ⟨rfl,⟨n2,c4,k2⟩,o2⟩);go_round
    case rel=>exact⟨k+1,n2,_,_,Z,by go_num,Z,J k2,J (y.o.trans ((A.o.mono (fun _ _ q=>q.elim)).trans o2)),J (a9.o.symm.trans a3.o)⟩
    case measure=>simp[intOf];omega
   .have e:k=a.length:=Z;subst e;have b0:(l,o)=V:=by have:=a3.o;simpa using this
    subst b0;go_wp2;go_end0;simp at a8;exact⟨rfl,⟨v,Z,k1.o⟩,y.o⟩
theorem Nf:∀d,Vk d
 |0=>fun _ _ _ _ _ _ _ _ _ _ _ _ _ _ _ _ _ _ i _ _ _=>i.elim
 |d+1=>by
  intro b v h U y g C A B m n F a c t u w K i j Q P
  obtain⟨s,f⟩:=t;by_cases k:s.kind=11\/s.kind=12
  .have l:Lw F g (d+1) h (.mk s f) (a,c)=f.foldl (fun x q=>OM F g d (h+1) q x) (a,c):=by simp only[Lw,jH k];rfl
   rw[l]
   exact Oc d (Nf d) b v h U y g C A B m n F a c s f u w K i j Q P k
  .have l:Lw F g (d+1) h (.mk s f) (a,c)=Ff F g s (a,c):=by simp only[Lw,jG k]
   rw[l];have Y:Cs (d+1) (.mk s f)=1+(f.map (fun q=>(q.2.map (Cs d)).sum)).sum:=rfl;obtain⟨p,V,S,M,H,I,L,_⟩:=i;obtain⟨o,z,r,rfl⟩:=Ad L;have N:u=EW s p (.slice o z r):=Array.ext' M;subst N;refine(Sh b v h U y g C A B m n F a c s p _ w K j.1 Z H I ⟨o,z,r,rfl⟩ (by have:=j.2.1;omega)).mono ?_;rintro e w' ⟨rfl,⟨R,X,E⟩,G⟩;exact⟨rfl,⟨R,Z,E⟩,G⟩
def Th(l:List PT)(x:DataW Unit×CS):DataW Unit×CS:=l.foldl (fun x t=>(Ig x.1 t,EZ x.1 t x.2)) x

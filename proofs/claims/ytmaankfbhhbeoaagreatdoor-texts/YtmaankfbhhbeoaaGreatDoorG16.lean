/- One of the texts of the proof of texts_card_holds: ChB ChC. -/
import Derived.Test.YtmaankfbhhbeoaaGreatDoorG15
set_option maxRecDepth 100000
set_option maxHeartbeats 2000000
namespace Go.Proofs.YtmaankfbhhbeoaaGreatDoor
open Go.RowKit
structure RK(j wb B p o:Nat)(U:Nat→Prop)(fv m:Value)(d:List RF)(r:List FS)(c:CS)(w:World):Prop where
 pr:Bj j fv m p o w
 fn:Bt B w fv d
 st:A2 B U w m r
 wr:EB wb c w
def KX(wb B:Nat)(fv:Value)(w:World)(k:Nat):Prop:=k=wb∨fv.ownBlock=some k∨(B≤k∧∃a b,w.heap[k]? =some (.cells a 9 b))
def Ci(wb B:Nat)(fv:Value)(w l:World):Prop:=Ab (KX wb B fv w) w l
theorem Ci.refl(wb B fv w):Ci wb B fv w w:=Ab.refl _ _
theorem Ci.trans{wb B:Nat}{fv:Value}{a b c:World}(h:Ci wb B fv a b)(k:Ci wb B fv b c):Ci wb B fv a c:=by
 refine ⟨k.os.trans h.os,k.tape.trans h.tape,k.output.trans h.output,Nat.le_trans h.size k.size,fun i g f=>?_⟩;have e:=h.block i g f;rw [k.block i (Nat.lt_of_lt_of_le g h.size) ?_,e];rintro (q | q | ⟨t,n,s,q⟩)
 ·exact f (.inl q)
 ·exact f (.inr (.inl q))
 ·rw [e] at q;exact f (.inr (.inr ⟨t,n,s,q⟩))
theorem Ci.q9{wb B fv a b}(h:Ab (fun k=>k=wb) a b):Ci wb B fv a b:=h.mono (fun _ _ q=>.inl q)
theorem Ci.q8{wb B fv a b}(h:Ab (fun _=>False) a b):Ci wb B fv a b:=h.mono (fun _ _ q=>q.elim)
theorem Ci.i6{wb B b fv c t w l}(h:Ci wb B fv w l)(e:Aq b c t w)(f:b≠wb)(g:fv.ownBlock≠some b)(i:t≠9):Aq b c t l:=by
 refine e.d7 h ?_;rintro (q | q | ⟨_,k,n,q⟩)
 ·exact f q
 ·exact g q
 ·have a:w.heap[b]? =_:=e;rw [q] at a;simp only [Option.some.injEq,Obj.cells.injEq] at a;exact i a.2.1.symm
theorem Ci.row{wb B fv e g v n i w l}(h:Ci wb B fv w l)(y:w.ownsRow B e g v n i){c}(C:EB wb c w){d}(x:Bt B w fv d)(s:e≠46)(t:e≠56)(u:e≠9):l.ownsRow B e g v n i:=by
 refine Am y h ?_;rintro k F J (q | q | ⟨_,I,K,q⟩) b
 ·subst q;have f:w.heap[k]? =_:=C;rw [b] at f;simp only [Option.some.injEq,Obj.cells.injEq] at f;exact s f.2.1
 ·obtain ⟨G,z,_⟩:=x;rcases z.2 with ⟨D,_⟩ | ⟨L,E,H,A,_,a,_⟩
  ·rw [D] at q;simp [Value.ownBlock] at q
  ·rw [A] at q;simp [Value.ownBlock] at q;subst q;rw [b] at a;simp only [Option.some.injEq,Obj.cells.injEq] at a;exact t a.2.1
 ·rw [b] at q;simp only [Option.some.injEq,Obj.cells.injEq] at q;exact u q.2.1
section
variable {j wb B p o : Nat} {U : Nat → Prop} {fv m : Value} {d : List RF} {r : List FS} {c : CS} {w l : World}
theorem RK.z8(K:RK j wb B p o U fv m d r c w):∀k,fv.ownBlock=some k→k≠wb∧k≠j:=by intro k a;obtain ⟨e,b,_⟩:=K.fn;exact ⟨Az b K.wr (by decide) k a,Az b K.pr (by decide) k a⟩
theorem RK.Nb(K:RK j wb B p o U fv m d r c w):∀k,m.ownBlock=some k→k≠wb∧k≠j:=by intro k a;obtain ⟨e,b,_⟩:=K.st;exact ⟨Az b K.wr (by decide) k a,Az b K.pr (by decide) k a⟩
theorem RK.pw(K:RK j wb B p o U fv m d r c w):j≠wb:=K.pr.i6.ne K.wr (by decide)
theorem RK.m8(K:RK j wb B p o U fv m d r c w)(a:Ab (fun _=>False) w l):RK j wb B p o U fv m d r c l:=
 ⟨K.pr.i6.d7 a (fun q=>q),K.fn.m8 a,K.st.m8 a,Aq.d7 K.wr a (fun q=>q)⟩
theorem RK.add{i:CS}(K:RK j wb B p o U fv m d r c w)(q:EB wb i l)(g:Ab (fun k=>k=wb) w l):RK j wb B p o U fv m d r i l:=by
 have n:∀(k:Nat) (b:Array Value) (t:TypeId) (e:Nat×Nat),k=wb→w.heap[k]? =some (.cells b t e)→t=46:=by intro k b t e a f;subst a;have h:w.heap[k]? =_:=K.wr;rw [f] at h;simp only [Option.some.injEq,Obj.cells.injEq] at h;exact h.2.1
 exact ⟨K.pr.i6.d7 g K.pw,K.fn.d7 g (fun k a=>(K.z8 k a).1) (fun k b t e a f=>by rw [n k b t e a f];decide),K.st.d7 g (fun k a=>(K.Nb k a).1) (fun k b t e a f=>by rw [n k b t e a f];decide),q⟩
end
def Cw(a:List ByteArray)(t:Tk)(c:CS):CS:=if 0≤Ch a t.d9 0 then c else AU 6 t.pos c
def CO(d:List RF)(t:Tk)(a:Int)(c:CS):CS:=
 if 0≤Ch (d.map fun f=>f.name.d9) t.d9 0 then
  (if 0≤a∧((((d.map fun f=>f.p7.length)[(Ch (d.map fun f=>f.name.d9) t.d9 0).toNat]?).getD 0:Nat):Int)≠a then AU 7 t.pos c else c)
 else AU 6 t.pos c
def Cm(b:List ByteArray)(t:Tk)(c:CS):CS:=
 let a:=if 12≤b.length then AU 4 t.pos c else c
 if 0≤Ch b t.d9 0 then AU 5 t.pos a else a
theorem BK(j wb B p o b:Nat)(U:Nat→Prop)(fv m:Value)(d:List RF)(r:List FS)(c:CS)(t:Tk)(w:World)(K:RK j wb B p o U fv m d r c w)(E:b<d.length)(Q:d.length≤4001)(y:d[b].r6.length≤4001):
 Calls Tryz.prog 32 #[.pointer (some ⟨j,0,none⟩),.pointer (some ⟨wb,0,none⟩),.int .i64 b,EW t] w fun e l=>e=.returned (.tuple #[])∧RK j wb B p o U fv m d r (Cw d[b].r6 t c) l∧Ci wb B fv w l:=by
 have I:=K.pr.i6.cell 0;simp at I;have S:=Ad K.pr;have T:=Ad K.wr;have D:=K.fn;obtain ⟨O,i,_⟩:=D;obtain ⟨W,Y,X,rfl⟩:=Af i;have G:=Ap i;subst G;obtain ⟨g,rfl⟩:=Ay i (by omega);have R:=(i.lt g rfl).2;obtain ⟨V,N,Z,u,_,_,s⟩:=K.fn.get E;have A:=u 6 (by omega);simp only [GL,Ni,Ng,Nh] at A;obtain ⟨J,M,L,rfl⟩:=Af s;have P:(b:Int)<(d.length:Int):=by omega
 have k:=Aa K;have z:=Aa s;clear u i K s;generalize H:d[b].r6=a at*;clear H;unfold EW;have x:∀n:Nat,Cz B (((w.alloc (.cells #[.string t.d9,.int .i64 t.pos,.int .i64 t.sort] 52))).drewN n) (.slice J M L) a:=fun n=>Ac z.o (((Ab.refl (fun _=>False) w).alloc _).drewN n) (fun _ _ q=>q)
 by_cases h:0≤Ch a t.d9 0
 ·have f:Cw a t c=c:=by simp [Cw,h]
  rw [f];have C:decide (Ch a t.d9 0<0)=false:=by simp;exact h
  clear f h;go_enter Tryz.func32,Tryz.ntmps32;go_wp2;go_quiet ((go_at_call 31;refine Calls.quiet_of_same (Dx B _ a t.d9 _ (x _) y)));go_wp2;go_end0;exact ⟨rfl,k.o.m8 (((Ab.refl _ w).alloc _).drewN _),Ci.q8 (((Ab.refl _ w).alloc _).drewN _)⟩
 ·have f:Cw a t c=AU 6 t.pos c:=by simp [Cw,h]
  rw [f];have C:decide (Ch a t.d9 0<0)=true:=by simp;omega
  clear f h;go_enter Tryz.func32,Tryz.ntmps32;go_wp2;go_quiet ((go_at_call 31;refine Calls.quiet_of_same (Dx B _ a t.d9 _ (x _) y)));go_wp2_with (go_at_call 13;refine (Bg wb 6 t.pos c _ (k.o.m8 (((Ab.refl _ w).alloc _).drewN _)).wr).mono ?_);rintro e w2 ⟨rfl,F,v⟩;go_wp2;go_end0;exact ⟨rfl,(k.o.m8 (((Ab.refl _ w).alloc _).drewN _)).add F v,(Ci.q8 (((Ab.refl _ w).alloc _).drewN _)).trans (Ci.q9 v)⟩
theorem Eg(j wb B p o:Nat)(U:Nat→Prop)(fv m:Value)(d:List RF)(r:List FS)(c:CS)(t:Tk)(z:Int)(w:World)(K:RK j wb B p o U fv m d r c w)(C:d.length≤4001)(D:z= -1∨∃a:Nat,z=a∧a≤4001):
 Calls Tryz.prog 48 #[.pointer (some ⟨j,0,none⟩),.pointer (some ⟨wb,0,none⟩),EW t,.int .i64 z] w fun e l=>e=.returned (.tuple #[])∧RK j wb B p o U fv m d r (CO d t z c) l∧Ci wb B fv w l:=by
 have S:=K.pr.i6.cell 0;simp at S;have lp:=Ad K.pr;have lw:=Ad K.wr;have N:=K.fn;obtain ⟨W,s,_⟩:=N;obtain ⟨va,vl,vc,rfl⟩:=Af s;have O:=Ap s;subst O;have k:=Aa K;have A:=EI (d.map fun f=>f.name.d9) t.d9 0;have b:=Aa ((Ab.refl (fun _=>False) w).alloc (.cells #[.string t.d9,.int .i64 t.pos,.int .i64 t.sort] 52));unfold EW;by_cases x:0≤Ch (d.map fun f=>f.name.d9) t.d9 0
 ·obtain ⟨i,q⟩:∃i:Nat,Ch (d.map fun f=>f.name.d9) t.d9 0=i:=⟨(Ch (d.map fun f=>f.name.d9) t.d9 0).toNat,by omega⟩;have J:i<d.length:=by have:=A.2.2;simp only [List.length_map] at this;omega
  obtain ⟨g,rfl⟩:=Ay s (by omega);have lg:=(s.lt g rfl).2;obtain ⟨tv,V,vv,H,F,_,_⟩:=K.fn.get J;have L:=H 3 (by omega);simp only [GL,Ni,Ng,Nh] at L;obtain ⟨xa,u,xc,rfl⟩:=Af F;have R:=Ap F;have Z:(i:Int)<(d.length:Int):=by omega
  have Y:decide ((i:Int)<0)=false:=by simp
  have I:(((d.map fun f=>f.p7.length)[i]?).getD 0:Nat)=u:=by rw [List.getElem?_map,List.getElem?_eq_getElem J,R];rfl
  clear H s K F A;rcases D with D | ⟨a,rfl,X⟩
  ·subst D;have n:CO d t (-1) c=c:=by simp [CO,x]
   rw [n];clear n x;go_enter Tryz.func48,Tryz.ntmps48;go_wp2_with (go_at_call 14;refine (CJ B j p o _ m d t.d9 _ (k.o.m8 b.o).pr (k.o.m8 b.o).fn C).mono ?_;rw [q];rintro e l ⟨rfl,h⟩;have h:=h.symm;subst h);go_end0;exact ⟨rfl,k.o.m8 b.o,Ci.q8 b.o⟩
  ·by_cases G:u=a
   ·have n:CO d t a c=c:=by simp only [CO,q,Int.toNat_natCast,I,G];simp
    rw [n];have P:((u:Int) !=(a:Int))=false:=by simp [G]
    have Q:((u:Int)==(a:Int))=true:=by simp [G]
    have M:decide ((0:Int)≤(a:Int))=true:=by simp
    clear n x;go_enter Tryz.func48,Tryz.ntmps48;go_wp2_with (go_at_call 14;refine (CJ B j p o _ m d t.d9 _ (k.o.m8 b.o).pr (k.o.m8 b.o).fn C).mono ?_;rw [q];rintro e l ⟨rfl,h⟩;have h:=h.symm;subst h);go_end0;exact ⟨rfl,k.o.m8 b.o,Ci.q8 b.o⟩
   ·have n:CO d t a c=AU 7 t.pos c:=by simp only [CO,q,Int.toNat_natCast,I];rw [if_pos (by omega),if_pos ⟨by omega,by omega⟩]
    rw [n];have P:((u:Int) !=(a:Int))=true:=by simp;omega
    have Q:((u:Int)==(a:Int))=false:=by simp;omega
    have M:decide ((0:Int)≤(a:Int))=true:=by simp
    clear n x;go_enter Tryz.func48,Tryz.ntmps48;go_wp2_with (first | (go_at_call 14;refine (CJ B j p o _ m d t.d9 _ (k.o.m8 b.o).pr (k.o.m8 b.o).fn C).mono ?_;rw [q];rintro e l ⟨rfl,h⟩;have h:=h.symm;subst h) | (go_at_call 13;refine (Bg wb 7 t.pos c _ (k.o.m8 b.o).wr).mono ?_;rintro e T ⟨rfl,E,y⟩));go_end0;exact ⟨rfl,(k.o.m8 b.o).add E y,(Ci.q8 b.o).trans (Ci.q9 y)⟩
 ·have q:Ch (d.map fun f=>f.name.d9) t.d9 0= -1:=by have:=A.2.1;omega
  have n:CO d t z c=AU 6 t.pos c:=by simp [CO,q]
  rw [n];clear n x s K A;go_enter Tryz.func48,Tryz.ntmps48;go_wp2_with (first | (go_at_call 14;refine (CJ B j p o _ m d t.d9 _ (k.o.m8 b.o).pr (k.o.m8 b.o).fn C).mono ?_;rw [q];rintro e l ⟨rfl,h⟩;have h:=h.symm;subst h) | (go_at_call 13;refine (Bg wb 6 t.pos c _ (k.o.m8 b.o).wr).mono ?_;rintro e T ⟨rfl,E,y⟩));refine bodyPost_ret (v:=.tuple #[]) (by simp [results,Tryz.results48,go_sem]) rfl ⟨rfl,(k.o.m8 b.o).add E y,(Ci.q8 b.o).trans (Ci.q9 y)⟩
theorem Tryz.infoStr:(Tryz.prog.info? 9).map (fun i=>(i.zero,i.size,i.bytes))=some (some (.string ByteArray.empty),1,16):=by kernel_rfl
theorem EJ{s:Nat}:∀{a:List (List Value)},(∀c,c∈a→c.length=s)→∀{i j:Nat} (d:i<a.length),j<s→∀u,a.flatten.set (i*s+j) u=(a.set i (a[i].set j u)).flatten
 | [],_,_,_,d,_,_=>by simp at d
 | c::a,f,i,j,d,g,u=>by
   have b:=f c (List.mem_cons_self ..);cases i with
   | zero=> simp only [Nat.zero_mul,Nat.zero_add,List.flatten_cons,List.set_cons_zero,List.getElem_cons_zero];rw [List.set_append_left _ _ (by omega)]
   | succ i=>
     simp only [List.flatten_cons,List.set_cons_succ,List.getElem_cons_succ];rw [List.set_append_right _ _ (by rw [b,Nat.succ_mul];omega),b];have e:(i+1)*s+j-s=i*s+j:=by rw [Nat.succ_mul];omega
     rw [e,EJ (fun c b=>f c (List.mem_cons_of_mem _ b)) (by simpa using d) g u]
def Iz(f:RF)(s:ByteArray):RF:={f with r6:=f.r6++[s]}
theorem Bt.decl{B w W u g l c b r A p s}(h:Bt B w (.slice (some ⟨g,0,none⟩) l c) r)(hi:b<r.length)(X:w.cell? ⟨g,b*7+6,none⟩=some A)
 (hW:Ab (fun _=>False) w W)(hg:W.grownBy u A.ownBlock)(a6:u.ownsRow B 9 1 p (r[b].r6.length+1) (r[b].r6.map Value.string++[.string s]))(S:∀k,p.ownBlock=some k→A.ownBlock=some k∨w.heap.size≤k):
 Bt B (u.setCell ⟨g,b*7+6,none⟩ p) (.slice (some ⟨g,0,none⟩) l c) (r.set b (Iz r[b] s))∧Ab (fun k=>k=g∨A.ownBlock=some k) w (u.setCell ⟨g,b*7+6,none⟩ p)∧∀k,A.ownBlock=some k→B≤k∧∃o f,w.heap[k]? =some (.cells o 9 f):=by
 obtain ⟨o,E,hl,K,H⟩:=h;have b0:=Ap E;subst b0;have z:b<o.length:=by omega
 have V:∀x,x∈o→x.length=7:=by intro x hx;obtain ⟨j,D,rfl⟩:=List.mem_iff_getElem.1 hx;obtain ⟨_,_,_,e,_⟩:=K j D (by omega);rw [e];rfl
 obtain ⟨tv,bv,G,e,h1,h2,N⟩:=K b z hi;have a7:G=A:=by have O:=E.cellAt (b*7+6) (by omega);rw [O,CG V z (by omega),e] at X;simpa [GL] using X
 subst a7;have T:IX o[b]=G:=by rw [e];rfl
 have F:∀k,G.ownBlock=some k→B≤k∧∃o f,w.heap[k]? =some (.cells o 9 f):=by
  intro k a;refine ⟨(N.lt k a).1,?_⟩;rcases N.2 with ⟨q,_⟩ | ⟨g',b1,b2,hv,_,hh,_⟩
  ·rw [q] at a;simp [Value.ownBlock] at a
  ·rw [hv] at a;simp [Value.ownBlock] at a;subst a;exact ⟨_,_,hh⟩
 obtain ⟨gc,a5⟩:=Dj E;have a1:∀k,G.ownBlock=some k→k≠g:=Az N a5 (by decide);have v:Ab (fun k=>G.ownBlock=some k) w u:=Ab.grown (hW.mono (fun _ _ q=>q.elim)) hg (fun k a=>.inl a);have y:=(Ab.refl (fun k=>k=g) u).i7 (b*7+6) p;have a2:u.ownsRow B 56 7 (.slice (some ⟨g,0,none⟩) r.length c) r.length o.flatten:=Ac E v (fun k a q=>by simp [Value.ownBlock] at a;exact a1 k q a.symm)
 have b5:=(E.lt g rfl).2;have a8:∀k,p.ownBlock=some k→k≠g:=fun k a=>by
  rcases S k a with q | q
  ·exact a1 k q
  ·omega
 have C:∀(k:Nat) (n:Array Value) (t:TypeId) (f:Nat×Nat),k=g→u.heap[k]? =some (.cells n t f)→t≠3∧t≠52∧t≠9:=by intro k n t f a O;subst a;obtain ⟨b3,P⟩:=Dj a2;rw [O] at P;simp only [Option.some.injEq,Obj.cells.injEq] at P;rw [P.2.1];decide
 refine ⟨⟨o.set b (o[b].set 6 p),?_,by simp [hl],?_,?_⟩,?_,F⟩
 ·have:=(a2.stored (b*7+6) p).1;rw [EJ V z (by omega)] at this;simpa using this
 ·intro j a4 b4;by_cases D:b=j
  ·subst D;simp only [List.getElem_set_self];refine ⟨tv,bv,p,by rw [e];rfl,?_,?_,?_⟩
   ·refine Am (Am h1 v (fun k n f a q=>?_)) y (fun k n f a q=>(C k n _ f a q).2.1 rfl);obtain ⟨_,L,M,d⟩:=F k a;rw [q] at d;simp only [Option.some.injEq,Obj.cells.injEq] at d;exact absurd d.2.1 (by decide)
   ·refine Am (Am h2 v (fun k n f a q=>?_)) y (fun k n f a q=>(C k n _ f a q).1 rfl);obtain ⟨_,L,M,d⟩:=F k a;rw [q] at d;simp only [Option.some.injEq,Obj.cells.injEq] at d;exact absurd d.2.1 (by decide)
   ·have:=Ac a6 y a8;unfold Cz Iz;simpa using this
  ·simp only [List.getElem_set_ne D];have Z:j<o.length:=by simpa using a4
   obtain ⟨tj,bj,vj,U,j1,j2,j3⟩:=K j Z (by omega);have a9:IX o[j]=vj:=by rw [U];rfl
   refine ⟨tj,bj,vj,U,?_,?_,?_⟩
   ·refine Am (Am j1 v (fun k n f a q=>?_)) y (fun k n f a q=>(C k n _ f a q).2.1 rfl);obtain ⟨_,L,M,d⟩:=F k a;rw [q] at d;simp only [Option.some.injEq,Obj.cells.injEq] at d;exact absurd d.2.1 (by decide)
   ·refine Am (Am j2 v (fun k n f a q=>?_)) y (fun k n f a q=>(C k n _ f a q).1 rfl);obtain ⟨_,L,M,d⟩:=F k a;rw [q] at d;simp only [Option.some.injEq,Obj.cells.injEq] at d;exact absurd d.2.1 (by decide)
   ·refine Am (Ac j3 v (fun k a q=>?_)) y (fun k n f a q=>(C k n _ f a q).2.2 rfl);exact H b j z Z D k (by rw [T];exact q) (by rw [a9];exact a)
 ·intro i j I J R k a;simp only [List.length_set] at I J;have a0:∀m (hm:m<o.length) k,(IX o[m]).ownBlock=some k→k<w.heap.size:=by intro m hm k a;obtain ⟨_,_,vm,em,_,_,m3⟩:=K m hm (by omega);rw [em] at a;exact (m3.lt k a).2
  have a3:IX (o[b].set 6 p)=p:=by rw [e];rfl
  by_cases Q:b=i
  ·subst Q;rw [List.getElem_set_self,a3] at a;rw [List.getElem_set_ne R];intro q;rcases S k a with d | d
   ·exact H b j z J R k (by rw [T];exact d) q
   ·have:=a0 j J k q;omega
  ·rw [List.getElem_set_ne Q] at a;by_cases Y:b=j
   ·subst Y;rw [List.getElem_set_self,a3];intro q;rcases S k q with d | d
    ·exact H b i z I Q k (by rw [T];exact d) a
    ·have:=a0 i I k a;omega
   ·rw [List.getElem_set_ne Y];exact H i j I J R k a
 ·exact (v.mono (fun k _ q=>.inr q)).trans (y.mono (fun k _ q=>.inl q))
theorem RK.decl{A r B C s g l h:Nat}{U:Nat→Prop}{D:Value}{E v:List RF}{x:List FS}{c:CS}{m:Value}{w n:World}(K:RK A r B C s U (.slice (some ⟨g,0,none⟩) l h) D E x c w)(hF:Bt B n (.slice (some ⟨g,0,none⟩) l h) v)(j:Ab (fun k=>k=g∨m.ownBlock=some k) w n)(y:∀k,m.ownBlock=some k→B≤k∧∃u f,w.heap[k]? =some (.cells u 9 f)):
 RK A r B C s U (.slice (some ⟨g,0,none⟩) l h) D v x c n∧Ci r B (.slice (some ⟨g,0,none⟩) l h) w n:=by
 have I:=K.fn;obtain ⟨u,L,_⟩:=I;obtain ⟨W,o⟩:=Dj L;have p:∀(k:Nat) (d:Array Value) (t:TypeId) (f:Nat×Nat),(k=g∨m.ownBlock=some k)→w.heap[k]? =some (.cells d t f)→t=56∨t=9:=by
  rintro k d t f (a | a) i
  ·subst a;rw [i] at o;simp only [Option.some.injEq,Obj.cells.injEq] at o;exact .inl o.2.1
  ·obtain ⟨_,S,T,q⟩:=y k a;rw [i] at q;simp only [Option.some.injEq,Obj.cells.injEq] at q;exact .inr q.2.1
 have X:=K.z8 g rfl;have z:∀(b:Nat) (d:Array Value) (t:TypeId),Aq b d t w→t≠56→t≠9→¬(b=g∨m.ownBlock=some b):=fun b d t H F G q=>(p b d t (0,0) q H).elim F G
 refine ⟨⟨K.pr.i6.d7 j (z _ _ _ K.pr.i6 (by decide) (by decide)),hF,K.st.d7 j (fun k a q=>?_) (fun k d t f a i=>?_),Aq.d7 K.wr j (z _ _ _ K.wr (by decide) (by decide))⟩,j.mono (fun k _ q=>?_)⟩
 ·obtain ⟨Q,M,_⟩:=K.st;rcases M.2 with ⟨O,_⟩ | ⟨V,P,R,N,_,J,_⟩
  ·rw [O] at a;simp [Value.ownBlock] at a
  ·rw [N] at a;simp [Value.ownBlock] at a;subst a;exact (p _ _ _ _ q J).elim (by decide) (by decide)
 ·rcases p k d t f a i with e | e<;>(rw [e];decide)
 ·rcases q with q | q
  ·exact .inr (.inl (by rw [q];rfl))
  ·exact .inr (.inr (y k q))
theorem Ab.cell{X:Nat→Prop}{w a b}(d:Ab X w a)(i)(c:b<w.heap.size)(e:¬X b):a.cell? ⟨b,i,none⟩=w.cell? ⟨b,i,none⟩:=World.cell?_of_block (d.block b c e)
theorem ES(pb m B pl ca d:Nat)(U:Nat→Prop)(fv sv:Value)(E:List RF)(fs:List FS)(c:CS)(t:Tk)(w:World)(K:RK pb m B pl ca U fv sv E fs c w)(S:d<E.length)(hn:E.length≤4001)(hv:E[d].r6.length≤4001):
 Calls Tryz.prog 15 #[.pointer (some ⟨pb,0,none⟩),.pointer (some ⟨m,0,none⟩),.int .i64 d,EW t] w fun e w'=>e=.returned (.tuple #[])∧RK pb m B pl ca U fv sv (E.set d (Iz E[d] t.d9)) fs (Cm E[d].r6 t c) w'∧Ci m B fv w w':=by
 obtain ⟨i0,b2,b4,b5,b6⟩:=info_parts Tryz.infoStr;have p0:=K.pr.i6.cell 0;simp at p0;have lp:=Ad K.pr;have lw:=Ad K.wr;have R:=K.fn;obtain ⟨cs,p1,_⟩:=R;obtain ⟨va,vl,vc,rfl⟩:=Af p1;have d1:=Ap p1;subst d1;obtain ⟨g,rfl⟩:=Ay p1 (by omega);have lg:=(p1.lt g rfl).2;obtain ⟨tv,bv,vv,hc,_,_,b3⟩:=K.fn.get S;have c6:=hc 6 (by omega);simp only [GL,Ni,Ng,Nh] at c6;obtain ⟨xa,xl,xc,rfl⟩:=Af b3;have d2:=Ap b3;have d8:(d:Int)<(E.length:Int):=by omega
 have l:=Aa ((Ab.refl (fun _=>False) w).alloc (.cells #[.string t.d9,.int .i64 t.pos,.int .i64 t.sort] 52));have HT:=Aa (Aq.new w #[.string t.d9,.int .i64 t.pos,.int .i64 t.sort] 52);have V:=Aa K;have b0:=Aa b3;have c8:=(K.z8 g rfl).1;clear hc p1 K b3;generalize c9:E[d].r6=a at*;have Y:=Aa c9;clear c9;subst d2;unfold EW;by_cases b1:12≤a.length
 ·have d3:decide ((12:Int)≤(a.length:Int))=true:=by simp;omega
  by_cases Q:0≤Ch a t.d9 0
  ·have u:=Q;have H:Cm a t c=AU 5 t.pos (AU 4 t.pos c):=by simp only [Cm,if_pos b1,if_pos Q]
   have c0:decide ((0:Int)≤Ch a t.d9 0)=true:=by simp;omega
   rw [H];clear H;go_enter Tryz.func15,Tryz.ntmps15;go_wp2_with (go_at_call 13;refine (Bg m 4 t.pos c _ (V.o.m8 l.o).wr).mono ?_;rintro e A ⟨rfl,a8,p⟩);have P:=Aa ((V.o.m8 l.o).add a8 p);have C:=Aa (Aq.d7 HT.o p (by omega));have Z:=Aa ((Ci.q8 (wb:=m) (B:=B) (fv:=(.slice (some ⟨g,0,none⟩) E.length vc)) l.o).trans (Ci.q9 p));have d0:=(p.cell (d*7+6) (by simp;omega) c8).trans ((l.o.cell (d*7+6) lg (fun q=>q)).trans c6);have c3:=C.o.cell 0;have c4:=C.o.cell 1;simp only [Ni,Ng,Nh] at c3 c4;have hq:∀n:Nat,Cz B (A.drewN n) (.slice xa a.length xc) a:=fun n=>Ac (X:=fun _=>False) (Am (Ac b0.o l.o (fun _ _ q=>q)) p (fun k ds fz J=>BD (V.o.m8 l.o).wr (by decide) k ds fz J)) ((Ab.refl _ A).drewN n) (fun _ _ q=>q)
   have d4:g<A.heap.size:=by have:=p.size;simp at this;omega
   have d7:m<A.heap.size:=by have:=p.size;simp at this;omega
   have d5:=Ad C.o;clear a8 p;go_quiet ((go_at_call 31;refine Calls.quiet_of_same (Dx B _ _ t.d9 _ (hq _) hv)));have o:Nj (Ab (fun _=>False) A (A.drewN nq)):=(Ab.refl _ _).drewN nq;go_wp2_with (go_at_call 13;refine (Bg m 5 t.pos (AU 4 t.pos c) _ (P.o.m8 o.o).wr).mono ?_;rintro e W ⟨rfl,a9,T⟩);have i:=Aa ((P.o.m8 o.o).add a9 T);have D:=Aa (Aq.d7 (Aq.d7 C.o o.o (fun q=>q)) T (by omega));have O:=Aa ((Z.o.trans (Ci.q8 o.o)).trans (Ci.q9 T));clear a9 T;have R:=i.o.fn;obtain ⟨b8,f,_⟩:=R;have N:=(f.lt g rfl).2;obtain ⟨c5,b7,c7,I,_,_,b⟩:=i.o.fn.get S;have s:=I 6 (by omega);simp only [GL,Ni,Ng,Nh] at s;have df:=f.frozenAt (d*7+6);rw [Y.o] at b;obtain ⟨y,yl,z,rfl⟩:=Af b;have a4:=Ap b;subst a4;obtain ⟨b9,a1⟩:=Dj f;have G:=Aa (Az b a1 (by decide));have a0:=Aa b;have u0:=D.o.cell 0;simp only [Ni,Ng] at u0;have c2:=Ad D.o;have c1:B≤W.heap.size:=by have:=(f.lt g rfl).1;omega
   clear I f b;go_region_law (refine AV rfl _ _ 54 rfl B 9 i0 (.string ByteArray.empty) 1 16 Tryz.underlying54 b2 b4 b5 b6 rfl (by decide) _ _ _ rfl (a0.o.alloc _) ⟨W.heap.size,0,none⟩ 1 1 [.string t.d9] rfl rfl (Bn rfl _ _) (fun x u=>by simp at u;subst u;rfl) (by decide) (by unfold maxLen;omega) (by omega) (by simp;omega) ?_;intro v' v M j L;have q1:v.cell? ⟨g,d*7+6,none⟩=some (.slice y a.length z):=(World.cell?_of_block (j.block g (by simp;omega) (fun h=>G.o g h.symm rfl))).trans (by rw [←s];exact World.cell?_of_block (Below.heap_alloc _ _ _ N));have q2:v.frozen? ⟨g,d*7+6,none⟩=false:=(World.frozen?_of_block (j.block g (by simp;omega) (fun h=>G.o g h.symm rfl))).trans (by rw [←df];exact World.frozen?_of_block (Below.heap_alloc _ _ _ N));obtain ⟨a5,a7,a6,rfl⟩:=Af M);all_goals
    have a2:(W.alloc (.cells #[.string t.d9] 9)).drew.grownBy v (Value.ownBlock (.slice y a.length z)):=j;have a3:∀k,Value.ownBlock (.slice a5 a7 a6)=some k→Value.ownBlock (.slice y a.length z)=some k∨W.heap.size≤k:=fun k J=>(L k J).imp (fun q=>q) (fun q=>by simp at q;omega)
    have r:=Bt.decl i.o.fn S s (((Ab.refl _ W).alloc _).drew) a2 (by rw [Y.o];exact M) a3;have F:=i.o.decl r.1 r.2.1 r.2.2;clear j L;go_wp2_with fail;go_end0;exact ⟨rfl,F.1,O.o.trans F.2⟩
  ·have u:=Q;have H:Cm a t c=AU 4 t.pos c:=by simp only [Cm,if_pos b1,if_neg Q]
   have c0:decide ((0:Int)≤Ch a t.d9 0)=false:=by simp;omega
   rw [H];clear H;go_enter Tryz.func15,Tryz.ntmps15;go_wp2_with (go_at_call 13;refine (Bg m 4 t.pos c _ (V.o.m8 l.o).wr).mono ?_;rintro e A ⟨rfl,a8,p⟩);have P:=Aa ((V.o.m8 l.o).add a8 p);have C:=Aa (Aq.d7 HT.o p (by omega));have Z:=Aa ((Ci.q8 (wb:=m) (B:=B) (fv:=(.slice (some ⟨g,0,none⟩) E.length vc)) l.o).trans (Ci.q9 p));have d0:=(p.cell (d*7+6) (by simp;omega) c8).trans ((l.o.cell (d*7+6) lg (fun q=>q)).trans c6);have c3:=C.o.cell 0;have c4:=C.o.cell 1;simp only [Ni,Ng,Nh] at c3 c4;have hq:∀n:Nat,Cz B (A.drewN n) (.slice xa a.length xc) a:=fun n=>Ac (X:=fun _=>False) (Am (Ac b0.o l.o (fun _ _ q=>q)) p (fun k ds fz J=>BD (V.o.m8 l.o).wr (by decide) k ds fz J)) ((Ab.refl _ A).drewN n) (fun _ _ q=>q)
   have d4:g<A.heap.size:=by have:=p.size;simp at this;omega
   have d7:m<A.heap.size:=by have:=p.size;simp at this;omega
   have d5:=Ad C.o;clear a8 p;go_quiet ((go_at_call 31;refine Calls.quiet_of_same (Dx B _ _ t.d9 _ (hq _) hv)));have o:Nj (Ab (fun _=>False) A (A.drewN nq)):=(Ab.refl _ _).drewN nq;go_wp2;have i:=Aa (P.o.m8 o.o);have D:=Aa (Aq.d7 C.o o.o (fun q=>q));have O:=Aa (Z.o.trans (Ci.q8 o.o));generalize A.drewN nq=W at i D O⊢;have R:=i.o.fn;obtain ⟨b8,f,_⟩:=R;have N:=(f.lt g rfl).2;obtain ⟨c5,b7,c7,I,_,_,b⟩:=i.o.fn.get S;have s:=I 6 (by omega);simp only [GL,Ni,Ng,Nh] at s;have df:=f.frozenAt (d*7+6);rw [Y.o] at b;obtain ⟨y,yl,z,rfl⟩:=Af b;have a4:=Ap b;subst a4;obtain ⟨b9,a1⟩:=Dj f;have G:=Aa (Az b a1 (by decide));have a0:=Aa b;have u0:=D.o.cell 0;simp only [Ni,Ng] at u0;have c2:=Ad D.o;have c1:B≤W.heap.size:=by have:=(f.lt g rfl).1;omega
   clear I f b;go_region_law (refine AV rfl _ _ 54 rfl B 9 i0 (.string ByteArray.empty) 1 16 Tryz.underlying54 b2 b4 b5 b6 rfl (by decide) _ _ _ rfl (a0.o.alloc _) ⟨W.heap.size,0,none⟩ 1 1 [.string t.d9] rfl rfl (Bn rfl _ _) (fun x u=>by simp at u;subst u;rfl) (by decide) (by unfold maxLen;omega) (by omega) (by simp;omega) ?_;intro v' v M j L;have q1:v.cell? ⟨g,d*7+6,none⟩=some (.slice y a.length z):=(World.cell?_of_block (j.block g (by simp;omega) (fun h=>G.o g h.symm rfl))).trans (by rw [←s];exact World.cell?_of_block (Below.heap_alloc _ _ _ N));have q2:v.frozen? ⟨g,d*7+6,none⟩=false:=(World.frozen?_of_block (j.block g (by simp;omega) (fun h=>G.o g h.symm rfl))).trans (by rw [←df];exact World.frozen?_of_block (Below.heap_alloc _ _ _ N));obtain ⟨a5,a7,a6,rfl⟩:=Af M);all_goals
    have a2:(W.alloc (.cells #[.string t.d9] 9)).drew.grownBy v (Value.ownBlock (.slice y a.length z)):=j;have a3:∀k,Value.ownBlock (.slice a5 a7 a6)=some k→Value.ownBlock (.slice y a.length z)=some k∨W.heap.size≤k:=fun k J=>(L k J).imp (fun q=>q) (fun q=>by simp at q;omega)
    have r:=Bt.decl i.o.fn S s (((Ab.refl _ W).alloc _).drew) a2 (by rw [Y.o];exact M) a3;have F:=i.o.decl r.1 r.2.1 r.2.2;clear j L;go_wp2_with fail;go_end0;exact ⟨rfl,F.1,O.o.trans F.2⟩
 ·have d3:decide ((12:Int)≤(a.length:Int))=false:=by simp;omega
  by_cases Q:0≤Ch a t.d9 0
  ·have u:=Q;have H:Cm a t c=AU 5 t.pos (c):=by simp only [Cm,if_neg b1,if_pos Q]
   have c0:decide ((0:Int)≤Ch a t.d9 0)=true:=by simp;omega
   rw [H];clear H;go_enter Tryz.func15,Tryz.ntmps15;go_wp2;have P:=Aa (V.o.m8 l.o);have C:=HT;have Z:=Aa (Ci.q8 (wb:=m) (B:=B) (fv:=(.slice (some ⟨g,0,none⟩) E.length vc)) l.o);have hq:∀n:Nat,Cz B ((w.alloc (.cells #[.string t.d9,.int .i64 t.pos,.int .i64 t.sort] 52)).drewN n) (.slice xa a.length xc) a:=fun n=>Ac b0.o (l.o.drewN n) (fun _ _ q=>q)
   go_quiet ((go_at_call 31;refine Calls.quiet_of_same (Dx B _ _ t.d9 _ (hq _) hv)));have o:Nj (Ab (fun _=>False) (w.alloc (.cells #[.string t.d9,.int .i64 t.pos,.int .i64 t.sort] 52)) ((w.alloc (.cells #[.string t.d9,.int .i64 t.pos,.int .i64 t.sort] 52)).drewN nq)):=(Ab.refl _ _).drewN nq;go_wp2_with (go_at_call 13;refine (Bg m 5 t.pos (c) _ (P.o.m8 o.o).wr).mono ?_;rintro e W ⟨rfl,a9,T⟩);have i:=Aa ((P.o.m8 o.o).add a9 T);have D:=Aa (Aq.d7 (Aq.d7 C.o o.o (fun q=>q)) T (by omega));have O:=Aa ((Z.o.trans (Ci.q8 o.o)).trans (Ci.q9 T));clear a9 T;have R:=i.o.fn;obtain ⟨b8,f,_⟩:=R;have N:=(f.lt g rfl).2;obtain ⟨c5,b7,c7,I,_,_,b⟩:=i.o.fn.get S;have s:=I 6 (by omega);simp only [GL,Ni,Ng,Nh] at s;have df:=f.frozenAt (d*7+6);rw [Y.o] at b;obtain ⟨y,yl,z,rfl⟩:=Af b;have a4:=Ap b;subst a4;obtain ⟨b9,a1⟩:=Dj f;have G:=Aa (Az b a1 (by decide));have a0:=Aa b;have u0:=D.o.cell 0;simp only [Ni,Ng] at u0;have c2:=Ad D.o;have c1:B≤W.heap.size:=by have:=(f.lt g rfl).1;omega
   clear I f b;go_region_law (refine AV rfl _ _ 54 rfl B 9 i0 (.string ByteArray.empty) 1 16 Tryz.underlying54 b2 b4 b5 b6 rfl (by decide) _ _ _ rfl (a0.o.alloc _) ⟨W.heap.size,0,none⟩ 1 1 [.string t.d9] rfl rfl (Bn rfl _ _) (fun x u=>by simp at u;subst u;rfl) (by decide) (by unfold maxLen;omega) (by omega) (by simp;omega) ?_;intro v' v M j L;have q1:v.cell? ⟨g,d*7+6,none⟩=some (.slice y a.length z):=(World.cell?_of_block (j.block g (by simp;omega) (fun h=>G.o g h.symm rfl))).trans (by rw [←s];exact World.cell?_of_block (Below.heap_alloc _ _ _ N));have q2:v.frozen? ⟨g,d*7+6,none⟩=false:=(World.frozen?_of_block (j.block g (by simp;omega) (fun h=>G.o g h.symm rfl))).trans (by rw [←df];exact World.frozen?_of_block (Below.heap_alloc _ _ _ N));obtain ⟨a5,a7,a6,rfl⟩:=Af M);all_goals
    have a2:(W.alloc (.cells #[.string t.d9] 9)).drew.grownBy v (Value.ownBlock (.slice y a.length z)):=j;have a3:∀k,Value.ownBlock (.slice a5 a7 a6)=some k→Value.ownBlock (.slice y a.length z)=some k∨W.heap.size≤k:=fun k J=>(L k J).imp (fun q=>q) (fun q=>by simp at q;omega)
    have r:=Bt.decl i.o.fn S s (((Ab.refl _ W).alloc _).drew) a2 (by rw [Y.o];exact M) a3;have F:=i.o.decl r.1 r.2.1 r.2.2;clear j L;go_wp2_with fail;go_end0;exact ⟨rfl,F.1,O.o.trans F.2⟩
  ·have u:=Q;have H:Cm a t c=c:=by simp only [Cm,if_neg b1,if_neg Q]
   have c0:decide ((0:Int)≤Ch a t.d9 0)=false:=by simp;omega
   rw [H];clear H;go_enter Tryz.func15,Tryz.ntmps15;go_wp2;have P:=Aa (V.o.m8 l.o);have C:=HT;have Z:=Aa (Ci.q8 (wb:=m) (B:=B) (fv:=(.slice (some ⟨g,0,none⟩) E.length vc)) l.o);have hq:∀n:Nat,Cz B ((w.alloc (.cells #[.string t.d9,.int .i64 t.pos,.int .i64 t.sort] 52)).drewN n) (.slice xa a.length xc) a:=fun n=>Ac b0.o (l.o.drewN n) (fun _ _ q=>q)
   go_quiet ((go_at_call 31;refine Calls.quiet_of_same (Dx B _ _ t.d9 _ (hq _) hv)));have o:Nj (Ab (fun _=>False) (w.alloc (.cells #[.string t.d9,.int .i64 t.pos,.int .i64 t.sort] 52)) ((w.alloc (.cells #[.string t.d9,.int .i64 t.pos,.int .i64 t.sort] 52)).drewN nq)):=(Ab.refl _ _).drewN nq;go_wp2;have i:=Aa (P.o.m8 o.o);have D:=Aa (Aq.d7 C.o o.o (fun q=>q));have O:=Aa (Z.o.trans (Ci.q8 o.o));generalize (w.alloc (.cells #[.string t.d9,.int .i64 t.pos,.int .i64 t.sort] 52)).drewN nq=W at i D O⊢;have R:=i.o.fn;obtain ⟨b8,f,_⟩:=R;have N:=(f.lt g rfl).2;obtain ⟨c5,b7,c7,I,_,_,b⟩:=i.o.fn.get S;have s:=I 6 (by omega);simp only [GL,Ni,Ng,Nh] at s;have df:=f.frozenAt (d*7+6);rw [Y.o] at b;obtain ⟨y,yl,z,rfl⟩:=Af b;have a4:=Ap b;subst a4;obtain ⟨b9,a1⟩:=Dj f;have G:=Aa (Az b a1 (by decide));have a0:=Aa b;have u0:=D.o.cell 0;simp only [Ni,Ng] at u0;have c2:=Ad D.o;have c1:B≤W.heap.size:=by have:=(f.lt g rfl).1;omega
   clear I f b;go_region_law (refine AV rfl _ _ 54 rfl B 9 i0 (.string ByteArray.empty) 1 16 Tryz.underlying54 b2 b4 b5 b6 rfl (by decide) _ _ _ rfl (a0.o.alloc _) ⟨W.heap.size,0,none⟩ 1 1 [.string t.d9] rfl rfl (Bn rfl _ _) (fun x u=>by simp at u;subst u;rfl) (by decide) (by unfold maxLen;omega) (by omega) (by simp;omega) ?_;intro v' v M j L;have q1:v.cell? ⟨g,d*7+6,none⟩=some (.slice y a.length z):=(World.cell?_of_block (j.block g (by simp;omega) (fun h=>G.o g h.symm rfl))).trans (by rw [←s];exact World.cell?_of_block (Below.heap_alloc _ _ _ N));have q2:v.frozen? ⟨g,d*7+6,none⟩=false:=(World.frozen?_of_block (j.block g (by simp;omega) (fun h=>G.o g h.symm rfl))).trans (by rw [←df];exact World.frozen?_of_block (Below.heap_alloc _ _ _ N));obtain ⟨a5,a7,a6,rfl⟩:=Af M);all_goals
    have a2:(W.alloc (.cells #[.string t.d9] 9)).drew.grownBy v (Value.ownBlock (.slice y a.length z)):=j;have a3:∀k,Value.ownBlock (.slice a5 a7 a6)=some k→Value.ownBlock (.slice y a.length z)=some k∨W.heap.size≤k:=fun k J=>(L k J).imp (fun q=>q) (fun q=>by simp at q;omega)
    have r:=Bt.decl i.o.fn S s (((Ab.refl _ W).alloc _).drew) a2 (by rw [Y.o];exact M) a3;have F:=i.o.decl r.1 r.2.1 r.2.2;clear j L;go_wp2_with fail;go_end0;exact ⟨rfl,F.1,O.o.trans F.2⟩
end Go.Proofs.YtmaankfbhhbeoaaGreatDoor

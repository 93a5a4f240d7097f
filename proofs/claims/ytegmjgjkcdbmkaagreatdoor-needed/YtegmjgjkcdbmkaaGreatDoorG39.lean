/- One of the texts of the proof: ArM ArN. -/
import Derived.Test.YtegmjgjkcdbmkaaGreatDoorG38
set_option maxRecDepth 100000
set_option maxHeartbeats 4000000
namespace Go.Proofs.YtegmjgjkcdbmkaaGreatDoor
open Go.RowKit Go.Maps
def Nu(b:Bd):Prop:=∀s,s∈b.b9→(s.kind=1→1≤s.m9∧s.m9≤b.pl)∧(s.kind=8→1≤s.m9∧s.m9≤b.ca)
def R8(b c:Bd):Prop:=Nu c∧b.pl≤c.pl∧b.ca≤c.ca
theorem R8.tr{a b c:Bd}(h:R8 a b)(k:R8 b c):R8 a c:=⟨k.1,Nat.le_trans h.2.1 k.2.1,Nat.le_trans h.2.2 k.2.2⟩
theorem KM{l:List AY}{i:Nat}{f:AY→AY}{s:AY}(h:s∈l.modify i f):∃t,t∈l∧(s=t∨s=f t):=by
 obtain ⟨j,a,e⟩:=List.mem_iff_getElem.1 h;rw [List.length_modify] at a;rw [List.getElem_modify] at e;refine ⟨l[j],List.getElem_mem _,?_⟩;split at e
 ·exact .inr e.symm
 ·exact .inl e.symm
theorem R8.tk{a b:Bd}(h:R8 a b)(i n:Nat):R8 a (b.tk i n):=⟨fun s d=>by
 obtain ⟨t,c,rfl | rfl⟩:=KM d
 ·exact h.1 _ c
 ·exact h.1 t c,h.2⟩
theorem R8.nx{a b:Bd}(h:R8 a b)(i n:Nat):R8 a (b.nx i n):=⟨fun s d=>by
 obtain ⟨t,c,rfl | rfl⟩:=KM d
 ·exact h.1 _ c
 ·exact h.1 t c,h.2⟩
theorem Nu.stepA{b:Bd}(h:Nu b)(c:List ByteArray)(s:VS)(a:Nat):R8 b (Am c s a b):=by
 have d:(Proofs.YtegmjgjkcdbmkaaGreatDoor.Am c s a b).pl=if s.kind=1 then b.pl+1 else b.pl:=rfl
 have f:(Proofs.YtegmjgjkcdbmkaaGreatDoor.Am c s a b).ca=if s.kind=8 then b.ca+1 else b.ca:=rfl
 refine ⟨fun u g=>?_,by rw [d];split<;>omega,by rw [f];split<;>omega⟩;rcases List.mem_append.1 g with q | q
 ·have:=h u q;exact ⟨fun k=>⟨(this.1 k).1,by have:=(this.1 k).2;rw [d];split<;>omega⟩,fun k=>⟨(this.2 k).1,by have:=(this.2 k).2;rw [f];split<;>omega⟩⟩
 ·rw [List.mem_singleton.1 q];refine ⟨fun k=>?_,fun k=>?_⟩
  ·have k:s.kind=1:=k;have e:({Az c s b with next:=a}:AY).m9=b.pl+1:=by simp [Az,k]
   rw [e,d,if_pos k];omega
  ·have k:s.kind=8:=k;have e:({Az c s b with next:=a}:AY).m9=b.ca+1:=by simp [Az,k]
   rw [e,f,if_pos k];omega
mutual
theorem Rp(fn:List ByteArray):∀(t:TS) (a:Nat) (b:Bd),Nu b→R8 b (BP fn t a b)
 | .mk s [],a,b,h=>by rw [BP];exact h.stepA fn s a
 | .mk s [(_,ts)],a,b,h=>by
   have hA:=h.stepA fn s a;rw [BP];split
   ·exact (hA.tr (Gq fn ts a _ hA.1)).tk _ _
   ·split
    ·exact (hA.tr (Gq fn ts _ _ hA.1)).tk _ _
    ·exact hA
 | .mk s ((_,ts)::(_,ts2)::r),a,b,h=>by
   have hA:=h.stepA fn s a;rw [BP];split
   ·have h1:=(hA.tr (Gq fn ts a _ hA.1)).tk b.b9.length (AJ ts a (Am fn s a b));exact (h1.tr (Gq fn ts2 a _ h1.1)).nx _ _
   ·exact hA
theorem Gq(fn:List ByteArray):∀(ts:List TS) (a:Nat) (b:Bd),Nu b→R8 b (AP fn ts a b)
 | [],a,b,h=>by rw [AP];exact ⟨h,Nat.le_refl _,Nat.le_refl _⟩
 | [t],a,b,h=>by rw [AP];exact Rp fn t a b h
 | t::t2::ts,a,b,h=>by have h1:=Rp fn t (b.b9.length+Ez t) b h;rw [AP];exact h1.tr (Gq fn (t2::ts) a _ h1.1)
end
theorem UA(c:List ByteArray)(t:TF)(b a:Nat):Nu (EQ c t b a)∧b≤(EQ c t b a).pl∧a≤(EQ c t b a).ca:=Gq c t.v8 (CQ t.v8) (QU t b a) (fun s d=>by cases d)
theorem Oj(c:List ByteArray):∀(l:List TF) (b a:Nat),b≤(BB c l b a).1∧a≤(BB c l b a).2
 | [],_,_=>⟨Nat.le_refl _,Nat.le_refl _⟩
 | t::l,b,a=>by have d:=UA c t b a;have e:=Oj c l (EQ c t b a).pl (EQ c t b a).ca;rw [BB];exact ⟨Nat.le_trans d.2.1 e.1,Nat.le_trans d.2.2 e.2⟩
theorem Om(a:List ByteArray):∀(l:List TF) (c b:Nat) (f:PFn),f∈Bu a l c b→∀s,s∈f.b9→(s.kind=1→1≤s.m9∧s.m9≤(BB a l c b).1)∧(s.kind=8→1≤s.m9∧s.m9≤(BB a l c b).2)
 | [],_,_,f,h=>by cases h
 | t::l,c,b,f,h=>by
   rw [Bu] at h;rw [BB];rcases List.mem_cons.1 h with rfl | q
   ·intro s g;have d:=(UA a t c b).1 s g;have e:=Oj a l (EQ a t c b).pl (EQ a t c b).ca;exact ⟨fun k=>⟨(d.1 k).1,Nat.le_trans (d.1 k).2 e.1⟩,fun k=>⟨(d.2 k).1,Nat.le_trans (d.2 k).2 e.2⟩⟩
   ·exact Om a l _ _ f q
theorem Me{fn:List ByteArray}{par:List Nat}:∀(l:List TF) (b a:Nat),(∀t,t∈l→IM fn par t.v8 (t.i8.map fun p=>p.a9))→BB fn l b a=(b+(l.map fun t=>nL 1 t.v8).sum,a+(l.map fun t=>nL 8 t.v8).sum)
 | [],_,_,_=>rfl
 | t::l,b,a,c=>by obtain ⟨_,d,e,_⟩:=KU (fn:=fn) (par:=par) t b a (c t (List.mem_cons_self ..));rw [BB,d,e,Me l _ _ (fun t f=>c t (List.mem_cons_of_mem _ f))];simp only [List.map_cons,List.sum_cons,Nat.add_assoc]
theorem Hf{f g:TF→Nat}(h:∀t,f t≤g t):∀(l:List TF),(l.map f).sum≤(l.map g).sum
 | []=>Nat.le_refl _
 | t::l=>by have a:=h t;have b:=Hf h l;simp only [List.map_cons,List.sum_cons];omega
theorem GoodP.anHy{a:List TF}(G:GoodP a):AnHy (Bu (DU a) a 0 0) (vx (DU a) EA) (BB (DU a) a 0 0).1 (BB (DU a) a 0 0).2:=by
 have d:=Me (fn:=DU a) (par:=Zy a) a 0 0 G.bP.ok;have m:=Hf (f:=fun t=>nL 1 t.v8) (g:=fun t=>CQ t.v8) (fun t=>JA 1 t.v8) a;have n:=Hf (f:=fun t=>nL 8 t.v8) (g:=fun t=>CQ t.v8) (fun t=>JA 8 t.v8) a;have o:=G.sum;have h:(BB (DU a) a 0 0).1≤4000:=by rw [d];simp only;omega
 have k:(BB (DU a) a 0 0).2≤4000:=by rw [d];simp only;omega
 have c:=Ff (fn:=DU a) a 0 0;refine ⟨⟨G.cQ,by rw [c];exact G.bP.bA,by omega,by omega,fun i b s e=>?_⟩,h,G.cX,?_⟩
 ·have j:Ap (Bu (DU a) a 0 0) i∈Bu (DU a) a 0 0:=by unfold Ap;rw [List.getElem?_eq_getElem b];exact List.getElem_mem _
  have:=Om (DU a) a 0 0 _ j s e
  exact ⟨this.1,this.2,(G.cQ.ok i b s e).field⟩
 ·have:=(O8 (l:=DU a) (s:=EA) G.bP.main).1;rw [c];simpa [DU] using this
theorem GP{w a}(h:Below (World.heap w).size w a):Ab (fun _=>False) w a:=⟨h.os,h.tape,h.output,h.size,fun k b _=>h.block k b⟩
theorem Hp(H:RZ)(s:ByteArray)(b:List TF)(x:Nat)(G:GoodP b)(D:∀t,t∈b→∀u,u∈t.v8→Na 4000 u)(w:World)(O:JL w)(P:0<w.heap.size)
 (C:Calls Tryz.prog 36 #[.string s] w fun e d=>∃(g n B:Nat) (a:Option Addr) (l c:Nat) (U:Nat→Prop),e=.returned (.tuple #[.slice (some ⟨g,0,none⟩) n B,.agg #[.slice a l c,.int .i64 x],.int .i64 0,.int .i64 0])∧Di 4000 U d (.slice a l c) b∧(∀k,U k→k<d.heap.size)∧Below w.heap.size w d):
 Calls Tryz.prog 19 #[.string s] w fun e d=>∃r,e=.returned (.tuple #[.pointer (some ⟨r,0,none⟩),.int .i64 0,.int .i64 0])∧w.heap.size≤r∧GH (Bu (DU b) b 0 0) (vx (DU b) EA) (BB (DU b) b 0 0).1 (BB (DU b) b 0 0).2 r d∧Ab (fun _=>False) w d:=by
 have z:=Aa C;have j:=Aa G.anHy;have W:=Aa (G.cY D);have T:=Aa H;have Y:=Aa O;clear C G D H O;go_enter Tryz.func19,Tryz.ntmps19;go_wp2_with fail;refine z.o.mono ?_;rintro e w2 ⟨g,n,B,a,l,c,U,rfl,L,N,F⟩;have O2:=Aa (GP F);have X:=Aa L;have Z:=Aa N;have h:=Aa ((Ab.refl (fun _=>False) w2).alloc (.cells #[.slice a l c,.int .i64 x] 82));clear F z L N;go_wp2_with (first
  | (go_at_call 39;refine (Xn 4000 U (.slice a l c) b x _ (X.o.O h.o (fun _ _ q=>q)) (fun k hk=>by have:=Z.o k hk;have:=h.o.size;omega) W.o).mono ?_;rintro e w4 ⟨fv,rfl,K,I⟩;have V:=Aa K;have i:=Aa (O2.o.trans (h.o.trans I));clear K I)
  | (go_at_call 40;refine (YK T.o (Bu (DU b) b 0 0) fv (vx (DU b) EA) (BB (DU b) b 0 0).1 (BB (DU b) b 0 0).2 w4 j.o.ok j.o.nm (V.o.base (Nat.zero_le _)) j.o.mn (Y.o.O i.o (fun q=>q) P) (Nat.lt_of_lt_of_le P i.o.size)).mono ?_;rintro e f ⟨a0,o,m,p,rfl,M,J⟩;have A:=Aa M;have y:=Aa (i.o.trans J);clear M J;obtain ⟨Q,S,R,rfl⟩:∃a l c,a0=.slice a l c:=(match A.o.pl with | ⟨_,q,_⟩=>Ad q);unfold D0))
 have a1:=Ak.new f (D0 (.slice Q S R) (vx (DU b) EA) (BB (DU b) b 0 0).1 (BB (DU b) b 0 0).2 o m p) 98;have E:=(Ab.refl (fun _=>False) f).alloc (.cells (D0 (.slice Q S R) (vx (DU b) EA) (BB (DU b) b 0 0).1 (BB (DU b) b 0 0).2 o m p) 98);refine bodyPost_ret (v:=.tuple #[.pointer (some ⟨f.heap.size,0,none⟩),.int .i64 0,.int .i64 0]) (by simp [results,Tryz.results19,go_sem]) rfl ⟨f.heap.size,rfl,y.o.size,⟨_,o,m,p,a1,A.o.i9 E⟩,y.o.trans E⟩
end Go.Proofs.YtegmjgjkcdbmkaaGreatDoor

/- One of the texts of the proof: MbC RuR RwC. -/
import Derived.Test.YtegmjgjkcdbmkaaGreatDoorS20
import Derived.Sort.OwnSorted
set_option maxRecDepth 100000
set_option maxHeartbeats 4000000
namespace Go.Proofs.YtegmjgjkcdbmkaaGreatDoor
open Go.RowKit Go.Maps Go.Sort
structure GoodP(c:List TF):Prop where
 bP:Z0 c
 sum:(c.map fun t=>CQ t.v8).sum≤4000
 wf:∀t,t∈c→Yr t.v8
 cT:∀t,t∈c→Uo (fun b=>Ud b∧b.size≤4000) t
def DU(c:List TF):List ByteArray:=c.map fun f=>f.name.a9
def Zy(c:List TF):List Nat:=c.map fun f=>f.i8.length
def sK(k:Nat)(l:List TF)(i:Nat):Nat:=((l.take i).map fun t=>nL k t.v8).sum
theorem Ol{fn:List ByteArray}{par:List Nat}:∀(l:List TF) (b a i:Nat) (h:i<l.length),(∀t,t∈l→IM fn par t.v8 (t.i8.map fun p=>p.a9))→(Bu fn l b a)[i]? =some (CL fn l[i] (b+sK 1 l i) (a+sK 8 l i))
 | [],_,_,i,h,_=>by simp at h
 | t::l,b,a,0,_,_=>by simp [Bu,sK]
 | t::l,b,a,i+1,h,d=>by obtain ⟨_,e,f,_⟩:=KU (fn:=fn) (par:=par) t b a (d t (List.mem_cons_self ..));have I:=Ol (fn:=fn) (par:=par) l (b+nL 1 t.v8) (a+nL 8 t.v8) i (by simpa using h) (fun t g=>d t (rT _ g));rw [Bu,e,f,dK,I];simp only [sK,List.take_succ_cons,List.map_cons,List.sum_cons,List.getElem_cons_succ,Nat.add_assoc]
theorem Ff{fn:List ByteArray}:∀(l:List TF) (b a:Nat),(Bu fn l b a).length=l.length
 | [],_,_=>rfl
 | t::l,b,a=>by rw [Bu,rW,Ff l,rW]
theorem Ws:∀(l:List TF) (b a i:Nat) (h:i<l.length),(Yj l b a)[i]? =some ⟨Dx l[i],l[i].i8.length,l[i].v8,b+sK 1 l i,a+sK 8 l i⟩
 | [],_,_,i,h=>by simp at h
 | t::l,b,a,0,_=>by simp [Yj,sK,Dx]
 | t::l,b,a,i+1,h=>by have I:=Ws l (b+nL 1 t.v8) (a+nL 8 t.v8) i (by simpa using h);rw [Yj,dK,I];simp only [sK,List.take_succ_cons,List.map_cons,List.sum_cons,List.getElem_cons_succ,Nat.add_assoc]
theorem RU:∀(l:List TF) (b a:Nat),(Yj l b a).length=l.length
 | [],_,_=>rfl
 | t::l,b,a=>by rw [Yj,rW,RU l,rW]
theorem VN(k:Nat):∀(l:List TF) (i:Nat) (h:i<l.length),sK k l i+nL k l[i].v8≤(l.map fun t=>CQ t.v8).sum
 | [],i,h=>by simp at h
 | t::l,0,_=>by have:=JA k t.v8;simp only [sK,List.take_zero,List.map_nil,List.sum_nil,List.getElem_cons_zero,List.map_cons,List.sum_cons];omega
 | t::l,i+1,h=>by have I:=VN k l i (by simpa using h);have:=JA k t.v8;simp only [sK,List.take_succ_cons,List.map_cons,List.sum_cons,List.getElem_cons_succ] at I⊢;omega
theorem Rs{f:TF→Nat}:∀{l:List TF} {t:TF},t∈l→f t≤(l.map f).sum
 | [],_,h=>by simp at h
 | a::l,t,h=>by
   simp only [List.map_cons,List.sum_cons];rcases List.mem_cons.1 h with rfl | q
   ·omega
   ·have:=Rs (f:=f) q;omega
section
variable {c : List TF} (G : GoodP c)
include G
theorem GoodP.cZ{t:TF}(h:t∈c):CQ t.v8≤4000:=rO (Rs (f:=fun t=>CQ t.v8) h) G.sum
theorem GoodP.pf(i:Nat)(h:i<c.length):Ap (Bu (DU c) c 0 0) i=CL (DU c) c[i] (sK 1 c i) (sK 8 c i):=by unfold Ap;rw [Ol (fn:=DU c) (par:=Zy c) c 0 0 i h G.bP.ok,Nat.zero_add,Nat.zero_add];rfl
omit G in
theorem Gr(c:List TF)(i:Nat)(h:¬i<c.length):Ap (Bu (DU c) c 0 0) i=⟨⟨#[]⟩,[],0,[]⟩:=by unfold Ap;rw [List.getElem?_eq_none (by rw [Ff];omega)];rfl
omit G in
theorem aM(c:List TF)(i:Nat)(h:i<c.length):Da (Yj c 0 0) i=⟨Dx c[i],c[i].i8.length,c[i].v8,sK 1 c i,sK 8 c i⟩:=by unfold Da;rw [Ws c 0 0 i h,Nat.zero_add,Nat.zero_add];rfl
omit G in
theorem ZY(c:List TF)(i:Nat)(h:¬i<c.length):Da (Yj c 0 0) i=⟨[],0,[],0,0⟩:=by unfold Da;rw [List.getElem?_eq_none (by rw [RU];omega)];rfl
theorem GoodP.one(i:Nat)(h:i<c.length):(Ap (Bu (DU c) c 0 0) i).name=c[i].name.a9∧(Ap (Bu (DU c) c 0 0) i).l8=Dx c[i]∧(Ap (Bu (DU c) c 0 0) i).i8=c[i].i8.length∧(Ap (Bu (DU c) c 0 0) i).b9.length=CQ c[i].v8:=by rw [G.pf i h];obtain ⟨a,_,_,b,_⟩:=KU (fn:=DU c) (par:=Zy c) c[i] (sK 1 c i) (sK 8 c i) (G.bP.ok _ (rQ _));exact ⟨rfl,a,rfl,b⟩
theorem GoodP.cQ:Ms (Bu (DU c) c 0 0):=by
 have x:=Ff (fn:=DU c) c 0 0;have k:=G.bP.bA;refine ⟨by omega,fun i=>?_,fun i=>?_,fun i=>?_,fun i w s b=>?_⟩
 ·by_cases h:i<c.length
  ·rw [(G.one i h).2.1];exact (G.bP.l8 _ (rQ _)).2
  ·rw [Gr c i h];exact rR _
 ·by_cases h:i<c.length
  ·rw [(G.one i h).2.1,(G.one i h).2.2.1];simp [Dx]
  ·rw [Gr c i h];exact rN _
 ·by_cases h:i<c.length
  ·rw [(G.one i h).2.2.2];have:=G.cZ (rQ h);omega
  ·rw [Gr c i h];exact rR _
 ·have h:i<c.length:=by omega
  have d:c[i]∈c:=rQ _;obtain ⟨z,e,A,g⟩:=G.one i h;have m:=G.bP.l8 _ d;have t:=VN 1 c i h;have u:=VN 8 c i h;have y:=G.sum;have l:s∈(AP (DU c) c[i].v8 (CQ c[i].v8) (QU c[i] (sK 1 c i) (sK 8 c i))).b9:=by rw [G.pf i h] at b;exact b
  have K:=FZ (fn:=DU c) (par:=Zy c) (V:=(Dx c[i]).length) (L:=CQ c[i].v8) m.2 (by unfold DU;rw [rX];exact k) c[i].v8 (CQ c[i].v8) (QU c[i] (sK 1 c i) (sK 8 c i)) (G.bP.ok _ d) (G.wf _ d) (rN _) (rN _) (by simp [QU]) (by show sK 1 c i+_≤4000;omega) (by show sK 8 c i+_≤4000;omega) (fun s b=>by simp [QU] at b) s l;have v:(DU c).length=c.length:=by unfold DU;rw [rX]
  refine ⟨K.kind,fun n o p r=>by rw [e];exact K.tg n o p r,fun q=>by rw [e];exact K.sr q,fun q=>by have:=K.func q;omega,fun q=>?_,fun a j=>by rw [e];exact K.args a j,K.bA,K.field,K.m9,by rw [g];exact K.next,by rw [g];exact K.taken,K.t5,K.s5⟩;have f:s.r9<c.length:=by have:=K.func (.inr q);omega
  rw [(G.one _ f).2.2.1,←K.many q];unfold Zy;rw [List.getElem?_map,rU f];rfl
theorem GoodP.var{i:Nat}(h:i<c.length){s:ByteArray}(b:s∈Dx c[i]):Ud s∧s.size≤4000:=by
 obtain ⟨_,d,e⟩:=G.cT _ (rQ h);rcases List.mem_append.1 b with q | q
 ·obtain ⟨p,a,rfl⟩:=List.mem_map.1 q;exact d p a
 ·exact e s q
theorem GoodP.vn(i j:Nat):Ud (QE (Bu (DU c) c 0 0) i j)∧(QE (Bu (DU c) c 0 0) i j).size≤4000:=by
 have z:Ud (⟨#[]⟩:ByteArray)∧(⟨#[]⟩:ByteArray).size≤4000:=⟨KJ,by decide⟩;unfold QE;by_cases h:i<c.length
 ·rw [(G.one i h).2.1];by_cases a:j<(Dx c[i]).length
  ·rw [rU a];exact G.var h (rQ _)
  ·rw [List.getElem?_eq_none (by omega)];exact z
 ·rw [Gr c i h];simp only [List.getElem?_nil,Option.getD_none];exact z
theorem GoodP.nm(i:Nat):Ud (Ap (Bu (DU c) c 0 0) i).name∧(Ap (Bu (DU c) c 0 0) i).name.size≤4000:=by
 by_cases h:i<c.length
 ·rw [(G.one i h).1];exact (G.cT _ (rQ h)).1
 ·rw [Gr c i h];exact ⟨KJ,by decide⟩
theorem GoodP.cX:PnOk (Bu (DU c) c 0 0):=⟨fun i=>(G.nm i).2,fun i j=>(G.vn i j).2⟩
theorem GoodP.dA:NmP (Bu (DU c) c 0 0):=by
 refine ⟨fun i=>(G.nm i).1,fun i j=>(G.vn i j).1,fun i j a b e=>?_,fun i=>?_⟩
 ·rw [Ff] at a b;rw [(G.one i a).1,(G.one j b).1] at e;have d:=G.bP.d9 i a;have f:=G.bP.d9 j b;rw [e,f] at d;omega
 ·by_cases h:i<c.length
  ·rw [(G.one i h).2.1];exact (G.bP.l8 _ (rQ _)).1
  ·rw [Gr c i h];exact List.nodup_nil
theorem GoodP.cY{d:Nat}(b:∀t,t∈c→∀s,s∈t.v8→Na d s):Wz d c:=by
 refine ⟨G.bP.bA,G.bP.d9,fun t h=>(G.cT t h).1.2,fun t h p a=>((G.cT t h).2.1 p a).2,fun t h=>?_,fun t h=>?_,b,G.bP.ok,fun t h=>G.cZ h,?_,?_⟩
 ·exact (List.nodup_append.1 (G.bP.l8 t h).1).1
 ·have:=(G.bP.l8 t h).2;simp only [Dx,rV,rX] at this;omega
 ·refine rO ?_ G.sum;have:∀l:List TF,(l.map fun t=>nL 1 t.v8).sum≤(l.map fun t=>CQ t.v8).sum:=by
   intro l;induction l with
   | nil=>exact rN _
   | cons t l e=>have:=JA 1 t.v8;simp only [List.map_cons,List.sum_cons];omega
  exact this c
 ·refine rO ?_ G.sum;have:∀l:List TF,(l.map fun t=>nL 8 t.v8).sum≤(l.map fun t=>CQ t.v8).sum:=by
   intro l;induction l with
   | nil=>exact rN _
   | cons t l e=>have:=JA 8 t.v8;simp only [List.map_cons,List.sum_cons];omega
  exact this c
end
def UL(a:Int):Nat:=if a<0 then 0 else if 5000<a then 5000 else a.toNat
theorem lY(a):UL a≤5000:=by
 unfold UL;split
 ·omega
 ·split<;>omega
theorem Ab.grow{X:Nat→Prop}(w b):Ab X w (grow w b):=
 ⟨rfl,rfl,rfl,by simp,fun k a _=>heap_grow_old _ _ a⟩
theorem Zp(w)(a:Lib.TabIs Tryz.prog w "internal/strconv.uint64pow10" .u64 Lib.pow10Tab):ItOk w:=by
 intro n W h d;have f:Lib.TabIs Tryz.prog W "internal/strconv.uint64pow10" .u64 Lib.pow10Tab:=by
  unfold Lib.TabIs World.var? at a⊢;cases b:Tryz.prog.globalNamed "internal/strconv.uint64pow10" with
  | none=>rw [b] at a;cases a
  | some g=>
    rw [b] at a;simp only [Option.bind_some] at a⊢;have c:g<w.heap.size:=by
     rcases Nat.lt_or_ge g w.heap.size with q | q
     ·exact q
     ·rw [Array.getElem?_eq_none q] at a;cases a
    rw [d.block g c (fun q=>q)];exact a
 refine (Tryz.strconv_Itoa (n:Int) (by omega) (by omega) W f).mono ?_;rintro e j ⟨rfl,k,i,rfl⟩;refine ⟨?_,((Ab.refl _ W).drewN k).trans (Ab.grow _ _)⟩;have:Lib.itoa (n:Int)=Lib.decDigits n:=by unfold Lib.itoa;simp
 rw [this];rfl
theorem YV:XX:=by
 intro B g c l W H N;obtain ⟨O,G⟩:=H;rcases G with ⟨q,_⟩ | ⟨M,K,L,q,D,m,i,j,z,A⟩
 ·cases q
 cases q;have J:(l.map (fun b=>b.data.toList)).map encStr=l.map Value.string:=by rw [List.map_map];exact List.map_congr_left (fun b _=>by simp [encStr])
 have f:(l.map (fun b=>b.data.toList)).length=l.length:=by simp
 have C:Holds encStr W g 0 (l.map (fun b=>b.data.toList)).toArray:=holds_of_block m (by rw [f,J];simpa using A);have E:g<W.heap.size:=lt_of_block m;have r:=Tryz.slices_Sort_string g 0 c (l.map (fun b=>b.data.toList)) W C E (by rw [f];omega);rw [f] at r;refine r.mono ?_;rintro e P ⟨rfl,n,t,rfl⟩;obtain ⟨d,p⟩:∃d,(l.map (fun b=>b.data.toList)).mergeSort (fun x y=>decide (x≤y))=d:=⟨_,rfl⟩;have o:d.Perm (l.map (fun b=>b.data.toList)):=by rw [←p];exact List.mergeSort_perm _ _
 have I:d.Pairwise (fun x y=>decide (x≤y)=true):=by rw [←p];exact List.pairwise_mergeSort (fun a b c i j=>by simp only [decide_eq_true_eq] at*;exact List.le_trans i j) (fun a b=>by simp only [Bool.or_eq_true,decide_eq_true_eq];exact List.le_total a b) _
 rw [p];refine ⟨rfl,d.map (fun s=>⟨s.toArray⟩),?_,?_,?_,Ab.grown (Ab.refl _ W) (grownBy_sorted _) (fun k F=>by cases F;exact .inl rfl)⟩
 ·have h:=ownsRow_sorted (w:=W) (base:=B) (n:=n) (os:=t) (ts:=d) (ss:=l.map (fun b=>b.data.toList)) o.length_eq D m (by rw [f];exact i) j z;rw [f] at h;unfold Au;have u:(d.map (fun s=>(⟨s.toArray⟩:ByteArray))).length=l.length:=by rw [rX,o.length_eq,f]
  have v:(d.map (fun s=>(⟨s.toArray⟩:ByteArray))).map Value.string=d.map encStr:=by rw [List.map_map];rfl
  rw [u,v];exact h
 ·have h:=o.map (fun s=>(⟨s.toArray⟩:ByteArray));rw [List.map_map] at h;have e:l.map ((fun s=>(⟨s.toArray⟩:ByteArray)) ∘ fun b=>b.data.toList)=l:=by
   conv=>rhs;rw [←List.map_id l]
   exact List.map_congr_left (fun b _=>by simp)
  rw [e] at h;exact h
 ·rw [List.pairwise_map];refine I.imp (fun {a b} h=>?_);simp only [decide_eq_true_eq] at h;unfold ZU;simp only [decide_eq_false_iff_not];exact h
end Go.Proofs.YtegmjgjkcdbmkaaGreatDoor

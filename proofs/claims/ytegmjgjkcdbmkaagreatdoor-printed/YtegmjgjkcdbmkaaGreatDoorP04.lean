/- One of the texts of the proof: GrG JoA RgB. -/
import Derived.Test.YtegmjgjkcdbmkaaGreatDoorP03
set_option maxRecDepth 100000
set_option maxHeartbeats 8000000
namespace Go.Proofs.YtegmjgjkcdbmkaaGreatDoor
open Go.RowKit Go.Maps
theorem fC{P:Program}{b:Array Oper}{c:List Oper}{o:Oper}{a:Act}{w:World}{Q:Exit→Act→World→Prop}(e:Region.wanted o (yielded b a.tmps)=true)
 (h:∀K:Act→World→Prop,(∀a w,wpList P b Q c a w→K a w)→o.wp P a w K Q):wpList P b Q (o::c) a w:=
 wpList_step fun K d=>by rw [if_pos e];exact h K d
theorem eV{f:Array Oper}{g:List Oper}{e:Oper}{a:Act}{w:World}{Q:Exit→Act→World→Prop}(p:Region.wanted e (yielded f a.tmps)=true)(x:Operand)(m:e.op=.load 33 x)(b:Nat)(q:a.eval x=.pointer (some ⟨b,0,none⟩))(c:Array Value)(r:c.size=18)(i:Ak b c 33 w)
 (h:wpList Tryz.prog f Q g (a.put e.dst (.agg c)) w):wpList Tryz.prog f Q (e::g) a w:=by
 obtain ⟨d,n,l⟩:=Tryz.rowSets;refine fC p fun K k=>wp_load_mid _ x m b 0 q c.toList d (fun j v o=>?_) n l ?_ (k _ _ ?_)
 ·rw [Nat.zero_add,i.cell j];simpa using o
 ·rw [Tryz.infoSets];simp [r]
 ·simpa using h
def sA(l:List PT):List ByteArray:=(l.filter (fun t=>t.kind≠0)).map (fun t=>t.a9)
theorem sS(l:List PT)(t:PT):sA (l++[t])=if t.kind=0 then sA l else sA l++[t.a9]:=by
 unfold sA;rw [List.filter_append,List.map_append];by_cases h:t.kind=0
 ·simp [h]
 ·simp [h]
theorem tH(l:List PT):(sA l).length≤l.length:=by unfold sA;rw [rX];exact List.length_filter_le _ _
theorem tK{l:List PT}{k:Nat}(h:k<l.length):l.take (k+1)=l.take k++[Ag l k]:=by rw [List.take_succ_eq_append_getElem h];unfold Ag;rw [rU h];rfl
theorem sQ:∀(a:List ByteArray),(∀x,x∈a→x.size≤4000)→Lib.lens (a.map (fun x=>x.data.toList))≤4000*a.length
 | [],_=>by simp [Lib.lens]
 | x::a,h=>by
   have b:=sQ a (fun y c=>h y (rT _ c));have d:=h x (List.mem_cons_self ..);have e:x.data.toList.length=x.size:=by simp
   simp only [Lib.lens,List.map_cons,List.sum_cons,rW] at b⊢;omega
theorem tI(a:List ByteArray)(h:∀x,x∈a→x.size≤4000)(b:a.length≤4001):(Lib.join (a.map (fun x=>x.data.toList)) [32]).length≤140737488355328:=by
 cases a with
 | nil=>simp [Lib.join_nil]
 | cons x a=> have:=sQ (x::a) h;rw [List.map_cons,Lib.join_length];simp only [List.map_cons,rW,rX,List.length_nil] at this b⊢;omega
theorem sT(g n B:Nat)(a:List PT)(w:World)(h:AZ g n B a w)(U:∀t,t∈a→t.a9.size≤4000):
 Calls Tryz.prog 37 #[.slice (some ⟨g,0,none⟩) n B] w fun e w'=>(∃s:ByteArray,e=.returned (.string s)∧s.data.toList=Lib.join ((sA a).map (fun x=>x.data.toList)) [32])∧Below w.heap.size w w':=by
 obtain ⟨Z,N,W,X,Y⟩:=info_parts Tryz.infoStr;have R:=h.2.1;have hn:=h.2.2.1;obtain ⟨m,D⟩:∃m,a.length=m:=⟨_,rfl⟩;rw [D] at R;subst R;have r:=Aa D;clear D;have lg:=h.lt;have HT:=Aa h;have I:=Aa U;clear h U;go_enter Tryz.func37,Tryz.ntmps37;go_wp2_with (at_make;refine wpList_make_own _ rfl _ _ 28 rfl w.heap.size 9 Z (.string ByteArray.empty) 1 Tryz.underlying28 N W X .i64 .i64 (n:Int) n rfl rfl rfl (by rw [Y];omega) (by unfold maxLen;omega) (rN _) ?_;intro w1 T L);have H:=Aa T;have G:dN (Ab (fun _=>False) w w1):=Ab.grown (Ab.refl _ w) L (fun k P=>by cases P);clear T L;go_loopw [3,11] (fun v i wr=>∃(k:Nat),k≤n∧i=.int .i64 k∧dN (Au w.heap.size wr v (sA (a.take k)))∧dN (Ab (fun _=>False) w wr)) (fun _ i _=>n-(intOf i).toNat)
 case atStart=>exact ⟨0,by omega,rfl,H,G⟩
 case round=>
  clear H G;obtain ⟨k,P,rfl,d,c⟩:=hrel;have Q:=tH (a.take k);rw [List.length_take,r.o] at Q;by_cases a6:k<n
  ·have y:AZ g n B a wr:=HT.o.O c.o (fun q=>q);obtain ⟨t0,t1,t2⟩:=y.cells a6;have b3:=y.lt;have E:=tK (l:=a) (k:=k) (by rw [r.o];omega);have b2:(Ag a k).a9.size≤4000:=by unfold Ag;rw [rU (by rw [r.o];omega)];exact I.o _ (rQ _)
   have f:=sS (a.take k) (Ag a k);rw [←E] at f;generalize Ag a k=t at*;have a5:(k:Int)<(n:Int):=by omega
   obtain ⟨va,vl,z,rfl⟩:=Ad d.o;have F:=Aq d.o;subst F;have V:=c.o.size;by_cases o:t.kind=0
   ·have a4:((t.kind:Int) !=0)=false:=by simp [o]
    rw [if_pos o] at f;have A:=Aa f;clear y E f o;go_wp2;go_roundw
    case rel=>exact ⟨k+1,by omega,by go_num,Aa (by rw [A.o];exact Ac d.o ((Ab.refl (fun _=>False) wr).alloc _) (fun _ _ q=>q)),c.o.alloc _⟩
    case measure=>simp [intOf];omega
   ·have a4:((t.kind:Int) !=0)=true:=by simp [o]
    rw [if_neg o] at f;have A:=Aa f;have a0:=Aa (Ac d.o ((Ab.refl (fun _=>False) wr).alloc (.cells #[.int .i64 t.kind,.string t.a9,.int .i64 t.c9] 114)) (fun _ _ q=>q));clear y E f o;go_wp2_with (at_builtin;refine wpList_append_own _ rfl _ _ 28 rfl w.heap.size 9 Z (.string ByteArray.empty) 1 16 Tryz.underlying28 N W X Y rfl (by decide) _ _ _ rfl (a0.o.alloc _) ⟨wr.heap.size+1,0,none⟩ 1 1 [.string t.a9] rfl rfl (A5 (by simp) _ _) (fun x b=>by simp at b;subst b;rfl) (by unfold maxLen;omega) (by omega) (by simp;omega) ?_;intro v' w3 S M a7);have O3:Ab (fun _=>False) w w3:=Ab.grown ((c.o.alloc _).alloc _) M (fun j O=>.inr (d.o.lt j O).1);have HX:dN (Au w.heap.size w3 v' (sA (a.take (k+1)))):=by rw [A.o];unfold Au;rw [rV,List.map_append];exact S
    clear M a7 S;go_wp2;go_roundw
    case rel=>exact ⟨k+1,by omega,by go_num,HX,O3⟩
    case measure=>simp [intOf];omega
  ·have e:k=n:=by omega
   have K:a.take k=a:=List.take_of_length_le (by rw [r.o];omega);rw [K] at Q;have a5:decide ((k:Int)<(n:Int))=false:=by simp;omega
   have p:=d.o;rw [K] at p;obtain ⟨va,vl,z,rfl⟩:=Ad p;have F:=Aq p;subst F;have a9:∀x,x∈sA a→x.size≤4000:=by intro x b;unfold sA at b;obtain ⟨t,h,rfl⟩:=List.mem_map.1 b;exact I.o t (List.mem_filter.1 h).1
   have a3:=tI (sA a) a9 (by omega);have V:=c.o.size;have u:=Aa p;clear d p;by_cases C:sA a=[]
   ·rw [C];go_wp2_with fail;refine (Tryz.strings_Join_none va z ⟨#[32]⟩ wr).mono ?_;rintro e w2 ⟨rfl,rfl⟩;go_wp2;go_ret;exact ⟨⟨_,rfl,by rw [C];simp [Lib.join_nil]⟩,(c.o.below (fun _ q=>q.elim))⟩
   ·have a8:0<(sA a).length:=List.length_pos_iff.2 C;obtain ⟨J,rfl⟩:=AA u.o a8;have lv:=(u.o.lt J rfl).2;have a2:(sA a).length≤z:=by
     rcases u.o.2 with ⟨q,_⟩ | ⟨g',b0,b1,q,_,_,hc,_⟩
     ·simp at q
     ·simp only [Value.slice.injEq] at q;omega
    go_wp2_with fail;refine (Tryz.strings_Join J 0 z (sA a) ⟨#[32]⟩ wr (fun j x b=>?_) lv (by omega) a2 a3).mono ?_
    ·have O:j<(sA a).length:=by
      rcases Nat.lt_or_ge j (sA a).length with q | q
      ·exact q
      ·rw [List.getElem?_eq_none q] at b;cases b
     have:=u.o.cellAt j (by omega)
     rw [List.getElem?_map,b] at this
     simpa using this
    rintro e w2 ⟨rfl,a1⟩;go_wp2;go_ret;exact ⟨⟨_,rfl,by simp⟩,(c.o.below (fun _ q=>q.elim)).trans (a1.mono V)⟩
theorem oC(R:Act→World→Prop)(r k m d:Nat)(A y x D:Int)(u:Option Addr)(t s:Nat)(o:World)(H:Value→World→Prop)(I:World→Prop){V x6 x7 x8 x9 Y b0 c1 d2 d3 e0 f3 g0 g1 g3 g4 g6 g7 g8 g9 h0 h1 h2 h3 h4 h5 h6 h7 h8 h9 i0 i1 i2 i3 i4 i5 i6 i7 i8 i9 j0 j1 j2 j3 j4 j5 j6 j7 j8 j9 k0 k1 k2 k3 k4 k5 k6 k7 k8 k9 l0 l1 l2 l3 l4 l5 l6 l7 l8 l9 m0 m1 m2 m3 m4 m5 m6 m7 m8 m9 n0 n1 n2 n3 n4 n5 n6 n7 n8 n9 o0 o1 o2 o3 o4 a0 a1 a2 a3 a4 a5 a6 a7 a8 a9 b1 b2 b3 b4 b5 b6 b7 b8 b9 c0 c2 c3 c4 c5 c6 c7 c8 c9 d0 d1 o7 o8 o9 p0 p1 p2 p3 p4 p5 p6 p7 p8 p9 q0 d4 d5 d6 d7 d8 d9 e1 e3 e4 e6 e7 e8 e9 f0 f1 f2 f4 f5 f6 f7 f8 f9:Value}
 (J:o.cell? ⟨d,4,none⟩=some (.int .i64 x))(L:o.cell? ⟨d,5,none⟩=some (.slice u t s))(fb:o.cell? ⟨k,m+1,none⟩=some (.int .i64 D))(P:d<o.heap.size)
 (M:∀W,Ab (fun _=>False) o W→Calls Tryz.prog 85 #[.pointer (some ⟨r,0,none⟩),.int .i64 D,.slice u t s] W fun e n=>∃v,e=.returned v∧(∃a l c,v=.slice a l c)∧H v n∧Ab (fun _=>False) W n)
 (N:∀v W,H v W→Ab (fun _=>False) o W→Calls Tryz.prog 86 #[.pointer (some ⟨r,0,none⟩),.int .i64 y,.int .i64 x,v,.int .i64 A] W fun e n=>e=.returned (.tuple #[])∧I n∧n.cell? ⟨d,4,none⟩=some (.int .i64 x)∧n.cell? ⟨d,5,none⟩=some (.slice u t s))
 (O:∀(E:Option Addr) (G F:Nat) (B:World),I B→R {tmps:=#[.pointer (some ⟨r,0,none⟩),V,.pointer (some ⟨k,m,none⟩),.pointer (some ⟨d,0,none⟩),.int .i64 A,.int .i64 y,x6,x7,x8,x9,Y,b0,c1,d2,d3,e0,f3,g0,g1,g3,g4,g6,g7,g8,g9,h0,h1,h2,h3,h4,h5,h6,h7,h8,h9,i0,i1,i2,i3,i4,i5,i6,i7,i8,i9,j0,j1,j2,j3,j4,j5,j6,j7,j8,j9,k0,k1,k2,k3,k4,k5,k6,k7,k8,k9,l0,l1,l2,l3,l4,l5,l6,l7,l8,l9,m0,m1,m2,m3,m4,m5,m6,m7,m8,m9,n0,n1,n2,n3,n4,n5,n6,n7,n8,n9,o0,o1,o2,o3,o4,a0,a1,a2,a3,a4,a5,a6,a7,a8,a9,b1,b2,b3,b4,b5,b6,b7,b8,b9,c0,c2,c3,c4,c5,c6,c7,c8,c9,d0,d1,.pointer (some ⟨r,0,none⟩),.int .i64 y,.pointer (some ⟨d,4,none⟩),.int .i64 x,.pointer (some ⟨r,0,none⟩),.pointer (some ⟨k,m,none⟩),.pointer (some ⟨k,m,none⟩),.pointer (some ⟨k,m+1,none⟩),.int .i64 D,.pointer (some ⟨d,5,none⟩),.slice u t s,.slice E G F,.int .i64 A,.tuple #[],d4,d5,d6,d7,d8,d9,e1,e3,e4,e6,e7,e8,e9,f0,f1,f2,f4,f5,f6,f7,f8,f9],defers:=[]} B):
 Code.wp Tryz.prog (.region 22 #[⟨some 130,.move (.tmp 0),173, "runner.go:75",#[],none⟩,⟨some 131,.move (.tmp 5),3, "runner.go:75",#[],none⟩,⟨some 132,.fieldAddr 190 (.tmp 3) 4,0, "runner.go:75",#[],none⟩,⟨some 133,.load 3 (.tmp 132),3, "runner.go:75",#[⟨2,.data⟩],none⟩,⟨some 134,.move (.tmp 0),173, "runner.go:75",#[],none⟩,⟨some 135,.move (.tmp 2),187, "runner.go:75",#[],none⟩,⟨some 136,.nilCheck (.tmp 135),0, "runner.go:75",#[⟨5,.data⟩],none⟩,⟨some 137,.fieldAddr 176 (.tmp 136) 1,0, "runner.go:75",#[⟨6,.data⟩],none⟩,⟨some 138,.load 3 (.tmp 137),3, "runner.go:75",#[⟨7,.data⟩],none⟩,⟨some 139,.fieldAddr 190 (.tmp 3) 5,0, "runner.go:75",#[],none⟩,⟨some 140,.load 37 (.tmp 139),37, "runner.go:75",#[⟨9,.data⟩],none⟩,⟨some 141,.call ⟨.value (.func 85),#[.tmp 134,.tmp 138,.tmp 140],#[173,3,37]⟩,174, "runner.go:75",#[⟨4,.data⟩,⟨8,.data⟩,⟨10,.data⟩],none⟩,⟨some 142,.move (.tmp 4),3, "runner.go:75",#[],none⟩,⟨some 143,.call ⟨.value (.func 86),#[.tmp 130,.tmp 131,.tmp 133,.tmp 141,.tmp 142],#[173,3,3,174,3]⟩,0, "runner.go:75",#[⟨0,.data⟩,⟨1,.data⟩,⟨3,.data⟩,⟨11,.data⟩,⟨12,.data⟩,⟨11,.chain⟩],none⟩] true) (LD R) {tmps:=#[.pointer (some ⟨r,0,none⟩),V,.pointer (some ⟨k,m,none⟩),.pointer (some ⟨d,0,none⟩),.int .i64 A,.int .i64 y,x6,x7,x8,x9,Y,b0,c1,d2,d3,e0,f3,g0,g1,g3,g4,g6,g7,g8,g9,h0,h1,h2,h3,h4,h5,h6,h7,h8,h9,i0,i1,i2,i3,i4,i5,i6,i7,i8,i9,j0,j1,j2,j3,j4,j5,j6,j7,j8,j9,k0,k1,k2,k3,k4,k5,k6,k7,k8,k9,l0,l1,l2,l3,l4,l5,l6,l7,l8,l9,m0,m1,m2,m3,m4,m5,m6,m7,m8,m9,n0,n1,n2,n3,n4,n5,n6,n7,n8,n9,o0,o1,o2,o3,o4,a0,a1,a2,a3,a4,a5,a6,a7,a8,a9,b1,b2,b3,b4,b5,b6,b7,b8,b9,c0,c2,c3,c4,c5,c6,c7,c8,c9,d0,d1,o7,o8,o9,p0,p1,p2,p3,p4,p5,p6,p7,p8,p9,q0,d4,d5,d6,d7,d8,d9,e1,e3,e4,e6,e7,e8,e9,f0,f1,f2,f4,f5,f6,f7,f8,f9],defers:=[]} o:=by
 have HA:=Aa M;have HE:=Aa N;have HQ:=Aa O;clear M N O;refine wp_region_held_drew (S:=fun n=>n.cell? ⟨d,4,none⟩=some (.int .i64 x)∧n.cell? ⟨d,5,none⟩=some (.slice u t s)) (by kernel_rfl) ⟨J,L⟩ (fun f=>?_);refine wpAnyH_take (i:=0) (v:=.pointer (some ⟨r,0,none⟩)) rfl (by kernel_rfl) (by kernel_rfl) (by kernel_rfl) (fun _ _ _ h=>h) (Or.inl ⟨by rfl,fun w b=>by obtain ⟨g,j⟩:=b;go_simp⟩) f ?_;simp only [Act.put];refine wpAnyH_take (i:=1) (v:=.int .i64 y) rfl (by kernel_rfl) (by kernel_rfl) (by kernel_rfl) (fun _ _ _ h=>h) (Or.inl ⟨by rfl,fun w b=>by obtain ⟨g,j⟩:=b;go_simp⟩) f ?_;simp only [Act.put];refine wpAnyH_take (i:=2) (v:=.pointer (some ⟨d,4,none⟩)) rfl (by kernel_rfl) (by kernel_rfl) (by kernel_rfl) (fun _ _ _ h=>h) (Or.inl ⟨by rfl,fun w b=>by obtain ⟨g,j⟩:=b;go_simp⟩) f ?_;simp only [Act.put];refine wpAnyH_take (i:=3) (v:=.int .i64 x) rfl (by kernel_rfl) (by kernel_rfl) (by kernel_rfl) (fun _ _ _ h=>h) (Or.inl ⟨by rfl,fun w b=>by obtain ⟨g,j⟩:=b;go_simp⟩) f ?_;simp only [Act.put];refine wpAnyH_take (i:=4) (v:=.pointer (some ⟨r,0,none⟩)) rfl (by kernel_rfl) (by kernel_rfl) (by kernel_rfl) (fun _ _ _ h=>h) (Or.inl ⟨by rfl,fun w b=>by obtain ⟨g,j⟩:=b;go_simp⟩) f ?_;simp only [Act.put];refine wpAnyH_take (i:=5) (v:=.pointer (some ⟨k,m,none⟩)) rfl (by kernel_rfl) (by kernel_rfl) (by kernel_rfl) (fun _ _ _ h=>h) (Or.inl ⟨by rfl,fun w b=>by obtain ⟨g,j⟩:=b;go_simp⟩) f ?_;simp only [Act.put];refine wpAnyH_take (i:=6) (v:=.pointer (some ⟨k,m,none⟩)) rfl (by kernel_rfl) (by kernel_rfl) (by kernel_rfl) (fun _ _ _ h=>h) (Or.inl ⟨by rfl,fun w b=>by obtain ⟨g,j⟩:=b;go_simp⟩) f ?_;simp only [Act.put];refine wpAnyH_take (i:=7) (v:=.pointer (some ⟨k,m+1,none⟩)) rfl (by kernel_rfl) (by kernel_rfl) (by kernel_rfl) (fun _ _ _ h=>h) (Or.inl ⟨by rfl,fun w b=>by obtain ⟨g,j⟩:=b;go_simp⟩) f ?_;simp only [Act.put];refine wpAnyH_take (i:=9) (v:=.pointer (some ⟨d,5,none⟩)) rfl (by kernel_rfl) (by kernel_rfl) (by kernel_rfl) (fun _ _ _ h=>h) (Or.inl ⟨by rfl,fun w b=>by obtain ⟨g,j⟩:=b;go_simp⟩) f ?_;simp only [Act.put];refine wpAnyH_take (i:=10) (v:=.slice u t s) rfl (by kernel_rfl) (by kernel_rfl) (by kernel_rfl) (fun _ _ _ h=>h) (Or.inl ⟨by rfl,fun w b=>by obtain ⟨g,j⟩:=b;go_simp⟩) f ?_;simp only [Act.put];refine wpAnyH_take (i:=12) (v:=.int .i64 A) rfl (by kernel_rfl) (by kernel_rfl) (by kernel_rfl) (fun _ _ _ h=>h) (Or.inl ⟨by rfl,fun w b=>by obtain ⟨g,j⟩:=b;go_simp⟩) f ?_;simp only [Act.put];refine wpAnyH_ready (rs:=[8]) (by kernel_rfl) (by simp) ?_;refine AllReadyH.cons rfl (fun K p=>?_) AllReadyH.nil;go_simp;refine p.out _ _ f (fun f=>?_);clear p K;refine wpAnyH_ready (rs:=[11]) (by kernel_rfl) (by simp) ?_;refine AllReadyH.cons rfl (fun K p=>?_) AllReadyH.nil;go_simp;refine (HA.o _ (by repeat (first | exact Ab.refl _ _ | refine Ab.drew ?_ | refine Ab.drewN ?_ _ | refine Ab.alloc ?_ _))).mono ?_;rintro e U ⟨v2,rfl,⟨E,G,F,rfl⟩,Q,T⟩;have U1:=Aa Q;have C:=Aa (Ab.trans (X:=fun _=>False) (a:=o) (by repeat (first | exact Ab.refl _ _ | refine Ab.drew ?_ | refine Ab.drewN ?_ _ | refine Ab.alloc ?_ _)) T);have g2:U.cell? ⟨d,4,none⟩=some (.int .i64 x):=(rM (C.o.block d P (fun q=>q))).trans J;have g5:U.cell? ⟨d,5,none⟩=some (.slice u t s):=(rM (C.o.block d P (fun q=>q))).trans L;clear Q T;dsimp only;refine p.out _ _ ⟨g2,g5⟩ (fun f=>?_);clear p K;refine wpAnyH_ready (rs:=[13]) (by kernel_rfl) (by simp) ?_;refine AllReadyH.cons rfl (fun K p=>?_) AllReadyH.nil;go_simp;refine (HE.o _ _ U1.o C.o).mono ?_;rintro e B ⟨rfl,z,o5,o6⟩;have Z:=Aa z;clear z;try dsimp only
 refine p.out _ _ ⟨o5,o6⟩ (fun _=>?_);clear p K;refine wpAnyH_done (by kernel_rfl) ?_ _;exact HQ.o E G F B Z.o
end Go.Proofs.YtegmjgjkcdbmkaaGreatDoor

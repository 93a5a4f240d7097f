/- One of the texts of the proof of runs_card_holds: RgA BuA. -/
import Derived.Test.YthppbgndiplgnaaGreatDoorG34
import Derived.Deep.RegionHeld
set_option maxRecDepth 100000
set_option maxHeartbeats 8000000
namespace Go.Proofs.YthppbgndiplgnaaGreatDoor
open Go.RowKit Go.Maps
theorem Uz(R:Act→World→Prop)(s j n f:Nat)(A Q y D:Int)(x:Option Addr)(u t:Nat)(p:World)(H:Value→World→Prop)(I:World→Prop){Y x6 x7 x8 x9 a0 b1 b7 c0 d1 e3 f5 g3 g4 g6 g7 g8 g9 h0 h1 h2 h3 h4 h5 h6 h7 h8 h9 i0 i1 i2 i3 i4 i5 i6 i7 i8 i9 j0 j1 j2 j3 j4 j5 j6 j7 j8 j9 k0 k1 k2 k3 k4 k5 k6 k7 k8 k9 l0 l1 l2 l3 l4 l5 l6 l7 l8 l9 m0 m1 m2 m3 m4 m5 m6 m7 m8 m9 n0 n1 n2 n3 n4 n5 n6 n7 n8 n9 o0 o1 o2 o3 o4 o5 o6 a1 a2 a3 a4 a5 a6 a7 a8 a9 b0 b2 b3 b4 b5 b6 o9 p0 p1 p2 p3 p4 p5 p6 p7 p8 p9 q0 q3 b8 b9 c1 c2 c3 c4 c5 c6 c7 c8 c9 d0 d2 d3 d4 d5 d6 d7 d8 d9 e0 e1 e4 e6 e7 e8 e9 f0 f1 f2 f3 f4 f6 f7 f8 f9 g0 g1:Value}
 (J:p.cell? ⟨f,2,none⟩=some (.int .i64 y))(L:p.cell? ⟨f,5,none⟩=some (.slice x u t))(fb:p.cell? ⟨j,n+1,none⟩=some (.int .i64 D))(P:f<p.heap.size)
 (M:∀W,Ab (fun _=>False) p W→Calls Tryz.prog 56 #[.pointer (some ⟨s,0,none⟩),.int .i64 D,.slice x u t] W fun e o=>∃v,e=.returned v∧(∃a l c,v=.slice a l c)∧H v o∧Ab (fun _=>False) W o)
 (N:∀v W,H v W→Ab (fun _=>False) p W→Calls Tryz.prog 22 #[.pointer (some ⟨s,0,none⟩),.int .i64 y,v,.int .i64 A] W fun e o=>∃b,e=.returned (.bool b)∧I o∧o.cell? ⟨f,2,none⟩=some (.int .i64 y)∧o.cell? ⟨f,5,none⟩=some (.slice x u t))
 (O:∀(b:Bool) (E:Option Addr) (G F:Nat) (B:World),I B→R {tmps:=#[.pointer (some ⟨s,0,none⟩),Y,.pointer (some ⟨j,n,none⟩),.pointer (some ⟨f,0,none⟩),.int .i64 A,.int .i64 Q,x6,x7,x8,x9,a0,b1,b7,c0,d1,e3,f5,g3,g4,g6,g7,g8,g9,h0,h1,h2,h3,h4,h5,h6,h7,h8,h9,i0,i1,i2,i3,i4,i5,i6,i7,i8,i9,j0,j1,j2,j3,j4,j5,j6,j7,j8,j9,k0,k1,k2,k3,k4,k5,k6,k7,k8,k9,l0,l1,l2,l3,l4,l5,l6,l7,l8,l9,m0,m1,m2,m3,m4,m5,m6,m7,m8,m9,n0,n1,n2,n3,n4,n5,n6,n7,n8,n9,o0,o1,o2,o3,o4,o5,o6,a1,a2,a3,a4,a5,a6,a7,a8,a9,b0,b2,b3,b4,b5,b6,.pointer (some ⟨s,0,none⟩),.pointer (some ⟨f,2,none⟩),.int .i64 y,.pointer (some ⟨s,0,none⟩),.pointer (some ⟨j,n,none⟩),.pointer (some ⟨j,n,none⟩),.pointer (some ⟨j,n+1,none⟩),.int .i64 D,.pointer (some ⟨f,5,none⟩),.slice x u t,.slice E G F,.int .i64 A,.bool b,b8,b9,c1,c2,c3,c4,c5,c6,c7,c8,c9,d0,d2,d3,d4,d5,d6,d7,d8,d9,e0,e1,e4,e6,e7,e8,e9,f0,f1,f2,f3,f4,f6,f7,f8,f9,g0,g1],defers:=[]} B):
 Code.wp Tryz.prog (.region 20 #[⟨some 115,.move (.tmp 0),140, "runner.go:73",#[],none⟩,⟨some 116,.fieldAddr 157 (.tmp 3) 2,0, "runner.go:73",#[],none⟩,⟨some 117,.load 3 (.tmp 116),3, "runner.go:73",#[⟨1,.data⟩],none⟩,⟨some 118,.move (.tmp 0),140, "runner.go:73",#[],none⟩,⟨some 119,.move (.tmp 2),154, "runner.go:73",#[],none⟩,⟨some 120,.nilCheck (.tmp 119),0, "runner.go:73",#[⟨4,.data⟩],none⟩,⟨some 121,.fieldAddr 143 (.tmp 120) 1,0, "runner.go:73",#[⟨5,.data⟩],none⟩,⟨some 122,.load 3 (.tmp 121),3, "runner.go:73",#[⟨6,.data⟩],none⟩,⟨some 123,.fieldAddr 157 (.tmp 3) 5,0, "runner.go:73",#[],none⟩,⟨some 124,.load 65 (.tmp 123),65, "runner.go:73",#[⟨8,.data⟩],none⟩,⟨some 125,.call ⟨.value (.func 56),#[.tmp 118,.tmp 122,.tmp 124],#[140,3,65]⟩,141, "runner.go:73",#[⟨3,.data⟩,⟨7,.data⟩,⟨9,.data⟩],none⟩,⟨some 126,.move (.tmp 4),3, "runner.go:73",#[],none⟩,⟨some 127,.call ⟨.value (.func 22),#[.tmp 115,.tmp 117,.tmp 125,.tmp 126],#[140,3,141,3]⟩,4, "runner.go:73",#[⟨0,.data⟩,⟨2,.data⟩,⟨10,.data⟩,⟨11,.data⟩,⟨10,.chain⟩],none⟩] true) (Gk R) {tmps:=#[.pointer (some ⟨s,0,none⟩),Y,.pointer (some ⟨j,n,none⟩),.pointer (some ⟨f,0,none⟩),.int .i64 A,.int .i64 Q,x6,x7,x8,x9,a0,b1,b7,c0,d1,e3,f5,g3,g4,g6,g7,g8,g9,h0,h1,h2,h3,h4,h5,h6,h7,h8,h9,i0,i1,i2,i3,i4,i5,i6,i7,i8,i9,j0,j1,j2,j3,j4,j5,j6,j7,j8,j9,k0,k1,k2,k3,k4,k5,k6,k7,k8,k9,l0,l1,l2,l3,l4,l5,l6,l7,l8,l9,m0,m1,m2,m3,m4,m5,m6,m7,m8,m9,n0,n1,n2,n3,n4,n5,n6,n7,n8,n9,o0,o1,o2,o3,o4,o5,o6,a1,a2,a3,a4,a5,a6,a7,a8,a9,b0,b2,b3,b4,b5,b6,o9,p0,p1,p2,p3,p4,p5,p6,p7,p8,p9,q0,q3,b8,b9,c1,c2,c3,c4,c5,c6,c7,c8,c9,d0,d2,d3,d4,d5,d6,d7,d8,d9,e0,e1,e4,e6,e7,e8,e9,f0,f1,f2,f3,f4,f6,f7,f8,f9,g0,g1],defers:=[]} p:=by
 have HA:=Aa M;have HE:=Aa N;have HQ:=Aa O;clear M N O;refine wp_region_held_drew (S:=fun o=>o.cell? ⟨f,2,none⟩=some (.int .i64 y)∧o.cell? ⟨f,5,none⟩=some (.slice x u t)) (by kernel_rfl) ⟨J,L⟩ (fun g=>?_);refine wpAnyH_take (i:=0) (v:=.pointer (some ⟨s,0,none⟩)) rfl (by kernel_rfl) (by kernel_rfl) (by kernel_rfl) (fun _ _ _ h=>h) (Or.inl ⟨by rfl,fun w d=>by obtain ⟨k,m⟩:=d;go_simp⟩) g ?_;simp only [Act.put];refine wpAnyH_take (i:=1) (v:=.pointer (some ⟨f,2,none⟩)) rfl (by kernel_rfl) (by kernel_rfl) (by kernel_rfl) (fun _ _ _ h=>h) (Or.inl ⟨by rfl,fun w d=>by obtain ⟨k,m⟩:=d;go_simp⟩) g ?_;simp only [Act.put];refine wpAnyH_take (i:=2) (v:=.int .i64 y) rfl (by kernel_rfl) (by kernel_rfl) (by kernel_rfl) (fun _ _ _ h=>h) (Or.inl ⟨by rfl,fun w d=>by obtain ⟨k,m⟩:=d;go_simp⟩) g ?_;simp only [Act.put];refine wpAnyH_take (i:=3) (v:=.pointer (some ⟨s,0,none⟩)) rfl (by kernel_rfl) (by kernel_rfl) (by kernel_rfl) (fun _ _ _ h=>h) (Or.inl ⟨by rfl,fun w d=>by obtain ⟨k,m⟩:=d;go_simp⟩) g ?_;simp only [Act.put];refine wpAnyH_take (i:=4) (v:=.pointer (some ⟨j,n,none⟩)) rfl (by kernel_rfl) (by kernel_rfl) (by kernel_rfl) (fun _ _ _ h=>h) (Or.inl ⟨by rfl,fun w d=>by obtain ⟨k,m⟩:=d;go_simp⟩) g ?_;simp only [Act.put];refine wpAnyH_take (i:=5) (v:=.pointer (some ⟨j,n,none⟩)) rfl (by kernel_rfl) (by kernel_rfl) (by kernel_rfl) (fun _ _ _ h=>h) (Or.inl ⟨by rfl,fun w d=>by obtain ⟨k,m⟩:=d;go_simp⟩) g ?_;simp only [Act.put];refine wpAnyH_take (i:=6) (v:=.pointer (some ⟨j,n+1,none⟩)) rfl (by kernel_rfl) (by kernel_rfl) (by kernel_rfl) (fun _ _ _ h=>h) (Or.inl ⟨by rfl,fun w d=>by obtain ⟨k,m⟩:=d;go_simp⟩) g ?_;simp only [Act.put];refine wpAnyH_take (i:=8) (v:=.pointer (some ⟨f,5,none⟩)) rfl (by kernel_rfl) (by kernel_rfl) (by kernel_rfl) (fun _ _ _ h=>h) (Or.inl ⟨by rfl,fun w d=>by obtain ⟨k,m⟩:=d;go_simp⟩) g ?_;simp only [Act.put];refine wpAnyH_take (i:=9) (v:=.slice x u t) rfl (by kernel_rfl) (by kernel_rfl) (by kernel_rfl) (fun _ _ _ h=>h) (Or.inl ⟨by rfl,fun w d=>by obtain ⟨k,m⟩:=d;go_simp⟩) g ?_;simp only [Act.put];refine wpAnyH_take (i:=11) (v:=.int .i64 A) rfl (by kernel_rfl) (by kernel_rfl) (by kernel_rfl) (fun _ _ _ h=>h) (Or.inl ⟨by rfl,fun w d=>by obtain ⟨k,m⟩:=d;go_simp⟩) g ?_;simp only [Act.put];refine wpAnyH_ready (rs:=[7]) (by kernel_rfl) (by simp) ?_;refine AllReadyH.cons rfl (fun K r=>?_) AllReadyH.nil;go_simp;refine r.out _ _ g (fun g=>?_);clear r K;refine wpAnyH_ready (rs:=[10]) (by kernel_rfl) (by simp) ?_;refine AllReadyH.cons rfl (fun K r=>?_) AllReadyH.nil;go_simp;refine (HA.o _ (by repeat (first | exact Ab.refl _ _ | refine Ab.drew ?_ | refine Ab.drewN ?_ _ | refine Ab.alloc ?_ _))).mono ?_;rintro e V ⟨v2,rfl,⟨E,G,F,rfl⟩,T,U⟩;have U1:=Aa T;have C:=Aa (Ab.trans (X:=fun _=>False) (a:=p) (by repeat (first | exact Ab.refl _ _ | refine Ab.drew ?_ | refine Ab.drewN ?_ _ | refine Ab.alloc ?_ _)) U);have g2:V.cell? ⟨f,2,none⟩=some (.int .i64 y):=(aW (C.o.block f P (fun q=>q))).trans J;have g5:V.cell? ⟨f,5,none⟩=some (.slice x u t):=(aW (C.o.block f P (fun q=>q))).trans L;clear T U;dsimp only;refine r.out _ _ ⟨g2,g5⟩ (fun g=>?_);clear r K;refine wpAnyH_ready (rs:=[12]) (by kernel_rfl) (by simp) ?_;refine AllReadyH.cons rfl (fun K r=>?_) AllReadyH.nil;go_simp;refine (HE.o _ _ U1.o C.o).mono ?_;rintro e B ⟨b,rfl,z,o7,o8⟩;have Z:=Aa z;clear z;try dsimp only
 refine r.out _ _ ⟨o7,o8⟩ (fun _=>?_);clear r K;refine wpAnyH_done (by kernel_rfl) ?_ _;exact HQ.o b E G F B Z.o
def Cq(m:Nat)(l:List ByteArray)(w:World):Prop:=∃n D,n≤l.length∧Bh m n D w∧∀s,D.atKey (Bj s) (.lit (.int .i64 0))=.lit (.int .i64 (vx l s:Nat))
theorem Cq.f8{m l}{X:Nat→Prop}{w w'}(h:Cq m l w)(d:Ab X w w')(e:¬X m):Cq m l w':=by obtain ⟨n,D,c,b,a⟩:=h;exact ⟨n,D,c,b.f8 d e,a⟩
theorem Cq.ne{m b l w}(h:Cq m l w){a t c}(e:w.heap[b]? =some (.cells a t c)):m≠b:=by obtain ⟨n,D,g,d,f⟩:=h;exact d.ne e
theorem Cq.lt{m l w}(h:Cq m l w):m<w.heap.size:=by obtain ⟨n,D,c,a,b⟩:=h;exact World.ownsMap.lt a
theorem Cq.none(w:World):Cq w.heap.size [] (w.alloc (.map #[] 0)):=
 ⟨0,.map [],aV _,World.ownsMap_made w _ _ _,fun s=>by simp [DataW.atKey,vx,CB]⟩
theorem Cq.look{m l w}(h:Cq m l w){s}(d:s.size≤4000):
 (Instr.lookup 87 (.map (some m)) (.string s) false).run Tryz.prog w=.ok (.int .i64 (vx l s:Nat)) w:=by
 obtain ⟨n,D,i,f,b⟩:=h;obtain ⟨c,g,a,_⟩:=World.ownsMap.lookup_int f KB Tryz.underlying87 Tryz.underlying3 (M8 w) (Iu d);rw [b s] at a;have e:((vx l s:Nat):Int)=c:=by simpa using a
 rw [e];exact g
theorem Jq(m:List ByteArray)(s:ByteArray):∀(l:List ByteArray),s∉l→∀k,CB (l++m) s k=CB m s (k+l.length)
 | [],_,k=>rfl
 | a::l,h,k=>by simp only [List.cons_append,CB,aX];rw [cT (fun q=>h (by rw [Ex q];simp)),Jq m s l (fun q=>h (bN _ q)) (k+1)];congr 1;omega
theorem VU{l s}(h:s∉l)(k):CB l s k= -1:=by obtain ⟨a,b,_⟩:=Dt l s k;have:=mt a.1 h;omega
theorem Wq(l t s)(h:t∉l):vx (l++[t]) s=if s=t then l.length else vx l s:=by
 by_cases a:s∈l
 ·rw [M4 a,cT (by rintro rfl;exact h a)]
 ·unfold vx;rw [Jq [t] s l a];split
  ·rename_i e;subst e;simp [CB]
  ·rename_i e;have b:CB [t] s l.length= -1:=by simp only [CB];rw [cT (fun q=>e (Ex q.symm))]
   have c:CB l s 0= -1:=VU a 0;rw [cB,b,c]
theorem Cq.add{m l w}(h:Cq m l w){t}(b:t.size≤4000)(i:l.length≤4000)(o:t∉l):
 ∃a,(Instr.mapUpdate 87 (.map (some m)) (.string t) (.int .i64 l.length)).run Tryz.prog w=.ok () a∧Cq m (l++[t]) a∧Ab (fun k=>k=m) w a:=by
 obtain ⟨n,D,r,c,g⟩:=h;obtain ⟨a,j,d,f⟩:=EF (p:=l.length) c b i (by omega);refine ⟨a,j,⟨n+1,_,by simp;omega,d,fun s=>?_⟩,f⟩;rw [Wq l t s o];split
 ·rename_i e;subst e;rw [Maps.atKey_put_same (World.ownsMap.isMap c) (KB.key (Iu b))]
 ·rename_i e;rw [Maps.atKey_put_other (fun q=>e (It q)),g s]
theorem Jw{B m e a v n c l w b}(h:w.ownsRow B e a v n c)(g:Ab (fun k=>k=m) w b)(f:Cq m l w):b.ownsRow B e a v n c:=
 Am h g (fun _ _ _ d q=>f.ne q d.symm)
def XS(a d B:Nat)(w:World)(k:Nat):Prop:=k=a∨k=d∨(B≤k∧∃b t c,w.heap[k]? =some (.cells b t c)∧(t=9∨t=157))
def GZ(bb vm B:Nat)(w a:World):Prop:=Ab (XS bb vm B w) w a
theorem GZ.refl(a b B w):GZ a b B w w:=Ab.refl _ _
theorem GZ.trans{f g B:Nat}{a b c:World}(h:GZ f g B a b)(k:GZ f g B b c):GZ f g B a c:=by
 refine ⟨k.os.trans h.os,k.tape.trans h.tape,k.output.trans h.output,bJ h.size k.size,fun i j d=>?_⟩;have e:=h.block i j d;rw [k.block i (bL j h.size) ?_,e];rintro (q | q | ⟨n,l,t,m,q,r⟩)
 ·exact d (.inl q)
 ·exact d (.inr (.inl q))
 ·rw [e] at q;exact d (.inr (.inr ⟨n,l,t,m,q,r⟩))
def XR(a d B:Nat)(w:World)(k:Nat):Prop:=k=a∨k=d∨(B≤k∧∃b c,w.heap[k]? =some (.cells b 9 c))
def IP(a b B:Nat)(w c:World):Prop:=Ab (XR a b B w) w c
theorem IP.trans{f g B:Nat}{a b c:World}(h:IP f g B a b)(k:IP f g B b c):IP f g B a c:=by
 refine ⟨k.os.trans h.os,k.tape.trans h.tape,k.output.trans h.output,bJ h.size k.size,fun i j d=>?_⟩;have e:=h.block i j d;rw [k.block i (bL j h.size) ?_,e];rintro (q | q | ⟨n,l,m,q⟩)
 ·exact d (.inl q)
 ·exact d (.inr (.inl q))
 ·rw [e] at q;exact d (.inr (.inr ⟨n,l,m,q⟩))
theorem IP.s8{bb vm B a b}(h:Ab (fun _=>False) a b):IP bb vm B a b:=h.mono (fun _ _ q=>q.elim)
theorem IP.more{c d B a b}(h:IP c d B a b):GZ c d B a b:=h.mono (fun _ _ q=>by
 rcases q with q | q | ⟨q,e,f,r⟩
 ·exact .inl q
 ·exact .inr (.inl q)
 ·exact .inr (.inr ⟨q,e,_,f,r,.inl rfl⟩))
theorem GZ.s8{bb vm B a b}(h:Ab (fun _=>False) a b):GZ bb vm B a b:=h.mono (fun _ _ q=>q.elim)
def Lw(a e:Nat)(c d:Value)(b:Bd):Array Value:=#[.map (some a),.map (some e),c,d,.int .i64 b.pl,.int .i64 b.ca]
structure Cm(bb fm vm B:Nat)(fn:List ByteArray)(b:Bd)(nv sv:Value)(w:World):Prop where
 l9:Ar bb (Lw fm vm nv sv b) 90 w
 fns:Cq fm fn w
 m9:Cq vm b.p9 w
 p9:AB B w nv b.p9
 m8:AW B w sv b.m8
 ne:fm≠vm
def JZ(a c g B:Nat)(d:List ByteArray)(b:Bd)(w:World):Prop:=∃e f,Cm a c g B d b e f w
theorem AW.p6{B w b a l}(h:AW B w a l)(c:Ab (fun _=>False) w b):AW B b a l:=h.f8 c (fun _ _ _ _ q=>q.elim)
theorem Cm.p6{c d i B e b f g w j}(h:Cm c d i B e b f g w)(a:Ab (fun _=>False) w j):Cm c d i B e b f g j:=
 ⟨h.l9.f8 a (fun q=>q),h.fns.f8 a (fun q=>q),h.m9.f8 a (fun q=>q),Ac h.p9 a (fun _ _ q=>q),h.m8.p6 a,h.ne⟩
theorem JZ.p6{a c e B d b w f}(h:JZ a c e B d b w)(g:Ab (fun _=>False) w f):JZ a c e B d b f:=by obtain ⟨i,j,h⟩:=h;exact ⟨i,j,h.p6 g⟩
theorem Cm.Y3{d g e B B' i b o p w}(h:Cm d g e B i b o p w){k f t j}(c:w.heap[k]? =some (.cells f t j))(l:t≠90)(m:t≠9)(n:t≠157):¬XS d e B' w k:=by
 rintro (q | q | ⟨_,s,v,u,q,r⟩)
 ·subst q;have a:=h.l9;unfold Ar at a;rw [c] at a;simp only [bA,bH] at a;exact l a.2.1
 ·exact h.m9.ne c q.symm
 ·rw [c] at q;simp only [bA,bH] at q;rw [←q.2.1] at r;exact r.elim m n
theorem Cm.ZT{d i e B f j b o p w}(h:Cm d i e B j b o p w){k g t l}(c:w.heap[k]? =some (.cells g t l))(m:t≠90)(n:t≠9):¬XR d e f w k:=by
 rintro (q | q | ⟨_,r,s,q⟩)
 ·subst q;have a:=h.l9;unfold Ar at a;rw [c] at a;simp only [bA,bH] at a;exact m a.2.1
 ·exact h.m9.ne c q.symm
 ·rw [c] at q;simp only [bA,bH] at q;exact n q.2.1
theorem IP.l9{a g e B k i b c t w f}(m:IP a e B w f)(h:JZ a g e B i b w)(d:Ar k c t w)(j:t≠90)(l:t≠9):Ar k c t f:=by obtain ⟨n,o,h⟩:=h;exact d.f8 m (h.ZT d j l)
theorem IP.row{c j f B a l b e d v n i w g}(p:IP c f B w g)(h:JZ c j f B l b w)(s:w.ownsRow a e d v n i)(m:e≠90)(o:e≠9):g.ownsRow a e d v n i:=by obtain ⟨x,y,h⟩:=h;exact Am s p (fun k t u q r=>h.ZT r m o q)
theorem GZ.row{c j f B a l b e d v n i w g}(r:GZ c f B w g)(h:JZ c j f B l b w)(t:w.ownsRow a e d v n i)(m:e≠90)(o:e≠9)(p:e≠157):g.ownsRow a e d v n i:=by obtain ⟨y,z,h⟩:=h;exact Am t r (fun k u x q s=>h.Y3 s m o p q)
theorem GZ.l9{a g e B k i b c t w f}(n:GZ a e B w f)(h:JZ a g e B i b w)(d:Ar k c t w)(j:t≠90)(l:t≠9)(m:t≠157):Ar k c t f:=by obtain ⟨o,p,h⟩:=h;exact d.f8 n (h.Y3 d j l m)
theorem AW.YI{B w j g l}{X:Nat→Prop}(h:AW B w g l)(d:Ab X w j)(f:∀k a t b,X k→w.heap[k]? =some (.cells a t b)→t≠3∧t≠157):AW B j g l:=by obtain ⟨a,s,p,r⟩:=h;refine ⟨a,Am s d (fun k a b c q=>(f k a _ b c q).2 rfl),p,fun i h n=>?_⟩;obtain ⟨m,e,o⟩:=r i h n;exact ⟨m,e,Am o d (fun k a b c q=>(f k a _ b c q).1 rfl)⟩
theorem IG{B m e c v n d l w}(h:w.ownsRow B e c v n d)(b:Cq m l w):v.ownBlock≠some m:=fun q=>by obtain ⟨_,f,g,a⟩:=Ec h q;exact b.ne a rfl
theorem D6{b a t w}(h:Ar b a t w){c u d}(e:w.heap[b]? =some (.cells c u d)):u=t:=by unfold Ar at h;rw [e] at h;simp only [bA,bH] at h;exact h.2.1
theorem Cm.named{a g d B u b e f v' t w V W c}(h:Cm a g d B u b e f w)(l:Ab (fun k=>k=d) w V)(x:Cq d (b.p9++[t]) V)(H:Ab (fun _=>False) V W)(I:W.grownBy c e.ownBlock)(D:c.ownsRow B 9 1 v' (b.p9.length+1) (b.p9.map Value.string++[.string t])):
 Cm a g d B u {b with p9:=b.p9++[t]} v' f (c.setCell ⟨a,2,none⟩ v')∧IP a d B w (c.setCell ⟨a,2,none⟩ v'):=by
 have M:=h.m9.ne h.l9;have y:Ar a (Lw g d e f b) 90 V:=h.l9.f8 l (fun q=>M q.symm);have A:Cq g u V:=h.fns.f8 l h.ne;have o:AB B V e b.p9:=Jw h.p9 l h.m9;have L:AW B V f b.m8:=h.m8.YI l (fun k r t s n q=>dC n.symm (h.m9.ne q));have i:Ab (fun k=>e.ownBlock=some k) V c:=Ab.grown (H.mono (fun _ _ q=>q.elim)) I (fun j J=>.inl J);have m:Ar a (Lw g d e f b) 90 c:=y.f8 i (fun q=>Ap o y (by decide) a q rfl);have p:Ab (fun k=>k=a) c (c.setCell ⟨a,2,none⟩ v'):=(Ab.refl _ _).p7 2 _;have z:=A.f8 i (IG o A);have C:=x.f8 i (IG o x);have K:AW B c f b.m8:=L.YI i (fun k r t s n q=>by obtain ⟨_,N,O,v⟩:=Ec o n;rw [v] at q;simp only [bA,bH] at q;rw [←q.2.1];decide)
 refine ⟨⟨m.set 2 _,z.f8 p (z.ne m),C.f8 p (C.ne m),?_,K.YI p (fun k r t s n q=>by subst n;rw [D6 m q];decide),h.ne⟩,?_⟩
 ·show (c.setCell ⟨a,2,none⟩ v').ownsRow B _ 1 v' (b.p9++[t]).length ((b.p9++[t]).map Value.string);rw [dD,aZ];exact Ac D p (Ap D m (by decide))
 ·have E:IP a d B w V:=l.mono (fun _ _ q=>.inr (.inl q));have F:IP a d B V c:=i.mono (fun k _ q=>by obtain ⟨G,r,s,v⟩:=Ec o q;exact .inr (.inr ⟨G,r,s,v⟩))
  exact (E.trans F).trans (p.mono (fun _ _ q=>.inl q))
theorem LE(a m f B u b t nv r w)(c:Cm a m f B u b nv r w)(hB:B≤w.heap.size)(hl:t.i6.size≤4000)(hn:b.p9.length≤4000)(ht:t.i6∉b.p9):
 Calls Tryz.prog 62 #[.pointer (some ⟨a,0,none⟩),Jd t] w fun e C=>e=.returned (.tuple #[])∧(∃A,Cm a m f B u {b with p9:=b.p9++[t.i6]} A r C)∧IP a f B w C:=by
 obtain ⟨i0,a0,a6,a7,a8⟩:=info_parts Tryz.infoStr;have Q:=c.l9.cell 1;have R:=c.l9.cell 2;have ff:=fun i=>Aw c.l9 i
 have lb:=Ae c.l9;simp only [Lw,aU,aS,aT] at Q R;obtain ⟨o,nl,p,rfl⟩:=Ad c.p9;have a2:=Ah c.p9;subst a2;unfold Jd;have lv:=c.m9.lt;have a3:=c.m9.ne c.l9;have d:=Aa (c.p6 ((Ab.refl (fun _=>False) w).alloc (.cells #[.string t.i6,.int .i64 t.i9] 92)));have E:=Aa (Ar.new w #[.string t.i6,.int .i64 t.i9] 92);have F:=Aa ((Ab.refl (fun _=>False) w).alloc (.cells #[.string t.i6,.int .i64 t.i9] 92));clear c;go_enter Tryz.func62,Tryz.ntmps62;go_wp2_with fail;generalize w.alloc _=l at*;have N:=d.o.l9.cell 1;have O:=d.o.l9.cell 2;have M:=E.o.cell 0;have kf:=fun i=>Aw d.o.l9 i
 simp only [Lw,aU,aS,aT] at N O M;clear Q R ff;refine Fo (v:=.pointer (some ⟨a,0,none⟩)) 11 (by kernel_rfl) (by kernel_rfl) (fun _ _ _ h=>h) (Or.inl ⟨by rfl,fun w=>by go_simp⟩) ?_;simp only [cL,List.take_zero,dA,List.drop_zero];repeat (quiet_step (fail))
 refine wpQuiet_nil ?_;intro C a4;obtain ⟨nq,a5⟩:=a4;subst a5;obtain ⟨V,a9,H,I⟩:=Cq.add (w:=l.drewN nq) (d.o.m9.f8 ((Ab.refl (fun _=>False) l).drewN nq) (fun q=>q)) hl hn ht;have g:Ab (fun k=>k=f) l V:=((Ab.refl _ l).drewN nq).trans I;have j:dJ (Ar a (Lw m f (.slice o b.p9.length p) r b) 90 V):=d.o.l9.f8 g (fun q=>a3 q.symm);have NV:dJ (Ar w.heap.size #[.string t.i6,.int .i64 t.i9] 92 V):=E.o.f8 g (by omega);have S:=j.o.cell 2;have vf:=fun i=>Aw j.o i
 have n0:=NV.o.cell 0;have P:=Ae j.o;simp only [Lw,aU,aS,aT] at S n0;have G:dJ (AB B V (.slice o b.p9.length p) b.p9):=Jw d.o.p9 g d.o.m9;have D:=Aa g;have X:=Aa H;clear N O M kf H I g;have K:=Aa (Ap G.o j.o (by decide));go_wp2_with fail;go_region_law (refine Ay rfl _ _ 22 rfl B 9 i0 (.string ⟨#[]⟩) 1 16 Tryz.underlying22 a0 a6 a7 a8 rfl (by decide) _ _ _ rfl (G.o.alloc _) ⟨V.heap.size,0,none⟩ 1 1 [.string t.i6] rfl rfl (AN rfl _ _) (fun x L=>by simp at L;subst L;rfl) (by decide) (by unfold maxLen;omega) (by omega) (by have:=D.o.size;have:=F.o.size;simp;omega) ?_;intro v' s z n a1;have q1:s.cell? ⟨a,2,none⟩=some (.slice o b.p9.length p):=(aW (n.block a (by simp;omega) (fun h=>K.o a h.symm rfl))).trans (by rw [←S];exact aW (bF _ _ _ P));have q2:s.frozen? ⟨a,2,none⟩=false:=(bB (n.block a (by simp;omega) (fun h=>K.o a h.symm rfl))).trans (by rw [←vf 2];exact bB (bF _ _ _ P));obtain ⟨T,W,U,rfl⟩:=Ad z);all_goals
  have J:(V.alloc (.cells #[.string t.i6] 9)).drew.grownBy s (Value.ownBlock (.slice o b.p9.length p)):=n;have y:=d.o.named (t:=t.i6) (v':=.slice T W U) D.o X.o (((Ab.refl _ V).alloc _).drew) J z;have Y:dJ (∃A,Cm a m f B u {b with p9:=b.p9++[t.i6]} A r (s.setCell ⟨a,2,none⟩ (.slice T W U))):=⟨_,y.1⟩;have Z:=Aa ((IP.s8 F.o).trans y.2);clear y z n J a1 q1 q2;go_wp2_with fail;go_end0;exact ⟨rfl,Y.o,Z.o⟩
end Go.Proofs.YthppbgndiplgnaaGreatDoor

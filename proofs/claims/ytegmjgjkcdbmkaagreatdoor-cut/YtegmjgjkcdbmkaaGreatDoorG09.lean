/- One of the texts of the proof of cut_card_holds: PaF0 PaF PaG CuP CuA CuD. -/
import Derived.Test.YtegmjgjkcdbmkaaGreatDoorG08
import Derived.Test.YtegmjgjkcdbmkaaGreatDoorG05
import Derived.Test.YtegmjgjkcdbmkaaGreatDoorRows
import Derived.ProofKit
import Derived.SizedLaws
import Derived.Deep.Slices
import Derived.Carry
import Derived.LaidMore
import Derived.OpenShut
import Derived.Stop.Joined
set_option maxRecDepth 100000
set_option maxHeartbeats 2000000
namespace Go.Proofs.YtegmjgjkcdbmkaaGreatDoor
open Go.RowKit Go.ChangeShapes Go.WideShapes Go.ChangeAt
abbrev Vq:Value:=.agg #[.slice none 0 0,.int .i64 0]
def VB(s:ByteArray)(a b:Nat):Prop:=∀w:World,Calls Tryz.prog 36 #[.string s] w fun e c=>e=.returned (.tuple #[.slice none 0 0,Vq,.int .i64 a,.int .i64 b])∧Below w.heap.size w c
theorem MR(s p)(i:s.size≤4000)(h:AK s s.size 0 x0=.inl p):VB s 2 p:=by
 intro w;have H:=Aa h;clear h;go_enter Tryz.func36,Tryz.ntmps36;go_wp2_with fail;refine (Gb s i _).mono ?_;rw [H.o];rintro e c ⟨rfl,b⟩;have j:=b.size;simp at j;have g:Below w.heap.size w c:=((Below.refl _ _).alloc (Nat.le_refl _) _).trans (b.mono (by simp));have a:Ar w.heap.size #[.slice none 0 0,.int .i64 0] 82 c:=by show c.heap[w.heap.size]? =_;rw [b.block _ (by simp)];exact heap_alloc_new w _
 have d:=a.cell 0;have f:=a.cell 1;have k:=a.frozen;simp only [aU,aS,aT] at d f;clear b a;go_wp2;refine bodyPost_ret (v:=.tuple #[.slice none 0 0,Vq,.int .i64 2,.int .i64 p]) (by simp [results,Tryz.results36,go_sem,d,f]) rfl ⟨rfl,?_⟩;exact (g.setCell (p:=⟨w.heap.size,0,none⟩) (Nat.le_refl _) _).setCell (p:=⟨w.heap.size,1,none⟩) (Nat.le_refl _) _
theorem C1(s x d)(O:s.size≤4000)(h:AK s s.size 0 x0=.inr x)(j:(Aj (AC s x) ((AC s x).length-1)).kind=0)
 (D:(Bm (AC s x) (AC s x).length (Af (AC s x) (AC s x).length 1 (Af (AC s x) (AC s x).length 3 ⟨0,false,0⟩))).2=d)(z:JY (AC s x) (AC s x).length d):VB s 3 (Gf (AC s x) (AC s x).length d).Yy:=by
 intro w;have H:=Aa h;have M:=Aa j;have I:=Aa z;have N:=Aa D;have A:0<(AC s x).length:=by simp [AC]
 have G:=Aa (Ff h);clear h j z D;obtain ⟨q,l⟩:∃q,(Gf (AC s x) (AC s x).length d).Yy=q:=⟨_,rfl⟩;rw [l];have J:=Aa l;clear l;generalize u:AC s x=k at*;have K:=Aa u;clear u;go_enter Tryz.func36,Tryz.ntmps36;go_wp2_with fail;refine (Gb s O _).mono ?_;rw [H.o];rintro e c ⟨v,rfl,a,B,f⟩;rw [K.o] at a B;have j:=f.size;simp at j;have y:Below w.heap.size w c:=((Below.refl _ _).alloc (Nat.le_refl _) _).trans (f.mono (by simp));have t:Ar w.heap.size #[.slice none 0 0,.int .i64 0] 82 c:=by show c.heap[w.heap.size]? =_;rw [f.block _ (by simp)];exact heap_alloc_new w _
 obtain ⟨T,U,E,rfl⟩:=Ad a;obtain ⟨g,rfl⟩:=As a A;have P:=Ah a;subst P;have C:Ba g k.length E k c:=⟨Ax a (by omega),rfl,B,G.o⟩;have m:=Aa t;have n:=Aa y;clear f t y a;go_wp2_with fail;refine (H6 g k.length E d k c C A M.o N.o I.o).mono ?_;rw [J.o];rintro e F ⟨rfl,i⟩;have S:=i.size;have b:Ar w.heap.size #[.slice none 0 0,.int .i64 0] 82 F:=by show F.heap[w.heap.size]? =_;rw [i.block _ (by omega)];exact m.o
 have L:=Aa (n.o.trans (i.mono (by omega)));have o:=b.cell 0;have r:=b.cell 1;have R:=b.frozen;simp only [aU,aS,aT] at o r;have Q:=Ae b;clear i b m n C;go_wp2;refine bodyPost_ret (v:=.tuple #[.slice none 0 0,Vq,.int .i64 3,.int .i64 q]) (by simp [results,Tryz.results36,go_sem,o,r,Q]) rfl ⟨rfl,?_⟩;exact ((L.o.setCell (p:=⟨w.heap.size,0,none⟩) (Nat.le_refl _) _).setCell (p:=⟨w.heap.size,1,none⟩) (Nat.le_refl _) _).alloc (by simp;omega) _
theorem B7(s:ByteArray)(a p:Nat)(h:VB s a p)(d:a≠0)(w:World):
 Calls Tryz.prog 16 #[.string s] w fun e c=>e=.returned (.tuple #[.string {data:=#[]},.int .i64 a,.int .i64 p])∧Below w.heap.size w c:=by
 have f:((a:Int) !=0)=true:=by simp;omega
 go_enter Tryz.func16,Tryz.ntmps16;go_wp2_with fail;refine (h _).mono ?_;rintro e i ⟨rfl,b⟩;have g:=b.size;go_wp2;go_ret3;exact ⟨rfl,b.alloc (by omega) _⟩
theorem E6(s c:ByteArray)(k:Int)(b p:Nat)(h:VB s b p)(r:b≠0)(w:World):
 Calls Tryz.prog 17 #[.string s,.string c,.int .i64 k] w fun e o=>e=.returned (.tuple #[.agg #[.int .i64 0,.int .i64 0,.slice none 0 0],.int .i64 b,.int .i64 p])∧Below w.heap.size w o:=by
 have t:((b:Int) !=0)=true:=by simp;omega
 go_enter Tryz.func17,Tryz.ntmps17;go_wp2_with fail;refine (h _).mono ?_;rintro e f ⟨rfl,d⟩;have m:=d.size;simp at m;have l:Below w.heap.size w f:=((Below.refl _ _).alloc (Nat.le_refl _) _).trans (d.mono (by simp));have a:Ar w.heap.size #[.int .i64 0,.int .i64 0,.slice none 0 0] 53 f:=by show f.heap[w.heap.size]? =_;rw [d.block _ (by simp)];exact heap_alloc_new w _
 have g:=a.cell 0;have i:=a.cell 1;have j:=a.cell 2;have q:=a.frozen;simp only [aU,aS,aT] at g i j;have n:=Ae a;clear d a;go_wp2;refine bodyPost_ret (v:=.tuple #[.agg #[.int .i64 0,.int .i64 0,.slice none 0 0],.int .i64 b,.int .i64 p]) (by simp [results,Tryz.results17,go_sem,g,i,j,n]) rfl ⟨rfl,?_⟩;exact (((l.setCell (p:=⟨w.heap.size,0,none⟩) (Nat.le_refl _) _).setCell (p:=⟨w.heap.size,1,none⟩) (Nat.le_refl _) _).setCell (p:=⟨w.heap.size,2,none⟩) (Nat.le_refl _) _).alloc (by simp;omega) _
theorem BX(s:ByteArray)(a p:Nat)(h:VB s a p)(d:a≠0)(w:World):
 Calls Tryz.prog 19 #[.string s] w fun e c=>e=.returned (.tuple #[.pointer none,.int .i64 a,.int .i64 p])∧Below w.heap.size w c:=by
 have f:((a:Int) !=0)=true:=by simp;omega
 go_enter Tryz.func19,Tryz.ntmps19;go_wp2_with fail;refine (h _).mono ?_;rintro e i ⟨rfl,b⟩;have g:=b.size;go_wp2;go_ret3;exact ⟨rfl,b.alloc (by omega) _⟩
theorem FP(g:List PT)(n:Nat)(k:2≤n)(l:n≤9)(h:g.map (fun t=>(t.kind,t.i9))=D0 n):
 ∃i,(Bm g g.length (Af g g.length 1 (Af g g.length 3 ⟨0,false,0⟩))).2=i∧JY g g.length i∧(Gf g g.length i).Yy=n∧(Aj g (g.length-1)).kind=0:=by
 have j:n=2∨n=3∨n=4∨n=5∨n=6∨n=7∨n=8∨n=9:=by omega
 refine ⟨_,rfl,?_⟩;rcases g with _ | ⟨a,_ | ⟨b,_ | ⟨c,_ | ⟨d,_ | ⟨e,_ | ⟨f,t⟩⟩⟩⟩⟩⟩
 all_goals (rcases j with rfl | rfl | rfl | rfl | rfl | rfl | rfl | rfl)
 all_goals (simp [D0] at h)
 all_goals
  refine ⟨⟨?_,?_,?_⟩,?_,?_⟩;all_goals simp [Bm,Dx,Af,Gf,Aj,h]
theorem D1(s:ByteArray)(n:Nat)(b:2≤n)(c:n≤9)(d:s.data.toList=BL.take n):VB s 3 n:=by
 have a:=L0 s n b c d;have j:s.size≤4000:=by
  have:s.data.toList.length=(BL.take n).length:=by rw [d]
  have l:s.size=s.data.toList.length:=by simp
  have m:(BL.take n).length≤9:=by simp;omega
  omega
 unfold Lq at a;split at a
 ·cases a
 ·rename_i x i;simp only [Option.some.injEq] at a;obtain ⟨k,e,f,g,h⟩:=FP (AC s x) n b c a;have:=C1 s x k j i h e f;rwa [g] at this
theorem FT(s:ByteArray)(i j:Nat)(a:i<s.size)(b:s[i]'a=255)(d:s.size≤4000)(c:A4 0 (s.data.toList.take i)=some j):VB s 2 i:=
 MR s i d (Fk s i a (F6 s i a b) i 0 s.size x0 j (by omega) (by omega) rfl (by simpa using c))
theorem G4{s:ByteArray}{n:Nat}(h:BL<+:s.data.toList)(a:n≤9):(s.extract 0 n).data.toList=BL.take n:=by
 obtain ⟨t,b⟩:=h;have:s.data.toList.take n=BL.take n:=by rw [←b,List.take_append_of_le_length (by simpa using a)]
 rw [←this];simp
theorem G3{s:ByteArray}(h:BL<+:s.data.toList):9≤s.size:=by have:=h.length_le;simpa using this
theorem KS(b:ByteArray)(i:Nat)(h:i<b.size)(x:UInt8)(l:List UInt8)(k:List UInt8)(e:b.data.toList=l++x::k)(f:l.length=i):b[i]'h=x:=by
 have c:b.data.toList[i]? =some x:=by rw [e,List.getElem?_append_right (by omega)];simp [f]
 have d:i<b.data.size:=h;have a:b.data.toList[i]? =some (b[i]'h):=by simp [Array.getElem?_eq_getElem d];rfl
 rw [c] at a;exact (Option.some.inj a).symm
theorem KH{s:ByteArray}{i:Nat}(l:i≤s.size)(m:s.size≤2400)(h:A4 0 s.data.toList=some 0):VB (s.extract 0 i++({data:=#[255]}:ByteArray)++s.extract i s.size) 2 i:=by
 have c:(s.extract 0 i++({data:=#[255]}:ByteArray)++s.extract i s.size).data.toList=s.data.toList.take i++255::s.data.toList.drop i:=by simp [List.take_of_length_le]
 generalize s.extract 0 i++({data:=#[255]}:ByteArray)++s.extract i s.size=b at c⊢;have g:(s.data.toList.take i).length=i:=by simp;omega
 have k:b.size=s.size+1:=by
  have e:b.size=b.data.toList.length:=by simp
  rw [e,c];simp;omega
 have d:i<b.size:=by omega
 obtain ⟨j,f,_⟩:=H9 (a:=s.data.toList.take i) (b:=s.data.toList.drop i) (by rw [List.take_append_drop];exact h);refine FT b i j d (KS b i d 255 _ _ c g) (by omega) ?_;rw [c,List.take_append_of_le_length (by omega),List.take_of_length_le (by omega)];exact f
theorem Ck{b:Nat}{c:Array Value}{t:TypeId}{w a:World}(h:Ar b c t w)(d:Below w.heap.size w a):Ar b c t a:=by show a.heap[b]? =_;rw [d.block b (Ae h)];exact h
theorem J4(E:Value)(D:List Ln)(c d:Int)(w:World)(Q:Lk E D w)(R:∀l∈D,l.Ok)(v:B6 c)(a:B6 d):
 Calls Tryz.prog 8 #[E,.int .i64 c,.int .i64 d] w fun e J=>e=.returned (.bool true)∧Below w.heap.size w J:=by
 have X:=v.1;have Y:=v.2;have x1:=a.1;have x2:=a.2;obtain ⟨n,B⟩:∃n,AL c 8=n:=⟨_,rfl⟩;have a7:n<8:=by rw [←B];exact A1 _ _ (by omega)
 have V:=Aa B;clear B v a;go_enter Tryz.func8,Tryz.ntmps8;go_wp2_with fail;refine (I6 E D w Q R).mono ?_;rintro e S ⟨⟨s,G,I,H,F,u,rfl,C,hz,f⟩,g⟩;have z:=Aa ((g.below (fun _ h=>h.elim)).alloc g.size (.cells #[.string s,.slice G I H,.int .i64 F,.int .i64 u] 25));have K:=Aa (Ar.new S #[.string s,.slice G I H,.int .i64 F,.int .i64 u] 25);have a8:=G3 f;have HH:=Aa f;have HR:=Aa C;obtain ⟨i,A⟩:∃i,AL d (s.size+1)=i:=⟨_,rfl⟩;have a5:i<s.size+1:=by rw [←A];exact A1 _ _ (by omega)
 have U:=Aa A;have a9:=g.size;have m:=Aa (D1 (s.extract 0 (2+n)) (2+n) (by omega) (by omega) (G4 f (by omega)));have N:=Aa (KH (i:=i) (by omega) hz C);clear C f A g Q R;go_wp2_with (first | (go_at_call 13;refine (A2 c 8 X Y (by omega) (by omega) _).mono ?_;rw [V.o];rintro e J ⟨rfl,b⟩;have b:=b.symm;subst b));have a0:w.heap.size≤(S.alloc (.cells #[.string s,.slice G I H,.int .i64 F,.int .i64 u] 25)).heap.size:=z.o.size;refine (B7 _ 3 (2+n) m.o (by omega) _).mono ?_;rintro e w2 ⟨rfl,a⟩;have j:=Aa (Ck K.o a);have o:=Aa (z.o.trans (a.mono a0));have z2:=o.o.size;have b2:=Ae j.o;clear a z K;go_wp2_with fail;refine (E6 _ _ 9 3 (2+n) m.o (by omega) _).mono ?_;rintro e w3 ⟨rfl,x⟩;have k:=Aa (Ck j.o x);have p:=Aa (o.o.trans (x.mono z2));have z3:=p.o.size;have b3:=Ae k.o;clear x j o;go_wp2_with fail;have L:=Aa (k.o.alloc (.cells #[.int .i64 0,.int .i64 0,.slice none 0 0] 53));have q:=Aa (p.o.alloc z3 (.cells #[.int .i64 0,.int .i64 0,.slice none 0 0] 53));have z4:=q.o.size;refine (BX _ 3 (2+n) m.o (by omega) _).mono ?_;rintro e T ⟨rfl,y⟩;have M:=Aa (Ck L.o y);have r:=Aa (q.o.trans (y.mono z4));have z5:=r.o.size;have b5:=Ae M.o;have Z:=M.o.cell 0;simp only [aU,aS] at Z;clear y L q k p;go_wp2_with (first | (go_at_call 13;refine (A2 d (s.size+1) x1 x2 (by omega) (by omega) _).mono ?_;rw [U.o];rintro e J ⟨rfl,b⟩;have b:=b.symm;subst b));have a4:(i:Int)≤(s.size:Int):=by omega
 have a3:(0:Int)≤(i:Int):=by omega
 have a6:i≤s.size:=by omega
 go_region;go_wp2_with fail;refine (B7 _ 2 i N.o (by omega) _).mono ?_;rintro e w6 ⟨rfl,O⟩;have t:=Aa ((r.o.trans (⟨rfl,rfl,rfl,Nat.le_refl _,fun _ _=>rfl⟩:Below w.heap.size T T.drew)).trans (O.mono z5));have z6:=t.o.size;clear O r;go_wp2_with fail;refine (BX _ 2 i N.o (by omega) _).mono ?_;rintro e w7 ⟨rfl,P⟩;have W:=Aa (t.o.trans (P.mono z6));clear P t;go_wp2;go_ret;exact ⟨rfl,W.o⟩
theorem Tryz.own:ownKnob Tryz.prog.godebug=none:=by kernel_rfl
theorem Tryz.laidOut:laidOutB Tryz.prog=true:=by kernel_rfl
theorem Tryz.cellsLn:Tryz.prog.cellsOf 44=6:=by kernel_rfl
theorem Tryz.cellsI:Tryz.prog.cellsOf 3=1:=by kernel_rfl
def CX:Option TypeDesc→List (TypeId×Nat)
 | some (.struct a)=>a.toList.map (fun f=>(f.type,f.offset))
 | _=>[]
theorem Tryz.structLn:CX (Tryz.prog.underlying 44)=[(3,0),(3,1),(3,2),(3,3),(3,4),(3,5)]:=by kernel_rfl
theorem J0{n:Int}(h:(Lit.int .i64 n).wf=true):B6 n:=by have a:IntKind.i64.min= -9223372036854775808:=rfl;have b:IntKind.i64.max=9223372036854775807:=rfl;simp only [Lit.wf,Bool.and_eq_true,decide_eq_true_eq] at h;exact ⟨by omega,by omega⟩
theorem GF{w:World}{a:Addr}{v:Value}(h:w.cell? a=some v):a.spot=none∧a.block<w.heap.size:=by
 unfold World.cell? at h;split at h
 ·rename_i c e f b;split at h
  ·cases h
  ·rename_i d;exact ⟨by simpa using d,(Array.getElem?_eq_some_iff.1 b).1⟩
 ·cases h
theorem F9{w:World}{b o j:Nat}{v:Value}(h:w.cell? ((⟨b,o,none⟩:Addr).add j)=some v):w.cell? ⟨b,o+j,none⟩=some v:=by
 unfold Addr.add at h;split at h
 ·rename_i a;subst a;exact h
 ·exact h
section
variable {H : Type} {k : TypeId × Value → H} {W : World}
theorem G9{n:Nat}{a:List Value}{d:List (DataW H×List MemPlace)}{i:Nat}{f:Field}(c:DataW.trod k Tryz.prog W 0 (fun _=>true) true n f.type ((a.drop f.offset).take (Tryz.prog.cellsOf f.type))=d[i]?)(j:f.type=3)(h:f.offset=i)(l:i<d.length)(g:i<a.length):∃m:Int,a[i]=.int .i64 m∧B6 m:=by rw [j,h,Tryz.cellsI,List.getElem?_eq_getElem l] at c;obtain ⟨m,b,_,e⟩:=DataW.trod_int Tryz.underlying3 c;rw [List.drop_eq_getElem_cons g,List.take_succ_cons,List.take_zero] at b;exact ⟨m,(List.cons.inj b).1,J0 e⟩
theorem H5{z:Nat}{d:List Value}{x:DataW H×List MemPlace}(h:DataW.trod k Tryz.prog W 0 (fun _=>true) true z 44 d=some x):∃l:Ln,l.Ok∧d=(L5 l).toList:=by
 have b:=Tryz.structLn;cases o:Tryz.prog.underlying 44 with
 | none=>rw [o] at b;simp [CX] at b
 | some O=>
   rw [o] at b;cases O<;>simp only [CX] at b<;>try (simp at b;done)
   rename_i a;obtain ⟨T,n,_,_,r,R,A⟩:=DataW.trod_struct o h;rw [Tryz.cellsLn] at r;have S:a.size=6:=by have:=congrArg List.length b;simpa using this
   have q:∀i (c:i<a.size),a[i].type=3∧a[i].offset=i:=by
    intro i c;have e:(a.toList.map (fun f=>(f.type,f.offset)))[i]? =some (a[i].type,a[i].offset):=by simp [c]
    rw [b] at e;have j:i=0∨i=1∨i=2∨i=3∨i=4∨i=5:=by omega
    rcases j with rfl | rfl | rfl | rfl | rfl | rfl<;>simp at e<;>exact ⟨e.1.symm,e.2.symm⟩
   have g:∀i (c:i<6),∃m:Int,d[i]'(by omega)=.int .i64 m∧B6 m:=by
    intro i c;have p:i<a.size:=by omega
    exact G9 (A i a[i] (Array.getElem?_eq_getElem p)) (q i p).1 (q i p).2 (by omega) (by omega)
   obtain ⟨I,s,B⟩:=g 0 (by omega);obtain ⟨J,t,C⟩:=g 1 (by omega);obtain ⟨K,u,D⟩:=g 2 (by omega);obtain ⟨L,v,E⟩:=g 3 (by omega);obtain ⟨M,w,F⟩:=g 4 (by omega);obtain ⟨N,y,G⟩:=g 5 (by omega);refine ⟨⟨I,J,K,L,M,N⟩,⟨B,C,D,E,F,G⟩,?_⟩;refine List.ext_getElem (by simp [r]) ?_;intro i P Q;have j:i=0∨i=1∨i=2∨i=3∨i=4∨i=5:=by omega
   rcases j with rfl | rfl | rfl | rfl | rfl | rfl
   ·exact s
   ·exact t
   ·exact u
   ·exact v
   ·exact w
   ·exact y
theorem FS{w:Value}{d:DataW H}{p:List MemPlace}{B:Option Addr}{c x:Nat}(N:w=.slice B c x)(h:DataW.Trod k Tryz.prog W 0 (fun _=>true) true 22 w d p):∃A:List Ln,Lk w A W∧∀l∈A,l.Ok:=by
 subst N;obtain ⟨T,L⟩:=h;rcases Go.Deep.open_slice Tryz.underlying22 L with ⟨s,_⟩ | ⟨a,X,R,m,n,D,Q,s,_,z,_,O,_,K⟩
 ·simp [Value.cells] at s;obtain ⟨rfl,rfl,rfl⟩:=s;exact ⟨[],⟨none,0,rfl,Nat.le_refl _,.inl rfl⟩,by simp⟩
 ·simp [Value.cells] at s;obtain ⟨rfl,rfl,rfl⟩:=s;have V:c≤m:=by rw [O];simpa using z
  have C:∀i:Nat,∃l:Ln,i<c→(l.Ok∧∀j (t:j<6),W.cell? ((a.add (i*6)).add j)=(L5 l).toList[j]?):=by
   intro i;by_cases f:i<c
   ·obtain ⟨S,y,F⟩:=K i (by omega);rw [Tryz.cellsLn] at y;obtain ⟨_,U,J⟩:=World.cells?_some y;obtain ⟨l,ok,e⟩:=H5 F;exact ⟨l,fun _=>⟨ok,fun j t=>by rw [J j t,e]⟩⟩
   ·exact ⟨⟨0,0,0,0,0,0⟩,fun h=>absurd h f⟩
  obtain ⟨q,u⟩:=Classical.skolem.1 C;refine ⟨(List.range c).map q,⟨some a,x,by simp,by simpa using z,?_⟩,?_⟩
  ·by_cases E:c=0
   ·subst E;exact .inl rfl
   ·right;have P:a.spot=none∧a.block<W.heap.size:=by have:=(u 0 (by omega)).2 0 (by omega);exact GF (a:=(a.add (0*6)).add 0) (v:=.int .i64 (q 0).a0) (by simpa using this)
    obtain ⟨b,o,Y⟩:=a;obtain ⟨rfl,I⟩:=P;have g:∀i,i<c→∀j,j<6→W.cell? ⟨b,o+i*6+j,none⟩=(L5 (q i)).toList[j]? :=by
     intro i f j t;have e:=(u i f).2 j t;rw [Go.Deep.add_add] at e;have G:j<(L5 (q i)).toList.length:=by simpa using t
     rw [List.getElem?_eq_getElem G] at e⊢;have:=F9 e;rwa [←Nat.add_assoc] at this
    refine ⟨b,o,rfl,fun _=>I,?_,?_,?_,?_,?_,?_⟩;all_goals
     intro i f;have r:i<c:=by simpa using f
     simp only [List.getElem_map,List.getElem_range]
    ·simpa using g i r 0 (by omega)
    ·simpa using g i r 1 (by omega)
    ·simpa using g i r 2 (by omega)
    ·simpa using g i r 3 (by omega)
    ·simpa using g i r 4 (by omega)
    ·simpa using g i r 5 (by omega)
  ·intro l M;obtain ⟨i,f,rfl⟩:=List.mem_map.1 M;exact (u i (List.mem_range.1 f)).1
end
end Go.Proofs.YtegmjgjkcdbmkaaGreatDoor

/- One of the texts of the proof of cut_card_holds: KpB KpC. -/
import Derived.Test.YtegmjgjkcdbmkaaGreatDoorG01
import Derived.Deep.RegionHeld3
set_option maxRecDepth 100000
set_option maxHeartbeats 2000000
namespace Go.Proofs.YtegmjgjkcdbmkaaGreatDoor
open Go.RowKit
def Bk(B:Nat)(w:World)(v:Value)(l:List Nat):Prop:=w.ownsRow B 3 1 v l.length (l.map fun i:Nat=>Value.int .i64 (i:Int))
def E4:List Nat→Nat→List UInt8
 | _,0=>[40]
 | l,k+1=>E4 l k++(if 0<k then [32] else [])++B8 (l[k]?.getD 0)
theorem I5(l:List Nat)(h:l.length≤2):E4 l l.length++[41]=C0 l:=by
 rcases l with _ | ⟨a,_ | ⟨b,_ | ⟨c,t⟩⟩⟩
 ·rfl
 ·simp [E4,C0]
 ·simp [E4,C0]
 ·simp at h
theorem HW(B:Nat)(v:Value)(l:List Nat)(w:World)(h:Bk B w v l)(p:l.length≤2)(m:∀i∈l,i<4):
 Calls Tryz.prog 44 #[v] w fun e f=>(∃s:ByteArray,e=.returned (.string s)∧s.data.toList=C0 l)∧f=w:=by
 obtain ⟨D,F,E,rfl⟩:=Ad h;have r:=Ah h;subst r;have x:ByteArray.size {data:=#[32]}=1:=rfl;go_enter Tryz.func44,Tryz.ntmps44;go_wp2;go_loop [3,4] (fun t i=>∃(k:Nat) (s:ByteArray),k≤l.length∧i=.int .i64 k∧t=.string s∧s.data.toList=E4 l k∧s.size≤1+2*k) (fun _ i=>l.length-(intOf i).toNat)
 case atStart=>exact ⟨0,{data:=#[40]},by omega,rfl,rfl,rfl,by decide⟩
 case round=>
  obtain ⟨k,s,z,rfl,rfl,d,A⟩:=hrel;by_cases b:k<l.length
  ·obtain ⟨g,rfl⟩:=As h (by omega);have y:w.cell? ⟨g,k,none⟩=some (.int .i64 (l[k]:Nat)):=by have:=h.cellAt (k*1) (by omega);rw [Nat.mul_one] at this;rw [this];simp [b]
   have n:=m l[k] (List.getElem_mem _);have c:E4 l (k+1)=E4 l k++(if 0<k then [32] else [])++B8 l[k]:=by simp [E4,b]
   have j:=Aa c;clear c;by_cases o:0<k;all_goals
    go_wp2_with (go_at_call 28;refine (BR _ n _).mono ?_;rintro e f ⟨⟨u,rfl,q,C⟩,a⟩;have a:=a.symm;subst a);go_round
    case rel=>exact ⟨k+1,_,by omega,by go_num,rfl,by rw [j.o];simp [d,q,o],by simp;omega⟩
    case measure=>simp [intOf];omega
  ·have e:k=l.length:=by omega
   subst e;go_wp2;go_ret;exact ⟨⟨_,rfl,by rw [←I5 l p];simp [d]⟩,rfl⟩
theorem I9(B:Nat)(v:Value)(u x:Int)(b p q g k:Nat)(c:List Nat)(w:World)(h:Bk B w v c)(n:c.length≤2)(f:∀i∈c,i<4)(z:b<10)(o:p<4)(r:q<4)(l:g<4)(j:k<4):
 Calls Tryz.prog 30 #[.agg #[.int .i64 u,.int .i64 b,.int .i64 p,.int .i64 q,.int .i64 g,.int .i64 k,.int .i64 x,v]] w fun e d=>(∃s:ByteArray,e=.returned (.string s)∧s.data.toList=K3 b p q g k c)∧Ab (fun _=>False) w d:=by
 obtain ⟨K,M,L,rfl⟩:=Ad h;have H:=Aa h;clear h;have m:b=0∨b=1∨b=2∨b=3∨b=4∨b=5∨b=6∨b=7∨b=8∨b=9:=by omega
 rcases m with rfl | rfl | rfl | rfl | rfl | rfl | rfl | rfl | rfl | rfl
 all_goals
  go_enter Tryz.func30,Tryz.ntmps30;go_wp2_with fail;refine (BR _ o _).mono ?_;rintro e d ⟨⟨I,rfl,D,Q⟩,a⟩;have a:=a.symm;subst a;go_wp2_with fail;refine (BR _ r _).mono ?_;rintro e d ⟨⟨J,rfl,E,R⟩,a⟩;have a:=a.symm;subst a;go_wp2_with fail;refine (C2 _ l _).mono ?_;rintro e d ⟨⟨G,rfl,C,O⟩,a⟩;have a:=a.symm;subst a;go_wp2_with (first
   | (go_at_call 24;refine (FN _ j _).mono ?_;rintro e d ⟨⟨F,rfl,A,N⟩,a⟩;have a:=a.symm;subst a)
   | (go_at_call 44;refine (HW B _ c _ (World.ownsRow.alloc H.o _) n f).mono ?_;rintro e d ⟨⟨y,rfl,t⟩,a⟩;have a:=a.symm;subst a;have P:y.size≤5:=by (have:=D2 c;rw [←t] at this;simpa using this)))
  go_ret;refine ⟨⟨_,rfl,?_⟩,(by repeat (first | exact Ab.refl _ _ | refine Ab.drew ?_ | refine Ab.drewN ?_ _ | refine Ab.alloc ?_ _))⟩;simp [K3, *]
structure Ln where
 a0:Int
 a1:Int
 a2:Int
 a3:Int
 a4:Int
 a5:Int
def B6(a:Int):Prop:= -9223372036854775808≤a∧a≤9223372036854775807
structure Ln.Ok(l:Ln):Prop where
 k0:B6 l.a0
 k1:B6 l.a1
 k2:B6 l.a2
 k3:B6 l.a3
 k4:B6 l.a4
 k5:B6 l.a5
abbrev L5(l:Ln):Array Value:=#[.int .i64 l.a0,.int .i64 l.a1,.int .i64 l.a2,.int .i64 l.a3,.int .i64 l.a4,.int .i64 l.a5]
abbrev KT:Array Value:=#[.int .i64 0,.int .i64 0,.int .i64 0,.int .i64 0,.int .i64 0,.int .i64 0,.int .i64 0,.slice none 0 0]
def L9(l:Ln)(v:Value):Array Value:=#[.int .i64 (AL l.a0 4),.int .i64 (AL l.a1 10),.int .i64 (AL l.a2 4),.int .i64 (AL l.a3 4),.int .i64 (AL l.a4 4),.int .i64 (AL l.a4 4),.int .i64 0,v]
theorem F4(x:Int): -9223372036854775808≤IntKind.i64.wrap x∧IntKind.i64.wrap x≤9223372036854775807:=by rw [IntKind.wrap_i64];omega
theorem C4{s t u v y z:Int}{F G H I m x:Nat}{n b:Option Addr}{p o d c:Nat}{j:List Nat}{w wr W a:World}(l:Bk w.heap.size wr (.slice n p o) j)
 (A:Ar w.heap.size #[.int .i64 s,.int .i64 t,.int .i64 u,.int .i64 v,.int .i64 y,.int .i64 z] 44 wr)(B:Ar (w.heap.size+1) KT 39 wr)
 (C:Ar (w.heap.size+2) #[.int .i64 F,.int .i64 G,.int .i64 H,.int .i64 I,.int .i64 m,.int .i64 m,.int .i64 0,.slice n p o] 39 wr)(h:Ab (fun _=>False) w wr)(J:Ab (fun _=>False) wr W)
 (D:a.ownsRow w.heap.size 3 1 (.slice b d c) (j.length+1) (j.map (fun i:Nat=>Value.int .i64 (i:Int))++[.int .i64 x]))(K:W.grownBy a (Value.slice n p o).ownBlock):
 Bk w.heap.size (a.setCell ⟨w.heap.size+2,7,none⟩ (.slice b d c)) (.slice b d c) (j++[x])∧Ar w.heap.size #[.int .i64 s,.int .i64 t,.int .i64 u,.int .i64 v,.int .i64 y,.int .i64 z] 44 (a.setCell ⟨w.heap.size+2,7,none⟩ (.slice b d c))∧Ar (w.heap.size+1) KT 39 (a.setCell ⟨w.heap.size+2,7,none⟩ (.slice b d c))∧Ar (w.heap.size+2) #[.int .i64 F,.int .i64 G,.int .i64 H,.int .i64 I,.int .i64 m,.int .i64 m,.int .i64 0,.slice b d c] 39 (a.setCell ⟨w.heap.size+2,7,none⟩ (.slice b d c))∧Ab (fun _=>False) w (a.setCell ⟨w.heap.size+2,7,none⟩ (.slice b d c)):=by
 have e:Ab (fun k=>(Value.slice n p o).ownBlock=some k) wr a:=Ab.grown (J.mono (fun _ _ q=>q.elim)) K (fun k g=>.inl g);have E:Ar (w.heap.size+2) _ 39 a:=C.f8 e (fun q=>Ap l C (by decide) _ q rfl);have M:Ar (w.heap.size+1) _ 39 a:=B.f8 e (fun q=>Ap l B (by decide) _ q rfl);have L:Ar w.heap.size _ 44 a:=A.f8 e (fun q=>Ap l A (by decide) _ q rfl);have f:=(Ab.refl (fun k=>k=w.heap.size+2) a).p7 7 (.slice b d c);refine ⟨?_,L.f8 f (by omega),M.f8 f (by omega),?_,?_⟩
 ·have:=Ac D f (Ap D E (by decide));simpa [Bk] using this
 ·have:=E.set 7 (.slice b d c);simpa using this
 ·have r:=h.size;refine ⟨f.os.trans (e.os.trans h.os),f.tape.trans (e.tape.trans h.tape),f.output.trans (e.output.trans h.output),Nat.le_trans r (Nat.le_trans e.size f.size),fun k g _=>?_⟩;rw [f.block k (Nat.lt_of_lt_of_le g (Nat.le_trans r e.size)) (by omega),e.block k (Nat.lt_of_lt_of_le g r) (fun q=>by have:=(l.lt k q).1;omega)];exact h.block k g (fun q=>q)
theorem I3(l:Ln)(W:l.Ok)(w:World):
 Calls Tryz.prog 14 #[.agg (L5 l)] w fun e g=>∃(v:Value) (o:List Nat),e=.returned (.agg (L9 l v))∧Bk w.heap.size g v o∧o.length≤2∧(∀i∈o,i<4)∧Ab (fun _=>False) w g:=by
 obtain ⟨K,h0⟩:∃p,AL l.a0 4=p:=⟨_,rfl⟩;obtain ⟨m,h1⟩:∃p,AL l.a1 10=p:=⟨_,rfl⟩;obtain ⟨L,h2⟩:∃p,AL l.a2 4=p:=⟨_,rfl⟩;obtain ⟨M,h3⟩:∃p,AL l.a3 4=p:=⟨_,rfl⟩;obtain ⟨d,h4⟩:∃p,AL l.a4 4=p:=⟨_,rfl⟩;unfold L9;rw [h0,h1,h2,h3,h4];have b4:d<4:=by rw [←h4];exact A1 _ _ (by omega)
 have H0:=Aa h0;have H1:=Aa h1;have H2:=Aa h2;have H3:=Aa h3;have H4:=Aa h4;have HL:=Aa W;have k0:=W.k0;have k1:=W.k1;have k2:=W.k2;have k3:=W.k3;have k4:=W.k4;clear h0 h1 h2 h3 h4 W;obtain ⟨G,H,A,B,C,a5⟩:=l;simp only at*;go_enter Tryz.func14,Tryz.ntmps14;go_wp2;go_cut [3] (fun s wx=>s=.pointer (some ⟨w.heap.size+2,0,none⟩)∧Ar w.heap.size #[.int .i64 G,.int .i64 H,.int .i64 A,.int .i64 B,.int .i64 C,.int .i64 a5] 44 wx∧Ar (w.heap.size+1) KT 39 wx∧Ar (w.heap.size+2) #[.int .i64 K,.int .i64 m,.int .i64 L,.int .i64 M,.int .i64 d,.int .i64 d,.int .i64 0,.slice none 0 0] 39 wx∧Ab (fun _=>False) w wx)
 case first=>
  go_region_held3 (fun g=>g.cell? ⟨w.heap.size,0,none⟩=some (.int .i64 G)∧g.cell? ⟨w.heap.size,1,none⟩=some (.int .i64 H)∧g.cell? ⟨w.heap.size,2,none⟩=some (.int .i64 A)∧g.cell? ⟨w.heap.size,3,none⟩=some (.int .i64 B)∧g.cell? ⟨w.heap.size,4,none⟩=some (.int .i64 C)) (go_keep)
   (first | (go_at_call_of 13 (G);refine (A2 G 4 k0.1 k0.2 (by omega) (by omega) _).mono ?_;rw [H0.o];rintro e g ⟨rfl,a⟩;have a:=a.symm;subst a) | (go_at_call_of 13 (H);refine (A2 H 10 k1.1 k1.2 (by omega) (by omega) _).mono ?_;rw [H1.o];rintro e g ⟨rfl,a⟩;have a:=a.symm;subst a) | (go_at_call_of 13 (A);refine (A2 A 4 k2.1 k2.2 (by omega) (by omega) _).mono ?_;rw [H2.o];rintro e g ⟨rfl,a⟩;have a:=a.symm;subst a) | (go_at_call_of 13 (B);refine (A2 B 4 k3.1 k3.2 (by omega) (by omega) _).mono ?_;rw [H3.o];rintro e g ⟨rfl,a⟩;have a:=a.symm;subst a) | (go_at_call_of 13 (C);refine (A2 C 4 k4.1 k4.2 (by omega) (by omega) _).mono ?_;rw [H4.o];rintro e g ⟨rfl,a⟩;have a:=a.symm;subst a))
  all_goals
   go_wp2_with fail;go_meet
   case rel=>
    refine ⟨rfl,?_,?_,?_,(by repeat (first | exact Ab.refl _ _ | refine Ab.drew ?_ | refine Ab.drewN ?_ _ | refine Ab.alloc ?_ _))⟩
    ·exact Ar.f8 (X:=fun _=>False) (Ar.alloc (Ar.alloc (Ar.new w _ _) _) _) ((Ab.refl _ _).drew) (fun q=>q)
    ·have:=Ar.alloc (Ar.new (w.alloc (.cells #[.int .i64 G,.int .i64 H,.int .i64 A,.int .i64 B,.int .i64 C,.int .i64 a5] 44)) KT 39) (.cells #[.int .i64 K,.int .i64 m,.int .i64 L,.int .i64 M,.int .i64 d,.int .i64 d,.int .i64 0,.slice none 0 0] 39);simp only [World.size_alloc] at this;exact this.f8 ((Ab.refl (fun _=>False) _).drew) (fun q=>q)
    ·have:=Ar.new ((w.alloc (.cells #[.int .i64 G,.int .i64 H,.int .i64 A,.int .i64 B,.int .i64 C,.int .i64 a5] 44)).alloc (.cells KT 39)) #[.int .i64 K,.int .i64 m,.int .i64 L,.int .i64 M,.int .i64 d,.int .i64 d,.int .i64 0,.slice none 0 0] 39;simp only [World.size_alloc] at this;exact this.f8 ((Ab.refl (fun _=>False) _).drew) (fun q=>q)
 case rest=>
  obtain ⟨rfl,b0,b,c,ho⟩:=hcut;have I:=Ae b0;have l1:=Ae b;have J:=Ae c;have c4:=b0.cell 4;have d1:=c.cell 1;have d4:=c.cell 4;simp only [aU,aS,aT] at c4 d1 d4;have r:=Aa b0;have t:=Aa b;have f:=Aa c;have z:=Aa ho;clear b0 b c ho;by_cases b6:m=7∨m=8
  ·obtain ⟨n,c8,hn⟩:∃n:Nat,n≤2∧n=(if m=8 then AL C 3 else d % 3):=⟨_,by split;have:=A1 C 3 (by omega);omega;omega,rfl⟩;have HN:=Aa hn;clear hn;obtain ⟨i0,hi,b7,b8,b9⟩:=info_parts Tryz.infoInt;by_cases e8:m=8
   ·have f8:((m:Int)==8)=true:=by simp [e8]
    have f7:((m:Int)==7)=false:=by simp [e8]
    have a7:AL C 3=n:=by rw [HN.o];simp [e8]
    have b1:=Aa a7;clear a7 HN e8 b6;go_wp2_with (first | (go_at_call 27;refine (BP d b4 _).mono ?_;rintro e g ⟨rfl,a⟩;have a:=a.symm;subst a) | (go_at_call 13;refine (A2 C 3 k4.1 k4.2 (by omega) (by omega) _).mono ?_;rw [b1.o];rintro e g ⟨rfl,a⟩;have a:=a.symm;subst a));go_loopw [5] (fun i wr=>∃(k:Nat) (v:Value) (o:List Nat),i=.int .i64 k∧k≤n∧o.length=k∧(∀j∈o,j<4)∧dJ (Bk w.heap.size wr v o)∧dJ (Ar w.heap.size #[.int .i64 G,.int .i64 H,.int .i64 A,.int .i64 B,.int .i64 C,.int .i64 a5] 44 wr)∧dJ (Ar (w.heap.size+1) KT 39 wr)∧dJ (Ar (w.heap.size+2) #[.int .i64 K,.int .i64 m,.int .i64 L,.int .i64 M,.int .i64 d,.int .i64 d,.int .i64 0,v] 39 wr)∧dJ (Ab (fun _=>False) w wr)) (fun i _=>n-(intOf i).toNat)
    case atStart=>exact ⟨0,.slice none 0 0,[],rfl,by omega,rfl,by simp,World.ownsRow_nil _ _ _ _,r,t,f,z⟩
    case round=>
     clear r t f z I l1 J c4 d1 d4;obtain ⟨k,v,o,rfl,hk,c0,a6,y,r,t,f,z⟩:=hrel;have I:=Ae r.o;have l1:=Ae t.o;have J:=Ae f.o;obtain ⟨Z,vl,vc,rfl⟩:=Ad y.o;by_cases c5:k<n
     ·have c2:=r.o.cell 2;have c3:=r.o.cell 3;have d7:=f.o.cell 7;have df:=f.o.frozen 7;simp only [aU,aS,aT] at c2 c3 d7;obtain ⟨x,Y⟩:∃x,AL (IntKind.i64.wrap (IntKind.i64.wrap (A+↑k)+B)) 4=x:=⟨_,rfl⟩;have c7:x<4:=by rw [←Y];exact A1 _ _ (by omega)
      have HX:=Aa Y;have N2:=Aa (Ap y.o f.o (by decide));have N0:=Aa (Ap y.o r.o (by decide));have a9:=y.o;unfold Bk at a9;have c1:w.heap.size≤wr.heap.size:=z.o.size;clear Y;go_wp2;go_region_law (first | (refine Ay rfl _ _ 37 rfl w.heap.size 3 i0 (.int .i64 0) 1 8 Tryz.underlying37 hi b7 b8 b9 rfl (by decide) _ _ _ rfl (World.ownsRow.alloc (w:=wr.drew) a9 _) ⟨wr.heap.size,0,none⟩ 1 1 [.int .i64 x] rfl rfl (AN rfl _ _) (fun u hu=>by simp at hu;subst hu;rfl) (by decide) (by unfold maxLen;omega) (by omega) (by simp;omega) ?_;intro v' F a8 D c6;have q7:F.cell? ⟨w.heap.size+2,7,none⟩=some (.slice Z vl vc):=(World.cell?_of_block (D.block (w.heap.size+2) (by simp;omega) (fun h=>N2.o _ h.symm rfl))).trans (by rw [←d7];exact World.cell?_of_block (Below.heap_alloc _ _ _ J));have q2:F.cell? ⟨w.heap.size,2,none⟩=some (.int .i64 A):=(World.cell?_of_block (D.block w.heap.size (by simp;omega) (fun h=>N0.o _ h.symm rfl))).trans (by rw [←c2];exact World.cell?_of_block (Below.heap_alloc _ _ _ I));have q3:F.cell? ⟨w.heap.size,3,none⟩=some (.int .i64 B):=(World.cell?_of_block (D.block w.heap.size (by simp;omega) (fun h=>N0.o _ h.symm rfl))).trans (by rw [←c3];exact World.cell?_of_block (Below.heap_alloc _ _ _ I));have qf:F.frozen? ⟨w.heap.size+2,7,none⟩=false:=(World.frozen?_of_block (D.block (w.heap.size+2) (by simp;omega) (fun h=>N2.o _ h.symm rfl))).trans (by rw [←df];exact World.frozen?_of_block (Below.heap_alloc _ _ _ J));obtain ⟨b2,b5,b3,rfl⟩:=Ad a8) | (go_simp;go_at_call 13;refine (A2 _ 4 (F4 _).1 (F4 _).2 (by omega) (by omega) _).mono ?_;rw [HX.o];rintro e g ⟨rfl,a⟩;have a:=a.symm;subst a;dsimp only));all_goals
       go_wp2_with fail;go_roundw
       case rel=> obtain ⟨g1,g2,g3,g4,g5⟩:=C4 y.o r.o t.o f.o z.o (((Ab.refl _ _).alloc _).drew) a8 D;exact ⟨k+1,.slice b2 b5 b3,o++[x],by go_num,by omega,by simp;omega,by simp;intro j E;rcases E with E | E;exact a6 j E;omega,g1,g2,g3,g4,g5⟩
       case measure=>simp [intOf];omega
     ·have e:k=n:=by omega
      subst e;have HR:=y.o;have b:=t.o;have c:=f.o;have m0:=c.cell 0;have m1:=c.cell 1;have m2:=c.cell 2;have m3:=c.cell 3;have m4:=c.cell 4;have m5:=c.cell 5;have m6:=c.cell 6;have m7:=c.cell 7;have N:=b.cell 0;have O:=b.cell 1;have P:=b.cell 2;have Q:=b.cell 3;have S:=b.cell 4;have T:=b.cell 5;have U:=b.cell 6;have V:=b.cell 7;have rf:=b.frozen;simp only [aU,aS,aT] at m0 m1 m2 m3 m4 m5 m6 m7 N O P Q S T U V;clear b c;go_wp2;refine bodyPost_ret (v:=.agg #[.int .i64 K,.int .i64 m,.int .i64 L,.int .i64 M,.int .i64 d,.int .i64 d,.int .i64 0,.slice Z vl vc]) (by simp [results,Tryz.results14,go_sem,N,O,P,Q,S,T,U,V]) rfl ⟨.slice Z vl vc,o,rfl,?_,by omega,a6,?_⟩
      ·refine Ac (X:=fun k=>k=w.heap.size+1) HR ?_ (Ap HR t.o (by decide));iterate 8 refine Ab.p7 ?_ _ _
       exact Ab.refl _ _
      ·iterate 8 refine Ab.Yc ?_ _ _ (by omega)
       exact z.o
   ·have f8:((m:Int)==8)=false:=by simp;omega
    have f7:((m:Int)==7)=true:=by simp;omega
    have a7:d % 3=n:=by rw [HN.o];simp [e8]
    have b1:=Aa a7;clear a7 HN e8 b6;go_wp2_with (first | (go_at_call 27;refine (BP d b4 _).mono ?_;rw [b1.o];rintro e g ⟨rfl,a⟩;have a:=a.symm;subst a));go_loopw [5] (fun i wr=>∃(k:Nat) (v:Value) (o:List Nat),i=.int .i64 k∧k≤n∧o.length=k∧(∀j∈o,j<4)∧dJ (Bk w.heap.size wr v o)∧dJ (Ar w.heap.size #[.int .i64 G,.int .i64 H,.int .i64 A,.int .i64 B,.int .i64 C,.int .i64 a5] 44 wr)∧dJ (Ar (w.heap.size+1) KT 39 wr)∧dJ (Ar (w.heap.size+2) #[.int .i64 K,.int .i64 m,.int .i64 L,.int .i64 M,.int .i64 d,.int .i64 d,.int .i64 0,v] 39 wr)∧dJ (Ab (fun _=>False) w wr)) (fun i _=>n-(intOf i).toNat)
    case atStart=>exact ⟨0,.slice none 0 0,[],rfl,by omega,rfl,by simp,World.ownsRow_nil _ _ _ _,r,t,f,z⟩
    case round=>
     clear r t f z I l1 J c4 d1 d4;obtain ⟨k,v,o,rfl,hk,c0,a6,y,r,t,f,z⟩:=hrel;have I:=Ae r.o;have l1:=Ae t.o;have J:=Ae f.o;obtain ⟨Z,vl,vc,rfl⟩:=Ad y.o;by_cases c5:k<n
     ·have c2:=r.o.cell 2;have c3:=r.o.cell 3;have d7:=f.o.cell 7;have df:=f.o.frozen 7;simp only [aU,aS,aT] at c2 c3 d7;obtain ⟨x,Y⟩:∃x,AL (IntKind.i64.wrap (IntKind.i64.wrap (A+↑k)+B)) 4=x:=⟨_,rfl⟩;have c7:x<4:=by rw [←Y];exact A1 _ _ (by omega)
      have HX:=Aa Y;have N2:=Aa (Ap y.o f.o (by decide));have N0:=Aa (Ap y.o r.o (by decide));have a9:=y.o;unfold Bk at a9;have c1:w.heap.size≤wr.heap.size:=z.o.size;clear Y;go_wp2;go_region_law (first | (refine Ay rfl _ _ 37 rfl w.heap.size 3 i0 (.int .i64 0) 1 8 Tryz.underlying37 hi b7 b8 b9 rfl (by decide) _ _ _ rfl (World.ownsRow.alloc (w:=wr.drew) a9 _) ⟨wr.heap.size,0,none⟩ 1 1 [.int .i64 x] rfl rfl (AN rfl _ _) (fun u hu=>by simp at hu;subst hu;rfl) (by decide) (by unfold maxLen;omega) (by omega) (by simp;omega) ?_;intro v' F a8 D c6;have q7:F.cell? ⟨w.heap.size+2,7,none⟩=some (.slice Z vl vc):=(World.cell?_of_block (D.block (w.heap.size+2) (by simp;omega) (fun h=>N2.o _ h.symm rfl))).trans (by rw [←d7];exact World.cell?_of_block (Below.heap_alloc _ _ _ J));have q2:F.cell? ⟨w.heap.size,2,none⟩=some (.int .i64 A):=(World.cell?_of_block (D.block w.heap.size (by simp;omega) (fun h=>N0.o _ h.symm rfl))).trans (by rw [←c2];exact World.cell?_of_block (Below.heap_alloc _ _ _ I));have q3:F.cell? ⟨w.heap.size,3,none⟩=some (.int .i64 B):=(World.cell?_of_block (D.block w.heap.size (by simp;omega) (fun h=>N0.o _ h.symm rfl))).trans (by rw [←c3];exact World.cell?_of_block (Below.heap_alloc _ _ _ I));have qf:F.frozen? ⟨w.heap.size+2,7,none⟩=false:=(World.frozen?_of_block (D.block (w.heap.size+2) (by simp;omega) (fun h=>N2.o _ h.symm rfl))).trans (by rw [←df];exact World.frozen?_of_block (Below.heap_alloc _ _ _ J));obtain ⟨b2,b5,b3,rfl⟩:=Ad a8) | (go_simp;go_at_call 13;refine (A2 _ 4 (F4 _).1 (F4 _).2 (by omega) (by omega) _).mono ?_;rw [HX.o];rintro e g ⟨rfl,a⟩;have a:=a.symm;subst a;dsimp only));all_goals
       go_wp2_with fail;go_roundw
       case rel=> obtain ⟨g1,g2,g3,g4,g5⟩:=C4 y.o r.o t.o f.o z.o (((Ab.refl _ _).alloc _).drew) a8 D;exact ⟨k+1,.slice b2 b5 b3,o++[x],by go_num,by omega,by simp;omega,by simp;intro j E;rcases E with E | E;exact a6 j E;omega,g1,g2,g3,g4,g5⟩
       case measure=>simp [intOf];omega
     ·have e:k=n:=by omega
      subst e;have HR:=y.o;have b:=t.o;have c:=f.o;have m0:=c.cell 0;have m1:=c.cell 1;have m2:=c.cell 2;have m3:=c.cell 3;have m4:=c.cell 4;have m5:=c.cell 5;have m6:=c.cell 6;have m7:=c.cell 7;have N:=b.cell 0;have O:=b.cell 1;have P:=b.cell 2;have Q:=b.cell 3;have S:=b.cell 4;have T:=b.cell 5;have U:=b.cell 6;have V:=b.cell 7;have rf:=b.frozen;simp only [aU,aS,aT] at m0 m1 m2 m3 m4 m5 m6 m7 N O P Q S T U V;clear b c;go_wp2;refine bodyPost_ret (v:=.agg #[.int .i64 K,.int .i64 m,.int .i64 L,.int .i64 M,.int .i64 d,.int .i64 d,.int .i64 0,.slice Z vl vc]) (by simp [results,Tryz.results14,go_sem,N,O,P,Q,S,T,U,V]) rfl ⟨.slice Z vl vc,o,rfl,?_,by omega,a6,?_⟩
      ·refine Ac (X:=fun k=>k=w.heap.size+1) HR ?_ (Ap HR t.o (by decide));iterate 8 refine Ab.p7 ?_ _ _
       exact Ab.refl _ _
      ·iterate 8 refine Ab.Yc ?_ _ _ (by omega)
       exact z.o
  ·have f7:((m:Int)==7)=false:=by simp;omega
   have f8:((m:Int)==8)=false:=by simp;omega
   have b:=t.o;have c:=f.o;have m0:=c.cell 0;have m1:=c.cell 1;have m2:=c.cell 2;have m3:=c.cell 3;have m4:=c.cell 4;have m5:=c.cell 5;have m6:=c.cell 6;have m7:=c.cell 7;have N:=b.cell 0;have O:=b.cell 1;have P:=b.cell 2;have Q:=b.cell 3;have S:=b.cell 4;have T:=b.cell 5;have U:=b.cell 6;have V:=b.cell 7;have rf:=b.frozen;simp only [aU,aS,aT] at m0 m1 m2 m3 m4 m5 m6 m7 N O P Q S T U V;clear b c;go_wp2_with (first | (go_at_call 27;refine (BP d b4 _).mono ?_;rintro e g ⟨rfl,a⟩;have a:=a.symm;subst a));have R:wc.ownsRow w.heap.size 3 1 (.slice none 0 0) 0 []:=World.ownsRow_nil _ _ _ _;refine bodyPost_ret (v:=.agg #[.int .i64 K,.int .i64 m,.int .i64 L,.int .i64 M,.int .i64 d,.int .i64 d,.int .i64 0,.slice none 0 0]) (by simp [results,Tryz.results14,go_sem,N,O,P,Q,S,T,U,V]) rfl ⟨.slice none 0 0,[],rfl,?_,by simp,by simp,?_⟩
   ·refine Ac (X:=fun k=>k=w.heap.size+1) R ?_ (Ap R t.o (by decide));iterate 8 refine Ab.p7 ?_ _ _
    exact Ab.refl _ _
   ·iterate 8 refine Ab.Yc ?_ _ _ (by omega)
    exact z.o
end Go.Proofs.YtegmjgjkcdbmkaaGreatDoor

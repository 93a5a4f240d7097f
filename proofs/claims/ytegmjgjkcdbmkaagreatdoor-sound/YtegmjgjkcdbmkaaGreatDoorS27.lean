/- One of the texts of the proof: KpA KpB KpC KpD. -/
import Derived.Test.YtegmjgjkcdbmkaaGreatDoorS28
set_option maxRecDepth 100000
set_option maxHeartbeats 2000000
namespace Go.Proofs.YtegmjgjkcdbmkaaGreatDoor
open Go.RowKit
def AK(c:Int)(n:Nat):Nat:=(if c<0 then (-(c+1)) % n else c % n).toNat
theorem Bz(c:Int)(n:Nat)(a:0<n):AK c n<n:=by
 unfold AK;split
 ·have:=Int.emod_lt_of_pos (-(c+1)) (by omega:(0:Int)<n);have:=Int.emod_nonneg (-(c+1)) (by omega:(n:Int)≠0);omega
 ·have:=Int.emod_lt_of_pos c (by omega:(0:Int)<n);have:=Int.emod_nonneg c (by omega:(n:Int)≠0);omega
theorem NP{k:IntKind}{a b:Int}(h:a=b):Ending.returned (.int k a)=.returned (.int k b):=by rw [h]
theorem Dr(c:Int)(n:Nat)(h: -9223372036854775808≤c)(i:c≤9223372036854775807)(j:0<n)(k:n≤100000)(w:World):
 Calls Tryz.prog 13 #[.int .i64 c,.int .i64 n] w fun e g=>e=.returned (.int .i64 (AK c n))∧g=w:=by
 generalize b:AK c n=v;have a:=Aa b;clear b;by_cases d:c<0
 ·have f:0≤ -(c+1):=by omega
  go_enter Tryz.func13,Tryz.ntmps13;go_wp2;go_ret;refine ⟨NP ?_,rfl⟩;rw [←a.o];have:=Int.emod_nonneg (-(c+1)) (by omega:(n:Int)≠0);simp only [AK,if_pos d];rw [←Int.neg_tmod,Int.tmod_eq_emod_of_nonneg f,Int.toNat_of_nonneg this]
 ·go_enter Tryz.func13,Tryz.ntmps13;go_wp2;go_ret;refine ⟨NP ?_,rfl⟩;rw [←a.o];have:=Int.emod_nonneg c (by omega:(n:Int)≠0);simp only [AK];rw [if_neg (by omega),Int.toNat_of_nonneg this]
theorem Ei(v:Nat)(b:v<4)(w:World):
 Calls Tryz.prog 28 #[.int .i64 v] w fun e a=>(∃s:ByteArray,e=.returned (.string s)∧s.data.toList=Cx v∧s.size=1)∧a=w:=by
 have h:v=0∨v=1∨v=2∨v=3:=by omega
 rcases h with rfl | rfl | rfl | rfl
 all_goals
  go_enter Tryz.func28,Tryz.ntmps28;go_wp2;go_ret;exact ⟨⟨_,rfl,by decide+kernel,by decide+kernel⟩,rfl⟩
theorem I4(v:Nat)(b:v<4)(w:World):
 Calls Tryz.prog 26 #[.int .i64 v] w fun e a=>(∃s:ByteArray,e=.returned (.string s)∧s.data.toList=II v∧s.size≤4)∧a=w:=by
 have h:v=0∨v=1∨v=2∨v=3:=by omega
 rcases h with rfl | rfl | rfl | rfl
 all_goals
  go_enter Tryz.func26,Tryz.ntmps26;go_wp2;go_ret;exact ⟨⟨_,rfl,by decide+kernel,by decide+kernel⟩,rfl⟩
theorem PF(v:Nat)(b:v<4)(w:World):
 Calls Tryz.prog 24 #[.int .i64 v] w fun e a=>(∃s:ByteArray,e=.returned (.string s)∧s.data.toList=PD v∧s.size=1)∧a=w:=by
 have h:v=0∨v=1∨v=2∨v=3:=by omega
 rcases h with rfl | rfl | rfl | rfl
 all_goals
  go_enter Tryz.func24,Tryz.ntmps24;go_wp2;go_ret;exact ⟨⟨_,rfl,by decide+kernel,by decide+kernel⟩,rfl⟩
theorem Eh(v:Nat)(b:v<4)(w:World):
 Calls Tryz.prog 27 #[.int .i64 v] w fun e a=>e=.returned (.int .i64 (v % 3:Nat))∧a=w:=by
 have h:v=0∨v=1∨v=2∨v=3:=by omega
 rcases h with rfl | rfl | rfl | rfl
 all_goals
  go_enter Tryz.func27,Tryz.ntmps27;go_wp2;go_ret;exact ⟨rfl,rfl⟩
theorem Pa(t:ByteArray)(b:Int)(k:t.size≤100)(g: -9223372036854775808≤b)(i:b≤9223372036854775807)(w:World):
 Calls Tryz.prog 29 #[.string t,.int .i64 b] w fun e d=>(∃s:ByteArray,e=.returned (.string s)∧s.data.toList=Ua (AK b 5) t.data.toList)∧d=w:=by
 have j:=Bz b 5 (by omega);generalize c:AK b 5=v at*;have f:=Aa c;clear c;have h:v=0∨v=1∨v=2∨v=3∨v=4:=by omega
 rcases h with rfl | rfl | rfl | rfl | rfl
 all_goals
  go_enter Tryz.func29,Tryz.ntmps29;go_wp2_with (go_at_call 13;refine (Dr b 5 g i (by omega) (by omega) _).mono ?_;rw [f.o];rintro e d ⟨rfl,a⟩;have a:=a.symm;subst a);go_ret;exact ⟨⟨_,rfl,by simp [Ua]⟩,rfl⟩
def BT(B:Nat)(w:World)(v:Value)(l:List Nat):Prop:=w.ownsRow B 3 1 v l.length (l.map fun i:Nat=>Value.int .i64 (i:Int))
def Oo:List Nat→Nat→List UInt8
 | _,0=>[40]
 | l,k+1=>Oo l k++(if 0<k then [32] else [])++Cx (l[k]?.getD 0)
theorem Vt(l:List Nat)(h:l.length≤2):Oo l l.length++[41]=JN l:=by
 rcases l with _ | ⟨a,_ | ⟨b,_ | ⟨c,t⟩⟩⟩
 ·rfl
 ·simp [Oo,JN]
 ·simp [Oo,JN]
 ·simp at h
theorem SP(B:Nat)(v:Value)(l:List Nat)(w:World)(h:BT B w v l)(p:l.length≤2)(m:∀i∈l,i<4):
 Calls Tryz.prog 44 #[v] w fun e f=>(∃s:ByteArray,e=.returned (.string s)∧s.data.toList=JN l)∧f=w:=by
 obtain ⟨D,F,E,rfl⟩:=Ad h;have r:=Aq h;subst r;have x:ByteArray.size {data:=#[32]}=1:=rfl;go_enter Tryz.func44,Tryz.ntmps44;go_wp2;go_loop [3,4] (fun t i=>∃(k:Nat) (s:ByteArray),k≤l.length∧i=.int .i64 k∧t=.string s∧s.data.toList=Oo l k∧s.size≤1+2*k) (fun _ i=>l.length-(intOf i).toNat)
 case atStart=>exact ⟨0,{data:=#[40]},by omega,rfl,rfl,rfl,by decide⟩
 case round=>
  obtain ⟨k,s,z,rfl,rfl,d,A⟩:=hrel;by_cases b:k<l.length
  ·obtain ⟨g,rfl⟩:=AA h (by omega);have y:w.cell? ⟨g,k,none⟩=some (.int .i64 (l[k]:Nat)):=by have:=h.cellAt (k*1) (by omega);rw [Nat.mul_one] at this;rw [this];simp [b]
   have n:=m l[k] (rQ _);have c:Oo l (k+1)=Oo l k++(if 0<k then [32] else [])++Cx l[k]:=by simp [Oo,b]
   have j:=Aa c;clear c;by_cases o:0<k;all_goals
    go_wp2_with (go_at_call 28;refine (Ei _ n _).mono ?_;rintro e f ⟨⟨u,rfl,q,C⟩,a⟩;have a:=a.symm;subst a);go_round
    case rel=>exact ⟨k+1,_,by omega,by go_num,rfl,by rw [j.o];simp [d,q,o],by simp;omega⟩
    case measure=>simp [intOf];omega
  ·have e:k=l.length:=by omega
   subst e;go_wp2;go_ret;exact ⟨⟨_,rfl,by rw [←Vt l p];simp [d]⟩,rfl⟩
theorem Wb(B:Nat)(v:Value)(u x:Int)(b p q g k:Nat)(c:List Nat)(w:World)(h:BT B w v c)(n:c.length≤2)(f:∀i∈c,i<4)(z:b<10)(o:p<4)(r:q<4)(l:g<4)(j:k<4):
 Calls Tryz.prog 30 #[.agg #[.int .i64 u,.int .i64 b,.int .i64 p,.int .i64 q,.int .i64 g,.int .i64 k,.int .i64 x,v]] w fun e d=>(∃s:ByteArray,e=.returned (.string s)∧s.data.toList=V4 b p q g k c)∧Ab (fun _=>False) w d:=by
 obtain ⟨K,M,L,rfl⟩:=Ad h;have H:=Aa h;clear h;have m:b=0∨b=1∨b=2∨b=3∨b=4∨b=5∨b=6∨b=7∨b=8∨b=9:=by omega
 rcases m with rfl | rfl | rfl | rfl | rfl | rfl | rfl | rfl | rfl | rfl
 all_goals
  go_enter Tryz.func30,Tryz.ntmps30;go_wp2_with fail;refine (Ei _ o _).mono ?_;rintro e d ⟨⟨I,rfl,D,Q⟩,a⟩;have a:=a.symm;subst a;go_wp2_with fail;refine (Ei _ r _).mono ?_;rintro e d ⟨⟨J,rfl,E,R⟩,a⟩;have a:=a.symm;subst a;go_wp2_with fail;refine (I4 _ l _).mono ?_;rintro e d ⟨⟨G,rfl,C,O⟩,a⟩;have a:=a.symm;subst a;go_wp2_with (first
   | (go_at_call 24;refine (PF _ j _).mono ?_;rintro e d ⟨⟨F,rfl,A,N⟩,a⟩;have a:=a.symm;subst a)
   | (go_at_call 44;refine (SP B _ c _ (World.ownsRow.alloc H.o _) n f).mono ?_;rintro e d ⟨⟨y,rfl,t⟩,a⟩;have a:=a.symm;subst a;have P:y.size≤5:=by (have:=Nj c;rw [←t] at this;simpa using this)))
  go_ret;refine ⟨⟨_,rfl,?_⟩,(by repeat (first | exact Ab.refl _ _ | refine Ab.drew ?_ | refine Ab.drewN ?_ _ | refine Ab.alloc ?_ _))⟩;simp [V4, *]
structure Ln where
 a0:Int
 a1:Int
 a2:Int
 a3:Int
 a4:Int
 a5:Int
def GO(a:Int):Prop:= -9223372036854775808≤a∧a≤9223372036854775807
structure Ln.Ok(l:Ln):Prop where
 k0:GO l.a0
 k1:GO l.a1
 k2:GO l.a2
 k3:GO l.a3
 k4:GO l.a4
 k5:GO l.a5
abbrev Zt(l:Ln):Array Value:=#[.int .i64 l.a0,.int .i64 l.a1,.int .i64 l.a2,.int .i64 l.a3,.int .i64 l.a4,.int .i64 l.a5]
abbrev Xs:Array Value:=#[.int .i64 0,.int .i64 0,.int .i64 0,.int .i64 0,.int .i64 0,.int .i64 0,.int .i64 0,.slice none 0 0]
def Z8(l:Ln)(v:Value):Array Value:=#[.int .i64 (AK l.a0 4),.int .i64 (AK l.a1 10),.int .i64 (AK l.a2 4),.int .i64 (AK l.a3 4),.int .i64 (AK l.a4 4),.int .i64 (AK l.a4 4),.int .i64 0,v]
def Hr(a b:Int)(k:Nat):List Nat:=(List.range k).map fun i:Nat=>AK (IntKind.i64.wrap (IntKind.i64.wrap (a+(i:Int))+b)) 4
theorem LK(a b:Int)(k:Nat):Hr a b (k+1)=Hr a b k++[AK (IntKind.i64.wrap (IntKind.i64.wrap (a+(k:Int))+b)) 4]:=by unfold Hr;rw [List.range_succ,List.map_append];rfl
theorem Ki(a b:Int)(k:Nat):(Hr a b k).length=k:=by simp [Hr]
theorem QT(b c:Int)(k:Nat):∀a,a∈Hr b c k→a<4:=fun a d=>by obtain ⟨i,_,rfl⟩:=List.mem_map.1 d;exact Bz _ _ (by omega)
def Fa(l:Ln):List Nat:=if AK l.a1 10=8 then Hr l.a2 l.a3 (AK l.a4 3) else if AK l.a1 10=7 then Hr l.a2 l.a3 (AK l.a4 4 % 3) else []
theorem LY(l:Ln):(Fa l).length≤2:=by
 unfold Fa;have:=Bz l.a4 3 (by omega);split
 ·rw [Ki];omega
 ·split
  ·rw [Ki];omega
  ·exact rR _
theorem NZ(l:Ln):∀a,a∈Fa l→a<4:=by
 unfold Fa;split
 ·exact QT _ _ _
 ·split
  ·exact QT _ _ _
  ·intro a b;cases b
theorem RR(x:Int): -9223372036854775808≤IntKind.i64.wrap x∧IntKind.i64.wrap x≤9223372036854775807:=by rw [IntKind.wrap_i64];omega
theorem LZ{s t u v y z:Int}{F G H I m x:Nat}{n b:Option Addr}{p o d c:Nat}{j:List Nat}{w wr W a:World}(l:BT w.heap.size wr (.slice n p o) j)
 (A:Ak w.heap.size #[.int .i64 s,.int .i64 t,.int .i64 u,.int .i64 v,.int .i64 y,.int .i64 z] 44 wr)(B:Ak (w.heap.size+1) Xs 39 wr)
 (C:Ak (w.heap.size+2) #[.int .i64 F,.int .i64 G,.int .i64 H,.int .i64 I,.int .i64 m,.int .i64 m,.int .i64 0,.slice n p o] 39 wr)(h:Ab (fun _=>False) w wr)(J:Ab (fun _=>False) wr W)
 (D:a.ownsRow w.heap.size 3 1 (.slice b d c) (j.length+1) (j.map (fun i:Nat=>Value.int .i64 (i:Int))++[.int .i64 x]))(K:W.grownBy a (Value.slice n p o).ownBlock):
 BT w.heap.size (a.setCell ⟨w.heap.size+2,7,none⟩ (.slice b d c)) (.slice b d c) (j++[x])∧Ak w.heap.size #[.int .i64 s,.int .i64 t,.int .i64 u,.int .i64 v,.int .i64 y,.int .i64 z] 44 (a.setCell ⟨w.heap.size+2,7,none⟩ (.slice b d c))∧Ak (w.heap.size+1) Xs 39 (a.setCell ⟨w.heap.size+2,7,none⟩ (.slice b d c))∧Ak (w.heap.size+2) #[.int .i64 F,.int .i64 G,.int .i64 H,.int .i64 I,.int .i64 m,.int .i64 m,.int .i64 0,.slice b d c] 39 (a.setCell ⟨w.heap.size+2,7,none⟩ (.slice b d c))∧Ab (fun _=>False) w (a.setCell ⟨w.heap.size+2,7,none⟩ (.slice b d c)):=by
 have e:Ab (fun k=>(Value.slice n p o).ownBlock=some k) wr a:=Ab.grown (J.mono (fun _ _ q=>q.elim)) K (fun k g=>.inl g);have E:Ak (w.heap.size+2) _ 39 a:=C.O e (fun q=>Aj l C (by decide) _ q rfl);have M:Ak (w.heap.size+1) _ 39 a:=B.O e (fun q=>Aj l B (by decide) _ q rfl);have L:Ak w.heap.size _ 44 a:=A.O e (fun q=>Aj l A (by decide) _ q rfl);have f:=(Ab.refl (fun k=>k=w.heap.size+2) a).d8 7 (.slice b d c);refine ⟨?_,L.O f (by omega),M.O f (by omega),?_,?_⟩
 ·have:=Ac D f (Aj D E (by decide));simpa [BT] using this
 ·have:=E.set 7 (.slice b d c);simpa using this
 ·have r:=h.size;refine ⟨f.os.trans (e.os.trans h.os),f.tape.trans (e.tape.trans h.tape),f.output.trans (e.output.trans h.output),rO r (rO e.size f.size),fun k g _=>?_⟩;rw [f.block k (rP g (rO r e.size)) (by omega),e.block k (rP g r) (fun q=>by have:=(l.lt k q).1;omega)];exact h.block k g (fun q=>q)
theorem PW(l:Ln)(Y:l.Ok)(w:World):
 Calls Tryz.prog 14 #[.agg (Zt l)] w fun e j=>∃(v:Value),e=.returned (.agg (Z8 l v))∧BT w.heap.size j v (Fa l)∧Ab (fun _=>False) w j:=by
 obtain ⟨M,hM⟩:∃M,Fa l=M:=⟨_,rfl⟩;rw [hM];have HM:=Aa hM;clear hM;obtain ⟨J,h0⟩:∃p,AK l.a0 4=p:=⟨_,rfl⟩;obtain ⟨f,h1⟩:∃p,AK l.a1 10=p:=⟨_,rfl⟩;obtain ⟨K,h2⟩:∃p,AK l.a2 4=p:=⟨_,rfl⟩;obtain ⟨L,h3⟩:∃p,AK l.a3 4=p:=⟨_,rfl⟩;obtain ⟨d,h4⟩:∃p,AK l.a4 4=p:=⟨_,rfl⟩;unfold Z8;rw [h0,h1,h2,h3,h4];have b4:d<4:=by rw [←h4];exact Bz _ _ (by omega)
 have H0:=Aa h0;have H1:=Aa h1;have H2:=Aa h2;have H3:=Aa h3;have H4:=Aa h4;have HL:=Aa Y;have k0:=Y.k0;have k1:=Y.k1;have k2:=Y.k2;have k3:=Y.k3;have k4:=Y.k4;clear h0 h1 h2 h3 h4 Y;obtain ⟨E,F,m,o,B,a5⟩:=l;simp only at*;go_enter Tryz.func14,Tryz.ntmps14;go_wp2;go_cut [3] (fun s wx=>s=.pointer (some ⟨w.heap.size+2,0,none⟩)∧Ak w.heap.size #[.int .i64 E,.int .i64 F,.int .i64 m,.int .i64 o,.int .i64 B,.int .i64 a5] 44 wx∧Ak (w.heap.size+1) Xs 39 wx∧Ak (w.heap.size+2) #[.int .i64 J,.int .i64 f,.int .i64 K,.int .i64 L,.int .i64 d,.int .i64 d,.int .i64 0,.slice none 0 0] 39 wx∧Ab (fun _=>False) w wx)
 case first=>
  go_region_held3 (fun j=>j.cell? ⟨w.heap.size,0,none⟩=some (.int .i64 E)∧j.cell? ⟨w.heap.size,1,none⟩=some (.int .i64 F)∧j.cell? ⟨w.heap.size,2,none⟩=some (.int .i64 m)∧j.cell? ⟨w.heap.size,3,none⟩=some (.int .i64 o)∧j.cell? ⟨w.heap.size,4,none⟩=some (.int .i64 B)) (go_keep)
   (first | (go_at_call_of 13 (E);refine (Dr E 4 k0.1 k0.2 (by omega) (by omega) _).mono ?_;rw [H0.o];rintro e j ⟨rfl,a⟩;have a:=a.symm;subst a) | (go_at_call_of 13 (F);refine (Dr F 10 k1.1 k1.2 (by omega) (by omega) _).mono ?_;rw [H1.o];rintro e j ⟨rfl,a⟩;have a:=a.symm;subst a) | (go_at_call_of 13 (m);refine (Dr m 4 k2.1 k2.2 (by omega) (by omega) _).mono ?_;rw [H2.o];rintro e j ⟨rfl,a⟩;have a:=a.symm;subst a) | (go_at_call_of 13 (o);refine (Dr o 4 k3.1 k3.2 (by omega) (by omega) _).mono ?_;rw [H3.o];rintro e j ⟨rfl,a⟩;have a:=a.symm;subst a) | (go_at_call_of 13 (B);refine (Dr B 4 k4.1 k4.2 (by omega) (by omega) _).mono ?_;rw [H4.o];rintro e j ⟨rfl,a⟩;have a:=a.symm;subst a))
  all_goals
   go_wp2_with fail;go_meet
   case rel=>
    refine ⟨rfl,?_,?_,?_,(by repeat (first | exact Ab.refl _ _ | refine Ab.drew ?_ | refine Ab.drewN ?_ _ | refine Ab.alloc ?_ _))⟩
    ·exact Ak.O (X:=fun _=>False) (Ak.alloc (Ak.alloc (Ak.new w _ _) _) _) ((Ab.refl _ _).drew) (fun q=>q)
    ·have:=Ak.alloc (Ak.new (w.alloc (.cells #[.int .i64 E,.int .i64 F,.int .i64 m,.int .i64 o,.int .i64 B,.int .i64 a5] 44)) Xs 39) (.cells #[.int .i64 J,.int .i64 f,.int .i64 K,.int .i64 L,.int .i64 d,.int .i64 d,.int .i64 0,.slice none 0 0] 39);simp only [World.size_alloc] at this;exact this.O ((Ab.refl (fun _=>False) _).drew) (fun q=>q)
    ·have:=Ak.new ((w.alloc (.cells #[.int .i64 E,.int .i64 F,.int .i64 m,.int .i64 o,.int .i64 B,.int .i64 a5] 44)).alloc (.cells Xs 39)) #[.int .i64 J,.int .i64 f,.int .i64 K,.int .i64 L,.int .i64 d,.int .i64 d,.int .i64 0,.slice none 0 0] 39;simp only [World.size_alloc] at this;exact this.O ((Ab.refl (fun _=>False) _).drew) (fun q=>q)
 case rest=>
  obtain ⟨rfl,b0,b,c,ho⟩:=hcut;have H:=Ae b0;have l1:=Ae b;have I:=Ae c;have c4:=b0.cell 4;have d1:=c.cell 1;have d4:=c.cell 4;simp only [dM,dJ,dK] at c4 d1 d4;have r:=Aa b0;have t:=Aa b;have g:=Aa c;have z:=Aa ho;clear b0 b c ho;by_cases b6:f=7∨f=8
  ·obtain ⟨n,c8,hn⟩:∃n:Nat,n≤2∧n=(if f=8 then AK B 3 else d % 3):=⟨_,by split;have:=Bz B 3 (by omega);omega;omega,rfl⟩;have HN:=Aa hn;clear hn;obtain ⟨i0,hi,b7,b8,b9⟩:=info_parts Tryz.infoInt;by_cases W:f=8
   ·have f8:((f:Int)==8)=true:=by simp [W]
    have f7:((f:Int)==7)=false:=by simp [W]
    have Z:AK B 3=n:=by rw [HN.o];simp [W]
    have b1:=Aa Z;have G:Hr m o n=M:=by rw [←HM.o];simp [Fa,H1.o,W,Z]
    have a7:=Aa G;clear Z HN W b6 G;go_wp2_with (first | (go_at_call 27;refine (Eh d b4 _).mono ?_;rintro e j ⟨rfl,a⟩;have a:=a.symm;subst a) | (go_at_call 13;refine (Dr B 3 k4.1 k4.2 (by omega) (by omega) _).mono ?_;rw [b1.o];rintro e j ⟨rfl,a⟩;have a:=a.symm;subst a));go_loopw [5] (fun i wr=>∃(k:Nat) (v:Value) (A:List Nat),i=.int .i64 k∧k≤n∧A.length=k∧dN (Hr m o k=A)∧dN (BT w.heap.size wr v A)∧dN (Ak w.heap.size #[.int .i64 E,.int .i64 F,.int .i64 m,.int .i64 o,.int .i64 B,.int .i64 a5] 44 wr)∧dN (Ak (w.heap.size+1) Xs 39 wr)∧dN (Ak (w.heap.size+2) #[.int .i64 J,.int .i64 f,.int .i64 K,.int .i64 L,.int .i64 d,.int .i64 d,.int .i64 0,v] 39 wr)∧dN (Ab (fun _=>False) w wr)) (fun i _=>n-(intOf i).toNat)
    case atStart=>exact ⟨0,.slice none 0 0,[],rfl,by omega,rfl,rfl,World.ownsRow_nil _ _ _ _,r,t,g,z⟩
    case round=>
     clear r t g z H l1 I c4 d1 d4;obtain ⟨k,v,A,rfl,hk,c0,a6,y,r,t,g,z⟩:=hrel;have H:=Ae r.o;have l1:=Ae t.o;have I:=Ae g.o;obtain ⟨va,vl,vc,rfl⟩:=Ad y.o;by_cases c5:k<n
     ·have c2:=r.o.cell 2;have c3:=r.o.cell 3;have d7:=g.o.cell 7;have df:=g.o.frozen 7;simp only [dM,dJ,dK] at c2 c3 d7;obtain ⟨x,hx⟩:∃x,AK (IntKind.i64.wrap (IntKind.i64.wrap (m+↑k)+o)) 4=x:=⟨_,rfl⟩;have c7:x<4:=by rw [←hx];exact Bz _ _ (by omega)
      have HX:=Aa hx;have N2:=Aa (Aj y.o g.o (by decide));have N0:=Aa (Aj y.o r.o (by decide));have a9:=y.o;unfold BT at a9;have c1:w.heap.size≤wr.heap.size:=z.o.size;clear hx;go_wp2;go_region_law (first | (refine AT rfl _ _ 37 rfl w.heap.size 3 i0 (.int .i64 0) 1 8 Tryz.underlying37 hi b7 b8 b9 rfl (by decide) _ _ _ rfl (World.ownsRow.alloc (w:=wr.drew) a9 _) ⟨wr.heap.size,0,none⟩ 1 1 [.int .i64 x] rfl rfl (A5 rfl _ _) (fun u hu=>by simp at hu;subst hu;rfl) (by decide) (by unfold maxLen;omega) (by omega) (by simp;omega) ?_;intro v' D a8 C c6;have q7:D.cell? ⟨w.heap.size+2,7,none⟩=some (.slice va vl vc):=(rM (C.block (w.heap.size+2) (by simp;omega) (fun h=>N2.o _ h.symm rfl))).trans (by rw [←d7];exact rM (Below.heap_alloc _ _ _ I));have q2:D.cell? ⟨w.heap.size,2,none⟩=some (.int .i64 m):=(rM (C.block w.heap.size (by simp;omega) (fun h=>N0.o _ h.symm rfl))).trans (by rw [←c2];exact rM (Below.heap_alloc _ _ _ H));have q3:D.cell? ⟨w.heap.size,3,none⟩=some (.int .i64 o):=(rM (C.block w.heap.size (by simp;omega) (fun h=>N0.o _ h.symm rfl))).trans (by rw [←c3];exact rM (Below.heap_alloc _ _ _ H));have qf:D.frozen? ⟨w.heap.size+2,7,none⟩=false:=(rS (C.block (w.heap.size+2) (by simp;omega) (fun h=>N2.o _ h.symm rfl))).trans (by rw [←df];exact rS (Below.heap_alloc _ _ _ I));obtain ⟨b2,b5,b3,rfl⟩:=Ad a8) | (go_simp;go_at_call 13;refine (Dr _ 4 (RR _).1 (RR _).2 (by omega) (by omega) _).mono ?_;rw [HX.o];rintro e j ⟨rfl,a⟩;have a:=a.symm;subst a;dsimp only));all_goals
       go_wp2_with fail;go_roundw
       case rel=> obtain ⟨g1,g2,g3,g4,g5⟩:=LZ y.o r.o t.o g.o z.o (((Ab.refl _ _).alloc _).drew) a8 C;exact ⟨k+1,.slice b2 b5 b3,A++[x],by go_num,by omega,by simp;omega,(by rw [LK,a6.o,HX.o]:Hr m o (k+1)=A++[x]),g1,g2,g3,g4,g5⟩
       case measure=>simp [intOf];omega
     ·have e:k=n:=by omega
      subst e;have HR:=y.o;have b:=t.o;have c:=g.o;have m0:=c.cell 0;have m1:=c.cell 1;have m2:=c.cell 2;have m3:=c.cell 3;have m4:=c.cell 4;have m5:=c.cell 5;have m6:=c.cell 6;have m7:=c.cell 7;have N:=b.cell 0;have O:=b.cell 1;have P:=b.cell 2;have Q:=b.cell 3;have S:=b.cell 4;have T:=b.cell 5;have U:=b.cell 6;have V:=b.cell 7;have rf:=b.frozen;simp only [dM,dJ,dK] at m0 m1 m2 m3 m4 m5 m6 m7 N O P Q S T U V;clear b c;go_wp2;refine bodyPost_ret (v:=.agg #[.int .i64 J,.int .i64 f,.int .i64 K,.int .i64 L,.int .i64 d,.int .i64 d,.int .i64 0,.slice va vl vc]) (by simp [results,Tryz.results14,go_sem,N,O,P,Q,S,T,U,V]) rfl ⟨.slice va vl vc,rfl,?_,?_⟩
      ·rw [←(a6.o.symm.trans a7.o)];refine Ac (X:=fun k=>k=w.heap.size+1) HR ?_ (Aj HR t.o (by decide));iterate 8 refine Ab.d8 ?_ _ _
       exact Ab.refl _ _
      ·iterate 8 refine Ab.u9 ?_ _ _ (by omega)
       exact z.o
   ·have f8:((f:Int)==8)=false:=by simp;omega
    have f7:((f:Int)==7)=true:=by simp;omega
    have Z:d % 3=n:=by rw [HN.o];simp [W]
    have b1:=Aa Z;have e7:f=7:=by omega
    have G:Hr m o n=M:=by rw [←HM.o];simp [Fa,H1.o,H4.o,e7,Z]
    have a7:=Aa G;clear Z HN W b6 G e7;go_wp2_with (first | (go_at_call 27;refine (Eh d b4 _).mono ?_;rw [b1.o];rintro e j ⟨rfl,a⟩;have a:=a.symm;subst a));go_loopw [5] (fun i wr=>∃(k:Nat) (v:Value) (A:List Nat),i=.int .i64 k∧k≤n∧A.length=k∧dN (Hr m o k=A)∧dN (BT w.heap.size wr v A)∧dN (Ak w.heap.size #[.int .i64 E,.int .i64 F,.int .i64 m,.int .i64 o,.int .i64 B,.int .i64 a5] 44 wr)∧dN (Ak (w.heap.size+1) Xs 39 wr)∧dN (Ak (w.heap.size+2) #[.int .i64 J,.int .i64 f,.int .i64 K,.int .i64 L,.int .i64 d,.int .i64 d,.int .i64 0,v] 39 wr)∧dN (Ab (fun _=>False) w wr)) (fun i _=>n-(intOf i).toNat)
    case atStart=>exact ⟨0,.slice none 0 0,[],rfl,by omega,rfl,rfl,World.ownsRow_nil _ _ _ _,r,t,g,z⟩
    case round=>
     clear r t g z H l1 I c4 d1 d4;obtain ⟨k,v,A,rfl,hk,c0,a6,y,r,t,g,z⟩:=hrel;have H:=Ae r.o;have l1:=Ae t.o;have I:=Ae g.o;obtain ⟨va,vl,vc,rfl⟩:=Ad y.o;by_cases c5:k<n
     ·have c2:=r.o.cell 2;have c3:=r.o.cell 3;have d7:=g.o.cell 7;have df:=g.o.frozen 7;simp only [dM,dJ,dK] at c2 c3 d7;obtain ⟨x,hx⟩:∃x,AK (IntKind.i64.wrap (IntKind.i64.wrap (m+↑k)+o)) 4=x:=⟨_,rfl⟩;have c7:x<4:=by rw [←hx];exact Bz _ _ (by omega)
      have HX:=Aa hx;have N2:=Aa (Aj y.o g.o (by decide));have N0:=Aa (Aj y.o r.o (by decide));have a9:=y.o;unfold BT at a9;have c1:w.heap.size≤wr.heap.size:=z.o.size;clear hx;go_wp2;go_region_law (first | (refine AT rfl _ _ 37 rfl w.heap.size 3 i0 (.int .i64 0) 1 8 Tryz.underlying37 hi b7 b8 b9 rfl (by decide) _ _ _ rfl (World.ownsRow.alloc (w:=wr.drew) a9 _) ⟨wr.heap.size,0,none⟩ 1 1 [.int .i64 x] rfl rfl (A5 rfl _ _) (fun u hu=>by simp at hu;subst hu;rfl) (by decide) (by unfold maxLen;omega) (by omega) (by simp;omega) ?_;intro v' D a8 C c6;have q7:D.cell? ⟨w.heap.size+2,7,none⟩=some (.slice va vl vc):=(rM (C.block (w.heap.size+2) (by simp;omega) (fun h=>N2.o _ h.symm rfl))).trans (by rw [←d7];exact rM (Below.heap_alloc _ _ _ I));have q2:D.cell? ⟨w.heap.size,2,none⟩=some (.int .i64 m):=(rM (C.block w.heap.size (by simp;omega) (fun h=>N0.o _ h.symm rfl))).trans (by rw [←c2];exact rM (Below.heap_alloc _ _ _ H));have q3:D.cell? ⟨w.heap.size,3,none⟩=some (.int .i64 o):=(rM (C.block w.heap.size (by simp;omega) (fun h=>N0.o _ h.symm rfl))).trans (by rw [←c3];exact rM (Below.heap_alloc _ _ _ H));have qf:D.frozen? ⟨w.heap.size+2,7,none⟩=false:=(rS (C.block (w.heap.size+2) (by simp;omega) (fun h=>N2.o _ h.symm rfl))).trans (by rw [←df];exact rS (Below.heap_alloc _ _ _ I));obtain ⟨b2,b5,b3,rfl⟩:=Ad a8) | (go_simp;go_at_call 13;refine (Dr _ 4 (RR _).1 (RR _).2 (by omega) (by omega) _).mono ?_;rw [HX.o];rintro e j ⟨rfl,a⟩;have a:=a.symm;subst a;dsimp only));all_goals
       go_wp2_with fail;go_roundw
       case rel=> obtain ⟨g1,g2,g3,g4,g5⟩:=LZ y.o r.o t.o g.o z.o (((Ab.refl _ _).alloc _).drew) a8 C;exact ⟨k+1,.slice b2 b5 b3,A++[x],by go_num,by omega,by simp;omega,(by rw [LK,a6.o,HX.o]:Hr m o (k+1)=A++[x]),g1,g2,g3,g4,g5⟩
       case measure=>simp [intOf];omega
     ·have e:k=n:=by omega
      subst e;have HR:=y.o;have b:=t.o;have c:=g.o;have m0:=c.cell 0;have m1:=c.cell 1;have m2:=c.cell 2;have m3:=c.cell 3;have m4:=c.cell 4;have m5:=c.cell 5;have m6:=c.cell 6;have m7:=c.cell 7;have N:=b.cell 0;have O:=b.cell 1;have P:=b.cell 2;have Q:=b.cell 3;have S:=b.cell 4;have T:=b.cell 5;have U:=b.cell 6;have V:=b.cell 7;have rf:=b.frozen;simp only [dM,dJ,dK] at m0 m1 m2 m3 m4 m5 m6 m7 N O P Q S T U V;clear b c;go_wp2;refine bodyPost_ret (v:=.agg #[.int .i64 J,.int .i64 f,.int .i64 K,.int .i64 L,.int .i64 d,.int .i64 d,.int .i64 0,.slice va vl vc]) (by simp [results,Tryz.results14,go_sem,N,O,P,Q,S,T,U,V]) rfl ⟨.slice va vl vc,rfl,?_,?_⟩
      ·rw [←(a6.o.symm.trans a7.o)];refine Ac (X:=fun k=>k=w.heap.size+1) HR ?_ (Aj HR t.o (by decide));iterate 8 refine Ab.d8 ?_ _ _
       exact Ab.refl _ _
      ·iterate 8 refine Ab.u9 ?_ _ _ (by omega)
       exact z.o
  ·have f7:((f:Int)==7)=false:=by simp;omega
   have f8:((f:Int)==8)=false:=by simp;omega
   have G:[]=M:=by rw [←HM.o];simp [Fa,H1.o,show¬f=7 by omega,show¬f=8 by omega]
   have a7:=Aa G;clear G;have b:=t.o;have c:=g.o;have m0:=c.cell 0;have m1:=c.cell 1;have m2:=c.cell 2;have m3:=c.cell 3;have m4:=c.cell 4;have m5:=c.cell 5;have m6:=c.cell 6;have m7:=c.cell 7;have N:=b.cell 0;have O:=b.cell 1;have P:=b.cell 2;have Q:=b.cell 3;have S:=b.cell 4;have T:=b.cell 5;have U:=b.cell 6;have V:=b.cell 7;have rf:=b.frozen;simp only [dM,dJ,dK] at m0 m1 m2 m3 m4 m5 m6 m7 N O P Q S T U V;clear b c;go_wp2_with (first | (go_at_call 27;refine (Eh d b4 _).mono ?_;rintro e j ⟨rfl,a⟩;have a:=a.symm;subst a));have R:wc.ownsRow w.heap.size 3 1 (.slice none 0 0) 0 []:=World.ownsRow_nil _ _ _ _;refine bodyPost_ret (v:=.agg #[.int .i64 J,.int .i64 f,.int .i64 K,.int .i64 L,.int .i64 d,.int .i64 d,.int .i64 0,.slice none 0 0]) (by simp [results,Tryz.results14,go_sem,N,O,P,Q,S,T,U,V]) rfl ⟨.slice none 0 0,rfl,?_,?_⟩
   ·rw [←a7.o];refine Ac (X:=fun k=>k=w.heap.size+1) R ?_ (Aj R t.o (by decide));iterate 8 refine Ab.d8 ?_ _ _
    exact Ab.refl _ _
   ·iterate 8 refine Ab.u9 ?_ _ _ (by omega)
    exact z.o
structure Hm(g off:Nat)(ls:List Ln)(w:World):Prop where
 lt:ls≠[]→g<w.heap.size
 c0:∀i (h:i<ls.length),w.cell? ⟨g,off+i*6,none⟩=some (.int .i64 ls[i].a0)
 c1:∀i (h:i<ls.length),w.cell? ⟨g,off+i*6+1,none⟩=some (.int .i64 ls[i].a1)
 c2:∀i (h:i<ls.length),w.cell? ⟨g,off+i*6+2,none⟩=some (.int .i64 ls[i].a2)
 c3:∀i (h:i<ls.length),w.cell? ⟨g,off+i*6+3,none⟩=some (.int .i64 ls[i].a3)
 c4:∀i (h:i<ls.length),w.cell? ⟨g,off+i*6+4,none⟩=some (.int .i64 ls[i].a4)
 c5:∀i (h:i<ls.length),w.cell? ⟨g,off+i*6+5,none⟩=some (.int .i64 ls[i].a5)
theorem Hm.O{g f:Nat}{b:List Ln}{w w':World}(h:Hm g f b w)(d:Ab (fun _=>False) w w'):Hm g f b w':=by
 have k:∀o,b≠[]→w'.cell? ⟨g,o,none⟩=w.cell? ⟨g,o,none⟩:=fun o c=>rM (d.block g (h.lt c) (fun q=>q))
 have e:∀i,i<b.length→b≠[]:=fun i a e=>by subst e;simp at a
 exact ⟨fun c=>rP (h.lt c) d.size,fun i a=>(k _ (e i a)).trans (h.c0 i a),fun i a=>(k _ (e i a)).trans (h.c1 i a),fun i a=>(k _ (e i a)).trans (h.c2 i a),fun i a=>(k _ (e i a)).trans (h.c3 i a),fun i a=>(k _ (e i a)).trans (h.c4 i a),fun i a=>(k _ (e i a)).trans (h.c5 i a)⟩
def Wy(e:Value)(b:List Ln)(w:World):Prop:=∃(a:Option Addr) (c:Nat),e=.slice a b.length c∧b.length≤c∧(b=[]∨∃g d,a=some ⟨g,d,none⟩∧Hm g d b w)
abbrev ZW:Array Value:=#[.string {data:=#[]},.slice none 0 0,.int .i64 0,.int .i64 0]
def Wu(x:Sm×Nat)(a:Value):List Value:=[.int .i64 x.1.aW,.int .i64 x.1.kind,.int .i64 x.1.p,.int .i64 x.1.q,.int .i64 x.1.g,.int .i64 x.1.k,.int .i64 x.2,a]
def J2(B:Nat)(w:World)(v:Value)(b:List (Sm×Nat)):Prop:=∃a:List ((Sm×Nat)×Value),a.map (·.1)=b∧w.ownsRow B 39 8 v a.length (a.flatMap fun y=>Wu y.1 y.2)∧∀y,y∈a→BT B w y.2 y.1.1.args
theorem J2.O{B w w' v f}{X:Nat→Prop}(h:J2 B w v f)(c:Ab X w w')(i:∀k,v.ownBlock=some k→¬X k)(j:∀a g,BT B w a g→∀k,a.ownBlock=some k→¬X k):J2 B w' v f:=by obtain ⟨m,e,l,b⟩:=h;exact ⟨m,e,Ac l c i,fun y d=>Ac (b y d) c (j _ _ (b y d))⟩
theorem J2.quiet{B w a v b}(h:J2 B w v b)(c:Ab (fun _=>False) w a):J2 B a v b:=h.O c (fun _ _ q=>q) (fun _ _ _ _ _ q=>q)
theorem J2.s9{B w i v j b T}{l:Array Value}(h:J2 B w v j)(d:Ab (fun k=>k=b) w i)(c:Ak b l T w)(m:T≠39)(n:T≠3):J2 B i v j:=by obtain ⟨o,e,f,a⟩:=h;exact ⟨o,e,Ac f d (Aj f c m),fun y g=>Ac (a y g) d (Aj (a y g) c n)⟩
theorem J2.form{B w v d}(h:J2 B w v d):∃a c,v=.slice a d.length c:=by obtain ⟨g,e,b,f⟩:=h;obtain ⟨a,l,c,rfl⟩:=Ad b;have:=Aq b;subst e this;exact ⟨a,c,by simp⟩
structure JJ(w:World)(s:ByteArray)(v:Value)(pl ca:Int)(xs:List (Sm×Nat))(wr:World):Prop where
 o:Ak (w.heap.size+1) #[.string s,v,.int .i64 pl,.int .i64 ca] 25 wr
 l7:Ak w.heap.size ZW 25 wr
 row:J2 w.heap.size wr v xs
 O:Ab (fun _=>False) w wr
theorem JJ.quiet{w:World}{s:ByteArray}{v:Value}{c b:Int}{e:List (Sm×Nat)}{wr d:World}(h:JJ w s v c b e wr)(a:Ab (fun _=>False) wr d):JJ w s v c b e d:=
 ⟨h.o.O a (fun q=>q),h.l7.O a (fun q=>q),h.row.quiet a,h.O.bI a⟩
theorem Ab.set_far{w wr:World}{b i:Nat}{u:Value}(h:Ab (fun _=>False) w wr)(a:w.heap.size≤b):Ab (fun _=>False) w (wr.setCell ⟨b,i,none⟩ u):=h.u9 i u a
theorem JJ.set{w:World}{s:ByteArray}{v:Value}{d b:Int}{e:List (Sm×Nat)}{wr:World}(h:JJ w s v d b e wr)(a:ByteArray):JJ w a v d b e (wr.setCell ⟨w.heap.size+1,0,none⟩ (.string a)):=by have c:=(Ab.refl (fun k=>k=w.heap.size+1) wr).d8 0 (.string a);refine ⟨?_,h.l7.O c (by omega),h.row.s9 c h.o (by decide) (by decide),h.O.set_far (by omega)⟩;have:=h.o.set 0 (.string a);simpa using this
theorem JJ.set2{w:World}{s:ByteArray}{v:Value}{d a:Int}{c:List (Sm×Nat)}{wr:World}(h:JJ w s v d a c wr)(n:Int):JJ w s v n a c (wr.setCell ⟨w.heap.size+1,2,none⟩ (.int .i64 n)):=by have b:=(Ab.refl (fun k=>k=w.heap.size+1) wr).d8 2 (.int .i64 n);refine ⟨?_,h.l7.O b (by omega),h.row.s9 b h.o (by decide) (by decide),h.O.set_far (by omega)⟩;have:=h.o.set 2 (.int .i64 n);simpa using this
theorem JJ.set3{w:World}{s:ByteArray}{v:Value}{b d:Int}{c:List (Sm×Nat)}{wr:World}(h:JJ w s v b d c wr)(n:Int):JJ w s v b n c (wr.setCell ⟨w.heap.size+1,3,none⟩ (.int .i64 n)):=by have a:=(Ab.refl (fun k=>k=w.heap.size+1) wr).d8 3 (.int .i64 n);refine ⟨?_,h.l7.O a (by omega),h.row.s9 a h.o (by decide) (by decide),h.O.set_far (by omega)⟩;have:=h.o.set 3 (.int .i64 n);simpa using this
def Qt(l:Ln):Sm:=⟨AK l.a0 4,AK l.a1 10,AK l.a2 4,AK l.a3 4,AK l.a4 4,AK l.a4 4,Fa l,AK l.a5 5⟩
def IC(a:List Ln):List Sm:=(a.take 60).map Qt
def Hj(a:List Ln)(f k:Nat):List Sm:=((a.take k).map Qt).filter fun s=>s.aW==f
def Hd(a:List Ln)(f:Nat):List Sm:=(List.range f).flatMap fun g=>Hj a g 60
theorem VX(a:List Ln)(f i:Nat)(h:i<a.length):Hj a f (i+1)=Hj a f i++(if AK a[i].a0 4=f then [Qt a[i]] else []):=by unfold Hj;rw [List.take_succ_eq_append_getElem h,List.map_append,List.filter_append];congr 1;simp only [List.map_cons,List.map_nil,List.filter_cons,List.filter_nil,Qt,beq_iff_eq]
theorem VY(a:List Ln)(f:Nat):Hj a f 0=[]:=by simp [Hj]
theorem RI(a:List Ln)(f k:Nat):(Hj a f k).length≤k:=rO (List.length_filter_le _ _) (by rw [rX,List.length_take];exact Nat.min_le_left _ _)
theorem Xt(a:List Ln)(f i:Nat)(h:¬(i<a.length∧i<60))(b:i≤60):Hj a f i=Hj a f 60:=by
 unfold Hj;by_cases c:i<a.length
 ·have:i=60:=by omega
  rw [this]
 ·rw [List.take_of_length_le (by omega),List.take_of_length_le (by omega)]
theorem OI(a:List Ln)(f:Nat):Hd a (f+1)=Hd a f++Hj a f 60:=by unfold Hd;rw [List.range_succ,List.flatMap_append,List.flatMap_cons,List.flatMap_nil,List.append_nil]
theorem MU(a:List Ln):∀(f:Nat),(Hd a f).length≤60*f
 | 0=>by simp [Hd]
 | f+1=>by have b:=MU a f;have c:=RI a f 60;rw [OI,rV];omega
def tA(a:List Ln)(f:Nat):List UInt8:=CI ((List.range f).flatMap fun g=>Ya g (Hj a g 60))
def tB(a:List Ln)(f k:Nat):List UInt8:=tA a f++[102,110,32]++II f++[40]++(List.range k).flatMap fun v=>32::Cx v
def tC(a:List Ln)(f k:Nat):List UInt8:=tB a f (f % 3)++[41,32,123]++((List.range k).drop (f % 3)).flatMap fun v=>[32,118,97,114,32]++Cx v++[59]
def tD(a:List Ln)(f k:Nat):List UInt8:=tC a f 4++(Hj a f k).flatMap fun s=>CI (Ye s)
theorem Xz(a:List Ln)(f k:Nat):tB a f (k+1)=tB a f k++[32]++Cx k:=by unfold tB;rw [List.range_succ,List.flatMap_append];simp
theorem XA(a:List Ln)(f k:Nat)(h:f % 3≤k):tC a f (k+1)=tC a f k++([32,118,97,114,32]++Cx k++[59]):=by unfold tC;rw [List.range_succ,List.drop_append_of_le_length (by simpa using h),List.flatMap_append];simp
theorem XB(a:List Ln)(f:Nat):tC a f (f % 3)=tB a f (f % 3)++[41,32,123]:=by unfold tC;rw [List.drop_of_length_le (by simp)];simp
theorem XC(a:List Ln)(f:Nat):tD a f 0=tC a f 4:=by unfold tD Hj;simp
theorem LU{b:Type}(g:b→List BU):∀(l:List b),CI (l.flatMap g)=l.flatMap fun a=>CI (g a)
 | []=>rfl
 | a::l=>by rw [List.flatMap_cons,Cj,LU g l,List.flatMap_cons]
theorem TC(s:Sm):CI (Ye s)=[32]++Ua s.bB (V4 s.kind s.p s.q s.g s.k s.args):=by unfold Ye;rw [Bm,Ub,Sm.st,TI];rfl
theorem Qd(n:Nat)(h:n≤2):CI (Qc n)=((List.range n).flatMap fun v=>32::Cx v)++[41]:=by
 rcases n with _ | _ | _ | n
 ·rfl
 ·rfl
 ·rfl
 ·omega
theorem QD(v:Nat):CI (T7 v)=[32,118,97,114,32]++Cx v++[59]:=by simp [T7,Bm,BJ]
theorem Y0(a:List Ln)(f:Nat):tD a f 60++[32,125,10]=tA a (f+1):=by
 have e:tA a (f+1)=tA a f++CI (Ya f (Hj a f 60)):=by unfold tA;rw [List.range_succ,List.flatMap_append,Cj,List.flatMap_cons,List.flatMap_nil,List.append_nil]
 rw [e];unfold tD tC tB Ya;simp only [Cj,Bm,BJ,Qd (f % 3) (by omega),LU,QD,List.append_assoc,List.cons_append,List.nil_append]
def Pz(a:List Ln)(f:Nat):Nat:=(a.take 60).countP (fun l=>decide (AK l.a0 4<f))
def JQ(a:List Ln)(f i:Nat):Nat:=(a.take i).countP (fun l=>decide (AK l.a0 4=f))
theorem J3(a:List Ln)(f:Nat):Pz a f≤60:=rO (List.countP_le_length) (by simp;omega)
theorem Q6(b:List Ln)(f:Nat):Pz b f+JQ b f 60=Pz b (f+1):=by
 unfold Pz JQ;induction b.take 60 with
 | nil=>rfl
 | cons a l e=>
   simp only [List.countP_cons];by_cases c:AK a.a0 4<f
   ·simp [c,show¬AK a.a0 4=f from by omega,show AK a.a0 4<f+1 from by omega];omega
   ·by_cases d:AK a.a0 4=f
    ·simp [d];omega
    ·simp [c,d,show¬AK a.a0 4<f+1 from by omega];omega
theorem Sq(a:List Ln)(f i:Nat)(h:i<a.length):JQ a f (i+1)=JQ a f i+(if AK a[i].a0 4=f then 1 else 0):=by unfold JQ;rw [List.take_succ_eq_append_getElem h,List.countP_append,List.countP_cons,List.countP_nil];simp
theorem Ns(a:List Ln)(f i:Nat)(h:¬(i<a.length∧i<60))(b:i≤60):JQ a f i=JQ a f 60:=by
 unfold JQ;by_cases c:i<a.length
 ·have:i=60:=by omega
  rw [this]
 ·rw [List.take_of_length_le (by omega),List.take_of_length_le (by omega)]
structure Zd(ls:List Ln)(f:Nat)(l:List UInt8):Prop where
 run:Es 0 l=some 0
 len:l.length≤60*f+36*Pz ls f
 head:0<f→Rn<+:l
 nil:f=0→l=[]
end Go.Proofs.YtegmjgjkcdbmkaaGreatDoor

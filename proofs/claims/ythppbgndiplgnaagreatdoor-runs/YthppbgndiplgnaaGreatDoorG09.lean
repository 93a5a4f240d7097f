/- One of the texts of the proof of runs_card_holds: RdM RdG RdJ. -/
import Derived.Test.YthppbgndiplgnaaGreatDoorG08
import Derived.Deep.CutBlock
set_option maxRecDepth 100000
set_option maxHeartbeats 40000000
namespace Go.Proofs.YthppbgndiplgnaaGreatDoor
open Go.RowKit
def Ft(k:Nat)(x y:St):Prop:=x.s9≤y.s9∧x.pl≤y.pl∧y.pl≤x.pl+1∧x.ca≤y.ca∧y.ca≤x.ca+1∧(y.Ya=none→x.Ya=none∧x.s9+k≤y.s9)
def Fs(k:Nat)(x y:St):Prop:=x.s9≤y.s9∧y.pl=x.pl∧y.ca=x.ca∧(y.Ya=none→x.Ya=none∧x.s9+k≤y.s9)
theorem Fs.trans{k l:Nat}{x y z:St}(h:Fs k x y)(q:Fs l y z):Fs (k+l) x z:=
 ⟨by have:=h.1;have:=q.1;omega,by rw [q.2.1,h.2.1],by rw [q.2.2.1,h.2.2.1],fun e=>by have a:=q.2.2.2 e;have b:=h.2.2.2 a.1;exact ⟨b.1,by omega⟩⟩
theorem Fs.one{k x y}(h:Fs k x y):Ft k x y:=⟨h.1,by rw [h.2.1];omega,by rw [h.2.1];omega,by rw [h.2.2.1];omega,by rw [h.2.2.1];omega,h.2.2.2⟩
theorem Ft.behind{k l:Nat}{x y z:St}(h:Fs k x y)(q:Ft l y z):Ft (k+l) x z:=by obtain ⟨f,g,i,c⟩:=h;obtain ⟨j,m,n,o,p,d⟩:=q;exact ⟨by omega,by omega,by omega,by omega,by omega,fun e=>by have a:=d e;have b:=c a.1;exact ⟨b.1,by omega⟩⟩
theorem Ft.ahead{k l:Nat}{x y z:St}(h:Ft k x y)(q:Fs l y z):Ft (k+l) x z:=by obtain ⟨f,g,i,j,m,c⟩:=h;obtain ⟨n,o,p,d⟩:=q;exact ⟨by omega,by omega,by omega,by omega,by omega,fun e=>by have a:=d e;have b:=c a.1;exact ⟨b.1,by omega⟩⟩
theorem Ft.less{k l:Nat}{x y:St}(h:Ft k x y)(a:l≤k):Ft l x y:=⟨h.1,h.2.1,h.2.2.1,h.2.2.2.1,h.2.2.2.2.1,fun e=>by have:=h.2.2.2.2.2 e;exact ⟨this.1,by omega⟩⟩
theorem Kp(a p):E8 a p≠none:=by cases a<;>simp [E8]
theorem Bb(a L x):Fs 1 x (Au a L x):=by
 unfold Au EN;split
 ·rename_i h;refine ⟨by simp,rfl,rfl,fun e=>⟨e,aV _⟩⟩
 ·exact ⟨aV _,rfl,rfl,fun e=>dC e (Kp _ _)⟩
theorem Ey(a k x):Fs 1 x (Bq a k x).2:=by
 unfold Bq Dg;split
 ·refine ⟨by simp,rfl,rfl,fun e=>⟨e,aV _⟩⟩
 ·exact ⟨aV _,rfl,rfl,fun e=>dC e (Kp _ _)⟩
theorem LY(d:List Tk):∀(f a:Nat) (b:Option Nat) (c:List Tk),a≤(DK d f a b c).2.1∧(DK d f a b c).2.2=b
 | 0,a,b,c=>by unfold DK;exact ⟨aV _,rfl⟩
 | f+1,a,b,c=>by
   unfold DK;split
   ·have:=LY d f (a+1) b (c++[Ai d a]);exact ⟨by omega,this.2⟩
   ·exact ⟨aV _,rfl⟩
theorem EQ(a x):Fs 1 x (Cc a x).2:=by have h:=LY a a.length x.s9 x.Ya [];have e:=Bb a [41] ⟨(DK a a.length x.s9 x.Ya []).2.1,(DK a a.length x.s9 x.Ya []).2.2,x.pl,x.ca⟩;obtain ⟨b,d,f,c⟩:=e;refine ⟨bJ h.1 b,rfl,rfl,fun q=>?_⟩;have:=c q;exact ⟨by rw [←h.2];exact this.1,by have:=this.2;simp only at this;exact bJ (by omega) this⟩
theorem SU(a x s):Ft 1 x (Dh a x s).2:=by
 have E:=Bb a;have G:=Ey a;have I:=EQ a;unfold Dh;split
 ·have:=E [110,101,119] x;obtain ⟨f,n,o,g⟩:=this;exact ⟨f,by simp only;omega,by simp only;omega,by simp only;omega,by simp only;omega,g⟩
 ·split
  ·simp only;split
   ·exact ((((E _ _).trans (G _ _)).trans ((E _ _).trans (G _ _))).one).less (by omega)
   ·exact (((E _ _).trans (G _ _)).one).less (by omega)
  ·split
   ·exact (((E _ _).trans (G _ _)).one).less (by omega)
   ·split
    ·exact (((E _ _).trans (G _ _)).one).less (by omega)
    ·split
     ·have A:=((E [40] x).trans (E [42] _)).trans ((G 1 (Au a [42] (Au a [40] x))).trans ((E [41] _).trans (E [40] _)));have Z:=I ⟨(Au a [40] (Au a [41] (Bq a 1 (Au a [42] (Au a [40] x))).2)).s9,(Au a [40] (Au a [41] (Bq a 1 (Au a [42] (Au a [40] x))).2)).Ya,(Au a [40] (Au a [41] (Bq a 1 (Au a [42] (Au a [40] x))).2)).pl,(Au a [40] (Au a [41] (Bq a 1 (Au a [42] (Au a [40] x))).2)).ca+1⟩;obtain ⟨k,l,m,e⟩:=A;obtain ⟨h,i,j,d⟩:=Z;simp only at h i j d;refine ⟨by simp only;omega,by simp only;omega,by simp only;omega,by simp only;omega,by simp only;omega,fun q=>?_⟩;have b:=d q;have c:=e b.1;exact ⟨c.1,by simp only;omega⟩
     ·simp only;split
      ·exact (((G _ _).trans ((E _ _).trans (I _))).one).less (by omega)
      ·exact ((G _ _).one).less (by omega)
theorem Oh(a b x):Ft 1 x (Bo a b x).2:=by
 have E:=Bb a;have G:=Ey a;unfold Bo;split
 ·exact (((E _ _).trans (G _ _)).one).less (by omega)
 ·split
  ·exact (((E _ _).trans (G _ _)).one).less (by omega)
  ·split
   ·exact ((((E _ _).trans (G _ _)).trans ((E _ _).trans (G _ _))).one).less (by omega)
   ·exact (Ft.behind ((G _ _).trans (E _ _)) (SU a _ _)).less (by omega)
theorem WQ(k)(h:k<4):(({data:=#[48,49,50,51]}:ByteArray).extract k (k+1)).toList=[UInt8.ofNat (48+k)]:=by
 have:k=0∨k=1∨k=2∨k=3:=by omega
 rcases this with rfl | rfl | rfl | rfl<;>decide+kernel
structure VG(j p F E g n A:Nat)(f:List Tk)(B C:Value)(x:St)(J I:Array Value)(H:Value)(G:List Tk)(D w:World):Prop where
 v:VF j p F E g n A f B C x J I w
 o:Ab (fun k=>k=j∨k=p) D w
 b:D.heap.size≤F
 d:D.heap.size≤E
 c:x.s9<n
 z:(Ai f (n-1)).sort=0
 r:w.ownsRow D.heap.size 64 3 H G.length (BC G)
section
variable {j p F E g n A : Nat} {f : List Tk} {B C : Value} {x : St} {J I : Array Value} {H : Value} {G : List Tk} {D w K : World}
theorem VG.quiet(h:VG j p F E g n A f B C x J I H G D w)(a:Ab (fun _=>False) w K):VG j p F E g n A f B C x J I H G D K:=
 ⟨h.v.quiet a,h.o.YF a,h.b,h.d,h.c,h.z,Ac h.r a (fun _ _ q=>q)⟩
theorem VG.Yo(h:VG j p F E g n A f B C x J I H G D w)(i u):VG j p F E g n A f B C x (J.setIfInBounds i u) I H G D (w.setCell ⟨F,i,none⟩ u):=
 ⟨h.v.Yo i u,h.o.Yc i u h.b,h.b,h.d,h.c,h.z,Am h.r ((Ab.refl _ _).p7 i u) (CR h.v.sx (by decide))⟩
theorem VG.Zj(h:VG j p F E g n A f B C x J I H G D w){u:Int}{m:Nat}(a:u=m):VG j p F E g n A f B C ⟨x.s9,x.Ya,m,x.ca⟩ J I H G D (w.setCell ⟨p,2,none⟩ (.int .i64 u)):=
 ⟨h.v.ZP a,h.o.Zz 2 _,h.b,h.d,h.c,h.z,Am h.r ((Ab.refl _ _).p7 2 _) (CR h.v.pr.l9 (by decide))⟩
theorem VG.Zi(h:VG j p F E g n A f B C x J I H G D w){u:Int}{m:Nat}(a:u=m):VG j p F E g n A f B C ⟨x.s9,x.Ya,x.pl,m⟩ J I H G D (w.setCell ⟨p,3,none⟩ (.int .i64 u)):=
 ⟨h.v.ZO a,h.o.Zz 3 _,h.b,h.d,h.c,h.z,Am h.r ((Ab.refl _ _).p7 3 _) (CR h.v.pr.l9 (by decide))⟩
theorem VG.i8(h:VG j p F E g n A f B C x J I H G D w)(v l)(a:v.toList=l):
 Calls Tryz.prog 65 #[.pointer (some ⟨j,0,none⟩),.string v] w fun e K=>e=.returned (.bool (Bn x.Ya (Ai f x.s9) l))∧dJ (VG j p F E g n A f B C x J I H G D K):=
 (PH j p g n A x.s9 x.Ya f v l a w h.v.rd h.v.tk h.c).mono (fun _ _ q=>⟨q.1,h.quiet q.2⟩)
theorem VG.YD(h:VG j p F E g n A f B C x J I H G D w)(v l)(b:v.toList=l):
 Calls Tryz.prog 33 #[.pointer (some ⟨j,0,none⟩),.string v] w fun e K=>∃a,dJ (Au f l x=a)∧e=.returned (.tuple #[])∧dJ (VG j p F E g n A f B C a J I H G D K):=
 (Ik j p g n A x.s9 x.Ya f v l b w h.v.rd h.v.tk h.c).mono (fun _ _ q=>⟨_,rfl,q.1,h.v.YD rfl q.2.2 q.2.1,h.o.tr q.2.2,h.b,h.d,Ca rfl h.z h.c,h.z,Am h.r q.2.2 (CR h.v.rd.l9 (by decide))⟩)
theorem VG.get(h:VG j p F E g n A f B C x J I H G D w)(k:Nat)(b:k≠0):
 Calls Tryz.prog 34 #[.pointer (some ⟨j,0,none⟩),.int .i64 k] w fun e K=>∃q a,dJ (Bq f k x=(q,a))∧e=.returned (HJ q)∧dJ (VG j p F E g n A f B C a J I H G D K):=
 (JR j p g n A x.s9 k x.Ya f w h.v.rd h.v.tk h.c).mono (fun _ _ q=>⟨_,_,rfl,q.1,h.v.get rfl q.2.2 q.2.1,h.o.tr q.2.2,h.b,h.d,Eg rfl b h.z h.c,h.z,Am h.r q.2.2 (CR h.v.rd.l9 (by decide))⟩)
theorem VG.list(h:VG j p F E g n A f B C x J I H G D w):
 Calls Tryz.prog 35 #[.pointer (some ⟨j,0,none⟩)] w fun e K=>∃q i a l c,dJ (Cc f x=(q,i))∧e=.returned (.slice a l c)∧dJ (VG j p F E g n A f B C i J I (.slice a l c) q D K):=by
 refine (NS j p g n A x.s9 x.Ya f w h.v.rd h.v.tk h.c h.z).mono ?_;rintro e K ⟨v,rfl,d,k,b⟩;obtain ⟨a,l,c,rfl⟩:=Ad d;exact ⟨_,_,a,l,c,rfl,rfl,h.v.list rfl b k,h.o.tr b,h.b,h.d,Ez rfl h.z h.c,h.z,Ax d h.o.size⟩
theorem VG.post{y r}(h:VG j p F E g n A f B C x J I H G D w)(d:y.args=G)(i:r=(y,x))(W)(a:Ab (fun k=>k=E) w W):Ra j p g n A f B C D r (.returned (.agg (AS y H A0 A0))) W:=by subst d i;have b:=h.v.YP;have l:=h.d;refine ⟨H,rfl,Am h.r a (CR h.v.ox (by decide)),h.v.rd.f8 a (Ne.symm b.2.2.2.1),h.v.tk.f8 a b.2.2.2.2.2.2.2.2,h.v.pr.l9.f8 a (Ne.symm b.2.2.2.2.2.2.1),a.os.trans h.o.os,a.tape.trans h.o.tape,a.output.trans h.o.output,bJ h.o.size a.size,fun k c e=>?_⟩;rw [a.block k (bL c h.o.size) (fun q=>by omega)];exact h.o.block k c e
end
theorem SX(j p g n A f B C R s w)(hr:AM j p g n A R.s9 R.Ya w)(ht:AP g n A f w)(hp:Cr p B C R.pl R.ca w)(c4:R.s9<n)(hz:(Ai f (n-1)).sort=0)(ha:s.args=[])(e7:R.pl≤4001)(e5:R.ca≤4001):
 Calls Tryz.prog 89 #[.pointer (some ⟨j,0,none⟩),.agg (AS s A0 A0 A0)] w fun e K=>Ra j p g n A f B C w (Dh f R s) e K:=by
 have hn:=ht.2.2;have lr:=Ae hr;have lp:=Ae hp;have U:dJ (VG j p w.heap.size (w.heap.size+1) g n A f B C R (AS s A0 A0 A0) zS A0 s.args w ((w.alloc (.cells (AS s A0 A0 A0) 119)).alloc (.cells zS 119))):=
  ⟨⟨(hr.l9.alloc _).alloc _,(ht.f8 (((Ab.refl (fun _=>False) w).alloc _).alloc _) (fun q=>q)),(hp.l9.alloc _).alloc _,(Ar.new _ _ _).alloc _,by have:=Ar.new (w.alloc (.cells (AS s A0 A0 A0) 119)) zS 119;simpa using this,by omega⟩,((Ab.refl _ _).alloc _).alloc _,aV _,Nat.le_succ _,c4,hz,by rw [ha];exact bE _ _ _ _⟩
 obtain ⟨y,hy⟩:∃y,Dh f R s=y:=⟨_,rfl⟩;rw [hy];have Z:=Aa hy;obtain ⟨t,HT⟩:∃t,dJ (Ai f R.s9=t):=⟨_,rfl⟩;clear hy hr ht hp hz ha;go_enter Tryz.func89,Tryz.ntmps89;go_wp2;generalize (w.alloc (.cells (AS s A0 A0 A0) 119)).alloc (.cells zS 119)=W0 at U⊢;obtain ⟨t0,t1,t2⟩:=U.o.v.tk.cells c4;rw [HT.o] at t0 t1 t2;have r0:=U.o.v.rd.l9.cell 0;have r1:=U.o.v.rd.l9.cell 1;simp only [aU,aS,aT] at r0 r1;have l0:=Ae U.o.v.rd;have l1:g<W0.heap.size:=(U.o.v.tk.1.lt g rfl).2;have ls:w.heap.size<W0.heap.size:=Ae U.o.v.sx;have lo:w.heap.size+1<W0.heap.size:=Ae U.o.v.ox;have r:=U.o.v.sx.frozen;have i:=U.o.v.sx.cell 0;simp [AS] at i;go_region;go_upto_region 3 with fail;go_cut [28] (fun v wx=>v=.bool (decide (t.sort=2∨t.sort=4))∧dJ (Ar W0.heap.size #[.string t.i6,.int .i64 t.pos,.int .i64 t.sort] 64 wx)∧dJ (VG j p w.heap.size (w.heap.size+1) g n A f B C R (AS s A0 A0 A0) zS A0 s.args w wx))
 case first=>
  have hs:(t.sort=2∧((t.sort:Int)==2)=true)∨(t.sort=4∧((t.sort:Int)==2)=false∧((t.sort:Int)==4)=true)∨((¬(t.sort=2∨t.sort=4))∧((t.sort:Int)==2)=false∧((t.sort:Int)==4)=false):=by
   by_cases h:t.sort=2
   ·simp [h]
   by_cases k:t.sort=4
   ·simp [k]
   ·simp;omega
  rcases hs with ⟨hs,c6⟩ | ⟨hs,c6,e8⟩ | ⟨hs,c6,e8⟩
  all_goals
   have HS:=Aa hs;clear hs;go_wp2_with fail;go_meet
   case rel=>exact ⟨by simp [HS.o],Ar.f8 (Ar.new _ _ _) (X:=fun _=>False) (by repeat (first | exact Ab.refl _ _ | refine Ab.drew ?_ | refine Ab.drewN ?_ _ | refine Ab.alloc ?_ _)) (fun q=>q),U.o.quiet (by repeat (first | exact Ab.refl _ _ | refine Ab.drew ?_ | refine Ab.drewN ?_ _ | refine Ab.alloc ?_ _))⟩
 case rest=>
 obtain ⟨rfl,d2,Y⟩:=hcut;have b0:=d2.o.cell 0;simp at b0;go_upto_if 28 with fail;go_cut [6] (fun v wx=>∃b:ByteArray,v=.string b∧dJ (b.toList=AJ (Ai f R.s9))∧dJ (VG j p w.heap.size (w.heap.size+1) g n A f B C R (AS s A0 A0 A0) zS A0 s.args w wx))
 case first=>
  by_cases hc:t.sort=2∨t.sort=4;all_goals
   have HS:=Aa hc;simp only [hc,decide_true,decide_false];clear hc;go_wp2_with fail;go_meet
   case rel=>exact ⟨_,rfl,by show _=_;rw [HT.o];simp [AJ,HS.o],Y.o.quiet (by repeat (first | exact Ab.refl _ _ | refine Ab.drew ?_ | refine Ab.drewN ?_ _ | refine Ab.alloc ?_ _))⟩
 case rest=>
  obtain ⟨b,rfl,HB,Y⟩:=hcut;clear HT;go_upto_block 0 with fail;go_cut [] (fun wx=>∃(y1:FS) (N:St) (a:Option Addr) (l c:Nat),dJ (VG j p w.heap.size (w.heap.size+1) g n A f B C N (AS y1 (.slice a l c) A0 A0) zS (.slice a l c) y1.args w wx)∧dJ (y=(y1,N)))
  case first=>
   have T:=HB.o;clear HB b0;by_cases V:b.toList=[110,101,119]
   ·have e0:(b.toList==[110,101,119])=true:=beq_iff_eq.2 V;have S:=Aa (T.symm.trans V);clear V T;go_wp2_with fail;refine ((Y.o.quiet (by repeat (first | exact Ab.refl _ _ | refine Ab.drew ?_ | refine Ab.drewN ?_ _ | refine Ab.alloc ?_ _))).YD _ [110,101,119] (by simp)).mono ?_;rintro e w1 ⟨N,P,rfl,d⟩;have p0:=d.o.v.rd.l9.cell 3;have p1:=d.o.v.pr.l9.cell 2;have p2:=d.o.v.pr.l9.frozen 2;have i:=d.o.v.sx.cell 0;have a9:=d.o.v.sx.cell 9;have r:=d.o.v.sx.frozen;simp [AS] at p0 p1 i a9;obtain ⟨n1,n2,n3,n4,n5,n6,n7,n8,n9⟩:=d.o.v.YP;have f0:N.pl≤4001:=by rw [←P.o];exact e7
    go_wp2_with fail;go_meet
    case rel=> refine ⟨{s with kind:=2,i9:=N.pl+1},⟨N.s9,N.Ya,N.pl+1,N.ca⟩,none,0,0,?_,by show _=_;rw [←Z.o];simp [Dh,S.o,P.o]⟩;exact ((d.o.Yo 0 (.int .i64 2)).Zj (u:=(N.pl:Int)+1) (m:=N.pl+1) (by omega)).Yo 9 (.int .i64 ((N.pl:Int)+1))
   have e0:(b.toList==[110,101,119])=false:=beq_eq_false_iff_ne.2 V;by_cases h1:b.toList=[38]
   ·have e1:(b.toList==[38])=true:=beq_iff_eq.2 h1;have S:=Aa (T.symm.trans h1);clear V h1 T;go_wp2_with fail;refine ((Y.o.quiet (by repeat (first | exact Ab.refl _ _ | refine Ab.drew ?_ | refine Ab.drewN ?_ _ | refine Ab.alloc ?_ _))).YD _ [38] (by simp)).mono ?_;rintro e w1 ⟨N,P,rfl,d⟩;have x:=d.o.v.sx.cell 4;have z:=d.o.v.sx.cell 5;have L:=d.o.v.sx.cell 6;have i:=d.o.v.sx.cell 0;have r:=d.o.v.sx.frozen;simp [AS] at i x z L;go_wp2_with fail;clear i x z L r;refine ((d.o.Yo 0 (.int .i64 3)).get 1 (by decide)).mono ?_;rintro e w2 ⟨O,x2,b2,rfl,M⟩;unfold HJ;have x:=M.o.v.sx.cell 4;have z:=M.o.v.sx.cell 5;have L:=M.o.v.sx.cell 6;have i:=M.o.v.sx.cell 0;have r:=M.o.v.sx.frozen;simp [AS] at i x z L;go_wp2_with fail;clear i x z L r;refine ((((M.o.Yo 4 (.string O.i6)).Yo 5 (.int .i64 O.pos)).Yo 6 (.int .i64 O.sort)).i8 _ [46] (by simp)).mono ?_;rcases hd:Bn x2.Ya (Ai f x2.s9) [46] with _ | _
    ·rintro e w3 ⟨rfl,Q⟩;go_wp2_with fail;go_meet
     case rel=>exact ⟨{s with kind:=3,q:=O},_,none,0,0,Q.o.quiet (by repeat (first | exact Ab.refl _ _ | refine Ab.drew ?_ | refine Ab.drewN ?_ _ | refine Ab.alloc ?_ _)),by show _=_;rw [←Z.o];simp [Dh,S.o,P.o,b2.o,hd]⟩
    ·rintro e w3 ⟨rfl,Q⟩;go_wp2_with fail;refine (Q.o.YD _ [46] (by simp)).mono ?_;rintro e w4 ⟨x3,b5,rfl,b6⟩;have i:=b6.o.v.sx.cell 0;have r:=b6.o.v.sx.frozen;simp [AS] at i;go_wp2_with fail;clear i r;refine ((b6.o.Yo 0 (.int .i64 4)).get 3 (by decide)).mono ?_;rintro e w5 ⟨W,x4,b7,rfl,b1⟩;unfold HJ;have b8:dJ (y=({s with kind:=4,q:=O,field:=Nq W.i6.toList s.field 4},x4)):=by show _=_;rw [←Z.o];simp [Dh,S.o,P.o,b2.o,hd,b5.o,b7.o]
     clear hd Z;go_wp2;go_loopw [9] (fun kv wr=>∃k:Nat,k≤4∧kv=.int .i64 k∧dJ (VG j p w.heap.size (w.heap.size+1) g n A f B C x4 (AS {s with kind:=4,q:=O,field:=Nq W.i6.toList s.field k} A0 A0 A0) zS A0 s.args w wr)∧dJ (Ar w5.heap.size #[.string W.i6,.int .i64 W.pos,.int .i64 W.sort] 64 wr)) (fun kv _=>4-(intOf kv).toNat)
     case atStart=>exact ⟨0,by omega,rfl,b1.o.quiet ((Ab.refl _ _).alloc _),Ar.new _ _ _⟩
     case round=>
      obtain ⟨k,hk,rfl,b3,HB⟩:=hrel;by_cases e6:k=4
      ·subst e6;go_wp2_with fail;go_meet
       case rel=>exact ⟨_,_,_,_,_,b3.o,b8.o⟩
      ·have b0:=HB.o.cell 0;have a7:=b3.o.v.sx.cell 7;have r:=b3.o.v.sx.frozen;simp [AS] at b0 a7;have c5:=WQ k (by omega);have d4:=Aa (HB.o.ne b3.o.v.sx (by decide));have c1:=Aa (fun (m:Nat)=>HB.o.f8 ((Ab.refl (fun _=>False) _).drewN m) (fun q=>q));have c2:=Aa (fun (m:Nat)=>b3.o.quiet ((Ab.refl _ _).drewN m));by_cases hl:W.i6.toList=[UInt8.ofNat (48+k)];all_goals
        have hq:(W.i6.toList==(({data:=#[48,49,50,51]}:ByteArray).extract k (k+1)).toList)=decide (W.i6.toList=[UInt8.ofNat (48+k)]):=by rw [c5,Bool.eq_iff_iff];simp
        have b9:Nq W.i6.toList s.field (k+1)=if W.i6.toList=[UInt8.ofNat (48+k)] then k else Nq W.i6.toList s.field k:=rfl
        first | rw [cU hl] at b9;rw [decide_eq_true hl] at hq | rw [cT hl] at b9;rw [decide_eq_false hl] at hq
        have d3:=Aa b9;clear c5 hl b9;go_wp2_with fail;go_quiet (fail);go_wp2_with fail
       all_goals
        go_roundw
        case rel=>
         refine ⟨k+1,by omega,by simp,?_,?_⟩
         ·rw [d3.o];first | exact (c2.o _).Yo 7 (.int .i64 k) | exact c2.o _
         ·first | exact (c1.o _).Yt 7 (.int .i64 k) d4.o | exact c1.o _
        case measure=>simp [intOf];omega
   have e1:(b.toList==[38])=false:=beq_eq_false_iff_ne.2 h1;by_cases h2:b.toList=[42]
   ·have e2:(b.toList==[42])=true:=beq_iff_eq.2 h2;have S:=Aa (T.symm.trans h2);clear V h1 h2 T;go_wp2_with fail;refine ((Y.o.quiet (by repeat (first | exact Ab.refl _ _ | refine Ab.drew ?_ | refine Ab.drewN ?_ _ | refine Ab.alloc ?_ _))).YD _ [42] (by simp)).mono ?_;rintro e w1 ⟨N,P,rfl,d⟩;have x:=d.o.v.sx.cell 4;have z:=d.o.v.sx.cell 5;have L:=d.o.v.sx.cell 6;have i:=d.o.v.sx.cell 0;have r:=d.o.v.sx.frozen;simp [AS] at i x z L;go_wp2_with fail;clear i x z L r;refine ((d.o.Yo 0 (.int .i64 5)).get 1 (by decide)).mono ?_;rintro e w2 ⟨O,x2,b2,rfl,M⟩;unfold HJ;have x:=M.o.v.sx.cell 4;have z:=M.o.v.sx.cell 5;have L:=M.o.v.sx.cell 6;have i:=M.o.v.sx.cell 0;have r:=M.o.v.sx.frozen;simp [AS] at i x z L;go_wp2_with fail;clear i x z L r;go_meet
    case rel=>exact ⟨{s with kind:=5,q:=O},_,none,0,0,((M.o.Yo 4 (.string O.i6)).Yo 5 (.int .i64 O.pos)).Yo 6 (.int .i64 O.sort),by show _=_;rw [←Z.o];simp [Dh,S.o,P.o,b2.o]⟩
   have e2:(b.toList==[42])=false:=beq_eq_false_iff_ne.2 h2;by_cases h3:b.toList=[64]
   ·have e3:(b.toList==[64])=true:=beq_iff_eq.2 h3;have S:=Aa (T.symm.trans h3);clear V h1 h2 h3 T;go_wp2_with fail;refine ((Y.o.quiet (by repeat (first | exact Ab.refl _ _ | refine Ab.drew ?_ | refine Ab.drewN ?_ _ | refine Ab.alloc ?_ _))).YD _ [64] (by simp)).mono ?_;rintro e w1 ⟨N,P,rfl,d⟩;have x:=d.o.v.sx.cell 4;have z:=d.o.v.sx.cell 5;have L:=d.o.v.sx.cell 6;have i:=d.o.v.sx.cell 0;have r:=d.o.v.sx.frozen;simp [AS] at i x z L;go_wp2_with fail;clear i x z L r;refine ((d.o.Yo 0 (.int .i64 6)).get 1 (by decide)).mono ?_;rintro e w2 ⟨O,x2,b2,rfl,M⟩;unfold HJ;have x:=M.o.v.sx.cell 4;have z:=M.o.v.sx.cell 5;have L:=M.o.v.sx.cell 6;have i:=M.o.v.sx.cell 0;have r:=M.o.v.sx.frozen;simp [AS] at i x z L;go_wp2_with fail;clear i x z L r;go_meet
    case rel=>exact ⟨{s with kind:=6,q:=O},_,none,0,0,((M.o.Yo 4 (.string O.i6)).Yo 5 (.int .i64 O.pos)).Yo 6 (.int .i64 O.sort),by show _=_;rw [←Z.o];simp [Dh,S.o,P.o,b2.o]⟩
   have e3:(b.toList==[64])=false:=beq_eq_false_iff_ne.2 h3;by_cases h4:b.toList=[40]
   ·have e4:(b.toList==[40])=true:=beq_iff_eq.2 h4;have S:=Aa (T.symm.trans h4);clear V h1 h2 h3 h4 T;go_wp2_with fail;refine ((Y.o.quiet (by repeat (first | exact Ab.refl _ _ | refine Ab.drew ?_ | refine Ab.drewN ?_ _ | refine Ab.alloc ?_ _))).YD _ [40] (by simp)).mono ?_;rintro e w1 ⟨N,P,rfl,d⟩;have x:=d.o.v.sx.cell 4;have z:=d.o.v.sx.cell 5;have L:=d.o.v.sx.cell 6;have i:=d.o.v.sx.cell 0;have r:=d.o.v.sx.frozen;simp [AS] at i x z L;go_wp2_with fail;clear i x z L r;refine ((d.o.Yo 0 (.int .i64 9)).YD _ [42] (by simp)).mono ?_;rintro e w2 ⟨x2,b2,rfl,M⟩;go_wp2_with fail;refine (M.o.get 1 (by decide)).mono ?_;rintro e w3 ⟨q3,x3,b5,rfl,Q⟩;unfold HJ;have x:=Q.o.v.sx.cell 4;have z:=Q.o.v.sx.cell 5;have L:=Q.o.v.sx.cell 6;have i:=Q.o.v.sx.cell 0;have r:=Q.o.v.sx.frozen;simp [AS] at i x z L;go_wp2_with fail;clear i x z L r;refine ((((Q.o.Yo 4 (.string q3.i6)).Yo 5 (.int .i64 q3.pos)).Yo 6 (.int .i64 q3.sort)).YD _ [41] (by simp)).mono ?_;rintro e w4 ⟨x4,b7,rfl,b6⟩;go_wp2_with fail;refine (b6.o.YD _ [40] (by simp)).mono ?_;rintro e w5 ⟨x5,c3,rfl,b1⟩;have e9:x5.ca≤4001:=by rw [←c3.o,←b7.o,show x3=(Bq f 1 x2).2 from (congrArg Prod.snd b5.o).symm,←b2.o,←P.o];exact e5
    obtain ⟨n1,n2,n3,n4,n5,n6,n7,n8,n9⟩:=b1.o.v.YP;have p0:=b1.o.v.rd.l9.cell 3;have p1:=b1.o.v.pr.l9.cell 3;have p2:=b1.o.v.pr.l9.frozen 3;have a9:=b1.o.v.sx.cell 9;have r:=b1.o.v.sx.frozen;simp [AS] at p0 p1 a9;go_wp2_with fail;clear p0 p1 p2 a9 r n1 n2 n3 n4 n5 n6 n7 n8 n9;refine ((b1.o.Zi (u:=(x5.ca:Int)+1) (m:=x5.ca+1) (by omega)).Yo 9 (.int .i64 ((x5.ca:Int)+1))).list.mono ?_;rintro e w7 ⟨q7,x7,v1,v2,v3,c0,rfl,b4⟩;have a8:=b4.o.v.sx.cell 8;have r:=b4.o.v.sx.frozen;simp [AS] at a8;go_wp2_with fail;go_meet
    case rel=>exact ⟨{s with kind:=9,q:=q3,i9:=x5.ca+1,args:=q7},_,v1,v2,v3,b4.o.Yo 8 (.slice v1 v2 v3),by show _=_;rw [←Z.o];simp [Dh,S.o,P.o,b2.o,b5.o,b7.o,c3.o,c0.o]⟩
   have e4:(b.toList==[40])=false:=beq_eq_false_iff_ne.2 h4;rw [T] at V h1 h2 h3 h4;have S:=Aa (And.intro V (And.intro h1 (And.intro h2 (And.intro h3 h4))));clear V h1 h2 h3 h4 T;have i:=Y.o.v.sx.cell 0;have r:=Y.o.v.sx.frozen;simp [AS] at i;go_wp2_with fail;clear i r;refine (((Y.o.Yo 0 (.int .i64 7)).quiet (by repeat (first | exact Ab.refl _ _ | refine Ab.drew ?_ | refine Ab.drewN ?_ _ | refine Ab.alloc ?_ _))).get 1 (by decide)).mono ?_;rintro e w1 ⟨q1,N,P,rfl,d⟩;unfold HJ;have x:=d.o.v.sx.cell 4;have z:=d.o.v.sx.cell 5;have L:=d.o.v.sx.cell 6;have i:=d.o.v.sx.cell 0;have r:=d.o.v.sx.frozen;simp [AS] at i x z L;go_wp2_with fail;clear i x z L r;refine ((((d.o.Yo 4 (.string q1.i6)).Yo 5 (.int .i64 q1.pos)).Yo 6 (.int .i64 q1.sort)).i8 _ [40] (by simp)).mono ?_;rcases hd:Bn N.Ya (Ai f N.s9) [40] with _ | _
   ·rintro e w2 ⟨rfl,M⟩;go_wp2_with fail;go_meet
    case rel=>exact ⟨{s with kind:=7,q:=q1},_,none,0,0,M.o.quiet (by repeat (first | exact Ab.refl _ _ | refine Ab.drew ?_ | refine Ab.drewN ?_ _ | refine Ab.alloc ?_ _)),by show _=_;rw [←Z.o];simp [Dh,S.o,P.o,hd]⟩
   ·rintro e w2 ⟨rfl,M⟩;go_wp2_with fail;refine (M.o.YD _ [40] (by simp)).mono ?_;rintro e w3 ⟨x3,b5,rfl,Q⟩;have i:=Q.o.v.sx.cell 0;have r:=Q.o.v.sx.frozen;simp [AS] at i;go_wp2_with fail;clear i r;refine (Q.o.Yo 0 (.int .i64 8)).list.mono ?_;rintro e w7 ⟨q7,x7,v1,v2,v3,c0,rfl,b4⟩;have a8:=b4.o.v.sx.cell 8;have r:=b4.o.v.sx.frozen;simp [AS] at a8;go_wp2_with fail;go_meet
    case rel=>exact ⟨{s with kind:=8,q:=q1,args:=q7},_,v1,v2,v3,b4.o.Yo 8 (.slice v1 v2 v3),by show _=_;rw [←Z.o];simp [Dh,S.o,P.o,hd,b5.o,c0.o]⟩
  case rest=>
   obtain ⟨y1,N,za,zl,zc,b3,b8⟩:=hcut;have HP:=Aa (b3.o.post rfl b8.o);have o:=b3.o.v;obtain ⟨n1,n2,n3,n4,n5,n6,n7,n8,n9⟩:=o.YP;have i:=o.sx.cell 0;have a1:=o.sx.cell 1;have a2:=o.sx.cell 2;have a3:=o.sx.cell 3;have x:=o.sx.cell 4;have z:=o.sx.cell 5;have L:=o.sx.cell 6;have a7:=o.sx.cell 7;have a8:=o.sx.cell 8;have a9:=o.sx.cell 9;have d5:=o.sx.cell 10;have d6:=o.sx.cell 11;have d7:=o.sx.cell 12;have d8:=o.sx.cell 13;have d9:=o.sx.cell 14;have o0:=o.ox.cell 0;have o1:=o.ox.cell 1;have o2:=o.ox.cell 2;have o3:=o.ox.cell 3;have o4:=o.ox.cell 4;have o5:=o.ox.cell 5;have o6:=o.ox.cell 6;have o7:=o.ox.cell 7;have o8:=o.ox.cell 8;have o9:=o.ox.cell 9;have c7:=o.ox.cell 10;have c8:=o.ox.cell 11;have c9:=o.ox.cell 12;have d0:=o.ox.cell 13;have d1:=o.ox.cell 14;have r:=o.sx.frozen;have fo:=o.ox.frozen;simp [AS] at i a1 a2 a3 x z L a7 a8 a9 d5 d6 d7 d8 d9 o0 o1 o2 o3 o4 o5 o6 o7 o8 o9 c7 c8 c9 d0 d1;clear o Z b8;go_wp2;refine bC (v:=.agg (AS y1 (.slice za zl zc) A0 A0)) (by simp [results,Tryz.results89,go_sem,AS,o0,o1,o2,o3,o4,o5,o6,o7,o8,o9,c7,c8,c9,d0,d1]) rfl ?_;refine HP.o _ ?_;iterate 15 refine Ab.p7 ?_ _ _
   exact Ab.refl _ _
theorem Tryz.infoSt:(Tryz.prog.info? 119).map (fun i=>(i.zero,i.size,i.bytes))=some (some (.agg zS),15,184):=by kernel_rfl
theorem Qx:∀u∈zS.toList,u.oneCell'=true:=by intro u a;simp at a;rcases a with rfl | rfl | rfl | rfl | rfl | rfl | rfl | rfl | rfl<;>rfl
theorem BA.f8{B}{U:Nat→Prop}{w w' sv j}{X:Nat→Prop}(h:BA B U w sv j)(b:Ab X w w')(r:∀k,sv.ownBlock=some k→¬X k)(u:∀k a t c,X k→w.heap[k]? =some (.cells a t c)→t≠3∧t≠64):BA B U w' sv j:=by obtain ⟨a,q,n,o⟩:=h;exact ⟨a,Ac q b r,n,fun i e g=>(o i e g).f8 b u⟩
theorem BA.Zg{B}{U:Nat→Prop}{w w' sv j}{X:Nat→Prop}(h:BA B U w sv j)(a:Ab X w w')(q:∀k,sv.ownBlock=some k→¬X k)(r:∀k,U k→¬X k):BA B U w' sv j:=by obtain ⟨b,o,g,n⟩:=h;exact ⟨b,Ac o a q,g,fun i c e=>(n i c e).Zg a r⟩
theorem BA.more{B}{U U':Nat→Prop}{w sv j}(h:BA B U w sv j)(o:∀k,U k→U' k):BA B U' w sv j:=by obtain ⟨a,n,e,g⟩:=h;exact ⟨a,n,e,fun i b c=>(g i b c).more o⟩
structure SF(d f l g n p B:Nat)(U:Nat→Prop)(m:List Tk)(s sv:Value)(x:St)(j:List FS)(v:Array Value)(w:World):Prop where
 rd:AM d f g n p x.s9 x.Ya w
 tk:AP g n p m w
 pr:Cr f s sv x.pl x.ca w
 sx:Ar l v 119 w
 st:BA B U w sv j
 nb:∀k,sv.ownBlock=some k→k≠l
section
variable {d f l g n p B : Nat} {U : Nat → Prop} {m : List Tk} {s sv : Value} {x : St} {j : List FS} {v : Array Value} {w w' : World}
theorem SF.YP(h:SF d f l g n p B U m s sv x j v w):g≠d∧f≠d∧l≠d∧g≠f∧l≠f∧g≠l:=
 ⟨h.tk.ne h.rd (by decide),h.pr.l9.ne h.rd.l9 (by decide),h.sx.ne h.rd.l9 (by decide),h.tk.ne h.pr (by decide),h.sx.ne h.pr.l9 (by decide),h.tk.ne h.sx (by decide)⟩
theorem SF.YX(h:SF d f l g n p B U m s sv x j v w):∀k,sv.ownBlock=some k→k≠d∧k≠f∧k≠l:=by intro k a;obtain ⟨c,b,_⟩:=h.st;exact ⟨Ap b h.rd (by decide) k a,Ap b h.pr (by decide) k a,h.nb k a⟩
theorem SF.call{c b}(h:SF d f l g n p B U m s sv x j v w)(e:Ab (fun k=>k=d) w w')(r:AM d f g n p c b w'):SF d f l g n p B U m s sv ⟨c,b,x.pl,x.ca⟩ j v w':=by have i:=h.YP;refine ⟨r,h.tk.f8 e i.1,h.pr.l9.f8 e i.2.1,h.sx.f8 e i.2.2.1,h.st.f8 e (fun k a=>(h.YX k a).1) ?_,h.nb⟩;intro k u t y a q;have a:k=d:=a;subst a;have o:w.heap[k]? =_:=h.rd;rw [q] at o;simp only [bA,bH] at o;rw [o.2.1];decide
theorem SF.quiet(h:SF d f l g n p B U m s sv x j v w)(a:Ab (fun _=>False) w w'):SF d f l g n p B U m s sv x j v w':=
 ⟨h.rd.f8 a (fun q=>q),h.tk.f8 a (fun q=>q),h.pr.l9.f8 a (fun q=>q),h.sx.f8 a (fun q=>q),h.st.f8 a (fun _ _ q=>q) (fun _ _ _ _ q=>q.elim),h.nb⟩
theorem SF.Yo(h:SF d f l g n p B U m s sv x j v w)(i u):SF d f l g n p B U m s sv x j (v.setIfInBounds i u) (w.setCell ⟨l,i,none⟩ u):=by have b:=h.YP;have e:=(Ab.refl (fun k=>k=l) w).p7 i u;refine ⟨h.rd.l9.Yt i u b.2.2.1.symm,h.tk.f8 e b.2.2.2.2.2,h.pr.l9.Yt i u b.2.2.2.2.1.symm,h.sx.set i u,h.st.f8 e (fun k a=>(h.YX k a).2.2) ?_,h.nb⟩;intro k q t r a o;have a:k=l:=a;subst a;have c:w.heap[k]? =_:=h.sx;rw [o] at c;simp only [bA,bH] at c;rw [c.2.1];decide
theorem SF.YD{L a}(h:SF d f l g n p B U m s sv x j v w)(e:Au m L x=a)(b:Ab (fun k=>k=d) w w')(c:AM d f g n p (EN m x.s9 x.Ya L).1 (EN m x.s9 x.Ya L).2 w'):SF d f l g n p B U m s sv a j v w':=by subst e;exact h.call b c
theorem SF.get{k q a}(h:SF d f l g n p B U m s sv x j v w)(i:Bq m k x=(q,a))(b:Ab (fun k=>k=d) w w')(c:AM d f g n p (Dg m x.s9 x.Ya k).2.1 (Dg m x.s9 x.Ya k).2.2 w'):SF d f l g n p B U m s sv a j v w':=by have e:a=⟨(Dg m x.s9 x.Ya k).2.1,(Dg m x.s9 x.Ya k).2.2,x.pl,x.ca⟩:=(congrArg Prod.snd i).symm;subst e;exact h.call b c
end
structure EW(d f:Nat)(sv sv':Value)(w w':World):Prop where
 f8:Ab (fun k=>k=d∨k=f∨sv.ownBlock=some k) w w'
 own:∀k,sv'.ownBlock=some k→sv.ownBlock=some k∨w.heap.size≤k
theorem EW.refl(d f sv w):EW d f sv sv w w:=⟨Ab.refl _ _,fun _ h=>.inl h⟩
theorem EW.trans{d f:Nat}{a b c:Value}{w o r:World}(h:EW d f a b w o)(k:EW d f b c o r):EW d f a c w r:=by
 refine ⟨⟨k.f8.os.trans h.f8.os,k.f8.tape.trans h.f8.tape,k.f8.output.trans h.f8.output,bJ h.f8.size k.f8.size,fun i e g=>?_⟩,fun i e=>?_⟩
 ·rw [k.f8.block i (bL e h.f8.size) ?_,h.f8.block i e g];rintro (q | q | q)
  ·exact g (.inl q)
  ·exact g (.inr (.inl q))
  ·rcases h.own i q with n | n
   ·exact g (.inr (.inr n))
   ·omega
 ·rcases k.own i e with q | q
  ·exact h.own i q
  ·exact .inr (bJ h.f8.size q)
theorem EW.Yu{d f sv w w'}(h:Ab (fun k=>k=d∨k=f) w w'):EW d f sv sv w w':=
 ⟨h.mono (fun _ _ q=>q.elim .inl (fun r=>.inr (.inl r))),fun _ h=>.inl h⟩
theorem EW.Yc{d f b sv a w w'}(h:EW d f sv a w w')(i u)(c:w.heap.size≤b):EW d f sv a w (w'.setCell ⟨b,i,none⟩ u):=⟨h.f8.Yc i u c,h.own⟩
theorem EW.alloc{d f sv a w w'}(h:EW d f sv a w w')(o):EW d f sv a w (w'.alloc o):=⟨h.f8.alloc o,h.own⟩
theorem EW.drew{d f sv a w w'}(h:EW d f sv a w w'):EW d f sv a w w'.drew:=⟨h.f8.drew,h.own⟩
theorem EW.drewN{d f sv a w w'}(h:EW d f sv a w w')(n):EW d f sv a w (w'.drewN n):=⟨h.f8.drewN n,h.own⟩
theorem EW.tr{d f sv a w w' b}(h:EW d f sv a w w')(k:Ab (fun k=>k=d) w' b):EW d f sv a w b:=h.trans (EW.Yu (k.mono (fun _ _ q=>.inl q)))
end Go.Proofs.YthppbgndiplgnaaGreatDoor

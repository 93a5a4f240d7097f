/- One of the texts of the proof of texts_card_holds: RdG RdJ RdK. -/
import Derived.Test.YtmaankfbhhbeoaaGreatDoorG10
import Derived.Deep.CutBlock
set_option maxRecDepth 100000
set_option maxHeartbeats 40000000
namespace Go.Proofs.YtmaankfbhhbeoaaGreatDoor
open Go.RowKit
theorem L3(k)(h:k<4):(({data:=#[48,49,50,51]}:ByteArray).extract k (k+1)).toList=[UInt8.ofNat (48+k)]:=by
 have:k=0∨k=1∨k=2∨k=3:=by omega
 rcases this with rfl | rfl | rfl | rfl<;>decide+kernel
structure VG(j p F E g n A:Nat)(f:List Tk)(B C:Value)(x:St)(J I:Array Value)(H:Value)(G:List Tk)(D w:World):Prop where
 v:VF j p F E g n A f B C x J I w
 o:Ab (fun k=>k=j∨k=p) D w
 b:D.heap.size≤F
 d:D.heap.size≤E
 c:x.i9<n
 z:(Ai f (n-1)).sort=0
 r:w.ownsRow D.heap.size 52 3 H G.length (A3 G)
section
variable {j p F E g n A : Nat} {f : List Tk} {B C : Value} {x : St} {J I : Array Value} {H : Value} {G : List Tk} {D w K : World}
theorem VG.quiet(h:VG j p F E g n A f B C x J I H G D w)(a:Ab (fun _=>False) w K):VG j p F E g n A f B C x J I H G D K:=
 ⟨h.v.quiet a,h.o.t8 a,h.b,h.d,h.c,h.z,Ac h.r a (fun _ _ q=>q)⟩
theorem VG.m9(h:VG j p F E g n A f B C x J I H G D w)(i u):VG j p F E g n A f B C x (J.setIfInBounds i u) I H G D (w.setCell ⟨F,i,none⟩ u):=
 ⟨h.v.m9 i u,h.o.l9 i u h.b,h.b,h.d,h.c,h.z,Am h.r ((Ab.refl _ _).i7 i u) (BD h.v.sx (by decide))⟩
theorem VG.MF(h:VG j p F E g n A f B C x J I H G D w){u:Int}{m:Nat}(a:u=m):VG j p F E g n A f B C ⟨x.i9,x.l6,m,x.ca⟩ J I H G D (w.setCell ⟨p,2,none⟩ (.int .i64 u)):=
 ⟨h.v.MV a,h.o.ML 2 _,h.b,h.d,h.c,h.z,Am h.r ((Ab.refl _ _).i7 2 _) (BD h.v.pr.i6 (by decide))⟩
theorem VG.ME(h:VG j p F E g n A f B C x J I H G D w){u:Int}{m:Nat}(a:u=m):VG j p F E g n A f B C ⟨x.i9,x.l6,x.pl,m⟩ J I H G D (w.setCell ⟨p,3,none⟩ (.int .i64 u)):=
 ⟨h.v.MU a,h.o.ML 3 _,h.b,h.d,h.c,h.z,Am h.r ((Ab.refl _ _).i7 3 _) (BD h.v.pr.i6 (by decide))⟩
theorem VG.d8(h:VG j p F E g n A f B C x J I H G D w)(v l)(a:v.toList=l):
 Calls Tryz.prog 45 #[.pointer (some ⟨j,0,none⟩),.string v] w fun e K=>e=.returned (.bool (AW x.l6 (Ai f x.i9) l))∧Nj (VG j p F E g n A f B C x J I H G D K):=
 (Jm j p g n A x.i9 x.l6 f v l a w h.v.rd h.v.tk h.c).mono (fun _ _ q=>⟨q.1,h.quiet q.2⟩)
theorem VG.s8(h:VG j p F E g n A f B C x J I H G D w)(v l)(b:v.toList=l):
 Calls Tryz.prog 27 #[.pointer (some ⟨j,0,none⟩),.string v] w fun e K=>∃a,Nj (Ao f l x=a)∧e=.returned (.tuple #[])∧Nj (VG j p F E g n A f B C a J I H G D K):=
 (EG j p g n A x.i9 x.l6 f v l b w h.v.rd h.v.tk h.c).mono (fun _ _ q=>⟨_,rfl,q.1,h.v.s8 rfl q.2.2 q.2.1,h.o.tr q.2.2,h.b,h.d,Bo rfl h.z h.c,h.z,Am h.r q.2.2 (BD h.v.rd.i6 (by decide))⟩)
theorem VG.get(h:VG j p F E g n A f B C x J I H G D w)(k:Nat)(b:k≠0):
 Calls Tryz.prog 28 #[.pointer (some ⟨j,0,none⟩),.int .i64 k] w fun e K=>∃q a,Nj (Bc f k x=(q,a))∧e=.returned (EW q)∧Nj (VG j p F E g n A f B C a J I H G D K):=
 (FE j p g n A x.i9 k x.l6 f w h.v.rd h.v.tk h.c).mono (fun _ _ q=>⟨_,_,rfl,q.1,h.v.get rfl q.2.2 q.2.1,h.o.tr q.2.2,h.b,h.d,C5 rfl b h.z h.c,h.z,Am h.r q.2.2 (BD h.v.rd.i6 (by decide))⟩)
theorem VG.list(h:VG j p F E g n A f B C x J I H G D w):
 Calls Tryz.prog 29 #[.pointer (some ⟨j,0,none⟩)] w fun e K=>∃q i a l c,Nj (Bv f x=(q,i))∧e=.returned (.slice a l c)∧Nj (VG j p F E g n A f B C i J I (.slice a l c) q D K):=by
 refine (Iu j p g n A x.i9 x.l6 f w h.v.rd h.v.tk h.c h.z).mono ?_;rintro e K ⟨v,rfl,d,k,b⟩;obtain ⟨a,l,c,rfl⟩:=Af d;exact ⟨_,_,a,l,c,rfl,rfl,h.v.list rfl b k,h.o.tr b,h.b,h.d,DB rfl h.z h.c,h.z,Ar d h.o.size⟩
theorem VG.post{y r}(h:VG j p F E g n A f B C x J I H G D w)(d:y.args=G)(i:r=(y,x))(W)(a:Ab (fun k=>k=E) w W):JO j p g n A f B C D r (.returned (.agg (Cr y H AG AG))) W:=by subst d i;have b:=h.v.u5;have l:=h.d;refine ⟨H,rfl,Am h.r a (BD h.v.ox (by decide)),h.v.rd.d7 a (Ne.symm b.2.2.2.1),h.v.tk.d7 a b.2.2.2.2.2.2.2.2,h.v.pr.i6.d7 a (Ne.symm b.2.2.2.2.2.2.1),a.os.trans h.o.os,a.tape.trans h.o.tape,a.output.trans h.o.output,Nat.le_trans h.o.size a.size,fun k c e=>?_⟩;rw [a.block k (Nat.lt_of_lt_of_le c h.o.size) (fun q=>by omega)];exact h.o.block k c e
end
theorem Ko(j p g n A f B C R s w)(hr:Ax j p g n A R.i9 R.l6 w)(ht:AA g n A f w)(hp:Bj p B C R.pl R.ca w)(c4:R.i9<n)(hz:(Ai f (n-1)).sort=0)(ha:s.args=[])(e7:R.pl≤4001)(e5:R.ca≤4001):
 Calls Tryz.prog 61 #[.pointer (some ⟨j,0,none⟩),.agg (Cr s AG AG AG)] w fun e K=>JO j p g n A f B C w (CM f R s) e K:=by
 have hn:=ht.2.2;have lr:=Ad hr;have lp:=Ad hp;have U:Nj (VG j p w.heap.size (w.heap.size+1) g n A f B C R (Cr s AG AG AG) zS AG s.args w ((w.alloc (.cells (Cr s AG AG AG) 87)).alloc (.cells zS 87))):=
  ⟨⟨(hr.i6.alloc _).alloc _,(ht.d7 (((Ab.refl (fun _=>False) w).alloc _).alloc _) (fun q=>q)),(hp.i6.alloc _).alloc _,(Aq.new _ _ _).alloc _,by have:=Aq.new (w.alloc (.cells (Cr s AG AG AG) 87)) zS 87;simpa using this,by omega⟩,((Ab.refl _ _).alloc _).alloc _,Nat.le_refl _,Nat.le_succ _,c4,hz,by rw [ha];exact World.ownsRow_nil _ _ _ _⟩
 obtain ⟨y,hy⟩:∃y,CM f R s=y:=⟨_,rfl⟩;rw [hy];have Z:=Aa hy;obtain ⟨t,HT⟩:∃t,Nj (Ai f R.i9=t):=⟨_,rfl⟩;clear hy hr ht hp hz ha;go_enter Tryz.func61,Tryz.ntmps61;go_wp2;generalize (w.alloc (.cells (Cr s AG AG AG) 87)).alloc (.cells zS 87)=W0 at U⊢;obtain ⟨t0,t1,t2⟩:=U.o.v.tk.cells c4;rw [HT.o] at t0 t1 t2;have r0:=U.o.v.rd.i6.cell 0;have r1:=U.o.v.rd.i6.cell 1;simp only [Ni,Ng,Nh] at r0 r1;have l0:=Ad U.o.v.rd;have l1:g<W0.heap.size:=(U.o.v.tk.1.lt g rfl).2;have ls:w.heap.size<W0.heap.size:=Ad U.o.v.sx;have lo:w.heap.size+1<W0.heap.size:=Ad U.o.v.ox;have r:=U.o.v.sx.frozen;have i:=U.o.v.sx.cell 0;simp [Cr] at i;go_region;go_upto_region 3 with fail;go_cut [28] (fun v wx=>v=.bool (decide (t.sort=2∨t.sort=4))∧Nj (Aq W0.heap.size #[.string t.d9,.int .i64 t.pos,.int .i64 t.sort] 52 wx)∧Nj (VG j p w.heap.size (w.heap.size+1) g n A f B C R (Cr s AG AG AG) zS AG s.args w wx))
 case first=>
  have hs:(t.sort=2∧((t.sort:Int)==2)=true)∨(t.sort=4∧((t.sort:Int)==2)=false∧((t.sort:Int)==4)=true)∨((¬(t.sort=2∨t.sort=4))∧((t.sort:Int)==2)=false∧((t.sort:Int)==4)=false):=by
   by_cases h:t.sort=2
   ·simp [h]
   by_cases k:t.sort=4
   ·simp [k]
   ·simp;omega
  rcases hs with ⟨hs,c6⟩ | ⟨hs,c6,e8⟩ | ⟨hs,c6,e8⟩
  all_goals
   have HS:=Aa hs;clear hs;go_wp2_with fail;go_meet
   case rel=>exact ⟨by simp [HS.o],Aq.d7 (Aq.new _ _ _) (X:=fun _=>False) (by repeat (first | exact Ab.refl _ _ | refine Ab.drew ?_ | refine Ab.drewN ?_ _ | refine Ab.alloc ?_ _)) (fun q=>q),U.o.quiet (by repeat (first | exact Ab.refl _ _ | refine Ab.drew ?_ | refine Ab.drewN ?_ _ | refine Ab.alloc ?_ _))⟩
 case rest=>
 obtain ⟨rfl,d2,Y⟩:=hcut;have b0:=d2.o.cell 0;simp at b0;go_upto_if 28 with fail;go_cut [6] (fun v wx=>∃b:ByteArray,v=.string b∧Nj (b.toList=AB (Ai f R.i9))∧Nj (VG j p w.heap.size (w.heap.size+1) g n A f B C R (Cr s AG AG AG) zS AG s.args w wx))
 case first=>
  by_cases hc:t.sort=2∨t.sort=4;all_goals
   have HS:=Aa hc;simp only [hc,decide_true,decide_false];clear hc;go_wp2_with fail;go_meet
   case rel=>exact ⟨_,rfl,by show _=_;rw [HT.o];simp [AB,HS.o],Y.o.quiet (by repeat (first | exact Ab.refl _ _ | refine Ab.drew ?_ | refine Ab.drewN ?_ _ | refine Ab.alloc ?_ _))⟩
 case rest=>
  obtain ⟨b,rfl,HB,Y⟩:=hcut;clear HT;go_upto_block 0 with fail;go_cut [] (fun wx=>∃(y1:FS) (N:St) (a:Option Addr) (l c:Nat),Nj (VG j p w.heap.size (w.heap.size+1) g n A f B C N (Cr y1 (.slice a l c) AG AG) zS (.slice a l c) y1.args w wx)∧Nj (y=(y1,N)))
  case first=>
   have T:=HB.o;clear HB b0;by_cases V:b.toList=[110,101,119]
   ·have e0:(b.toList==[110,101,119])=true:=beq_iff_eq.2 V;have S:=Aa (T.symm.trans V);clear V T;go_wp2_with fail;refine ((Y.o.quiet (by repeat (first | exact Ab.refl _ _ | refine Ab.drew ?_ | refine Ab.drewN ?_ _ | refine Ab.alloc ?_ _))).s8 _ [110,101,119] (by simp)).mono ?_;rintro e w1 ⟨N,P,rfl,d⟩;have p0:=d.o.v.rd.i6.cell 3;have p1:=d.o.v.pr.i6.cell 2;have p2:=d.o.v.pr.i6.frozen 2;have i:=d.o.v.sx.cell 0;have a9:=d.o.v.sx.cell 9;have r:=d.o.v.sx.frozen;simp [Cr] at p0 p1 i a9;obtain ⟨n1,n2,n3,n4,n5,n6,n7,n8,n9⟩:=d.o.v.u5;have f0:N.pl≤4001:=by rw [←P.o];exact e7
    go_wp2_with fail;go_meet
    case rel=> refine ⟨{s with kind:=2,f8:=N.pl+1},⟨N.i9,N.l6,N.pl+1,N.ca⟩,none,0,0,?_,by show _=_;rw [←Z.o];simp [CM,S.o,P.o]⟩;exact ((d.o.m9 0 (.int .i64 2)).MF (u:=(N.pl:Int)+1) (m:=N.pl+1) (by omega)).m9 9 (.int .i64 ((N.pl:Int)+1))
   have e0:(b.toList==[110,101,119])=false:=beq_eq_false_iff_ne.2 V;by_cases h1:b.toList=[38]
   ·have e1:(b.toList==[38])=true:=beq_iff_eq.2 h1;have S:=Aa (T.symm.trans h1);clear V h1 T;go_wp2_with fail;refine ((Y.o.quiet (by repeat (first | exact Ab.refl _ _ | refine Ab.drew ?_ | refine Ab.drewN ?_ _ | refine Ab.alloc ?_ _))).s8 _ [38] (by simp)).mono ?_;rintro e w1 ⟨N,P,rfl,d⟩;have x:=d.o.v.sx.cell 4;have z:=d.o.v.sx.cell 5;have L:=d.o.v.sx.cell 6;have i:=d.o.v.sx.cell 0;have r:=d.o.v.sx.frozen;simp [Cr] at i x z L;go_wp2_with fail;clear i x z L r;refine ((d.o.m9 0 (.int .i64 3)).get 1 (by decide)).mono ?_;rintro e w2 ⟨O,x2,b2,rfl,M⟩;unfold EW;have x:=M.o.v.sx.cell 4;have z:=M.o.v.sx.cell 5;have L:=M.o.v.sx.cell 6;have i:=M.o.v.sx.cell 0;have r:=M.o.v.sx.frozen;simp [Cr] at i x z L;go_wp2_with fail;clear i x z L r;refine ((((M.o.m9 4 (.string O.d9)).m9 5 (.int .i64 O.pos)).m9 6 (.int .i64 O.sort)).d8 _ [46] (by simp)).mono ?_;rcases hd:AW x2.l6 (Ai f x2.i9) [46] with _ | _
    ·rintro e w3 ⟨rfl,Q⟩;go_wp2_with fail;go_meet
     case rel=>exact ⟨{s with kind:=3,q:=O},_,none,0,0,Q.o.quiet (by repeat (first | exact Ab.refl _ _ | refine Ab.drew ?_ | refine Ab.drewN ?_ _ | refine Ab.alloc ?_ _)),by show _=_;rw [←Z.o];simp [CM,S.o,P.o,b2.o,hd]⟩
    ·rintro e w3 ⟨rfl,Q⟩;go_wp2_with fail;refine (Q.o.s8 _ [46] (by simp)).mono ?_;rintro e w4 ⟨x3,b5,rfl,b6⟩;have i:=b6.o.v.sx.cell 0;have r:=b6.o.v.sx.frozen;simp [Cr] at i;go_wp2_with fail;clear i r;refine ((b6.o.m9 0 (.int .i64 4)).get 3 (by decide)).mono ?_;rintro e w5 ⟨W,x4,b7,rfl,b1⟩;unfold EW;have b8:Nj (y=({s with kind:=4,q:=O,field:=Ih W.d9.toList s.field 4},x4)):=by show _=_;rw [←Z.o];simp [CM,S.o,P.o,b2.o,hd,b5.o,b7.o]
     clear hd Z;go_wp2;go_loopw [9] (fun kv wr=>∃k:Nat,k≤4∧kv=.int .i64 k∧Nj (VG j p w.heap.size (w.heap.size+1) g n A f B C x4 (Cr {s with kind:=4,q:=O,field:=Ih W.d9.toList s.field k} AG AG AG) zS AG s.args w wr)∧Nj (Aq w5.heap.size #[.string W.d9,.int .i64 W.pos,.int .i64 W.sort] 52 wr)) (fun kv _=>4-(intOf kv).toNat)
     case atStart=>exact ⟨0,by omega,rfl,b1.o.quiet ((Ab.refl _ _).alloc _),Aq.new _ _ _⟩
     case round=>
      obtain ⟨k,hk,rfl,b3,HB⟩:=hrel;by_cases e6:k=4
      ·subst e6;go_wp2_with fail;go_meet
       case rel=>exact ⟨_,_,_,_,_,b3.o,b8.o⟩
      ·have b0:=HB.o.cell 0;have a7:=b3.o.v.sx.cell 7;have r:=b3.o.v.sx.frozen;simp [Cr] at b0 a7;have c5:=L3 k (by omega);have d4:=Aa (HB.o.ne b3.o.v.sx (by decide));have c1:=Aa (fun (m:Nat)=>HB.o.d7 ((Ab.refl (fun _=>False) _).drewN m) (fun q=>q));have c2:=Aa (fun (m:Nat)=>b3.o.quiet ((Ab.refl _ _).drewN m));by_cases hl:W.d9.toList=[UInt8.ofNat (48+k)];all_goals
        have hq:(W.d9.toList==(({data:=#[48,49,50,51]}:ByteArray).extract k (k+1)).toList)=decide (W.d9.toList=[UInt8.ofNat (48+k)]):=by rw [c5,Bool.eq_iff_iff];simp
        have b9:Ih W.d9.toList s.field (k+1)=if W.d9.toList=[UInt8.ofNat (48+k)] then k else Ih W.d9.toList s.field k:=rfl
        first | rw [if_pos hl] at b9;rw [decide_eq_true hl] at hq | rw [if_neg hl] at b9;rw [decide_eq_false hl] at hq
        have d3:=Aa b9;clear c5 hl b9;go_wp2_with fail;go_quiet (fail);go_wp2_with fail
       all_goals
        go_roundw
        case rel=>
         refine ⟨k+1,by omega,by simp,?_,?_⟩
         ·rw [d3.o];first | exact (c2.o _).m9 7 (.int .i64 k) | exact c2.o _
         ·first | exact (c1.o _).r7 7 (.int .i64 k) d4.o | exact c1.o _
        case measure=>simp [intOf];omega
   have e1:(b.toList==[38])=false:=beq_eq_false_iff_ne.2 h1;by_cases h2:b.toList=[42]
   ·have e2:(b.toList==[42])=true:=beq_iff_eq.2 h2;have S:=Aa (T.symm.trans h2);clear V h1 h2 T;go_wp2_with fail;refine ((Y.o.quiet (by repeat (first | exact Ab.refl _ _ | refine Ab.drew ?_ | refine Ab.drewN ?_ _ | refine Ab.alloc ?_ _))).s8 _ [42] (by simp)).mono ?_;rintro e w1 ⟨N,P,rfl,d⟩;have x:=d.o.v.sx.cell 4;have z:=d.o.v.sx.cell 5;have L:=d.o.v.sx.cell 6;have i:=d.o.v.sx.cell 0;have r:=d.o.v.sx.frozen;simp [Cr] at i x z L;go_wp2_with fail;clear i x z L r;refine ((d.o.m9 0 (.int .i64 5)).get 1 (by decide)).mono ?_;rintro e w2 ⟨O,x2,b2,rfl,M⟩;unfold EW;have x:=M.o.v.sx.cell 4;have z:=M.o.v.sx.cell 5;have L:=M.o.v.sx.cell 6;have i:=M.o.v.sx.cell 0;have r:=M.o.v.sx.frozen;simp [Cr] at i x z L;go_wp2_with fail;clear i x z L r;go_meet
    case rel=>exact ⟨{s with kind:=5,q:=O},_,none,0,0,((M.o.m9 4 (.string O.d9)).m9 5 (.int .i64 O.pos)).m9 6 (.int .i64 O.sort),by show _=_;rw [←Z.o];simp [CM,S.o,P.o,b2.o]⟩
   have e2:(b.toList==[42])=false:=beq_eq_false_iff_ne.2 h2;by_cases h3:b.toList=[64]
   ·have e3:(b.toList==[64])=true:=beq_iff_eq.2 h3;have S:=Aa (T.symm.trans h3);clear V h1 h2 h3 T;go_wp2_with fail;refine ((Y.o.quiet (by repeat (first | exact Ab.refl _ _ | refine Ab.drew ?_ | refine Ab.drewN ?_ _ | refine Ab.alloc ?_ _))).s8 _ [64] (by simp)).mono ?_;rintro e w1 ⟨N,P,rfl,d⟩;have x:=d.o.v.sx.cell 4;have z:=d.o.v.sx.cell 5;have L:=d.o.v.sx.cell 6;have i:=d.o.v.sx.cell 0;have r:=d.o.v.sx.frozen;simp [Cr] at i x z L;go_wp2_with fail;clear i x z L r;refine ((d.o.m9 0 (.int .i64 6)).get 1 (by decide)).mono ?_;rintro e w2 ⟨O,x2,b2,rfl,M⟩;unfold EW;have x:=M.o.v.sx.cell 4;have z:=M.o.v.sx.cell 5;have L:=M.o.v.sx.cell 6;have i:=M.o.v.sx.cell 0;have r:=M.o.v.sx.frozen;simp [Cr] at i x z L;go_wp2_with fail;clear i x z L r;go_meet
    case rel=>exact ⟨{s with kind:=6,q:=O},_,none,0,0,((M.o.m9 4 (.string O.d9)).m9 5 (.int .i64 O.pos)).m9 6 (.int .i64 O.sort),by show _=_;rw [←Z.o];simp [CM,S.o,P.o,b2.o]⟩
   have e3:(b.toList==[64])=false:=beq_eq_false_iff_ne.2 h3;by_cases h4:b.toList=[40]
   ·have e4:(b.toList==[40])=true:=beq_iff_eq.2 h4;have S:=Aa (T.symm.trans h4);clear V h1 h2 h3 h4 T;go_wp2_with fail;refine ((Y.o.quiet (by repeat (first | exact Ab.refl _ _ | refine Ab.drew ?_ | refine Ab.drewN ?_ _ | refine Ab.alloc ?_ _))).s8 _ [40] (by simp)).mono ?_;rintro e w1 ⟨N,P,rfl,d⟩;have x:=d.o.v.sx.cell 4;have z:=d.o.v.sx.cell 5;have L:=d.o.v.sx.cell 6;have i:=d.o.v.sx.cell 0;have r:=d.o.v.sx.frozen;simp [Cr] at i x z L;go_wp2_with fail;clear i x z L r;refine ((d.o.m9 0 (.int .i64 9)).s8 _ [42] (by simp)).mono ?_;rintro e w2 ⟨x2,b2,rfl,M⟩;go_wp2_with fail;refine (M.o.get 1 (by decide)).mono ?_;rintro e w3 ⟨q3,x3,b5,rfl,Q⟩;unfold EW;have x:=Q.o.v.sx.cell 4;have z:=Q.o.v.sx.cell 5;have L:=Q.o.v.sx.cell 6;have i:=Q.o.v.sx.cell 0;have r:=Q.o.v.sx.frozen;simp [Cr] at i x z L;go_wp2_with fail;clear i x z L r;refine ((((Q.o.m9 4 (.string q3.d9)).m9 5 (.int .i64 q3.pos)).m9 6 (.int .i64 q3.sort)).s8 _ [41] (by simp)).mono ?_;rintro e w4 ⟨x4,b7,rfl,b6⟩;go_wp2_with fail;refine (b6.o.s8 _ [40] (by simp)).mono ?_;rintro e w5 ⟨x5,c3,rfl,b1⟩;have e9:x5.ca≤4001:=by rw [←c3.o,←b7.o,show x3=(Bc f 1 x2).2 from (congrArg Prod.snd b5.o).symm,←b2.o,←P.o];exact e5
    obtain ⟨n1,n2,n3,n4,n5,n6,n7,n8,n9⟩:=b1.o.v.u5;have p0:=b1.o.v.rd.i6.cell 3;have p1:=b1.o.v.pr.i6.cell 3;have p2:=b1.o.v.pr.i6.frozen 3;have a9:=b1.o.v.sx.cell 9;have r:=b1.o.v.sx.frozen;simp [Cr] at p0 p1 a9;go_wp2_with fail;clear p0 p1 p2 a9 r n1 n2 n3 n4 n5 n6 n7 n8 n9;refine ((b1.o.ME (u:=(x5.ca:Int)+1) (m:=x5.ca+1) (by omega)).m9 9 (.int .i64 ((x5.ca:Int)+1))).list.mono ?_;rintro e w7 ⟨q7,x7,v1,v2,v3,c0,rfl,b4⟩;have a8:=b4.o.v.sx.cell 8;have r:=b4.o.v.sx.frozen;simp [Cr] at a8;go_wp2_with fail;go_meet
    case rel=>exact ⟨{s with kind:=9,q:=q3,f8:=x5.ca+1,args:=q7},_,v1,v2,v3,b4.o.m9 8 (.slice v1 v2 v3),by show _=_;rw [←Z.o];simp [CM,S.o,P.o,b2.o,b5.o,b7.o,c3.o,c0.o]⟩
   have e4:(b.toList==[40])=false:=beq_eq_false_iff_ne.2 h4;rw [T] at V h1 h2 h3 h4;have S:=Aa (And.intro V (And.intro h1 (And.intro h2 (And.intro h3 h4))));clear V h1 h2 h3 h4 T;have i:=Y.o.v.sx.cell 0;have r:=Y.o.v.sx.frozen;simp [Cr] at i;go_wp2_with fail;clear i r;refine (((Y.o.m9 0 (.int .i64 7)).quiet (by repeat (first | exact Ab.refl _ _ | refine Ab.drew ?_ | refine Ab.drewN ?_ _ | refine Ab.alloc ?_ _))).get 1 (by decide)).mono ?_;rintro e w1 ⟨q1,N,P,rfl,d⟩;unfold EW;have x:=d.o.v.sx.cell 4;have z:=d.o.v.sx.cell 5;have L:=d.o.v.sx.cell 6;have i:=d.o.v.sx.cell 0;have r:=d.o.v.sx.frozen;simp [Cr] at i x z L;go_wp2_with fail;clear i x z L r;refine ((((d.o.m9 4 (.string q1.d9)).m9 5 (.int .i64 q1.pos)).m9 6 (.int .i64 q1.sort)).d8 _ [40] (by simp)).mono ?_;rcases hd:AW N.l6 (Ai f N.i9) [40] with _ | _
   ·rintro e w2 ⟨rfl,M⟩;go_wp2_with fail;go_meet
    case rel=>exact ⟨{s with kind:=7,q:=q1},_,none,0,0,M.o.quiet (by repeat (first | exact Ab.refl _ _ | refine Ab.drew ?_ | refine Ab.drewN ?_ _ | refine Ab.alloc ?_ _)),by show _=_;rw [←Z.o];simp [CM,S.o,P.o,hd]⟩
   ·rintro e w2 ⟨rfl,M⟩;go_wp2_with fail;refine (M.o.s8 _ [40] (by simp)).mono ?_;rintro e w3 ⟨x3,b5,rfl,Q⟩;have i:=Q.o.v.sx.cell 0;have r:=Q.o.v.sx.frozen;simp [Cr] at i;go_wp2_with fail;clear i r;refine (Q.o.m9 0 (.int .i64 8)).list.mono ?_;rintro e w7 ⟨q7,x7,v1,v2,v3,c0,rfl,b4⟩;have a8:=b4.o.v.sx.cell 8;have r:=b4.o.v.sx.frozen;simp [Cr] at a8;go_wp2_with fail;go_meet
    case rel=>exact ⟨{s with kind:=8,q:=q1,args:=q7},_,v1,v2,v3,b4.o.m9 8 (.slice v1 v2 v3),by show _=_;rw [←Z.o];simp [CM,S.o,P.o,hd,b5.o,c0.o]⟩
  case rest=>
   obtain ⟨y1,N,za,zl,zc,b3,b8⟩:=hcut;have HP:=Aa (b3.o.post rfl b8.o);have o:=b3.o.v;obtain ⟨n1,n2,n3,n4,n5,n6,n7,n8,n9⟩:=o.u5;have i:=o.sx.cell 0;have a1:=o.sx.cell 1;have a2:=o.sx.cell 2;have a3:=o.sx.cell 3;have x:=o.sx.cell 4;have z:=o.sx.cell 5;have L:=o.sx.cell 6;have a7:=o.sx.cell 7;have a8:=o.sx.cell 8;have a9:=o.sx.cell 9;have d5:=o.sx.cell 10;have d6:=o.sx.cell 11;have d7:=o.sx.cell 12;have d8:=o.sx.cell 13;have d9:=o.sx.cell 14;have o0:=o.ox.cell 0;have o1:=o.ox.cell 1;have o2:=o.ox.cell 2;have o3:=o.ox.cell 3;have o4:=o.ox.cell 4;have o5:=o.ox.cell 5;have o6:=o.ox.cell 6;have o7:=o.ox.cell 7;have o8:=o.ox.cell 8;have o9:=o.ox.cell 9;have c7:=o.ox.cell 10;have c8:=o.ox.cell 11;have c9:=o.ox.cell 12;have d0:=o.ox.cell 13;have d1:=o.ox.cell 14;have r:=o.sx.frozen;have fo:=o.ox.frozen;simp [Cr] at i a1 a2 a3 x z L a7 a8 a9 d5 d6 d7 d8 d9 o0 o1 o2 o3 o4 o5 o6 o7 o8 o9 c7 c8 c9 d0 d1;clear o Z b8;go_wp2;refine bodyPost_ret (v:=.agg (Cr y1 (.slice za zl zc) AG AG)) (by simp [results,Tryz.results61,go_sem,Cr,o0,o1,o2,o3,o4,o5,o6,o7,o8,o9,c7,c8,c9,d0,d1]) rfl ?_;refine HP.o _ ?_;iterate 15 refine Ab.i7 ?_ _ _
   exact Ab.refl _ _
theorem Tryz.infoSt:(Tryz.prog.info? 87).map (fun i=>(i.zero,i.size,i.bytes))=some (some (.agg zS),15,184):=by kernel_rfl
theorem Mc:∀u∈zS.toList,u.oneCell'=true:=by intro u a;simp at a;rcases a with rfl | rfl | rfl | rfl | rfl | rfl | rfl | rfl | rfl<;>rfl
theorem A2.d7{B}{U:Nat→Prop}{w j sv l}{X:Nat→Prop}(h:A2 B U w sv l)(b:Ab X w j)(r:∀k,sv.ownBlock=some k→¬X k)(u:∀k a t c,X k→w.heap[k]? =some (.cells a t c)→t≠3∧t≠52):A2 B U j sv l:=by obtain ⟨a,q,n,o⟩:=h;exact ⟨a,Ac q b r,n,fun i e g=>(o i e g).d7 b u⟩
theorem A2.MC{B}{U:Nat→Prop}{w j sv l}{X:Nat→Prop}(h:A2 B U w sv l)(a:Ab X w j)(q:∀k,sv.ownBlock=some k→¬X k)(r:∀k,U k→¬X k):A2 B U j sv l:=by obtain ⟨b,o,g,n⟩:=h;exact ⟨b,Ac o a q,g,fun i c e=>(n i c e).MC a r⟩
theorem A2.more{B}{U U':Nat→Prop}{w sv l}(h:A2 B U w sv l)(o:∀k,U k→U' k):A2 B U' w sv l:=by obtain ⟨a,n,e,g⟩:=h;exact ⟨a,n,e,fun i b c=>(g i b c).more o⟩
structure SF(d f m g n s B:Nat)(U:Nat→Prop)(p:List Tk)(v sv:Value)(x:St)(l:List FS)(y:Array Value)(w:World):Prop where
 rd:Ax d f g n s x.i9 x.l6 w
 tk:AA g n s p w
 pr:Bj f v sv x.pl x.ca w
 sx:Aq m y 87 w
 st:A2 B U w sv l
 nb:∀k,sv.ownBlock=some k→k≠m
section
variable {d f m g n s B : Nat} {U : Nat → Prop} {p : List Tk} {v sv : Value} {x : St} {l : List FS} {y : Array Value} {w j : World}
theorem SF.u5(h:SF d f m g n s B U p v sv x l y w):g≠d∧f≠d∧m≠d∧g≠f∧m≠f∧g≠m:=
 ⟨h.tk.ne h.rd (by decide),h.pr.i6.ne h.rd.i6 (by decide),h.sx.ne h.rd.i6 (by decide),h.tk.ne h.pr (by decide),h.sx.ne h.pr.i6 (by decide),h.tk.ne h.sx (by decide)⟩
theorem SF.z6(h:SF d f m g n s B U p v sv x l y w):∀k,sv.ownBlock=some k→k≠d∧k≠f∧k≠m:=by intro k a;obtain ⟨c,b,_⟩:=h.st;exact ⟨Az b h.rd (by decide) k a,Az b h.pr (by decide) k a,h.nb k a⟩
theorem SF.call{c b}(h:SF d f m g n s B U p v sv x l y w)(e:Ab (fun k=>k=d) w j)(r:Ax d f g n s c b j):SF d f m g n s B U p v sv ⟨c,b,x.pl,x.ca⟩ l y j:=by have i:=h.u5;refine ⟨r,h.tk.d7 e i.1,h.pr.i6.d7 e i.2.1,h.sx.d7 e i.2.2.1,h.st.d7 e (fun k a=>(h.z6 k a).1) ?_,h.nb⟩;intro k u t z a q;have a:k=d:=a;subst a;have o:w.heap[k]? =_:=h.rd;rw [q] at o;simp only [Option.some.injEq,Obj.cells.injEq] at o;rw [o.2.1];decide
theorem SF.quiet(h:SF d f m g n s B U p v sv x l y w)(a:Ab (fun _=>False) w j):SF d f m g n s B U p v sv x l y j:=
 ⟨h.rd.d7 a (fun q=>q),h.tk.d7 a (fun q=>q),h.pr.i6.d7 a (fun q=>q),h.sx.d7 a (fun q=>q),h.st.d7 a (fun _ _ q=>q) (fun _ _ _ _ q=>q.elim),h.nb⟩
theorem SF.m9(h:SF d f m g n s B U p v sv x l y w)(i u):SF d f m g n s B U p v sv x l (y.setIfInBounds i u) (w.setCell ⟨m,i,none⟩ u):=by have b:=h.u5;have e:=(Ab.refl (fun k=>k=m) w).i7 i u;refine ⟨h.rd.i6.r7 i u b.2.2.1.symm,h.tk.d7 e b.2.2.2.2.2,h.pr.i6.r7 i u b.2.2.2.2.1.symm,h.sx.set i u,h.st.d7 e (fun k a=>(h.z6 k a).2.2) ?_,h.nb⟩;intro k q t r a o;have a:k=m:=a;subst a;have c:w.heap[k]? =_:=h.sx;rw [o] at c;simp only [Option.some.injEq,Obj.cells.injEq] at c;rw [c.2.1];decide
theorem SF.s8{L a}(h:SF d f m g n s B U p v sv x l y w)(e:Ao p L x=a)(b:Ab (fun k=>k=d) w j)(c:Ax d f g n s (C0 p x.i9 x.l6 L).1 (C0 p x.i9 x.l6 L).2 j):SF d f m g n s B U p v sv a l y j:=by subst e;exact h.call b c
theorem SF.get{k q a}(h:SF d f m g n s B U p v sv x l y w)(i:Bc p k x=(q,a))(b:Ab (fun k=>k=d) w j)(c:Ax d f g n s (BO p x.i9 x.l6 k).2.1 (BO p x.i9 x.l6 k).2.2 j):SF d f m g n s B U p v sv a l y j:=by have e:a=⟨(BO p x.i9 x.l6 k).2.1,(BO p x.i9 x.l6 k).2.2,x.pl,x.ca⟩:=(congrArg Prod.snd i).symm;subst e;exact h.call b c
end
structure Da(d f:Nat)(sv sv':Value)(w j:World):Prop where
 d7:Ab (fun k=>k=d∨k=f∨sv.ownBlock=some k) w j
 own:∀k,sv'.ownBlock=some k→sv.ownBlock=some k∨w.heap.size≤k
theorem Da.refl(d f sv w):Da d f sv sv w w:=⟨Ab.refl _ _,fun _ h=>.inl h⟩
theorem Da.trans{d f:Nat}{a b c:Value}{w o r:World}(h:Da d f a b w o)(k:Da d f b c o r):Da d f a c w r:=by
 refine ⟨⟨k.d7.os.trans h.d7.os,k.d7.tape.trans h.d7.tape,k.d7.output.trans h.d7.output,Nat.le_trans h.d7.size k.d7.size,fun i e g=>?_⟩,fun i e=>?_⟩
 ·rw [k.d7.block i (Nat.lt_of_lt_of_le e h.d7.size) ?_,h.d7.block i e g];rintro (q | q | q)
  ·exact g (.inl q)
  ·exact g (.inr (.inl q))
  ·rcases h.own i q with n | n
   ·exact g (.inr (.inr n))
   ·omega
 ·rcases k.own i e with q | q
  ·exact h.own i q
  ·exact .inr (Nat.le_trans h.d7.size q)
theorem Da.q9{d f sv w j}(h:Ab (fun k=>k=d∨k=f) w j):Da d f sv sv w j:=
 ⟨h.mono (fun _ _ q=>q.elim .inl (fun r=>.inr (.inl r))),fun _ h=>.inl h⟩
theorem Da.l9{d f b sv a w j}(h:Da d f sv a w j)(i u)(c:w.heap.size≤b):Da d f sv a w (j.setCell ⟨b,i,none⟩ u):=⟨h.d7.l9 i u c,h.own⟩
theorem Da.alloc{d f sv a w j}(h:Da d f sv a w j)(o):Da d f sv a w (j.alloc o):=⟨h.d7.alloc o,h.own⟩
theorem Da.drew{d f sv a w j}(h:Da d f sv a w j):Da d f sv a w j.drew:=⟨h.d7.drew,h.own⟩
theorem Da.drewN{d f sv a w j}(h:Da d f sv a w j)(n):Da d f sv a w (j.drewN n):=⟨h.d7.drewN n,h.own⟩
theorem Da.tr{d f sv a w j b}(h:Da d f sv a w j)(k:Ab (fun k=>k=d) j b):Da d f sv a w b:=h.trans (Da.q9 (k.mono (fun _ _ q=>.inl q)))
abbrev Cf(a:Nat):Array Value:=#[.int .i64 0,.string {data:=#[]},.int .i64 0,.int .i64 0,.string {data:=#[]},.int .i64 0,.int .i64 0,.int .i64 0,AG,.int .i64 0,AG,AG,.int .i64 (-1),.int .i64 (-1),.int .i64 a]
def Md(h b g n f B:Nat)(U:Nat→Prop)(l:List Tk)(j k:Value)(x:St)(i:List FS)(w a:World):Prop:=
 ∃c e d,Ax h b g n f x.i9 x.l6 a∧AA g n f l a∧Bj b j (.slice c e d) x.pl x.ca a∧A2 B U a (.slice c e d) (i++[BQ 0 0])∧Da h b k (.slice c e d) w a
theorem Kg{y b g n p B:Nat}{U:Nat→Prop}{K:List Tk}{D j:Value}{x:St}{f:List FS}{w W d:World}{l:Option Addr}{o m:Nat}{a:List (List Value)}
 (H:Ax y b g n p x.i9 x.l6 w)(I:AA g n p K w)(A:Bj b D j x.pl x.ca w)
 (C:w.ownsRow B 87 15 j f.length a.flatten)(L:a.length=f.length)(a2:∀i (h:i<a.length) (h':i<f.length),De B U w a[i] f[i])
 (R:Ab (fun _=>False) w W)(N:d.ownsRow B 87 15 (.slice l o m) (f.length+1) (a.flatten++zS.toList))(S:W.grownBy d j.ownBlock)(T:∀k,Value.ownBlock (.slice l o m)=some k→j.ownBlock=some k∨w.heap.size≤k):
 Md y b g n p B U K D j x f w (d.setCell ⟨b,1,none⟩ (.slice l o m)):=by
 have X:=Az C H (by decide);have V:=Az C A (by decide);have v:Ab (fun k=>j.ownBlock=some k) w d:=Ab.grown (R.mono (fun _ _ q=>q.elim)) S (fun k c=>.inl c);have a0:b≠y:=A.i6.ne H.i6 (by decide);have a1:Ax y b g n p x.i9 x.l6 d:=H.d7 v (fun q=>X y q rfl);have F:Bj b D j x.pl x.ca d:=A.i6.d7 v (fun q=>V b q rfl);have Y:g≠b:=I.ne A (by decide);have a3:AA g n p K d:=by
  refine I.d7 v (fun q=>?_);rcases C.2 with ⟨s,_⟩ | ⟨Q,O,P,J,_,u,_⟩
  ·rw [s] at q;simp [Value.ownBlock] at q
  ·rw [J] at q;simp [Value.ownBlock] at q;subst q;exact I.ne u (by decide) rfl
 have z:=(Ab.refl (fun k=>k=b) d).i7 1 (.slice l o m);have Z:∀k,Value.ownBlock (.slice l o m)=some k→k≠b:=Az N F (by decide);refine ⟨l,o,m,a1.i6.r7 1 _ a0.symm,a3.d7 z Y,F.i6.set 1 _,?_,?_⟩
 ·refine ⟨a++[zS.toList],?_,by simp [L],?_⟩
  ·rw [List.flatten_append,List.length_append];have:=Ac N z Z;simpa using this
  ·intro i h1 s;have hx:∀(k:Nat) (a:Array Value) (t:TypeId) (r:Nat×Nat),j.ownBlock=some k→w.heap[k]? =some (.cells a t r)→t≠3∧t≠52:=by
    intro k a t r c E;rcases C.2 with ⟨s,_⟩ | ⟨Q,O,P,J,_,u,_⟩
    ·rw [s] at c;simp [Value.ownBlock] at c
    ·rw [J] at c;simp [Value.ownBlock] at c;subst c;rw [E] at u;simp only [Option.some.injEq,Obj.cells.injEq] at u;rw [u.2.1];decide
   have a4:∀(k:Nat) (a:Array Value) (t:TypeId) (r:Nat×Nat),k=b→d.heap[k]? =some (.cells a t r)→t≠3∧t≠52:=by intro k a t r c E;subst c;have G:d.heap[k]? =_:=F;rw [E] at G;simp only [Option.some.injEq,Obj.cells.injEq] at G;rw [G.2.1];decide
   by_cases M:i<f.length
   ·rw [List.getElem_append_left (by omega),List.getElem_append_left M];exact ((a2 i (by omega) M).d7 v hx).d7 z a4
   ·have e:i=f.length:=by simp at s;omega
    subst e;rw [List.getElem_append_right (by omega),List.getElem_append_right (by omega)];simp only [Nat.sub_self,L,List.getElem_cons_zero];exact ⟨AG,AG,AG,rfl,World.ownsRow_nil _ _ _ _,World.ownsRow_nil _ _ _ _,World.ownsRow_nil _ _ _ _,fun k c=>by simp [Value.ownBlock] at c⟩
 ·refine ⟨(v.mono (fun k _ q=>.inr (.inr q))).trans (z.mono (fun k _ q=>.inr (.inl q))),T⟩
theorem Mr(A B:List Value)(c d:List Value)(g:c.length=15)(a:d.length=15):∀k,k≤15→(List.range k).foldl (fun (l:List Value) j=>l.set (A.length+j) (d[j]?.getD (.bool false))) (A++(c++B))=A++((d.take k++c.drop k)++B):=by
 intro k;induction k with
 | zero=>intro _;simp
 | succ k h=>
   intro i;rw [List.range_succ,List.foldl_append,h (by omega)];simp only [List.foldl_cons,List.foldl_nil];rw [List.set_append_right _ _ (by omega),List.append_cancel_left_eq,Nat.add_sub_cancel_left,List.set_append_left _ _ (by simp [a,g];omega),List.append_cancel_right_eq,List.set_append_right _ _ (by simp [a];omega)];have e:(List.take k d).length=k:=by simp [a];omega
   rw [e,Nat.sub_self];have b:d.take (k+1)=d.take k++[d[k]?.getD (.bool false)]:=by rw [List.take_succ_eq_append_getElem (by omega),List.getElem?_eq_getElem (by omega)];rfl
   have f:c.drop k=c[k]'(by omega)::c.drop (k+1):=List.drop_eq_getElem_cons (by omega);rw [b,f,List.set_cons_zero,List.append_assoc,List.singleton_append]
theorem Jg(a:List (List Value))(e:∀c∈a,c.length=15)(i:Nat)(f:i<a.length):a.flatten=(a.take i).flatten++(a[i]++(a.drop (i+1)).flatten)∧((a.take i).flatten).length=i*15:=by
 refine ⟨?_,?_⟩
 ·conv=>lhs;rw [←List.take_append_drop i a]
  rw [List.flatten_append,List.drop_eq_getElem_cons f,List.flatten_cons]
 ·have:∀l:List (List Value),(∀c∈l,c.length=15)→l.flatten.length=l.length*15:=by
   intro l d;induction l with
   | nil=>rfl
   | cons c l g=>rw [List.flatten_cons,List.length_append,g (fun c b=>d c (List.mem_cons_of_mem _ b)),d c (List.mem_cons_self ..),List.length_cons];omega
  rw [this _ (fun c b=>e c (List.mem_of_mem_take b)),List.length_take]
  congr 1;omega
theorem KL(a:List (List Value))(b:∀c∈a,c.length=15)(i:Nat)(e:i<a.length)(d:List Value)(h:d.length=15):(List.range 15).foldl (fun (l:List Value) j=>l.set (i*15+j) (d[j]?.getD (.bool false))) a.flatten=(a.set i d).flatten:=by obtain ⟨f,g⟩:=Jg a b i e;have:=Mr (a.take i).flatten (a.drop (i+1)).flatten a[i] d (b _ (List.getElem_mem _)) h 15 (Nat.le_refl _);rw [g,←f] at this;have k:List.take 15 d=d:=List.take_of_length_le (by omega);have m:List.drop 15 a[i]=[]:=List.drop_of_length_le (by rw [b _ (List.getElem_mem _)];omega);rw [this,k,m];rw [List.set_eq_take_append_cons_drop,if_pos e];simp
def Gn(w:World)(a o:Nat)(d:List Value):World:=(List.range 15).foldl (fun w j=>w.setCell ⟨a,o+j,none⟩ (d[j]?.getD (.bool false))) w
theorem J9{w B b n e a}(h:w.ownsRow B 87 15 (.slice (some ⟨b,0,none⟩) n e) n a)(o d):
 (Gn w b o d).ownsRow B 87 15 (.slice (some ⟨b,0,none⟩) n e) n ((List.range 15).foldl (fun (l:List Value) j=>l.set (o+j) (d[j]?.getD (.bool false))) a):=by
 unfold Gn;suffices H:∀(c:List Nat) (w:World) (a:List Value),w.ownsRow B 87 15 (.slice (some ⟨b,0,none⟩) n e) n a→(c.foldl (fun w j=>w.setCell ⟨b,o+j,none⟩ (d[j]?.getD (.bool false))) w).ownsRow B 87 15 (.slice (some ⟨b,0,none⟩) n e) n (c.foldl (fun (l:List Value) j=>l.set (o+j) (d[j]?.getD (.bool false))) a) from H _ _ _ h
 intro c;induction c with
 | nil=>intro w a h;exact h
 | cons j c f=>intro w a h;exact f _ _ (h.stored (o+j) _).1
theorem Gh(w a o d):Ab (fun k=>k=a) w (Gn w a o d):=by
 unfold Gn;suffices H:∀(b:List Nat) (c:World),Ab (fun k=>k=a) w c→Ab (fun k=>k=a) w (b.foldl (fun w j=>w.setCell ⟨a,o+j,none⟩ (d[j]?.getD (.bool false))) c) from H _ _ (Ab.refl _ _)
 intro b;induction b with
 | nil=>intro c h;exact h
 | cons j b e=>intro c h;exact e _ (h.i7 _ _)
theorem Gi{w:World}{B:Nat}{a l c n:Nat}{e:List Value}(h:w.ownsRow B 87 15 (.slice (some ⟨a,0,none⟩) l c) n e)(i:Nat)(f:i<n)(j:Nat)(g:j<15):∃u,w.cell? ⟨a,i*15+j,none⟩=some u:=by
 have d:=Ap h;subst d;have b:i*15+j<l*15:=by omega
 rw [h.cellAt (i*15+j) b];exact ⟨_,List.getElem?_eq_getElem (by rw [h.1];exact b)⟩
theorem Eu{w:World}{B:Nat}{a l c n:Nat}{d:List Value}(h:w.ownsRow B 87 15 (.slice (some ⟨a,0,none⟩) l c) n d)(j:Nat):w.frozen? ⟨a,j,none⟩=false:=by have b:=Ap h;subst b;exact h.frozenAt j
theorem Da.put{i g b j c w l m}(h:Da i g j c w l)(n:c.ownBlock=some b)(a:Ab (fun k=>k=b) l m):Da i g j c w m:=by
 refine ⟨⟨a.os.trans h.d7.os,a.tape.trans h.d7.tape,a.output.trans h.d7.output,Nat.le_trans h.d7.size a.size,fun k d f=>?_⟩,h.own⟩;rw [a.block k (Nat.lt_of_lt_of_le d h.d7.size) ?_]
 ·exact h.d7.block k d f
 ·intro e;have e:k=b:=e;subst e;rcases h.own k n with q | q
  ·exact f (.inr (.inr q))
  ·omega
theorem A2.put{B}{U:Nat→Prop}{w b l o i f s d}(h:A2 B U w (.slice (some ⟨b,0,none⟩) l o) f)(I:i<f.length)(r:De B U w d s):A2 B U (Gn w b (i*15) d) (.slice (some ⟨b,0,none⟩) l o) (f.set i s):=by
 obtain ⟨a,n,C,v⟩:=h;have D:=Ap n;subst D;have z:∀c∈a,c.length=15:=by intro c g;obtain ⟨j,e,rfl⟩:=List.mem_iff_getElem.1 g;exact (v j e (by omega)).length
 have u:=Gh w b (i*15) d;have y:∀(k:Nat) (a:Array Value) (t:TypeId) (p:Nat×Nat),k=b→w.heap[k]? =some (.cells a t p)→t≠3∧t≠52:=by
  intro k a t p A g;subst A;rcases n.2 with ⟨q,_⟩ | ⟨G,E,F,x,_,m,_⟩
  ·simp at q
  ·simp only [Value.slice.injEq,Option.some.injEq,Addr.mk.injEq] at x;rw [←x.1.1,g] at m;simp only [Option.some.injEq,Obj.cells.injEq] at m;rw [m.2.1];decide
 refine ⟨a.set i d,?_,by simp [C],?_⟩
 ·have:=J9 n (i*15) d;rw [KL a z i (by omega) d r.length] at this;simpa using this
 ·intro j H q;by_cases e:i=j
  ·subst e;simp only [List.getElem_set_self];exact r.d7 u y
  ·simp only [List.getElem_set_ne e];exact (v j _ _).d7 u y
def Jy(h c g n f B:Nat)(U:Nat→Prop)(l:List Tk)(i j:Value)(w:World)(r:Nat×St×List FS)(e:Ending)(a:World):Prop:=
 ∃d b,(∀k,U k→b k)∧(∀k,b k→U k∨w.heap.size≤k)∧e=.returned (.int .i64 r.1)∧Ax h c g n f r.2.1.i9 r.2.1.l6 a∧AA g n f l a∧Bj c i d r.2.1.pl r.2.1.ca a∧A2 B b a d r.2.2∧Da h c j d w a
end Go.Proofs.YtmaankfbhhbeoaaGreatDoor

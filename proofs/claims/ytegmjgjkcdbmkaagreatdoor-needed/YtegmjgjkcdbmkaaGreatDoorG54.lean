/- One of the texts of the proof: GrE GrF GrG. -/
import Derived.Test.YtegmjgjkcdbmkaaGreatDoorG44
import Derived.Test.YtegmjgjkcdbmkaaGreatDoorG53
set_option maxRecDepth 100000
set_option maxHeartbeats 4000000
namespace Go.Proofs.YtegmjgjkcdbmkaaGreatDoor
open Go.RowKit Go.Maps
theorem dV(A:List Sm):Cd A=(A.filter fun s=>s.aW==0)++((A.filter fun s=>s.aW==1)++((A.filter fun s=>s.aW==2)++(A.filter fun s=>s.aW==3))):=by unfold Cd fsOf;simp [List.range,List.range.loop]
theorem dX(A B:List Sm)(d:∀b,b∈B→b.aW=3):Cd (A++B)=Cd A++B:=by
 have e:B.filter (fun s=>s.aW==3)=B:=List.filter_eq_self.2 fun b c=>by simp [d b c]
 have a:∀k,k≠3→B.filter (fun s=>s.aW==k)=[]:=fun k f=>List.filter_eq_nil_iff.2 fun b c=>by rw [d b c];simp only [beq_iff_eq];omega
 rw [dV,dV];simp only [List.filter_append,e,a 0 (by decide),a 1 (by decide),a 2 (by decide),List.append_nil,List.append_assoc]
theorem eG(A B:List Sm)(a:∀b,b∈B→b.aW=3):∀x,x∈Ch (Cd A) 0 0→∃y,y∈Ch (Cd (A++B)) 0 0∧SmS x y:=fun x c=> ⟨x,by rw [dX A B a,It];exact List.mem_append_left _ c,.rf x⟩
theorem fF(A B:List Sm)(a:∀b,b∈B→b.aW=3):DS (Cd A)≤DS (Cd (A++B))∧DT (Cd A)≤DT (Cd (A++B)):=by rw [dX A B a,QZ,Q4];omega
abbrev fI:Array Value:=#[.int .i64 0,.int .i64 0,.int .i64 0,.int .i64 0,.int .i64 0,.int .i64 0]
theorem Tryz.infoLn:(Tryz.prog.info? 44).map (fun i=>(i.zero,i.size,i.bytes))=some (some (.agg fI),6,48):=by kernel_rfl
theorem eZ(l:Ln):∀x∈eY l,x.oneCell'=true:=fun x a=>by unfold eY at a;simp at a;rcases a with rfl | rfl | rfl | rfl | rfl | rfl<;>rfl
def eQ(l:Ln):Ln:=⟨3,l.a1,l.a2,l.a3,l.a4,l.a5⟩
theorem fE{l:Ln}(h:l.Ok):(eQ l).Ok:=⟨by unfold GO eQ;simp,h.k1,h.k2,h.k3,h.k4,h.k5⟩
theorem fD(l:Ln):(Qt (eQ l)).aW=3:=by show AK 3 4=3;decide
theorem eW{α:Type}{l:List α}{k:Nat}(h:k≤l.length)(a:k≤30)(b:¬(k<l.length∧k<30)):l.take k=l.take 30:=by
 by_cases q:k<l.length
 ·rw [show k=30 by omega]
 ·rw [List.take_of_length_le (by omega),List.take_of_length_le (by omega)]
theorem fB(B0:Nat)(e8 w:World)(h:Nf B0 e8 w)(lv mv:Value)(o t:List Ln)(G:Wy lv o w)(hm:Wy mv t w)(g8:∀l∈o,l.Ok)(g9:∀l∈t,l.Ok):
 Calls Tryz.prog 5 #[lv,mv] w fun e w'=>e=.returned (.bool true)∧Ab (fun _=>False) w w':=by
 have HL:=Aa G;have HM:=Aa hm;have HH:=Aa h;have i5:=Aa g8;have i6:=Aa g9;obtain ⟨la,lc,rfl,j8,k1⟩:=G;obtain ⟨ma,mc,rfl,j9,k2⟩:=hm;clear h g8 g9 k1 k2;obtain ⟨B,d8⟩:∃n,o.length=n:=⟨_,rfl⟩;obtain ⟨C,d9⟩:∃n,t.length=n:=⟨_,rfl⟩;have a3:=Aa d8;have c0:=Aa d9;rw [d8] at j8⊢;rw [d9] at j9⊢;clear d8 d9;obtain ⟨i0,g6,h5,h6,h7⟩:=info_parts Tryz.infoLn;go_enter Tryz.func5,Tryz.ntmps5;go_wp2_with fail;go_loopw [5,6] (fun mo i wr=>∃(k:Nat),k≤B∧k≤30∧i=.int .i64 k∧dN (eP w.heap.size wr mo (o.take k))∧dN (Ab (fun _=>False) w wr)) (fun _ i _=>30-(intOf i).toNat)
 case atStart=>exact ⟨0,by omega,by omega,rfl,eP.nil _ _,Ab.refl _ _⟩
 case round=>
  obtain ⟨k,j3,j5,rfl,f,y⟩:=hrel;have a6:(o.take k).length=k:=by rw [List.length_take,a3.o];omega
  obtain ⟨va,vc,b4,b9⟩:=f.o.form;rw [a6] at b4 b9;subst b4;clear a6;go_upto_region 3 with fail;go_cut [24] (fun v wx=>v=.bool (decide (k<B∧k<30))∧dN (wx=wr))
  case first=>
   by_cases h1:k<B
   ·have t1:decide ((k:Int)<(B:Int))=true:=by simp;omega
    by_cases h2:k<30
    ·have t2:decide ((k:Int)<30)=true:=by simp;omega
     have D:decide (k<B∧k<30)=true:=decide_eq_true ⟨h1,h2⟩;go_wp2_with fail;go_meet
     case rel=>exact ⟨by rw [D],rfl⟩
    ·have t2:decide ((k:Int)<30)=false:=by simp;omega
     have D:decide (k<B∧k<30)=false:=decide_eq_false fun q=>h2 q.2
     go_wp2_with fail;go_meet
     case rel=>exact ⟨by rw [D],rfl⟩
   ·have t1:decide ((k:Int)<(B:Int))=false:=by simp;omega
    have D:decide (k<B∧k<30)=false:=decide_eq_false fun q=>h1 q.1
    go_wp2_with fail;go_meet
    case rel=>exact ⟨by rw [D],rfl⟩
  case rest=>
  obtain ⟨rfl,b0⟩:=hcut;have e6:=b0.o.symm;subst e6;clear b0;by_cases A:k<B∧k<30
  ·rw [show decide (k<B∧k<30)=true from decide_eq_true A];have j:k<o.length:=by rw [a3.o];exact A.1
   have g5:=HL.o.quiet y.o;obtain ⟨g,k3,rfl,r,lg⟩:=Wy.get g5 j;have d0:=r.c0 k j;have d1:=r.c1 k j;have d2:=r.c2 k j;have d3:=r.c3 k j;have d4:=r.c4 k j;have d5:=r.c5 k j;have Y:dN (o.take (k+1)=o.take k++[o[k]]):=List.take_succ_eq_append_getElem j;obtain ⟨ln,b3⟩:∃x,o[k]=x:=⟨_,rfl⟩;rw [b3] at d0 d1 d2 d3 d4 d5 Y;clear g5 r b3;have j7:=A.1;have k0:=y.o.size;have N:=f.o;unfold eP at N;rw [show (o.take k).length=k by rw [List.length_take];omega] at N;have a9:=Aa N;clear N j;go_wp2_with (at_builtin;refine wpList_append_own _ rfl _ _ 22 rfl w.heap.size 44 i0 (.agg fI) 6 48 Tryz.underlying22 g6 h5 h6 h7 rfl (by decide) _ _ _ rfl (a9.o.alloc _) ⟨wr.heap.size,0,none⟩ 1 1 (eY ln) rfl rfl (A5 rfl _ _) (eZ _) (by unfold maxLen;omega) (by omega) (by simp;omega) ?_;intro v' u b5 a5 d7);have R1:dN (eP w.heap.size u v' (o.take (k+1))):=by show eP _ _ _ _;rw [Y.o];refine eP.snoc ?_;rw [show (o.take k).length=k by rw [List.length_take,a3.o];omega];exact b5
   have M:=Aa (eR f.o y.o ((Ab.refl _ _).alloc _) a5);clear f y b5 a5 d7 d0 d1 d2 d3 d4 d5 a9 Y;go_wp2_with fail;go_roundw
   case rel=>exact ⟨k+1,by omega,by omega,by go_num,R1,M⟩
   case measure=>simp [intOf];omega
  ·have a4:=Aa (eW (α:=Ln) (l:=o) (k:=k) (by rw [a3.o];exact j3) j5 (by rw [a3.o];exact A));rw [show decide (k<B∧k<30)=false from decide_eq_false A];rw [a4.o] at f;have g7:k=(o.take 30).length:=by rw [←a4.o,List.length_take,a3.o];omega
   have HK:=Aa g7;clear g7 b9 a4;have X:=Aa (f.o.at);obtain ⟨I,c9⟩:∃x,o.take 30=x:=⟨_,rfl⟩;have f2:=Aa c9;rw [c9] at f HK X;clear c9;have f5:dN (∀l∈I,l.Ok):=fun l G=>i5.o l (by rw [←f2.o] at G;exact List.mem_of_mem_take G)
   go_wp2_with fail;refine (Qm _ I wr X.o f5.o).mono ?_;rintro e w1 ⟨⟨s,sv,rfl,hs,_,e5,_,b6⟩,o1⟩;have a0:=Zu hs (by omega);have O:=Xk I;obtain ⟨sa,sl,sc,rfl⟩:∃a l c,sv=.slice a l c:=by obtain ⟨a,c,e⟩:=b6.form;exact ⟨a,_,c,e⟩
   rw [RJ];obtain ⟨Q,a2⟩:∃x,IC I=x:=⟨_,rfl⟩;rw [a2] at a0 O⊢;have h0:DS (Cd Q)≤240:=Nat.le_trans List.countP_le_length O;have h8:DT (Cd Q)≤240:=Nat.le_trans List.countP_le_length O;have f3:=Aa a0;have i8:=Aa a2;obtain ⟨pl,a1⟩:∃x,DS (Cd Q)=x:=⟨_,rfl⟩;obtain ⟨ca,Z⟩:∃x,DT (Cd Q)=x:=⟨_,rfl⟩;have f6:=Aa a1;have f0:=Aa Z;rw [a1] at h0⊢;rw [Z] at h8⊢;have R1:=Aa (f.o.quiet o1);have M:=Aa (y.o.trans o1);have i3:=Aa HK.o.symm;clear a2 b6 o1 a0 hs a1 Z e5 O f y X;have K:=Aa (Ak.new w1 #[.string s,.slice sa sl sc,.int .i64 pl,.int .i64 ca] 25);have J:=Aa ((Ab.refl (fun _=>False) w1).alloc (.cells #[.string s,.slice sa sl sc,.int .i64 pl,.int .i64 ca] 25));go_upto_region 7 with fail;generalize w1.alloc (.cells #[.string s,.slice sa sl sc,.int .i64 pl,.int .i64 ca] 25)=w2 at K J⊢;have R2:=Aa (R1.o.quiet J.o);have O2:=Aa (M.o.trans J.o);generalize w1.heap.size=b7 at K⊢;clear R1 M J;go_wp2_with fail;go_loopw [5,8] (fun mo i wr=>∃(k:Nat),k≤C∧k≤30∧i=.int .i64 k∧dN (eP w.heap.size wr mo (I++(t.take k).map eQ))∧dN (Ab (fun _=>False) w wr)∧dN (Ak b7 #[.string s,.slice sa sl sc,.int .i64 pl,.int .i64 ca] 25 wr)) (fun _ i _=>30-(intOf i).toNat)
   case atStart=>exact ⟨0,by omega,by omega,rfl,(by simpa using R2.o:eP _ _ _ _),O2.o,K⟩
   case round=>
    clear R2 O2 K;obtain ⟨d,j4,j6,rfl,f,y,HB⟩:=hrel;have a6:(I++(t.take d).map eQ).length=k+d:=by rw [List.length_append,List.length_map,List.length_take,c0.o,i3.o];omega
    obtain ⟨va,vc,b4,b9⟩:=f.o.form;rw [a6] at b4 b9;subst b4;have c1:=Aa a6;clear a6;go_upto_region 8 with fail;go_cut [43] (fun v wx=>v=.bool (decide (d<C∧d<30))∧dN (wx=wr))
    case first=>
     by_cases h1:d<C
     ·have t1:decide ((d:Int)<(C:Int))=true:=by simp;omega
      by_cases h2:d<30
      ·have t2:decide ((d:Int)<30)=true:=by simp;omega
       have D:decide (d<C∧d<30)=true:=decide_eq_true ⟨h1,h2⟩;go_wp2_with fail;go_meet
       case rel=>exact ⟨by rw [D],rfl⟩
      ·have t2:decide ((d:Int)<30)=false:=by simp;omega
       have D:decide (d<C∧d<30)=false:=decide_eq_false fun q=>h2 q.2
       go_wp2_with fail;go_meet
       case rel=>exact ⟨by rw [D],rfl⟩
     ·have t1:decide ((d:Int)<(C:Int))=false:=by simp;omega
      have D:decide (d<C∧d<30)=false:=decide_eq_false fun q=>h1 q.1
      go_wp2_with fail;go_meet
      case rel=>exact ⟨by rw [D],rfl⟩
    case rest=>
    obtain ⟨rfl,b0⟩:=hcut;have e6:=b0.o.symm;subst e6;clear b0;by_cases A:d<C∧d<30
    ·rw [show decide (d<C∧d<30)=true from decide_eq_true A];have j:d<t.length:=by rw [c0.o];exact A.1
     obtain ⟨g,k3,rfl,r,lg⟩:=Wy.get (HM.o.quiet y.o) j;have d0:=r.c0 d j;have d1:=r.c1 d j;have d2:=r.c2 d j;have d3:=r.c3 d j;have d4:=r.c4 d j;have d5:=r.c5 d j;have Y:dN (t.take (d+1)=t.take d++[t[d]]):=List.take_succ_eq_append_getElem j;obtain ⟨ln,b3⟩:∃x,t[d]=x:=⟨_,rfl⟩;rw [b3] at d0 d1 d2 d3 d4 d5 Y;have j7:=A.1;have k0:=y.o.size;clear r b3 j;have N:=f.o;unfold eP at N;rw [c1.o] at N;have a9:=Aa N;clear N;go_wp2_with (at_builtin;refine wpList_append_own _ rfl _ _ 22 rfl w.heap.size 44 i0 (.agg fI) 6 48 Tryz.underlying22 g6 h5 h6 h7 rfl (by decide) _ _ _ rfl ((a9.o.alloc _).alloc _) ⟨wr.heap.size+1,0,none⟩ 1 1 (eY (eQ ln)) rfl rfl (A5 (by simp) _ _) (eZ _) (by unfold maxLen;omega) (by omega) (by simp;omega) ?_;intro v' u b5 a5 d7);have R1:dN (eP w.heap.size u v' (I++(t.take (d+1)).map eQ)):=by show eP _ _ _ _;rw [Y.o,List.map_append,←List.append_assoc];refine eP.snoc ?_;rw [c1.o];exact b5
     have AA:=Aa (((Ab.refl (fun _=>False) wr).alloc (.cells (Zt (eQ ln)) 44)).alloc (.cells (Zt (eQ ln)) 44));have M:=Aa (eR f.o y.o AA.o a5);have K:=Aa (fA f.o HB.o (by decide) AA.o a5);clear f y HB b5 a5 d7 d0 d1 d2 d3 d4 d5 a9 Y c1 AA;go_wp2_with fail;go_roundw
     case rel=>exact ⟨d+1,by omega,by omega,by go_num,R1,M,K⟩
     case measure=>simp [intOf];omega
    ·have a4:=Aa (eW (α:=Ln) (l:=t) (k:=d) (by rw [c0.o];exact j4) j6 (by rw [c0.o];exact A));rw [show decide (d<C∧d<30)=false from decide_eq_false A];rw [a4.o] at f;clear b9 a4 c1;have X:=Aa (f.o.at);obtain ⟨c3,d6⟩:∃x,I++(t.take 30).map eQ=x:=⟨_,rfl⟩;have c4:=Aa d6;rw [d6] at f X;clear d6;have i7:dN (∀l∈c3,l.Ok):=fun l G=>by
      rw [←c4.o] at G;rcases List.mem_append.1 G with q | q
      ·exact f5.o l q
      ·obtain ⟨m,hm,rfl⟩:=List.mem_map.1 q;exact fE (i6.o m (List.mem_of_mem_take hm))
     go_wp2_with fail;refine (Qm _ c3 wr X.o i7.o).mono ?_;rintro e w3 ⟨⟨s2,k4,rfl,hs,_,e5,_,b6⟩,o1⟩;have a0:=Zu hs (by omega);have O:=Xk c3;obtain ⟨ta,tl,tc,rfl⟩:∃a l c,k4=.slice a l c:=by obtain ⟨a,c,e⟩:=b6.form;exact ⟨a,_,c,e⟩
     rw [RJ];obtain ⟨a8,a2⟩:∃x,IC c3=x:=⟨_,rfl⟩;rw [a2] at a0 O⊢;have g3:DS (Cd a8)≤240:=Nat.le_trans List.countP_le_length O;have g4:DT (Cd a8)≤240:=Nat.le_trans List.countP_le_length O;have i4:=Aa a0;have i9:=Aa a2;obtain ⟨e7,a1⟩:∃x,DS (Cd a8)=x:=⟨_,rfl⟩;obtain ⟨c5,Z⟩:∃x,DT (Cd a8)=x:=⟨_,rfl⟩;have f7:=Aa a1;have f1:=Aa Z;rw [a1] at g3⊢;rw [Z] at g4⊢;have M:=Aa (y.o.trans o1);have K:=Aa (HB.o.O o1 (fun q=>q));clear a2 b6 o1 a0 hs a1 Z e5 O f y HB X;have B2:=Aa (Ak.new w3 #[.string s2,.slice ta tl tc,.int .i64 e7,.int .i64 c5] 25);have J:=Aa ((Ab.refl (fun _=>False) w3).alloc (.cells #[.string s2,.slice ta tl tc,.int .i64 e7,.int .i64 c5] 25));go_upto_region 14 with fail;generalize w3.alloc (.cells #[.string s2,.slice ta tl tc,.int .i64 e7,.int .i64 c5] 25)=w4 at B2 J⊢;have O2:=Aa (M.o.trans J.o);have B3:=Aa (K.o.O J.o (fun q=>q));generalize w3.heap.size=k5 at B2⊢;clear M J K;have p0:=B3.o.cell 0;have p1:=B3.o.cell 1;have p2:=B3.o.cell 2;have p3:=B3.o.cell 3;have lb:=Ae B3.o;simp only [dM,dJ,dK] at p0 p1 p2 p3;go_wp2_with fail;have L:=Aa (My B0 e8 w4 (HH.o.go O2.o) s Q f3.o (.slice sa sl sc) ⟨_,_,_,rfl⟩ (by rw [f6.o];exact h0) (by rw [f0.o];exact h8));rw [f6.o,f0.o] at L;unfold Vs at L;refine L.o.mono ?_;rintro e u ⟨⟨P,mn,rp,vs,fv,ev,T,a7,e0,hy,rfl,H,b8⟩,S⟩;have b1:=H.size;have e3:=all_oneCell_toArray H.one;change (Fv vs fv ev).all _=true at e3;obtain ⟨R,c7⟩:∃x,Fv vs fv ev=x:=⟨_,rfl⟩;rw [c7] at b1 e3⊢;have i1:=Aa c7;have f8:=Aa H;have f4:=Aa a7;have HY:=Aa hy;have j0:=Aa b8;have O3:=Aa (O2.o.trans S);have B5:=Aa (B2.o.O S (fun q=>q));clear L a7 e0 hy b8 H S B2 B3 O2 p0 p1 p2 p3 lb c7;have W:=Aa (Ak.new u IK 33);have p:=Aa ((Ab.refl (fun _=>False) u).alloc (.cells IK 33));go_upto_region 15 with (refine wpList_store_mid rfl 33 (.tmp 12) (.tmp 61) rfl u.heap.size 0 R rfl rfl (IS W.o (by rw [b1];rfl)) (by rw [Tryz.infoSets,b1]) e3 ?_);have z:=C9 u.heap.size R.toList 0 (u.alloc (.cells IK 33));have F:Ab (fun _=>False) u ((u.alloc (.cells IK 33)).setCells u.heap.size 0 R.toList):=by refine ⟨z.os.trans p.o.os,z.tape.trans p.o.tape,z.output.trans p.o.output,Nat.le_trans p.o.size z.size,fun k hk _=>?_⟩;rw [z.block k (Nat.lt_of_lt_of_le hk p.o.size) (by omega)];exact p.o.block k hk (fun q=>q)
     have N5:=Aa (IR (cs:=R) W.o (by rw [b1];rfl));have V:=Aa (B5.o.O F (fun q=>q));have O6:=Aa (O3.o.trans F);have c2:=Aa (f8.o.i9 F);clear W p z F B5 O3 f8;generalize (u.alloc (.cells IK 33)).setCells u.heap.size 0 R.toList=w6 at N5 V O6 c2⊢;generalize u.heap.size=j1 at N5⊢;have p0:=V.o.cell 0;have p1:=V.o.cell 1;have p2:=V.o.cell 2;have p3:=V.o.cell 3;have lb:=Ae V.o;simp only [dM,dJ,dK] at p0 p1 p2 p3;go_wp2_with fail;have L:=Aa (My B0 e8 w6 (HH.o.go O6.o) s2 a8 i4.o (.slice ta tl tc) ⟨_,_,_,rfl⟩ (by rw [f7.o];exact g3) (by rw [f1.o];exact g4));rw [f7.o,f1.o] at L;unfold Vs at L;refine L.o.mono ?_;rintro e E ⟨⟨P2,k6,k7,us,fu,eu,U,a7,e0,hy,rfl,H,b8⟩,S⟩;have b2:=H.size;have e4:=all_oneCell_toArray H.one;change (Fv us fu eu).all _=true at e4;obtain ⟨ds,c8⟩:∃x,Fv us fu eu=x:=⟨_,rfl⟩;rw [c8] at b2 e4⊢;have i2:=Aa c8;have f9:=Aa H;have h9:dN (eE T U):=by
      have hB:∀b,b∈(((t.take 30).map eQ)).map Qt→b.aW=3:=fun b hb=>by obtain ⟨l,G,rfl⟩:=List.mem_map.1 hb;obtain ⟨m,_,rfl⟩:=List.mem_map.1 G;exact fD m
      have e1:I.length≤30:=by rw [←f2.o,List.length_take];omega
      have es:Q=I.map Qt:=by rw [←i8.o];unfold IC;rw [List.take_of_length_le (by omega)]
      have e2:a8=Q++((t.take 30).map eQ).map Qt:=by rw [←i9.o,es,←List.map_append,c4.o];unfold IC;rw [List.take_of_length_le];rw [←c4.o,List.length_append,List.length_map,List.length_take];omega
      have h3:=eG Q _ hB;have c6:=fF Q _ hB;rw [←e2] at h3 c6;exact eH f4.o a7 HY.o j0.o c2.o.t16 b8 H.t16 (eD f4.o a7 f3.o.ok h3) c6.1 c6.2
     have O7:=Aa (O6.o.trans S);have N7:=Aa (N5.o.O S (fun q=>q));have g0:=Aa (c2.o.i9 S);clear L a7 e0 hy b8 H S V O6 N5 c2 p0 p1 p2 p3 lb c8;have W:=Aa (Ak.new E IK 33);have p:=Aa ((Ab.refl (fun _=>False) E).alloc (.cells IK 33));go_upto_region 16 with (refine wpList_store_mid rfl 33 (.tmp 15) (.tmp 67) rfl E.heap.size 0 ds rfl rfl (IS W.o (by rw [b2];rfl)) (by rw [Tryz.infoSets,b2]) e4 ?_);have z:=C9 E.heap.size ds.toList 0 (E.alloc (.cells IK 33));have F:Ab (fun _=>False) E ((E.alloc (.cells IK 33)).setCells E.heap.size 0 ds.toList):=by refine ⟨z.os.trans p.o.os,z.tape.trans p.o.tape,z.output.trans p.o.output,Nat.le_trans p.o.size z.size,fun k hk _=>?_⟩;rw [z.block k (Nat.lt_of_lt_of_le hk p.o.size) (by omega)];exact p.o.block k hk (fun q=>q)
     have M7:=Aa (IR (cs:=ds) W.o (by rw [b2];rfl));have N8:=Aa (N7.o.O F (fun q=>q));have O8:=Aa (O7.o.trans F);have g1:=Aa (g0.o.i9 F);have g2:=Aa (f9.o.i9 F);clear W p z F N7 O7 g0 f9;generalize (E.alloc (.cells IK 33)).setCells E.heap.size 0 ds.toList=w8 at M7 N8 O8 g1 g2⊢;generalize E.heap.size=j2 at M7⊢;have e9:=Aa (eF vs us fv ev fu eu T U w8 g1.o g2.o h9.o);rw [i1.o,i2.o] at e9;go_wp2_with (first
      | (refine eV (by rfl) (.tmp 12) rfl j1 rfl R b1 N8.o ?_)
      | (refine eV (by rfl) (.tmp 15) rfl j2 rfl ds b2 M7.o ?_)
      | (go_at_call 15;refine e9.o.mono ?_;rintro e w9 ⟨rfl,o9⟩))
     go_ret;exact ⟨rfl,O8.o.trans o9⟩
end Go.Proofs.YtegmjgjkcdbmkaaGreatDoor

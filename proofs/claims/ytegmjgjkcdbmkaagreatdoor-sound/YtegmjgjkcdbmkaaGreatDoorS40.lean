/- One of the texts of the proof: SnF. -/
import Derived.Test.YtegmjgjkcdbmkaaGreatDoorS39
set_option maxRecDepth 100000
set_option maxHeartbeats 4000000
namespace Go.Proofs.YtegmjgjkcdbmkaaGreatDoor
open Go.RowKit Go.Maps
structure pJ(w:World)(b7 b9 b14:Nat)(pa cs ta:Array Value)(wr:World):Prop where
 p:Ak b7 pa 25 wr
 s:Ak b9 cs 33 wr
 t:Ak b14 ta 53 wr
 o:Ab (fun _=>False) w wr
theorem pJ.go{w b c a e d f wr g}(h:pJ w b c a e d f wr)(k:Ab (fun _=>False) wr g):pJ w b c a e d f g:=⟨h.p.O k (fun q=>q),h.s.O k (fun q=>q),h.t.O k (fun q=>q),h.o.trans k⟩
theorem oN{n j:Nat}(h:n≠j):((⟨#[33]⟩++JR n:ByteArray).toList==(⟨#[33]⟩++JR j:ByteArray).toList)=false:=by
 cases a:((⟨#[33]⟩++JR n:ByteArray).toList==(⟨#[33]⟩++JR j:ByteArray).toList) with
 | false=>rfl
 | true=> have e:=beq_iff_eq.1 a;rw [ByteArray.toList_eq,ByteArray.toList_eq] at e;unfold JR at e;simp at e;exact absurd (Q9 e) h
theorem mY(B0:Nat)(e5 w:World)(h:Nf B0 e5 w)(hI:jT B0 e5)(lv:Value)(ls:List Ln)(cb:ByteArray)(st:Int)(hl:Wy lv ls w)(k3:∀l∈ls,l.Ok):
 Calls Tryz.prog 9 #[lv,.string cb,.int .i64 st] w fun e N=>e=.returned (.bool true)∧Ab (fun _=>False) w N:=by
 have HL:=Aa hl;have HH:=Aa h;have HI:=Aa hI;have m2:=Aa k3;obtain ⟨la,lc,rfl,n5,n9⟩:=hl;clear h hI k3 n9 n5;go_enter Tryz.func9,Tryz.ntmps9;go_wp2_with fail;refine (Qm _ ls w HL.o m2.o).mono ?_;rintro e w1 ⟨⟨s,sv,rfl,hs,_,a8,_,l1⟩,o1⟩;have d5:=Zu hs (by omega);have b6:=Xk ls;obtain ⟨R,V,U,rfl⟩:∃a l c,sv=.slice a l c:=by obtain ⟨a,c,e⟩:=l1.form;exact ⟨a,_,c,e⟩
 rw [RJ];obtain ⟨ss,l0⟩:∃x,IC ls=x:=⟨_,rfl⟩;rw [l0] at d5 b6⊢;have h0:DS (Cd ss)≤240:=rO List.countP_le_length b6;have h8:DT (Cd ss)≤240:=rO List.countP_le_length b6;have c5:=Aa d5;obtain ⟨O,d9⟩:∃x,DS (Cd ss)=x:=⟨_,rfl⟩;obtain ⟨p,d3⟩:∃x,DT (Cd ss)=x:=⟨_,rfl⟩;have f8:=Aa d9;have e9:=Aa d3;rw [d9] at h0⊢;rw [d3] at h8⊢;have O1:=Aa o1;clear l0 l1 o1 d5 hs d9 d3 b6;have J:=Aa (Ak.new w1 #[.string s,.slice R V U,.int .i64 O,.int .i64 p] 25);have A1:=Aa ((Ab.refl (fun _=>False) w1).alloc (.cells #[.string s,.slice R V U,.int .i64 O,.int .i64 p] 25));go_upto_region 2 with fail;generalize w1.alloc (.cells #[.string s,.slice R V U,.int .i64 O,.int .i64 p] 25)=w2 at J A1⊢;have O2:=Aa (O1.o.trans A1.o);generalize w1.heap.size=b7 at J⊢;clear O1 A1;have p0:=J.o.cell 0;have p1:=J.o.cell 1;have p2:=J.o.cell 2;have p3:=J.o.cell 3;have lb:=Ae J.o;simp only [dM,dJ,dK] at p0 p1 p2 p3;go_wp2_with fail;have a4:=Aa (kA B0 e5 w2 (HH.o.go O2.o) s ss c5.o (.slice R V U) ⟨_,_,_,rfl⟩ (by rw [f8.o];exact h0) (by rw [e9.o];exact h8));unfold qM at a4;rw [f8.o,e9.o] at a4;unfold Vs at a4;refine a4.o.mono ?_;rintro e H ⟨⟨P,mn,rp,vs,fv,ev,T,k5,j9,k2,hy,rfl,b8,l3,k6⟩,o3⟩;have a1:=b8.size;have d8:=all_oneCell_toArray b8.one;change (Fv vs fv ev).all _=true at d8;obtain ⟨B,d4⟩:∃x,Fv vs fv ev=x:=⟨_,rfl⟩;rw [d4] at a1 d8⊢;have c4:=Aa d4;have g2:=Aa b8;have g0:=Aa k6;have f9:=Aa k5;have c6:=Aa j9;have f7:=Aa k2;have HY:=Aa hy;have g5:=Aa l3;have O5:=Aa (O2.o.trans o3);have B5:=Aa (J.o.O o3 (fun q=>q));clear a4 k5 j9 k2 hy l3 b8 k6 o3 J O2 p0 p1 p2 p3 lb d4;have BN:=Aa (Ak.new H IK 33);have W:=Aa ((Ab.refl (fun _=>False) H).alloc (.cells IK 33));go_upto_region 3 with (refine wpList_store_mid rfl 33 (.tmp 9) (.tmp 34) rfl H.heap.size 0 B rfl rfl (IS BN.o (by rw [a1];rfl)) (by rw [Tryz.infoSets,a1]) d8 ?_);have a2:=C9 H.heap.size B.toList 0 (H.alloc (.cells IK 33));have X:Ab (fun _=>False) H ((H.alloc (.cells IK 33)).setCells H.heap.size 0 B.toList):=by refine ⟨a2.os.trans W.o.os,a2.tape.trans W.o.tape,a2.output.trans W.o.output,rO W.o.size a2.size,fun k hk _=>?_⟩;rw [a2.block k (rP hk W.o.size) (by omega)];exact W.o.block k hk (fun q=>q)
 have N5:=Aa (IR (cs:=B) BN.o (by rw [a1];rfl));have B6:=Aa (B5.o.O X (fun q=>q));have O6:=Aa (O5.o.trans X);have d0:=Aa (g2.o.i9 X);have c8:=Aa (g0.o.i9 X);clear BN W a2 X B5 O5 g2 g0;generalize (H.alloc (.cells IK 33)).setCells H.heap.size 0 B.toList=w6 at N5 B6 O6 d0 c8⊢;generalize H.heap.size=b9 at N5⊢;go_wp2_with fail;refine (pS (HH.o.go O6.o) HI.o).mono ?_;rintro e w7 ⟨⟨e3,e4,rfl⟩,o7⟩;have O7:=Aa (O6.o.trans o7);have N7:=Aa (N5.o.O o7 (fun q=>q));have B7:=Aa (B6.o.O o7 (fun q=>q));have h9:=Aa (d0.o.i9 o7);have g8:=Aa (c8.o.i9 o7);clear o7 O6 N5 B6 d0 c8;have A:=Aa (Ak.new w7 #[.int .i64 2,.int .i64 5,.slice e3 3 e4] 53);have o:=Aa ((Ab.refl (fun _=>False) w7).alloc (.cells #[.int .i64 2,.int .i64 5,.slice e3 3 e4] 53));go_upto_region 6 with fail;generalize w7.alloc (.cells #[.int .i64 2,.int .i64 5,.slice e3 3 e4] 53)=w8 at A o⊢;generalize w7.heap.size=p4 at A⊢;have O8:=Aa (O7.o.trans o.o);have N8:=Aa (N7.o.O o.o (fun q=>q));have B8:=Aa (B7.o.O o.o (fun q=>q));have i0:=Aa (h9.o.i9 o.o);have g9:=Aa (g8.o.i9 o.o);clear O7 N7 B7 h9 g8 o;have t0:=A.o.cell 0;have t1:=A.o.cell 1;have t2:=A.o.cell 2;have lt:=Ae A.o;have p0:=B8.o.cell 0;have lb:=Ae B8.o;simp only [dM,dJ,dK] at t0 t1 t2 p0;go_wp2_with fail;clear t0 t1 t2 lt A p0 lb;refine (oF (HH.o.go O8.o) HI.o s ss c5.o cb st).mono ?_;rintro e w9 ⟨p5,va,vl,vc,l,hA,rfl,G,Z,hG,o9⟩;have n8:=Aq G;subst n8;obtain ⟨p6,i4,n0,i6,d6⟩:=f9.o;have E:=nV c5.o.ok i4 hA;rw [E.run] at Z⊢;have Z:=E.seen Z;have m1:=Aa d6;rw [←i6,←d6] at Z⊢;have b5:=pT HY.o.ok HY.o.mn (UL st) cb.data.toList;obtain ⟨S,hS⟩:∃S,gY P mn (UL st) cb.data.toList=S:=⟨_,rfl⟩;rw [hS] at Z b5⊢;obtain ⟨K,j7⟩:∃n,S.1.bM=n:=⟨_,rfl⟩;obtain ⟨sn,k9⟩:∃n,UL st-S.2=n:=⟨_,rfl⟩;have n3:=b5.en;rw [j7] at n3⊢;rw [k9];have m0:=Aa b5.c;have m5:=Aa Z;have hm:=Qb G;have c7:=Aa (Ao G (rR _));have O9:=Aa (O8.o.trans o9);have N9:=Aa (N8.o.O o9 (fun q=>q));have B9:=Aa (B8.o.O o9 (fun q=>q));have i1:=Aa (i0.o.i9 o9);have h5:=Aa (g9.o.i9 o9);clear hA Z b5 hS j7 k9 G hG o9 O8 N8 B8 i0 g9 E i4 n0 i6 d6 f9;obtain ⟨C,d7⟩:∃n,l.length=n:=⟨_,rfl⟩;have f6:=Aa d7;rw [d7] at hm c7⊢;clear d7;have A:=Aa (Ak.new w9 #[.int .i64 K,.int .i64 sn,.slice va C vc] 53);have o:=Aa ((Ab.refl (fun _=>False) w9).alloc (.cells #[.int .i64 K,.int .i64 sn,.slice va C vc] 53));go_upto_region 9 with fail;generalize w9.alloc (.cells #[.int .i64 K,.int .i64 sn,.slice va C vc] 53)=a3 at A o⊢;generalize w9.heap.size=b2 at A⊢;have m7:=Aa (O9.o.trans o.o);have i2:dN (pJ a3 b7 b9 b2 #[.string s,.slice R V U,.int .i64 O,.int .i64 p] B #[.int .i64 K,.int .i64 sn,.slice va C vc] a3):=⟨B9.o.O o.o (fun q=>q),N9.o.O o.o (fun q=>q),A.o,Ab.refl _ _⟩;have b0:=Aa (i1.o.i9 o.o);have g7:=Aa (h5.o.i9 o.o);have m8:=Aa (Ac c7.o o.o (fun _ _ q=>q));clear O9 N9 B9 i1 h5 c7 o A;go_wp2_with fail;refine (lO HH.o.sr P mn O p rp a3 HY.o g7.o).mono ?_;rintro e o8 ⟨rv,Q,rfl,rs,rt,_,l6⟩;obtain ⟨ra,rn,rc,rfl⟩:=Ad rs;have h6:=Aa (Ao rs (rR _));have a5:=Aa (i2.o.go l6);have l9:dN (∀x,x∈l→∃a b:ByteArray,x.data.toList=a.data.toList++62::b.data.toList∧(62:UInt8)∉a.data.toList∧x.size≤60∧qO T Q p a b):=fun x hx=>oS c6.o f7.o HY.o g5.o b0.o.t16 rt h0 h8 m0.o m5.o hx
 have f4:dN (FY Q ⟨#[109,97,105,110]⟩=true):=Ih.2 (rt.aY.2 ⟨mn,FG.rf _ _ _,by have e:mn=0:=m1.o.trans (by decide+kernel);rw [e];exact ((Fu c6.o (show 0<4 by omega)).1).symm⟩)
 clear rs rt l6 i2;have c1:=Aa (jZ c6.o f7.o HY.o g5.o vs fv ev rp o8 (b0.o.i9 a5.o.o) (g7.o.i9 a5.o.o));rw [c4.o] at c1;go_wp2_with (refine J7 rfl (.tmp 9) rfl b9 rfl B a1 a5.o.s ?_);refine c1.o.mono ?_;rintro e q8 ⟨rfl,e2⟩;have b1:=Aa (a5.o.go e2);have c9:=Aa (Ac h6.o e2 (fun _ _ q=>q));have o5:decide ((K:Int)<1)=false:=by simp;omega
 have o6:decide ((4:Int)<(K:Int))=false:=by simp;omega
 have t0:=b1.o.t.cell 0;have lt:=Ae b1.o.t;simp only [dM,dJ] at t0;clear c1 e2 a5 h6;go_wp2_with (go_at_call 22;refine (Fs 0 _ Q _ _ c9.o).mono ?_;rw [f4.o];rintro e N ⟨rfl,d⟩;have d:=d.symm;subst d);clear t0 lt o5 o6 f4;go_loopw [18] (fun i wr=>∃(k:Nat),k≤C∧i=.int .i64 k∧dN (pJ a3 b7 b9 b2 #[.string s,.slice R V U,.int .i64 O,.int .i64 p] B #[.int .i64 K,.int .i64 sn,.slice va C vc] wr)∧dN (Au 0 wr (.slice ra rn rc) Q)) (fun i _=>C-(intOf i).toNat)
 case atStart=>exact ⟨0,by omega,rfl,b1,c9⟩
 case round=>
  clear b1 c9;obtain ⟨k,hk,rfl,m,t⟩:=hrel;have c2:=m.o.t.cell 2;have lt:=Ae m.o.t;simp only [dM,dJ,dK] at c2;by_cases n6:k<C
  ·have tk:decide ((k:Int)<(C:Int))=true:=by simp;omega
   have n4:k<l.length:=by rw [f6.o];exact n6
   obtain ⟨x,hx⟩:∃x,l[k]=x:=⟨_,rfl⟩;have G:=m8.o;rw [←f6.o] at G;obtain ⟨g,c0⟩:=AA G (by omega);rw [c0] at G;have hc:=Gv G k n4;rw [hx] at hc;have lg:=(G.lt g rfl).2;have n2:wr.cell? ⟨g,k,none⟩=some (.string x):=(rM (m.o.o.block g lg (fun q=>q))).trans hc;have o0:g<wr.heap.size:=rP lg m.o.o.size;obtain ⟨a,b,l4,k1,a8,j8⟩:=l9.o x (by rw [←hx];exact rQ _);have g6:=Aa l4;have f5:=Aa k1;have g4:=Aa a8;have m6:=Aa c0;rw [c0] at c2;clear G hc lg l4 k1 hx c0 a8;go_wp2_with fail;refine (mZ x a b g6.o f5.o (rO g4.o (by decide)) _).mono ?_;rintro e w1 ⟨rfl,o1⟩;have a0:=Aa (m.o.go o1);have a9:=Aa (Ac t.o o1 (fun _ _ q=>q));clear c2 lt n2 o0 m t o1 g6 f5 g4 m6;have hd:∃c r,a.data.toList=c::r∧1≤r.length:=by
    rcases j8 with ⟨n,_,_,ha,_⟩ | ⟨⟨c,r,u,_,I⟩,_⟩
    ·obtain ⟨c,r,u,_⟩:=lD n;refine ⟨33,c::r,?_,by simp⟩;rw [ha];unfold JR;simp [u]
    ·exact ⟨c,r,u,I⟩
   have p7:2≤a.size:=by obtain ⟨c,r,u,I⟩:=hd;have e:a.data.toList.length=a.size:=Array.length_toList;rw [u,rW] at e;omega
   have ta:decide ((a.size:Int)<2)=false:=by simp;omega
   have a6:0<a.size:=by omega
   have b3:∀c r,a.data.toList=c::r→a[0]'a6=c:=fun c r h=>by
    have e:a[0]'a6=a.data.toList[0]'(by rw [Array.length_toList];exact a6):=by rw [Array.getElem_toList];rfl
    rw [e];simp only [h,List.getElem_cons_zero]
   clear hd;rcases j8 with ⟨n,q1,q2,ha,d2,i9,j0⟩ | ⟨⟨c,r,j6,j3,n7⟩,k4,j4,i8,i7⟩
   ·have o4:(((a[0]'a6).toNat:Int)==33)=true:=by rw [b3 33 (Lib.decDigits n) (by rw [ha];unfold JR;simp)];rfl
    have HA:=Aa ha
    have e8:=Aa i9
    have l8:=Aa j0
    clear b3 ha i9 j0
    go_wp2_with fail
    go_loopw [22,23] (fun nv kv wr=>∃(j z:Nat),1≤j∧j≤p+1∧kv=.int .i64 j∧nv=.int .i64 z∧dN (z=if n<j then n else 0)∧dN (pJ a3 b7 b9 b2 #[.string s,.slice R V U,.int .i64 O,.int .i64 p] B #[.int .i64 K,.int .i64 sn,.slice va C vc] wr)∧dN (Au 0 wr (.slice ra rn rc) Q)) (fun _ kv _=>p+1-(intOf kv).toNat)
    case atStart=>exact ⟨1,0,by omega,by omega,rfl,rfl,Aa (by rw [if_neg (by omega)]),a0,a9⟩
    case round=>
     clear a0 a9;obtain ⟨j,z,p8,p9,rfl,rfl,HZ,m,t⟩:=hrel;have p3:=m.o.p.cell 3;have lp:=Ae m.o.p;simp only [dM,dJ,dK] at p3;by_cases q0:j≤p
     ·have tj:decide ((j:Int)≤(p:Int))=true:=by simp;omega
      obtain ⟨D,hD⟩:∃x,JR j=x:=⟨_,rfl⟩;have zD:=FP j (by omega);rw [hD] at zD;have HD:=Aa hD;cases Y:(a.toList==(({data:=#[33]}:ByteArray)++D).toList) with
      | true=>
        have HE:dN (n=j):=by
         by_cases q:n=j
         ·exact q
         ·have:=oN q;rw [HA.o,←hD] at Y;rw [this] at Y;cases Y
        clear hD;go_wp2_with (go_at_call 24;refine (FQ j (by omega) _).mono ?_;rw [HD.o];rintro e w2 ⟨rfl,M⟩);go_roundw
        case rel=>exact ⟨j+1,j,by omega,by omega,by go_num,rfl,Aa (by have:=HE.o;rw [if_pos (by omega)];exact this.symm),m.o.go M,Ac t.o M (fun _ _ q=>q)⟩
        case measure=>simp [intOf];omega
      | false=>
        have HE:dN (n≠j):=fun q=>by rw [HA.o,←hD,q] at Y;simp at Y
        clear hD;go_wp2_with (go_at_call 24;refine (FQ j (by omega) _).mono ?_;rw [HD.o];rintro e w2 ⟨rfl,M⟩);go_roundw
        case rel=>exact ⟨j+1,z,by omega,by omega,by go_num,rfl,Aa (by have:=HE.o;rw [HZ.o];by_cases q:n<j<;>simp only [q,if_true,if_false]<;>first | rw [if_pos (by omega)] | rw [if_neg (by omega)]),m.o.go M,Ac t.o M (fun _ _ q=>q)⟩
        case measure=>simp [intOf];omega
     ·have tj:decide ((j:Int)≤(p:Int))=false:=by simp;omega
      have hz:z=n:=by rw [HZ.o,if_pos (by omega)]
      subst hz;have tz:((z:Int)==0)=false:=by simp;omega
      clear HZ;obtain ⟨ea,ec,d1,k7⟩:=(b0.o.i9 m.o.o).bN;rw [c4.o] at d1;obtain ⟨eg,eb,ed,rfl,j5,lg,k8⟩:=k7.get d2;have l7:=m.o.s.cell 17;rw [d1] at l7;have q6:=Ae m.o.s;have g3:=Aa k8;obtain ⟨EL,i5⟩:∃L,T.E[z-1]=L:=⟨_,rfl⟩;rw [i5] at g3 e8 j5;obtain ⟨nE,k0⟩:∃n,T.E.length=n:=⟨_,rfl⟩;rw [k0] at l7 d2;have e1:(z:Int)-1=((z-1:Nat):Int):=by omega
      obtain ⟨z1,l5⟩:∃y,z-1=y:=⟨_,rfl⟩;rw [l5] at e1 j5 d2;have tE:(z1:Int)<(nE:Int):=by omega
      clear d1 k7 k8 i5 k0 l5;go_wp2_with (first
       | (have q9:=m9;go_at_call 22;refine (Fs 0 (.slice ra rn rc) Q b _ t.o).mono ?_;rw [l8.o];rintro e N ⟨rfl,d⟩;have d:=d.symm;subst d)
       | (go_at_call 22;refine (Fs 0 (.slice eb EL.length ed) EL b _ g3.o).mono ?_;rw [e8.o];rintro e N ⟨rfl,d⟩;have d:=d.symm;subst d;have m9:=True.intro))
      go_roundw
      case rel=>exact ⟨k+1,by omega,by go_num,m,t⟩
      case measure=>simp [intOf];omega
   ·have o4:(((a[0]'a6).toNat:Int)==33)=false:=by
     rw [b3 c r j6];cases hq:((c.toNat:Int)==33) with
     | false=>rfl
     | true=> refine absurd ?_ j3;apply UInt8.toNat_inj.1;have:(33:UInt8).toNat=33:=rfl;simp at hq;omega
    have m4:=Aa k4
    have f0:=Aa j4
    have e7:=Aa i8
    have e6:=Aa i7
    clear b3 j6 j3 n7 k4 j4 i8 i7
    go_wp2_with (refine J7 rfl (.tmp 9) rfl b9 rfl B a1 a0.o.s ?_)
    have c3:=Aa (UG vs fv ev T a w1 (b0.o.i9 a0.o.o))
    rw [c4.o] at c3
    refine c3.o.mono ?_
    rintro e w2 ⟨⟨q7,bb,l2,rfl,e0,j2,j1⟩,M⟩
    have n1:bb=true:=by
     cases bb with
     | true=>rfl
     | false=>
       obtain ⟨f1,f2⟩:=j1 rfl;rcases f0.o with ⟨f,v,u,I,h3⟩ | ⟨i,u,I⟩
       ·exact absurd h3 (f1 f v u I)
       ·exact absurd I (f2 i u)
    subst n1
    have f3:dN (FY l2 b=true):=by
     rcases j2 rfl with ⟨f,v,u,I,h3,X⟩ | ⟨i,u,I,h3⟩
     ·rw [X];exact e7.o f v u I h3
     ·rw [h3];exact e6.o i u I
    obtain ⟨q3,q5,q4,rfl⟩:=Ad e0
    have g1:=Aa e0
    have i3:=Aa (a0.o.go M)
    have h7:=Aa (Ac a9.o M (fun _ _ q=>q))
    clear c3 e0 j2 j1 M a0 a9 f0 e7 e6
    go_wp2_with (go_at_call 22;refine (Fs 0 _ l2 b _ g1.o).mono ?_;rw [f3.o];rintro e N ⟨rfl,d⟩;have d:=d.symm;subst d)
    clear g1 f3
    go_loopw [26] (fun i wr=>∃(f:Nat),f≤4∧i=.int .i64 f∧dN (pJ a3 b7 b9 b2 #[.string s,.slice R V U,.int .i64 O,.int .i64 p] B #[.int .i64 K,.int .i64 sn,.slice va C vc] wr)∧dN (Au 0 wr (.slice ra rn rc) Q)) (fun i _=>4-(intOf i).toNat)
    case atStart=>exact ⟨0,by omega,rfl,i3,h7⟩
    case round=>
     clear i3 h7;obtain ⟨f,hf,rfl,m,t⟩:=hrel;by_cases b4:f<4
     ·have tf:decide ((f:Int)<4)=true:=by simp;omega
      have a7:=m4.o f b4;obtain ⟨F,hF⟩:∃x,Kz f=x:=⟨_,rfl⟩;have zF:=Ia f;rw [hF] at zF a7;have HF:=Aa hF;clear hF;by_cases a8:F.size<a.size
      ·have ts:decide ((F.size:Int)<(a.size:Int))=true:=by simp;omega
       cases Y:((a.extract 0 (F.size+1)).toList==(F++({data:=#[46]}:ByteArray)).toList) with
       | true=>
         have m3:=Aa (a7 a8 Y);clear a7;go_wp2_with (first
          | (go_at_call 26;refine (Gm _ b4 _).mono ?_;rw [HF.o];rintro e N ⟨rfl,d⟩;have d:=d.symm;subst d)
          | (go_at_call 22;refine (Fs 0 _ Q F _ t.o).mono ?_;rw [m3.o];rintro e N ⟨rfl,d⟩;have d:=d.symm;subst d))
         go_roundw
         case rel=>exact ⟨f+1,by omega,by go_num,m,t⟩
         case measure=>simp [intOf];omega
       | false=>
         clear a7;go_wp2_with (go_at_call 26;refine (Gm _ b4 _).mono ?_;rw [HF.o];rintro e N ⟨rfl,d⟩;have d:=d.symm;subst d);go_roundw
         case rel=>exact ⟨f+1,by omega,by go_num,m,t⟩
         case measure=>simp [intOf];omega
      ·have ts:decide ((F.size:Int)<(a.size:Int))=false:=by simp;omega
       clear a7;go_wp2_with (go_at_call 26;refine (Gm _ b4 _).mono ?_;rw [HF.o];rintro e N ⟨rfl,d⟩;have d:=d.symm;subst d);go_roundw
       case rel=>exact ⟨f+1,by omega,by go_num,m,t⟩
       case measure=>simp [intOf];omega
     ·have tf:decide ((f:Int)<4)=false:=by simp;omega
      go_wp2_with fail;go_roundw
      case rel=>exact ⟨k+1,by omega,by go_num,m,t⟩
      case measure=>simp [intOf];omega
  ·have tk:decide ((k:Int)<(C:Int))=false:=by simp;omega
   go_wp2_with fail;go_ret;exact ⟨rfl,m7.o.trans m.o.o⟩
end Go.Proofs.YtegmjgjkcdbmkaaGreatDoor

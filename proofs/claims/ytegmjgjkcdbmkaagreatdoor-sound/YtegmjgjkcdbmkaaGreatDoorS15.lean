/- One of the texts of the proof: AnS AnT AnU AnV. -/
import Derived.Test.YtegmjgjkcdbmkaaGreatDoorS14
import Derived.WideKeyEntry
set_option maxRecDepth 100000
set_option maxHeartbeats 4000000
namespace Go.Proofs.YtegmjgjkcdbmkaaGreatDoor
open Go.RowKit Go.Maps Go.ChangeMaps
theorem TE(P d fv E D C o v w)(A:AnOk P D C)(h:Dn P d fv E D C o v w)(h0:Ph P o v (fun _=>False) 0):
 Calls Tryz.prog 59 #[.pointer (some ⟨d,0,none⟩)] w fun e w'=>e=.returned (.tuple #[])∧∃o' v',Fm P d fv E D C o o' v' w w'∧v'.s.le (least P)∧(least P).le v'.s:=by
 obtain ⟨L,fl,H,j8,j7⟩:∃a l c,fv=.slice a l c∧l=P.length:=by obtain ⟨cs,q,_⟩:=h.pl;obtain ⟨a,l,c,e⟩:=Ad q;rw [e] at q;exact ⟨a,l,c,e,Aq q⟩
 subst j7;subst j8;have l2:=A.bA;have p0:=h.r.s9.cell 0;have b0:=Ae h.r.s9;simp only [Gf,dM,dJ] at p0;have Q:=Aa A;have B0:dN (Fm P d (.slice L P.length H) E D C o o v w w):=Fm.rf h;have H0:=Aa h0;clear h A h0;go_enter Tryz.func59,Tryz.ntmps59;go_wp2_with fail;go_loopw [14] (fun i wr=>∃(k:Nat) (K:So) (O:Sv),k≤P.length∧i=.int .i64 k∧dN (Fm P d (.slice L P.length H) E D C o K O w wr)∧dN (Ph P K O (fun r=>Ly P r∧r.f<k) (k*4001))) (fun i _=>P.length-(intOf i).toNat)
 case atStart=>exact ⟨0,o,v,by omega,rfl,B0,⟨H0.o.raw,H0.o.ok,H0.o.w,fun r q=>by omega,fun c=>by have:=H0.o.len c;omega⟩⟩
 case round=>
  clear B0 H0 p0 b0;obtain ⟨k,K,O,hk,rfl,p,y⟩:=hrel;by_cases a1:k<P.length
  ·obtain ⟨gf,rfl⟩:∃g,L=some ⟨g,0,none⟩:=by obtain ⟨cs,q,_⟩:=p.o.e.pl;exact AA q (by omega)
   have l0:gf<wr.heap.size:=by obtain ⟨cs,q,_⟩:=p.o.e.pl;exact (q.lt gf rfl).2
   obtain ⟨vv,sv,f1,_,a9⟩:=p.o.e.pl.get a1
   obtain ⟨sa,sc,rfl,d1⟩:=a9.form
   have c3:=f1 3 (by omega)
   simp only [MR,dJ,dK] at c3
   have c9:Ap P k=P[k]:=by unfold Ap;rw [rU a1];rfl
   rw [←c9] at c3 a9 d1
   have p0:=p.o.e.r.s9.cell 0
   have b0:=Ae p.o.e.r.s9
   simp only [Gf,dM,dJ] at p0
   have l5:=Q.o.ok.many k
   have k2:(k:Int)<(P.length:Int):=by omega
   have k1:k+1≤P.length:=a1
   have l1:=Aa c9
   have B1:dN (Fm P d (.slice (some ⟨gf,0,none⟩) P.length H) E D C o K O w wr):=p.o
   have Q1:dN (Ph P K O (fun r=>Ly P r∧(r.f<k∨(r.f=k∧∃j,j<0∧(Ap P k).b9[j]? =some r.s))) (k*4001+0)):=⟨y.o.raw,y.o.ok,y.o.w,fun r q=>by
    rcases q with ⟨q1,Y | ⟨_,j,Y,_⟩⟩
    ·exact y.o.d r ⟨q1,Y⟩
    ·omega,fun c=>y.o.len c⟩
   have j3:=Aa a9
   have S1:dN (Fm P d (.slice (some ⟨gf,0,none⟩) P.length H) E D C K K O wr wr):=Fm.rf p.o.e
   have j1:=Aa d1
   clear f1 c9 p y a9 d1
   go_wp2_with fail
   clear p0 b0 c3 l0
   go_loopw [27] (fun i wi=>∃(j:Nat) (b:So) (f:Sv),j≤(Ap P k).b9.length∧i=.int .i64 j∧dN (Fm P d (.slice (some ⟨gf,0,none⟩) P.length H) E D C K b f wr wi)∧dN (Ph P b f (fun r=>Ly P r∧(r.f<k∨(r.f=k∧∃i,i<j∧(Ap P k).b9[i]? =some r.s))) (k*4001+j))) (fun i _=>(Ap P k).b9.length-(intOf i).toNat)
   case atStart=>exact ⟨0,K,O,by omega,rfl,S1,Q1⟩
   case round=>
    obtain ⟨j,b,f,hj,rfl,Z,W⟩:=hrel;by_cases b7:j<(Ap P k).b9.length
    ·obtain ⟨gs,rfl,h8⟩:=j1.o (by omega);have h2:=j3.o.O Z.o.on S1.o.e.r.noPlan;have m4:gs<wr.heap.size:=rP h8 Z.o.on.size;obtain ⟨av,S,hI⟩:=h2.get b7;have c0:=S 0 (by omega);have c1:=S 1 (by omega);have c2:=S 2 (by omega);have c3:=S 3 (by omega);have c4:=S 4 (by omega);have c5:=S 5 (by omega);have c6:=S 6 (by omega);have c7:=S 7 (by omega);simp only [Hk,dJ,dK,Nat.add_zero] at c0 c1 c2 c3 c4 c5 c6 c7;have f7:(Ap P k).b9[j]∈(Ap P k).b9:=rQ _;have HG:=Aa (rU b7);have k0:(j:Int)<((Ap P k).b9.length:Int):=by omega
     have j9:j+1≤(Ap P k).b9.length:=b7;obtain ⟨aa,al,ac,rfl⟩:=Ad hI;have j5:=Aq hI;subst j5;have HI:=Aa hI;have d9:=Aa f7;clear h2 S hI f7 S1 Q1 h8;generalize (Ap P k).b9[j]=s at*;have o5:Ab (fun _=>False) wr (wr.alloc (.cells (Hk s (.slice aa s.args.length ac)).toArray 190)):=(Ab.refl _ wr).alloc _;have e4:=Z.o.i9 o5;have e9:=Ac HI.o o5 (fun _ _ q=>q);have d4:=Aa e4;have h9:=Aa e9;clear e4 e9 o5;go_wp2_with fail;refine (Se P d _ E D C b f _ Q.o d4.o.e ⟨k,s⟩ (.slice aa s.args.length ac) h9.o ⟨a1,d9.o⟩ (fun c=>by have:=W.o.len c;omega)).mono ?_;rintro e w6 ⟨rfl,o6,v6,b6⟩;have b4:=Aa (d4.o.more b6.so b6.ow b6.on);have b3:dN (Ph P o6 v6 (fun r=>Ly P r∧(r.f<k∨(r.f=k∧∃i,i<j+1∧(Ap P k).b9[i]? =some r.s))) (k*4001+(j+1))):=W.o.next b6 ⟨a1,d9.o⟩ fun q hq=>by
      rcases hq with ⟨q1,Y | ⟨Y,i,q3,q4⟩⟩
      ·exact .inl ⟨q1,.inl Y⟩
      ·by_cases e:i=j
       ·subst e;rw [HG.o] at q4;refine .inr ?_;obtain ⟨qf,qs⟩:=q;simp only [Option.some.injEq] at Y q4;rw [Y,q4]
       ·exact .inl ⟨q1,.inr ⟨Y,i,by omega,q4⟩⟩
     clear b6;go_wp2_with fail;go_roundw
     case rel=>exact ⟨j+1,o6,v6,j9,by go_num,b4,b3⟩
     case measure=>simp [intOf];omega
    ·have e:j=(Ap P k).b9.length:=by omega
     subst e;have k0:decide (((Ap P k).b9.length:Int)<((Ap P k).b9.length:Int))=false:=by simp
     have b4:=Aa (B1.o.more Z.o.e.r Z.o.ow Z.o.on);have b3:dN (Ph P b f (fun r=>Ly P r∧r.f<k+1) ((k+1)*4001)):=⟨W.o.raw,W.o.ok,W.o.w,fun r T=>by
      refine W.o.d r ⟨T.1,?_⟩;by_cases e:r.f=k
      ·refine .inr ⟨e,?_⟩;have:=T.1.2;rw [e] at this;obtain ⟨i,hi,e2⟩:=List.mem_iff_getElem.1 this;exact ⟨i,hi,by rw [rU hi,e2]⟩
      ·exact .inl (by have:=T.2;omega),fun c=>by have:=W.o.len c;omega⟩
     clear Z W S1 Q1;go_wp2_with fail;go_roundw
     case rel=>exact ⟨k+1,b,f,k1,by go_num,b4,b3⟩
     case measure=>simp [intOf];omega
  ·have e:k=P.length:=by omega
   subst e;have k2:decide ((P.length:Int)<(P.length:Int))=false:=by simp
   have Q2:dN (Yo P K O):=⟨y.o.ok,y.o.w,fun r T=>y.o.d r ⟨T,T.1⟩,fun c=>by have:=y.o.len c;omega⟩;have B2:dN (Fm P d (.slice L P.length H) E D C o K O w wr):=p.o;obtain ⟨mf,f8⟩:=Ru;obtain ⟨J,hJ⟩:∃J:Nat→World→Prop,J=fun n U=>∃(b:So) (f:Sv),dN (Fm P d (.slice L P.length H) E D C o b f w U)∧dN (Yo P b f)∧dN (f.left 16400 n):=⟨_,rfl⟩
   have d5:dN (∃n,J n wr):=⟨_,by rw [hJ];exact ⟨K,O,B2,Q2,rfl⟩⟩;have HJ:=Aa hJ;have d8:=Aa f8;clear y p Q2 B2 hJ f8;go_wp2_with fail;go_loopw [] (fun U=>∃n,J n U) (fun U=>mf (fun n=>J n U))
   case atStart=>exact d5.o
   case round=>
    clear d5;obtain ⟨n0,f9⟩:=hrel;have g0:=(d8.o (fun n=>J n wr) n0 f9).1;obtain ⟨nn,b9⟩:∃nn,nn=mf (fun n=>J n wr):=⟨_,rfl⟩;have g1:J nn wr:=by rw [b9];exact g0
    rw [HJ.o] at g1;obtain ⟨b,f,G,y,HL⟩:=g1;have i4:=Aa b9;clear f9 g0 b9 n0;have X:=G.o.e.r;have p6:=X.s9.cell 6;have f6:=X.s9.frozen 6;have b0:=Ae X.s9;simp only [Gf,dM,dJ,dK] at p6;have a7:=X.mp 2 (by omega);obtain ⟨ln,l4,k3,a6⟩:=a7.len Tryz.underlying91 3;have m5:=a7.lt;by_cases hz:ln=0
    ·subst hz;have HD:=Aa (y.o.done X (a6.1 rfl));clear X a7 a6 HL;go_wp2_with fail;go_end0;exact ⟨rfl,b,f,G.o,HD.o⟩
    ·have l3:0<ln:=by omega
     have hv:∃c t,c<16400∧t<16400∧f.N c t:=by
      apply Classical.byContradiction;intro q;refine hz (a6.2 fun c=>?_);cases hq:b.bk 2 c with
      | none=>rfl
      | some x=> obtain ⟨t,ht⟩:=X.d2 c x hq;have hi:=Im Q.o (y.o.ok.le.i _ _ (y.o.ok.np c t ht));exact absurd ⟨c,t,hi.1.lt Q.o.bA Q.o.ok.l8 Q.o.lp,hi.2.lt Q.o,ht⟩ q
     have a2:=@run_makeMap Tryz.prog;have HV:=Aa hv;clear hz a6 hv X a7;go_upto_region 12 with fail;have h3:(wr.setCell ⟨d,6,none⟩ (.map (some wr.heap.size))).heap.size=wr.heap.size:=by simp
     have f0:Ak d (Gf (b.tk wr.heap.size) (.slice L P.length H) E D C) 144 ((wr.setCell ⟨d,6,none⟩ (.map (some wr.heap.size))).alloc (.map #[] 0)):=(G.o.e.r.s9.set 6 (.map (some wr.heap.size))).alloc _;have f5:Bv Hb Ha wr.heap.size (fun _=>none) ((wr.setCell ⟨d,6,none⟩ (.map (some wr.heap.size))).alloc (.map #[] 0)):=by have q:=Bv.made (R:=Hb) (dc:=Ha) (wr.setCell ⟨d,6,none⟩ (.map (some wr.heap.size)));rw [h3] at q;exact q
     have a3:Ab (fun k=>k=d) wr ((wr.setCell ⟨d,6,none⟩ (.map (some wr.heap.size))).alloc (.map #[] 0)):=((Ab.refl _ wr).d8 6 _).alloc _;have k8:((wr.setCell ⟨d,6,none⟩ (.map (some wr.heap.size))).alloc (.map #[] 0)).heap.size=wr.heap.size+1:=by simp
     obtain ⟨e6,g5⟩:=G.o.e.took (rN _) f5 f0 a3;have g4:=G.o.e.r.outk (rN wr.heap.size);clear f0 f5 h3;generalize (wr.setCell ⟨d,6,none⟩ (.map (some wr.heap.size))).alloc (.map #[] 0)=M at*;have k6:b.om 2≠d:=by obtain ⟨_,_,e⟩:=(G.o.e.r.mp 2 (by omega)).isMap;exact (G.o.e.r.bR e).1
     have d7:=Aa ((G.o.e.r.mp 2 (by omega)).O a3 k6);have h1:∀c x,b.bk 2 c=some x→A9 x (f.N c) M∧x<wr.heap.size:=fun c x hx=>by have q:=G.o.e.r.st 2 c x hx;obtain ⟨_,_,e⟩:=q.isMap;exact ⟨(q.O a3 (G.o.e.r.bR e).1).iff fun t=>Kq,q.lt⟩
     have j2:=Aa h1;have a5:=Aa e6;have e1:=Aa g5;have e0:=Aa g4;have i6:=Aa a3;have m6:b.om 2<M.heap.size:=by omega
     clear h1 e6 g5 g4 a3 p6 f6 k3 a2;go_wp2_with (at_range;refine DJ _ rfl _ 91 rfl 93 Tryz.underlying91 (b.om 2) rfl d7.o ?_;intro w3 a0 c8 g7);try go_frame
     obtain ⟨F,g6⟩:∃F,F=M.heap.size:=⟨_,rfl⟩;rw [←g6] at a0 g7⊢;have R0:=Aa a0;have g2:¬(b.tk wr.heap.size).own d F:=fun q=>by have:=a5.o.r.ownLt q;omega
     have S0:dN (Dp P d (.slice L P.length H) E D C (b.tk wr.heap.size) (b.tk wr.heap.size) f.took M w3):=⟨(a5.o.i9 c8).r,fun _ q=>.inl q,rfl,c8.mono fun _ _ q=>q.elim⟩;have K0:dN (f.took.up f.took∧Bs P (fun a t=>(∃x,b.bk 2 a=some x)∧f.N a t) f.took):=⟨.rf _,y.o.ok.took.kept fun c t q=>⟨G.o.e.r.ins 2 c t (by omega) (Kq.2 q),q⟩⟩;have e3:=Aa g2;have l6:M.heap.size≤F:=by omega
     have l7:F≤M.heap.size:=by omega
     have m1:wr.heap.size<M.heap.size:=by omega
     have m2:M.heap.size≤wr.heap.size+1:=by omega
     clear a0 c8 g2 d7 g6 k8 g7;generalize h6:wr=U at*;have j4:=Aa h6;clear h6;go_loopw [] (fun wi=>∃(b1:Nat→Prop) (N:So) (I:Sv),dN (EI Hb Ha (b.om 2) F (b.bk 2) b1 wi)∧dN (Dp P d (.slice L P.length H) E D C (b.tk U.heap.size) N I M wi)∧dN (f.took.up I∧Bs P (fun a t=>b1 a∧f.N a t) I)∧dN (¬N.own d F)) (fun wi=>wi.rangeLeft (b.om 2) F)
     case atStart=>exact ⟨_,_,_,R0,S0,K0,e3⟩
     case round=>
      clear R0 S0 K0 e3;obtain ⟨b1,N,I,HR,p,V,b2⟩:=hrel;go_wp2_with (at_next;refine D9 _ rfl _ rfl Dw (b.om 2) F rfl HR.o ?_ ?_);rotate_left
      ·intro k x w4 hk l9 b5 a0 k4 a8 m0 j6;unfold GG at j6;obtain ⟨_,_,_,_,f3⟩:=HR.o.iter;have k9:0≠F:=by have:=a5.o.tl;omega
       have e7:=a5.o.next p.o;have e8:=e7.O a8 (fun z q=>by rw [q];exact b2.o) (fun z cs t fz q r=>by rw [q,f3] at r;cases r) (fun q=>k9 q);obtain ⟨g8,m3⟩:=j2.o k x b5;have d2:=e0.o.1 k x b5;have h7:¬N.own d x:=fun q=>(p.o.ow _ q).elim d2 fun q=>by omega
       have g9:=(g8.O p.o.on d2).O a8 (fun q=>by omega);obtain ⟨t0,h4⟩:=G.o.e.r.d2 k x b5;have f2:=(Im Q.o (y.o.ok.le.i _ _ (y.o.ok.np k t0 h4))).1;have a4:N.rl=b.rl:=congrArg Prod.fst p.o.rl;have l8:F<w4.heap.size:=a0.ltr;have b8:∀t,f.N k t→I.s.I k t:=fun t ht=>V.o.1.le.s.i _ _ (y.o.ok.np k t ht)
       have h5:∀r,I.W k r→Ly P r∧A2 r∧r.at=k:=fun r T=>y.o.w k r (by have:=V.o.1.le.w;rw [this] at T;exact T)
       have d3:=Aa (Qe P d (.slice L P.length H) E D C N I w4 Q.o e8 k x (f.N k) g9 h7 V.o.2.le b8 h5 (by rw [a4];exact y.o.len k) f2);have i9:=Aa a0;have i7:=Aa a8;have i2:=Aa b8;have k7:¬N.own d (b.om 2):=fun q=>(p.o.ow _ q).elim e0.o.2 fun q=>by omega
       clear e7 e8 g8 d2 h7 g9 h4 f2 a4 h5 a0 a8 b8 f3;go_wp2_with fail;refine d3.o.mono ?_;rintro e w5 ⟨rfl,o5,v5,s5,u5,i5,q5⟩;have d0:=i9.o.O s5.on k7 b2.o;have i8:=Aa d0.1;have k5:w5.rangeLeft (b.om 2) F<wr.rangeLeft (b.om 2) F:=by rw [d0.2];exact k4
       have j0:dN (Dp P d (.slice L P.length H) E D C (b.tk U.heap.size) o5 v5 M w5):=⟨s5.r,fun j hj=>(s5.ow j hj).elim (p.o.ow j) fun q=>.inr (by have:=p.o.on.size;omega),s5.rl.trans p.o.rl,(p.o.on.thn i7.o fun j hj q=>by omega).thn s5.on fun j hj q=>(p.o.ow j q).elim id fun q=>by omega⟩;have i0:dN (f.took.up v5∧Bs P (fun a t=>(b1 a∧a≠k)∧f.N a t) v5):=by
        refine ⟨V.o.1.tr u5,Bs.passed (c:=k) (m:=f.N k) (v:=I) ((i5 _ V.o.2).kept fun a t q=>?_) u5 i2.o q5.1 q5.2⟩;by_cases e:a=k
        ·subst e;exact .inr ⟨rfl,q.2⟩
        ·exact .inl ⟨⟨q.1,e⟩,q.2⟩
       have i3:dN (¬o5.own d F):=fun q=>(s5.ow _ q).elim b2.o fun q=>by omega
       clear s5 u5 i5 q5 d0 d3;go_wp2_with fail;go_roundw
       case rel=>exact ⟨_,_,_,i8,j0,i0,i3⟩
       case measure=>exact k5
      ·intro hd;have g3:Bs P (fun _ _=>False) I:=V.o.2.kept fun a t q=>hd a q.1
       have a4:N.rl=b.rl:=congrArg Prod.fst p.o.rl;obtain ⟨mm,a2⟩:∃mm,I.left 16400 mm:=⟨_,rfl⟩;have f4:mm<nn:=Sv.left_lt (B:=16400) (v:=f) (u:=I) (x:=f.took) ⟨rfl,fun _ _ q=>q⟩ V.o.1 HV.o (fun c t q=>y.o.ok.np c t q) HL.o a2;have e5:Fm P d (.slice L P.length H) E D C o N I w wr:=G.o.more p.o.r (fun j hj=>(p.o.ow j hj).elim (fun q=>(e1.o j q).imp id fun q=>by omega) fun q=>.inr (by omega)) (((i6.o.mono fun j _ q=>by rw [q];exact .inl rfl).thn p.o.on fun j hj q=>(e1.o j q).elim id fun q=>by omega));have d6:dN (J mm wr):=by rw [HJ.o];exact ⟨N,I,e5,y.o.later V.o.1 g3 a4,a2⟩
       have i1:dN (mf (fun n=>J n wr)<mf (fun n=>J n U)):=by have:=(d8.o (fun n=>J n wr) mm d6.o).2;rw [←i4.o];exact Nat.lt_of_le_of_lt this f4
       clear g3 a4 a2 f4 e5;go_wp2_with fail;go_roundw
       case rel=>exact ⟨mm,d6.o⟩
       case measure=>rw [j4.o];exact i1.o
section
variable {α : Type} {R : Value → Option (DataW Unit × List MemPlace)} {mk : α → Value} {d : α → DataW Unit} {ok : α → Prop} {b : Nat} {g : Nat → Option α} {w f : World}
theorem Bv.block(h:Bv R d b g w)(e:f.heap[b]? =w.heap[b]?):Bv R d b g f:=by obtain ⟨D,⟨c,a,j,r⟩,i⟩:=h;exact ⟨D,⟨c,a,by rw [e];exact j,r⟩,i⟩
theorem Bv.entry{t e:TypeId}(h:Bv R d b g w)(E:Pg R mk d ok)(y:Tryz.prog.underlying t=some (.map 3 e)){z:Value}(I:∀u:World,(zeroValue e).run Tryz.prog u=.ok z u){k:Nat}(C:k<20000)(K:g k=none):
 ∃(m:Array MapEntry) (i:Nat),w.heap[b]? =some (.map m i)∧
  (∀W:World,W.heap[b]? =some (.map m i)→(Instr.mapEntry t (.map (some b)) (.int .i64 k)).run Tryz.prog W=.ok (.tuple #[z,goInt i]) (ChangeMaps.setBlock W b (.map (m.push ⟨.int .i64 k,z,i⟩) (i+1))))∧
  (∀(W:World) (o:Value),W.heap[b]? =some (.map (m.push ⟨.int .i64 k,z,i⟩) (i+1))→(Instr.entryStore t (.map (some b)) (goInt i) o).run Tryz.prog W=.ok () (ChangeMaps.setBlock W b (.map (m.push ⟨.int .i64 k,o,i⟩) (i+1))))∧
  ∀(a:α),ok a→∀W:World,W.heap[b]? =some (.map (m.push ⟨.int .i64 k,mk a,i⟩) (i+1))→Bv R d b (fun x=>if x=k then some a else g x) W:=by
 have M:=(h.look E y (I w) C true).1 K;have O:=fun (a:α) (r:ok a)=>h.put E y C r
 obtain ⟨D,⟨m,i,s,F,X,rfl⟩,A⟩:=h;have v:=Ro C;obtain ⟨S,T,_⟩:=F.stamped;have H:∀W:World,(Instr.findKey 3 (.int .i64 k) m.toList).run Tryz.prog W=.ok none W:=fun W=>by
  rcases Cp.find W v m.toList F.keys with ⟨p,_⟩ | ⟨j,G,p,B,A⟩
  ·exact p
  ·exfalso;rcases Cp.find w v m.toList F.keys with ⟨_,q⟩ | ⟨Y,U,Q,Z,q3⟩
   ·exact q G (List.mem_of_getElem? B) A
   ·simp [Instr.lookup,run_underlying y,MapKept.run_getObj_map s,Cp.check w _ v,Q,Result.andThen] at M
 refine ⟨m,i,s,fun W n=>?_,fun W o n=>?_,fun a r W n=>?_⟩
 ·simp [Instr.mapEntry,run_underlying y,MapKept.run_getObj_map n,Cp.check W false v,H W,I,MapKept.run_setObj_map _ n,Result.andThen,ChangeMaps.setBlock]
 ·have L:(m.push ⟨.int .i64 k,z,i⟩).findIdx? (fun e=>((e.born:Nat):Int)==((i:Nat):Int))=some m.size:=by rw [WideElems.findIdx_arr];exact WideElems.findIdx_born (l:=(m.push ⟨.int .i64 k,z,i⟩).toList) (j:=m.size) (e0:=⟨.int .i64 k,z,i⟩) (by simp only [Array.toList_push,List.map_append,List.map_cons,List.map_nil];refine List.nodup_append.2 ⟨T,by simp,fun a r c J V=>?_⟩;simp only [List.mem_singleton] at J;obtain ⟨x,P,rfl⟩:=List.mem_map.1 r;have:=S x P;omega) (by simp)
  have N:(m.push ⟨.int .i64 k,z,i⟩).modify m.size (fun e=>{e with val:=o})=m.push ⟨.int .i64 k,o,i⟩:=by apply Array.ext';rw [Array.toList_modify,Array.toList_push,Array.toList_push,←Array.length_toList,WideElems.modify_last]
  simp [Instr.entryStore,MapKept.run_getObj_map n,asInt,asIntOf,goInt,L,N,MapKept.run_setObj_map _ n,Result.andThen,ChangeMaps.setBlock]
 ·obtain ⟨f,p,B,_⟩:=O a r;have A:(Instr.mapUpdate t (.map (some b)) (.int .i64 k) (mk a)).run Tryz.prog w=.ok () (ChangeMaps.setBlock w b (.map (m.push ⟨.int .i64 k,mk a,i⟩) (i+1))):=by simp [Instr.mapUpdate,run_underlying y,MapKept.run_getObj_map s,Cp.check w false v,H w,MapKept.run_setObj_map _ s,Result.andThen,ChangeMaps.setBlock]
  rw [A] at p;cases p;refine B.block ?_;rw [n];exact (ChangeMaps.heap_setBlock_same s _).symm
end
structure Dl(g:Nat)(p:Value)(s u n:Nat)(o:So)(l m:Nat→Nat→Prop)(w:World):Prop where
 s9:Ak g (Gf o p s u n) 144 w
 mp:∀t,t≤4→Bv Hb Ha (o.om t) (o.bk t) w
 st:∀t i k,o.bk t i=some k→A9 k (fun x=>t=4∧m i x) w
 dj:∀t i t' i' k,o.bk t i=some k→o.bk t' i'=some k→t=t'∧i=i'
 oj:∀t t',t≤5→t'≤5→o.om t=o.om t'→t=t'
 ne:∀t i k t',o.bk t i=some k→t'≤5→k≠o.om t'
 t4:∀t i k,o.bk t i=some k→t≤4
 d:∀t i,(∃k,o.bk t i=some k)↔l t i
 fm:Bv TB TA (o.om 5) o.fw w
 f0:∀c,o.fw c=none
 r0:∀c,o.rl c=[]
section
variable {P : List PFn} {g : Nat} {p : Value} {s u n : Nat} {o z : So} {l Dm' m B : Nat → Nat → Prop} {w w' : World}
theorem Dl.kind(h:Dl g p s u n o l m w){k}(a:o.own g k):(∃e c,w.heap[k]? =some (.map e c))∨∃d,w.heap[k]? =some (.cells d 144 (0,0)):=by
 rcases a with rfl | ⟨t,j,rfl⟩ | ⟨t,i,a⟩ | ⟨c,t,b,rfl⟩
 ·exact .inr ⟨_,h.s9⟩
 ·by_cases f:t=5
  ·subst f;exact .inl h.fm.isMap
  ·exact .inl (h.mp t (by omega)).isMap
 ·exact .inl (h.st t i k a).isMap
 ·rw [h.f0] at b;cases b
theorem Dl.ownLt(h:Dl g p s u n o l m w){k}(a:o.own g k):k<w.heap.size:=by rcases h.kind a with ⟨_,_,e⟩ | ⟨_,e⟩<;>exact lt_of_block e
theorem Dl.O{X:Nat→Prop}(h:Dl g p s u n o l m w)(a:Ab X w w')(b:∀k,X k→¬o.own g k):Dl g p s u n o l m w':=
 {h with
  s9:=h.s9.O a (fun q=>b _ q (.inl rfl))
  mp:=fun t d=>(h.mp t d).O a (fun q=>b _ q (.inr (.inl ⟨t,by omega,rfl⟩)))
  st:=fun t i k c=>(h.st t i k c).O a (fun q=>b _ q (.inr (.inr (.inl ⟨t,i,c⟩))))
  fm:=h.fm.O a (fun q=>b _ q (.inr (.inl ⟨5,by omega,rfl⟩)))}
def So.gr(o:So)(a:Nat→Nat→Option Nat):So:={o with bk:=fun t i=>match a t i with | some f=>some f | none=>o.bk t i}
theorem So.gr_bk{o:So}{a:Nat→Nat→Option Nat}{t i k}(h:(o.gr a).bk t i=some k):a t i=some k∨(a t i=none∧o.bk t i=some k):=by
 unfold So.gr at h;dsimp only at h;split at h
 ·next f e=>cases h;exact .inl e
 ·next e=>exact .inr ⟨e,h⟩
theorem Dl.grow(h:Dl g p s u n o l m w){nb:Nat→Nat→Option Nat}(v:∀t i f,nb t i=some f→t≤4∧w.heap.size≤f∧A9 f (fun _=>False) w'∧(t=4→∀x,¬m i x))(G:∀t i b y f,nb t i=some f→nb b y=some f→t=b∧i=y)
 (H:∀t,t≤4→Bv Hb Ha (o.om t) ((o.gr nb).bk t) w')(A:Ab (fun k=>∃t,t≤4∧k=o.om t) w w')(I:∀t i,Dm' t i↔l t i∨∃f,nb t i=some f):
 Dl g p s u n (o.gr nb) Dm' m w'∧(∀k,(o.gr nb).own g k→o.own g k∨w.heap.size≤k)∧Ab (o.own g) w w':=by
 have M:∀t,t≤5→o.om t<w.heap.size:=fun t c=>h.ownLt (.inr (.inl ⟨t,c,rfl⟩))
 have L:∀t,t≤4→g≠o.om t:=fun t c q=>by obtain ⟨_,_,e⟩:=(h.mp t c).isMap;have C:=h.s9;unfold Ak at C;rw [q,e] at C;cases C
 have E:∀t i k,o.bk t i=some k→k<w.heap.size:=fun t i k a=>h.ownLt (.inr (.inr (.inl ⟨t,i,a⟩)))
 refine ⟨{h with s9:=h.s9.O A (fun ⟨t,c,q⟩=>L t c q),mp:=H,st:=fun t i k a=>?_,dj:=fun t i b y k a F=>?_,ne:=fun t i k b a D=>?_,t4:=fun t i k a=>?_,d:=fun t i=>?_,fm:=h.fm.O A (fun ⟨t,c,q⟩=>absurd (h.oj 5 t (by omega) (by omega) q) (by omega))},fun k a=>?_,A.mono fun k _ ⟨t,c,q⟩=>.inr (.inl ⟨t,by omega,q⟩)⟩
 ·rcases So.gr_bk a with q | ⟨_,q⟩
  ·obtain ⟨_,_,K,J⟩:=v t i k q;exact K.iff fun x=>⟨False.elim,fun ⟨e,r⟩=>J e x r⟩
  ·exact (h.st t i k q).O A fun ⟨b,D,e⟩=>h.ne t i k b q (by omega) e
 ·rcases So.gr_bk a with q | ⟨_,q⟩
  ·rcases So.gr_bk F with j | ⟨_,j⟩
   ·exact G t i b y k q j
   ·have:=(v t i k q).2.1;have:=E _ _ _ j;omega
  ·rcases So.gr_bk F with j | ⟨_,j⟩
   ·have:=(v _ _ k j).2.1;have:=E _ _ _ q;omega
   ·exact h.dj t i b y k q j
 ·rcases So.gr_bk a with q | ⟨_,q⟩
  ·have:=(v t i k q).2.1;have:=M b D;intro e;have e:k=o.om b:=e;omega
  ·exact h.ne t i k b q D
 ·rcases So.gr_bk a with q | ⟨_,q⟩
  ·exact (v t i k q).1
  ·exact h.t4 t i k q
 ·rw [I,←h.d t i];constructor
  ·rintro ⟨k,a⟩;rcases So.gr_bk a with q | ⟨_,q⟩
   ·exact .inr ⟨k,q⟩
   ·exact .inl ⟨k,q⟩
  ·rintro (⟨k,a⟩ | ⟨k,a⟩)
   ·unfold So.gr;dsimp only;cases nb t i with
    | some f=>exact ⟨f,rfl⟩
    | none=>exact ⟨k,a⟩
   ·exact ⟨k,by unfold So.gr;dsimp only;rw [a]⟩
 ·rcases a with q | q | ⟨t,i,q⟩ | q
  ·exact .inl (.inl q)
  ·exact .inl (.inr (.inl q))
  ·rcases So.gr_bk q with q | ⟨_,q⟩
   ·exact .inr (v t i k q).2.1
   ·exact .inl (.inr (.inr (.inl ⟨t,i,q⟩)))
  ·exact .inl (.inr (.inr (.inr q)))
end
def Zb(g:Nat)(p:Value)(s u n:Nat)(o:So)(l m:Nat→Nat→Prop)(w w':World):Prop:=∃z,Dl g p s u n z l m w'∧(∀k,z.own g k→o.own g k∨w.heap.size≤k)∧Ab (o.own g) w w'
theorem Bv.new{d:Type}{R:Value→Option (DataW Unit×List MemPlace)}{a:d→DataW Unit}{w:World}{f:Nat}(h:w.heap[f]? =some (.map #[] 0)):Bv R a f (fun _=>none) w:=by obtain ⟨D,⟨i,e,b,r⟩,c⟩:=Bv.made (R:=R) (dc:=a) w;rw [heap_alloc_new] at b;cases b;exact ⟨D,⟨#[],0,h,r⟩,c⟩
theorem MT{w:World}{f:Nat}(h:w.heap[f]? =some (.map #[] 0)):A9 f (fun _=>False) w:=⟨_,Bv.new h,Wd.nil⟩
section
theorem IA(W:World)(b:Nat)(x:Obj):(setBlock W b x).heap.size=W.heap.size:=by simp [setBlock]
theorem DE(W:World)(b k:Nat)(x:Obj)(h:k≠b):(setBlock W b x).heap[k]? =W.heap[k]? :=by unfold setBlock;dsimp only;rw [Array.getElem?_setIfInBounds_ne (Ne.symm h)]
theorem RG(W:World)(b:Nat)(x:Obj)(h:b<W.heap.size):(setBlock W b x).heap[b]? =some x:=by unfold setBlock;dsimp only;rw [Array.getElem?_setIfInBounds_self_of_lt h]
theorem Ab.setB{X:Nat→Prop}{a W:World}{b:Nat}{x:Obj}(h:Ab X a W)(c:X b):Ab X a (setBlock W b x):=by
 refine h.thn (Y:=fun k=>k=b) ⟨rfl,rfl,rfl,?_,fun k d q=>?_⟩ (fun j _ q=>q▸c)
 ·rw [IA];exact rN _
 ·exact DE _ _ _ _ q
end
theorem Jp(g p s u n o l m w)(c:Nat)(h:Dl g p s u n o l m w)(hc:c<20000)(h0:¬l 0 c)(h3:¬l 3 c):
 Calls Tryz.prog 95 #[.pointer (some ⟨g,0,none⟩),.int .i64 c] w fun e w'=>e=.returned (.tuple #[])∧Zb g p s u n o (fun t i=>l t i∨((t=0∨t=3)∧i=c)) m w w':=by
 have n0:o.bk 0 c=none:=by
  cases E:o.bk 0 c with
  | none=>rfl
  | some k=>exact absurd ((h.d 0 c).1 ⟨k,E⟩) h0
 have n3:o.bk 3 c=none:=by
  cases E:o.bk 3 c with
  | none=>rfl
  | some k=>exact absurd ((h.d 3 c).1 ⟨k,E⟩) h3
 obtain ⟨a2,J,d0,b2,b6,b4⟩:=(h.mp 0 (by omega)).entry Dw Tryz.underlying91 Ca hc n0;obtain ⟨a3,K,d1,b3,b7,b5⟩:=(h.mp 3 (by omega)).entry Dw Tryz.underlying91 Ca hc n3;have b8:o.om 0≠o.om 3:=fun q=>absurd (h.oj 0 3 (by omega) (by omega) q) (by omega)
 have c5:=Ne.symm b8;have l0:=(h.mp 0 (by omega)).lt;have l3:=(h.mp 3 (by omega)).lt;have s0:g≠o.om 0:=fun q=>(h.mp 0 (by omega)).ne h.s9 q.symm
 have s3:g≠o.om 3:=fun q=>(h.mp 3 (by omega)).ne h.s9 q.symm
 have p4:=h.s9.cell 4;have p7:=h.s9.cell 7;have d4:=Ae h.s9;simp only [Gf,dM,dJ,dK] at p4 p7;unfold goInt at b2 b6 b3 b7;obtain ⟨F1,T⟩:∃F:World→World,F=fun W=>ChangeMaps.setBlock W (o.om 0) (.map (a2.push ⟨.int .i64 c,.map none,J⟩) (J+1)):=⟨_,rfl⟩
 obtain ⟨F2,U⟩:∃F:Nat→World→World,F=fun x W=>ChangeMaps.setBlock W (o.om 0) (.map (a2.push ⟨.int .i64 c,.map (some x),J⟩) (J+1)):=⟨_,rfl⟩
 obtain ⟨F3,V⟩:∃F:World→World,F=fun W=>ChangeMaps.setBlock W (o.om 3) (.map (a3.push ⟨.int .i64 c,.map none,K⟩) (K+1)):=⟨_,rfl⟩
 obtain ⟨F4,X⟩:∃F:Nat→World→World,F=fun x W=>ChangeMaps.setBlock W (o.om 3) (.map (a3.push ⟨.int .i64 c,.map (some x),K⟩) (K+1)):=⟨_,rfl⟩
 obtain ⟨A0,a4⟩:∃A:World→Prop,A=fun W=>W.heap[o.om 0]? =some (.map a2 J)∧w.heap.size≤W.heap.size:=⟨_,rfl⟩
 obtain ⟨M,a0⟩:∃A:World→Prop,A=fun W=>W.heap[o.om 3]? =some (.map a3 K)∧w.heap.size≤W.heap.size:=⟨_,rfl⟩
 obtain ⟨B0,a6⟩:∃A:World→Prop,A=fun W=>W.heap[o.om 0]? =some (.map (a2.push ⟨.int .i64 c,.map none,J⟩) (J+1))∧w.heap.size≤W.heap.size:=⟨_,rfl⟩
 obtain ⟨B3,a7⟩:∃A:World→Prop,A=fun W=>W.heap[o.om 3]? =some (.map (a3.push ⟨.int .i64 c,.map none,K⟩) (K+1))∧w.heap.size≤W.heap.size:=⟨_,rfl⟩
 have Z:∀W,A0 W→(Instr.mapEntry 91 (.map (some (o.om 0))) (.int .i64 c)).run Tryz.prog W=.ok (.tuple #[.map none,.int .i64 J]) (F1 W):=fun W a=>by rw [T];rw [a4] at a;exact b2 W a.1
 have L:∀W x,B0 W→(Instr.entryStore 91 (.map (some (o.om 0))) (.int .i64 J) (.map (some x))).run Tryz.prog W=.ok () (F2 x W):=fun W x a=>by rw [U];rw [a6] at a;exact b6 W _ a.1
 have H:∀W,M W→(Instr.mapEntry 91 (.map (some (o.om 3))) (.int .i64 c)).run Tryz.prog W=.ok (.tuple #[.map none,.int .i64 K]) (F3 W):=fun W a=>by rw [V];rw [a0] at a;exact b3 W a.1
 have O:∀W x,B3 W→(Instr.entryStore 91 (.map (some (o.om 3))) (.int .i64 K) (.map (some x))).run Tryz.prog W=.ok () (F4 x W):=fun W x a=>by rw [X];rw [a7] at a;exact b7 W _ a.1
 have al:∀(W:World) (x:Obj) (k:Nat),k<w.heap.size→w.heap.size≤W.heap.size→(W.alloc x).heap[k]? =W.heap[k]? :=fun W x k G I=>Below.heap_alloc _ _ _ (by omega)
 have z1:∀W,(F1 W).heap.size=W.heap.size:=fun W=>by rw [T];exact IA _ _ _
 have z2:∀x W,(F2 x W).heap.size=W.heap.size:=fun x W=>by rw [U];exact IA _ _ _
 have z3:∀W,(F3 W).heap.size=W.heap.size:=fun W=>by rw [V];exact IA _ _ _
 have z4:∀x W,(F4 x W).heap.size=W.heap.size:=fun x W=>by rw [X];exact IA _ _ _
 have P:A0 w:=by rw [a4];exact ⟨d0,rN _⟩
 have Q:∀W,A0 W→A0 W.drew:=fun W a=>by rw [a4] at a⊢;exact a
 have Y:∀W x,A0 W→A0 (W.alloc x):=fun W x a=>by rw [a4] at a⊢;exact ⟨(al W x _ l0 a.2).trans a.1,by simp;omega⟩
 have a1:∀W,A0 W→B0 (F1 W):=fun W a=>by rw [a4] at a;rw [a6];refine ⟨?_,by rw [z1];exact a.2⟩;rw [T];exact RG _ _ _ (by omega)
 have a5:∀W x,B0 W→B0 (W.alloc x):=fun W x a=>by rw [a6] at a⊢;exact ⟨(al W x _ l0 a.2).trans a.1,by simp;omega⟩
 have r:M w:=by rw [a0];exact ⟨d1,rN _⟩
 have d:∀W,M W→M W.drew:=fun W a=>by rw [a0] at a⊢;exact a
 have c6:∀W,B0 W→B0 W.drew:=fun W a=>by rw [a6] at a⊢;exact a
 have c7:∀W,B3 W→B3 W.drew:=fun W a=>by rw [a7] at a⊢;exact a
 have b:∀W x,M W→M (W.alloc x):=fun W x a=>by rw [a0] at a⊢;exact ⟨(al W x _ l3 a.2).trans a.1,by simp;omega⟩
 have C:∀W,M W→M (F1 W):=fun W a=>by rw [a0] at a⊢;refine ⟨?_,by rw [z1];exact a.2⟩;rw [T];exact (DE _ _ _ _ c5).trans a.1
 have D:∀x W,M W→M (F2 x W):=fun x W a=>by rw [a0] at a⊢;refine ⟨?_,by rw [z2];exact a.2⟩;rw [U];exact (DE _ _ _ _ c5).trans a.1
 have N:∀W,M W→B3 (F3 W):=fun W a=>by rw [a0] at a;rw [a7];refine ⟨?_,by rw [z3];exact a.2⟩;rw [V];exact RG _ _ _ (by omega)
 have b1:∀W x,B3 W→B3 (W.alloc x):=fun W x a=>by rw [a7] at a⊢;exact ⟨(al W x _ l3 a.2).trans a.1,by simp;omega⟩
 have c1:∀W j,(F1 W).cell? ⟨g,j,none⟩=W.cell? ⟨g,j,none⟩:=fun W j=>by rw [T];exact rM (DE _ _ _ _ s0)
 have c2:∀x W j,(F2 x W).cell? ⟨g,j,none⟩=W.cell? ⟨g,j,none⟩:=fun x W j=>by rw [U];exact rM (DE _ _ _ _ s0)
 have c3:∀W j,(F3 W).cell? ⟨g,j,none⟩=W.cell? ⟨g,j,none⟩:=fun W j=>by rw [V];exact rM (DE _ _ _ _ s3)
 have c4:∀x W j,(F4 x W).cell? ⟨g,j,none⟩=W.cell? ⟨g,j,none⟩:=fun x W j=>by rw [X];exact rM (DE _ _ _ _ s3)
 have y1:=Z _ (Q _ P);have y2:=Z _ (Q _ (Y _ (.map #[] 0) P));have y3:=Z _ (Q _ (Y _ (.map #[] 0) (Y _ (.map #[] 0) P)));have y4:=fun x=>L _ x (a5 _ (.map #[] 0) (a1 _ (Q _ P)))
 have y5:=fun x=>H _ (D x _ (b _ (.map #[] 0) (C _ (d _ r))))
 have y6:=fun x y=>O _ y (N _ (D x _ (b _ (.map #[] 0) (C _ (d _ r)))))
 have y7:=fun x=>H _ (b _ (.map #[] 0) (D x _ (b _ (.map #[] 0) (C _ (d _ r)))))
 have y8:=fun x y=>O _ y (N _ (b _ (.map #[] 0) (D x _ (b _ (.map #[] 0) (C _ (d _ r))))))
 have y9:=fun x y=>O _ y (b1 _ (.map #[] 0) (N _ (D x _ (b _ (.map #[] 0) (C _ (d _ r))))))
 have d5:=fun x=>L _ x (a5 _ (.map #[] 0) (a5 _ (.map #[] 0) (a1 _ (Q _ P))))
 have d6:=fun x=>H _ (D x _ (b _ (.map #[] 0) (b _ (.map #[] 0) (C _ (d _ r)))))
 have d7:=fun x y=>O _ y (N _ (D x _ (b _ (.map #[] 0) (b _ (.map #[] 0) (C _ (d _ r))))))
 have d8:=fun x=>L _ x (a1 _ (Q _ (Y _ (.map #[] 0) P)))
 have d9:=fun x=>H _ (D x _ (C _ (d _ (b _ (.map #[] 0) r))))
 have e5:=fun x y=>O _ y (N _ (D x _ (C _ (d _ (b _ (.map #[] 0) r)))))
 have e6:=fun x=>H _ (b _ (.map #[] 0) (D x _ (C _ (d _ (b _ (.map #[] 0) r)))))
 have e7:=fun x y=>O _ y (N _ (b _ (.map #[] 0) (D x _ (C _ (d _ (b _ (.map #[] 0) r))))))
 have e8:=fun x y=>O _ y (b1 _ (.map #[] 0) (N _ (D x _ (C _ (d _ (b _ (.map #[] 0) r))))))
 have e9:=fun x=>L _ x (a5 _ (.map #[] 0) (a1 _ (Q _ (Y _ (.map #[] 0) P))))
 have f0:=fun x=>H _ (D x _ (b _ (.map #[] 0) (C _ (d _ (b _ (.map #[] 0) r)))))
 have f3:=fun x y=>O _ y (N _ (D x _ (b _ (.map #[] 0) (C _ (d _ (b _ (.map #[] 0) r))))))
 have f4:=fun x=>L _ x (a1 _ (Q _ (Y _ (.map #[] 0) (Y _ (.map #[] 0) P))))
 have f5:=fun x=>H _ (D x _ (C _ (d _ (b _ (.map #[] 0) (b _ (.map #[] 0) r)))))
 have f6:=fun x y=>O _ y (N _ (D x _ (C _ (d _ (b _ (.map #[] 0) (b _ (.map #[] 0) r))))))
 have o1:∀(W:World),Ab (fun k=>k=o.om 0∨k=o.om 3) w W→Ab (fun k=>k=o.om 0∨k=o.om 3) w (F1 W):=fun W a=>by rw [T];exact a.setB (.inl rfl)
 have m1:∀(W:World) (f:Nat),w.heap.size≤f→W.heap[f]? =some (.map #[] 0)→(F1 W).heap[f]? =some (.map #[] 0):=fun W f G I=>by rw [T];exact (DE _ _ _ _ (by omega)).trans I
 have o2:∀(x:Nat) (W:World),Ab (fun k=>k=o.om 0∨k=o.om 3) w W→Ab (fun k=>k=o.om 0∨k=o.om 3) w (F2 x W):=fun x W a=>by rw [U];exact a.setB (.inl rfl)
 have m2:∀(x:Nat) (W:World) (f:Nat),w.heap.size≤f→W.heap[f]? =some (.map #[] 0)→(F2 x W).heap[f]? =some (.map #[] 0):=fun x W f G I=>by rw [U];exact (DE _ _ _ _ (by omega)).trans I
 have o3:∀(W:World),Ab (fun k=>k=o.om 0∨k=o.om 3) w W→Ab (fun k=>k=o.om 0∨k=o.om 3) w (F3 W):=fun W a=>by rw [V];exact a.setB (.inr rfl)
 have m3:∀(W:World) (f:Nat),w.heap.size≤f→W.heap[f]? =some (.map #[] 0)→(F3 W).heap[f]? =some (.map #[] 0):=fun W f G I=>by rw [V];exact (DE _ _ _ _ (by omega)).trans I
 have q3:∀(W:World) v,W.heap[o.om 0]? =v→(F3 W).heap[o.om 0]? =v:=fun W v I=>by rw [V];exact (DE _ _ _ _ b8).trans I
 have o4:∀(x:Nat) (W:World),Ab (fun k=>k=o.om 0∨k=o.om 3) w W→Ab (fun k=>k=o.om 0∨k=o.om 3) w (F4 x W):=fun x W a=>by rw [X];exact a.setB (.inr rfl)
 have m4:∀(x:Nat) (W:World) (f:Nat),w.heap.size≤f→W.heap[f]? =some (.map #[] 0)→(F4 x W).heap[f]? =some (.map #[] 0):=fun x W f G I=>by rw [X];exact (DE _ _ _ _ (by omega)).trans I
 have q4:∀(x:Nat) (W:World) v,W.heap[o.om 0]? =v→(F4 x W).heap[o.om 0]? =v:=fun x W v I=>by rw [X];exact (DE _ _ _ _ b8).trans I
 have q2:∀f W,w.heap.size≤W.heap.size→(F2 f W).heap[o.om 0]? =some (.map (a2.push ⟨.int .i64 c,.map (some f),J⟩) (J+1)):=fun f W G=>by rw [U];exact RG _ _ _ (by omega)
 have r4:∀f W,w.heap.size≤W.heap.size→(F4 f W).heap[o.om 3]? =some (.map (a3.push ⟨.int .i64 c,.map (some f),K⟩) (K+1)):=fun f W G=>by rw [X];exact RG _ _ _ (by omega)
 have qa:∀(W:World) v,w.heap.size≤W.heap.size→W.heap[o.om 0]? =v→(W.alloc (.map #[] 0)).heap[o.om 0]? =v:=fun W v G I=>(al W _ _ l0 G).trans I
 have a9:∀(W:World) (f:Nat),f=W.heap.size→(W.alloc (.map #[] 0)).heap[f]? =some (.map #[] 0):=fun W f G=>by rw [G];exact heap_alloc_new W _
 have ma:∀(W:World) (f:Nat),W.heap[f]? =some (.map #[] 0)→(W.alloc (.map #[] 0)).heap[f]? =some (.map #[] 0):=fun W f G=>(Below.heap_alloc _ _ _ (lt_of_block G)).trans G
 have md:∀(W:World) (f:Nat),W.heap[f]? =some (.map #[] 0)→W.drew.heap[f]? =some (.map #[] 0):=fun W f G=>G
 have c0:∀(W:World) (R S:Nat),Ab (fun k=>k=o.om 0∨k=o.om 3) w W→W.heap[R]? =some (.map #[] 0)→W.heap[S]? =some (.map #[] 0)→R≠S→w.heap.size≤R→w.heap.size≤S→W.heap[o.om 0]? =some (.map (a2.push ⟨.int .i64 c,.map (some R),J⟩) (J+1))→W.heap[o.om 3]? =some (.map (a3.push ⟨.int .i64 c,.map (some S),K⟩) (K+1))→Zb g p s u n o (fun t i=>l t i∨((t=0∨t=3)∧i=c)) m w W:=fun W R S g1 g2 g3 g4 g5 g6 g7 g8=>by
  obtain ⟨nb,a8⟩:∃nb:Nat→Nat→Option Nat,nb=fun t i=>if i=c then (if t=0 then some R else if t=3 then some S else none) else none:=⟨_,rfl⟩
  have b0:∀t i f,nb t i=some f→(t=0∧i=c∧f=R)∨(t=3∧i=c∧f=S):=fun t i f E=>by
   rw [a8] at E;dsimp only at E;split at E
   ·next e=>
    split at E
    ·next L=>cases E;exact .inl ⟨L,e,rfl⟩
    ·split at E
     ·next H=>cases E;exact .inr ⟨H,e,rfl⟩
     ·cases E
   ·cases E
  have c8:=b4 R trivial W g7;have c9:=b5 S trivial W g8;refine ⟨o.gr nb,h.grow (fun t i f E=>?_) (fun t i t' i' f E d2=>?_) (fun t ht=>?_) (g1.mono fun k _ q=>q.elim (fun q=>⟨0,by omega,q⟩) fun q=>⟨3,by omega,q⟩) (fun t i=>?_)⟩
  ·rcases b0 t i f E with ⟨rfl,rfl,rfl⟩ | ⟨rfl,rfl,rfl⟩
   ·exact ⟨by omega,g5,MT g2,fun q=>by omega⟩
   ·exact ⟨by omega,g6,MT g3,fun q=>by omega⟩
  ·rcases b0 t i f E with ⟨rfl,rfl,e⟩ | ⟨rfl,rfl,e⟩<;>rcases b0 t' i' f d2 with ⟨rfl,rfl,e'⟩ | ⟨rfl,rfl,e'⟩
   ·exact ⟨rfl,rfl⟩
   ·exact absurd (e.symm.trans e') g4
   ·exact absurd (e'.symm.trans e) g4
   ·exact ⟨rfl,rfl⟩
  ·by_cases e0:t=0
   ·subst e0;refine c8.ext fun x=>?_
    unfold So.gr;dsimp only;rw [a8];dsimp only;by_cases e:x=c
    ·rw [if_pos e,if_pos e,if_pos rfl]
    ·rw [if_neg e,if_neg e]
   ·by_cases H:t=3
    ·subst H;refine c9.ext fun x=>?_
     unfold So.gr;dsimp only;rw [a8];dsimp only;by_cases e:x=c
     ·rw [if_pos e,if_pos e,if_neg (by omega),if_pos rfl]
     ·rw [if_neg e,if_neg e]
    ·have:(o.gr nb).bk t=o.bk t:=funext fun x=>by
      unfold So.gr;dsimp only;rw [a8];dsimp only;by_cases e:x=c
      ·rw [if_pos e,if_neg e0,if_neg H]
      ·rw [if_neg e]
     rw [this]
     exact (h.mp t ht).O g1 fun q=>q.elim (fun q=>e0 (h.oj t 0 (by omega) (by omega) q)) fun q=>H (h.oj t 3 (by omega) (by omega) q)
  ·constructor
   ·rintro (q | ⟨q1,q2⟩)
    ·exact .inl q
    ·rw [a8];rcases q1 with rfl | rfl
     ·exact .inr ⟨R,by simp [q2]⟩
     ·exact .inr ⟨S,by simp [q2]⟩
   ·rintro (q | ⟨f,q⟩)
    ·exact .inl q
    ·rcases b0 t i f q with ⟨Z,L,_⟩ | ⟨Z,L,_⟩
     ·exact .inr ⟨.inl Z,L⟩
     ·exact .inr ⟨.inr Z,L⟩
 have b9:=Aa c0;have d3:=@run_makeMap Tryz.prog;have HH:=Aa h;have H1:=Aa T;have H2:=Aa U;have H3:=Aa V;have H4:=Aa X;have M0:=Aa b4;have M3:=Aa b5;clear Z L H O P Y Q d r b C D a1 a5 c6 N b1 c7;have OO:=Aa (And.intro o1 (And.intro o2 (And.intro o3 o4)));have MM:=Aa (And.intro m1 (And.intro m2 (And.intro m3 (And.intro m4 (And.intro a9 (And.intro ma md))))));have QQ:=Aa (And.intro q2 (And.intro q3 (And.intro q4 (And.intro qa r4))));clear c0 o1 o2 o3 o4 m1 m2 m3 m4 a9 ma md q2 q3 q4 qa r4 h T U V X a4 a0 a6 a7 b2 b3 b6 b7 b4 b5 al;go_enter Tryz.func95,Tryz.ntmps95;go_region_held3 (fun w'=>w'.cell? ⟨g,4,none⟩=some (.map (some (o.om 0)))∧w'.cell? ⟨g,7,none⟩=some (.map (some (o.om 3)))) (go_keep) (fail);all_goals
  go_wp2_with fail;go_end0;refine ⟨rfl,?_⟩;obtain ⟨o1,o2,o3,o4⟩:=OO.o;obtain ⟨m1,m2,m3,m4,a9,ma,md⟩:=MM.o;obtain ⟨q2,q3,q4,qa,r4⟩:=QQ.o;clear y1 y2 y3 y4;first
   | refine b9.o _ w.heap.size (w.heap.size+1) ?_ ?_ ?_ ?_ ?_ ?_ ?g7 (r4 (w.heap.size+1) _ (by simp [z1,z2,z3]<;>omega))
   | refine b9.o _ (w.heap.size+1) w.heap.size ?_ ?_ ?_ ?_ ?_ ?_ ?g7 (r4 w.heap.size _ (by simp [z1,z2,z3]<;>omega))
  case g7=>repeat (first | exact q2 _ _ (by simp [z1]<;>omega) | refine q3 _ _ ?_ | refine q4 _ _ _ ?_ | refine qa _ _ (by simp [z1,z2,z3]<;>omega) ?_)
  ·repeat (first | exact Ab.refl _ _ | refine o1 _ ?_ | refine o2 _ _ ?_ | refine o3 _ ?_ | refine o4 _ _ ?_ | refine Ab.alloc ?_ _ | refine Ab.drew ?_)
  ·repeat (first | refine m1 _ _ (by omega) ?_ | refine m2 _ _ _ (by omega) ?_ | refine m3 _ _ (by omega) ?_ | refine m4 _ _ _ (by omega) ?_ | refine md _ _ ?_ | (refine a9 _ _ ?_;(simp [z1,z2,z3];done)) | refine ma _ _ ?_)
  ·repeat (first | refine m1 _ _ (by omega) ?_ | refine m2 _ _ _ (by omega) ?_ | refine m3 _ _ (by omega) ?_ | refine m4 _ _ _ (by omega) ?_ | refine md _ _ ?_ | (refine a9 _ _ ?_;(simp [z1,z2,z3];done)) | refine ma _ _ ?_)
  ·omega
  ·omega
  ·omega
structure Cv(b:Nat)(v:Value)(u p m:Nat)(o z:So)(l d:Nat→Nat→Prop)(w B:World):Prop where
 c:Dl b v u p m z l d B
 ow:∀k,z.own b k→o.own b k∨w.heap.size≤k
 on:Ab (o.own b) w B
section
variable {P : List PFn} {b : Nat} {v : Value} {u p m : Nat} {o z E : So} {l D d F : Nat → Nat → Prop} {w B C : World}
theorem Cv.rf(h:Dl b v u p m o l d w):Cv b v u p m o o l d w w:=⟨h,fun _ q=>.inl q,Ab.refl _ _⟩
theorem Cv.trans(h:Cv b v u p m o z l d w B)(k:Cv b v u p m z E D F B C):Cv b v u p m o E D F w C:=
 ⟨k.c,fun j a=>(k.ow j a).elim (h.ow j) fun q=>.inr (rO h.on.size q),h.on.thn k.on fun j a q=>(h.ow j q).elim id fun r=>absurd r (by omega)⟩
theorem Cv.i9(h:Cv b v u p m o z l d w B)(k:Ab (fun _=>False) B C):Cv b v u p m o z l d w C:=⟨h.c.O k (fun _ q=>q.elim),h.ow,h.on.bI k⟩
theorem Dl.iff(h:Dl b v u p m o l d w)(a:∀t i,l t i↔D t i)(c:∀i x,d i x↔F i x):Dl b v u p m o D F w:=by rw [←show l=D from funext fun t=>funext fun i=>propext (a t i),←show d=F from funext fun t=>funext fun i=>propext (c t i)];exact h
theorem Cv.iff(h:Cv b v u p m o z l d w B)(a:∀t i,l t i↔D t i)(c:∀i x,d i x↔F i x):Cv b v u p m o z D F w B:=⟨h.c.iff a c,h.ow,h.on⟩
theorem Dl.noPlan(h:Dl b v u p m o l d w):Mq (o.own b) w:=fun k c t f a q=>by
 rcases h.kind a with ⟨_,_,e⟩ | ⟨_,e⟩
 ·rw [e] at q;cases q
 ·rw [e] at q;cases q;decide
theorem Dl.ret(h:Dl b v u p m o l d w){f k y}(a:o.bk 4 f=some k)(I:A9 k (fun x=>d f x∨x=y) B)(s:Ab (fun j=>j=k) w B):Cv b v u p m o o l (fun i x=>d i x∨(i=f∧x=y)) w B:=by
 obtain ⟨M,c,J⟩:=(h.st 4 f k a).isMap;have L:b≠k:=fun q=>by have A:=h.s9;unfold Ak at A;rw [q,J] at A;cases A
 refine ⟨{h with s9:=h.s9.O s L,mp:=fun g K=>(h.mp g K).O s (fun q=>h.ne 4 f k g a (by omega) q.symm),st:=fun g G H t=>?_,fm:=h.fm.O s (fun q=>h.ne 4 f k 5 a (by omega) q.symm)},fun _ q=>.inl q,s.mono fun j _ q=>by rw [q];exact .inr (.inr (.inl ⟨4,f,a⟩))⟩;by_cases e:g=4∧G=f
 ·obtain ⟨rfl,rfl⟩:=e;rw [a] at t;cases t;exact I.iff fun n=>by simp
 ·have:H≠k:=fun q=>e (h.dj g G 4 f k (q▸t) a)
  refine ((h.st g G H t).O s this).iff fun n=>⟨fun q=>⟨q.1,.inl q.2⟩,fun q=>⟨q.1,q.2.elim id fun r=>absurd ⟨q.1,r.1⟩ e⟩⟩
theorem Dl.one(h:Dl b v u p m o l d w){t i f}(G:t≤4)(N:w.heap.size≤f)(P:B.heap[f]? =some (.map #[] 0))(O:Bv Hb Ha (o.om t) (fun x=>if x=i then some f else o.bk t x) B)(A:Ab (fun k=>k=o.om t) w B)(Q:t=4→∀x,¬d i x):
 ∃z,Cv b v u p m o z (fun a j=>l a j∨(a=t∧j=i)) d w B:=by
 obtain ⟨r,s⟩:∃r:Nat→Nat→Option Nat,r=fun a j=>if a=t∧j=i then some f else none:=⟨_,rfl⟩
 have y:∀a j g,r a j=some g→a=t∧j=i∧g=f:=fun a j g n=>by
  rw [s] at n;dsimp only at n;split at n
  ·next e=>cases n;exact ⟨e.1,e.2,rfl⟩
  ·cases n
 obtain ⟨c,T,S⟩:=h.grow (nb:=r) (Dm':=fun a j=>l a j∨(a=t∧j=i)) (w':=B) (fun a j g n=>by
  obtain ⟨rfl,rfl,rfl⟩:=y a j g n;exact ⟨G,N,MT P,Q⟩) (fun W U X V g L M=>by
  obtain ⟨H,I,_⟩:=y _ _ _ L;obtain ⟨J,K,_⟩:=y _ _ _ M;exact ⟨H.trans J.symm,I.trans K.symm⟩) (fun a R=>by
  by_cases e:a=t
  ·subst e;refine O.ext fun x=>?_
   unfold So.gr;dsimp only;rw [s];dsimp only;by_cases e:x=i
   ·rw [if_pos e,if_pos ⟨rfl,e⟩]
   ·rw [if_neg e,if_neg (fun q=>e q.2)]
  ·have:(o.gr r).bk a=o.bk a:=funext fun x=>by unfold So.gr;dsimp only;rw [s];dsimp only;rw [if_neg (fun q=>e q.1)]
   rw [this]
   exact (h.mp a R).O A fun q=>e (h.oj a t (by omega) (by omega) q)) (A.mono fun k _ q=>⟨t,G,q⟩) (fun a j=>by
  rw [s];constructor
  ·rintro (q | q)
   ·exact .inl q
   ·exact .inr ⟨f,by simp [q]⟩
  ·rintro (q | ⟨g,q⟩)
   ·exact .inl q
   ·dsimp only at q;split at q
    ·next e=>exact .inr e
    ·cases q)
 exact ⟨_,c,T,S⟩
end
theorem JM(P b v u p m o l d w)(A:AnOk P p m)(h:Dl b v u p m o l d w)(hp:Bh 0 w v P)(f:Nat)(hf:f<P.length)(hD:∀i,i<12→¬l 0 (vN f i)∧¬l 3 (vN f i))(hR:∀x,¬d f x):
 Calls Tryz.prog 94 #[.pointer (some ⟨b,0,none⟩),.int .i64 f] w fun e V=>e=.returned (.tuple #[])∧
  ∃o',Cv b v u p m o o' (fun t i=>l t i∨((t=0∨t=3)∧∃j,j<(Ap P f).l8.length∧i=vN f j)∨(t=4∧i=f)) (fun i x=>d i x∨(i=f∧Ey P f x)) w V:=by
 obtain ⟨r,N,rfl,d2⟩:=hp.form (by omega);obtain ⟨vv,sv,a7,b2,a4⟩:=hp.get hf;obtain ⟨sa,sc,rfl,b0⟩:=a4.form;obtain ⟨va,vl,vc,rfl⟩:=Ad b2;have d1:=Aq b2;have X:=a7 1 (by omega);simp only [MR,dJ,dK] at X;have a9:Ap P f=P[f]:=by unfold Ap;rw [rU hf];rfl
 rw [←a9] at d1 a4 b0;subst d1;have f8:=A.bA;have g2:=A.ok.l8 f;have g0:=A.ok.many f;have p0:=h.s9.cell 0;have a5:=Ae h.s9;simp only [Gf,dM,dJ] at p0;have f9:(f:Int)<(P.length:Int):=by omega
 have HA:=Aa A;have HP:=Aa hp;have e3:=Aa a4;have e1:=Aa b0;have HC:=Aa h;have HD:=Aa hD;have HR:=Aa hR;have e0:=Aa a9;have d9:=Aa a7;have M0:dN (Cv b (.slice (some ⟨r,0,none⟩) P.length N) u p m o o (fun t i=>l t i∨((t=0∨t=3)∧∃j,j<0∧i=vN f j)) d w w):=(Cv.rf h).iff (fun t i=>⟨.inl,fun q=>q.elim id fun ⟨_,j,q,_⟩=>by omega⟩) (fun _ _=>Iff.rfl);clear h hp a4 b0 hD hR a9 b2 a7 A;go_enter Tryz.func94,Tryz.ntmps94;go_wp2_with fail;clear p0 X a5;go_loopw [17] (fun i wr=>∃(k:Nat) (z:So),k≤(Ap P f).l8.length∧i=.int .i64 k∧dN (Cv b (.slice (some ⟨r,0,none⟩) P.length N) u p m o z (fun t i=>l t i∨((t=0∨t=3)∧∃j,j<k∧i=vN f j)) d w wr)) (fun i _=>(Ap P f).l8.length-(intOf i).toNat)
 case atStart=>exact ⟨0,o,by omega,rfl,M0⟩
 case round=>
  clear M0;obtain ⟨k,z,hk,rfl,K⟩:=hrel;by_cases e7:k<(Ap P f).l8.length
  ·have e6:(k:Int)<((Ap P f).l8.length:Int):=by omega
   have e5:k+1≤(Ap P f).l8.length:=e7;have b1:vN f k<20000:=by unfold vN;omega
   have a3:∀t,t=0∨t=3→¬(l t (vN f k)∨((t=0∨t=3)∧∃j,j<k∧vN f k=vN f j)):=fun t ht q=>by
    rcases q with q | ⟨_,j,g,G⟩
    ·have:=HD.o k (by omega);rcases ht with rfl | rfl
     ·exact this.1 q
     ·exact this.2 q
    ·unfold vN at G;omega
   have b3:=Aa a3;clear a3;go_wp2_with (first | (go_at_call 125;refine (Eu f k _ (by omega) (by omega)).mono ?_;rintro e V ⟨rfl,T⟩;have T:=T.symm;subst T));refine (Jp b _ u p m z _ d wr (vN f k) K.o.c b1 (b3.o 0 (.inl rfl)) (b3.o 3 (.inr rfl))).mono ?_;rintro e C ⟨rfl,E,Y,d5,d4⟩;have M:dN (Cv b (.slice (some ⟨r,0,none⟩) P.length N) u p m o E (fun t i=>l t i∨((t=0∨t=3)∧∃j,j<k+1∧i=vN f j)) d w C):=(K.o.trans ⟨Y,d5,d4⟩).iff (fun t i=>by
    constructor
    ·rintro ((q | ⟨g,j,G,n⟩) | ⟨g,G⟩)
     ·exact .inl q
     ·exact .inr ⟨g,j,by omega,n⟩
     ·exact .inr ⟨g,k,by omega,G⟩
    ·rintro (q | ⟨g,j,G,n⟩)
     ·exact .inl (.inl q)
     ·by_cases e:j=k
      ·subst e;exact .inr ⟨g,n⟩
      ·exact .inl (.inr ⟨g,j,by omega,n⟩)) (fun _ _=>Iff.rfl)
   clear Y d5 d4 K;go_wp2_with fail;go_roundw
   case rel=>exact ⟨k+1,E,e5,by go_num,M⟩
   case measure=>simp [intOf];omega
  ·have e:k=(Ap P f).l8.length:=by omega
   subst e;have e6:decide (((Ap P f).l8.length:Int)<((Ap P f).l8.length:Int))=false:=by simp
   have p9:=K.o.c.s9.cell 9;have a5:=Ae K.o.c.s9;simp only [Gf,dM,dJ,dK] at p9;have e8:=@run_makeMap Tryz.prog;have U:Ab (fun _=>False) wr (wr.alloc (.map #[] 0)):=(Ab.refl _ wr).alloc _;obtain ⟨C,c9,b8,a8⟩:=(((K.o.c.mp 4 (by omega)).O U (fun q=>q))).put Dw Tryz.underlying91 (k:=f) (a:=wr.heap.size) (by omega) trivial;unfold GG at c9;have n4:wr.heap.size≠z.om 4:=fun q=>by have:=K.o.c.ownLt (k:=z.om 4) (.inr (.inl ⟨4,by omega,rfl⟩));omega
   have b9:C.heap[wr.heap.size]? =some (.map #[] 0):=(a8.block _ (by simp) n4).trans (heap_alloc_new wr _);obtain ⟨E,s2⟩:=K.o.c.one (t:=4) (i:=f) (by omega) (rN _) b9 b8 ((U.mono (fun _ _ q=>q.elim)).trans a8) (fun _=>HR.o);have b5:¬o.own b r:=fun q=>by obtain ⟨cs,f6,_⟩:=HP.o;obtain ⟨f7,e⟩:=J9 f6;rcases HC.o.kind q with ⟨_,_,e'⟩ | ⟨_,e'⟩<;>rw [e] at e'<;>cases e'
   have M:dN (Cv b (.slice (some ⟨r,0,none⟩) P.length N) u p m o E (fun t i=>l t i∨((t=0∨t=3)∧∃j,j<(Ap P f).l8.length∧i=vN f j)∨(t=4∧i=f)) (fun i x=>d i x∨(i=f∧∃s c,c<0∧(Ap P f).b9[c]? =some s∧s.kind=10∧x=vN f s.r9)) w C):=(K.o.trans s2).iff (fun t i=>by
    constructor
    ·rintro ((q | q) | q)
     ·exact .inl q
     ·exact .inr (.inl q)
     ·exact .inr (.inr q)
    ·rintro (q | q | q)
     ·exact .inl (.inl q)
     ·exact .inl (.inr q)
     ·exact .inr q) (fun i x=>⟨.inl,fun q=>q.elim id fun ⟨_,_,_,q,_⟩=>by omega⟩)
   have c3:C.cell? ⟨r,f*4+3,none⟩=some (.slice sa (Ap P f).b9.length sc):=by rw [rM (M.o.on.block r d2 b5),d9.o 3 (by omega)];simp only [MR,dJ,dK];rw [e0.o]
   have f1:r<C.heap.size:=rP d2 M.o.on.size;have d6:=M.o.c.s9.cell 0;have f3:=Ae M.o.c.s9;simp only [Gf,dM,dJ] at d6;clear b9 b8 a8 s2 K U;go_wp2_with fail;clear p9 a5 c9 c3 d6 f3 e8 f1 b5;go_loopw [42] (fun i wi=>∃(j:Nat) (I:So),j≤(Ap P f).b9.length∧i=.int .i64 j∧dN (Cv b (.slice (some ⟨r,0,none⟩) P.length N) u p m o I (fun t i=>l t i∨((t=0∨t=3)∧∃j,j<(Ap P f).l8.length∧i=vN f j)∨(t=4∧i=f)) (fun i x=>d i x∨(i=f∧∃s c,c<j∧(Ap P f).b9[c]? =some s∧s.kind=10∧x=vN f s.r9)) w wi)) (fun i _=>(Ap P f).b9.length-(intOf i).toNat)
   case atStart=>exact ⟨0,E,by omega,rfl,M⟩
   case round=>
    clear M;obtain ⟨j,I,hj,rfl,W⟩:=hrel;by_cases a2:j<(Ap P f).b9.length
    ·obtain ⟨gs,rfl,d3⟩:=e1.o (by omega);have d0:=e3.o.O W.o.on HC.o.noPlan;have f2:gs<wr.heap.size:=rP d3 W.o.on.size;obtain ⟨av,L,hI⟩:=d0.get a2;have c0:=L 0 (by omega);have X:=L 1 (by omega);have Y:=L 2 (by omega);have c3:=L 3 (by omega);have c4:=L 4 (by omega);have c5:=L 5 (by omega);have c6:=L 6 (by omega);have c7:=L 7 (by omega);simp only [Hk,dJ,dK,Nat.add_zero] at c0 X Y c3 c4 c5 c6 c7;have e9:=HA.o.ok.ok f hf _ (rQ a2);have HG:=Aa (rU a2);have e4:(j:Int)<((Ap P f).b9.length:Int):=by omega
     have b7:j+1≤(Ap P f).b9.length:=a2;obtain ⟨aa,al,ac,rfl⟩:=Ad hI;clear d0 L hI d3;generalize (Ap P f).b9[j]=s at*;have U:Ab (fun _=>False) wr (wr.alloc (.cells #[.int .i64 s.kind,.int .i64 s.aQ,.int .i64 s.r9,.int .i64 s.field,.int .i64 s.m9,.slice aa al ac,.int .i64 s.next,.int .i64 s.taken] 190)):=(Ab.refl _ wr).alloc _;have a0:=Ak.new wr #[.int .i64 s.kind,.int .i64 s.aQ,.int .i64 s.r9,.int .i64 s.field,.int .i64 s.m9,.slice aa al ac,.int .i64 s.next,.int .i64 s.taken] 190;have b4:=W.o.i9 U;have a3:¬I.own b wr.heap.size:=fun q=>by have:=W.o.c.ownLt q;omega
     go_upto_region 9 with fail;generalize wr.alloc (.cells #[.int .i64 s.kind,.int .i64 s.aQ,.int .i64 s.r9,.int .i64 s.field,.int .i64 s.m9,.slice aa al ac,.int .i64 s.next,.int .i64 s.taken] 190)=S at*;generalize wr.heap.size=tb at*;have t0:=a0.cell 0;have t2:=a0.cell 2;have g3:=Ae a0;simp only [dM,dJ,dK] at t0 t2;have H:=Aa b4;have d8:=Aa a0;clear c0 X Y c3 c4 c5 c6 c7 b4 a0 U f2;by_cases Z:s.kind=10
     ·have f0:(((s.kind:Nat):Int)==10)=true:=by rw [Z];rfl
      have g1:=e9.sr (by omega);obtain ⟨O,a1⟩:=(H.o.c.d 4 f).2 (.inr (.inr ⟨rfl,rfl⟩));have d7:=Aa Z;have b1:vN f s.r9<19200:=by unfold vN;omega
      have p9:=H.o.c.s9.cell 9;have a5:=Ae H.o.c.s9;simp only [Gf,dM,dJ,dK] at p9;have od:Ab (fun _=>False) S S.drew:=(Ab.refl _ S).drew;have l9:=(((H.o.c.mp 4 (by omega)).O od (fun q=>q)).look Dw Tryz.underlying91 (Ca S.drew) (k:=f) (by omega) false).2 O a1;unfold GG at l9;have c8:=((H.o.c.st 4 f O a1).O od (fun q=>q)).iff (m':=fun x=>(d f x∨(f=f∧∃s c,c<j∧(Ap P f).b9[c]? =some s∧s.kind=10∧x=vN f s.r9))) fun x=>by simp
      have e2:=Aa c8;have f4:b≠O:=fun q=>by obtain ⟨_,_,e⟩:=(H.o.c.st 4 f O a1).isMap;have hb:=H.o.c.s9;unfold Ak at hb;rw [q,e] at hb;cases hb
      have f5:tb≠O:=fun q=>a3 (q▸.inr (.inr (.inl ⟨4,f,a1⟩)))
      have HS:dN (∀W6,Ab (fun k=>k=O) S W6→W6.cell? ⟨b,9,none⟩=some (.map (some (I.om 4)))∧W6.cell? ⟨tb,2,none⟩=some (.int .i64 s.r9)):=fun W6 h6=>by have r1:=(H.o.c.s9.O h6 f4).cell 9;have r2:=(d8.o.O h6 f5).cell 2;simp only [Gf,dM,dJ,dK] at r1 r2;exact ⟨r1,r2⟩
      clear Z c8 od;go_wp2_with fail;go_region_held3 (fun V=>V.cell? ⟨b,9,none⟩=some (.map (some (I.om 4)))∧V.cell? ⟨tb,2,none⟩=some (.int .i64 s.r9)) (go_keep)
       (first
         | (go_at_call 125;refine (Eu f s.r9 _ (by omega) (by omega)).mono ?_;rintro e V ⟨rfl,T⟩;have T:=T.symm;subst T)
         | (go_at_call 101;refine (Fg O _ (vN f s.r9) _ e2.o b1).mono ?_;rintro e w6 ⟨rb,rfl,_,s6,o6⟩;have S6:=Aa s6;have O6:=Aa ((Ab.drew (Ab.refl (fun k=>k=O) S)).trans o6);clear s6 o6;obtain ⟨r1,r2⟩:=HS.o w6 O6.o))
      all_goals
       have a6:dN (Cv b (.slice (some ⟨r,0,none⟩) P.length N) u p m o I (fun t i=>l t i∨((t=0∨t=3)∧∃j,j<(Ap P f).l8.length∧i=vN f j)∨(t=4∧i=f)) (fun i x=>d i x∨(i=f∧∃s c,c<j+1∧(Ap P f).b9[c]? =some s∧s.kind=10∧x=vN f s.r9)) w w6):=(H.o.trans (H.o.c.ret (y:=vN f s.r9) a1 (S6.o.iff fun x=>by simp) O6.o)).iff (fun _ _=>Iff.rfl) (fun i x=>by
        constructor
        ·rintro ((q | ⟨g,J,c,G,n⟩) | ⟨g,G⟩)
         ·exact .inl q
         ·exact .inr ⟨g,J,c,by omega,n⟩
         ·exact .inr ⟨g,s,j,by omega,HG.o,d7.o,G⟩
        ·rintro (q | ⟨g,J,c,G,n,Q,R⟩)
         ·exact .inl (.inl q)
         ·by_cases e:c=j
          ·subst e;rw [HG.o] at n;cases n;exact .inr ⟨g,R⟩
          ·exact .inl (.inr ⟨g,J,c,by omega,n,Q,R⟩))
       clear S6 O6;go_wp2_with fail;go_roundw
       case rel=>exact ⟨j+1,I,b7,by go_num,a6⟩
       case measure=>simp [intOf];omega
     ·have f0:(((s.kind:Nat):Int)==10)=false:=by simp;omega
      have a6:dN (Cv b (.slice (some ⟨r,0,none⟩) P.length N) u p m o I (fun t i=>l t i∨((t=0∨t=3)∧∃j,j<(Ap P f).l8.length∧i=vN f j)∨(t=4∧i=f)) (fun i x=>d i x∨(i=f∧∃s c,c<j+1∧(Ap P f).b9[c]? =some s∧s.kind=10∧x=vN f s.r9)) w S):=H.o.iff (fun _ _=>Iff.rfl) (fun i x=>by
       constructor
       ·rintro (q | ⟨g,J,c,G,n⟩)
        ·exact .inl q
        ·exact .inr ⟨g,J,c,by omega,n⟩
       ·rintro (q | ⟨g,J,c,G,n,Q,R⟩)
        ·exact .inl q
        ·by_cases e:c=j
         ·subst e;rw [HG.o] at n;cases n;exact absurd Q Z
         ·exact .inr ⟨g,J,c,by omega,n,Q,R⟩)
      clear Z;go_wp2_with fail;go_roundw
      case rel=>exact ⟨j+1,I,b7,by go_num,a6⟩
      case measure=>simp [intOf];omega
    ·have e:j=(Ap P f).b9.length:=by omega
     subst e;have e4:decide (((Ap P f).b9.length:Int)<((Ap P f).b9.length:Int))=false:=by simp
     have HX:dN (Cv b (.slice (some ⟨r,0,none⟩) P.length N) u p m o I (fun t i=>l t i∨((t=0∨t=3)∧∃j,j<(Ap P f).l8.length∧i=vN f j)∨(t=4∧i=f)) (fun i x=>d i x∨(i=f∧Ey P f x)) w wr):=W.o.iff (fun _ _=>Iff.rfl) (fun i x=>by
      constructor
      ·rintro (q | ⟨g,J,c,G,n,Q,R⟩)
       ·exact .inl q
       ·exact .inr ⟨g,J,List.mem_of_getElem? n,Q,R⟩
      ·rintro (q | ⟨g,J,n,Q,R⟩)
       ·exact .inl q
       ·obtain ⟨c,b6,e⟩:=List.mem_iff_getElem.1 n;exact .inr ⟨g,J,c,b6,by rw [rU b6,e],Q,R⟩)
     go_wp2_with fail;go_end0;exact ⟨rfl,I,HX.o⟩
end Go.Proofs.YtegmjgjkcdbmkaaGreatDoor

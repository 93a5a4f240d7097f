/- One of the texts of the proof: KlE. -/
import Derived.Test.YtegmjgjkcdbmkaaGreatDoorG23
import Derived.Test.YtegmjgjkcdbmkaaGreatDoorG45
set_option maxRecDepth 100000
set_option maxHeartbeats 4000000
namespace Go.Proofs.YtegmjgjkcdbmkaaGreatDoor
open Go.RowKit
structure ZM(T:Tb)(xs:List (Sm×Nat))(pl:Nat)(x:Sm×Nat)(t:ByteArray):Prop where
 inner:x.1.kind=4→∀n,1≤n→n≤pl→t=EX n 0→FY (FD T x.1.aW x.1.p) (EX n x.1.k)=true
 loadV:x.1.kind=5→∀f v,f<4→v<4→t=GD f v→Fj (FD T f v) (FD T x.1.aW x.1.p)=true
 loadF:x.1.kind=5→∀i (h:i<T.F.length),t=EX (i / 4+1) (i % 4)→Fj T.F[i] (FD T x.1.aW x.1.p)=true
 storV:x.1.kind=6→∀f v,f<4→v<4→t=GD f v→Fj (FD T x.1.aW x.1.q) (FD T f v)=true
 storF:x.1.kind=6→∀i (h:i<T.F.length),t=EX (i / 4+1) (i % 4)→Fj (FD T x.1.aW x.1.q) T.F[i]=true
 thru:x.1.kind=8→∀f,f<4→t=Yu f→f % 3=x.1.args.length→Ww T xs x.1 f∧∃h:x.2-1<T.E.length,FY (T.E[x.2-1]) (Kz f)=true
 bG:x.1.kind=8→1≤x.2∧x.2≤300
theorem Sw(vs:List Value)(Z Y:Value)(T:Tb)(sv:Value)(s:List (Sm×Nat))(R:ByteArray)(k M:Nat)(x:Sm×Nat)(av:Value)(t:ByteArray)(w:World)(h:Lw w vs Z Y T sv s)(I:x.1.In)(a0:BT 0 w av x.1.args)(f5:k≤300)(j:x.1.kind=4∨x.1.kind=5∨x.1.kind=6∨x.1.kind=8)(P:ZM T s k x t):
 Calls Tryz.prog 35 #[.agg (Fv vs Z Y),.agg (Vs R sv k M),.agg (K6 x av),.string t] w fun e w'=>e=.returned (.bool true)∧Ab (fun _=>False) w w':=by
 obtain ⟨V,al,X,rfl⟩:=Ad a0;have c9:=Aq a0;subst c9;obtain ⟨sa,sc,rfl⟩:=h.st.form;have A:=Aa h;have HX:=Aa I;have HA:=Aa a0;have z:=Aa P;have b2:=I.aW;have hp:=I.p;have hq:=I.q;have f4:=I.ok.k;have c9:=I.ok.args;have f3:=h.bA;have b4:=h.ss.size;clear h I a0 P;unfold Vs;obtain ⟨N,a7⟩:∃c,Fv vs Z Y=c:=⟨_,rfl⟩;rw [a7] at b4⊢;have y:=Aa a7;clear a7;have o:=Aa (CB.new w N #[.string R,.slice sa s.length sc,.int .i64 k,.int .i64 M] (K6 x (.slice V x.1.args.length X)));go_enter Tryz.func35,Tryz.ntmps35;go_upto_region 1 with fail;generalize ((w.alloc (.cells N 33)).alloc (.cells #[.string R,.slice sa s.length sc,.int .i64 k,.int .i64 M] 25)).alloc (.cells (K6 x (.slice V x.1.args.length X)) 39)=W at o⊢;have c0:=o.o.b2.cell 0;have c2:=o.o.b2.cell 2;have r:=Ae o.o.b0;have l1:=Ae o.o.b1;have m:=Ae o.o.b2;simp only [dM,dJ,dK] at c0 c2;obtain ⟨a1,d1,O,s1⟩:=(A.o.ss.i9 o.o.o).var b2 hp;have q1:=o.o.b0.cell (x.1.aW*4+x.1.p);rw [←y.o,O] at q1;have S1:=Aa s1;have G1:=Aa O;clear O s1;go_quiet (fail);have K:=Aa (o.o.go ((Ab.refl _ W).drewN nq));have S2:=Aa (Ac S1.o ((Ab.refl (fun _=>False) W).drewN nq) (fun _ _ q=>q));generalize W.drewN nq=w1 at K S2⊢;clear o S1 c0 c2 r l1 m q1;have r:=Ae K.o.b0;go_wp2_with (refine J7 rfl (.tmp 4) rfl w.heap.size rfl N b4 K.o.b0 ?_);rw [←y.o];refine (UG vs Z Y T t w1 (A.o.ss.i9 K.o.o)).mono ?_;rw [y.o];rintro e w2 ⟨⟨lv,b,l,rfl,hl,e0,e9⟩,b3⟩;obtain ⟨la,ll,lc,rfl⟩:=Ad hl;have g:=Aa (K.o.go b3);have S3:=Aa (Ac S2.o b3 (fun _ _ q=>q));have c6:=Aa hl;have HY:=Aa e0;clear K S2 b3 hl e0 e9 r;have c1:=g.o.b2.cell 1;have m:=Ae g.o.b2;simp only [dM,dJ,dK] at c1;rcases j with j | j | j | j
 ·have t4:((x.1.kind:Int)==4)=true:=by simp [j]
  have H:=Aa (z.o.inner j);clear j;go_wp2_with fail;go_loopw [12] (fun i wr=>∃(n:Nat),1≤n∧n≤k+1∧i=.int .i64 n∧dN (CB w N #[.string R,.slice sa s.length sc,.int .i64 k,.int .i64 M] (K6 x (.slice V x.1.args.length X)) wr)) (fun i _=>k+1-(intOf i).toNat)
  case atStart=>exact ⟨1,by omega,by omega,rfl,g⟩
  case round=>
   have f0:=g;clear g c1 m;obtain ⟨n,d6,hn,rfl,g⟩:=hrel;have p2:=g.o.b1.cell 2;have l1:=Ae g.o.b1;have m:=Ae g.o.b2;have c5:=g.o.b2.cell 5;simp only [dM,dJ,dK] at p2 c5;by_cases Q:n≤k
   ·have tn:decide ((n:Int)≤(k:Int))=true:=by simp;omega
    obtain ⟨D,hD⟩:∃d,JR n=d:=⟨_,rfl⟩;obtain ⟨E,P⟩:∃d,JR x.1.k=d:=⟨_,rfl⟩;have z1:=FP n (by omega);have z2:=FP x.1.k (by omega);have a5:=Aa (GY n (by omega));have b8:=Aa (GY x.1.k (by omega));have d4:EX n 0=D++{data:=#[46,48]}:=by unfold EX;rw [hD];apply ByteArray.ext;apply Array.ext';simp [JR,Lib.decDigits]
    have d5:EX n x.1.k=D++{data:=#[46]}++E:=by unfold EX;rw [hD,P]
    rw [hD] at z1 a5;rw [P] at z2 b8;have e3:=Aa d4;have e4:=Aa d5;clear hD P d4 d5;have S4:=Aa ((A.o.ss.i9 g.o.o).at_ b2 hp G1.o);cases hb:(t.toList==(D++{data:=#[46,48]}).toList) with
    | true=>
      have hh:=H.o n d6 Q (by rw [e3.o];exact ER.1 hb);rw [e4.o] at hh;have HH:=Aa hh;clear hh;go_wp2_with fail;go_quiet ((first
       | (go_at_call_of 24 ((n:Int));exact Calls.quiet_of (a5.o _))
       | (go_at_call_of 24 ((x.1.k:Int));exact Calls.quiet_of (b8.o _))
       | (go_at_call 22;exact Calls.quiet_of_same (Fs 0 _ _ _ _ (Ac S4.o ((Ab.refl _ _).drewN _) (fun _ _ q=>q))))))
      rw [HH.o];have a:=Aa (g.o.go ((Ab.refl _ wr).drewN nq));generalize wr.drewN nq=J at a⊢;go_wp2_with fail;go_roundw
      case rel=>exact ⟨n+1,by omega,by omega,by go_num,a⟩
      case measure=>simp [intOf];omega
    | false=>
      go_wp2_with fail;go_quiet ((go_at_call 24;exact Calls.quiet_of (a5.o _)));have a:=Aa (g.o.go ((Ab.refl _ wr).drewN nq));generalize wr.drewN nq=J at a⊢;go_wp2_with fail;go_roundw
      case rel=>exact ⟨n+1,by omega,by omega,by go_num,a⟩
      case measure=>simp [intOf];omega
   ·have tn:decide ((n:Int)≤(k:Int))=false:=by simp;omega
    go_wp2_with fail;go_ret;exact ⟨rfl,g.o.o⟩
 ·have t4:((x.1.kind:Int)==4)=false:=by simp [j]
  have t5:((x.1.kind:Int)==5)=true:=by simp [j]
  have H:=Aa (z.o.loadV j);have b1:=Aa (z.o.loadF j);clear j;cases b with
  | true=>
    have p:Fj l (FD T x.1.aW x.1.p)=true:=by
     rcases HY.o rfl with ⟨f,v,B,h2,C,G⟩ | ⟨i,B,C,G⟩
     ·rw [G];exact H.o f v B h2 C
     ·rw [G];exact b1.o i B C
    have HW:=Aa p;clear p;go_wp2_with (go_at_call 18;refine (Ev 0 _ _ _ _ _ c6.o S3.o).mono ?_;rw [HW.o];rintro e w' ⟨rfl,p⟩;have p:=p.symm;subst p);go_ret;exact ⟨rfl,g.o.o⟩
  | false=> go_wp2_with fail;go_ret;exact ⟨rfl,g.o.o⟩
 ·have t4:((x.1.kind:Int)==4)=false:=by simp [j]
  have t5:((x.1.kind:Int)==5)=false:=by simp [j]
  have t6:((x.1.kind:Int)==6)=true:=by simp [j]
  have H:=Aa (z.o.storV j);have b1:=Aa (z.o.storF j);clear j;cases b with
  | true=>
    have p:Fj (FD T x.1.aW x.1.q) l=true:=by
     rcases HY.o rfl with ⟨f,v,B,h2,C,G⟩ | ⟨i,B,C,G⟩
     ·rw [G];exact H.o f v B h2 C
     ·rw [G];exact b1.o i B C
    have HW:=Aa p;clear p;have c0:=g.o.b2.cell 0;have c3:=g.o.b2.cell 3;have r:=Ae g.o.b0;simp only [dM,dJ,dK] at c0 c3;obtain ⟨a1,d1,O,s1⟩:=(A.o.ss.i9 g.o.o).var b2 hq;have q1:=g.o.b0.cell (x.1.aW*4+x.1.q);rw [←y.o,O] at q1;have S1:=Aa s1;clear O s1;go_wp2_with fail;go_quiet ((go_at_call 18;exact Calls.quiet_of_same (Ev 0 _ _ _ _ _ S1.o c6.o)));rw [HW.o];have a:=Aa (g.o.go ((Ab.refl _ w2).drewN nq));generalize w2.drewN nq=J at a⊢;go_wp2_with fail;go_ret;exact ⟨rfl,a.o.o⟩
  | false=> go_wp2_with fail;go_quiet (fail);have a:=Aa (g.o.go ((Ab.refl _ w2).drewN nq));generalize w2.drewN nq=J at a⊢;go_wp2_with fail;go_ret;exact ⟨rfl,a.o.o⟩
 ·have t4:((x.1.kind:Int)==4)=false:=by simp [j]
  have t5:((x.1.kind:Int)==5)=false:=by simp [j]
  have t6:((x.1.kind:Int)==6)=false:=by simp [j]
  have t8:((x.1.kind:Int)==8)=true:=by simp [j]
  have H:=Aa (z.o.thru j);obtain ⟨d6,e8⟩:=z.o.bG j;clear j;go_wp2_with fail;go_loopw [13] (fun i wr=>∃(f:Nat),f≤4∧i=.int .i64 f∧dN (CB w N #[.string R,.slice sa s.length sc,.int .i64 k,.int .i64 M] (K6 x (.slice V x.1.args.length X)) wr)) (fun i _=>4-(intOf i).toNat)
  case atStart=>exact ⟨0,by omega,rfl,g⟩
  case round=>
   clear g c1 m;obtain ⟨f,hf,rfl,g⟩:=hrel;by_cases Q:f<4
   ·have tn:decide ((f:Int)<4)=true:=by simp;omega
    have m:=Ae g.o.b2;have c7:=g.o.b2.cell 7;simp only [dM,dJ,dK] at c7;obtain ⟨F,hF⟩:∃d,Kz f=d:=⟨_,rfl⟩;have z1:=Ia f;have d0:Yu f={data:=#[64]}++F:=by unfold Yu;rw [hF]
    have U:=Aa (Gm f Q);have a6:=Aa (Eh f Q);rw [hF] at z1 U;have HF:=Aa hF;have e1:=Aa d0;obtain ⟨tk,b5⟩:∃d,f % 3=d:=⟨_,rfl⟩;rw [b5] at a6;have e5:=Aa b5;clear hF d0 b5;cases hb:(t.toList==({data:=#[64]}++F).toList) with
    | true=>
      by_cases a4:tk=x.1.args.length
      ·have tt:((tk:Int)==(x.1.args.length:Int))=true:=by simp [a4]
       obtain ⟨d2,a8,b0⟩:=H.o f Q (by rw [e1.o];exact ER.1 hb) (by rw [e5.o];exact a4);have e2:=Aa d2;rw [HF.o] at b0;have c4:=Aa b0;have f2:=Aa a4;clear d2 b0 a4;go_wp2_with fail;go_quiet ((first
        | (go_at_call 26;exact Calls.quiet_of_same (U.o _))
        | (go_at_call 27;exact Calls.quiet_of_same (a6.o _))))
       have a:=Aa (g.o.go ((Ab.refl _ wr).drewN nq));generalize wr.drewN nq=J at a⊢;clear g m c7;have r:=Ae a.o.b0;have l1:=Ae a.o.b1;have m:=Ae a.o.b2;have p0:=a.o.b1.cell 0;have p1:=a.o.b1.cell 1;have p2:=a.o.b1.cell 2;have p3:=a.o.b1.cell 3;have x0:=a.o.b2.cell 0;have x1:=a.o.b2.cell 1;have x2:=a.o.b2.cell 2;have x3:=a.o.b2.cell 3;have x4:=a.o.b2.cell 4;have x5:=a.o.b2.cell 5;have S:=a.o.b2.cell 6;have x7:=a.o.b2.cell 7;simp only [dM,dJ,dK] at p0 p1 p2 p3 x0 x1 x2 x3 x4 x5 S x7;go_wp2_with (refine J7 rfl (.tmp 4) rfl w.heap.size rfl N b4 a.o.b0 ?_);rw [←y.o];refine (Jr vs Z Y T (.slice sa s.length sc) s R k M x (.slice V x.1.args.length X) f J (A.o.i9 a.o.o) HX.o (Ac HA.o a.o.o (fun _ _ q=>q)) Q e2.o).mono ?_;rw [y.o];rintro e w4 ⟨rfl,d8⟩;have u:=Aa (a.o.go d8);clear a d8 r l1 m p0 p1 p2 p3 x0 x1 x2 x3 x4 x5 S x7;have r:=Ae u.o.b0;have m:=Ae u.o.b2;have S:=u.o.b2.cell 6;obtain ⟨ea,ec,c8,d9⟩:=(A.o.ss.i9 u.o.o).bN;have b6:=u.o.b0.cell 17;rw [←y.o,c8] at b6;have e7:=A.o.ss.el;obtain ⟨eg,eb,ed,rfl,a2,e6,a9⟩:=d9.get a8;obtain ⟨nE,a3⟩:∃n,T.E.length=n:=⟨_,rfl⟩;rw [a3] at b6 e7;have f1:=Aa a3;have d3:x.2-1<nE:=by rw [←a3];exact a8
       obtain ⟨L,hL⟩:∃l,T.E[x.2-1]=l:=⟨_,rfl⟩;rw [hL] at a2 a9 c4;have b9:=Aa a9;simp only [dM,dJ,dK] at S;obtain ⟨n1,d7⟩:∃n,x.2=n+1:=⟨x.2-1,by omega⟩;rw [d7] at S a2 d3 e8;simp only [Nat.add_sub_cancel] at a2 d3;clear c8 d9 a9 hL a3 a8 d7;go_wp2_with fail;go_quiet ((first
        | (go_at_call 26;exact Calls.quiet_of_same (U.o _))
        | (go_at_call 22;exact Calls.quiet_of_same (Fs 0 _ _ _ _ (Ac b9.o ((Ab.refl _ _).drewN _) (fun _ _ q=>q))))))
       rw [c4.o];have b7:=Aa (u.o.go ((Ab.refl _ w4).drewN nq));generalize w4.drewN nq=w5 at b7⊢;clear u r m b6 a2 e6 b9 S;go_wp2_with fail;go_roundw
       case rel=>exact ⟨f+1,by omega,by go_num,b7⟩
       case measure=>simp [intOf];omega
      ·have tt:((tk:Int)==(x.1.args.length:Int))=false:=by simp;omega
       go_wp2_with fail;go_quiet ((first
        | (go_at_call 26;exact Calls.quiet_of_same (U.o _))
        | (go_at_call 27;exact Calls.quiet_of_same (a6.o _))))
       have a:=Aa (g.o.go ((Ab.refl _ wr).drewN nq));generalize wr.drewN nq=J at a⊢;go_wp2_with fail;go_roundw
       case rel=>exact ⟨f+1,by omega,by go_num,a⟩
       case measure=>simp [intOf];omega
    | false=>
      go_wp2_with fail;go_quiet ((first
       | (go_at_call 26;exact Calls.quiet_of_same (U.o _))))
      have a:=Aa (g.o.go ((Ab.refl _ wr).drewN nq));generalize wr.drewN nq=J at a⊢;go_wp2_with fail;go_roundw
      case rel=>exact ⟨f+1,by omega,by go_num,a⟩
      case measure=>simp [intOf];omega
   ·have tn:decide ((f:Int)<4)=false:=by simp;omega
    go_wp2_with fail;go_ret;exact ⟨rfl,g.o.o⟩
end Go.Proofs.YtegmjgjkcdbmkaaGreatDoor

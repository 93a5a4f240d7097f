/- One of the texts of the proof: ClA ClB ClC ClD KlF KlG. -/
import Derived.Test.YtegmjgjkcdbmkaaGreatDoorG24
import Derived.Test.YtegmjgjkcdbmkaaGreatDoorG46
set_option maxRecDepth 100000
set_option maxHeartbeats 4000000
namespace Go.Proofs.YtegmjgjkcdbmkaaGreatDoor
open Go.RowKit Go.Maps
theorem Tryz.infoProg:(Tryz.prog.info? 25).map (·.size)=some 4:=by kernel_rfl
theorem Tryz.rowProg:∃d,Tryz.prog.underlying 25=some d∧d.isRow=true:=⟨_,Tryz.underlying25,rfl⟩
theorem Tryz.infoStmt:(Tryz.prog.info? 39).map (·.size)=some 8:=by kernel_rfl
theorem Tryz.rowStmt:∃d,Tryz.prog.underlying 39=some d∧d.isRow=true:=⟨_,Tryz.underlying39,rfl⟩
theorem Fl{P:Program}{C:World→Prop}{g:Nat}{Q:Exit→Act→World→Prop}{a:Act}{w:World}{l:List Oper}(f:P.follows .mixedOrders=true)(d:Region.lexB .any l.toArray=true)(e:C {w with drawn:=w.drawn+1})
 (h:wpQuiet P l.toArray C (fun c=>∀b,C b→Q .normal c b) l a):(Code.region g l.toArray true).wp P Q a w:=wp_region_quiet f d e (by simpa using h)
theorem Tu(R:Act→World→Prop)(l m o g k n c:Nat)(a i j:Array Value)(t:ByteArray)(W:World){p q D x6 x7 f1 r s u v x y z A B E F G H I J K L M N O P Q S T U V X Y Z a0 a1 a2 a3 a4 a5 a6 a7 a8 a9 b3 b4 b5 b6 b7 b8 b9 c0 c1 c2 c3 c4 c5 c6 c7 c8 c9 d0 d1 d2 d3 d4 d5 d6 d7 d8 d9 e0 e1 e2 e3 e4 e5 e6 e7 e8 g3 f8 f7 f6 f5 f4 f3 f2 e9 f0:Value}
 (hz:a.size=18)(g0:i.size=4)(g1:j.size=8)(hk:k<n)(hS:∀b,Ab (fun _=>False) W b→Ak l a 33 b∧Ak m i 25 b∧Ak o j 39 b∧b.cell? ⟨g,k,none⟩=some (.string t)∧g<b.heap.size)
 (hE:∀b,Ab (fun _=>False) W b→Calls Tryz.prog 35 #[.agg a,.agg i,.agg j,.string t] b fun e g2=>e=.returned (.bool true)∧Ab (fun _=>False) b g2)
 (hQ:∀b,Ab (fun _=>False) W b→R {tmps:=#[p,q,D,.pointer (some ⟨l,0,none⟩),.pointer (some ⟨m,0,none⟩),.pointer (some ⟨o,0,none⟩),x6,x7,.slice (some ⟨g,0,none⟩) n c,.int .i64 (k:Int),.bool true,r,s,u,v,x,y,z,A,B,E,F,G,H,I,J,K,L,M,N,O,P,Q,S,T,U,V,X,Y,Z,a0,a1,a2,a3,a4,a5,a6,a7,a8,a9,b3,b4,b5,b6,b7,b8,b9,c0,c1,c2,c3,c4,c5,c6,c7,c8,c9,d0,d1,d2,d3,d4,d5,d6,d7,d8,d9,e0,e1,e2,e3,e4,e5,e6,e7,e8,.agg a,.agg i,.agg j,.slice (some ⟨g,0,none⟩) n c,.int .i64 (k:Int),.pointer (some ⟨g,k,none⟩),.string t,.bool true,e9,f0],defers:=[]} b):
 Code.wp Tryz.prog (.region 21 #[⟨some 86,.load 33 (.tmp 3),33, "keeps.go:164",#[],none⟩,⟨some 87,.load 25 (.tmp 4),25, "keeps.go:164",#[],none⟩,⟨some 88,.load 39 (.tmp 5),39, "keeps.go:164",#[],none⟩,⟨some 89,.move (.tmp 8),28, "keeps.go:164",#[],none⟩,⟨some 90,.move (.tmp 9),3, "keeps.go:164",#[],none⟩,⟨some 91,.indexAddr 28 (.tmp 89) (.tmp 90),0, "keeps.go:164",#[⟨3,.data⟩,⟨4,.data⟩],none⟩,⟨some 92,.load 9 (.tmp 91),9, "keeps.go:164",#[⟨5,.data⟩],none⟩,⟨some 93,.call ⟨.value (.func 35),#[.tmp 86,.tmp 87,.tmp 88,.tmp 92],#[33,25,39,9]⟩,4, "keeps.go:164",#[⟨0,.data⟩,⟨1,.data⟩,⟨2,.data⟩,⟨6,.data⟩],none⟩,⟨some 10,.assign (.tmp 93),4, "keeps.go:164",#[⟨7,.data⟩,⟨7,.chain⟩,⟨0,.phase⟩,⟨1,.phase⟩,⟨2,.phase⟩,⟨3,.phase⟩,⟨4,.phase⟩,⟨5,.phase⟩,⟨6,.phase⟩,⟨7,.phase⟩],none⟩] true) (Zw R) {tmps:=#[p,q,D,.pointer (some ⟨l,0,none⟩),.pointer (some ⟨m,0,none⟩),.pointer (some ⟨o,0,none⟩),x6,x7,.slice (some ⟨g,0,none⟩) n c,.int .i64 (k:Int),f1,r,s,u,v,x,y,z,A,B,E,F,G,H,I,J,K,L,M,N,O,P,Q,S,T,U,V,X,Y,Z,a0,a1,a2,a3,a4,a5,a6,a7,a8,a9,b3,b4,b5,b6,b7,b8,b9,c0,c1,c2,c3,c4,c5,c6,c7,c8,c9,d0,d1,d2,d3,d4,d5,d6,d7,d8,d9,e0,e1,e2,e3,e4,e5,e6,e7,e8,g3,f8,f7,f6,f5,f4,f3,f2,e9,f0],defers:=[]} W:=by
 have HS:=Aa hS;have HE:=Aa hE;have HQ:=Aa hQ;clear hS hE hQ;refine Fl (C:=Ab (fun _=>False) W) (by kernel_rfl) (by kernel_rfl) ((Ab.refl _ W).drew) ?_;refine AM ({tmps:=#[p,q,D,.pointer (some ⟨l,0,none⟩),.pointer (some ⟨m,0,none⟩),.pointer (some ⟨o,0,none⟩),x6,x7,.slice (some ⟨g,0,none⟩) n c,.int .i64 (k:Int),f1,r,s,u,v,x,y,z,A,B,E,F,G,H,I,J,K,L,M,N,O,P,Q,S,T,U,V,X,Y,Z,a0,a1,a2,a3,a4,a5,a6,a7,a8,a9,b3,b4,b5,b6,b7,b8,b9,c0,c1,c2,c3,c4,c5,c6,c7,c8,c9,d0,d1,d2,d3,d4,d5,d6,d7,d8,d9,e0,e1,e2,e3,e4,e5,e6,e7,e8,.agg a,f8,f7,f6,f5,f4,f3,f2,e9,f0],defers:=[]}) (.agg a) (by rfl) (fun w d=>Ja rfl _ rfl l rfl a Tryz.rowSets 18 Tryz.infoSets hz (HS.o w d).1) (by kernel_rfl) ?_;refine AM ({tmps:=#[p,q,D,.pointer (some ⟨l,0,none⟩),.pointer (some ⟨m,0,none⟩),.pointer (some ⟨o,0,none⟩),x6,x7,.slice (some ⟨g,0,none⟩) n c,.int .i64 (k:Int),f1,r,s,u,v,x,y,z,A,B,E,F,G,H,I,J,K,L,M,N,O,P,Q,S,T,U,V,X,Y,Z,a0,a1,a2,a3,a4,a5,a6,a7,a8,a9,b3,b4,b5,b6,b7,b8,b9,c0,c1,c2,c3,c4,c5,c6,c7,c8,c9,d0,d1,d2,d3,d4,d5,d6,d7,d8,d9,e0,e1,e2,e3,e4,e5,e6,e7,e8,.agg a,.agg i,f7,f6,f5,f4,f3,f2,e9,f0],defers:=[]}) (.agg i) (by rfl) (fun w d=>Ja rfl _ rfl m rfl i Tryz.rowProg 4 Tryz.infoProg g0 (HS.o w d).2.1) (by kernel_rfl) ?_;refine AM ({tmps:=#[p,q,D,.pointer (some ⟨l,0,none⟩),.pointer (some ⟨m,0,none⟩),.pointer (some ⟨o,0,none⟩),x6,x7,.slice (some ⟨g,0,none⟩) n c,.int .i64 (k:Int),f1,r,s,u,v,x,y,z,A,B,E,F,G,H,I,J,K,L,M,N,O,P,Q,S,T,U,V,X,Y,Z,a0,a1,a2,a3,a4,a5,a6,a7,a8,a9,b3,b4,b5,b6,b7,b8,b9,c0,c1,c2,c3,c4,c5,c6,c7,c8,c9,d0,d1,d2,d3,d4,d5,d6,d7,d8,d9,e0,e1,e2,e3,e4,e5,e6,e7,e8,.agg a,.agg i,.agg j,f6,f5,f4,f3,f2,e9,f0],defers:=[]}) (.agg j) (by rfl) (fun w d=>Ja rfl _ rfl o rfl j Tryz.rowStmt 8 Tryz.infoStmt g1 (HS.o w d).2.2.1) (by kernel_rfl) ?_;refine AM ({tmps:=#[p,q,D,.pointer (some ⟨l,0,none⟩),.pointer (some ⟨m,0,none⟩),.pointer (some ⟨o,0,none⟩),x6,x7,.slice (some ⟨g,0,none⟩) n c,.int .i64 (k:Int),f1,r,s,u,v,x,y,z,A,B,E,F,G,H,I,J,K,L,M,N,O,P,Q,S,T,U,V,X,Y,Z,a0,a1,a2,a3,a4,a5,a6,a7,a8,a9,b3,b4,b5,b6,b7,b8,b9,c0,c1,c2,c3,c4,c5,c6,c7,c8,c9,d0,d1,d2,d3,d4,d5,d6,d7,d8,d9,e0,e1,e2,e3,e4,e5,e6,e7,e8,.agg a,.agg i,.agg j,.slice (some ⟨g,0,none⟩) n c,f5,f4,f3,f2,e9,f0],defers:=[]}) (.slice (some ⟨g,0,none⟩) n c) (by rfl) (fun w d=>by go_simp) (by kernel_rfl) ?_;refine AM ({tmps:=#[p,q,D,.pointer (some ⟨l,0,none⟩),.pointer (some ⟨m,0,none⟩),.pointer (some ⟨o,0,none⟩),x6,x7,.slice (some ⟨g,0,none⟩) n c,.int .i64 (k:Int),f1,r,s,u,v,x,y,z,A,B,E,F,G,H,I,J,K,L,M,N,O,P,Q,S,T,U,V,X,Y,Z,a0,a1,a2,a3,a4,a5,a6,a7,a8,a9,b3,b4,b5,b6,b7,b8,b9,c0,c1,c2,c3,c4,c5,c6,c7,c8,c9,d0,d1,d2,d3,d4,d5,d6,d7,d8,d9,e0,e1,e2,e3,e4,e5,e6,e7,e8,.agg a,.agg i,.agg j,.slice (some ⟨g,0,none⟩) n c,.int .i64 (k:Int),f4,f3,f2,e9,f0],defers:=[]}) (.int .i64 (k:Int)) (by rfl) (fun w d=>by go_simp) (by kernel_rfl) ?_;refine AM ({tmps:=#[p,q,D,.pointer (some ⟨l,0,none⟩),.pointer (some ⟨m,0,none⟩),.pointer (some ⟨o,0,none⟩),x6,x7,.slice (some ⟨g,0,none⟩) n c,.int .i64 (k:Int),f1,r,s,u,v,x,y,z,A,B,E,F,G,H,I,J,K,L,M,N,O,P,Q,S,T,U,V,X,Y,Z,a0,a1,a2,a3,a4,a5,a6,a7,a8,a9,b3,b4,b5,b6,b7,b8,b9,c0,c1,c2,c3,c4,c5,c6,c7,c8,c9,d0,d1,d2,d3,d4,d5,d6,d7,d8,d9,e0,e1,e2,e3,e4,e5,e6,e7,e8,.agg a,.agg i,.agg j,.slice (some ⟨g,0,none⟩) n c,.int .i64 (k:Int),.pointer (some ⟨g,k,none⟩),f3,f2,e9,f0],defers:=[]}) (.pointer (some ⟨g,k,none⟩)) (by rfl) (fun w d=>by go_simp) (by kernel_rfl) ?_;refine AM ({tmps:=#[p,q,D,.pointer (some ⟨l,0,none⟩),.pointer (some ⟨m,0,none⟩),.pointer (some ⟨o,0,none⟩),x6,x7,.slice (some ⟨g,0,none⟩) n c,.int .i64 (k:Int),f1,r,s,u,v,x,y,z,A,B,E,F,G,H,I,J,K,L,M,N,O,P,Q,S,T,U,V,X,Y,Z,a0,a1,a2,a3,a4,a5,a6,a7,a8,a9,b3,b4,b5,b6,b7,b8,b9,c0,c1,c2,c3,c4,c5,c6,c7,c8,c9,d0,d1,d2,d3,d4,d5,d6,d7,d8,d9,e0,e1,e2,e3,e4,e5,e6,e7,e8,.agg a,.agg i,.agg j,.slice (some ⟨g,0,none⟩) n c,.int .i64 (k:Int),.pointer (some ⟨g,k,none⟩),.string t,f2,e9,f0],defers:=[]}) (.string t) (by rfl) (fun w d=>by have q0:=(HS.o w d).2.2.2.1;go_simp) (by kernel_rfl) ?_;refine DK ({tmps:=#[p,q,D,.pointer (some ⟨l,0,none⟩),.pointer (some ⟨m,0,none⟩),.pointer (some ⟨o,0,none⟩),x6,x7,.slice (some ⟨g,0,none⟩) n c,.int .i64 (k:Int),f1,r,s,u,v,x,y,z,A,B,E,F,G,H,I,J,K,L,M,N,O,P,Q,S,T,U,V,X,Y,Z,a0,a1,a2,a3,a4,a5,a6,a7,a8,a9,b3,b4,b5,b6,b7,b8,b9,c0,c1,c2,c3,c4,c5,c6,c7,c8,c9,d0,d1,d2,d3,d4,d5,d6,d7,d8,d9,e0,e1,e2,e3,e4,e5,e6,e7,e8,.agg a,.agg i,.agg j,.slice (some ⟨g,0,none⟩) n c,.int .i64 (k:Int),.pointer (some ⟨g,k,none⟩),.string t,.bool true,e9,f0],defers:=[]}) (.bool true) (f:=35) (args:=#[.agg a,.agg i,.agg j,.string t]) (by rfl) (fun w d=>by go_simp) (fun w d=>(HE.o w d).mono fun e b h=>⟨h.1,d.trans h.2⟩) (by kernel_rfl) ?_;refine AM ({tmps:=#[p,q,D,.pointer (some ⟨l,0,none⟩),.pointer (some ⟨m,0,none⟩),.pointer (some ⟨o,0,none⟩),x6,x7,.slice (some ⟨g,0,none⟩) n c,.int .i64 (k:Int),.bool true,r,s,u,v,x,y,z,A,B,E,F,G,H,I,J,K,L,M,N,O,P,Q,S,T,U,V,X,Y,Z,a0,a1,a2,a3,a4,a5,a6,a7,a8,a9,b3,b4,b5,b6,b7,b8,b9,c0,c1,c2,c3,c4,c5,c6,c7,c8,c9,d0,d1,d2,d3,d4,d5,d6,d7,d8,d9,e0,e1,e2,e3,e4,e5,e6,e7,e8,.agg a,.agg i,.agg j,.slice (some ⟨g,0,none⟩) n c,.int .i64 (k:Int),.pointer (some ⟨g,k,none⟩),.string t,.bool true,e9,f0],defers:=[]}) (.bool true) (by rfl) (fun w d=>by go_simp) (by kernel_rfl) ?_;refine wpQuiet_nil ?_;intro b f9;exact HQ.o b f9
structure Z3(T:Tb)(xs:List (Sm×Nat))(pl:Nat)(x:Sm×Nat):Prop where
 h0:x.1.kind=0→FY (FD T x.1.aW x.1.p) (EX x.2 0)=true
 h1:x.1.kind=1→FY (FD T x.1.aW x.1.p) (GD x.1.aW x.1.q)=true
 h2:x.1.kind=2→FY (FD T x.1.aW x.1.p) (Yu x.1.g)=true
 h3:x.1.kind=3→Fj (FD T x.1.aW x.1.q) (FD T x.1.aW x.1.p)=true
 h7:x.1.kind=7→Ww T xs x.1 x.1.g
 hq:x.1.kind=4∨x.1.kind=5∨x.1.kind=8→∀t,t∈FD T x.1.aW x.1.q→ZM T xs pl x t
 hp:x.1.kind=6→∀t,t∈FD T x.1.aW x.1.p→ZM T xs pl x t
 bG:x.2≤300
theorem PP(Y:List Value)(U S:Value)(T:Tb)(sv:Value)(j:List (Sm×Nat))(B:ByteArray)(m v:Nat)(x:Sm×Nat)(av:Value)(w:World)(h:Lw w Y U S T sv j)(A:x.1.In)(a0:BT 0 w av x.1.args)(b8:m≤300)(hH:Z3 T j m x):
 Calls Tryz.prog 12 #[.agg (Fv Y U S),.agg (Vs B sv m v),.agg (K6 x av)] w fun e p=>e=.returned (.bool true)∧Ab (fun _=>False) w p:=by
 obtain ⟨E,al,G,rfl⟩:=Ad a0;have a9:=Aq a0;subst a9;obtain ⟨I,J,rfl⟩:=h.st.form;have u:=Aa h;have HX:=Aa A;have HA:=Aa a0;have C:=Aa hH;have H:=A.aW;have hp:=A.p;have hq:=A.q;have hg:=A.g;have c1:=A.ok.kind;have a9:=A.ok.args;have b9:=h.bA;have c4:=hH.bG;have a8:=h.ss.size;clear h A a0 hH;unfold Vs;obtain ⟨K,a7⟩:∃c,Fv Y U S=c:=⟨_,rfl⟩;rw [a7] at a8⊢;have Q:=Aa a7;clear a7;have n:=Aa (CB.new w K #[.string B,.slice I j.length J,.int .i64 m,.int .i64 v] (K6 x (.slice E x.1.args.length G)));go_enter Tryz.func12,Tryz.ntmps12;go_upto_region 1 with fail;generalize ((w.alloc (.cells K 33)).alloc (.cells #[.string B,.slice I j.length J,.int .i64 m,.int .i64 v] 25)).alloc (.cells (K6 x (.slice E x.1.args.length G)) 39)=W at n⊢;have c0:=n.o.b2.cell 0;have c2:=n.o.b2.cell 2;have l0:=Ae n.o.b0;have l1:=Ae n.o.b1;have X:=Ae n.o.b2;simp only [dM,dJ,dK] at c0 c2;obtain ⟨a1,d1,g1,s1⟩:=(u.o.ss.i9 n.o.o).var H hp;have q1:=n.o.b0.cell (x.1.aW*4+x.1.p);rw [←Q.o,g1] at q1;have G1:=Aa g1;clear g1 s1;go_quiet (fail);have a:=Aa (n.o.go ((Ab.refl _ W).drewN nq));generalize W.drewN nq=Z at a⊢;clear n c0 c2 l0 l1 X q1;have S1:=Aa ((u.o.ss.i9 a.o.o).at_ H hp G1.o);have l0:=Ae a.o.b0;have l1:=Ae a.o.b1;have X:=Ae a.o.b2;have x0:=a.o.b2.cell 0;have x1:=a.o.b2.cell 1;have x2:=a.o.b2.cell 2;have x3:=a.o.b2.cell 3;have x4:=a.o.b2.cell 4;have x5:=a.o.b2.cell 5;have x6:=a.o.b2.cell 6;have x7:=a.o.b2.cell 7;simp only [dM,dJ,dK] at x0 x1 x2 x3 x4 x5 x6 x7;by_cases L:x.1.kind=0
 ·have t0:((x.1.kind:Int)==0)=true:=by simp [L]
  have z:=C.o.h0 L;obtain ⟨D,hD⟩:∃d,JR x.2=d:=⟨_,rfl⟩;have z1:=FP x.2 (by omega);have b1:EX x.2 0=D++{data:=#[46,48]}:=by unfold EX;rw [hD];apply ByteArray.ext;apply Array.ext';simp [JR,Lib.decDigits]
  rw [b1] at z;rw [hD] at z1;have HD:=Aa hD;have r:=Aa z;clear hD b1 z L;go_wp2_with fail;refine (FQ x.2 (by omega) _).mono ?_;rw [HD.o];rintro e w2 ⟨rfl,b6⟩;have f:=Aa (a.o.go b6);go_wp2_with (go_at_call 22;refine (Fs 0 _ _ _ _ ((u.o.ss.i9 f.o.o).at_ H hp G1.o)).mono ?_;rw [r.o];rintro e p ⟨rfl,b⟩;have b:=b.symm;subst b);go_ret;exact ⟨rfl,f.o.o⟩
 have t0:((x.1.kind:Int)==0)=false:=by simp;omega
 by_cases M:x.1.kind=1
 ·have t1:((x.1.kind:Int)==1)=true:=by simp [M]
  have r:=Aa (C.o.h1 M);clear M;go_wp2_with (first
   | (go_at_call 33;refine (SZ x.1.aW x.1.q H hq _).mono ?_;rintro e p ⟨rfl,b⟩;have b:=b.symm;subst b)
   | (go_at_call 22;refine (Fs 0 _ _ _ _ S1.o).mono ?_;rw [r.o];rintro e p ⟨rfl,b⟩;have b:=b.symm;subst b))
  go_ret;exact ⟨rfl,a.o.o⟩
 have t1:((x.1.kind:Int)==1)=false:=by simp;omega
 by_cases N:x.1.kind=2
 ·have t2:((x.1.kind:Int)==2)=true:=by simp [N]
  have z:=C.o.h2 N;unfold Yu at z;have z1:=Ia x.1.g;obtain ⟨F,hF⟩:∃d,Kz x.1.g=d:=⟨_,rfl⟩;rw [hF] at z z1;have HF:=Aa hF;have r:=Aa z;clear hF z N;go_wp2_with (first
   | (go_at_call 26;refine (Gm x.1.g hg _).mono ?_;rw [HF.o];rintro e p ⟨rfl,b⟩;have b:=b.symm;subst b)
   | (go_at_call 22;refine (Fs 0 _ _ _ _ S1.o).mono ?_;rw [r.o];rintro e p ⟨rfl,b⟩;have b:=b.symm;subst b))
  go_ret;exact ⟨rfl,a.o.o⟩
 have t2:((x.1.kind:Int)==2)=false:=by simp;omega
 obtain ⟨a3,d3,g3,s3⟩:=(u.o.ss.i9 a.o.o).var H hq;have q3:=a.o.b0.cell (x.1.aW*4+x.1.q);rw [←Q.o,g3] at q3;have G3:=Aa g3;have S3:=Aa s3;clear g3 s3;by_cases O:x.1.kind=3
 ·have t3:((x.1.kind:Int)==3)=true:=by simp [O]
  have r:=Aa (C.o.h3 O);clear O;go_wp2_with fail;go_quiet ((go_at_call 18;exact Calls.quiet_of_same (Ev 0 _ _ _ _ _ (Ac S3.o ((Ab.refl _ _).drewN _) (fun _ _ q=>q)) (Ac S1.o ((Ab.refl _ _).drewN _) (fun _ _ q=>q)))));rw [r.o];have f:=Aa (a.o.go ((Ab.refl _ Z).drewN nq));generalize Z.drewN nq=w2 at f⊢;go_wp2_with fail;go_ret;exact ⟨rfl,f.o.o⟩
 have t3:((x.1.kind:Int)==3)=false:=by simp;omega
 by_cases P:x.1.kind=7
 ·have t7:((x.1.kind:Int)==7)=true:=by simp [P]
  have r:=Aa (C.o.h7 P);clear P;have p0:=a.o.b1.cell 0;have p1:=a.o.b1.cell 1;have p2:=a.o.b1.cell 2;have p3:=a.o.b1.cell 3;simp only [dM,dJ,dK] at p0 p1 p2 p3;go_wp2_with (refine J7 rfl (.tmp 3) rfl w.heap.size rfl K a8 a.o.b0 ?_);rw [←Q.o];refine (Jr Y U S T (.slice I j.length J) j B m v x (.slice E x.1.args.length G) x.1.g Z (u.o.i9 a.o.o) HX.o (Ac HA.o a.o.o (fun _ _ q=>q)) hg r.o).mono ?_;rw [Q.o];rintro e w4 ⟨rfl,b7⟩;have a4:=Aa (a.o.go b7);go_wp2_with fail;go_ret;exact ⟨rfl,a4.o.o⟩
 have t7:((x.1.kind:Int)==7)=false:=by simp;omega
 by_cases R:x.1.kind=9
 ·have t9:((x.1.kind:Int)==9)=true:=by simp [R]
  clear R;go_wp2_with fail;go_ret;exact ⟨rfl,a.o.o⟩
 have t9:((x.1.kind:Int)==9)=false:=by simp;omega
 have a2:x.1.kind=4∨x.1.kind=5∨x.1.kind=6∨x.1.kind=8:=by omega
 have b5:=Aa a2;go_upto_region 15 with fail;go_quiet (fail);have f:=Aa (a.o.go ((Ab.refl _ Z).drewN nq));generalize Z.drewN nq=w2 at f⊢;clear a S1 S3 l0 l1 X x0 x1 x2 x3 x4 x5 x6 x7 q3;have X:=Ae f.o.b2;have x1:=f.o.b2.cell 1;simp only [dM,dJ,dK] at x1;go_upto_if 78 with fail;go_cut [8] (fun o wx=>∃(oa:Option Addr) (l:List ByteArray) (oc:Nat),o=.slice oa l.length oc∧dN (∀W',Ab (fun _=>False) w W'→Au 0 W' (.slice oa l.length oc) l)∧dN (∀t,t∈l→ZM T j m x t)∧dN (CB w K #[.string B,.slice I j.length J,.int .i64 m,.int .i64 v] (K6 x (.slice E x.1.args.length G)) wx))
 case first=>
  by_cases e6:x.1.kind=6
  ·have t6:((x.1.kind:Int)==6)=true:=by simp [e6]
   have a5:=Aa (C.o.hp e6);clear e6 a2 L M N O P R;go_wp2_with fail;go_meet
   case rel=>exact ⟨a1,FD T x.1.aW x.1.p,d1,rfl,fun W' a6=>(u.o.ss.i9 a6).at_ H hp G1.o,a5,f⟩
  ·have t6:((x.1.kind:Int)==6)=false:=by simp;omega
   have a5:=Aa (C.o.hq (by omega));clear e6 a2 L M N O P R;go_wp2_with fail;go_meet
   case rel=>exact ⟨a3,FD T x.1.aW x.1.q,d3,rfl,fun W' a6=>(u.o.ss.i9 a6).at_ H hq G3.o,a5,f⟩
 case rest=>
  obtain ⟨oa,l,oc,rfl,HO,b3,s⟩:=hcut;clear f X x1 G1 G3 a2 L M N O P R t0 t1 t2 t3 t7 t9;have c3:=Qb (HO.o w (Ab.refl _ _));go_wp2_with fail;go_loopw [9] (fun i wr=>∃(k:Nat),k≤l.length∧i=.int .i64 k∧dN (CB w K #[.string B,.slice I j.length J,.int .i64 m,.int .i64 v] (K6 x (.slice E x.1.args.length G)) wr)) (fun i _=>l.length-(intOf i).toNat)
  case atStart=>exact ⟨0,by omega,rfl,s⟩
  case round=>
   clear s;obtain ⟨k,hk,rfl,s⟩:=hrel;by_cases b2:k<l.length
   ·have tk:decide ((k:Int)<(l.length:Int))=true:=by simp;omega
    have hO:=HO.o w (Ab.refl _ _);obtain ⟨g,rfl⟩:=AA hO (by omega);have lg:=(hO.lt g rfl).2;have b0:=Gv hO k b2;have b4:=Aa (b3.o l[k] (List.getElem_mem _));clear hO;go_upto_region 21 with fail;refine M7 ?_;refine Tu _ w.heap.size (w.heap.size+1) (w.heap.size+1+1) g k l.length oc K #[.string B,.slice I j.length J,.int .i64 m,.int .i64 v] (K6 x (.slice E x.1.args.length G)) l[k] wr a8 rfl rfl b2 (fun p V=>?_) (fun p V=>?_) ?_
    ·have y:=s.o.go V;exact ⟨y.b0,y.b1,y.b2,(World.cell?_of_block (y.o.block g lg (fun q=>q))).trans b0,Nat.lt_of_lt_of_le lg y.o.size⟩
    ·have y:=s.o.go V;have:=Sw Y U S T (.slice I j.length J) j B m v x (.slice E x.1.args.length G) l[k] p (u.o.i9 y.o) HX.o (Ac HA.o y.o (fun _ _ q=>q)) b8 b5.o b4.o;rw [Q.o] at this;exact this
    ·intro p V;have a4:=Aa (s.o.go V);clear s lg b0;go_wp2_with fail;go_roundw
     case rel=>exact ⟨k+1,by omega,by go_num,a4⟩
     case measure=>simp [intOf];omega
   ·have tk:decide ((k:Int)<(l.length:Int))=false:=by simp;omega
    go_wp2_with fail;go_ret;exact ⟨rfl,s.o.o⟩
theorem XD{t u:Nat}(h:ON t=ON u):t=u:=by have e:(CD t).1=(CD u).1:=congrArg Tg.kind h;have f:(CD t).2.1=(CD u).2.1:=congrArg Tg.aV h;have g:(CD t).2.2=(CD u).2.2:=congrArg Tg.aX h;unfold CD at e f g;by_cases i:t<144<;>by_cases k:t<156<;>by_cases l:u<144<;>by_cases m:u<156<;>simp only [i,k,l,m,if_true,if_false] at e f g<;>omega
section
variable {b : List Sm} {P : List PFn} (M : MadeP (fsOf b) 0 0 P) {j a d : Nat} (N : NmP P) (Y : AnHy P j a d)
include M
theorem Yg{f v:Nat}(e:f<4)(g:v<4):EM P a (vN f v):=.inl (.inl ⟨f,v,by rw [Ip M];exact e,by rw [(Fu M e).2.1];exact g,rfl⟩)
theorem ZG{g:Nat}(e:g<4):EM P a (fN g):=.inr ⟨g,by rw [Ip M];exact e,rfl⟩
include N Y
theorem Gy{t u:Nat}(h:EM P a t)(i:EM P a u)(e:EF P t=EF P u):t=u:=by
 have f:P.length≤12:=by rw [Ip M];omega
 have g:=Y.ok.ok.l8;have k:=Qz f g Y.pn h;have l:=Qz f g Y.pn i;exact XD (XE N k l (YJ e))
variable {T : Tb} (B : TbP P a d T) (c : T.V.length = 16)
include B c
end
section
variable {b : List Sm} {P : List PFn} (M : MadeP (fsOf b) 0 0 P) {j d g : Nat} (N : NmP P) (Y : AnHy P j d g) {T : Tb} (B : TbP P d g T) (a : T.V.length = 16) (c : ∀ s, s ∈ b → s.In)
include c
include M B a
theorem No{x:Sm}(e:x.In){r:Rl}{f:Nat}(k:f<4)(l:r.f=x.aW)(z:r.s.aQ=x.p)(q:r.s.args=x.args)(h:DY P r f (least P)):Ww T (Ch (Cd b) 0 0) x f:=by
 refine ⟨fun i t=>?_,fun y m u s=>?_⟩
 ·have:=h.1 i x.args[i] (by rw [q];exact List.getElem?_eq_getElem t);rw [l] at this;have C:=e.ok.args;exact OT B a e.aW (e.a4 _ (List.getElem_mem _)) k (by omega) this
 ·obtain ⟨o,w,p,n⟩:=L3 M m;have A:=Qa c (Ga m).1;have v:o.s.kind=10:=by rw [n.kd,u];rfl
  have:=h.2 (vN f y.1.q) ⟨o.s,by rw [←s,←p];exact w.2,v,by rw [n.sr (by omega)]⟩;unfold Rl.tg at this;rw [l,z] at this;exact OT B a k A.q e.aW e.p this
include N Y
theorem Vb{x:Sm×Nat}(W:x∈Ch (Cd b) 0 0)(a3:(Cd b).length≤240):Z3 T (Ch (Cd b) 0 0) d x:=by
 obtain ⟨r,D,I,m⟩:=L3 M W;obtain ⟨a1,a4,V⟩:=Ga W;have l:=Qa c a1;have C:=CU P;have hl:=Ip M;have z:x.1.kind≤8→r.tg=vN x.1.aW x.1.p:=fun q=>by unfold Rl.tg;rw [I,m.tg q]
 have H:x.1.kind=1∨x.1.kind=3∨x.1.kind=4∨x.1.kind=5∨x.1.kind=6∨x.1.kind=8∨9≤x.1.kind→r.sr=vN x.1.aW x.1.q:=fun q=>by unfold Rl.sr;rw [I,m.sr q]
 have w:∀k,x.1.kind=k→r.s.kind=kM k:=fun k q=>by rw [m.kd,q]
 have S:∀u,(∃t,(least P).I t u)→EM P d u:=fun u ⟨t,h⟩=>(Im Y.ok h).2
 refine ⟨fun q=>?_,fun q=>?_,fun q=>?_,fun q=>?_,fun q=>?_,fun q t Q=>?_,fun q t Q=>?_,by omega⟩
 ·have p:=(C.beg r D).1 (w 0 q);rw [z (by omega),m.nm (.inl q)] at p;rw [←OQ (P:=P) (V (.inl q)) (by omega)];exact RP B a l.aW l.p p
 ·have p:=(C.beg r D).2.1 (w 1 q);rw [z (by omega),H (by omega)] at p;rw [←Wg M l.aW l.q];exact RP B a l.aW l.p p
 ·have p:=(C.beg r D).2.2.1 (w 2 q);rw [z (by omega),m.sf (.inl q)] at p;rw [←Yh M l.g];exact RP B a l.aW l.p p
 ·have p:=(C.beg r D).2.2.2.1 (w 3 q);rw [z (by omega),H (by omega)] at p;exact OT B a l.aW l.q l.aW l.p p
 ·have p:=(C.beg r D).2.2.2.2 (w 7 q);rw [m.sf (.inr q)] at p;exact No M B a c l l.g I (m.tg (by omega)) (m.ar (.inl q)) p
 ·obtain ⟨u,E,rfl⟩:=(QB B a l.aW l.q).1 Q;have F:=S u ⟨_,E⟩;rw [←H (by omega)] at E;have a2:r.s.kind≠9:=by rcases q with q | q | q<;>rw [w _ q]<;>decide
  have K:r.at=r.sr:=by unfold Rl.at;rw [if_neg a2]
  have a0:A2 r:=by unfold A2;rcases q with q | q | q<;>rw [w _ q]<;>decide
  have A:=C.fol r u D a0 (by rw [K];exact E);refine ⟨fun k n p Z e=>?_,fun k f v s G e=>?_,fun k i L e=>?_,fun k=>by omega,fun k=>by omega,fun k f s e ha=>?_,fun k=>⟨V (.inr k),by omega⟩⟩
  ·rw [←OQ (P:=P) p (by omega)] at e;have y:=Gy M N Y F (We p Z (by omega)) e;subst y;have o:=A.1 (w 4 k) (by unfold pN;omega) (by unfold pN;omega);rw [z (by omega),m.fd k] at o;rw [←OQ (P:=P) p l.ok.k];have X:pN n 0+x.1.k=pN n x.1.k:=by unfold pN;omega
   rw [X] at o;exact RP B a l.aW l.p o
  ·rw [←Wg M s G] at e;have y:=Gy M N Y F (Yg M s G) e;subst y;have o:=A.2.1 (w 5 k) (.inl (by unfold vN;omega));rw [z (by omega)] at o;exact OT B a s G l.aW l.p o
  ·have O:i / 4+1≤d:=by have:=B.fl;omega
   rw [←OQ (P:=P) (by omega) (by omega)] at e;have y:=Gy M N Y F (We (by omega) O (by omega)) e;subst y;have o:=A.2.1 (w 5 k) (.inr (by unfold pN;omega));rw [z (by omega)] at o;exact Zl B a L l.aW l.p o
  ·rw [←Yh M s] at e;have y:=Gy M N Y F (ZG M s) e;subst y;have R:fN f-144=f:=by unfold fN;omega
   have o:=A.2.2.2 (w 8 k) (by unfold YF fN;omega) (by rw [R,(Fu M s).2.2,m.ar (.inr k)];exact ha);rw [R,m.nm (.inr k)] at o;obtain ⟨⟨g1,g2⟩,_⟩:=MN Y.ok o.1;have U:x.2-1<T.E.length:=by rw [B.el];omega
   refine ⟨No M B a c l s I (m.tg (by omega)) (m.ar (.inr k)) o.2,U,Ih.2 ?_⟩;refine (B.e _ U).aY.2 ⟨f,?_,?_⟩
   ·rw [show x.2-1+1=x.2 by omega];exact o.1
   ·unfold Ex;rw [(Fu M s).1]
 ·obtain ⟨u,E,rfl⟩:=(QB B a l.aW l.p).1 Q;have F:=S u ⟨_,E⟩;rw [←z (by omega)] at E;have J:r.s.kind=9:=w 6 q;have K:r.at=r.tg:=by unfold Rl.at;rw [if_pos J]
  have A:=C.fol r u D (.inr (.inr (.inr J))) (by rw [K];exact E);refine ⟨fun k=>by omega,fun k=>by omega,fun k=>by omega,fun _ f v s G e=>?_,fun _ i L e=>?_,fun k=>by omega,fun k=>by omega⟩
  ·rw [←Wg M s G] at e;have y:=Gy M N Y F (Yg M s G) e;subst y;have o:=A.2.2.1 J (.inl (by unfold vN;omega));rw [H (by omega)] at o;exact OT B a l.aW l.q s G o
  ·have O:i / 4+1≤d:=by have:=B.fl;omega
   rw [←OQ (P:=P) (by omega) (by omega)] at e;have y:=Gy M N Y F (We (by omega) O (by omega)) e;subst y;have o:=A.2.2.1 J (.inr (by unfold pN;omega));rw [H (by omega)] at o;exact ZK B a L l.aW l.q o
end
theorem Xf{f:Oper}{a:Act}{w:World}{e:TypeId}(_:f.guard=none)(x:Operand)(k:f.op=.load e x)(b o:Nat)(p:a.eval x=.pointer (some ⟨b,o,none⟩))(c:Array Value)(l:∃d,Tryz.prog.underlying e=some d∧d.isRow=true)(n:Nat)(j:(Tryz.prog.info? e).map (·.size)=some n)(q:c.size=n)(g:w.rangeAt b o c.toList):
 (execOp a.eval f).run Tryz.prog w=.ok (.value (.agg c)) w:=by
 obtain ⟨d,m,i⟩:=l;have h:=run_loadVar_mid (P:=Tryz.prog) w b o e c.toList d g m i (by rw [j];simp [q]);unfold execOp;simp only [k,p,Instr.loadAt,Instr.sureAddr,Sem.run_bind,Sem.run_pure,Result.andThen_ok,h]
theorem VG(R:Act→World→Prop)(a j g k n c m l:Nat)(o:ByteArray)(b O:Array Value)(W:World){p q D L P M N r s t u v x y z A B E F G H I a4 a0 Y X U T S Q J K:Value}
 (hz:b.size=18)(a2:O.size=8)(hk:k<n)(hS:∀i,Ab (fun _=>False) W i→Ak j b 33 i∧Ak a #[.string o,.slice (some ⟨g,0,none⟩) n c,.int .i64 m,.int .i64 l] 25 i∧i.cell? ⟨a,1,none⟩=some (.slice (some ⟨g,0,none⟩) n c)∧i.rangeAt g (k*8) O.toList)
 (Z:∀i,Ab (fun _=>False) W i→Calls Tryz.prog 12 #[.agg b,.agg #[.string o,.slice (some ⟨g,0,none⟩) n c,.int .i64 m,.int .i64 l],.agg O] i fun e a3=>e=.returned (.bool true)∧Ab (fun _=>False) i a3)
 (hQ:∀i,Ab (fun _=>False) W i→R {tmps:=#[p,q,D,.pointer (some ⟨a,0,none⟩),L,.pointer (some ⟨j,0,none⟩),.bool true,.int .i64 (k:Int),M,N,r,s,t,u,v,x,y,z,A,B,E,F,G,H,I,.agg b,.agg #[.string o,.slice (some ⟨g,0,none⟩) n c,.int .i64 m,.int .i64 l],.pointer (some ⟨a,1,none⟩),.slice (some ⟨g,0,none⟩) n c,.int .i64 (k:Int),.pointer (some ⟨g,k*8,none⟩),.agg O,.bool true,J,K],defers:=[]} i):
 Code.wp Tryz.prog (.region 8 #[⟨some 25,.load 33 (.tmp 5),33, "keeps.go:180",#[],none⟩,⟨some 26,.load 25 (.tmp 3),25, "keeps.go:180",#[],none⟩,⟨some 27,.fieldAddr 25 (.tmp 3) 1,0, "keeps.go:180",#[],none⟩,⟨some 28,.load 23 (.tmp 27),23, "keeps.go:180",#[⟨2,.data⟩],none⟩,⟨some 29,.move (.tmp 7),3, "keeps.go:180",#[],none⟩,⟨some 30,.indexAddr 23 (.tmp 28) (.tmp 29),0, "keeps.go:180",#[⟨3,.data⟩,⟨4,.data⟩],none⟩,⟨some 31,.load 39 (.tmp 30),39, "keeps.go:180",#[⟨5,.data⟩],none⟩,⟨some 32,.call ⟨.value (.func 12),#[.tmp 25,.tmp 26,.tmp 31],#[33,25,39]⟩,4, "keeps.go:180",#[⟨0,.data⟩,⟨1,.data⟩,⟨6,.data⟩],none⟩,⟨some 6,.assign (.tmp 32),4, "keeps.go:180",#[⟨7,.data⟩,⟨7,.chain⟩,⟨0,.phase⟩,⟨1,.phase⟩,⟨2,.phase⟩,⟨3,.phase⟩,⟨4,.phase⟩,⟨5,.phase⟩,⟨6,.phase⟩,⟨7,.phase⟩],none⟩] true) (Zw R) {tmps:=#[p,q,D,.pointer (some ⟨a,0,none⟩),L,.pointer (some ⟨j,0,none⟩),P,.int .i64 (k:Int),M,N,r,s,t,u,v,x,y,z,A,B,E,F,G,H,I,a4,a0,Y,X,U,T,S,Q,J,K],defers:=[]} W:=by
 have V:=Aa hS;have HE:=Aa Z;have HQ:=Aa hQ;clear hS Z hQ;refine Fl (C:=Ab (fun _=>False) W) (by kernel_rfl) (by kernel_rfl) ((Ab.refl _ W).drew) ?_;refine AM ({tmps:=#[p,q,D,.pointer (some ⟨a,0,none⟩),L,.pointer (some ⟨j,0,none⟩),P,.int .i64 (k:Int),M,N,r,s,t,u,v,x,y,z,A,B,E,F,G,H,I,.agg b,a0,Y,X,U,T,S,Q,J,K],defers:=[]}) (.agg b) (by rfl) (fun w d=>Ja rfl _ rfl j rfl b Tryz.rowSets 18 Tryz.infoSets hz (V.o w d).1) (by kernel_rfl) ?_;refine AM ({tmps:=#[p,q,D,.pointer (some ⟨a,0,none⟩),L,.pointer (some ⟨j,0,none⟩),P,.int .i64 (k:Int),M,N,r,s,t,u,v,x,y,z,A,B,E,F,G,H,I,.agg b,.agg #[.string o,.slice (some ⟨g,0,none⟩) n c,.int .i64 m,.int .i64 l],Y,X,U,T,S,Q,J,K],defers:=[]}) (.agg #[.string o,.slice (some ⟨g,0,none⟩) n c,.int .i64 m,.int .i64 l]) (by rfl) (fun w d=>Ja rfl _ rfl a rfl _ Tryz.rowProg 4 Tryz.infoProg rfl (V.o w d).2.1) (by kernel_rfl) ?_;refine AM ({tmps:=#[p,q,D,.pointer (some ⟨a,0,none⟩),L,.pointer (some ⟨j,0,none⟩),P,.int .i64 (k:Int),M,N,r,s,t,u,v,x,y,z,A,B,E,F,G,H,I,.agg b,.agg #[.string o,.slice (some ⟨g,0,none⟩) n c,.int .i64 m,.int .i64 l],.pointer (some ⟨a,1,none⟩),X,U,T,S,Q,J,K],defers:=[]}) (.pointer (some ⟨a,1,none⟩)) (by rfl) (fun w d=>by go_simp) (by kernel_rfl) ?_;refine AM ({tmps:=#[p,q,D,.pointer (some ⟨a,0,none⟩),L,.pointer (some ⟨j,0,none⟩),P,.int .i64 (k:Int),M,N,r,s,t,u,v,x,y,z,A,B,E,F,G,H,I,.agg b,.agg #[.string o,.slice (some ⟨g,0,none⟩) n c,.int .i64 m,.int .i64 l],.pointer (some ⟨a,1,none⟩),.slice (some ⟨g,0,none⟩) n c,U,T,S,Q,J,K],defers:=[]}) (.slice (some ⟨g,0,none⟩) n c) (by rfl) (fun w d=>by have q0:=(V.o w d).2.2.1;go_simp) (by kernel_rfl) ?_;refine AM ({tmps:=#[p,q,D,.pointer (some ⟨a,0,none⟩),L,.pointer (some ⟨j,0,none⟩),P,.int .i64 (k:Int),M,N,r,s,t,u,v,x,y,z,A,B,E,F,G,H,I,.agg b,.agg #[.string o,.slice (some ⟨g,0,none⟩) n c,.int .i64 m,.int .i64 l],.pointer (some ⟨a,1,none⟩),.slice (some ⟨g,0,none⟩) n c,.int .i64 (k:Int),T,S,Q,J,K],defers:=[]}) (.int .i64 (k:Int)) (by rfl) (fun w d=>by go_simp) (by kernel_rfl) ?_;refine AM ({tmps:=#[p,q,D,.pointer (some ⟨a,0,none⟩),L,.pointer (some ⟨j,0,none⟩),P,.int .i64 (k:Int),M,N,r,s,t,u,v,x,y,z,A,B,E,F,G,H,I,.agg b,.agg #[.string o,.slice (some ⟨g,0,none⟩) n c,.int .i64 m,.int .i64 l],.pointer (some ⟨a,1,none⟩),.slice (some ⟨g,0,none⟩) n c,.int .i64 (k:Int),.pointer (some ⟨g,k*8,none⟩),S,Q,J,K],defers:=[]}) (.pointer (some ⟨g,k*8,none⟩)) (by rfl) (fun w d=>by go_simp) (by kernel_rfl) ?_;refine AM ({tmps:=#[p,q,D,.pointer (some ⟨a,0,none⟩),L,.pointer (some ⟨j,0,none⟩),P,.int .i64 (k:Int),M,N,r,s,t,u,v,x,y,z,A,B,E,F,G,H,I,.agg b,.agg #[.string o,.slice (some ⟨g,0,none⟩) n c,.int .i64 m,.int .i64 l],.pointer (some ⟨a,1,none⟩),.slice (some ⟨g,0,none⟩) n c,.int .i64 (k:Int),.pointer (some ⟨g,k*8,none⟩),.agg O,Q,J,K],defers:=[]}) (.agg O) (by rfl) (fun w d=>Xf rfl _ rfl g (k*8) rfl O Tryz.rowStmt 8 Tryz.infoStmt a2 (V.o w d).2.2.2) (by kernel_rfl) ?_;refine DK ({tmps:=#[p,q,D,.pointer (some ⟨a,0,none⟩),L,.pointer (some ⟨j,0,none⟩),P,.int .i64 (k:Int),M,N,r,s,t,u,v,x,y,z,A,B,E,F,G,H,I,.agg b,.agg #[.string o,.slice (some ⟨g,0,none⟩) n c,.int .i64 m,.int .i64 l],.pointer (some ⟨a,1,none⟩),.slice (some ⟨g,0,none⟩) n c,.int .i64 (k:Int),.pointer (some ⟨g,k*8,none⟩),.agg O,.bool true,J,K],defers:=[]}) (.bool true) (f:=12) (args:=#[.agg b,.agg #[.string o,.slice (some ⟨g,0,none⟩) n c,.int .i64 m,.int .i64 l],.agg O]) (by rfl) (fun w d=>by go_simp) (fun w d=>(HE.o w d).mono fun e i h=>⟨h.1,d.trans h.2⟩) (by kernel_rfl) ?_;refine AM ({tmps:=#[p,q,D,.pointer (some ⟨a,0,none⟩),L,.pointer (some ⟨j,0,none⟩),.bool true,.int .i64 (k:Int),M,N,r,s,t,u,v,x,y,z,A,B,E,F,G,H,I,.agg b,.agg #[.string o,.slice (some ⟨g,0,none⟩) n c,.int .i64 m,.int .i64 l],.pointer (some ⟨a,1,none⟩),.slice (some ⟨g,0,none⟩) n c,.int .i64 (k:Int),.pointer (some ⟨g,k*8,none⟩),.agg O,.bool true,J,K],defers:=[]}) (.bool true) (by rfl) (fun w d=>by go_simp) (by kernel_rfl) ?_;refine wpQuiet_nil ?_;intro i a1;exact HQ.o i a1
theorem Px(B0:Nat)(c8 w:World)(h:Nf B0 c8 w)(lv:Value)(m:List Ln)(hl:Wy lv m w)(c5:∀l∈m,l.Ok):
 Calls Tryz.prog 3 #[lv] w fun e A=>e=.returned (.bool true)∧Ab (fun _=>False) w A:=by
 obtain ⟨a,a0,rfl,d9,c6⟩:=hl;have d1:dN (Wy (.slice a m.length a0) m w):=⟨a,a0,rfl,d9,c6⟩;have HH:=Aa h;have d4:=Aa c5;clear h c5 c6;go_enter Tryz.func3,Tryz.ntmps3;go_wp2_with fail;refine (Qm (.slice a m.length a0) m w d1.o d4.o).mono ?_;rintro e O ⟨⟨s,sv,rfl,hs,_,t,_,E⟩,o1⟩;have a3:=Zu hs (by omega);have L:=Xk m;rw [RJ] at E⊢;obtain ⟨H,u,rfl⟩:=E.form;rw [Iu] at*;obtain ⟨b,c7⟩:∃x,IC m=x:=⟨_,rfl⟩;rw [c7] at a3 L E⊢;have d7:DS (Cd b)≤(Cd b).length:=List.countP_le_length;have d8:DT (Cd b)≤(Cd b).length:=List.countP_le_length;have h0:DS (Cd b)≤240:=by omega
 have h8:DT (Cd b)≤240:=by omega
 have S:=Aa a3;have W:=Aa (E.base (Nat.zero_le _));have O1:=Aa o1;have e1:=Aa L;obtain ⟨z,a6⟩:∃x,DS (Cd b)=x:=⟨_,rfl⟩;obtain ⟨B,a1⟩:∃x,DT (Cd b)=x:=⟨_,rfl⟩;obtain ⟨d,M⟩:∃x,(Cd b).length=x:=⟨_,rfl⟩;have V:=Aa a6;have R:=Aa a1;have d2:=Aa M;rw [a6] at h0⊢;rw [a1] at h8⊢;rw [M] at L W⊢;have c3:(Ch (Cd b) 0 0).length=d:=by rw [Iu,M]
 have U:=Aa c3;clear c7 E o1 a3 hs d7 d8 a6 a1 M c3 t;have j:=Aa (Ak.new O #[.string s,.slice H d u,.int .i64 z,.int .i64 B] 25);have I:=Aa ((Ab.refl (fun _=>False) O).alloc (.cells #[.string s,.slice H d u,.int .i64 z,.int .i64 B] 25));go_upto_region 2 with fail;generalize O.alloc (.cells #[.string s,.slice H d u,.int .i64 z,.int .i64 B] 25)=w2 at j I⊢;have b7:=Aa (W.o.quiet I.o);have Y:=Aa (O1.o.trans I.o);generalize O.heap.size=b3 at j⊢;clear I W O1;have p0:=j.o.cell 0;have G:=j.o.cell 1;have p2:=j.o.cell 2;have p3:=j.o.cell 3;have lb:=Ae j.o;simp only [dM,dJ,dK] at p0 G p2 p3;go_wp2_with fail;have K:=Aa (My B0 c8 w2 (HH.o.go Y.o) s b S.o (.slice H d u) ⟨_,_,_,rfl⟩ (by rw [V.o];exact h0) (by rw [R.o];exact h8));rw [V.o,R.o] at K;unfold Vs at K;refine K.o.mono ?_;rintro e f ⟨⟨P,mn,rp,vs,fv,ev,T,c2,c4,hy,rfl,D,a8⟩,N⟩;rw [V.o,R.o] at hy a8;have t:=D.size;have a5:=all_oneCell_toArray D.one;have b9:=D.t16;have d0:dN (∀x,x∈Ch (Cd b) 0 0→Z3 T (Ch (Cd b) 0 0) z x):=fun x y=>Vb c2 c4 hy a8 b9 S.o.ok y (by rw [d2.o];exact L)
 have b1:dN (∀x,x∈Ch (Cd b) 0 0→x.1.In):=fun x y=>Qa S.o.ok (Ga y).1
 change (Fv vs fv ev).all _=true at a5;obtain ⟨p,a2⟩:∃x,Fv vs fv ev=x:=⟨_,rfl⟩;rw [a2] at t a5⊢;have c9:=Aa a2;have b4:=Aa D;have B3:=Aa (j.o.O N (fun q=>q));have b8:=Aa (b7.o.quiet N);have O3:=Aa (Y.o.trans N);clear K c2 c4 hy a8 D N j b7 Y p0 G p2 p3 lb a2 b9;have Q:=Aa (Ak.new f IK 33);have n:=Aa ((Ab.refl (fun _=>False) f).alloc (.cells IK 33));go_wp2_with (refine wpList_store_mid rfl 33 (.tmp 5) (.tmp 14) rfl f.heap.size 0 p rfl rfl (IS Q.o (by rw [t];rfl)) (by rw [Tryz.infoSets,t]) a5 ?_);have v:=C9 f.heap.size p.toList 0 (f.alloc (.cells IK 33));have C:Ab (fun _=>False) f ((f.alloc (.cells IK 33)).setCells f.heap.size 0 p.toList):=by refine ⟨v.os.trans n.o.os,v.tape.trans n.o.tape,v.output.trans n.o.output,Nat.le_trans n.o.size v.size,fun k hk _=>?_⟩;rw [v.block k (Nat.lt_of_lt_of_le hk n.o.size) (by omega)];exact n.o.block k hk (fun q=>q)
 have X:=Aa (IR (cs:=p) Q.o (by rw [t];rfl));have J:=Aa (B3.o.O C (fun q=>q));have O4:=Aa (O3.o.trans C);have b6:=Aa (b4.o.i9 C);have Z:=Aa (b8.o.quiet C);clear Q B3 O3 b4 b8 n v C;generalize (f.alloc (.cells IK 33)).setCells f.heap.size 0 p.toList=w4 at X J O4 b6 Z⊢;generalize f.heap.size=b5 at X⊢;go_loopw [6,7] (fun ok i wr=>ok=.bool true∧∃(k:Nat),k≤d∧i=.int .i64 k∧dN (Ab (fun _=>False) w4 wr)) (fun _ i _=>d-(intOf i).toNat)
 case atStart=>exact ⟨rfl,0,by omega,rfl,Ab.refl _ _⟩
 case round=>
  obtain ⟨rfl,k,hk,rfl,o⟩:=hrel;have G:=(J.o.O o.o (fun q=>q)).cell 1;have lb:=Ae (J.o.O o.o (fun q=>q));simp only [dM,dJ,dK] at G;by_cases c1:k<d
  ·have tk:decide ((k:Int)<(d:Int))=true:=by simp;omega
   have c0:k<(Ch (Cd b) 0 0).length:=by rw [U.o];exact c1
   obtain ⟨g,yb,yl,yd,e0,a9,a7⟩:=J2.range (xs:=Ch (Cd b) 0 0) (a:=H) (c:=u) (by rw [U.o];exact Z.o) c0;subst e0;have a4:(Ch (Cd b) 0 0)[k]∈Ch (Cd b) 0 0:=List.getElem_mem _;have b0:=Aa (d0.o _ a4);have b2:=Aa (b1.o _ a4);obtain ⟨x,y⟩:∃x,(Ch (Cd b) 0 0)[k]=x:=⟨_,rfl⟩;rw [y] at a9 a7 b0 b2;have d6:=Aa a9;have d5:=Aa a7;clear a9 a7 a4 y c0;go_upto_region 8 with fail;refine M7 ?_;refine VG _ b3 b5 g k d u z B s p (K6 x (.slice yb yl yd)) wr t rfl c1 (fun A F=>?_) (fun A F=>?_) ?_
   ·have r:=o.o.trans F;have q1:=(J.o.O r (fun q=>q));have q2:=q1.cell 1;simp only [dM,dJ,dK] at q2;exact ⟨X.o.O r (fun q=>q),q1,q2,d5.o A r⟩
   ·have r:=o.o.trans F;have:=PP vs fv ev T (.slice (some ⟨g,0,none⟩) d u) (Ch (Cd b) 0 0) s z B x (.slice yb yl yd) A ⟨b6.o.i9 r,Z.o.quiet r,b1.o,by rw [U.o];omega⟩ b2.o (Ac d6.o r (fun _ _ q=>q)) (by omega) b0.o;rw [c9.o] at this;exact this
   ·intro A F;have d3:=Aa (o.o.trans F);clear o G lb;go_wp2_with fail;go_roundw
    case rel=>exact ⟨rfl,k+1,by omega,by go_num,d3⟩
    case measure=>simp [intOf];omega
  ·have tk:decide ((k:Int)<(d:Int))=false:=by simp;omega
   go_wp2_with fail;go_ret;exact ⟨rfl,O4.o.trans o.o⟩
end Go.Proofs.YtegmjgjkcdbmkaaGreatDoor

/- One of the texts of the proof: MaM MaT. -/
import Derived.Test.YtegmjgjkcdbmkaaGreatDoorS32
set_option maxRecDepth 100000
set_option maxHeartbeats 40000000
namespace Go.Proofs.YtegmjgjkcdbmkaaGreatDoor
open Go.RowKit Go.Maps
abbrev pI(c d b B:Nat)(i:Value)(j k h:Nat)(V:Mc)(g:World)(F:Nat)(a:Array Value):Prop:=
 ∀W,Ab (fun _=>False) g W→Calls Tryz.prog F a W fun e f=>e=.returned (.tuple #[])∧TN c d b B i j k h V f∧FR c d b B W f
theorem mT(d o k B fv t u p P n m f r w)(h:TN d o k B fv t u p m w)(hp:Bh B w fv P)(hP:Ms P)(hi:CB P (n+1) m)(hf:m.bS=f::r)(d6:f.next<(Ap P f.fn).b9.length):
 Calls Tryz.prog 55 #[.pointer (some ⟨d,0,none⟩)] w fun e y=>e=.returned (.tuple #[])∧TN d o k B fv t u p (V5 P m) y∧FR d o k B w y:=by
 obtain ⟨K,cr,r6,i0,k2,lm,f0,f1,f2,f3,f8,i4⟩:=h.frame hf;have d5:=hi.fr f (by rw [hf];simp);have c6:=d5.fn;obtain ⟨D,F,h1,r0,k1,_,_⟩:=iO h hp c6;subst h1;obtain ⟨vv,sv,d4,a3,b3⟩:=hp.get c6;rw [←RC c6] at d4 a3 b3;obtain ⟨sa,sc,rfl,g4⟩:=b3.form;obtain ⟨gs,rfl,k3⟩:=g4 (by omega);have d3:=d4 3 (by decide);simp only [MR,dJ,dK] at d3;obtain ⟨H,Q,b9⟩:=b3.get d6;have N:=hP.ok f.fn c6 _ (rQ d6);have g5:YW (Ap P f.fn).b9 f.next=(Ap P f.fn).b9[f.next]:=by unfold YW;rw [rU d6];rfl
 have s0:=Q 0 (by decide);have s1:=Q 1 (by decide);have s2:=Q 2 (by decide);have s3:=Q 3 (by decide);have s4:=Q 4 (by decide);have s5:=Q 5 (by decide);have s6:=Q 6 (by decide);have s7:=Q 7 (by decide);simp only [Hk,dJ,dK,Nat.add_zero] at s0 s1 s2 s3 s4 s5 s6 s7;have h4:=f8 (r.length*4+2);have h9:=d5.base;have i8:=hi.ml;have j1:=hi.pl;have g0:=hi.bJ;rw [hf] at g0;simp only [rW] at g0;have j8:=hP.many f.fn;have i1:=hP.bA;have j9:=hP.l8 f.fn;obtain ⟨U,al,T,rfl⟩:=Ad b9;have g9:=Aq b9;subst g9;have i5:gs≠K:=by obtain ⟨_,q,_⟩:=b3;obtain ⟨mv,rv,ch,Z⟩:=h;have q6:=Z.s9.cell 6;simp only [jC,dM,dJ,dK] at q6;rw [q6] at r6;have e:=Option.some.inj r6;intro q7;exact iF q Z.e9 (by decide) gs rfl (by rw [e,q7];rfl)
 have i3:D≠K:=by obtain ⟨_,q,_⟩:=hp;obtain ⟨mv,rv,ch,Z⟩:=h;have q6:=Z.s9.cell 6;simp only [jC,dM,dJ,dK] at q6;rw [q6] at r6;have e:=Option.some.inj r6;intro q7;exact iF q Z.e9 (by decide) D rfl (by rw [e,q7];rfl)
 generalize (Ap P f.fn).b9[f.next]=s at*;have a9:∃mv ch,I3 d o k B (.slice (some ⟨D,0,none⟩) P.length F) t u p {m with bS:={f with next:=s.next}::r} mv (.slice (some ⟨K,0,none⟩) (r.length+1) cr) ch (w.setCell ⟨K,r.length*4+2,none⟩ (.int .i64 s.next))∧FR d o k B w (w.setCell ⟨K,r.length*4+2,none⟩ (.int .i64 s.next)):=by obtain ⟨mv,rv,ch,Z⟩:=h;have q6:=Z.s9.cell 6;simp only [jC,dM,dJ,dK] at q6;rw [q6] at r6;have e:=Option.some.inj r6;subst e;exact ⟨_,_,Z.rE hf s.next⟩
 obtain ⟨k4,h7,a9,b7⟩:=a9;have f4:=Aa a9;have e8:dN (TN d o k B (.slice (some ⟨D,0,none⟩) P.length F) t u p {m with bS:={f with next:=s.next}::r} (w.setCell ⟨K,r.length*4+2,none⟩ (.int .i64 s.next))):=⟨_,_,_,a9⟩;have e9:=Aa b7;have f5:=Aa (b7.qY h hp);have d7:=Aa (b7.row h b9 (by decide) (by decide) (by decide));have HI:=Aa hi;have b4:=Aa (hi.next hf N.next);have J:=Aa N;have f7:=Aa g5;have b5:=Aa hP;have a2:=((((Ab.refl (fun _=>False) (w.setCell ⟨K,r.length*4+2,none⟩ (.int .i64 s.next))).alloc (.cells #[.int .i64 s.kind,.int .i64 s.aQ,.int .i64 s.r9,.int .i64 s.field,.int .i64 s.m9,.slice U s.args.length T,.int .i64 s.next,.int .i64 s.taken] 190)).drew).drew).drew;have d1:=Ak.new (w.setCell ⟨K,r.length*4+2,none⟩ (.int .i64 s.next)) #[.int .i64 s.kind,.int .i64 s.aQ,.int .i64 s.r9,.int .i64 s.field,.int .i64 s.m9,.slice U s.args.length T,.int .i64 s.next,.int .i64 s.taken] 190;have g6:(w.setCell ⟨K,r.length*4+2,none⟩ (.int .i64 s.next)).heap.size=w.heap.size:=by simp [World.setCell]
 rw [g6] at d1;have I:=Aa (Ak.O d1 (((((Ab.refl (fun _=>False) _).drew).drew).drew)) (fun q=>q));clear d1 g6;have HF:=Aa hf;have i9:(f.next:Int)<((Ap P f.fn).b9.length:Int):=by omega
 have i2:(f.fn:Int)<(P.length:Int):=by omega
 have j2:=N.t5;have j3:=N.s5;have j4:=N.next;have j5:=N.taken;have j6:=N.m9;have j7:=N.field;have i6:=N.kind;generalize (Ap P f.fn).b9.length=SL at*;generalize b8:(Ap P f.fn).l8.length=VN at*;clear h hp hP hi d4 a3 b3 Q b9 a9 b7 N g5 d5 hf g4 f8;obtain ⟨V,g⟩:∃V,V5 P m=V:=⟨_,rfl⟩;rw [g];unfold V5 at g;rw [HF.o] at g;simp only at g;rw [f7.o] at g;have HV:=Aa g;have c8:=Aa (f4.o.i9 a2);have z:=Aa (e8.o.i9 a2);have a1:=Aa (e9.o.trans (FR.bC a2));have b6:=Aa (f5.o.i9 a2);have f6:=Aa (Ac d7.o a2 (fun _ _ q=>q));clear g a2 e8 e9 f5 d7 f7 HF f4;go_enter Tryz.func55,Tryz.ntmps55;go_wp2_with fail;go_region;go_wp2_with fail;go_region;go_wp2_with fail;go_region;clear r0 r6 f0 f1 f2 f3 s0 s1 s2 s3 s4 s5 s6 s7 d3 h4;generalize ((World.setCell w _ _).alloc _).drew.drew.drew=C at*;as_aux_lemma=>
 have e0:=I.o.cell 0;have e1:=I.o.cell 1;have e2:=I.o.cell 2;have e3:=I.o.cell 3;have e4:=I.o.cell 4;have e5:=I.o.cell 5;have e6:=I.o.cell 6;have e7:=I.o.cell 7;have g8:=Ae I.o;simp only [dM,dJ,dK] at e0 e1 e2 e3 e4 e5 e6 e7;have a0:=HI.o.qU;have b2:=HI.o.aY;have c7:LJ 200000 m.c.aY:=⟨b2.nm,fun i h=>(b2.vl i h).rA (by omega)⟩;have g:=HV.o;have G:s.kind=0∨s.kind=1∨s.kind=2∨s.kind=3∨s.kind=4∨s.kind=5∨s.kind=6∨s.kind=7∨s.kind=8∨s.kind=9∨s.kind=10∨s.kind=11∨s.kind=12:=by omega
 rcases G with E | E | E | E | E | E | E | E | E | E | E | E | E
 all_goals
  rw [E] at e0;try (rw [if_neg (by omega),if_neg (by omega),if_neg (by omega),if_neg (by omega),E] at g)
  try (have h3:=J.o.tg (by omega) (by omega) (by omega) (by omega);rw [b8] at h3)
  try (have h2:=J.o.sr (by omega);rw [b8] at h2)
 ·have g:({m with bS:={f with next:=s.next}::r}:Mc)=V:=by rw [←g];rfl
  subst g
  go_wp2_with fail
  go_end0
  exact ⟨rfl,z.o,a1.o⟩
 ·have g:({m with bS:={f with next:=s.next}::r,c:=(m.c.fields s.m9).set (f.base+s.aQ) ⟨2,m.c.aY.length⟩}:Mc)=V:=by rw [←g];rfl
  have d8:=Aa (fun (W:World) (j:Ab (fun _=>False) C W)=>kT d o k B _ t u p {m with bS:={f with next:=s.next}::r} s.m9 W (z.o.i9 j) (by simp only;omega))
  have g3:iB (m.c.fields s.m9).aY:=a0.app (fun x hx=>by simp only [List.mem_cons,List.not_mem_nil,or_false] at hx;rcases hx with rfl | rfl | rfl | rfl<;>exact ⟨by simp,by simp only;omega,by simp⟩)
  have c1:(m.c.fields s.m9).aY.length=m.c.aY.length+4:=by simp [Co.fields]
  have f9:∀W,TN d o k B (.slice (some ⟨D,0,none⟩) P.length F) t u p ⟨m.c.fields s.m9,{f with next:=s.next}::r,m.bM⟩ W→Calls Tryz.prog 79 #[.pointer (some ⟨d,0,none⟩),.int .i64 ((f.base:Int)+(s.aQ:Int)),.agg #[.int .i64 2,.int .i64 m.c.aY.length]] W fun e y=>e=.returned (.tuple #[])∧TN d o k B (.slice (some ⟨D,0,none⟩) P.length F) t u p V y∧FR d o k B W y:=by intro W j;rw [←g];exact iA d o k B _ t u p ⟨m.c.fields s.m9,{f with next:=s.next}::r,m.bM⟩ (f.base+s.aQ) ⟨2,m.c.aY.length⟩ W j g3 (by simp only [c1];omega) (.inr (.inr ⟨rfl,by simp only [c1];omega⟩)) (by show m.c.cU.length≤_;omega) (by simp only [c1];omega)
  have d9:=Aa f9
  clear g a0 b2 f9 g3 c1
  go_wp2_with fail
  refine (d8.o _ (by repeat (first | exact Ab.refl _ _ | refine Ab.drew ?_ | refine Ab.drewN ?_ _ | refine Ab.alloc ?_ _))).mono ?_
  rintro e w2 ⟨rfl,M,O⟩
  have U1:=Aa M
  have U2:=Aa ((a1.o.trans (FR.bC (by repeat (first | exact Ab.refl _ _ | refine Ab.drew ?_ | refine Ab.drewN ?_ _ | refine Ab.alloc ?_ _)))).trans O)
  clear M O d8
  go_wp2_with fail
  refine (d9.o _ (U1.o.i9 (by repeat (first | exact Ab.refl _ _ | refine Ab.drew ?_ | refine Ab.drewN ?_ _ | refine Ab.alloc ?_ _)))).mono ?_
  rintro e w3 ⟨rfl,u3,u4⟩
  have U3:=Aa u3
  have U4:=Aa ((U2.o.trans (FR.bC (by repeat (first | exact Ab.refl _ _ | refine Ab.drew ?_ | refine Ab.drewN ?_ _ | refine Ab.alloc ?_ _)))).trans u4)
  clear u3 u4 d9
  go_wp2_with fail
  go_end0
  exact ⟨rfl,U3.o,U4.o⟩
 have g:({m with bS:={f with next:=s.next}::r,c:=m.c.set (f.base+s.aQ) ⟨2,f.base+s.r9⟩}:Mc)=V:=by rw [←g];rfl
 have Y:pI d o k B (.slice (some ⟨D,0,none⟩) P.length F) t u p V C 79 #[.pointer (some ⟨d,0,none⟩),.int .i64 ((f.base:Int)+(s.aQ:Int)),.agg #[.int .i64 2,.int .i64 ((f.base:Int)+(s.r9:Int))]]:=by intro W j;rw [←g];exact iA d o k B _ t u p {m with bS:={f with next:=s.next}::r} (f.base+s.aQ) ⟨2,f.base+s.r9⟩ W (z.o.i9 j) a0 (by simp only;omega) (.inr (.inr ⟨rfl,by simp only;omega⟩)) (by simp only;omega) (by simp only;omega)
 rotate_left;have Y:pI d o k B (.slice (some ⟨D,0,none⟩) P.length F) t u p V C 82 #[.pointer (some ⟨d,0,none⟩),.int .i64 ((f.base:Int)+(s.aQ:Int)),.int .i64 ((f.base:Int)+(s.r9:Int)),.int .i64 s.field]:=by
  intro W j;by_cases G:(DB m.c.aY (f.base+s.r9)).v.kind=2
  ·by_cases hb:(DB m.c.aY (DB m.c.aY (f.base+s.r9)).v.bG).nm.kind=1∧(DB m.c.aY (DB m.c.aY (f.base+s.r9)).v.bG).nm.aX=0
   ·have g:({m with bS:={f with next:=s.next}::r,c:=m.c.set (f.base+s.aQ) ⟨2,(DB m.c.aY (f.base+s.r9)).v.bG+s.field⟩}:Mc)=V:=by rw [←g];simp [aJ,G,hb]
    rw [←g]
    exact mW d o k B _ t u p {m with bS:={f with next:=s.next}::r} (f.base+s.aQ) (f.base+s.r9) s.field W (z.o.i9 j) a0 c7 (by simp only;omega) (by simp only;omega) (by simp only;omega) (by simp only;omega) G hb (by omega)
   ·have g:({m with bS:={f with next:=s.next}::r,bM:=3}:Mc)=V:=by
     rw [←g];have d2:¬((DB m.c.aY (f.base+s.r9)).v.kind=2∧(DB m.c.aY (DB m.c.aY (f.base+s.r9)).v.bG).nm.kind=1∧(DB m.c.aY (DB m.c.aY (f.base+s.r9)).v.bG).nm.aX=0):=fun q=>hb q.2
     simp only [aJ];rw [if_neg (by decide),if_neg (by decide),if_pos trivial,if_neg d2]
    rw [←g]
    exact mV d o k B _ t u p {m with bS:={f with next:=s.next}::r} (f.base+s.aQ) (f.base+s.r9) s.field W (z.o.i9 j) c7 (by simp only;omega) G hb
  ·have g:({m with bS:={f with next:=s.next}::r,bM:=3}:Mc)=V:=by
    rw [←g];have d2:¬((DB m.c.aY (f.base+s.r9)).v.kind=2∧(DB m.c.aY (DB m.c.aY (f.base+s.r9)).v.bG).nm.kind=1∧(DB m.c.aY (DB m.c.aY (f.base+s.r9)).v.bG).nm.aX=0):=fun q=>G q.1
    simp only [aJ];rw [if_neg (by decide),if_neg (by decide),if_pos trivial,if_neg d2]
   rw [←g]
   exact nZ d o k B _ t u p {m with bS:={f with next:=s.next}::r} (f.base+s.aQ) (f.base+s.r9) s.field W (z.o.i9 j) (by simp only;omega) G
 rotate_left;have g1:=J.o.func (by omega);have g:({m with bS:={f with next:=s.next}::r,c:=m.c.set (f.base+s.aQ) ⟨1,s.r9⟩}:Mc)=V:=by rw [←g];rfl
 have Y:pI d o k B (.slice (some ⟨D,0,none⟩) P.length F) t u p V C 79 #[.pointer (some ⟨d,0,none⟩),.int .i64 ((f.base:Int)+(s.aQ:Int)),.agg #[.int .i64 1,.int .i64 s.r9]]:=by intro W j;rw [←g];exact iA d o k B _ t u p {m with bS:={f with next:=s.next}::r} (f.base+s.aQ) ⟨1,s.r9⟩ W (z.o.i9 j) a0 (by simp only;omega) (.inr (.inl ⟨rfl,by simp only;omega⟩)) (by simp only;omega) (by simp only;omega)
 rotate_left;have Y:pI d o k B (.slice (some ⟨D,0,none⟩) P.length F) t u p V C 83 #[.pointer (some ⟨d,0,none⟩),.int .i64 ((f.base:Int)+(s.aQ:Int)),.int .i64 ((f.base:Int)+(s.r9:Int))]:=by
  intro W j;by_cases G:(DB m.c.aY (f.base+s.r9)).v.kind=2
  ·have g:({m with bS:={f with next:=s.next}::r,c:=m.c.set (f.base+s.aQ) (DB m.c.aY (DB m.c.aY (f.base+s.r9)).v.bG).v}:Mc)=V:=by rw [←g];simp [aJ,G]
   rw [←g]
   exact mQ d o k B _ t u p {m with bS:={f with next:=s.next}::r} (f.base+s.aQ) (f.base+s.r9) W (z.o.i9 j) a0 c7 (by simp only;omega) (by simp only;omega) (by simp only;omega) (by simp only;omega) G
  ·have g:({m with bS:={f with next:=s.next}::r,bM:=3}:Mc)=V:=by rw [←g];simp [aJ,G]
   rw [←g]
   exact nX d o k B _ t u p {m with bS:={f with next:=s.next}::r} (f.base+s.aQ) (f.base+s.r9) W (z.o.i9 j) (by simp only;omega) G
 rotate_left;have g:({m with bS:={f with next:=s.next}::r,c:=m.c.set (f.base+s.aQ) (DB m.c.aY (f.base+s.r9)).v}:Mc)=V:=by rw [←g];rfl
 obtain ⟨gm,cm,r5,h5,_,b1⟩:=z.o.holds (a:=f.base+s.r9) (by simp only;omega);obtain ⟨c3,c4,_⟩:=b1 (f.base+s.r9) (by simp only;omega);simp only at c3 c4 r5;have c5:C.cell? ⟨gm,(f.base+s.r9)*5+3+1,none⟩=some (.int .i64 (DB m.c.aY (f.base+s.r9)).v.bG):=c4;have a3:=(b2.at_ (i:=f.base+s.r9) (by omega)).2;have h0:((f.base:Int)+(s.r9:Int))<(m.c.aY.length:Int):=by omega
 generalize (DB m.c.aY (f.base+s.r9)).v=vs at*;clear b1 c4;have Y:pI d o k B (.slice (some ⟨D,0,none⟩) P.length F) t u p V C 79 #[.pointer (some ⟨d,0,none⟩),.int .i64 ((f.base:Int)+(s.aQ:Int)),.agg #[.int .i64 vs.kind,.int .i64 vs.bG]]:=by intro W j;rw [←g];exact iA d o k B _ t u p {m with bS:={f with next:=s.next}::r} (f.base+s.aQ) vs W (z.o.i9 j) a0 (by simp only;omega) (a3.rA (by omega)) (by simp only;omega) (by simp only;omega)
 rotate_left
 ·rw [if_pos E] at g;have g1:=J.o.func (by omega);have i7:=J.o.many (by omega);have j0:=b5.o.bX s.r9;have b0:∀v,v∈WH m.c.aY f.base s.args→Pm P.length m.c.aY.length v:=by intro v hv;unfold WH at hv;obtain ⟨a,ha,rfl⟩:=List.mem_map.1 hv;have:=J.o.args a ha;exact (HI.o.aY.at_ (by omega)).2
  have a5:=Aa (fun (W:World) (j:Ab (fun _=>False) C W)=>jX d o k B _ t u p {m with bS:={f with next:=s.next}::r} f.base s.args _ W (z.o.i9 j) (Ac f6.o j (fun _ _ q=>q)) J.o.bA (fun a ha=>by have:=J.o.args a ha;rw [b8] at this;simp only;omega) (by simp only;omega) (by omega));have d0:(WH m.c.aY f.base s.args).length=s.args.length:=by simp [WH]
  have a8:∀W H A,Ab (fun _=>False) C W→W.ownsRow A 182 2 H s.args.length (kH (WH m.c.aY f.base s.args))→Calls Tryz.prog 53 #[.pointer (some ⟨d,0,none⟩),.int .i64 s.r9,H,.int .i64 ((f.base:Int)+(s.aQ:Int))] W fun e y=>∃b,e=.returned (.bool b)∧TN d o k B (.slice (some ⟨D,0,none⟩) P.length F) t u p V y∧FR d o k B W y:=by
   intro W H A j hr;rw [←d0] at hr;rw [←g];by_cases hd:r.length+1<40
   ·exact (jA d o k B _ t u p P n {m with bS:={f with next:=s.next}::r} s.r9 (f.base+s.aQ) A _ H W (z.o.i9 j) (b6.o.i9 j) b5.o b4.o.rJ (by simpa using hd) g1 b0 (by omega) hr).mono (fun e y q=>⟨_,q⟩)
   ·exact (jL d o k B _ t u p P {m with bS:={f with next:=s.next}::r} s.r9 (f.base+s.aQ) _ H W (z.o.i9 j) (by simp only [rW];omega) (by simp only [rW];omega) (Ad hr)).mono (fun e y q=>⟨_,q⟩)
  have a6:=Aa a8;clear g a8 b0;obtain ⟨c9,h6⟩:=c8.o.qX rfl;have a7:dN (∀v W,(∃A,W.ownsRow A 182 2 v s.args.length (kH (WH m.c.aY f.base s.args)))→Ab (fun _=>False) C W→Calls Tryz.prog 53 #[.pointer (some ⟨d,0,none⟩),.int .i64 s.r9,v,.int .i64 ((f.base:Int)+(s.aQ:Int))] W fun e y=>∃b,e=.returned (.bool b)∧(TN d o k B (.slice (some ⟨D,0,none⟩) P.length F) t u p V y∧FR d o k B w y)∧y.cell? ⟨w.heap.size,2,none⟩=some (.int .i64 s.r9)∧y.cell? ⟨w.heap.size,5,none⟩=some (.slice U s.args.length T)):=by intro v W L j;obtain ⟨A,L⟩:=L;exact (a6.o W v _ j L).mono (fun e y q=>by obtain ⟨b,q1,R,S⟩:=q;have bx:=S.s9 (z.o.i9 j) (Ak.O I.o j (fun q=>q)) (by decide) (by decide) (by decide);have c2:=bx.cell 2;have c5:=bx.cell 5;simp only [dM,dJ,dK] at c2 c5;exact ⟨b,q1,⟨R,(a1.o.trans (FR.bC j)).trans S⟩,c2,c5⟩)
  have a4:dN (∀W,Ab (fun _=>False) C W→Calls Tryz.prog 85 #[.pointer (some ⟨d,0,none⟩),.int .i64 f.base,.slice U s.args.length T] W fun e y=>∃v,e=.returned v∧(∃a l c,v=.slice a l c)∧(∃A,y.ownsRow A 182 2 v s.args.length (kH (WH m.c.aY f.base s.args)))∧Ab (fun _=>False) W y):=by intro W j;exact (a5.o W j).mono (fun e y q=>by obtain ⟨v,q1,R,S⟩:=q;exact ⟨v,q1,Ad R,⟨_,R⟩,S⟩)
  clear a5 a6;go_wp2_with fail;refine DL ?_;refine oB _ d K (r.length*4) w.heap.size ((f.base:Int)+(s.aQ:Int)) ((f.base:Int)+(s.r9:Int)) s.r9 f.base U s.args.length T C (fun v W=>∃A,W.ownsRow A 182 2 v s.args.length (kH (WH m.c.aY f.base s.args))) (fun y=>TN d o k B (.slice (some ⟨D,0,none⟩) P.length F) t u p V y∧FR d o k B w y) e2 e5 c9 g8 a4.o a7.o ?_;intro b ya yl yc w3 L;obtain ⟨u3,u4⟩:=L;have U3:=Aa u3;have U4:=Aa u4;clear u3 u4 a4 a7;dsimp only;go_wp2_with fail;go_end0;exact ⟨rfl,U3.o,U4.o⟩
 ·rw [if_neg (by omega),if_pos E] at g;have b0:∀v,v∈WH m.c.aY f.base s.args→Pm P.length m.c.aY.length v:=by intro v hv;unfold WH at hv;obtain ⟨a,ha,rfl⟩:=List.mem_map.1 hv;have:=J.o.args a ha;exact (HI.o.aY.at_ (by omega)).2
  have a5:=Aa (fun (W:World) (j:Ab (fun _=>False) C W)=>jX d o k B _ t u p {m with bS:={f with next:=s.next}::r} f.base s.args _ W (z.o.i9 j) (Ac f6.o j (fun _ _ q=>q)) J.o.bA (fun a ha=>by have:=J.o.args a ha;rw [b8] at this;simp only;omega) (by simp only;omega) (by omega));have d0:(WH m.c.aY f.base s.args).length=s.args.length:=by simp [WH]
  have a8:∀W H A,Ab (fun _=>False) C W→W.ownsRow A 182 2 H s.args.length (kH (WH m.c.aY f.base s.args))→Calls Tryz.prog 86 #[.pointer (some ⟨d,0,none⟩),.int .i64 ((f.base:Int)+(s.r9:Int)),.int .i64 s.m9,H,.int .i64 ((f.base:Int)+(s.aQ:Int))] W fun e y=>e=.returned (.tuple #[])∧TN d o k B (.slice (some ⟨D,0,none⟩) P.length F) t u p V y∧FR d o k B W y:=by
   intro W H A j hr;rw [←d0] at hr g;have g2:∃a c,H=.slice a (WH m.c.aY f.base s.args).length c:=by obtain ⟨a,l,c,rfl⟩:=Ad hr;have:=Aq hr;subst this;exact ⟨a,c,rfl⟩
   rw [←g];by_cases hk:(DB m.c.aY (f.base+s.r9)).v.kind=1∧(Ap P (DB m.c.aY (f.base+s.r9)).v.bG).i8=(WH m.c.aY f.base s.args).length
   ·rw [if_pos hk];by_cases hd:40≤r.length+1
    ·rw [if_pos (by simp only [rW];omega)];exact lJ d o k B _ t u p P n {m with bS:={f with next:=s.next}::r} (f.base+s.r9) s.m9 (f.base+s.aQ) _ H W (z.o.i9 j) (b6.o.i9 j) b4.o (by simp only;omega) hk (by simp only [rW];omega) g2
    ·rw [if_neg (by simp only [rW];omega)];exact oA d o k B _ t u p P n {m with bS:={f with next:=s.next}::r} (f.base+s.r9) s.m9 (f.base+s.aQ) A _ H W (z.o.i9 j) (b6.o.i9 j) b4.o (by simp only;omega) hk b5.o (by simp only [rW];omega) b0 (by omega) hr
   ·rw [if_neg hk];exact lK d o k B _ t u p P {m with bS:={f with next:=s.next}::r} (f.base+s.r9) s.m9 (f.base+s.aQ) _ H W (z.o.i9 j) (b6.o.i9 j) HI.o.aY (by simp only;omega) g2 hk
  have a6:=Aa a8;clear g a8 b0;obtain ⟨c9,h6⟩:=c8.o.qX rfl;have a7:dN (∀v W,(∃A,W.ownsRow A 182 2 v s.args.length (kH (WH m.c.aY f.base s.args)))→Ab (fun _=>False) C W→Calls Tryz.prog 86 #[.pointer (some ⟨d,0,none⟩),.int .i64 ((f.base:Int)+(s.r9:Int)),.int .i64 s.m9,v,.int .i64 ((f.base:Int)+(s.aQ:Int))] W fun e y=>e=.returned (.tuple #[])∧(TN d o k B (.slice (some ⟨D,0,none⟩) P.length F) t u p V y∧FR d o k B w y)∧y.cell? ⟨w.heap.size,4,none⟩=some (.int .i64 s.m9)∧y.cell? ⟨w.heap.size,5,none⟩=some (.slice U s.args.length T)):=by intro v W L j;obtain ⟨A,L⟩:=L;exact (a6.o W v _ j L).mono (fun e y q=>by obtain ⟨q1,R,S⟩:=q;have bx:=S.s9 (z.o.i9 j) (Ak.O I.o j (fun q=>q)) (by decide) (by decide) (by decide);have c2:=bx.cell 4;have c5:=bx.cell 5;simp only [dM,dJ,dK] at c2 c5;exact ⟨q1,⟨R,(a1.o.trans (FR.bC j)).trans S⟩,c2,c5⟩)
  have a4:dN (∀W,Ab (fun _=>False) C W→Calls Tryz.prog 85 #[.pointer (some ⟨d,0,none⟩),.int .i64 f.base,.slice U s.args.length T] W fun e y=>∃v,e=.returned v∧(∃a l c,v=.slice a l c)∧(∃A,y.ownsRow A 182 2 v s.args.length (kH (WH m.c.aY f.base s.args)))∧Ab (fun _=>False) W y):=by intro W j;exact (a5.o W j).mono (fun e y q=>by obtain ⟨v,q1,R,S⟩:=q;exact ⟨v,q1,Ad R,⟨_,R⟩,S⟩)
  clear a5 a6;go_wp2_with fail;refine DL ?_;refine oC _ d K (r.length*4) w.heap.size ((f.base:Int)+(s.aQ:Int)) ((f.base:Int)+(s.r9:Int)) s.m9 f.base U s.args.length T C (fun v W=>∃A,W.ownsRow A 182 2 v s.args.length (kH (WH m.c.aY f.base s.args))) (fun y=>TN d o k B (.slice (some ⟨D,0,none⟩) P.length F) t u p V y∧FR d o k B w y) e4 e5 c9 g8 a4.o a7.o ?_;intro ya yl yc w3 L;obtain ⟨u3,u4⟩:=L;have U3:=Aa u3;have U4:=Aa u4;clear u3 u4 a4 a7;dsimp only;go_wp2_with fail;go_end0;exact ⟨rfl,U3.o,U4.o⟩
 have Y:pI d o k B (.slice (some ⟨D,0,none⟩) P.length F) t u p V C 84 #[.pointer (some ⟨d,0,none⟩),.int .i64 ((f.base:Int)+(s.aQ:Int)),.int .i64 ((f.base:Int)+(s.r9:Int))]:=by
  intro W j;by_cases G:(DB m.c.aY (f.base+s.aQ)).v.kind=2
  ·have g:({m with bS:={f with next:=s.next}::r,c:=m.c.set (DB m.c.aY (f.base+s.aQ)).v.bG (DB m.c.aY (f.base+s.r9)).v}:Mc)=V:=by rw [←g];simp [aJ,G]
   rw [←g]
   exact lI d o k B _ t u p {m with bS:={f with next:=s.next}::r} (f.base+s.aQ) (f.base+s.r9) W (z.o.i9 j) a0 c7 (by simp only;omega) (by simp only;omega) (by simp only;omega) (by simp only;omega) G
  ·have g:({m with bS:={f with next:=s.next}::r,bM:=3}:Mc)=V:=by rw [←g];simp [aJ,G]
   rw [←g]
   exact mU d o k B _ t u p {m with bS:={f with next:=s.next}::r} (f.base+s.aQ) (f.base+s.r9) W (z.o.i9 j) (by simp only;omega) G
 rotate_left;rw [if_neg (by omega),if_neg (by omega),if_pos E] at g;obtain ⟨gm,cm,r5,h5,_,b1⟩:=z.o.holds (a:=f.base+s.r9) (by simp only;omega);obtain ⟨c3,c4,_⟩:=b1 (f.base+s.r9) (by simp only;omega);simp only at c3 c4 r5;have c5:C.cell? ⟨gm,(f.base+s.r9)*5+3+1,none⟩=some (.int .i64 (DB m.c.aY (f.base+s.r9)).v.bG):=c4;have a3:=(b2.at_ (i:=f.base+s.r9) (by omega)).2;have h0:((f.base:Int)+(s.r9:Int))<(m.c.aY.length:Int):=by omega
 generalize (DB m.c.aY (f.base+s.r9)).v=vs at*;clear b1 c4;have Y:pI d o k B (.slice (some ⟨D,0,none⟩) P.length F) t u p V C 80 #[.pointer (some ⟨d,0,none⟩),.agg #[.int .i64 vs.kind,.int .i64 vs.bG]]:=by intro W j;rw [←g];exact jR d o k B _ t u p P (n+1) {m with bS:={f with next:=s.next}::r} vs W (z.o.i9 j) b5.o.bA b4.o (by simp) a3
 rotate_left;iterate 2
  rw [if_neg (by omega),if_neg (by omega),if_neg (by omega),if_pos (by omega)] at g
  have HC:=Aa (fun (W:World) (j:Ab (fun _=>False) C W)=>lG d o k B _ t u p _ _ _ _ W (c8.o.i9 j))
  have HV:=Aa g
  clear g
  go_wp2_with fail
  refine (HC.o _ (by repeat (first | exact Ab.refl _ _ | refine Ab.drew ?_ | refine Ab.drewN ?_ _ | refine Ab.alloc ?_ _))).mono ?_
  rintro e w2 ⟨rfl,⟨h8,M⟩,O⟩
  have U2:=Aa ((a1.o.trans (FR.bC (by repeat (first | exact Ab.refl _ _ | refine Ab.drew ?_ | refine Ab.drewN ?_ _ | refine Ab.alloc ?_ _)))).trans O)
  have c0:=O.s9 (z.o.i9 (by repeat (first | exact Ab.refl _ _ | refine Ab.drew ?_ | refine Ab.drewN ?_ _ | refine Ab.alloc ?_ _))) (Ak.O I.o (X:=fun _=>False) (by repeat (first | exact Ab.refl _ _ | refine Ab.drew ?_ | refine Ab.drewN ?_ _ | refine Ab.alloc ?_ _)) (fun q=>q)) (by decide) (by decide) (by decide)
  have g7:=c0.cell 7
  have k0:=Ae c0
  simp only [dM,dJ,dK] at g7
  obtain ⟨t1,t2,t3⟩:=M.rD rfl
  obtain ⟨n1,n2⟩:=M.rE rfl s.taken
  cases hb:(Pv m.c.ch).1 with
  | false=> have g:=HV.o;rw [if_neg (by rw [hb];decide)] at g;subst g;have U1:=Aa M;clear M O n1 n2 c0 HC;go_wp2_with fail;go_end0;exact ⟨rfl,⟨_,_,_,U1.o⟩,U2.o⟩
  | true=> have g:=HV.o;rw [if_pos hb] at g;subst g;have U1:=Aa n1;have U3:=Aa (U2.o.trans n2);clear M O n1 n2 c0 HC;go_wp2_with fail;go_end0;exact ⟨rfl,⟨_,_,_,U1.o⟩,U3.o⟩
 all_goals
  have HC:=Aa Y;clear Y g E;go_wp2_with fail;refine (HC.o _ (by repeat (first | exact Ab.refl _ _ | refine Ab.drew ?_ | refine Ab.drewN ?_ _ | refine Ab.alloc ?_ _))).mono ?_;rintro e w2 ⟨rfl,M,O⟩;have U1:=Aa M;have U2:=Aa ((a1.o.trans (FR.bC (by repeat (first | exact Ab.refl _ _ | refine Ab.drew ?_ | refine Ab.drewN ?_ _ | refine Ab.alloc ?_ _)))).trans O);clear M O HC;go_wp2_with fail;go_end0;exact ⟨rfl,U1.o,U2.o⟩
theorem I3.start(W:World)(B:Nat)(c:Value)(d e b:Nat)(a:ByteArray)(l:B≤W.heap.size):
 I3 (W.heap.size+1+1) W.heap.size (W.heap.size+1) B c d e b ⟨⟨[],a.data.toList,[],[]⟩,[],1⟩ (.slice none 0 0) (.slice none 0 0) a (((W.alloc (.map #[] 0)).alloc (.map #[] 0)).alloc (.cells #[c,.int .i64 d,.int .i64 e,.int .i64 b,.string a,.slice none 0 0,.slice none 0 0,.int .i64 1,.map (some W.heap.size),.map (some (W.heap.size+1))] 121)):=by
 have g:hZ 197 oG W.heap.size [] (W.alloc (.map #[] 0)):=hZ.none _ _ W;have h:hZ 200 nO (W.heap.size+1) [] ((W.alloc (.map #[] 0)).alloc (.map #[] 0)):=by have:=hZ.none 200 nO (W.alloc (.map #[] 0));simpa using this
 have j:=((Ab.refl (fun _=>False) (W.alloc (.map #[] 0))).alloc (.map #[] 0)).alloc (.cells #[c,.int .i64 d,.int .i64 e,.int .i64 b,.string a,.slice none 0 0,.slice none 0 0,.int .i64 1,.map (some W.heap.size),.map (some (W.heap.size+1))] 121);have k:=(Ab.refl (fun _=>False) ((W.alloc (.map #[] 0)).alloc (.map #[] 0))).alloc (.cells #[c,.int .i64 d,.int .i64 e,.int .i64 b,.string a,.slice none 0 0,.slice none 0 0,.int .i64 1,.map (some W.heap.size),.map (some (W.heap.size+1))] 121);have f:=Ak.new ((W.alloc (.map #[] 0)).alloc (.map #[] 0)) #[c,.int .i64 d,.int .i64 e,.int .i64 b,.string a,.slice none 0 0,.slice none 0 0,.int .i64 1,.map (some W.heap.size),.map (some (W.heap.size+1))] 121;have i:((W.alloc (.map #[] 0)).alloc (.map #[] 0)).heap.size=W.heap.size+1+1:=by simp
 rw [i] at f;exact ⟨f,rfl,World.ownsRow_nil _ _ _ _,World.ownsRow_nil _ _ _ _,g.O j (fun q=>q),h.O k (fun q=>q),by omega,by omega⟩
theorem nS{P n m}(h:n=0∨(KO P 41 m).bM≠1):PO P n m=(KO P 41 m,n):=by
 cases n with
 | zero=>rfl
 | succ n=> unfold PO;rw [if_neg (h.resolve_left (by omega))]
theorem nY(B fv b t o P h g w)(hp:Bh B w fv P)(J:Ms P)(hB:B≤w.heap.size)(hm:b<P.length)(Z:List ByteArray→List (Tg×Tg)→List (Nat×Nat)→Prop)
 (d5:∀(mb pm em:Nat) (m:Mc) (W:World),TN mb pm em B fv b t o m W→Bh B W fv P→CB P 0 m→iC P m.c→(∀k,k<B→W.heap[k]? =w.heap[k]?)→Calls Tryz.prog 56 #[.pointer (some ⟨mb,0,none⟩)] W fun e M=>∃v l,e=.returned v∧Au W.heap.size M v l∧Z l m.c.cU m.c.bN∧Ab (fun _=>False) W M):
 Calls Tryz.prog 38 #[.agg #[fv,.int .i64 b,.int .i64 t,.int .i64 o],.string h,.int .i64 g] w fun e M=>∃v l,e=.returned (.agg #[.int .i64 (gY P b (UL g) h.data.toList).1.bM,.int .i64 ((UL g-(gY P b (UL g) h.data.toList).2:Nat):Int),v])∧Au B M v l∧Z l (gY P b (UL g) h.data.toList).1.c.cU (gY P b (UL g) h.data.toList).1.c.bN∧Below B w M:=by
 have a1:=iC.run J (lY g) hm h.data.toList;unfold gY at a1⊢;obtain ⟨C,A,rfl,f5⟩:=hp.form (by omega);obtain ⟨R,Q⟩:∃R,UR P ⟨⟨[],h.data.toList,[],[]⟩,[],1⟩ b [] 0=R:=⟨_,rfl⟩;obtain ⟨V,hV⟩:∃V,PO P (UL g) R=V:=⟨_,rfl⟩;rw [Q,hV] at a1;rw [Q,hV];have e3:=Aa a1;have G:=Aa hV;clear a1;have c7:=Aa d5;clear d5;have e9:=@run_makeMap Tryz.prog;have e8:=lY g;have f3:min (max g 0) 5000=((UL g:Nat):Int):=by unfold UL;split<;>(try split)<;>omega
 obtain ⟨d2,b3⟩:=CB.start J (n:=UL g) (f:=b) (ch:=h.data.toList) e8 hm;obtain ⟨W,y⟩:∃W,(w.alloc (.cells #[.slice (some ⟨C,0,none⟩) P.length A,.int .i64 b,.int .i64 t,.int .i64 o] 89)).alloc (.cells #[.int .i64 0,.int .i64 0,.slice none 0 0] 53)=W:=⟨_,rfl⟩;have c9:W.heap.size=w.heap.size+1+1:=by rw [←y];simp
 have L:=I3.start W B (.slice (some ⟨C,0,none⟩) P.length A) b t o h (by omega);have hO:Ab (fun _=>False) w (((W.alloc (.map #[] 0)).alloc (.map #[] 0)).alloc (.cells #[.slice (some ⟨C,0,none⟩) P.length A,.int .i64 b,.int .i64 t,.int .i64 o,.string h,.slice none 0 0,.slice none 0 0,.int .i64 1,.map (some W.heap.size),.map (some (W.heap.size+1))] 121)):=by rw [←y];exact (by repeat (first | exact Ab.refl _ _ | refine Ab.drew ?_ | refine Ab.drewN ?_ _ | refine Ab.alloc ?_ _))
 have d0:Ak (w.heap.size+1) #[.int .i64 0,.int .i64 0,.slice none 0 0] 53 W:=by rw [←y];have:=Ak.new (w.alloc (.cells #[.slice (some ⟨C,0,none⟩) P.length A,.int .i64 b,.int .i64 t,.int .i64 o] 89)) #[.int .i64 0,.int .i64 0,.slice none 0 0] 53;simpa using this
 have b8:=Aa (Ak.O (X:=fun _=>False) (w':=(((W.alloc (.map #[] 0)).alloc (.map #[] 0)).alloc (.cells #[.slice (some ⟨C,0,none⟩) P.length A,.int .i64 b,.int .i64 t,.int .i64 o,.string h,.slice none 0 0,.slice none 0 0,.int .i64 1,.map (some W.heap.size),.map (some (W.heap.size+1))] 121))) d0 (by repeat (first | exact Ab.refl _ _ | refine Ab.drew ?_ | refine Ab.drewN ?_ _ | refine Ab.alloc ?_ _)) (fun q=>q));have a4:=Aa (hp.i9 hO);rw [Q] at b3;have a9:=(jA (W.heap.size+1+1) W.heap.size (W.heap.size+1) B _ b t o P (UL g) ⟨⟨[],h.data.toList,[],[]⟩,[],1⟩ b 0 0 [] (.slice none 0 0) _ ⟨_,_,_,L⟩ a4.o J d2 (by simp) hm (fun v hv=>absurd hv List.not_mem_nil) (by simp) (World.ownsRow_nil _ _ _ _));rw [Q] at a9;have b9:=Aa a9;have Y:=Aa b3;have HO:=Aa hO;have a6:dN (TN (W.heap.size+1+1) W.heap.size (W.heap.size+1) B _ b t o ⟨⟨[],h.data.toList,[],[]⟩,[],1⟩ _):=⟨_,_,_,L⟩;subst y;rw [c9] at*;clear L hO d0 hp d2 b3 c9 a9 Q hV;generalize UL g=s at*;go_enter Tryz.func38,Tryz.ntmps38;go_wp2_with fail;refine b9.o.mono ?_;rintro e w2 ⟨rfl,u,d⟩;clear e9 b9;have a5:=Aa J;have a2:=Aa (d.qY a6.o a4.o);have b5:=Aa (d.s9 a6.o b8.o (by decide) (by decide) (by decide));have c0:=Aa ((FR.bC HO.o).trans d);have N:=Aa (jQ _ _ _ B _ b t o P s _ w2 u a2.o J Y.o);have c4:=Aa (Y.o.norm 41);have a7:=Aa u;have d7:=Aa Y.o.bJ;clear u d a6 a4 b8 HO J Y;go_wp2_with fail;refine N.o.mono ?_;rintro e w3 ⟨rfl,u,d⟩;have c5:=Aa (d.qY a7.o a2.o);have b6:=Aa (d.s9 a7.o b5.o (by decide) (by decide) (by decide));have c2:=Aa (c0.o.trans d);have c6:=Aa u;clear u d a7 a2 b5 c0 N;have d1:R.bS.length≤40:=d7.o;go_wp2_with fail;go_loopw [9] (fun i wr=>∃(k:Nat) (c:Mc),k≤s∧c.bS.length≤40∧i=.int .i64 k∧dN (TN (w.heap.size+1+1+1+1) (w.heap.size+1+1) (w.heap.size+1+1+1) B (.slice (some ⟨C,0,none⟩) P.length A) b t o (KO P 41 c) wr)∧dN (CB P (s-k) (KO P 41 c))∧dN (PO P (s-k) c=V)∧dN (Bh B wr (.slice (some ⟨C,0,none⟩) P.length A) P)∧dN (Ak (w.heap.size+1) #[.int .i64 0,.int .i64 0,.slice none 0 0] 53 wr)∧dN (FR (w.heap.size+1+1+1+1) (w.heap.size+1+1) (w.heap.size+1+1+1) B w wr)) (fun i _=>s-(intOf i).toNat)
 case atStart=>exact ⟨0,R,by omega,d1,rfl,c6,c4,G,c5,b6,c2⟩
 case round=>
  clear c6 c4 G c5 b6 c2 d1;obtain ⟨k,c,hk,f1,rfl,F,T,G,HP,HB,E⟩:=hrel;have f0:wr.cell? ⟨w.heap.size+1+1+1+1,7,none⟩=some (.int .i64 (KO P 41 c).bM)∧w.heap.size+1+1+1+1<wr.heap.size:=by obtain ⟨_,_,_,q⟩:=F.o;have S:=q.s9.cell 7;simp only [jC,dM,dJ,dK] at S;exact ⟨S,Ae q.s9⟩
  obtain ⟨S,lm⟩:=f0;by_cases a0:(KO P 41 c).bM=1∧k<s
  ·obtain ⟨O,f2⟩:=a0;obtain ⟨f,r,hf⟩:∃f r,(KO P 41 c).bS=f::r:=by
    cases hq:(KO P 41 c).bS with
    | nil=>exact absurd hq (T.o.run O)
    | cons f r=>exact ⟨f,r,rfl⟩
   have b4:=jI 41 c (by omega) O f r hf;obtain ⟨j,D⟩:∃j,s-k=j+1:=⟨s-k-1,by omega⟩;have hI:=T.o;rw [D] at hI;have c8:=Aa (mT (w.heap.size+1+1+1+1) (w.heap.size+1+1) (w.heap.size+1+1+1) B _ b t o P j (KO P 41 c) f r wr F.o HP.o a5.o hI hf b4);have U:=Aa (hI.step a5.o hf b4);have x:=G.o;rw [D] at x;unfold PO at x;rw [if_pos O] at x;have e4:=Aa x;have e7:j=s-(k+1):=by omega
   rw [O] at S;generalize V5 P (KO P 41 c)=m2 at*;clear x hI O hf b4 G T;go_wp2_with fail;refine c8.o.mono ?_;rintro e w4 ⟨rfl,u,d⟩;have a3:=Aa (d.qY F.o HP.o);have b7:=Aa (d.s9 F.o HB.o (by decide) (by decide) (by decide));have c3:=Aa (E.o.trans d);have N:=Aa (jQ _ _ _ B _ b t o P j _ w4 u a3.o a5.o U.o);have a8:=Aa u;clear u d c8 F HP HB E;go_wp2_with fail;refine N.o.mono ?_;rintro e w5 ⟨rfl,u,d⟩;have e1:=Aa (d.qY a8.o a3.o);have d6:=Aa (d.s9 a8.o b7.o (by decide) (by decide) (by decide));have d8:=Aa (c3.o.trans d);have e2:=Aa u;have d9:=Aa (U.o.norm 41);have e6:=U.o.bJ;clear u d a8 a3 b7 c3 N U;subst e7;go_wp2_with fail;go_roundw
   case rel=>exact ⟨k+1,m2,by omega,e6,by go_num,e2,d9,e4,e1,d6,d8⟩
   case measure=>simp [intOf];omega
  ·have x:=G.o;have L:s-k=0∨(KO P 41 c).bM≠1:=by
    by_cases q:(KO P 41 c).bM=1
    ·left;have:=fun p=>a0 ⟨q,p⟩
     omega
    ·exact .inr q
   rw [nS L] at x;subst x;have e5:(((KO P 41 c).bM:Int)==1)=false∨((((KO P 41 c).bM:Int)==1)=true∧k=s):=by
    by_cases q:(KO P 41 c).bM=1
    ·right;have:=fun p=>a0 ⟨q,p⟩
     exact ⟨by simp [q],by omega⟩
    ·left;simp;omega
   clear L a0;have d4:∀j,j<B→wr.heap[j]? =w.heap[j]? :=fun j D=>E.o.block j (by omega) (by rintro (q | q | q | ⟨q,_⟩)<;>omega)
   have HC:=Aa (fun (W:World) (y:Ab (fun _=>False) wr W)=>c7.o _ _ _ _ W (F.o.i9 y) (HP.o.i9 y) (T.o.less (rR _)) e3.o (fun j D=>by rw [y.block j (by have:=E.o.size;omega) (fun q=>q)];exact d4 j D));have d3:s-(s-k)=k:=by omega
   have e0:=Aa d3;have f4:=E.o.size;clear d3 c7;rcases e5 with c1 | ⟨c1,rfl⟩
   all_goals
    go_wp2_with fail;refine (HC.o _ (by repeat (first | exact Ab.refl _ _ | refine Ab.drew ?_ | refine Ab.drewN ?_ _ | refine Ab.alloc ?_ _))).mono ?_;rintro e w6 ⟨v6,l6,rfl,u1,u2,u3⟩;obtain ⟨ya,yl,yc,rfl⟩:=Ad u1;have U3:=Aa (Ab.trans (X:=fun _=>False) (a:=wr) (by repeat (first | exact Ab.refl _ _ | refine Ab.drew ?_ | refine Ab.drewN ?_ _ | refine Ab.alloc ?_ _)) u3);have U2:=Aa u2;have U1:=Aa (Ao u1 (show B≤_ by omega));have f6:w6.cell? ⟨w.heap.size+1+1+1+1,7,none⟩=some (.int .i64 (KO P 41 c).bM):=(rM (U3.o.block _ lm (fun q=>q))).trans S;have z:=Ak.O HB.o U3.o (fun q=>q);have b0:=z.cell 0;have b1:=z.cell 1;have b2:=z.cell 2;have bz:=z.frozen;have lb:=Ae z;simp only [dM,dJ,dK] at b0 b1 b2;have BX:=Aa z;clear u1 u2 u3 z;go_wp2_with fail;have K:Ab (fun k=>k=w.heap.size+1) w6 (((w6.setCell ⟨w.heap.size+1,0,none⟩ (.int .i64 (KO P 41 c).bM)).setCell ⟨w.heap.size+1,1,none⟩ (.int .i64 k)).setCell ⟨w.heap.size+1,2,none⟩ (.slice ya yl yc)):=(((Ab.refl _ w6).d8 0 _).d8 1 _).d8 2 _;refine bodyPost_ret (v:=.agg #[.int .i64 (KO P 41 c).bM,.int .i64 k,.slice ya yl yc]) (by simp [results,Tryz.results38,go_sem,b0,b1,b2]) rfl ⟨_,by first | rfl | rw [e0.o],l6,Ac U1.o K (Aj U1.o BX.o (by decide)),U2.o,?_⟩;have H:=E.o;have I:=U3.o;refine ⟨K.os.trans (I.os.trans H.os),K.tape.trans (I.tape.trans H.tape),K.output.trans (I.output.trans H.output),rO H.size (rO I.size K.size),fun j D=>?_⟩;rw [K.block j (by have:=H.size;have:=I.size;omega) (by omega),I.block j (by have:=H.size;omega) (fun q=>q)];exact d4 j D
end Go.Proofs.YtegmjgjkcdbmkaaGreatDoor

/- One of the texts of the proof of runs_card_holds: RuD RuE RnG. -/
import Derived.Test.YthppbgndiplgnaaGreatDoorG29
set_option maxRecDepth 100000
set_option maxHeartbeats 1000000
namespace Go.Proofs.YthppbgndiplgnaaGreatDoor
open Go.RowKit
theorem Dk.wrote{a d B g X S S' b c f ch' j w}(h:Dk a d B g X S b c f j w)(i u)(l:F7 d b ch' S' c=(F7 d b f S c).setIfInBounds i u)(m:ch'.data.toList=S'.c.ch)(o:S'.c.i7=S.c.i7)(p:S'.c.Ys=S.c.Ys)(n:S'.c.Yr=S.c.Yr):
 Dk a d B g X S' b c ch' j (w.setCell ⟨a,i,none⟩ u)∧Be a B w (w.setCell ⟨a,i,none⟩ u):=by
 have e:Ab (fun k=>k=a) w (w.setCell ⟨a,i,none⟩ u):=(Ab.refl _ _).p7 i _;refine ⟨⟨by rw [l];exact h.l9.set i u,m,?_,Ac h.row e (Ap h.row h.l9 (by decide)),by rw [p,n];exact h.sn,h.lb⟩,Be.Yu e⟩;rw [o];exact Ac h.i7 e (Ap h.i7 h.l9 (by decide))
theorem Ou(g o B l X S w)(a:A7 g o B l X S w)(x:S.left≤5000)(y:S.m8≤5000):
 Calls Tryz.prog 71 #[.pointer (some ⟨g,0,none⟩)] w fun e p=>e=.returned (.bool (decide (S.left≠0)))∧A7 g o B l X (if S.left=0 then {S with Yi:=1} else S.one) p∧Be g B w p:=by
 obtain ⟨A,C,u,D,a⟩:=a;have z:=Ae a.l9;have r:=a.l9.cell 3;have s:=a.l9.cell 4;have t:=a.l9.cell 6;have v:=a.l9.frozen;simp only [F7,aU,aS,aT] at r s t;by_cases b:S.left=0
 ·have q:((S.left:Int)==0)=true:=by simp [b]
  have f:decide (S.left≠0)=false:=by simp [b]
  rw [cU b,f];obtain ⟨c,d⟩:=a.wrote (S':={S with Yi:=1}) 6 (.int .i64 1) rfl a.Yz rfl rfl rfl;have h:=Aa c;have i:=Aa d;clear a c d b;go_enter Tryz.func71,Tryz.ntmps71;go_wp2;go_ret;exact ⟨rfl,⟨_,_,_,_,h.o⟩,i.o⟩
 ·have q:((S.left:Int)==0)=false:=by simp [b]
  have f:decide (S.left≠0)=true:=by simp [b]
  rw [cT b,f];have j:((S.left-1:Nat):Int)=(S.left:Int)-1:=by omega
  have k:((S.m8+1:Nat):Int)=(S.m8:Int)+1:=by omega
  obtain ⟨c,d⟩:=a.wrote (S':={S with left:=S.left-1}) 3 (.int .i64 ((S.left:Int)-1)) (by simp only [F7,j];rfl) a.Yz rfl rfl rfl;obtain ⟨m,n⟩:=c.wrote (S':=S.one) 4 (.int .i64 ((S.m8:Int)+1)) (by simp only [F7,RS.one,k];rfl) a.Yz rfl rfl rfl;have h:=Aa m;have i:=Aa (d.trans n);clear a c d m n j k f;go_enter Tryz.func71,Tryz.ntmps71;go_wp2;go_ret;exact ⟨rfl,⟨_,_,_,_,h.o⟩,i.o⟩
theorem JA(h p B m X S w)(d:A7 h p B m X S w):
 Calls Tryz.prog 90 #[.pointer (some ⟨h,0,none⟩)] w fun e r=>e=.returned (.bool (D7 S.c.ch).1)∧A7 h p B m X {S with c:={S.c with ch:=(D7 S.c.ch).2}} r∧Be h B w r:=by
 obtain ⟨A,C,a,D,d⟩:=d;have z:=Ae d.l9;have u:=d.l9.cell 2;have v:=d.l9.frozen;simp only [F7,aU,aS,aT] at u;have f:=d.Yz;cases g:S.c.ch with
 | nil=>
   rw [g] at f;have t:a.toList.isEmpty=true:=by rw [dG,f];rfl
   have n:{S with c:={S.c with ch:=(D7 S.c.ch).2}}=S:=by obtain ⟨⟨_,_,_,_⟩,_,_,_,_,_⟩:=S;simp only at g;subst g;rfl
   rw [g] at n;rw [n];have i:=Aa d;clear d f;simp only [D7];go_enter Tryz.func90,Tryz.ntmps90;go_wp2;go_ret;exact ⟨rfl,⟨_,_,_,_,i.o⟩,Be.refl _ _ _⟩
 | cons b l=>
   rw [g] at f;have t:a.toList.isEmpty=false:=by rw [dG,f];rfl
   have y:0<a.size:=by have:a.data.toList.length=a.size:=Array.length_toList;rw [f] at this;simp at this;omega
   have x:((a[0].toNat:Int)==49)=(b==49):=by
    have e:a[0]=b:=by
     have:a.data.toList[0]? =some b:=by rw [f];rfl
     rw [Array.getElem?_toList] at this;have:=(Array.getElem?_eq_some_iff.1 this).2;exact this
    rw [e,Bool.eq_iff_iff];simp only [beq_iff_eq];constructor
    ·intro q;have:b.toNat=49:=by omega
     exact UInt8.toNat_inj.1 (by simpa using this)
    ·intro q;subst q;rfl
   have o:(a.extract 1 a.size).data.toList=l:=by
    rw [dF,Array.toList_extract,f];have:a.size=l.length+1:=by have:a.data.toList.length=a.size:=Array.length_toList;rw [f] at this;simpa using this.symm
    simp [this]
   obtain ⟨j,k⟩:=d.wrote (S':={S with c:={S.c with ch:=l}}) (ch':=a.extract 1 a.size) 2 (.string (a.extract 1 a.size)) rfl o rfl rfl rfl;have i:=Aa j;have s:=Aa k;simp only [D7];clear d j k f o;go_enter Tryz.func90,Tryz.ntmps90;go_wp2;go_ret;exact ⟨rfl,⟨_,_,_,_,i.o⟩,s.o⟩
theorem FZ(T Q B:Nat)(U:Nat→Prop)(G sv:Value)(D:List RF)(fs:List FS)(pl ca:Nat)(F:List ByteArray)(X:List XF)(S:RS)(u:FS)(f i j:Option Addr)(n o p k l m:Nat)(d:Nat)(t:Tk)(w:World)
 (s:A7 T Q B F X S w)(A:Ls Q B U G sv D fs pl ca w)(H:Vr F X D)(L:u.Yh<D.length)(hb:d≤200000)(O:t.i6∈(Aq X u.Yh).m9):
 Calls Tryz.prog 92 #[.pointer (some ⟨T,0,none⟩),.agg (AS u (.slice f n k) (.slice i o l) (.slice j p m)),.int .i64 d,HJ t] w fun e V=>e=.returned (.int .i64 ((d+vx (Aq X u.Yh).m9 t.i6:Nat):Int))∧Ab (fun _=>False) w V:=by
 obtain ⟨mv,nv,ch,a6,s⟩:=s;have C:=Aa (((Ab.refl (fun _=>False) w).alloc (.cells (AS u (.slice f n k) (.slice i o l) (.slice j p m)) 119)).alloc (.cells #[.string t.i6,.int .i64 t.pos,.int .i64 t.sort] 64));have I:=Aa ((Ar.new w (AS u (.slice f n k) (.slice i o l) (.slice j p m)) 119).alloc (.cells #[.string t.i6,.int .i64 t.pos,.int .i64 t.sort] 64));have v:Ar (w.heap.size+1) #[.string t.i6,.int .i64 t.pos,.int .i64 t.sort] 64 ((w.alloc (.cells (AS u (.slice f n k) (.slice i o l) (.slice j p m)) 119)).alloc (.cells #[.string t.i6,.int .i64 t.pos,.int .i64 t.sort] 64)):=by have:=Ar.new (w.alloc (.cells (AS u (.slice f n k) (.slice i o l) (.slice j p m)) 119)) #[.string t.i6,.int .i64 t.pos,.int .i64 t.sort] 64;simpa using this
 have v:=Aa v;have N:=Aa (s.l9.f8 C.o (fun q=>q));have r:=A.p6 C.o;have M:=Aa r.pr;obtain ⟨gf,lf,cf,rfl⟩:∃a b c,G=.slice a b c:=by obtain ⟨cs,hr,_⟩:=A.fn;exact Ad hr
 obtain ⟨cs,x,_⟩:=r.fn;have a0:=Ah x;subst a0;obtain ⟨g,rfl⟩:=As x (by omega);have lg:=(x.lt g rfl).2;obtain ⟨tv,bv,vv,J,_,_,y⟩:=r.fn.get L;have c6:=J 6 (by decide);simp only [JB,aU,aS,aT] at c6;rw [H.m9 u.Yh L] at y;have a5:=H.ZW u.Yh;have a4:=H.Yx;have Y:=Aa y;obtain ⟨v1,v2,v3,rfl⟩:=Ad y;obtain ⟨q1,R⟩:=CP O;have E:=Aa R;obtain ⟨z,P⟩:∃z,vx (Aq X u.Yh).m9 t.i6=z:=⟨_,rfl⟩;rw [P] at q1 E⊢;have hw:IntKind.i64.wrap ((d:Int)+(z:Int))=(d:Int)+(z:Int):=by rw [IntKind.wrap_i64];omega
 have K:(((d+z:Nat):Int))=(d:Int)+(z:Int):=by omega
 rw [K];clear s A r x J y H R P O K;unfold AS HJ at*;go_enter Tryz.func92,Tryz.ntmps92;go_wp2;generalize (w.alloc _).alloc _=W at*;have Z:=I.o.cell 14;have t0:=v.o.cell 0;have r0:=N.o.cell 0;have p0:=M.o.l9.cell 0;have lb:=Ae I.o;have lt:=Ae v.o;have lr:=Ae N.o;have lp:=Ae M.o;simp only [F7,aU,aS,aT] at Z t0 r0 p0;go_quiet ((go_at_call 37;exact Calls.quiet_of_same ((EO B (.slice v1 v2 v3) (Aq X u.Yh).m9 t.i6 _ (Ac Y.o (by repeat (first | exact Ab.refl _ _ | refine Ab.drew ?_ | refine Ab.drewN ?_ _ | refine Ab.alloc ?_ _)) (fun _ _ q=>q)) (by omega)).mono (fun e V h=>⟨by rw [h.1,E.o],h.2⟩))));go_wp2;go_ret;exact ⟨rfl,C.o.drewN nq⟩
theorem A7.p6{c b B a X S w d}(h:A7 c b B a X S w)(f:Ab (fun _=>False) w d):A7 c b B a X S d:=by obtain ⟨g,i,e,j,h⟩:=h;exact ⟨g,i,e,j,h.p6 f⟩
theorem DU(b g B f X S w)(a:A7 b g B f X S w):
 Calls Tryz.prog 116 #[.pointer (some ⟨b,0,none⟩)] w fun e h=>e=.returned (.bool true)∧A7 b g B f X {S with Yi:=3} h∧Be b B w h:=by
 obtain ⟨o,p,l,q,a⟩:=a;have n:=Ae a.l9;have k:=a.l9.cell 6;have m:=a.l9.frozen;simp only [F7,aU,aS,aT] at k;obtain ⟨c,d⟩:=a.wrote (S':={S with Yi:=3}) 6 (.int .i64 3) rfl a.Yz rfl rfl rfl;have i:=Aa c;have j:=Aa d;clear a c d;go_enter Tryz.func116,Tryz.ntmps116;go_wp2;go_ret;exact ⟨rfl,⟨_,_,_,_,i.o⟩,j.o⟩
structure EI(rb pb B:Nat)(U:Nat→Prop)(fv sv:Value)(rf:List RF)(fs:List FS)(pl ca:Nat)(fn:List ByteArray)(X:List XF)(S:RS)(w:World):Prop where
 r:A7 rb pb B fn X S w
 p:Ls pb B U fv sv rf fs pl ca w
 h:Vr fn X rf
 m:BY fn.length S.c.i7
 ml:S.c.i7.length≤200000
 pl:S.c.Ys.length+S.c.Yr.length≤200000
theorem EI.p6{i f B}{U:Nat→Prop}{d k j c g a b X S w l}(h:EI i f B U d k j c g a b X S w)(e:Ab (fun _=>False) w l):EI i f B U d k j c g a b X S l:=
 ⟨h.r.p6 e,h.p.p6 e,h.h,h.m,h.ml,h.pl⟩
theorem EI.put{a d B}{U:Nat→Prop}{i l k g j f b X S w}(h:EI a d B U i l k g j f b X S w)(c v)(n:c<S.c.i7.length)(o:Cn b.length S.c.i7.length v):
 Calls Tryz.prog 40 #[.pointer (some ⟨a,0,none⟩),.int .i64 c,.int .i64 (DD v)] w fun e m=>e=.returned (.tuple #[])∧A7 a d B b X {S with c:=S.c.set c v} m∧Be a B w m:=
 II a d B U i l k g j f b X S c v w h.r h.p h.h h.m n o h.ml h.pl
theorem EI.holds{c o B}{U:Nat→Prop}{m r q l p j k X S w}(h:EI c o B U m r q l p j k X S w)(d:0<S.c.i7.length):
 ∃g b,w.cell? ⟨c,1,none⟩=some (.slice (some ⟨g,0,none⟩) S.c.i7.length b)∧g<w.heap.size∧c<w.heap.size∧∀i,i<S.c.i7.length→w.cell? ⟨g,i*4+1,none⟩=some (.int .i64 (DD (Ak S.c.i7 i).v))∧w.cell? ⟨g,i*4+2,none⟩=some (.int .i64 (VT i (Ak S.c.i7 i).nm)):=by
 obtain ⟨t,u,s,v,a⟩:=h.r;obtain ⟨g,b,rfl⟩:=a.aB d;have f:=a.l9.cell 1;simp only [F7,aU,aS,aT] at f;refine ⟨g,b,f,(a.cell d).2.2.2.1,Ae a.l9,fun i n=>?_⟩;have e:=(a.cell n).1;exact ⟨e 1 (by decide),e 2 (by decide)⟩
theorem BS{n m v}(h:Cn n m v):(DD v≤0↔v.kind≠2)∧(v.kind=2→DD v=(v.y6:Int)+1∧v.y6<m)∧(0≤DD v↔v.kind≠1)∧(v.kind=1→DD v= -(v.y6:Int)-1∧v.y6<n):=by
 unfold DD;rcases h with ⟨q,_⟩ | ⟨q,r⟩ | ⟨q,r⟩
 ·simp [q]
 ·simp [q,r];omega
 ·simp [q,r];omega
theorem Sy(f G B)(U:Nat→Prop)(N R Q M P K C X S u h i j r s t k l m p q w)
 (a:EI f G B U N R Q M P K C X S w)(b:p<S.c.i7.length)(d:q<S.c.i7.length)(O:u.kind=3):
 Calls Tryz.prog 95 #[.pointer (some ⟨f,0,none⟩),.agg (AS u (.slice h r k) (.slice i s l) (.slice j t m)),.int .i64 p,.int .i64 q] w fun e H=>e=.returned (.bool false)∧A7 f G B C X {S with c:=S.c.set p ⟨2,q⟩} H∧Be f B w H:=by
 obtain ⟨g,T,r1,Y,Z,o⟩:=a.holds (by omega);have D:=Aa (a.p6 ((Ab.refl (fun _=>False) w).alloc (.cells (AS u (.slice h r k) (.slice i s l) (.slice j t m)) 119)));have x:=Aa ((Ab.refl (fun _=>False) w).alloc (.cells (AS u (.slice h r k) (.slice i s l) (.slice j t m)) 119));have W:=a.ml;have F:=BS (a.m.vl q d);rw [←AV d] at F;have E:=BS (a.m.vl p b);rw [←AV b] at E;have V:=(o q d).1;have L:=(o p b).1;have y:DD ⟨2,q⟩=(q:Int)+1:=by simp [DD]
 have n:=D.o.put p ⟨2,q⟩ b (.inr (.inr ⟨rfl,d⟩));rw [y] at n;have v:=Aa n;clear n a D o F E y L;unfold AS at*;rw [O] at*;rw [show ((3:Nat):Int)=3 from rfl] at*;go_enter Tryz.func95,Tryz.ntmps95;go_wp2_with fail;refine v.o.mono ?_;rintro e w2 ⟨rfl,z,A⟩;have I:=Aa z;have J:=Aa ((Be.s8 x.o).trans A);clear z A v x;go_wp2;go_ret;exact ⟨rfl,I.o,J.o⟩
theorem SA(f G B)(U:Nat→Prop)(N R Q M P K C X S u h i j r s t k l m p q w)
 (a:EI f G B U N R Q M P K C X S w)(d:p<S.c.i7.length)(b:q<S.c.i7.length)(O:u.kind=7):
 Calls Tryz.prog 95 #[.pointer (some ⟨f,0,none⟩),.agg (AS u (.slice h r k) (.slice i s l) (.slice j t m)),.int .i64 p,.int .i64 q] w fun e H=>e=.returned (.bool false)∧A7 f G B C X {S with c:=S.c.set p (Ak S.c.i7 q).v} H∧Be f B w H:=by
 obtain ⟨g,T,r1,Y,Z,n⟩:=a.holds (by omega);have D:=Aa (a.p6 ((Ab.refl (fun _=>False) w).alloc (.cells (AS u (.slice h r k) (.slice i s l) (.slice j t m)) 119)));have x:=Aa ((Ab.refl (fun _=>False) w).alloc (.cells (AS u (.slice h r k) (.slice i s l) (.slice j t m)) 119));have W:=a.ml;have F:=BS (a.m.vl q b);rw [←AV b] at F;have E:=BS (a.m.vl p d);rw [←AV d] at E;have V:=(n q b).1;have L:=(n p d).1;have o:=a.m.vl q b;rw [←AV b] at o;have v:=Aa (D.o.put p (Ak S.c.i7 q).v d o);clear o a D n F E L;generalize DD (Ak S.c.i7 q).v=z at*;unfold AS at*;rw [O] at*;rw [show ((7:Nat):Int)=7 from rfl] at*;go_enter Tryz.func95,Tryz.ntmps95;go_wp2_with fail;refine v.o.mono ?_;rintro e w2 ⟨rfl,y,A⟩;have I:=Aa y;have J:=Aa ((Be.s8 x.o).trans A);clear y A v x;go_wp2;go_ret;exact ⟨rfl,I.o,J.o⟩
theorem Qd(b v B)(U:Nat→Prop)(M Q P L O J k X S u c d f r s t h i j p q w)
 (a:EI b v B U M Q P L O J k X S w)(m:p<S.c.i7.length)(n:q<S.c.i7.length)(N:u.kind=5)(D:(Ak S.c.i7 q).v.kind≠2):
 Calls Tryz.prog 95 #[.pointer (some ⟨b,0,none⟩),.agg (AS u (.slice c r h) (.slice d s i) (.slice f t j)),.int .i64 p,.int .i64 q] w fun e G=>e=.returned (.bool true)∧A7 b v B k X {S with Yi:=3} G∧Be b B w G:=by
 obtain ⟨g,R,r1,Y,Z,l⟩:=a.holds (by omega);have E:=Aa (a.p6 ((Ab.refl (fun _=>False) w).alloc (.cells (AS u (.slice c r h) (.slice d s i) (.slice f t j)) 119)));have y:=Aa ((Ab.refl (fun _=>False) w).alloc (.cells (AS u (.slice c r h) (.slice d s i) (.slice f t j)) 119));have V:=a.ml;have o:=BS (a.m.vl q n);rw [←AV n] at o;have F:=BS (a.m.vl p m);rw [←AV m] at F;have T:=(l q n).1;have K:=(l p m).1;have W:decide (DD (Ak S.c.i7 q).v≤0)=true:=by simp;exact o.1.2 D
 have x:=Aa (DU b v B k X S _ E.o.r);clear a E l o F K D;generalize DD (Ak S.c.i7 q).v=z at*;unfold AS at*;rw [N] at*;rw [show ((5:Nat):Int)=5 from rfl] at*;go_enter Tryz.func95,Tryz.ntmps95;go_wp2_with fail;refine x.o.mono ?_;rintro e w2 ⟨rfl,A,C⟩;have H:=Aa A;have I:=Aa ((Be.s8 y.o).trans C);clear A C x y;go_wp2;go_ret;exact ⟨rfl,H.o,I.o⟩
theorem Sz(f K B)(U:Nat→Prop)(T sv Z R Y O G X S u h i j v x A k l m p q w)
 (a:EI f K B U T sv Z R Y O G X S w)(d:p<S.c.i7.length)(r:q<S.c.i7.length)(V:u.kind=5)(H:(Ak S.c.i7 q).v.kind=2):
 Calls Tryz.prog 95 #[.pointer (some ⟨f,0,none⟩),.agg (AS u (.slice h v k) (.slice i x l) (.slice j A m)),.int .i64 p,.int .i64 q] w fun e L=>e=.returned (.bool false)∧A7 f K B G X {S with c:=S.c.set p (Ak S.c.i7 (Ak S.c.i7 q).v.y6).v} L∧Be f B w L:=by
 obtain ⟨g,cm,r1,lg,lr,b⟩:=a.holds (by omega);have I:=Aa (a.p6 ((Ab.refl (fun _=>False) w).alloc (.cells (AS u (.slice h v k) (.slice i x l) (.slice j A m)) 119)));have D:=Aa ((Ab.refl (fun _=>False) w).alloc (.cells (AS u (.slice h v k) (.slice i x l) (.slice j A m)) 119));have a0:=a.ml;have t:=BS (a.m.vl q r);rw [←AV r] at t;have J:=BS (a.m.vl p d);rw [←AV d] at J;have cq:=(b q r).1;have P:=(b p d).1;obtain ⟨Q,o⟩:=t.2.1 H;have cn:=(b _ o).1;have s:=a.m.vl _ o;rw [←AV o] at s;have C:=Aa (I.o.put p _ d s);generalize W:DD (Ak S.c.i7 q).v=z at*;generalize (Ak S.c.i7 q).v.y6=n at*;have hz:decide (z≤0)=false:=by simp;omega
 have a4:z.toNat-1=n:=by omega
 have a5:z-1<(S.c.i7.length:Int):=by omega
 have a6:0≤z-1:=by omega
 clear a I b t J P H s W Q;generalize DD (Ak S.c.i7 n).v=y at*;unfold AS at*;rw [V] at*;rw [show ((5:Nat):Int)=5 from rfl] at*;go_enter Tryz.func95,Tryz.ntmps95;go_wp2_with fail;refine C.o.mono ?_;rintro e w2 ⟨rfl,E,F⟩;have M:=Aa E;have N:=Aa ((Be.s8 D.o).trans F);clear E F C D;go_wp2;go_ret;exact ⟨rfl,M.o,N.o⟩
theorem OA(b v B)(U:Nat→Prop)(M Q P L O J k X S u c d f r s t h i j p q w)
 (a:EI b v B U M Q P L O J k X S w)(m:p<S.c.i7.length)(n:q<S.c.i7.length)(N:u.kind=4)(D:(Ak S.c.i7 q).v.kind≠2):
 Calls Tryz.prog 95 #[.pointer (some ⟨b,0,none⟩),.agg (AS u (.slice c r h) (.slice d s i) (.slice f t j)),.int .i64 p,.int .i64 q] w fun e G=>e=.returned (.bool true)∧A7 b v B k X {S with Yi:=3} G∧Be b B w G:=by
 obtain ⟨g,R,r1,Y,Z,l⟩:=a.holds (by omega);have E:=Aa (a.p6 ((Ab.refl (fun _=>False) w).alloc (.cells (AS u (.slice c r h) (.slice d s i) (.slice f t j)) 119)));have y:=Aa ((Ab.refl (fun _=>False) w).alloc (.cells (AS u (.slice c r h) (.slice d s i) (.slice f t j)) 119));have V:=a.ml;have o:=BS (a.m.vl q n);rw [←AV n] at o;have F:=BS (a.m.vl p m);rw [←AV m] at F;have T:=(l q n).1;have K:=(l p m).1;have W:decide (DD (Ak S.c.i7 q).v≤0)=true:=by simp;exact o.1.2 D
 have x:=Aa (DU b v B k X S _ E.o.r);clear a E l o F K D;generalize DD (Ak S.c.i7 q).v=z at*;unfold AS at*;rw [N] at*;rw [show ((4:Nat):Int)=4 from rfl] at*;go_enter Tryz.func95,Tryz.ntmps95;go_wp2_with fail;refine x.o.mono ?_;rintro e w2 ⟨rfl,A,C⟩;have H:=Aa A;have I:=Aa ((Be.s8 y.o).trans C);clear A C x y;go_wp2;go_ret;exact ⟨rfl,H.o,I.o⟩
theorem OB(b D B)(U:Nat→Prop)(V sv rf T Z Q o X S u d f h x A C i j l p q w)
 (a:EI b D B U V sv rf T Z Q o X S w)(s:p<S.c.i7.length)(t:q<S.c.i7.length)(W:u.kind=4)(J:(Ak S.c.i7 q).v.kind=2)(K:¬((Ak S.c.i7 (Ak S.c.i7 q).v.y6).nm.kind=1∧(Ak S.c.i7 (Ak S.c.i7 q).v.y6).nm.Yk=0)):
 Calls Tryz.prog 95 #[.pointer (some ⟨b,0,none⟩),.agg (AS u (.slice d x i) (.slice f A j) (.slice h C l)),.int .i64 p,.int .i64 q] w fun e N=>e=.returned (.bool true)∧A7 b D B o X {S with Yi:=3} N∧Be b B w N:=by
 obtain ⟨g,cm,r1,lg,lr,c⟩:=a.holds (by omega);have L:=Aa (a.p6 ((Ab.refl (fun _=>False) w).alloc (.cells (AS u (.slice d x i) (.slice f A j) (.slice h C l)) 119)));have F:=Aa ((Ab.refl (fun _=>False) w).alloc (.cells (AS u (.slice d x i) (.slice f A j) (.slice h C l)) 119));have a4:=a.ml;have v:=BS (a.m.vl q t);rw [←AV t] at v;have M:=BS (a.m.vl p s);rw [←AV s] at M;have cq:=(c q t).1;have R:=(c p s).1;obtain ⟨G,m⟩:=v.2.1 J;have cn:=(c _ m).2;have r:=a.m.nm _ m;rw [←AV m] at r;have a0:(VT (Ak S.c.i7 q).v.y6 (Ak S.c.i7 (Ak S.c.i7 q).v.y6).nm !=DD (Ak S.c.i7 q).v-1)=true:=by
  rw [G];unfold VT;rcases r with k | ⟨k,_,_,k2,_⟩
  ·rw [cT (by omega)];simp only [bne_iff_ne,ne_eq];omega
  ·have:(Ak S.c.i7 (Ak S.c.i7 q).v.y6).nm.Yk≠0:=fun e=>K ⟨k,e⟩
   rw [cU k];simp only [bne_iff_ne,ne_eq];omega
 have E:=Aa (DU b D B o X S _ L.o.r);generalize Y:DD (Ak S.c.i7 q).v=z at*;generalize VT (Ak S.c.i7 q).v.y6 (Ak S.c.i7 (Ak S.c.i7 q).v.y6).nm=y at*;generalize (Ak S.c.i7 q).v.y6=n at*;have hz:decide (z≤0)=false:=by simp;omega
 have a5:z.toNat-1=n:=by omega
 have a6:z-1<(S.c.i7.length:Int):=by omega
 have a7:0≤z-1:=by omega
 clear a L c v M R J K r Y G;unfold AS at*;rw [W] at*;rw [show ((4:Nat):Int)=4 from rfl] at*;go_enter Tryz.func95,Tryz.ntmps95;go_wp2_with fail;refine E.o.mono ?_;rintro e w2 ⟨rfl,H,I⟩;have O:=Aa H;have P:=Aa ((Be.s8 F.o).trans I);clear H I E F;go_wp2;go_ret;exact ⟨rfl,O.o,P.o⟩
theorem Qc(h P B)(U:Nat→Prop)(Z sv rf Y pl V L X S u i j l D E F m o r p q w)
 (a:EI h P B U Z sv rf Y pl V L X S w)(f:p<S.c.i7.length)(A:q<S.c.i7.length)(hk:u.kind=4)(M:(Ak S.c.i7 q).v.kind=2)(b:(Ak S.c.i7 (Ak S.c.i7 q).v.y6).nm.kind=1∧(Ak S.c.i7 (Ak S.c.i7 q).v.y6).nm.Yk=0)(hf:u.field≤3):
 Calls Tryz.prog 95 #[.pointer (some ⟨h,0,none⟩),.agg (AS u (.slice i D m) (.slice j E o) (.slice l F r)),.int .i64 p,.int .i64 q] w fun e Q=>e=.returned (.bool false)∧A7 h P B L X {S with c:=S.c.set p ⟨2,(Ak S.c.i7 q).v.y6+u.field⟩} Q∧Be h B w Q:=by
 obtain ⟨g,cm,r1,lg,lr,d⟩:=a.holds (by omega);have N:=Aa (a.p6 ((Ab.refl (fun _=>False) w).alloc (.cells (AS u (.slice i D m) (.slice j E o) (.slice l F r)) 119)));have H:=Aa ((Ab.refl (fun _=>False) w).alloc (.cells (AS u (.slice i D m) (.slice j E o) (.slice l F r)) 119));have a6:=a.ml;have C:=BS (a.m.vl q A);rw [←AV A] at C;have O:=BS (a.m.vl p f);rw [←AV f] at O;have cq:=(d q A).1;have W:=(d p f).1;obtain ⟨s,t⟩:=C.2.1 M;have cn:=(d _ t).2;have x:=a.m.nm _ t;rw [←AV t] at x;have a0:(Ak S.c.i7 q).v.y6+u.field<S.c.i7.length:=by
  rcases x with k | ⟨k,_,_,k2,k3⟩
  ·have:=b.1;omega
  ·have:=b.2;omega
 have a5:(VT (Ak S.c.i7 q).v.y6 (Ak S.c.i7 (Ak S.c.i7 q).v.y6).nm !=DD (Ak S.c.i7 q).v-1)=false:=by rw [s];unfold VT;simp [b.1,b.2]
 have I:DD ⟨2,(Ak S.c.i7 q).v.y6+u.field⟩=DD (Ak S.c.i7 q).v+(u.field:Int):=by rw [s];simp [DD];omega
 have v:=N.o.put p ⟨2,(Ak S.c.i7 q).v.y6+u.field⟩ f (.inr (.inr ⟨rfl,a0⟩));rw [I] at v;have G:=Aa v;generalize a4:DD (Ak S.c.i7 q).v=z at*;generalize VT (Ak S.c.i7 q).v.y6 (Ak S.c.i7 (Ak S.c.i7 q).v.y6).nm=y at*;generalize (Ak S.c.i7 q).v.y6=n at*;have hz:decide (z≤0)=false:=by simp;omega
 have a7:z.toNat-1=n:=by omega
 have a8:z-1<(S.c.i7.length:Int):=by omega
 have a9:0≤z-1:=by omega
 clear a N d C O W M b x a4 s v I;unfold AS at*;rw [hk] at*;rw [show ((4:Nat):Int)=4 from rfl] at*;go_enter Tryz.func95,Tryz.ntmps95;go_wp2_with fail;refine G.o.mono ?_;rintro e w2 ⟨rfl,J,K⟩;have R:=Aa J;have T:=Aa ((Be.s8 H.o).trans K);clear J K G H;go_wp2;go_ret;exact ⟨rfl,R.o,T.o⟩
theorem OC(b v B)(U:Nat→Prop)(M Q P L O K k X S u c d f r s t h i j p q w)
 (a:EI b v B U M Q P L O K k X S w)(m:p<S.c.i7.length)(n:q<S.c.i7.length)(N:u.kind=10)(E:(Ak S.c.i7 p).v.kind≠2):
 Calls Tryz.prog 95 #[.pointer (some ⟨b,0,none⟩),.agg (AS u (.slice c r h) (.slice d s i) (.slice f t j)),.int .i64 p,.int .i64 q] w fun e H=>e=.returned (.bool true)∧A7 b v B k X {S with Yi:=3} H∧Be b B w H:=by
 obtain ⟨g,R,r1,Z,lr,l⟩:=a.holds (by omega);have F:=Aa (a.p6 ((Ab.refl (fun _=>False) w).alloc (.cells (AS u (.slice c r h) (.slice d s i) (.slice f t j)) 119)));have A:=Aa ((Ab.refl (fun _=>False) w).alloc (.cells (AS u (.slice c r h) (.slice d s i) (.slice f t j)) 119));have W:=a.ml;have G:=BS (a.m.vl q n);rw [←AV n] at G;have o:=BS (a.m.vl p m);rw [←AV m] at o;have V:=(l q n).1;have T:=(l p m).1;have Y:decide (DD (Ak S.c.i7 p).v≤0)=true:=by simp;exact o.1.2 E
 have x:=Aa (DU b v B k X S _ F.o.r);clear a F l G o E;generalize DD (Ak S.c.i7 q).v=y at*;generalize DD (Ak S.c.i7 p).v=z at*;unfold AS at*;rw [N] at*;rw [show ((10:Nat):Int)=10 from rfl] at*;go_enter Tryz.func95,Tryz.ntmps95;go_wp2_with fail;refine x.o.mono ?_;rintro e w2 ⟨rfl,C,D⟩;have I:=Aa C;have J:=Aa ((Be.s8 A.o).trans D);clear C D x A;go_wp2;go_ret;exact ⟨rfl,I.o,J.o⟩
theorem Qe(f N B)(U:Nat→Prop)(V sv rf T Z R J X S u h i j x A C k l m p q w)
 (a:EI f N B U V sv rf T Z R J X S w)(s:p<S.c.i7.length)(b:q<S.c.i7.length)(W:u.kind=10)(K:(Ak S.c.i7 p).v.kind=2):
 Calls Tryz.prog 95 #[.pointer (some ⟨f,0,none⟩),.agg (AS u (.slice h x k) (.slice i A l) (.slice j C m)),.int .i64 p,.int .i64 q] w fun e O=>e=.returned (.bool false)∧A7 f N B J X {S with c:=S.c.set (Ak S.c.i7 p).v.y6 (Ak S.c.i7 q).v} O∧Be f B w O:=by
 obtain ⟨g,cm,r1,lg,lr,r⟩:=a.holds (by omega);have L:=Aa (a.p6 ((Ab.refl (fun _=>False) w).alloc (.cells (AS u (.slice h x k) (.slice i A l) (.slice j C m)) 119)));have E:=Aa ((Ab.refl (fun _=>False) w).alloc (.cells (AS u (.slice h x k) (.slice i A l) (.slice j C m)) 119));have a0:=a.ml;have M:=BS (a.m.vl q b);rw [←AV b] at M;have v:=BS (a.m.vl p s);rw [←AV s] at v;have cq:=(r q b).1;have cp:=(r p s).1;obtain ⟨F,o⟩:=v.2.1 K;have t:=a.m.vl q b;rw [←AV b] at t;have d:=L.o.put (Ak S.c.i7 p).v.y6 _ o t;generalize Y:(Ak S.c.i7 p).v.y6=n at d F o⊢;have G:(n:Int)=DD (Ak S.c.i7 p).v-1:=by omega
 rw [G] at d;have D:=Aa d;have hz:decide (DD (Ak S.c.i7 p).v≤0)=false:=by simp;omega
 have a4:DD (Ak S.c.i7 p).v≤200000:=by omega
 have a5:0<DD (Ak S.c.i7 p).v:=by omega
 clear a L r M v K t F o G d Y;generalize DD (Ak S.c.i7 q).v=y at*;generalize DD (Ak S.c.i7 p).v=z at*;unfold AS at*;rw [W] at*;rw [show ((10:Nat):Int)=10 from rfl] at*;go_enter Tryz.func95,Tryz.ntmps95;go_wp2_with fail;refine D.o.mono ?_;rintro e w2 ⟨rfl,H,I⟩;have P:=Aa H;have Q:=Aa ((Be.s8 E.o).trans I);clear H I D E;go_wp2;go_ret;exact ⟨rfl,P.o,Q.o⟩
def Ge(S a:RS):Prop:=a.Yl=S.Yl∧a.m8+a.left=S.m8+S.left
theorem Ge.trans{a b c:RS}(h:Ge a b)(k:Ge b c):Ge a c:=⟨k.1.trans h.1,k.2.trans h.2⟩
def QA(X:List XF)(fn:List ByteArray)(F:Nat):Prop:=∀(c a:Nat) (e:List TS) (d b:Nat) (S:RS),Ge S (AA X fn F c a e d b S).2
section
variable {fn : List ByteArray} {X : List XF}
theorem LT{F:Nat}(e:QA X fn F)(f:Nat)(a:List Vl)(p:Nat)(S:RS):Ge S (E7 X (AA X fn F) f a p S).2:=by
 unfold E7 Cu;by_cases h:S.Yl=40
 ·simp only [cU h,if_true];exact ⟨rfl,rfl⟩
 ·simp only [cT h];have I:=e f S.c.i7.length (Aq X f).Yg (Aq X f).pl (Aq X f).ca {S with c:=S.c.enter f (Aq X f).m9.length a,Yl:=S.Yl+1,YA:=DL};generalize AA X fn F f S.c.i7.length (Aq X f).Yg (Aq X f).pl (Aq X f).ca {S with c:=S.c.enter f (Aq X f).m9.length a,Yl:=S.Yl+1,YA:=DL}=r at I⊢;obtain ⟨d,b⟩:=I;simp only at d b;split
  ·exact ⟨by simp only;omega,b⟩
  ·exact ⟨by simp only;omega,b⟩
theorem Kx{F:Nat}(g:QA X fn F)(d a:Nat)(f:List TS)(e b:Nat):∀(n:Nat) (S:RS),Ge S (DW (AA X fn F d a f e b) n S).2
 | 0,S=>⟨rfl,rfl⟩
 | n+1,S=>by
   unfold DW;simp only;split
   ·exact ⟨rfl,rfl⟩
   ·have I:=g d a f e b {S with c:={S.c with ch:=(D7 S.c.ch).2}};generalize AA X fn F d a f e b {S with c:={S.c with ch:=(D7 S.c.ch).2}}=r at I⊢;split
    ·exact I
    ·split
     ·exact I
     ·rename_i h;have J:=Kx g d a f e b n r.2.one;have O:Ge r.2 r.2.one:=⟨rfl,by simp only [RS.one];omega⟩;exact Ge.trans I (Ge.trans O J)
theorem LU{F:Nat}(a:QA X fn F)(d b:Nat)(t:TS)(e c:Nat)(S:RS):Ge S (Bi X fn (AA X fn F) F d b t e c S).2:=by
 obtain ⟨v,f⟩:=t;unfold Bi;simp only;split
 ·exact ⟨rfl,rfl⟩
 split
 ·split
  ·exact a ..
  ·exact a ..
 split
 ·exact Kx a ..
 split
 ·exact ⟨rfl,rfl⟩
 split
 ·exact LT a ..
 split
 ·split
  ·exact LT a ..
  ·exact ⟨rfl,rfl⟩
 split
 ·exact ⟨rfl,rfl⟩
 ·exact ⟨rfl,rfl⟩
theorem Gt:∀F:Nat,QA X fn F
 | 0=>fun _ _ _ _ _ _=>⟨rfl,rfl⟩
 | F+1=>by
   intro e c b f d S;match b with
   | []=>exact ⟨rfl,rfl⟩
   | t::b=>
     rw [AA];by_cases a:S.left=0
     ·rw [cU a];exact ⟨rfl,rfl⟩
     ·rw [cT a];have T:=LU (Gt F) e c t f d S.one;have O:Ge S S.one:=⟨rfl,by simp only [RS.one];omega⟩;simp only;split
      ·exact O.trans T
      ·exact (O.trans T).trans (Gt F ..)
end
end Go.Proofs.YthppbgndiplgnaaGreatDoor

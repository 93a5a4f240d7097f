/- One of the texts of the proof of runs_card_holds: MaK MaL RuG0 QtA RuGr. -/
import Derived.Test.YthppbgndiplgnaaGreatDoorG33
import Derived.StillTail
set_option maxRecDepth 100000
set_option maxHeartbeats 8000000
namespace Go.Proofs.YthppbgndiplgnaaGreatDoor
open Go.RowKit Go.Maps
theorem CD.Z7{e f d B k o i j n r m g w}(h:CD e f d B j k o i m n r g w)(p)(s:p.1≤200000)(t:p.2≤200000)(v:m.c.Yr.length≤300000):
 ∃b,(Instr.mapUpdate 80 (.map (some d)) (TI p) (.agg #[])).run Tryz.prog w=.ok () b∧CD e f d B j k o i {m with c:={m.c with Yr:=p::m.c.Yr}} n r g b∧Ci e f d B w b:=by
 obtain ⟨l,u⟩:=Wy s t;obtain ⟨b,x,y,a⟩:=h.Yr.add NO Tryz.underlying80 v u;exact ⟨b,x,⟨h.l9.f8 a (fun q=>h.Yr.ne h.l9 q.symm),h.Yz,Ac h.i7 a (Fb h.i7 h.Yr),Ac h.Yw a (Fb h.Yw h.Yr),h.Ys.f8 a (fun q=>h.ne q),y,h.lb,h.ne⟩,a.mono (fun _ _ q=>.inr (.inr (.inl q)))⟩
theorem FY{d p k B o q j c m P w}(h:CM d p k B c o q j m w)(g:BB B w c P){f}(e:f<P.length):
 ∃a b,c=.slice (some ⟨a,0,none⟩) P.length b∧w.cell? ⟨d,0,none⟩=some (.slice (some ⟨a,0,none⟩) P.length b)∧a<w.heap.size∧d<w.heap.size∧w.cell? ⟨a,f*4+2,none⟩=some (.int .i64 (AF P f).p8):=by
 obtain ⟨a,b,rfl,n⟩:=g.form (by omega);obtain ⟨v,u,l,_,_⟩:=g.get e;obtain ⟨s,t,r,h⟩:=h;have i:=h.l9.cell 0;simp only [Iy,aU,aS] at i;rw [Fc e];exact ⟨a,b,rfl,i,n,Ae h.l9,l 2 (by decide)⟩
theorem PG(j s l B:Nat)(n:Value)(A C x:Nat)(P:List PFn)(m:Mc)(q c F:Nat)(f:List Vl)(t:Value)(w:World)(h:CM j s l B n A C x m w)(z:BB B w n P)(K:BY P.length m.c.i7)(p:q<m.c.i7.length)(H:∃a c,t=.slice a f.length c)
 (o:¬((Ak m.c.i7 q).v.kind=1∧(AF P (Ak m.c.i7 q).v.y6).p8=f.length)):
 Calls Tryz.prog 57 #[.pointer (some ⟨j,0,none⟩),.int .i64 q,.int .i64 c,t,.int .i64 F] w fun e D=>e=.returned (.tuple #[])∧CM j s l B n A C x {m with Yi:=3} D∧Ci j s l B w D:=by
 obtain ⟨xa,xc,rfl⟩:=H;obtain ⟨g,R,r5,lg,lm,y⟩:=h.holds p;obtain ⟨M,u,_⟩:=y q p;have Z:(q:Int)<(m.c.i7.length:Int):=by omega
 have N:w.cell? ⟨g,q*5+3+1,none⟩=some (.int .i64 (Ak m.c.i7 q).v.y6):=u;have r:=(K.at_ p).2;have k:=Aa z;have E:=Aa h;obtain ⟨mv,rv,Q,b⟩:=h;have L:=b.l9.cell 7;have T:=b.l9.frozen 7;simp only [Iy,aU,aS,aT] at L;have d:=Aa (fun (W:World) (G:Ab (fun _=>False) w W)=>(b.p6 G).wrote (m':={m with Yi:=3}) 7 (.int .i64 3) rfl b.Yz rfl rfl rfl rfl);clear b y u z;generalize (Ak m.c.i7 q).v=v at*;by_cases i:v.kind=1
 ·have I:v.y6<P.length:=by rcases r with ⟨e,_⟩ | ⟨_,e⟩ | ⟨e,_⟩<;>omega
  obtain ⟨U,O,rfl,r0,a0,_,S⟩:=FY E.o k.o I;have Y:((AF P v.y6).p8:Int)≠(f.length:Int):=fun e=>o ⟨i,by omega⟩
  have X:(((AF P v.y6).p8:Int) !=(f.length:Int))=true:=by simp;omega
  have J:((v.kind:Int) !=1)=false:=by simp [i]
  have V:(v.y6:Int)<(P.length:Int):=by omega
  generalize (AF P v.y6).p8=pp at*;clear o r i k;go_enter Tryz.func57,Tryz.ntmps57;go_wp2_with fail;go_quiet (fail);go_wp2_with fail;exact bC (v:=.tuple #[]) (by simp [results,Tryz.results57,go_sem]) rfl ⟨rfl,⟨_,_,_,(d.o _ (by repeat (first | exact Ab.refl _ _ | refine Ab.drew ?_ | refine Ab.drewN ?_ _ | refine Ab.alloc ?_ _))).1⟩,(Ci.s8 (by repeat (first | exact Ab.refl _ _ | refine Ab.drew ?_ | refine Ab.drewN ?_ _ | refine Ab.alloc ?_ _))).trans (d.o _ (by repeat (first | exact Ab.refl _ _ | refine Ab.drew ?_ | refine Ab.drewN ?_ _ | refine Ab.alloc ?_ _))).2⟩
 ·have J:((v.kind:Int) !=1)=true:=by simp;omega
  clear o r i k;go_enter Tryz.func57,Tryz.ntmps57;go_wp2_with fail;go_quiet (fail);go_wp2_with fail;exact bC (v:=.tuple #[]) (by simp [results,Tryz.results57,go_sem]) rfl ⟨rfl,⟨_,_,_,(d.o _ (by repeat (first | exact Ab.refl _ _ | refine Ab.drew ?_ | refine Ab.drewN ?_ _ | refine Ab.alloc ?_ _))).1⟩,(Ci.s8 (by repeat (first | exact Ab.refl _ _ | refine Ab.drew ?_ | refine Ab.drewN ?_ _ | refine Ab.alloc ?_ _))).trans (d.o _ (by repeat (first | exact Ab.refl _ _ | refine Ab.drew ?_ | refine Ab.drewN ?_ _ | refine Ab.alloc ?_ _))).2⟩
theorem PE(d j f B:Nat)(i:Value)(t u l:Nat)(P:List PFn)(n:Nat)(m:Mc)(q c k:Nat)(b:List Vl)(A:Value)(w:World)(h:CM d j f B i t u l m w)(H:BB B w i P)(r:BM P (n+1) m)(s:q<m.c.i7.length)(U:(Ak m.c.i7 q).v.kind=1∧(AF P (Ak m.c.i7 q).v.y6).p8=b.length)(o:40≤m.u8.length)(S:∃a c,A=.slice a b.length c):
 Calls Tryz.prog 57 #[.pointer (some ⟨d,0,none⟩),.int .i64 q,.int .i64 c,A,.int .i64 k] w fun e M=>e=.returned (.tuple #[])∧CM d j f B i t u l {m with Yi:=4} M∧Ci d j f B w M:=by
 obtain ⟨V,X,rfl⟩:=S;obtain ⟨g,cm,r5,lg,lm,E⟩:=h.holds s;obtain ⟨Y,C,_⟩:=E q s;have a3:(q:Int)<(m.c.i7.length:Int):=by omega
 have Z:w.cell? ⟨g,q*5+3+1,none⟩=some (.int .i64 (Ak m.c.i7 q).v.y6):=C;have J:=(r.i7.at_ s).2;have z:=Aa H;have y:=Aa h;have N:=Aa r;clear E C;generalize (Ak m.c.i7 q).v=v at*;obtain ⟨G,I⟩:=U;have F:v.y6<P.length:=by rcases J with ⟨e,_⟩ | ⟨_,e⟩ | ⟨e,_⟩<;>omega
 obtain ⟨gf,cf,T,r0,a4,_,d2⟩:=FY y.o z.o F;have a2:(((AF P v.y6).p8:Int) !=(b.length:Int))=false:=by simp [I]
 have a1:((v.kind:Int) !=1)=false:=by simp [G]
 have a0:(v.y6:Int)<(P.length:Int):=by omega
 have p:=fun (W:World) (R:Ab (fun _=>False) w W)=>Ju d j f B i t u l P m v.y6 k b (.slice V b.length X) W (y.o.p6 R) o N.o.Yl ⟨_,_,_,rfl⟩
 have D:Bu P m v.y6 b k={m with Yi:=4}:=by unfold Bu;rw [cU o]
 rw [D] at p;have x:=Aa p;generalize (AF P v.y6).p8=pp at*;subst T;clear J G z D p I h H r F o;go_enter Tryz.func57,Tryz.ntmps57;go_wp2_with fail;go_quiet (fail);go_wp2_with fail;refine (x.o _ (by repeat (first | exact Ab.refl _ _ | refine Ab.drew ?_ | refine Ab.drewN ?_ _ | refine Ab.alloc ?_ _))).mono ?_;rintro e w2 ⟨rfl,K,L⟩;have O:=Aa K;have Q:=Aa ((Ci.s8 (a:=w) (by repeat (first | exact Ab.refl _ _ | refine Ab.drew ?_ | refine Ab.drewN ?_ _ | refine Ab.alloc ?_ _))).trans L);clear K L x;go_wp2_with fail;go_end0;exact ⟨rfl,O.o,Q.o⟩
theorem Rm(l):∀(a:Nat) (c:Co) (e:List (Nat×Nat)),CH l a {c with Yr:=e}={(CH l a c) with Yr:=e}:=by
 induction l with
 | nil=>intro a c e;rfl
 | cons v l b=>intro a c e;simp only [CH];exact b (a+1) (c.set a v) e
theorem Uh(i p f B:Nat)(j:Value)(z A t:Nat)(P:List PFn)(n:Nat)(m:Mc)(q c d D:Nat)(b:List Vl)(G:Value)(w:World)(h:CM i p f B j z A t m w)(U:BB B w j P)(x:BM P (n+1) m)(y:q<m.c.i7.length)(hn:(Ak m.c.i7 q).v.kind=1∧(AF P (Ak m.c.i7 q).v.y6).p8=b.length)(k:Gi P)(Q:m.u8.length<40)(L:∀v,v∈b→Cn P.length m.c.i7.length v)(a5:c≤4000)(o:w.ownsRow D 149 2 G b.length (Nf b)):
 Calls Tryz.prog 57 #[.pointer (some ⟨i,0,none⟩),.int .i64 q,.int .i64 c,G,.int .i64 d] w fun e Z=>e=.returned (.tuple #[])∧CM i p f B j z A t (Bu P {m with c:={m.c with Yr:=(c,(Ak m.c.i7 q).v.y6)::m.c.Yr}} (Ak m.c.i7 q).v.y6 b d) Z∧Ci i p f B w Z:=by
 obtain ⟨xa,xl,xc,rfl⟩:=Ad o;have a4:=Ah o;subst a4;obtain ⟨g,cm,r5,lg,lm,O⟩:=h.holds y;obtain ⟨c3,H,_⟩:=O q y;have b0:(q:Int)<(m.c.i7.length:Int):=by omega
 have c5:w.cell? ⟨g,q*5+3+1,none⟩=some (.int .i64 (Ak m.c.i7 q).v.y6):=H;have Y:=(x.i7.at_ y).2;have s:=Aa U;have r:=Aa h;have F:=Aa x;clear O H;generalize (Ak m.c.i7 q).v=v at*;obtain ⟨T,V⟩:=hn;have S:v.y6<P.length:=by rcases Y with ⟨e,_⟩ | ⟨_,e⟩ | ⟨e,_⟩<;>omega
 obtain ⟨gf,cf,a2,r0,b2,_,d2⟩:=FY r.o s.o S;have a9:(((AF P v.y6).p8:Int) !=(b.length:Int))=false:=by simp [V]
 have a8:((v.kind:Int) !=1)=false:=by simp [T]
 have a7:(v.y6:Int)<(P.length:Int):=by omega
 have a3:=k.YN v.y6;have R:=fun (W:World) (u:Ab (fun _=>False) w W)=>Hv i p f B j z A t P n m v.y6 d D b (.slice xa b.length xc) W (r.o.p6 u) (s.o.p6 u) k F.o.aC Q S L (by omega) (Ac o u (fun _ _ q=>q))
 have E:=Aa R;have K:Bu P {m with c:={m.c with Yr:=(c,v.y6)::m.c.Yr}} v.y6 b d={(Bu P m v.y6 b d) with c:={(Bu P m v.y6 b d).c with Yr:=(c,v.y6)::(Bu P m v.y6 b d).c.Yr}}:=by unfold Bu;simp only;rw [cT (by omega),cT (by omega)];unfold Co.enter;simp only [IY];congr 1;exact Rm b m.c.i7.length (m.c.m9 v.y6 (AF P v.y6).m9.length) _
 rw [K];have a1:(Bu P m v.y6 b d).c.Yr.length≤300000:=by unfold Bu;rw [cT (by omega)];simp only [Co.enter,IY,Co.m9];have:=F.o.pl;omega
 have a6:=k.Yx;have a0:=Aa (Ar.new w #[.int .i64 v.kind,.int .i64 v.y6] 149);generalize (AF P v.y6).p8=pp at*;generalize Bu P m v.y6 b d=M at*;subst a2;clear Y T s K R V h U x Q k L a3 o;go_enter Tryz.func57,Tryz.ntmps57;go_wp2_with fail;go_quiet (fail);go_wp2_with fail;refine (E.o _ (by repeat (first | exact Ab.refl _ _ | refine Ab.drew ?_ | refine Ab.drewN ?_ _ | refine Ab.alloc ?_ _))).mono ?_;rintro e w2 ⟨rfl,s1,C⟩;have S2:=Aa ((Ci.s8 (a:=w) (by repeat (first | exact Ab.refl _ _ | refine Ab.drew ?_ | refine Ab.drewN ?_ _ | refine Ab.alloc ?_ _))).trans C);have N:=Aa (C.l9 (r.o.p6 (by repeat (first | exact Ab.refl _ _ | refine Ab.drew ?_ | refine Ab.drewN ?_ _ | refine Ab.alloc ?_ _))) (Ar.f8 a0.o (Ab.drewN (Ab.refl (fun _=>False) _) _) (fun q=>q)) (by decide) (by decide) (by decide));have b1:=N.o.cell 1;have lb:=Ae N.o;simp only [aU,aS,aT] at b1;obtain ⟨mv,rv,ch,l⟩:=s1;have r9:=l.l9.cell 9;have b3:=Ae l.l9;simp only [Iy,aU,aS,aT] at r9;obtain ⟨w3,X,J,I⟩:=(l.p6 ((Ab.refl (fun _=>False) w2).drew)).Z7 (c,v.y6) (by simp only;omega) (by simp only;omega) a1;have X:(Instr.mapUpdate 80 (.map (some f)) (.agg #[.int .i64 c,.int .i64 v.y6]) (.agg #[])).run Tryz.prog _=.ok () w3:=X;have H3:=Aa J;have F3:=Aa ((S2.o.trans (Ci.s8 ((Ab.refl (fun _=>False) w2).drew))).trans I);clear C E l J I;go_wp2_with fail;go_region;go_wp2_with fail;go_end0;exact ⟨rfl,⟨_,_,_,H3.o⟩,F3.o⟩
theorem VX(f:Hi)(r:List Hi)(k:Nat):(Nd (f::r)).set (r.length*4+2) (.int .i64 k)=Nd ({f with i8:=k}::r):=by rw [Im,Im];have h:=QN r;rw [List.set_append];rw [cT (by omega)];congr 1;rw [show r.length*4+2-(Nd r).length=2 by omega];rfl
theorem CD.Zx{d i c B u x o g n j p v m l f r w}(h:CD d i c B p u x o m v (.slice (some ⟨g,0,none⟩) n j) l w)(s:m.u8=f::r)(k):
 CD d i c B p u x o {m with u8:={f with i8:=k}::r} v (.slice (some ⟨g,0,none⟩) n j) l (w.setCell ⟨g,r.length*4+2,none⟩ (.int .i64 k))∧Ci d i c B w (w.setCell ⟨g,r.length*4+2,none⟩ (.int .i64 k)):=by
 have C:=Ah h.Yw;subst C;obtain ⟨y,b⟩:=BO h.Yw;have z:=(h.Yw.lt g rfl).1;have a:Ab (fun k=>k=g) w (w.setCell ⟨g,r.length*4+2,none⟩ (.int .i64 k)):=(Ab.refl _ _).p7 _ _;have t:=(h.Yw.stored (r.length*4+2) (.int .i64 k)).1;have e:(Nd m.u8).set (r.length*4+2) (.int .i64 k)=Nd ({f with i8:=k}::r):=by rw [s];exact VX f r k
 rw [e] at t;have A:({f with i8:=k}::r:List Hi).length=m.u8.length:=by rw [s];simp
 refine ⟨⟨h.l9.f8 a (fun q=>Ap h.Yw h.l9 (by decide) g rfl q.symm),h.Yz,Ac h.i7 a (Ap h.i7 b (by decide)),?_,h.Ys.f8 a (h.Ys.ne b),h.Yr.f8 a (h.Yr.ne b),h.lb,h.ne⟩,a.mono (fun k _ q=>by subst q;exact .inr (.inr (.inr ⟨z,y,_,_,b,.inr rfl⟩)))⟩;show World.ownsRow _ B _ 4 _ ({f with i8:=k}::r:List Hi).length (Nd ({f with i8:=k}::r));rw [A];exact t
theorem CD.Zt{s v o B t x l g n e p u m k f r w}(h:CD s v o B p t x l m u (.slice (some ⟨g,0,none⟩) n e) k w)(c:m.u8=f::r):
 w.cell? ⟨g,r.length*4+2,none⟩=some (.int .i64 f.i8)∧w.frozen? ⟨g,r.length*4+2,none⟩=false∧g<w.heap.size:=by
 obtain ⟨y,b⟩:=BO h.Yw;have z:m.u8.length=r.length+1:=by rw [c];simp
 have q:=Ah h.Yw;subst q;refine ⟨?_,Aw b _,Ae b⟩;have d:=h.Yw.cellAt (r.length*4+2) (by omega);have a:=Pt m.u8 (i:=0) (j:=2) (by omega) (by decide);rw [show m.u8.length-1-0=r.length by omega] at a;rw [d,a];simp only [c,bQ];rfl
theorem CD.Y2{s v l B t x k g n d o u m e f r w}(h:CD s v l B o t x k m u (.slice (some ⟨g,0,none⟩) n d) e w)(b:m.u8=f::r):
 w.cell? ⟨g,r.length*4+1,none⟩=some (.int .i64 f.base)∧g<w.heap.size:=by
 obtain ⟨y,p⟩:=BO h.Yw;have z:m.u8.length=r.length+1:=by rw [b];simp
 have q:=Ah h.Yw;subst q;refine ⟨?_,Ae p⟩;have c:=h.Yw.cellAt (r.length*4+1) (by omega);have a:=Pt m.u8 (i:=0) (j:=1) (by omega) (by decide);rw [show m.u8.length-1-0=r.length by omega] at a;rw [c,a];simp only [b,bQ];rfl
theorem Be.runs{e B b d X S w}(a:A7 b e B d X S w):∃c,Ar b c 39 w:=by obtain ⟨g,h,f,i,a⟩:=a;exact ⟨_,a.l9⟩
structure JH(rb pb B:Nat)(U:Nat→Prop)(fv sv:Value)(rf:List RF)(fs:List FS)(p0 c0:Nat)(fn:List ByteArray)(par:List Nat)(X:List XF)(fi base K:Nat)(S:RS)(w:World):Prop where
 st:OZ fn par X rf fs
 r:A7 rb pb B fn X S w
 p:Ls pb B U fv sv rf fs p0 c0 w
 m:BY fn.length S.c.i7
 ml:S.c.i7.length+20*S.left+16≤K
 pl:S.c.Ys.length+S.c.Yr.length+20*S.left+16≤K
 gv:Cn fn.length S.c.i7.length S.YA
 k:K≤150000
 YW:S.m8+S.left≤5000
 dp:S.Yl≤40
 en:S.Yi=0
 lf:fi<rf.length
 ba:base+(Aq X fi).m9.length≤S.c.i7.length
theorem JH.p6{l k B}{U:Nat→Prop}{f n m e i b d j X c a K S w o}(h:JH l k B U f n m e i b d j X c a K S w)(g:Ab (fun _=>False) w o):JH l k B U f n m e i b d j X c a K S o:=
 ⟨h.st,h.r.p6 g,h.p.p6 g,h.m,h.ml,h.pl,h.gv,h.k,h.YW,h.dp,h.en,h.lf,h.ba⟩
theorem JH.at_{b s B}{U:Nat→Prop}{n x v m r g l z X a K S w}(u)(h:JH b s B U n x v m r g l z X u.Yh a K S w)(c d f o p q i j k t)(y:t.i6∈(Aq X u.Yh).m9):
 Calls Tryz.prog 92 #[.pointer (some ⟨b,0,none⟩),.agg (AS u (.slice c o i) (.slice d p j) (.slice f q k)),.int .i64 a,HJ t] w fun e A=>e=.returned (.int .i64 ((a+vx (Aq X u.Yh).m9 t.i6:Nat):Int))∧Ab (fun _=>False) w A:=
 FZ b s B U n x v m r g l X S u c d f o p q i j k a t w h.r h.p h.st.h h.lf (by have:=h.ml;have:=h.ba;have:=h.k;omega) y
theorem Ry{a m X}(b:XOk a m X){F K f args S}(k:BY a.length S.c.i7)(o:S.c.i7.length+20*S.left+14≤K)(p:S.c.Ys.length+S.c.Yr.length+20*S.left+14≤K)(j:S.left<F)(i:∀v,v∈args→Cn a.length S.c.i7.length v)(s:args.length≤12)(e:(Cu X (AA X a F) f args S).1=true):
 Mx (K-1) a.length (Cu X (AA X a F) f args S).2∧S.c.i7.length≤(Cu X (AA X a F) f args S).2.c.i7.length:=by
 unfold Cu at e⊢;by_cases h:S.Yl=40
 ·simp only [cU h] at e;cases e
 ·simp only [cT h];have q:=b.Yx f;obtain ⟨g,n⟩:=Kh k f (Aq X f).m9.length i;have I:=Iq b F (K-1) f S.c.i7.length (Aq X f).Yg (Aq X f).pl (Aq X f).ca {S with c:=S.c.enter f (Aq X f).m9.length args,Yl:=S.Yl+1,YA:=DL} ⟨g.m,by simp only;omega,by have:=g.se;simp only;omega,GH _ _⟩ j (by simp only;omega) (b.us f) (b.pl f);generalize AA X a F f S.c.i7.length (Aq X f).Yg (Aq X f).pl (Aq X f).ca {S with c:=S.c.enter f (Aq X f).m9.length args,Yl:=S.Yl+1,YA:=DL}=r at I⊢;obtain ⟨d,l,t⟩:=I;simp only at l;exact ⟨⟨d.m,d.ml,d.pl,d.gv⟩,by omega⟩
theorem Dk.ZN{b g B m i X S S' f o a e v l W c}(h:Dk b g B i X S f o e v W)(p:Ab (fun _=>False) W c)(q:B≤m)(n:AB m c a l)(u:Ek i X l S'.c.Ys S'.c.Yr)(r:F7 g f e S' a=(F7 g f e S o).setIfInBounds 7 a)(t:S'.c.i7=S.c.i7)(s:S'.c.ch=S.c.ch):
 Dk b g B i X S' f a e l (c.setCell ⟨b,7,none⟩ a)∧Be b B W (c.setCell ⟨b,7,none⟩ a):=by
 have j:Ab (fun k=>k=b) c (c.setCell ⟨b,7,none⟩ a):=(Ab.refl _ _).p7 7 _;have d:=h.p6 p;refine ⟨⟨by rw [r];exact d.l9.set 7 a,by rw [s];exact h.Yz,?_,Ac (Ax n q) j (Ap n d.l9 (by decide)),u,h.lb⟩,(Be.s8 p).trans (Be.Yu j)⟩;rw [t];exact Ac d.i7 j (Ap d.i7 d.l9 (by decide))
theorem Tryz.infoVal:(Tryz.prog.info? 37).map (fun i=>(i.zero,i.size,i.bytes))=some (some (.int .i64 0),1,8):=by kernel_rfl
section
variable {P : Program} {p : Array Oper} {md : Region.Mode} {C : World → Prop}
def Q4(md:Region.Mode)(p:Array Oper)(m n:Nat):Bool:=(List.range n).all fun i=>decide (i<m) || (List.range (n+1)).any fun j=>decide (i<j) && Region.waitsFor md p j i
theorem Mo{m n:Nat}{h:Array Bool}(B:Q4 md p m n=true)(w:Region.chainB md p n=true)(l:HeadInv md p n h):
 ∀(d i:Nat),n-i=d→m≤i→i<n→h.getD i true=false→∀t,n≤t→t∉Region.ready md p h:=by
 intro d;induction d using Nat.strongRecOn with
 | _ d E=>
   intro i G I x v t J u;obtain ⟨_,L,k,o⟩:=mem_ready.1 u;have C:t<p.size:=(Array.getElem?_eq_some_iff.1 k).1;by_cases D:t=n
   ·subst D;have b:=List.all_eq_true.1 B i (List.mem_range.2 x);simp only [Bool.or_eq_true,cQ] at b;obtain ⟨j,y,q⟩:=List.any_eq_true.1 (b.resolve_left (by omega));simp only [Bool.and_eq_true,cQ] at q;obtain ⟨F,s,e,f,c,g⟩:=Region.waitsFor_spec q.2;have H:=List.mem_range.1 y;by_cases z:j=t
    ·subst z;obtain rfl:=dE (s.symm.trans k);have a:=o e f c;rw [g,getD_both v] at a;cases a
    ·cases r:h.getD j false with
     | true=> have a:=l.closed j F s r e f c;rw [g,getD_both v] at a;cases a
     | false=>exact E (t-j) (by omega) j rfl (by omega) (by omega) (getD_in (by rw [l.size];omega) r) t (aV _) u
   ·have b:=List.all_eq_true.1 w t (List.mem_range.2 C);simp only [Bool.or_eq_true,cQ] at b;obtain ⟨K,A,e,f,c,g⟩:=Region.waitsFor_spec (b.resolve_left (by omega));obtain rfl:=dE (A.symm.trans k);have a:=o e f c;rw [g,getD_both (l.tail (t-1) (by omega) (by omega))] at a;cases a
def NE(P:Program)(md:Region.Mode)(p:Array Oper)(C:World→Prop)(n:Nat)(L:Array Bool→Act→Prop):Nat→Array Bool→Act→Prop
 | 0,b,a=>L b a
 | f+1,b,a=>Region.ready md p b≠[]∧∀i∈Region.ready md p b,i<n∧qOp P p C i (NE P md p C n L f (b.setIfInBounds i true)) a
theorem FJ{n g:Nat}{L:Array Bool→Act→Prop}{Q':Exit→Act→World→Prop}(d:∀b a w,C w→L b a→wpAny P md p Q' g b a w):
 ∀(f:Nat) (b:Array Bool) (a:Act) (w:World),C w→NE P md p C n L f b a→wpAny P md p Q' (f+g) b a w
 | 0,b,a,w,c,h=>by rw [cB];exact d _ _ _ c h
 | f+1,b,a,w,c,h=>by rw [show f+1+g=(f+g)+1 by omega];exact ⟨fun k=>dC k h.1,fun i m=>wpOp_of_qOp c (fun e o l j=>FJ d f _ e o l j) (h.2 i m).2⟩
theorem NF{m n i t v}{L:Array Bool→Act→Prop}(z:p[i]? =some t)(M:∀(j:Nat) (o:Oper) s b,p[j]? =some o→o.op≠.select s b)
 (K:Q4 md p m n=true)(D:Region.chainB md p n=true)(J:m≤i)(F:i<n)(U:∀c a,L c a→∀j∈Region.ready md p c,n≤j):
 ∀(f:Nat) (c:Array Bool) (a:Act),HeadInv md p n c→
  (∀j r,p[j]? =some r→j≠i→c.getD j true=false→(∀e∈r.after,Region.binds md e=true→e.on≠i)→t.apart p r=true)→
  i∈Region.ready md p c→YieldsIn P p C t v a→
  NE P md p C n L f (c.setIfInBounds i true) (a.put t.dst v)→NE P md p C n L (f+1) c a:=by
 intro f;induction f with
 | zero=>
   intro c a y _ g x H;have w:=(mem_ready.1 g).1;refine ⟨fun h=>(by rw [h] at g;cases g),fun j l=>?_⟩;have u:j<n:=(cJ j n).resolve_right (fun q=>Mo K D y _ i rfl J F w j q l);refine ⟨u,?_⟩;by_cases d:j=i
   ·subst d;exact x.qOp z H
   ·have:=U _ _ H j (ready_mono l d);omega
 | succ f ih=>
   intro c a y E g x H;have w:=(mem_ready.1 g).1;refine ⟨fun h=>(by rw [h] at g;cases g),fun j l=>?_⟩;have u:j<n:=(cJ j n).resolve_right (fun q=>Mo K D y _ i rfl J F w j q l);refine ⟨u,?_⟩;by_cases d:j=i
   ·subst d;exact x.qOp z H
   ·have Q:=(H.2 j (ready_mono l d)).2;obtain ⟨I,r,A,S⟩:=mem_ready.1 l;have a0:∀e∈r.after,Region.binds md e=true→e.on≠i:=fun e V T W=>by have q:=S e V T;rw [W,getD_both w] at q;cases q
    have R:=qOp_put A (E j r A d I a0) (fun s b=>M i t s b z) (fun s b=>M j r s b A) x Q;refine qOp_mono (fun O B=>ih (c.setIfInBounds j true) O (y.set l u) (fun k ok X Y N Z=>?_) (ready_mono g (Ne.symm d)) B.1 ?_) R
    ·refine E k ok X Y ?_ Z;by_cases G:j=k
     ·subst G;exact I
     ·rw [getD_set_ne true G] at N;exact N
    ·rw [Array.setIfInBounds_comm _ _ d];exact B.2
theorem I7{m n g:Nat}{f:Act→Prop}(x:Region.noSelect p=true)(w:Q4 md p m n=true)(r:Region.chainB md p n=true):
 ∀(l:List Oper) (k:Nat) (b:Array Bool) (a:Act),(∀j,j<l.length→l[j]? =p[k+j]?)→m≤k→k+l.length=n→HeadInv md p n b→
 Region.lexHead md p g l.length k b=true→wpQuiet P p C f l a→
 NE P md p C n (fun z q=>Region.seqB md p g n z=true∧f q) l.length b a
 | [],k,b,a,_,_,i,_,d,h=>by
   have e:k=n:=by simpa using i
   subst e;exact ⟨by simpa [Region.lexHead] using d,h⟩
 | o::l,k,b,a,t,F,i,y,d,h=>by
   have c:p[k]? =some o:=by simpa using (t 0 (by simp)).symm
   simp only [aX,Region.lexHead,Bool.and_eq_true] at d;obtain ⟨⟨G,E⟩,A⟩:=d;simp only [aX] at i;have s:k<n:=by omega
   have u:k∈Region.ready md p b:=by simpa using G
   have H:qOp P p C k (wpQuiet P p C f l) a:=by unfold qOp;simp only [c];exact h
   obtain ⟨v,I,B⟩:=yieldsIn_of_qOp c H;exact NF c (Region.noSelect_spec x) w r F s (fun z q D=>seqB_ready D.1) l.length b a y (Region.free_spec c E) u I
    (I7 x w r l (k+1) _ _ (fun j J=>by have:=t (j+1) (by simp;omega);simpa [Nat.add_assoc,Nat.add_comm 1 j] using this) (by omega) (by omega) (y.set u s) A B)
def MW(md:Region.Mode)(p:Array Oper)(n:Nat):Bool:=
 Region.noSelect p && decide (n<p.size) && decide (1≤n) && Q4 md p 1 n && Region.chainB md p n && Region.free md p (Array.replicate p.size false) 0 && (Region.ready md p (Array.replicate p.size false)).contains 0 && Region.lexHead md p (p.size-n) (n-1) 1 ((Array.replicate p.size false).setIfInBounds 0 true)
theorem Fo{R}{Q:Exit→Act→World→Prop}{a w o l v}(n)(I:P.follows .mixedOrders=true)(f:MW .any (o::l).toArray n=true)
 (B:∀c a w,Q (.panic c) (a.put o.dst v) w→Q (.panic c) a w)(O:Yields P (o::l).toArray o v a)
 (h:wpQuiet P (o::l).toArray (fun b=>∃n,b=w.drewN n) (fun d=>∀b,(∃n,b=w.drewN n)→wpList P (o::l).toArray Q (l.drop (n-1)) d b) (l.take (n-1)) (a.put o.dst v)):(Code.region R (o::l).toArray true).wp P Q a w:=by
 simp only [MW,Bool.and_eq_true,cQ] at f;obtain ⟨⟨⟨⟨⟨⟨⟨x,J⟩,V⟩,L⟩,D⟩,E⟩,u⟩,G⟩:=f;have W:n<l.length+1:=by simpa using J
 have e:(l.take (n-1)).length=n-1:=by simp;omega
 have M:(o::l).toArray.size=l.length+1:=by simp
 have q:(l.drop (n-1)).length=(o::l).toArray.size-n:=by simp;omega
 have z:(o::l).toArray[0]? =some o:=by simp
 have S:HeadInv .any (o::l).toArray n (Array.replicate (o::l).toArray.size false):=
  ⟨by simp,fun j X _ s=>(by rw [getD_replicate_false] at s;cases s),fun t _ N=>getD_in (by simpa using N) (getD_replicate_false _ _)⟩
 have K:0∈Region.ready .any (o::l).toArray (Array.replicate (o::l).toArray.size false):=by simpa using u
 have T:=S.set K (by omega);have H:=I7 (md:=.any) (m:=1) (g:=(o::l).toArray.size-n) x L D (l.take (n-1)) 1 _ (a.put o.dst v) (fun j r=>by
  have F:j<n-1:=by rw [e] at r;exact r
  simp [F,Nat.add_comm 1 j]) (aV _) (by omega) T (by rw [e];exact G) h
 refine wp_region_any I ?_;have y:=FJ (C:=fun b=>∃n,b=w.drewN n) (Q':=Q) (g:=(o::l).toArray.size-n) (fun U d b A i=>by
  have:=wpAny_of_seq (md:=.any) (Q':=Q) (l.drop (n-1)) n U d b (fun j=>by rw [List.getElem?_drop];obtain ⟨k,rfl⟩:∃k,n=k+1:=⟨n-1,by omega⟩;simp [Nat.add_right_comm k 1 j]) (by rw [q];exact i.1) (i.2 b A)
  rwa [q] at this) _ _ _ _ ⟨1,rfl⟩ H
 rw [e,show n-1+((o::l).toArray.size-n)=l.length by omega] at y;rw [M];exact wpAny_take z x E u B O y
end
theorem Wb(R:Act→World→Prop)(b r k i f t p u B:Nat)(l:Option Addr)(n:Nat)(c:List ByteArray)(D g:ByteArray)(wc:World){F x2 x3 x5 x6 x8 x9 G S a5 b6 c7 d1 d2 d3 d4 d5 d6 d7 d8 e0 e1 e2 e3 e4 e5 e6 e7 e8 e9 f1 f2 f3 f4 f5 f6 f7 f8 f9 g0 g1 g2 g3 g4 g5 g6 g7 g8 g9 h0 h1 h2 h3 h4 h5 h6 h7 h8 h9 i0 i1 i2 i3 i4 i5 i6 j6 j7 j8 j9 k0 k1 k2 k3 k4 k5 k6 k7 k8 k9 l0 l1 l2 l3 l4 l5 l6 l7 l8 l9 m0 m1 i7 i8 i9 j0 j1 H I J K L M N O P Q T U V Y Z a0 a1 a2 a3 a4 a6 a7 a8 a9 b0 b1 b2 b3 b4 b5 b7 b8 b9 c0 c1 c2 c3 c4 c5 c6 c8 c9 d0:Value}
 (R0:wc.cell? ⟨b,0,none⟩=some (.pointer (some ⟨k,0,none⟩)))(R7:wc.cell? ⟨b,7,none⟩=some (.slice l c.length n))(RZ:wc.frozen? ⟨b,7,none⟩=false)(C:b<wc.heap.size)(d9:wc.cell? ⟨r,9,none⟩=some (.int .i64 (t:Int)))(P0:wc.cell? ⟨k,0,none⟩=some (.slice (some ⟨i,0,none⟩) p u))(f0:wc.cell? ⟨i,f*7,none⟩=some (.string g))(m7:f<p)
 (x:∀W:World,Calls Tryz.prog 94 #[.int .i64 (t:Int)] W fun e E=>e=.returned (.string D)∧∃m,E=W.drewN m)(A:AB B wc (.slice l c.length n) c)(m9:c.length≤200000)(hD:D.size≤5000)(hn:g.size≤5000)
 (y:∀(o:Value) (d:World),AB wc.heap.size d o (D3 c ((⟨#[33]⟩:ByteArray)++D++⟨#[62]⟩++g))→Ab (fun _=>False) wc d→R {tmps:=#[.pointer (some ⟨b,0,none⟩),F,x2,x3,.pointer (some ⟨r,0,none⟩),x5,x6,.int .i64 (f:Int),x8,x9,G,S,a5,b6,c7,d1,d2,d3,d4,d5,d6,d7,d8,e0,e1,e2,e3,e4,e5,e6,e7,e8,e9,f1,f2,f3,f4,f5,f6,f7,f8,f9,g0,g1,g2,g3,g4,g5,g6,g7,g8,g9,h0,h1,h2,h3,h4,h5,h6,h7,h8,h9,i0,i1,i2,i3,i4,i5,i6,.pointer (some ⟨b,0,none⟩),.pointer (some ⟨b,0,none⟩),.pointer (some ⟨b,0,none⟩),.pointer (some ⟨b,7,none⟩),.slice l c.length n,.pointer (some ⟨r,9,none⟩),.int .i64 (t:Int),.string D,.string ((⟨#[33]⟩:ByteArray)++D),.string ((⟨#[33]⟩:ByteArray)++D++⟨#[62]⟩),.pointer (some ⟨b,0,none⟩),.pointer (some ⟨b,0,none⟩),.pointer (some ⟨b,0,none⟩),.pointer (some ⟨k,0,none⟩),.pointer (some ⟨k,0,none⟩),.pointer (some ⟨k,0,none⟩),.slice (some ⟨i,0,none⟩) p u,.int .i64 (f:Int),.pointer (some ⟨i,f*7,none⟩),.pointer (some ⟨i,f*7,none⟩),.pointer (some ⟨i,f*7,none⟩),.string g,.string ((⟨#[33]⟩:ByteArray)++D++⟨#[62]⟩++g),o,.pointer (some ⟨b,0,none⟩),.pointer (some ⟨b,7,none⟩),i7,i8,i9,j0,j1,H,I,J,K,L,M,N,O,P,Q,T,U,V,Y,Z,a0,a1,a2,a3,a4,a6,a7,a8,a9,b0,b1,b2,b3,b4,b5,b7,b8,b9,c0,c1,c2,c3,c4,c5,c6,c8,c9,d0],defers:=[]} (d.setCell ⟨b,7,none⟩ o)):
 Code.wp Tryz.prog (.region 9 #[⟨some 69,.move (.tmp 0),33, "run.go:204",#[],none⟩,⟨some 70,.move (.tmp 0),33, "run.go:204",#[],none⟩,⟨some 71,.nilCheck (.tmp 70),0, "run.go:204",#[⟨1,.data⟩],none⟩,⟨some 72,.fieldAddr 39 (.tmp 71) 7,0, "run.go:204",#[⟨2,.data⟩],none⟩,⟨some 73,.load 22 (.tmp 72),22, "run.go:204",#[⟨3,.data⟩],none⟩,⟨some 74,.fieldAddr 119 (.tmp 4) 5,0, "run.go:204",#[],none⟩,⟨some 75,.load 3 (.tmp 74),3, "run.go:204",#[⟨5,.data⟩],none⟩,⟨some 76,.call ⟨.value (.func 94),#[.tmp 75],#[3]⟩,9, "run.go:204",#[⟨6,.data⟩],none⟩,⟨some 77,.binOp .add 9 (.const (.string ⟨#[33]⟩)) (.tmp 76) 9,9, "run.go:204",#[⟨7,.data⟩],none⟩,⟨some 78,.binOp .add 9 (.tmp 77) (.const (.string ⟨#[62]⟩)) 9,9, "run.go:204",#[⟨8,.data⟩],none⟩,⟨some 79,.move (.tmp 0),33, "run.go:204",#[],none⟩,⟨some 80,.nilCheck (.tmp 79),0, "run.go:204",#[⟨10,.data⟩],none⟩,⟨some 81,.fieldAddr 39 (.tmp 80) 0,0, "run.go:204",#[⟨11,.data⟩],none⟩,⟨some 82,.load 28 (.tmp 81),28, "run.go:204",#[⟨12,.data⟩],none⟩,⟨some 83,.nilCheck (.tmp 82),0, "run.go:204",#[⟨13,.data⟩],none⟩,⟨some 84,.fieldAddr 62 (.tmp 83) 0,0, "run.go:204",#[⟨14,.data⟩],none⟩,⟨some 85,.load 59 (.tmp 84),59, "run.go:204",#[⟨15,.data⟩],none⟩,⟨some 86,.move (.tmp 7),3, "run.go:204",#[],none⟩,⟨some 87,.indexAddr 59 (.tmp 85) (.tmp 86),0, "run.go:204",#[⟨16,.data⟩,⟨17,.data⟩],none⟩,⟨some 88,.fieldAddr 67 (.tmp 87) 0,0, "run.go:204",#[⟨18,.data⟩],none⟩,⟨some 89,.fieldAddr 64 (.tmp 88) 0,0, "run.go:204",#[⟨19,.data⟩],none⟩,⟨some 90,.load 9 (.tmp 89),9, "run.go:204",#[⟨20,.data⟩],none⟩,⟨some 91,.binOp .add 9 (.tmp 78) (.tmp 90) 9,9, "run.go:204",#[⟨9,.data⟩,⟨21,.data⟩],none⟩,⟨some 92,.call ⟨.value (.func 69),#[.tmp 73,.tmp 91],#[22,9]⟩,22, "run.go:204",#[⟨4,.data⟩,⟨22,.data⟩,⟨7,.chain⟩],none⟩,⟨some 93,.nilCheck (.tmp 69),0, "run.go:204",#[⟨0,.data⟩,⟨0,.phase⟩,⟨1,.phase⟩,⟨2,.phase⟩,⟨3,.phase⟩,⟨4,.phase⟩,⟨5,.phase⟩,⟨6,.phase⟩,⟨7,.phase⟩,⟨8,.phase⟩,⟨9,.phase⟩,⟨10,.phase⟩,⟨11,.phase⟩,⟨12,.phase⟩,⟨13,.phase⟩,⟨14,.phase⟩,⟨15,.phase⟩,⟨16,.phase⟩,⟨17,.phase⟩,⟨18,.phase⟩,⟨19,.phase⟩,⟨20,.phase⟩,⟨21,.phase⟩,⟨22,.phase⟩,⟨23,.phase⟩],none⟩,⟨some 94,.fieldAddr 39 (.tmp 93) 7,0, "run.go:204",#[⟨24,.data⟩,⟨0,.phase⟩,⟨1,.phase⟩,⟨2,.phase⟩,⟨3,.phase⟩,⟨4,.phase⟩,⟨5,.phase⟩,⟨6,.phase⟩,⟨7,.phase⟩,⟨8,.phase⟩,⟨9,.phase⟩,⟨10,.phase⟩,⟨11,.phase⟩,⟨12,.phase⟩,⟨13,.phase⟩,⟨14,.phase⟩,⟨15,.phase⟩,⟨16,.phase⟩,⟨17,.phase⟩,⟨18,.phase⟩,⟨19,.phase⟩,⟨20,.phase⟩,⟨21,.phase⟩,⟨22,.phase⟩,⟨23,.phase⟩],none⟩,⟨none,.store 22 (.tmp 94) (.tmp 92),0, "run.go:204",#[⟨25,.data⟩,⟨23,.data⟩,⟨23,.chain⟩,⟨0,.phase⟩,⟨1,.phase⟩,⟨2,.phase⟩,⟨3,.phase⟩,⟨4,.phase⟩,⟨5,.phase⟩,⟨6,.phase⟩,⟨7,.phase⟩,⟨8,.phase⟩,⟨9,.phase⟩,⟨10,.phase⟩,⟨11,.phase⟩,⟨12,.phase⟩,⟨13,.phase⟩,⟨14,.phase⟩,⟨15,.phase⟩,⟨16,.phase⟩,⟨17,.phase⟩,⟨18,.phase⟩,⟨19,.phase⟩,⟨20,.phase⟩,⟨21,.phase⟩,⟨22,.phase⟩,⟨23,.phase⟩],none⟩] true) (Gk R) {tmps:=#[.pointer (some ⟨b,0,none⟩),F,x2,x3,.pointer (some ⟨r,0,none⟩),x5,x6,.int .i64 (f:Int),x8,x9,G,S,a5,b6,c7,d1,d2,d3,d4,d5,d6,d7,d8,e0,e1,e2,e3,e4,e5,e6,e7,e8,e9,f1,f2,f3,f4,f5,f6,f7,f8,f9,g0,g1,g2,g3,g4,g5,g6,g7,g8,g9,h0,h1,h2,h3,h4,h5,h6,h7,h8,h9,i0,i1,i2,i3,i4,i5,i6,j6,j7,j8,j9,k0,k1,k2,k3,k4,k5,k6,k7,k8,k9,l0,l1,l2,l3,l4,l5,l6,l7,l8,l9,m0,m1,i7,i8,i9,j0,j1,H,I,J,K,L,M,N,O,P,Q,T,U,V,Y,Z,a0,a1,a2,a3,a4,a6,a7,a8,a9,b0,b1,b2,b3,b4,b5,b7,b8,b9,c0,c1,c2,c3,c4,c5,c6,c8,c9,d0],defers:=[]} wc:=by
 have HQ:=Aa y;have j3:=Aa A;have j2:=Aa x;have m8:(f:Int)<(p:Int):=by omega
 have m4:¬(9223372036854775807<1+D.size):=by omega
 have m5:¬(9223372036854775807<1+D.size+1):=by omega
 have m6:¬(9223372036854775807<1+D.size+1+g.size):=by omega
 clear y A x;refine Fo (v:=.pointer (some ⟨b,0,none⟩)) 23 (by kernel_rfl) (by kernel_rfl) (fun _ _ _ h=>h) (Or.inl ⟨by rfl,fun w=>by go_simp⟩) ?_;simp only [cL,List.take_zero,dA,List.drop_zero];repeat (quiet_step ((go_at_call 94;exact Calls.quiet_of (j2.o _))))
 refine wpQuiet_nil ?_;intro E j4;obtain ⟨nq,j5⟩:=j4;subst j5;go_wp2_with fail;refine (Kw B (.slice l c.length n) c _ _ (Ac j3.o (by repeat (first | exact Ab.refl _ _ | refine Ab.drew ?_ | refine Ab.drewN ?_ _ | refine Ab.alloc ?_ _)) (fun _ _ q=>q)) (by omega)).mono ?_;rintro e d ⟨o,rfl,j,z⟩;have j:AB wc.heap.size d o (D3 c ((⟨#[33]⟩:ByteArray)++D++⟨#[62]⟩++g)):=by simpa using j
 obtain ⟨ya,yl,yc,rfl⟩:=Ad j;have s:=Aa (Ab.trans (X:=fun _=>False) (a:=wc) (by repeat (first | exact Ab.refl _ _ | refine Ab.drew ?_ | refine Ab.drewN ?_ _ | refine Ab.alloc ?_ _)) z);have m2:d.cell? ⟨b,7,none⟩=some (.slice l c.length n):=(aW (s.o.block b C (fun q=>q))).trans R7;have m3:d.frozen? ⟨b,7,none⟩=false:=(bB (s.o.block b C (fun q=>q))).trans RZ;have j:=Aa j;clear z;go_wp2_with fail;exact HQ.o _ d j.o s.o
end Go.Proofs.YthppbgndiplgnaaGreatDoor

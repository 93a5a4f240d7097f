/- One of the texts of the proof of runs_card_holds: MaC MaD RuC. -/
import Derived.Test.YthppbgndiplgnaaGreatDoorG28
set_option maxRecDepth 100000
set_option maxHeartbeats 2000000
namespace Go.Proofs.YthppbgndiplgnaaGreatDoor
open Go.RowKit Go.Maps
def DY(m:List Cl):Prop:=∀i (h:i<m.length),Lv m[i].nm
theorem DY.at_{m}(h:DY m){i}(a:i<m.length):Lv (Ak m i).nm:=by rw [AV a];exact h i a
theorem Fb{o B k e}{mk:o→Value}{b i n l v m w}(h:w.ownsRow B e i v n m)(d:DM k mk b l w):∀j,v.ownBlock=some j→¬j=b:=by
 intro j a q;subst q;rcases h.2 with ⟨g,_⟩ | ⟨s,p,r,f,_,c,_⟩
 ·rw [g] at a;simp [Value.ownBlock] at a
 ·rw [f] at a;simp [Value.ownBlock] at a;subst a;exact d.ne c rfl
theorem IU(m:Mc)(a i:Nat)(v:Vl):(Ak (m.hold a v).c.i7 i).nm=(Ak m.c.i7 i).nm:=by
 unfold Mc.hold Ak;simp only [List.getElem?_set];by_cases e:a=i
 ·subst e;by_cases h:a<m.c.i7.length
  ·simp [h]
  ·simp [h]
 ·simp [e]
theorem CD.ZN{f d e B k o i j n r m g w}(h:CD f d e B j k o i m n r g w)(p)(s:Lv p.1)(t:Lv p.2)(v:m.c.Ys.length≤300000):
 ∃b,(Instr.mapUpdate 79 (.map (some d)) (UX p) (.agg #[])).run Tryz.prog w=.ok () b∧CD f d e B j k o i {m with c:={m.c with Ys:=p::m.c.Ys}} n r g b∧Ci f d e B w b:=by
 obtain ⟨l,u⟩:=Wz s t;obtain ⟨b,x,y,a⟩:=h.Ys.add NQ Tryz.underlying79 v u;exact ⟨b,x,⟨h.l9.f8 a (fun q=>h.Ys.ne h.l9 q.symm),h.Yz,Ac h.i7 a (Fb h.i7 h.Ys),Ac h.Yw a (Fb h.Yw h.Ys),y,h.Yr.f8 a (fun q=>h.ne q.symm),h.lb,h.ne⟩,a.mono (fun _ _ q=>.inr (.inl q))⟩
theorem DT(D E O B fv mn pn cn m a v w)(h:CM D E O B fv mn pn cn m w)(ht:DY m.c.i7)(x:a<m.c.i7.length)(hv:Cn 200000 m.c.i7.length v)(hl:m.c.Ys.length≤300000)(b1:m.c.i7.length≤200000):
 Calls Tryz.prog 50 #[.pointer (some ⟨D,0,none⟩),.int .i64 a,WC v] w fun e w'=>e=.returned (.tuple #[])∧CM D E O B fv mn pn cn {m with c:=m.c.set a v} w'∧Ci D E O B w w':=by
 obtain ⟨V,W⟩:∃V,{m with c:=m.c.set a v}=V:=⟨_,rfl⟩;rw [W];have K:=Aa W;clear W;obtain ⟨mv,rv,ch,h⟩:=h;obtain ⟨xa,xl,xc,rfl⟩:=Ad h.i7;obtain ⟨g,rfl⟩:=As h.i7 (by omega);obtain ⟨b,r,rfl,a9,a8⟩:=h.cell x;have F:=h.l9.cell 5;have G:=h.l9.cell 8;have lr:=Ae h.l9;simp only [Iy,aU,aS,aT] at F G;have i:=r (a*5+3);have f4:=r (a*5+4);have j:=b 0 (by decide);have k:=b 1 (by decide);have l:=b 2 (by decide);have c3:=b 3 (by decide);have c4:=b 4 (by decide);simp only [Pk,aS,aT,bK] at j k l c3 c4;have a7:(a:Int)<(m.c.i7.length:Int):=by omega
 obtain ⟨a0,f2⟩:=h.hold x v;have U:=((Ab.refl (fun _=>False) ((w.setCell ⟨g,a*5+3,none⟩ (.int .i64 v.kind)).setCell ⟨g,a*5+3+1,none⟩ (.int .i64 v.y6))).alloc (.cells #[.int .i64 v.kind,.int .i64 v.y6] 149)).drew;have h2:=a0.p6 U;have L:=Aa (Ar.new ((w.setCell ⟨g,a*5+3,none⟩ (.int .i64 v.kind)).setCell ⟨g,a*5+3+1,none⟩ (.int .i64 v.y6)) #[.int .i64 v.kind,.int .i64 v.y6] 149);have a5:((w.setCell ⟨g,a*5+3,none⟩ (.int .i64 v.kind)).setCell ⟨g,a*5+3+1,none⟩ (.int .i64 v.y6)).heap.size=w.heap.size:=by simp
 rw [a5] at L;have M:=Aa (Ar.f8 L.o ((Ab.refl (fun _=>False) _).drew) (fun q=>q));have H:=Aa (f2.trans (Ci.s8 U));have d:=Aa h2;clear h h2 a0 f2 b r U L a5;unfold WC;go_enter Tryz.func50,Tryz.ntmps50;go_wp2_with fail;go_region;clear j k l c3 c4 i f4 F G;generalize (((World.setCell w _ _).setCell _ _).alloc _).drew=W2 at*;have s:(m.hold a v).c.i7.length=m.c.i7.length:=by simp [Mc.hold]
 obtain ⟨b,r,_,b0,_⟩:=d.o.cell (c:=a) (by rw [s];exact x);have F:=d.o.l9.cell 5;have G:=d.o.l9.cell 8;have b3:=Ae d.o.l9;have e3:=M.o.cell 0;have e4:=M.o.cell 1;have le:=Ae M.o;have j:=b 0 (by decide);have k:=b 1 (by decide);have l:=b 2 (by decide);simp only [Iy,Pk,aU,aS,aT,bK] at F G j k l e3 e4;have a2:=IU m a a v;have X:=ht.at_ x;rw [a2] at j k l;obtain ⟨N,S⟩:∃N,(Ak m.c.i7 a).nm=N:=⟨_,rfl⟩;rw [S] at j k l X;have Z:=Aa S;have n:=Aa (((Ab.refl (fun _=>False) W2).alloc (.cells #[.int .i64 N.kind,.int .i64 N.Yj,.int .i64 N.Yk] 146)));have a4:(m.hold a v).c.Ys.length≤300000:=hl;clear b r a2 S;rcases hv with ⟨z,n0⟩ | ⟨A,n1⟩ | ⟨C,Y⟩
 ·have d1:((v.kind:Int)==1)=false:=by simp [z]
  have d2:((v.kind:Int)==2)=false:=by simp [z]
  have f:{m with c:=m.c.set a v}=m.hold a v:=by unfold Mc.hold Co.set;simp [z]
  have o:=Aa f;clear s z n0 f;go_wp2_with fail;go_end0;refine ⟨rfl,?_,H.o.trans (Ci.s8 n.o)⟩;rw [←K.o,o.o];exact ⟨_,_,_,d.o.p6 n.o⟩
 ·obtain ⟨w3,t,p,i⟩:=(d.o.p6 (n.o.drew)).ZN (N,⟨2,v.y6,0⟩) X ⟨by simp,by simp only;omega,by simp⟩ a4;have f:{m with c:=m.c.set a v}={(m.hold a v) with c:={(m.hold a v).c with Ys:=(N,⟨2,v.y6,0⟩)::(m.hold a v).c.Ys}}:=by unfold Mc.hold Co.set;simp [A,Z.o]
  have o:=Aa f;have d1:((v.kind:Int)==1)=true:=by simp [A]
  have d2:((v.kind:Int)==2)=false:=by simp [A]
  have J:=Aa p;have I:=Aa ((H.o.trans (Ci.s8 (n.o.drew))).trans i);have t:(Instr.mapUpdate 79 (.map (some E)) (.agg #[.int .i64 N.kind,.int .i64 N.Yj,.int .i64 N.Yk,.int .i64 2,.int .i64 v.y6,.int .i64 0]) (.agg #[])).run Tryz.prog _=.ok () w3:=t;clear s A n1 f p i;go_wp2_with fail;go_region;go_wp2_with fail;go_end0;refine ⟨rfl,?_,I.o⟩;rw [←K.o,o.o];exact ⟨_,_,_,J.o⟩
 ·have a1:v.y6<(m.hold a v).c.i7.length:=by rw [s];exact Y
  obtain ⟨y,_,_,_,_⟩:=d.o.cell (c:=v.y6) a1;have P:=y 0 (by decide);have Q:=y 1 (by decide);have R:=y 2 (by decide);simp only [Pk,aS,aT,bK] at P Q R;have a3:=IU m a v.y6 v;have a6:=ht.at_ Y;rw [a3] at P Q R;obtain ⟨u,T⟩:∃u,(Ak m.c.i7 v.y6).nm=u:=⟨_,rfl⟩;rw [T] at P Q R a6;obtain ⟨w3,t,p,i⟩:=(d.o.p6 (n.o.drew)).ZN (N,u) X a6 a4;have f:{m with c:=m.c.set a v}={(m.hold a v) with c:={(m.hold a v).c with Ys:=(N,u)::(m.hold a v).c.Ys}}:=by unfold Mc.hold Co.set;simp [C,Z.o,T]
  have o:=Aa f;have d1:((v.kind:Int)==1)=false:=by simp [C]
  have d2:((v.kind:Int)==2)=true:=by simp [C]
  have J:=Aa p;have I:=Aa ((H.o.trans (Ci.s8 (n.o.drew))).trans i);have b2:(v.y6:Int)<(m.c.i7.length:Int):=by omega
  unfold UX at t;simp only at t;clear s C Y a1 f p i y T a3;go_wp2_with fail;go_region;go_wp2_with fail;go_end0;refine ⟨rfl,?_,I.o⟩;rw [←K.o,o.o];exact ⟨_,_,_,J.o⟩
theorem Pz(h k j B s v y o m x z a w)(f:CD h k j B s v y o m x z a w):
 Calls Tryz.prog 58 #[.pointer (some ⟨h,0,none⟩)] w fun e A=>e=.returned (.bool (D7 m.c.ch).1)∧(∃n,CD h k j B s v y o {m with c:={m.c with ch:=(D7 m.c.ch).2}} x z n A)∧Ci h k j B w A:=by
 have I:=Ae f.l9;have E:=f.l9.cell 4;have F:=f.l9.frozen;simp only [Iy,aU,aS,aT] at E;have d:=f.Yz;cases g:m.c.ch with
 | nil=>
   rw [g] at d;have D:a.toList.isEmpty=true:=by rw [dG,d];rfl
   have t:{m with c:={m.c with ch:=(D7 m.c.ch).2}}=m:=by obtain ⟨⟨_,_,_,_⟩,_,_⟩:=m;simp only at g;subst g;rfl
   rw [g] at t;rw [t];have i:=Aa f;clear f d;simp only [D7];go_enter Tryz.func58,Tryz.ntmps58;go_wp2;go_ret;exact ⟨rfl,⟨_,i.o⟩,Ci.refl _ _ _ _ _⟩
 | cons b l=>
   rw [g] at d;have D:a.toList.isEmpty=false:=by rw [dG,d];rfl
   have H:0<a.size:=by have:a.data.toList.length=a.size:=Array.length_toList;rw [d] at this;simp at this;omega
   have G:((a[0].toNat:Int)==49)=(b==49):=by
    have e:a[0]=b:=by
     have:a.data.toList[0]? =some b:=by rw [d];rfl
     rw [Array.getElem?_toList] at this;have:=(Array.getElem?_eq_some_iff.1 this).2;exact this
    rw [e,Bool.eq_iff_iff];simp only [beq_iff_eq];constructor
    ·intro q;have:b.toNat=49:=by omega
     exact UInt8.toNat_inj.1 (by simpa using this)
    ·intro q;subst q;rfl
   have u:(a.extract 1 a.size).data.toList=l:=by
    rw [dF,Array.toList_extract,d];have:a.size=l.length+1:=by have:a.data.toList.length=a.size:=Array.length_toList;rw [d] at this;simpa using this.symm
    simp [this]
   obtain ⟨p,r⟩:=f.wrote (m':={m with c:={m.c with ch:=l}}) (ch':=a.extract 1 a.size) 4 (.string (a.extract 1 a.size)) rfl u rfl rfl rfl rfl;have i:=Aa p;have C:=Aa r;simp only [D7];clear f p r d u;go_enter Tryz.func58,Tryz.ntmps58;go_wp2;go_ret;exact ⟨rfl,⟨_,i.o⟩,C.o⟩
theorem CM.holds{d o j B n p i k m w}(h:CM d o j B k n p i m w){a}(c:a<m.c.i7.length):
 ∃g f,w.cell? ⟨d,5,none⟩=some (.slice (some ⟨g,0,none⟩) m.c.i7.length f)∧g<w.heap.size∧d<w.heap.size∧(∀a,a<m.c.i7.length→w.cell? ⟨g,a*5+3,none⟩=some (.int .i64 (Ak m.c.i7 a).v.kind)∧w.cell? ⟨g,a*5+4,none⟩=some (.int .i64 (Ak m.c.i7 a).v.y6)∧w.cell? ⟨g,a*5,none⟩=some (.int .i64 (Ak m.c.i7 a).nm.kind)∧w.cell? ⟨g,a*5+1,none⟩=some (.int .i64 (Ak m.c.i7 a).nm.Yj)∧w.cell? ⟨g,a*5+2,none⟩=some (.int .i64 (Ak m.c.i7 a).nm.Yk)):=by
 obtain ⟨s,t,r,h⟩:=h;obtain ⟨u,v,q,rfl⟩:=Ad h.i7;obtain ⟨g,rfl⟩:=As h.i7 (by omega);obtain ⟨_,_,rfl,l,_⟩:=h.cell c;have e:=h.l9.cell 5;simp only [Iy,aU,aS,aT] at e;exact ⟨g,q,e,l,Ae h.l9,fun a c=>by obtain ⟨b,_⟩:=h.cell c;exact ⟨b 3 (by decide),b 4 (by decide),b 0 (by decide),b 1 (by decide),b 2 (by decide)⟩⟩
theorem Es(f o k B l n p j m a w)(h:CM f o k B l n p j m w)(c:a<m.c.i7.length)(b:(Ak m.c.i7 a).v.kind=2):
 Calls Tryz.prog 83 #[.pointer (some ⟨f,0,none⟩),.int .i64 a] w fun e q=>e=.returned (.tuple #[.int .i64 (Ak m.c.i7 a).v.y6,.bool true])∧Ab (fun _=>False) w q:=by
 obtain ⟨g,t,A,y,z,d⟩:=h.holds c;obtain ⟨r,i,_⟩:=d a c;have x:(a:Int)<(m.c.i7.length:Int):=by omega
 have s:w.cell? ⟨g,a*5+3+1,none⟩=some (.int .i64 (Ak m.c.i7 a).v.y6):=i;have v:(((Ak m.c.i7 a).v.kind:Int) !=2)=false:=by simp [b]
 have u:(((Ak m.c.i7 a).v.kind:Int)==2)=true:=by simp [b]
 clear h d b;generalize Ak m.c.i7 a=C at*;go_enter Tryz.func83,Tryz.ntmps83;go_wp2;go_ret2;exact ⟨rfl,(by repeat (first | exact Ab.refl _ _ | refine Ab.drew ?_ | refine Ab.drewN ?_ _ | refine Ab.alloc ?_ _))⟩
theorem Gy(c i d B n q r j m a w)(h:CM c i d B n q r j m w)(o:a<m.c.i7.length)(x:(Ak m.c.i7 a).v.kind≠2):
 Calls Tryz.prog 83 #[.pointer (some ⟨c,0,none⟩),.int .i64 a] w fun e s=>e=.returned (.tuple #[.int .i64 0,.bool false])∧CM c i d B n q r j {m with Yi:=3} s∧Ci c i d B w s:=by
 obtain ⟨g,E,M,J,K,p⟩:=h.holds o;obtain ⟨z,v,_⟩:=p a o;have I:(a:Int)<(m.c.i7.length:Int):=by omega
 have A:w.cell? ⟨g,a*5+3+1,none⟩=some (.int .i64 (Ak m.c.i7 a).v.y6):=v;have G:(((Ak m.c.i7 a).v.kind:Int) !=2)=true:=by simp;omega
 have F:(((Ak m.c.i7 a).v.kind:Int)==2)=false:=by simp;omega
 obtain ⟨L,N,D,b⟩:=h;have y:=b.l9.cell 7;have H:=b.l9.frozen 7;simp only [Iy,aU,aS,aT] at y;obtain ⟨k,l⟩:=b.wrote (m':={m with Yi:=3}) 7 (.int .i64 3) rfl b.Yz rfl rfl rfl rfl;have f:=((Ab.refl (fun _=>False) (w.setCell ⟨c,7,none⟩ (.int .i64 3))).alloc (.cells #[.int .i64 (Ak m.c.i7 a).v.kind,.int .i64 (Ak m.c.i7 a).v.y6] 149));have t:=Aa (k.p6 f);have u:=Aa (l.trans (Ci.s8 f));clear b p x k l f;generalize Ak m.c.i7 a=C at*;go_enter Tryz.func83,Tryz.ntmps83;go_wp2;go_ret2;first | exact ⟨rfl,⟨_,_,_,t.o⟩,u.o⟩ | trace_state
theorem Ue(a c b B:Nat)(f:Value)(g i d:Nat)(m:Mc)(p q:Nat)(w:World)(h:CM a c b B f g i d m w)(t:q<m.c.i7.length)(k:(Ak m.c.i7 q).v.kind≠2):
 Calls Tryz.prog 54 #[.pointer (some ⟨a,0,none⟩),.int .i64 p,.int .i64 q] w fun e o=>e=.returned (.tuple #[])∧CM a c b B f g i d {m with Yi:=3} o∧Ci a c b B w o:=by
 have j:=Aa (Gy a c b B f g i d m q w h t k);clear h k;go_enter Tryz.func54,Tryz.ntmps54;go_wp2_with fail;refine j.o.mono ?_;rintro e u ⟨rfl,l,n⟩;have r:=Aa l;have s:=Aa n;clear l n j;go_wp2_with fail;go_end0;exact ⟨rfl,r.o,s.o⟩
theorem RU(a c b B:Nat)(f:Value)(g i d:Nat)(m:Mc)(p q:Nat)(w:World)(h:CM a c b B f g i d m w)(t:p<m.c.i7.length)(k:(Ak m.c.i7 p).v.kind≠2):
 Calls Tryz.prog 55 #[.pointer (some ⟨a,0,none⟩),.int .i64 p,.int .i64 q] w fun e o=>e=.returned (.tuple #[])∧CM a c b B f g i d {m with Yi:=3} o∧Ci a c b B w o:=by
 have j:=Aa (Gy a c b B f g i d m p w h t k);clear h k;go_enter Tryz.func55,Tryz.ntmps55;go_wp2_with fail;refine j.o.mono ?_;rintro e u ⟨rfl,l,n⟩;have r:=Aa l;have s:=Aa n;clear l n j;go_wp2_with fail;go_end0;exact ⟨rfl,r.o,s.o⟩
theorem Ug(a c b B:Nat)(f:Value)(g i d:Nat)(m:Mc)(p q:Nat)(k:Nat)(w:World)(h:CM a c b B f g i d m w)(u:q<m.c.i7.length)(l:(Ak m.c.i7 q).v.kind≠2):
 Calls Tryz.prog 53 #[.pointer (some ⟨a,0,none⟩),.int .i64 p,.int .i64 q,.int .i64 k] w fun e r=>e=.returned (.tuple #[])∧CM a c b B f g i d {m with Yi:=3} r∧Ci a c b B w r:=by
 have j:=Aa (Gy a c b B f g i d m q w h u l);clear h l;go_enter Tryz.func53,Tryz.ntmps53;go_wp2_with fail;refine j.o.mono ?_;rintro e x ⟨rfl,n,o⟩;have s:=Aa n;have t:=Aa o;clear n o j;go_wp2_with fail;exact bC (v:=.tuple #[]) (by simp [results,Tryz.results53,go_sem]) rfl ⟨rfl,s.o,t.o⟩
theorem RP(a d b B j k l i m p q w)(h:CM a d b B j k l i m w)(F:DY m.c.i7)(r:BY 200000 m.c.i7)(P:m.c.Ys.length≤300000)(Q:m.c.i7.length≤200000)(D:p<m.c.i7.length)(E:q<m.c.i7.length)(z:(Ak m.c.i7 q).v.kind=2):
 Calls Tryz.prog 54 #[.pointer (some ⟨a,0,none⟩),.int .i64 p,.int .i64 q] w fun e K=>e=.returned (.tuple #[])∧CM a d b B j k l i {m with c:=m.c.set p (Ak m.c.i7 (Ak m.c.i7 q).v.y6).v} K∧Ci a d b B w K:=by
 obtain ⟨n,A⟩:∃n,(Ak m.c.i7 q).v.y6=n:=⟨_,rfl⟩;have H:=(r.at_ E).2;have C:n<m.c.i7.length:=by rcases H with ⟨e,_⟩ | ⟨e,_⟩ | ⟨_,e⟩<;>omega
 have o:=Aa (Es a d b B j k l i m q w h E z);rw [A] at o⊢;have G:=(r.at_ C).2;have f:=Aa (fun (W:World) (O:Ab (fun _=>False) w W)=>DT a d b B j k l i m p (Ak m.c.i7 n).v W (h.p6 O) F D G P Q);have L:=Aa h;have X:(n:Int)<(m.c.i7.length:Int):=by omega
 obtain ⟨V,x⟩:∃V,{m with c:=m.c.set p (Ak m.c.i7 n).v}=V:=⟨_,rfl⟩;rw [x] at f⊢;clear h F r H G z x A;go_enter Tryz.func54,Tryz.ntmps54;go_wp2_with fail;refine o.o.mono ?_;rintro e R ⟨rfl,s⟩;have t:=Aa s;obtain ⟨g,U,r5,Y,Z,y⟩:=(L.o.p6 s).holds D;obtain ⟨S,u,_⟩:=y n C;have T:R.cell? ⟨g,n*5+3+1,none⟩=some (.int .i64 (Ak m.c.i7 n).v.y6):=u;clear y s o u;unfold WC at f;generalize (Ak m.c.i7 n).v=v at*;go_wp2_with fail;refine (f.o _ t.o).mono ?_;rintro e w2 ⟨rfl,I,J⟩;have M:=Aa I;have N:=Aa ((Ci.s8 t.o).trans J);clear I J f;go_wp2_with fail;go_end0;exact ⟨rfl,M.o,N.o⟩
theorem PD(a d b B j k l i m p q w)(h:CM a d b B j k l i m w)(E:DY m.c.i7)(r:BY 200000 m.c.i7)(O:m.c.Ys.length≤300000)(P:m.c.i7.length≤200000)(s:p<m.c.i7.length)(D:q<m.c.i7.length)(A:(Ak m.c.i7 p).v.kind=2):
 Calls Tryz.prog 55 #[.pointer (some ⟨a,0,none⟩),.int .i64 p,.int .i64 q] w fun e J=>e=.returned (.tuple #[])∧CM a d b B j k l i {m with c:=m.c.set (Ak m.c.i7 p).v.y6 (Ak m.c.i7 q).v} J∧Ci a d b B w J:=by
 obtain ⟨n,C⟩:∃n,(Ak m.c.i7 p).v.y6=n:=⟨_,rfl⟩;have G:=(r.at_ s).2;have Q:n<m.c.i7.length:=by rcases G with ⟨e,_⟩ | ⟨e,_⟩ | ⟨_,e⟩<;>omega
 have o:=Aa (Es a d b B j k l i m p w h s A);rw [C] at o⊢;have F:=(r.at_ D).2;have f:=Aa (fun (W:World) (N:Ab (fun _=>False) w W)=>DT a d b B j k l i m n (Ak m.c.i7 q).v W (h.p6 N) E Q F O P);have K:=Aa h;have X:(q:Int)<(m.c.i7.length:Int):=by omega
 obtain ⟨V,y⟩:∃V,{m with c:=m.c.set n (Ak m.c.i7 q).v}=V:=⟨_,rfl⟩;rw [y] at f⊢;clear h E r G F A y C;go_enter Tryz.func55,Tryz.ntmps55;go_wp2_with fail;refine o.o.mono ?_;rintro e R ⟨rfl,t⟩;have u:=Aa t;obtain ⟨g,U,r5,Y,Z,z⟩:=(K.o.p6 t).holds s;obtain ⟨S,x,_⟩:=z q D;have T:R.cell? ⟨g,q*5+3+1,none⟩=some (.int .i64 (Ak m.c.i7 q).v.y6):=x;clear z t o x;unfold WC at f;generalize (Ak m.c.i7 q).v=v at*;go_wp2_with fail;refine (f.o _ u.o).mono ?_;rintro e w2 ⟨rfl,H,I⟩;have L:=Aa H;have M:=Aa ((Ci.s8 u.o).trans I);clear H I f;go_wp2_with fail;go_end0;exact ⟨rfl,L.o,M.o⟩
theorem RY(a i d B:Nat)(t:Value)(y A l:Nat)(m:Mc)(p q k:Nat)(w:World)(h:CM a i d B t y A l m w)(K:BY 200000 m.c.i7)(x:q<m.c.i7.length)(J:(Ak m.c.i7 q).v.kind=2)(f:¬((Ak m.c.i7 (Ak m.c.i7 q).v.y6).nm.kind=1∧(Ak m.c.i7 (Ak m.c.i7 q).v.y6).nm.Yk=0)):
 Calls Tryz.prog 53 #[.pointer (some ⟨a,0,none⟩),.int .i64 p,.int .i64 q,.int .i64 k] w fun e O=>e=.returned (.tuple #[])∧CM a i d B t y A l {m with Yi:=3} O∧Ci a i d B w O:=by
 obtain ⟨n,L⟩:∃n,(Ak m.c.i7 q).v.y6=n:=⟨_,rfl⟩;have M:=(K.at_ x).2;have Q:n<m.c.i7.length:=by rcases M with ⟨e,_⟩ | ⟨e,_⟩ | ⟨_,e⟩<;>omega
 have j:=Aa (Es a i d B t y A l m q w h x J);rw [L] at j f;have E:=Aa h;have a0:(n:Int)<(m.c.i7.length:Int):=by omega
 clear h K M J L;go_enter Tryz.func53,Tryz.ntmps53;go_wp2_with fail;refine j.o.mono ?_;rintro e S ⟨rfl,z⟩;have H:=E.o.p6 z;obtain ⟨g,X,r5,lg,lm,I⟩:=H.holds x;obtain ⟨_,_,T,U,V⟩:=I n Q;obtain ⟨mv,rv,W,c⟩:=H;have R:=c.l9.cell 7;have Z:=c.l9.frozen 7;simp only [Iy,aU,aS,aT] at R;generalize (Ak m.c.i7 n).nm=N at*;have o:N.kind=1→((N.kind:Int) !=1)=false:=fun q=>by simp [q]
 have r:N.kind≠1→((N.kind:Int) !=1)=true:=fun q=>by simp;omega
 have s:N.Yk≠0→((N.Yk:Int) !=0)=true:=fun q=>by simp;omega
 obtain ⟨F,G⟩:=c.wrote (m':={m with Yi:=3}) 7 (.int .i64 3) rfl c.Yz rfl rfl rfl rfl;have u:=((Ab.refl (fun _=>False) (S.setCell ⟨a,7,none⟩ (.int .i64 3))).alloc (.cells #[.int .i64 N.kind,.int .i64 N.Yj,.int .i64 N.Yk] 146));have C:=Aa (F.p6 u);have D:=Aa ((Ci.s8 z).trans (G.trans (Ci.s8 u)));clear I z j c F G u E;by_cases b:N.kind=1
 ·have P:=o b;have Y:=s (fun q=>f ⟨b,q⟩);clear o r s f b;go_wp2_with fail;exact bC (v:=.tuple #[]) (by simp [results,Tryz.results53,go_sem]) rfl ⟨rfl,⟨_,_,_,C.o⟩,D.o⟩
 ·have P:=r b;clear o r s f b;go_wp2_with fail;exact bC (v:=.tuple #[]) (by simp [results,Tryz.results53,go_sem]) rfl ⟨rfl,⟨_,_,_,C.o⟩,D.o⟩
theorem R8(a d b B:Nat)(j:Value)(l o i:Nat)(m:Mc)(p q k:Nat)(w:World)(h:CM a d b B j l o i m w)(J:DY m.c.i7)(v:BY 200000 m.c.i7)(S:m.c.Ys.length≤300000)(T:m.c.i7.length≤200000)(X:p<m.c.i7.length)(x:q<m.c.i7.length)(F:(Ak m.c.i7 q).v.kind=2)(f:(Ak m.c.i7 (Ak m.c.i7 q).v.y6).nm.kind=1∧(Ak m.c.i7 (Ak m.c.i7 q).v.y6).nm.Yk=0)(a0:k≤3):
 Calls Tryz.prog 53 #[.pointer (some ⟨a,0,none⟩),.int .i64 p,.int .i64 q,.int .i64 k] w fun e r=>e=.returned (.tuple #[])∧CM a d b B j l o i {m with c:=m.c.set p ⟨2,(Ak m.c.i7 q).v.y6+k⟩} r∧Ci a d b B w r:=by
 obtain ⟨n,G⟩:∃n,(Ak m.c.i7 q).v.y6=n:=⟨_,rfl⟩;have L:=(v.at_ x).2;have H:n<m.c.i7.length:=by rcases L with ⟨e,_⟩ | ⟨e,_⟩ | ⟨_,e⟩<;>omega
 have t:=Aa (Es a d b B j l o i m q w h x F);rw [G] at t f⊢;have I:=(v.at_ H).1;have U:n+k<m.c.i7.length:=by
  rcases I with e | ⟨_,_,_,_,e⟩
  ·have:=f.1;omega
  ·have:=f.2;omega
 have K:Cn 200000 m.c.i7.length ⟨2,n+k⟩:=.inr (.inr ⟨rfl,U⟩);have s:=fun (W:World) (R:Ab (fun _=>False) w W)=>DT a d b B j l o i m p ⟨2,n+k⟩ W (h.p6 R) J X K S T
 have s:∀(W:World),Ab (fun _=>False) w W→Calls Tryz.prog 50 #[.pointer (some ⟨a,0,none⟩),.int .i64 p,.agg #[.int .i64 2,.int .i64 ((n:Int)+(k:Int))]] W fun e r=>e=.returned (.tuple #[])∧CM a d b B j l o i {m with c:=m.c.set p ⟨2,n+k⟩} r∧Ci a d b B W r:=s
 have u:=Aa s;have z:=Aa h;have a1:(n:Int)<(m.c.i7.length:Int):=by omega
 have a2:IntKind.i64.wrap ((n:Int)+(k:Int))=(n:Int)+(k:Int):=by rw [IntKind.wrap_i64];omega
 obtain ⟨V,D⟩:∃V,{m with c:=m.c.set p ⟨2,n+k⟩}=V:=⟨_,rfl⟩;rw [D] at u⊢;clear h J v L K F D G s I;go_enter Tryz.func53,Tryz.ntmps53;go_wp2_with fail;refine t.o.mono ?_;rintro e w1 ⟨rfl,y⟩;have C:=z.o.p6 y;have A:=Aa y;obtain ⟨g,cm,r5,lg,lm,E⟩:=C.holds x;obtain ⟨_,_,Y,Z,c2⟩:=E n H;generalize (Ak m.c.i7 n).nm=N at*;have d1:((N.kind:Int) !=1)=false:=by simp [f.1]
 have d2:((N.Yk:Int) !=0)=false:=by simp [f.2]
 clear E y t z C f;go_wp2_with fail;refine (u.o _ (A.o.trans (by repeat (first | exact Ab.refl _ _ | refine Ab.drew ?_ | refine Ab.drewN ?_ _ | refine Ab.alloc ?_ _)))).mono ?_;rintro e w2 ⟨rfl,M,O⟩;have P:=Aa M;have Q:=Aa ((Ci.s8 (A.o.trans (by repeat (first | exact Ab.refl _ _ | refine Ab.drew ?_ | refine Ab.drewN ?_ _ | refine Ab.alloc ?_ _)))).trans O);clear M O u;go_wp2_with fail;go_end0;exact ⟨rfl,P.o,Q.o⟩
structure Vr(fn:List ByteArray)(X:List XF)(rf:List RF):Prop where
 p9:rf.map (fun f=>f.name.i6)=fn
 Yx:rf.length≤4001
 ZZ:∀i,(G7 fn i).size≤4000
 aM:∀i j,(OU X i j).size≤4000
 m9:∀i (h:i<rf.length),rf[i].m9=(Aq X i).m9
 ZW:∀i,(Aq X i).m9.length≤12
theorem Vr.Y0{a X b}(h:Vr a X b):a.length=b.length:=by rw [←h.p9,bW]
theorem Vr.name{b X a}(h:Vr b X a){i}(c:i<a.length):a[i].name.i6=G7 b i:=by unfold G7;rw [←h.p9,bY,aY c];rfl
theorem Lj{a X b}(h:Vr a X b)(t)(k:t.kind≠1∨(t.Yj≤4000∧t.Yk≤3)):(MZ a X t).size≤8010:=by
 have e:(MZ a X t).size=(Vt a X t).length:=by simp [MZ,ByteArray.size]
 rw [e];unfold Vt;have c:=h.ZZ t.Yj;have d:=h.aM t.Yj t.Yk;have f:=DP t.Yj;have g:=DP t.Yk;have i:(G7 a t.Yj).data.toList.length=(G7 a t.Yj).size:=Array.length_toList;have j:(OU X t.Yj t.Yk).data.toList.length=(OU X t.Yj t.Yk).size:=Array.length_toList;split
 ·simp only [aZ,aX,bM];omega
 ·split
  ·simp only [aX];omega
  ·simp only [aZ,aX,bM];omega
theorem Oz(E D B:Nat)(U:Nat→Prop)(y sv:Value)(t:List RF)(O:List FS)(Z F:Nat)(d:List ByteArray)(X:List XF)(S:RS)(T W:Value)(G:ByteArray)(a0:List ByteArray)(v:Vl)(w:World)
 (f:Dk E D B d X S T W G a0 w)(h:Ls D B U y sv t O Z F w)(H:Vr d X t)(Q:Cn d.length S.c.i7.length v)(u:v.kind≠0)(hm:S.c.i7.length≤200000):
 Calls Tryz.prog 70 #[.pointer (some ⟨E,0,none⟩),.int .i64 (DD v)] w fun e w'=>e=.returned (.string (if v.kind=1 then MZ d X ⟨2,v.y6,0⟩ else MZ d X (Ak S.c.i7 v.y6).nm))∧∃m,w'=w.drewN m:=by
 have lr:=Ae f.l9;have lp:=Ae h.pr;have r0:=f.l9.cell 0;have r1:=f.l9.cell 1;have Y:=h.pr.l9.cell 0;simp only [F7,aU,aS,aT] at r0 r1 Y;rcases Q with ⟨q,_⟩ | ⟨j,k⟩ | ⟨j,k⟩
 ·exact dC q u
 ·have C:v.y6<t.length:=by rw [H.Y0] at k;exact k
  have l:DD v= -(v.y6:Int)-1:=by simp [DD,j]
  obtain ⟨gf,lf,cf,rfl⟩:∃a b c,y=.slice a b c:=by obtain ⟨I,P,_⟩:=h.fn;exact Ad P
  obtain ⟨I,r,_⟩:=h.fn;have x:=Ah r;subst x;obtain ⟨g,rfl⟩:=As r (by omega);have R:=(r.lt g rfl).2;obtain ⟨tv,bv,vv,A,_⟩:=h.fn.get C;have i:=A 0 (by decide);simp only [JB,aU,aS,bK] at i;have o:=H.name C;rw [o] at i;have e9:=H.ZZ v.y6;have a1:=H.Yx;have J:dJ ((⟨#[64]⟩:ByteArray)++G7 d v.y6=MZ d X ⟨2,v.y6,0⟩):=CV (by simp [Vt]);obtain ⟨z,p⟩:∃z,DD v=z:=⟨_,rfl⟩;rw [p] at l⊢;have K:decide (z<0)=true:=by simp;omega
  have L:(-z).toNat-1=v.y6:=by omega
  have M: -z-1<(t.length:Int):=by omega
  have N:0≤ -z-1:=by omega
  have e8: -z≤4001:=by omega
  rw [cU j];clear f h H r A l o u j k p;generalize G7 d v.y6=V at*;generalize v.y6=n at*;go_enter Tryz.func70,Tryz.ntmps70;go_wp2;go_ret;exact ⟨congrArg (fun s=>Ending.returned (Value.string s)) J.o,0,rfl⟩
 ·have l:DD v=(v.y6:Int)+1:=by simp [DD,j]
  obtain ⟨gm,lm,cm,rfl⟩:=Ad f.i7;have x:=Ah f.i7;subst x;obtain ⟨g,rfl⟩:=As f.i7 (by omega);have R:=(f.i7.lt g rfl).2;have i:=f.i7.cellAt (v.y6*4) (by omega);rw [show v.y6*4=v.y6*4+0 from rfl,QT d X S.c.i7 k (by decide)] at i;have o:=(AV k).symm;rw [o] at i;simp only [Tb,aS,bK] at i;obtain ⟨z,p⟩:∃z,DD v=z:=⟨_,rfl⟩;rw [p] at l⊢;have K:decide (z<0)=false:=by simp;omega
  have L:z.toNat-1=v.y6:=by omega
  have M:z-1<(S.c.i7.length:Int):=by omega
  have N:0≤z-1:=by omega
  rw [cT (by omega)];clear f h H l o u j p;generalize MZ d X (Ak S.c.i7 v.y6).nm=V at*;generalize v.y6=n at*;go_enter Tryz.func70,Tryz.ntmps70;go_wp2;go_ret;exact ⟨rfl,0,rfl⟩
def RS.hold(S:RS)(c:Nat)(v:Vl):RS:={S with c:={S.c with i7:=S.c.i7.set c ⟨(Ak S.c.i7 c).nm,v⟩}}
theorem Dk.hold{a o B b X S g n f m d p w}(h:Dk a o B b X S (.slice (some ⟨g,0,none⟩) n f) m d p w){c}(i:c<S.c.i7.length)(v):
 Dk a o B b X (S.hold c v) (.slice (some ⟨g,0,none⟩) n f) m d p (w.setCell ⟨g,c*4+1,none⟩ (.int .i64 (DD v)))∧Be a B w (w.setCell ⟨g,c*4+1,none⟩ (.int .i64 (DD v))):=by
 have u:=Ah h.i7;subst u;obtain ⟨q,j⟩:=BO h.i7;have s:g≠a:=fun e=>by subst e;have:=h.l9;unfold Ar at this;rw [j] at this;simp only [bA,bH] at this;exact dC this.2.1 (by decide)
 have r:=(h.i7.lt g rfl).1;have k:Be a B w (w.setCell ⟨g,c*4+1,none⟩ (.int .i64 (DD v))):=(Ab.refl _ _).setCell (.inl (.inr ⟨r,q,_,j⟩)) _;have l:=(h.i7.stored (c*4+1) (.int .i64 (DD v))).1;rw [Ud b X S.c.i7 i,←AV i] at l;have t:(S.hold c v).c.i7.length=S.c.i7.length:=by simp [RS.hold]
 refine ⟨⟨h.l9.Yt _ _ s.symm,h.Yz,?_,k.row h.row h.l9 (by decide) (by decide),h.sn,h.lb⟩,k⟩;rw [t];exact l
theorem Dk.cell{f q B a X S g n l p k r w}(h:Dk f q B a X S (.slice (some ⟨g,0,none⟩) n l) p k r w){c}(d:c<S.c.i7.length):
 (∀j,j<4→w.cell? ⟨g,c*4+j,none⟩=(Tb a X c (Ak S.c.i7 c))[j]?)∧(∀j,w.frozen? ⟨g,j,none⟩=false)∧n=S.c.i7.length∧g<w.heap.size∧g≠f:=by
 have o:=Ah h.i7;subst o;obtain ⟨s,b⟩:=BO h.i7;refine ⟨fun j m=>?_,fun j=>Aw b j,rfl,Ae b,fun e=>?_⟩
 ·have i:=h.i7.cellAt (c*4+j) (by omega);rw [i,QT a X S.c.i7 d m,AV d]
 ·subst e;have:=h.l9;unfold Ar at this;rw [b] at this;simp only [bA,bH] at this;exact dC this.2.1 (by decide)
theorem Dk.aB{k j B d X S b i c l w}(h:Dk k j B d X S b i c l w)(e:0<S.c.i7.length):∃g a,b=.slice (some ⟨g,0,none⟩) S.c.i7.length a:=by obtain ⟨m,n,a,rfl⟩:=Ad h.i7;have f:=Ah h.i7;subst f;obtain ⟨g,rfl⟩:=As h.i7 e;exact ⟨g,a,rfl⟩
theorem Dk.p6{g f B c X S d e b i w j}(h:Dk g f B c X S d e b i w)(a:Ab (fun _=>False) w j):Dk g f B c X S d e b i j:=
 ⟨h.l9.f8 a (fun q=>q),h.Yz,Ac h.i7 a (fun _ _ q=>q),Ac h.row a (fun _ _ q=>q),h.sn,h.lb⟩
theorem Ls.p6{e B f b}{U:Nat→Prop}{d j g c w k}(h:Ls e B U d j g c f b w)(a:Ab (fun _=>False) w k):Ls e B U d j g c f b k:=by obtain ⟨l,r,o,p⟩:=h.st;exact ⟨h.pr.l9.f8 a (fun q=>q),h.fn.p6 a,⟨l,Ac r a (fun _ _ q=>q),o,fun i m n=>(p i m n).f8 a (fun _ _ _ _ q=>q.elim)⟩⟩
theorem UW{m c v}(i):(Ak (m.set c ⟨(Ak m c).nm,v⟩) i).nm=(Ak m i).nm:=by
 unfold Ak;rw [List.getElem?_set];split
 ·rename_i h;subst h;split
  ·rename_i a;rw [aY a];rfl
  ·rename_i a;rw [bV (by omega)]
 ·rfl
theorem II(d u B:Nat)(U:Nat→Prop)(fv sv:Value)(rf:List RF)(fs:List FS)(pl ca:Nat)(f:List ByteArray)(X:List XF)(S:RS)(c:Nat)(v:Vl)(w:World)
 (h:A7 d u B f X S w)(Q:Ls u B U fv sv rf fs pl ca w)(H:Vr f X rf)(C:BY f.length S.c.i7)(y:c<S.c.i7.length)(A:Cn f.length S.c.i7.length v)(hm:S.c.i7.length≤200000)(hs:S.c.Ys.length+S.c.Yr.length≤200000):
 Calls Tryz.prog 40 #[.pointer (some ⟨d,0,none⟩),.int .i64 c,.int .i64 (DD v)] w fun e w'=>e=.returned (.tuple #[])∧A7 d u B f X {S with c:=S.c.set c v} w'∧Be d B w w':=by
 obtain ⟨mv,nv,L,s,h⟩:=h;obtain ⟨g,M,rfl⟩:=h.aB (by omega);have lr:=Ae h.l9;have r1:=h.l9.cell 1;simp only [F7,aU,aS,aT] at r1;obtain ⟨Z,a9,_,lg,b0⟩:=h.cell y;have c1:=Z 1 (by decide);have O:=a9 (c*4+1);simp only [Tb,aT,aS] at c1;obtain ⟨l,p⟩:=h.hold y v;by_cases t:v.kind=0
 ·have e1:DD v=0:=by simp [DD,t]
  have hS:S.hold c v={S with c:=S.c.set c v}:=by unfold RS.hold Co.set;simp [t]
  rw [e1] at l p⊢;rw [hS] at l;have HR:=Aa l;have HF:=Aa p;clear h l p hS Q H C A;go_enter Tryz.func40,Tryz.ntmps40;go_wp2;go_end0;exact ⟨rfl,⟨_,_,_,_,HR.o⟩,HF.o⟩
 ·obtain ⟨z,J⟩:∃z,DD v=z:=⟨_,rfl⟩;have d4:(z !=0)=true:=by rw [←J];simp [DD,t];split<;>omega
  have R:=Q.ZY p h.l9;rw [J] at l p R⊢;obtain ⟨T,D⟩:∃T,(if v.kind=1 then MZ f X ⟨2,v.y6,0⟩ else MZ f X (Ak S.c.i7 v.y6).nm)=T:=⟨_,rfl⟩;obtain ⟨N,x⟩:∃N,MZ f X (Ak S.c.i7 c).nm=N:=⟨_,rfl⟩;obtain ⟨E,P⟩:∃E,N++(⟨#[62]⟩:ByteArray)++T=E:=⟨_,rfl⟩;have G:(S.hold c v).c.i7.length=S.c.i7.length:=by simp [RS.hold]
  have V:=fun (W:World) (hW:Ab (fun _=>False) (w.setCell ⟨g,c*4+1,none⟩ (.int .i64 z)) W)=>Oz d u B U fv sv rf fs pl ca f X (S.hold c v) (.slice (some ⟨g,0,none⟩) S.c.i7.length M) nv L s v W (l.p6 hW) (R.p6 hW) H (by rw [G];exact A) t (by rw [G];exact hm)
  have a6:(if v.kind=1 then MZ f X ⟨2,v.y6,0⟩ else MZ f X (Ak (S.hold c v).c.i7 v.y6).nm)=T:=by rw [←D];show (if v.kind=1 then _ else MZ f X (Ak (S.c.i7.set c ⟨(Ak S.c.i7 c).nm,v⟩) v.y6).nm)=_;rw [UW]
  rw [a6,J] at V;have a4:Xh f X ((Ak S.c.i7 c).nm,if v.kind=1 then ⟨2,v.y6,0⟩ else (Ak S.c.i7 v.y6).nm)=E:=by rw [←P,←x,←D];symm;refine CV ?_;simp only [XO,MZ,ByteArray.data_append,Array.toList_append];split<;>simp
  have b2:{S with c:=S.c.set c v}={S.hold c v with c:={(S.hold c v).c with Ys:=((Ak S.c.i7 c).nm,if v.kind=1 then ⟨2,v.y6,0⟩ else (Ak S.c.i7 v.y6).nm)::S.c.Ys}}:=by
   unfold RS.hold Co.set;rcases A with ⟨q,_⟩ | ⟨q,_⟩ | ⟨q,_⟩
   ·exact dC q t
   ·simp [q]
   ·simp [q]
  have nN:N.size≤8010:=by
   rw [←x];refine Lj H _ ?_;have:=C.nm c y;rw [←AV y] at this;rcases this with q | ⟨_,q1,q2,_⟩
   ·exact .inl (by omega)
   ·exact .inr ⟨q1,q2⟩
  have nT:T.size≤8010:=by
   rw [←D];split
   ·exact Lj H _ (.inl (by simp))
   ·rename_i F;rcases A with ⟨q,_⟩ | ⟨q,_⟩ | ⟨q,hn⟩
    ·exact dC q t
    ·exact dC q F
    ·refine Lj H _ ?_;have:=C.nm v.y6 hn;rw [←AV hn] at this;rcases this with q | ⟨_,q1,q2,_⟩
     ·exact .inl (by omega)
     ·exact .inr ⟨q1,q2⟩
  have d3:=h.sn.len;have c0:=Z 0 (by decide);simp only [Tb,aS,bK,x] at c0;have r7:=h.l9.cell 7;have c5:=h.l9.frozen 7;simp only [F7,aU,aS,aT] at r7;have a5:MZ f X (Ak (S.hold c v).c.i7 c).nm=N:=by show MZ f X (Ak (S.c.i7.set c ⟨(Ak S.c.i7 c).nm,v⟩) c).nm=N;rw [UW,x]
  have a2:=Aa a5;have HT:=Aa V;have i:=Aa l;have b6:=Aa p;have HE:=Aa P;have b5:=Aa a4;have b7:=Aa b2;have d2:N.size+1+T.size≤20000:=by omega
  obtain ⟨na,nl,nc,rfl⟩:=Ad h.row;have c4:=Ah h.row;subst c4;clear a5 V l p R P a4 b2 a6 x D Q H C A h J;have d1:d≠g:=fun e=>b0 e.symm
  go_enter Tryz.func40,Tryz.ntmps40;go_wp2;have b3:d<(w.setCell ⟨g,c*4+1,none⟩ (.int .i64 z)).heap.size:=by simpa [World.setCell] using lr
  generalize Y:w.setCell ⟨g,c*4+1,none⟩ (.int .i64 z)=W at*;have R0:=i.o.l9.cell 0;have R1:=i.o.l9.cell 1;have R7:=i.o.l9.cell 7;have RF:=i.o.l9.frozen 7;simp only [F7,aU,aS,aT] at R0 R1 R7;have a8:=(i.o.cell (c:=c) (by rw [G];exact y)).1;have C0:=a8 0 (by decide);simp only [Tb,aS,bK,a2.o] at C0;have d5:g<W.heap.size:=by rw [←Y];simpa [World.setCell] using lg
  have b8:=Aa i.o.row;have c6:=Aa Y;clear a8 Z r1 r7 c0 c1 O a9 c5 Y G a2 nN nT;have a3:∀(K:Nat) (j:World) (m:Option Addr) (o n:Nat),B≤K→AB K j (.slice m o n) (D3 s (N++{data:=#[62]}++T))→Ab (fun _=>False) W j→A7 d u B f X {S with c:=S.c.set c v} (j.setCell ⟨d,7,none⟩ (.slice m o n))∧Be d B w (j.setCell ⟨d,7,none⟩ (.slice m o n)):=by
   intro K j m o n b9 h8 r;have a0:Ab (fun k=>k=d) j (j.setCell ⟨d,7,none⟩ (.slice m o n)):=(Ab.refl _ _).p7 7 _;have c3:Be d B w (j.setCell ⟨d,7,none⟩ (.slice m o n)):=by refine Be.trans (b:=W) b6.o ((Be.s8 r).trans (Be.Yu a0))
   refine ⟨⟨.slice (some ⟨g,0,none⟩) S.c.i7.length M,.slice m o n,L,D3 s (N++{data:=#[62]}++T),?_⟩,c3⟩;rw [b7.o];have a7:Ar d (F7 u (.slice (some ⟨g,0,none⟩) S.c.i7.length M) L (S.hold c v) (.slice na s.length nc)) 39 j:=i.o.l9.f8 r (fun q=>q);refine ⟨a7.set 7 _,i.o.Yz,Ac (Ac i.o.i7 r (fun _ _ q=>q)) a0 (fun k F q=>?_),?_,?_,i.o.lb⟩
   ·subst q;simp [Value.ownBlock] at F;exact b0 F
   ·exact Ac (Ax h8 b9) a0 (Ap h8 a7 (by decide))
   ·have:=i.o.sn.Z0 ((Ak S.c.i7 c).nm,if v.kind=1 then ⟨2,v.y6,0⟩ else (Ak S.c.i7 v.y6).nm);rw [b5.o,←HE.o] at this;exact this
  have b4:=Aa a3;have c2:B≤W.heap.size:=by have:=(i.o.i7.lt g rfl).1;omega
  clear a3;have c9:¬(9223372036854775807<N.size+1):=by omega
  have d0:¬(9223372036854775807<N.size+1+T.size):=by omega
  go_region_law (first
   | (go_simp;go_at_call 70;refine (HT.o _ ?_).mono ?_;exact (by repeat (first | exact Ab.refl _ _ | refine Ab.drew ?_ | refine Ab.drewN ?_ _ | refine Ab.alloc ?_ _));rintro e w7 ⟨rfl,m7,a1⟩;have a1:=a1.symm;subst a1;dsimp only)
   | (go_simp;go_at_call 69;refine (Kw B (.slice na s.length nc) s _ _ (Ac b8.o (by repeat (first | exact Ab.refl _ _ | refine Ab.drew ?_ | refine Ab.drewN ?_ _ | refine Ab.alloc ?_ _)) (fun _ _ q=>q)) (by omega)).mono ?_;rintro e j ⟨v8,rfl,I,b1⟩;obtain ⟨m,o,n,rfl⟩:=Ad I;have r:=Aa (Ab.trans (X:=fun _=>False) (a:=W) (by repeat (first | exact Ab.refl _ _ | refine Ab.drew ?_ | refine Ab.drewN ?_ _ | refine Ab.alloc ?_ _)) b1);have c7:j.cell? ⟨d,7,none⟩=some (.slice na s.length nc):=(aW (r.o.block d b3 (fun q=>q))).trans R7;have c8:j.frozen? ⟨d,7,none⟩=false:=(bB (r.o.block d b3 (fun q=>q))).trans RF;have I:=Aa I;clear b1;dsimp only))
  all_goals go_end0
  all_goals obtain ⟨O,f2⟩:=b4.o _ _ _ _ _ (by simp;exact c2) I.o r.o
  all_goals exact ⟨rfl,O,f2⟩
end Go.Proofs.YthppbgndiplgnaaGreatDoor

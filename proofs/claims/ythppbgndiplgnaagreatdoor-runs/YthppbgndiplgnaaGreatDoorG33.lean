/- One of the texts of the proof of runs_card_holds: MaF MaG MaH MaJ. -/
import Derived.Test.YthppbgndiplgnaaGreatDoorG32
import Derived.OwnWalk
set_option maxRecDepth 100000
set_option maxHeartbeats 4000000
namespace Go.Proofs.YthppbgndiplgnaaGreatDoor
open Go.RowKit Go.Maps
theorem V7{w:World}{B:Nat}{e:TypeId}{a g b n k:Nat}{d:List Value}(h:w.ownsRow B e a (.slice (some ⟨g,0,none⟩) n b) n d)(p:k≤n):w.ownsRow B e a (.slice (some ⟨g,0,none⟩) k b) k (d.take (k*a)):=by
 obtain ⟨i,j⟩:=h;have r:k*a≤n*a:=Nat.mul_le_mul_right _ p;refine ⟨by rw [List.length_take,i];omega,.inr ?_⟩;rcases j with ⟨q,_⟩ | ⟨v,u,f,c,l,o,x,m,s,t⟩
 ·simp at q
 ·simp only [Value.slice.injEq,bA,Addr.mk.injEq,and_true,true_and] at c;obtain ⟨rfl,rfl⟩:=c;refine ⟨g,b,f,rfl,l,o,by omega,m,s,?_⟩;rw [←t,List.take_take,Nat.min_eq_left r]
theorem QN(l):(Nd l).length=l.length*4:=by
 unfold Nd;rw [List.length_flatten];have:((l.reverse.map TT).map List.length)=List.replicate l.length 4:=by
  apply cO
  ·simp
  ·intro i a b;simp [TT]
 rw [this];simp
theorem Cn.Zb{a b n v}(h:Cn a n v)(e:a≤b):Cn b n v:=by
 rcases h with h | ⟨c,d⟩ | h
 ·exact .inl h
 ·exact .inr (.inl ⟨c,by omega⟩)
 ·exact .inr (.inr h)
theorem CD.pop{a j d B t v o g n b p u m l f r w}(h:CD a j d B p t v o m u (.slice (some ⟨g,0,none⟩) n b) l w)(s:m.u8=f::r):
 CD a j d B p t v o {m with u8:=r} u (.slice (some ⟨g,0,none⟩) r.length b) l (w.setCell ⟨a,6,none⟩ (.slice (some ⟨g,0,none⟩) r.length b))∧Ci a j d B w (w.setCell ⟨a,6,none⟩ (.slice (some ⟨g,0,none⟩) r.length b)):=by
 have y:=Ah h.Yw;subst y;have c:Ab (fun k=>k=a) w (w.setCell ⟨a,6,none⟩ (.slice (some ⟨g,0,none⟩) r.length b)):=(Ab.refl _ _).p7 6 _;have x:r.length≤m.u8.length:=by rw [s];simp
 have i:=V7 h.Yw x;have e:(Nd m.u8).take (r.length*4)=Nd r:=by rw [s,Im,←QN,List.take_left]
 rw [e] at i;refine ⟨⟨h.l9.set 6 _,h.Yz,Ac h.i7 c (Ap h.i7 h.l9 (by decide)),Ac i c (Ap i h.l9 (by decide)),h.Ys.f8 c (h.Ys.ne h.l9),h.Yr.f8 c (h.Yr.ne h.l9),h.lb,h.ne⟩,c.mono (fun _ _ q=>.inl q)⟩
theorem CM.frame{b D u B C E s v m f r w}(h:CM b D u B v C E s m w)(n:m.u8=f::r):
 ∃g e,w.cell? ⟨b,6,none⟩=some (.slice (some ⟨g,0,none⟩) (r.length+1) e)∧r.length+1≤e∧g<w.heap.size∧b<w.heap.size∧w.cell? ⟨g,r.length*4,none⟩=some (.int .i64 f.fn)∧w.cell? ⟨g,r.length*4+1,none⟩=some (.int .i64 f.base)∧w.cell? ⟨g,r.length*4+2,none⟩=some (.int .i64 f.i8)∧w.cell? ⟨g,r.length*4+3,none⟩=some (.int .i64 f.answer)∧(∀j,w.frozen? ⟨g,j,none⟩=false)∧g≠b:=by
 obtain ⟨L,M,G,h⟩:=h;have y:m.u8.length=r.length+1:=by rw [n];simp
 obtain ⟨N,O,o,rfl⟩:=Ad h.Yw;obtain ⟨g,rfl⟩:=As h.Yw (by omega);have A:=Ah h.Yw;subst A;have c:=h.l9.cell 6;simp only [Iy,aU,aS,aT] at c;have k:m.u8.length≤o:=by
  rcases h.Yw.2 with ⟨q,_⟩ | ⟨H,F,t,z,I,J,K,_⟩
  ·simp at q
  ·simp only [Value.slice.injEq,bA,Addr.mk.injEq,and_true,true_and] at z;omega
 obtain ⟨t,l⟩:=BO h.Yw;have a:∀j,j<4→w.cell? ⟨g,r.length*4+j,none⟩=(TT f)[j]? :=by intro j x;have p:=h.Yw.cellAt (r.length*4+j) (by omega);have d:=Pt m.u8 (i:=0) (by omega) x;rw [show m.u8.length-1-0=r.length by omega] at d;rw [p,d];simp only [n,bQ]
 rw [y] at c k;exact ⟨g,o,c,k,Ae l,Ae h.l9,a 0 (by decide),a 1 (by decide),a 2 (by decide),a 3 (by decide),fun j=>Aw l j,Ap h.Yw h.l9 (by decide) g rfl⟩
theorem KE(b p l B x D E u P n m v w)(h:CM b p l B x D E u m w)(hP:P.length≤4001)(i:BM P n m)(z:m.u8≠[])(Y:Cn P.length m.c.i7.length v):
 Calls Tryz.prog 51 #[.pointer (some ⟨b,0,none⟩),WC v] w fun e O=>e=.returned (.tuple #[])∧CM b p l B x D E u (A6 m v) O∧Ci b p l B w O:=by
 obtain ⟨f,r,a⟩:∃f r,m.u8=f::r:=by
  cases V:m.u8 with
  | nil=>exact dC V z
  | cons f r=>exact ⟨f,r,rfl⟩
 obtain ⟨g,t,L,a2,lg,lm,c0,c1,c2,c3,_,a3⟩:=h.frame a;obtain ⟨mv,rv,ch,d⟩:=h;have X:rv=.slice (some ⟨g,0,none⟩) (r.length+1) t:=by have q:=d.l9.cell 6;simp only [Iy,aU,aS,aT] at q;rw [q] at L;exact dE L
 subst X;obtain ⟨k,o⟩:=d.pop a;have fz:=d.l9.frozen 6;have I:=i.Yl;rw [a] at I;simp only [aX] at I;have a1:=Ar.new w #[.int .i64 v.kind,.int .i64 v.y6] 149;unfold WC;cases r with
 | nil=>
   obtain ⟨J,K⟩:=k.wrote (m':={m with u8:=[],Yi:=2}) 7 (.int .i64 2) rfl k.Yz rfl rfl rfl rfl;have Z:=d.l9.cell 7;have a0:=d.l9.frozen 7;simp only [Iy,aU,aS,aT] at Z;have j:A6 m v={m with u8:=[],Yi:=2}:=by unfold A6;rw [a]
   rw [j];simp only [bM,cB,Nat.zero_mul] at*;have A:=(Ab.refl (fun _=>False) ((w.setCell ⟨b,6,none⟩ (.slice (some ⟨g,0,none⟩) 0 t)).setCell ⟨b,7,none⟩ (.int .i64 2))).alloc (.cells #[.int .i64 v.kind,.int .i64 v.y6] 149);have Q:=Aa (J.p6 A);have R:=Aa ((o.trans K).trans (Ci.s8 A));clear k o J K A d j a z i;go_enter Tryz.func51,Tryz.ntmps51;go_wp2_with fail;exact bC (v:=.tuple #[]) (by simp [results,Tryz.results51,go_sem]) rfl ⟨rfl,⟨_,_,_,Q.o⟩,R.o⟩
 | cons y F=>
   have j:A6 m v={m with u8:=y::F,c:=m.c.set f.answer v}:=by unfold A6;rw [a]
   rw [j];have C:=i.YZ;rw [a] at C;have H:=fun (W:World) (U:Ab (fun _=>False) (w.setCell ⟨b,6,none⟩ (.slice (some ⟨g,0,none⟩) (y::F).length t)) W)=>DT b p l B x D E u {m with u8:=y::F} f.answer v W ⟨_,_,_,k.p6 U⟩ i.YQ C.1 (Y.Zb (by omega)) (by have:=i.pl;simp only;omega) (by have:=i.ml;simp only;omega)
   have s:=Aa H;have G:=Aa o;clear k o H d j C a i z;simp only [aX] at*;unfold WC at s;go_enter Tryz.func51,Tryz.ntmps51;go_wp2_with fail;refine (s.o _ (by repeat (first | exact Ab.refl _ _ | refine Ab.drew ?_ | refine Ab.drewN ?_ _ | refine Ab.alloc ?_ _))).mono ?_;rintro e w2 ⟨rfl,M,N⟩;have S:=Aa M;have T:=Aa ((G.o.trans (Ci.s8 (by repeat (first | exact Ab.refl _ _ | refine Ab.drew ?_ | refine Ab.drewN ?_ _ | refine Ab.alloc ?_ _)))).trans N);clear M N s G;go_wp2_with fail;go_end0;exact ⟨rfl,S.o,T.o⟩
def WT(a:Nat)(w:World):Nat:=match w.cell? ⟨a,6,none⟩ with
 | some (.slice _ l _)=>l
 | _=>0
theorem QS{a i d B g j c e m w}(h:CM a i d B e g j c m w):WT a w=m.u8.length:=by obtain ⟨l,n,k,h⟩:=h;obtain ⟨o,q,p,rfl⟩:=Ad h.Yw;have f:=Ah h.Yw;subst f;have b:=h.l9.cell 6;simp only [Iy,aU,aS,aT] at b;unfold WT;rw [b]
theorem Js{m v f r}(h:m.u8=f::r):(A6 m v).u8=r:=by unfold A6;rw [h];cases r<;>rfl
theorem Fc{P i}(h:i<P.length):AF P i=P[i]:=by unfold AF;rw [aY h];rfl
theorem KD(c o l B p A C x P n m w)(h:CM c o l B p A C x m w)(hp:BB B w p P)(Q:Gi P)(J:BM P n m):
 Calls Tryz.prog 23 #[.pointer (some ⟨c,0,none⟩)] w fun e w'=>e=.returned (.tuple #[])∧CM c o l B p A C x (Bc P 41 m) w'∧Ci c o l B w w':=by
 obtain ⟨V,I⟩:∃V,Bc P 41 m=V:=⟨_,rfl⟩;rw [I];have u:=Aa I;have N:=Aa h;have a1:=Aa hp;have O:=Aa Q;have d:=Aa J;have y:m.u8.length<41:=by have:=J.Yl;omega
 clear I h hp Q J;go_enter Tryz.func23,Tryz.ntmps23;go_wp2;go_loopw [] (fun wr=>∃(j:Nat) (a:Mc),a.u8.length<j∧dJ (CM c o l B p A C x a wr)∧dJ (BM P n a)∧dJ (Bc P j a=V)∧dJ (Ci c o l B w wr)) (fun wr=>WT c wr)
 case atStart=>exact ⟨41,m,y,N,d,u,Ci.refl _ _ _ _ _⟩
 case round=>
  clear u d;obtain ⟨j,a,X,k,d,u,t⟩:=hrel;obtain ⟨z,rfl⟩:∃z,j=z+1:=⟨j-1,by omega⟩;have b:=u.o;unfold Bc at b;have a6:=Aa (QS k.o);have a8:wr.cell? ⟨c,7,none⟩=some (.int .i64 a.Yi)∧c<wr.heap.size∧wr.cell? ⟨c,0,none⟩=some p:=by obtain ⟨_,_,_,q⟩:=k.o;have D:=q.l9.cell 7;have L:=q.l9.cell 0;simp only [Iy,aU,aS,aT] at D L;exact ⟨D,Ae q.l9,L⟩
  obtain ⟨D,lm,L⟩:=a8;by_cases i:a.Yi=1
  ·rw [cU i] at b;have Z:=d.o.run i;obtain ⟨f,r,s⟩:∃f r,a.u8=f::r:=by
    cases hq:a.u8 with
    | nil=>exact dC hq Z
    | cons f r=>exact ⟨f,r,rfl⟩
   obtain ⟨g,cm,r6,b0,lg,_,c0,c1,c2,c3,_,_⟩:=k.o.frame s;have U:=d.o.fr f (by rw [s];simp);have T:=U.fn;have H:=t.o.Y6 N.o a1.o;obtain ⟨gf,cf,a3,b3⟩:=H.form (by omega);subst a3;obtain ⟨vv,sv,R,a9,a0⟩:=H.get T;obtain ⟨sa,sc,rfl,_⟩:=a0.form;have d3:=R 3 (by decide);simp only [Un,aS,aT] at d3;have y:=d.o.Yl;rw [s] at y b;simp only at b;simp only [aX] at y;have b2:(f.fn:Int)<(P.length:Int):=by omega
   have S:((a.Yi:Int)==1)=true:=by simp [i]
   rw [Fc T] at b;have F:=Aa s;have b1:=O.o.Yx;rw [i] at D;clear H R a9 a0 U s i S Z;by_cases K:f.i8<P[f.fn].m8.length
   ·rw [cU K] at b;subst b;generalize P[f.fn].m8.length=G at*;have a7:decide (f.i8<G)=true:=by simp [K]
    go_wp2_with fail;go_region;go_wp2_with fail;go_region;go_wp2_with fail;refine bC (v:=.tuple #[]) (by simp [results,Tryz.results23,go_sem]) rfl ⟨rfl,?_,?_⟩
    ·exact k.o.p6 (by repeat (first | exact Ab.refl _ _ | refine Ab.drew ?_ | refine Ab.drewN ?_ _ | refine Ab.alloc ?_ _))
    ·exact t.o.trans (Ci.s8 (by repeat (first | exact Ab.refl _ _ | refine Ab.drew ?_ | refine Ab.drewN ?_ _ | refine Ab.alloc ?_ _)))
   ·rw [cT K] at b;generalize P[f.fn].m8.length=G at*;have a7:decide (f.i8<G)=false:=by simp;omega
    have E:=Aa (fun (W:World) (hW:Ab (fun _=>False) wr W)=>KE c o l B _ A C x P n a DL W (k.o.p6 hW) O.o.Yx d.o (by rw [F.o];simp) (GH _ _));have a2:=Aa b;clear b;unfold WC DL at E;go_wp2_with fail;go_region;go_wp2_with fail;go_region;go_wp2_with fail;refine (E.o _ (by repeat (first | exact Ab.refl _ _ | refine Ab.drew ?_ | refine Ab.drewN ?_ _ | refine Ab.alloc ?_ _))).mono ?_;rintro e w2 ⟨rfl,M,s2⟩;have a4:=Js (v:=DL) F.o;have S1:=Aa M;have S2:=Aa ((t.o.trans (Ci.s8 (by repeat (first | exact Ab.refl _ _ | refine Ab.drew ?_ | refine Ab.drewN ?_ _ | refine Ab.alloc ?_ _)))).trans s2);have S3:=Aa (d.o.Y9);have a5:=Aa (QS M);have Y:(A6 a DL).u8.length<z∧(A6 a DL).u8.length<a.u8.length:=by rw [a4];have:=F.o;rw [this] at X⊢;simp only [aX] at X⊢;omega
    clear M s2 E;go_wp2_with fail;go_roundw
    case rel=>exact ⟨z,A6 a DL,Y.1,S1,S3,a2,S2⟩
    case measure=>rw [a5.o,a6.o];exact Y.2
  ·rw [cT i] at b;subst b;have S:((a.Yi:Int)==1)=false:=by simp;omega
   clear i;go_wp2_with fail;go_end0;exact ⟨rfl,k.o,t.o⟩
def Nf(l:List Vl):List Value:=(l.map fun v=>[Value.int .i64 v.kind,.int .i64 v.y6]).flatten
theorem Vg(l v):Nf (l++[v])=Nf l++[.int .i64 v.kind,.int .i64 v.y6]:=by unfold Nf;simp
theorem Tryz.infoMv:(Tryz.prog.info? 149).map (fun i=>(i.zero,i.size,i.bytes))=some (some (.agg #[.int .i64 0,.int .i64 0]),2,16):=by kernel_rfl
theorem L4(Q pm Y B Z mn pn X m b l P w)(h:CM Q pm Y B Z mn pn X m w)(n:AD B w P l)(hl:l.length≤4000)(u:∀a,a∈l→b+a<m.c.i7.length)(a7:m.c.i7.length≤200000)(hb:b≤200000):
 Calls Tryz.prog 56 #[.pointer (some ⟨Q,0,none⟩),.int .i64 b,P] w fun e R=>∃v,e=.returned v∧R.ownsRow w.heap.size 149 2 v l.length (Nf (BZ m.c.i7 b l))∧Ab (fun _=>False) w R:=by
 obtain ⟨O,F,L,M,N⟩:=info_parts Tryz.infoMv;obtain ⟨la,ll,lc,rfl⟩:=Ad n;have a0:=Ah n;subst a0;have T:=Aa h;have U:=Aa n;have S:=Aa u;clear h n u;go_enter Tryz.func56,Tryz.ntmps56;go_wp2_with (at_make;refine wpList_make_own _ rfl _ _ 141 rfl w.heap.size 149 O (.agg #[.int .i64 0,.int .i64 0]) 2 Tryz.underlying141 F L M .i64 .i64 (l.length:Int) l.length rfl rfl rfl (by rw [N];omega) (by unfold maxLen;omega) (aV _) ?_;intro w1 J D);have r:=Aa J;have p:dJ (Ab (fun _=>False) w w1):=Ab.grown (Ab.refl _ w) D (fun k G=>by cases G);clear J D;go_loopw [7,15] (fun v i wr=>∃(k:Nat),k≤l.length∧i=.int .i64 k∧dJ (wr.ownsRow w.heap.size 149 2 v k (Nf (BZ m.c.i7 b (l.take k))))∧dJ (Ab (fun _=>False) w wr)) (fun _ i _=>l.length-(intOf i).toNat)
 case atStart=>exact ⟨0,by omega,rfl,r,p⟩
 case round=>
  clear r p;obtain ⟨k,G,rfl,c,d⟩:=hrel;by_cases H:k<l.length
  ·have f:=Ac U.o d.o (fun _ _ q=>q);obtain ⟨gl,rfl⟩:=As f (by omega);have A:=f.cellAt k (by omega);rw [bY,aY H] at A;simp only [Option.map_some] at A;have a9:=(f.lt gl rfl).2;have y:=S.o l[k] (bD _);obtain ⟨g,cm,r5,lg,lm,z⟩:=(T.o.p6 d.o).holds y;obtain ⟨c3,t,_⟩:=z _ y;have c5:wr.cell? ⟨g,(b+l[k])*5+3+1,none⟩=some (.int .i64 (Ak m.c.i7 (b+l[k])).v.y6):=t;have a2:dJ (Nf (BZ m.c.i7 b (l.take (k+1)))=Nf (BZ m.c.i7 b (l.take k))++[.int .i64 (Ak m.c.i7 (b+l[k])).v.kind,.int .i64 (Ak m.c.i7 (b+l[k])).v.y6]):=by show _=_;rw [cA H];unfold BZ;rw [dD];exact Vg _ _
   have a4:((b:Int)+(l[k]:Int))<(m.c.i7.length:Int):=by omega
   have a5:(0:Int)≤(b:Int)+(l[k]:Int):=by omega
   have a6:(k:Int)<(l.length:Int):=by omega
   generalize Ak m.c.i7 (b+l[k])=C at*;generalize l[k]=x at*;obtain ⟨va,vl,vc,rfl⟩:=Ad c.o;have a3:=Ah c.o;subst a3;have a8:=d.o.size;clear f z t;go_wp2_with (at_builtin;refine cD _ rfl _ _ 141 rfl w.heap.size 149 O (.agg #[.int .i64 0,.int .i64 0]) 2 16 Tryz.underlying141 F L M N rfl (by decide) _ _ _ rfl (c.o.alloc _) ⟨wr.heap.size,0,none⟩ 1 1 [.int .i64 C.v.kind,.int .i64 C.v.y6] rfl rfl (AN (by simp) _ _) (fun x K=>by simp at K;rcases K with rfl | rfl<;>rfl) (by unfold maxLen;omega) (by omega) (by simp;omega) ?_;intro v' w3 I E a1);have W:Ab (fun _=>False) w w3:=Ab.grown (d.o.alloc _) E (fun j hj=>.inr (c.o.lt j hj).1);have s:=Aa I;rw [←a2.o] at s;clear E a1 I;go_roundw
   case rel=>exact ⟨vl+1,by omega,by go_num,s,W⟩
   case measure=>simp [intOf];omega
  ·have e:k=l.length:=by omega
   subst e;have o:=c.o;rw [List.take_length] at o;have V:=Aa o;clear c o;go_wp2_with fail;go_ret;exact ⟨_,rfl,V.o,d.o⟩
theorem CD.Z3{a g c B p s n o r i v' m l w W b fr}(h:CD a g c B o p s n m r i l w)(C:Ab (fun _=>False) w W)(D:W.grownBy b i.ownBlock)(v:b.ownsRow B 143 4 v' (m.u8.length+1) (Nd m.u8++TT fr)):
 CD a g c B o p s n {m with u8:=fr::m.u8} r v' l (b.setCell ⟨a,6,none⟩ v')∧Ci a g c B w (b.setCell ⟨a,6,none⟩ v'):=by
 have d:Ab (fun k=>i.ownBlock=some k) w b:=Ab.grown (C.mono (fun _ _ q=>q.elim)) D (fun j F=>.inl F);have hF:Ci a g c B w b:=d.mono (fun k _ q=>by obtain ⟨A,y,z,E⟩:=Ec h.Yw q;exact .inr (.inr (.inr ⟨A,y,_,z,E,.inr rfl⟩)))
 have f:Ab (fun k=>k=a) b (b.setCell ⟨a,6,none⟩ v'):=(Ab.refl _ _).p7 6 _;have e:Ar a (Iy o p s n l r i m.Yi g c) 84 b:=h.l9.f8 d (fun q=>Ap h.Yw h.l9 (by decide) a q rfl);have u:=Ac h.i7 d (EU h.i7 h.Yw (by decide));have x:=h.Ys.f8 d (fun q=>Fb h.Yw h.Ys _ q rfl);have t:=h.Yr.f8 d (fun q=>Fb h.Yw h.Yr _ q rfl);refine ⟨⟨e.set 6 _,h.Yz,Ac u f (Ap u e (by decide)),?_,x.f8 f (x.ne e),t.f8 f (t.ne e),h.lb,h.ne⟩,hF.trans (f.mono (fun _ _ q=>.inl q))⟩;show (b.setCell ⟨a,6,none⟩ v').ownsRow B _ 4 v' (fr::m.u8).length (Nd (fr::m.u8));rw [Im,aX];exact Ac v f (Ap v e (by decide))
theorem Tryz.infoFr:(Tryz.prog.info? 143).map (fun i=>(i.zero,i.size,i.bytes))=some (some (.agg #[.int .i64 0,.int .i64 0,.int .i64 0,.int .i64 0]),4,32):=by kernel_rfl
theorem WR(c):∀u∈TT c,u.oneCell'=true:=by intro x a;simp only [TT,cM,bU,or_false] at a;rcases a with rfl | rfl | rfl | rfl<;>rfl
theorem Ts(l):∀(a:Nat) (c:Co),DY c.i7→DY (CH l a c).i7:=by
 induction l with
 | nil=>intro a c h;exact h
 | cons v l b=>intro a c h;exact b _ _ (h.set a v)
theorem Ju(d j i B:Nat)(r:Value)(v x o:Nat)(P:List PFn)(m:Mc)(f g:Nat)(k:List Vl)(n:Value)(w:World)(h:CM d j i B r v x o m w)(t:40≤m.u8.length)(E:m.u8.length≤40)(D:∃a l c,n=.slice a l c):
 Calls Tryz.prog 22 #[.pointer (some ⟨d,0,none⟩),.int .i64 f,n,.int .i64 g] w fun e z=>e=.returned (.bool false)∧CM d j i B r v x o (Bu P m f k g) z∧Ci d j i B w z:=by
 have s:Bu P m f k g={m with Yi:=4}:=by unfold Bu;rw [cU t]
 rw [s];obtain ⟨a,l,c,rfl⟩:=D;obtain ⟨L,M,I,b⟩:=h;obtain ⟨N,Q,O,rfl⟩:=Ad b.Yw;have G:=Ah b.Yw;subst G;have y:=b.l9.cell 6;have H:=b.l9.cell 7;have J:=b.l9.frozen 7;have K:=Ae b.l9;simp only [Iy,aU,aS,aT] at y H;obtain ⟨p,q⟩:=b.wrote (m':={m with Yi:=4}) 7 (.int .i64 4) rfl b.Yz rfl rfl rfl rfl;have A:=Aa p;have C:=Aa q;have F:decide ((40:Int)≤(m.u8.length:Int))=true:=by simp;omega
 have u:m.u8.length=40:=by omega
 rw [u] at y;clear b p q s t E u F;go_enter Tryz.func22,Tryz.ntmps22;go_wp2_with fail;go_ret;exact ⟨rfl,⟨_,_,_,A.o⟩,C.o⟩
theorem Hv(a r p B:Nat)(fv:Value)(A C z:Nat)(P:List PFn)(n:Nat)(m:Mc)(f l B':Nat)(b:List Vl)(av:Value)(w:World)(h:CM a r p B fv A C z m w)(J:BB B w fv P)(F:Gi P)(G:WG P (n+1) m)(hd:m.u8.length<40)(hf:f<P.length)(ha:∀v,v∈b→Cn P.length m.c.i7.length v)(d6:b.length≤(AF P f).m9.length)(D:w.ownsRow B' 149 2 av b.length (Nf b)):
 Calls Tryz.prog 22 #[.pointer (some ⟨a,0,none⟩),.int .i64 f,av,.int .i64 l] w fun e T=>e=.returned (.bool true)∧CM a r p B fv A C z (Bu P m f b l) T∧Ci a r p B w T:=by
 have hV:Bu P m f b l=⟨m.c.enter f (AF P f).m9.length b,⟨f,m.c.i7.length,0,l⟩::m.u8,m.Yi⟩:=by unfold Bu;rw [cT (by omega)]
 rw [hV];obtain ⟨i0,d8,f2,f3,f4⟩:=info_parts Tryz.infoCe;obtain ⟨i1,d9,e9,f0,f1⟩:=info_parts Tryz.infoFr;obtain ⟨va,vl,vc,rfl⟩:=Ad D;have V:=Ah D;subst V;have e6:=F.m9 f;have g7:=G.ml;have g8:=G.pl;have g3:=F.Yx;obtain ⟨g,E,rfl,f6⟩:=J.form (by omega);obtain ⟨vv,sv,U,a8,e4⟩:=J.get hf;obtain ⟨xv,xn,xc,rfl⟩:=Ad a8;have e8:=Ah a8;subst e8;have Z:=U 1 (by decide);simp only [Un,aS,aT] at Z;rw [Fc hf] at d6 e6 hV;have HH:=Aa h;have c8:=Aa D;have HI:=Aa G;have HA:=Aa ha;have f9:=Aa F;obtain ⟨mv,rv,ch,d⟩:=h;obtain ⟨ma,h2,mc,rfl⟩:=Ad d.i7;have e2:=Ah d.i7;subst e2;obtain ⟨ra,h3,rc,rfl⟩:=Ad d.Yw;have e3:=Ah d.Yw;subst e3;have r0:=d.l9.cell 0;have K:=d.l9.cell 5;have r6:=d.l9.cell 6;have b4:=d.l9.frozen 6;have lm:=Ae d.l9;simp only [Iy,aU,aS,aT] at r0 K r6;have H:=Aa (Ap d.Yw d.l9 (by decide));have b6:¬(Value.slice ra m.u8.length rc).ownBlock=some g:=by obtain ⟨_,q,_⟩:=J;exact EU q d.Yw (by decide) g rfl
 have b0:=Aa b6;have b2:=Aa d;have a9:=Aa d.Yw;have d4:B≤w.heap.size:=by have:=d.lb;omega
 have g4:(f:Int)<(P.length:Int):=by omega
 generalize hN:P[f].m9.length=N at*;have HN:=Aa hN;have g0:decide ((40:Int)≤(m.u8.length:Int))=false:=by simp;omega
 have g1:¬40≤m.u8.length:=by omega
 have g2:¬(40:Int)≤(m.u8.length:Int):=by omega
 have f8:=Aa J;have d0:dJ (g≠a):=by obtain ⟨_,q,_⟩:=J;exact Ap q d.l9 (by decide) g rfl
 clear d J G D F U a8 e4 hN ha hV b6;go_enter Tryz.func22,Tryz.ntmps22;go_wp2_with (at_builtin;refine Df _ rfl _ _ 82 rfl B 143 i1 (.agg #[.int .i64 0,.int .i64 0,.int .i64 0,.int .i64 0]) 4 32 Tryz.underlying82 d9 e9 f0 f1 rfl (by decide) _ _ _ rfl (a9.o.alloc _) ⟨w.heap.size,0,none⟩ 1 1 (TT ⟨f,m.c.i7.length,0,l⟩) rfl rfl (AN rfl _ _) (WR _) (by decide) (by unfold maxLen;omega) (by omega) (by simp;omega) ?_;intro v' t I y a6;have q6:t.cell? ⟨a,6,none⟩=some (.slice ra m.u8.length rc):=(aW (y.block a (by simp;omega) (fun h=>H.o a h.symm rfl))).trans (by rw [←r6];exact aW (bF _ _ _ lm));have z6:t.frozen? ⟨a,6,none⟩=false:=(bB (y.block a (by simp;omega) (fun h=>H.o a h.symm rfl))).trans (by rw [←b4];exact bB (bF _ _ _ lm));have q0:t.cell? ⟨a,0,none⟩=some (.slice (some ⟨g,0,none⟩) P.length E):=(aW (y.block a (by simp;omega) (fun h=>H.o a h.symm rfl))).trans (by rw [←r0];exact aW (bF _ _ _ lm));have q1:t.cell? ⟨g,f*4+1,none⟩=some (.slice xv N xc):=(aW (y.block g (by simp;omega) (fun h=>b0.o h.symm))).trans (by rw [←Z];exact aW (bF _ _ _ f6));have f5:g<t.heap.size:=(by have:=y.size;simp at this;omega);have f7:a<t.heap.size:=(by have:=y.size;simp at this;omega);have d7:g≠a:=d0.o;obtain ⟨O,S,Q,rfl⟩:=Ad I);have M:World.grownBy _ t (Value.ownBlock (.slice ra m.u8.length rc)):=y;have d5:=(fun (o:Ab (fun _=>False) w _)=>b2.o.Z3 (fr:=⟨f,m.c.i7.length,0,l⟩) (v':=.slice O S Q) o M I) (by repeat (first | exact Ab.refl _ _ | refine Ab.drew ?_ | refine Ab.drewN ?_ _ | refine Ab.alloc ?_ _));obtain ⟨p1,p2⟩:=d5;have P1:dJ (CM a r p B (.slice (some ⟨g,0,none⟩) P.length E) A C z {m with u8:=⟨f,m.c.i7.length,0,l⟩::m.u8} (t.setCell ⟨a,6,none⟩ (.slice O S Q))):=⟨_,_,_,p1⟩;have P2:=Aa p2;clear I y a6 q6 z6 q0 q1 f5 f7 d7 M p1 p2 b2 a9 H b0 r0 K r6 b4 Z;generalize World.setCell t _ _=W1 at*;go_loopw [50] (fun i wr=>∃k:Nat,k≤N∧i=.int .i64 k∧dJ (CM a r p B (.slice (some ⟨g,0,none⟩) P.length E) A C z ⟨m.c.m9 f k,⟨f,m.c.i7.length,0,l⟩::m.u8,m.Yi⟩ wr)∧dJ (Ci a r p B w wr)) (fun i _=>N-(intOf i).toNat)
 case atStart=>
  have e:m.c.m9 f 0=m.c:=by simp [Co.m9]
  have R:CM a r p B (.slice (some ⟨g,0,none⟩) P.length E) A C z ⟨m.c.m9 f 0,⟨f,m.c.i7.length,0,l⟩::m.u8,m.Yi⟩ W1:=by rw [e];exact P1.o
  exact ⟨0,by omega,rfl,R,P2⟩
 case round=>
  obtain ⟨k,hk,rfl,⟨mv,rv,ch,u⟩,a3⟩:=hrel;clear P1 P2;by_cases g6:k<N
  ·have a5:(m.c.m9 f k).i7.length=m.c.i7.length+k:=by simp [Co.m9]
   obtain ⟨c5,h0,c6,rfl⟩:=Ad u.i7;have e1:=Ah u.i7;subst e1;have K:=u.l9.cell 5;have rz:=u.l9.frozen 5;have lr:=Ae u.l9;simp only [Iy,aU,aS,aT] at K;have H:=Aa (Ap u.i7 u.l9 (by decide));have b5:=Aa u;have d4:B≤wr.heap.size:=by have:=u.lb;omega
   have b1:=Aa u.i7;have e7:=Aa (Mt m.c f k);clear u;simp only [a5] at K b1 H b5;have e0:=Aa a5;clear a5;go_wp2_with (at_builtin;refine Df _ rfl _ _ 81 rfl B 151 i0 (.agg XL) 5 40 Tryz.underlying81 d8 f2 f3 f4 rfl (by decide) _ _ _ rfl (b1.o.alloc _) ⟨wr.heap.size,0,none⟩ 1 1 (Pk ⟨⟨0,f,k⟩,DL⟩) rfl rfl (AN rfl _ _) (Ty _) (by decide) (by unfold maxLen;omega) (by omega) (by simp;omega) ?_;intro v' t I y a6;have q1:t.cell? ⟨a,5,none⟩=some (.slice c5 (m.c.i7.length+k) c6):=(aW (y.block a (by simp;omega) (fun h=>H.o a h.symm rfl))).trans (by rw [←K];exact aW (bF _ _ _ lr));have q2:t.frozen? ⟨a,5,none⟩=false:=(bB (y.block a (by simp;omega) (fun h=>H.o a h.symm rfl))).trans (by rw [←rz];exact bB (bF _ _ _ lr));obtain ⟨O,S,Q,rfl⟩:=Ad I);have M:World.grownBy _ t (Value.ownBlock (.slice c5 (m.c.i7.length+k) c6)):=y;have F:=(fun (o:Ab (fun _=>False) wr _)=>b5.o.push (cl:=⟨⟨0,f,k⟩,DL⟩) (v':=.slice O S Q) o M (by simp only [e0.o];exact I)) (by repeat (first | exact Ab.refl _ _ | refine Ab.drew ?_ | refine Ab.drewN ?_ _ | refine Ab.alloc ?_ _));have R5:CM a r p B (.slice (some ⟨g,0,none⟩) P.length E) A C z ⟨m.c.m9 f (k+1),⟨f,m.c.i7.length,0,l⟩::m.u8,m.Yi⟩ (t.setCell ⟨a,5,none⟩ (.slice O S Q)):=by rw [←e7.o];exact ⟨_,_,_,F.1⟩
   have d2:=Aa R5;have c9:=Aa (a3.o.trans F.2);clear F R5 I y M a6 q1 q2;go_roundw
   case rel=>exact ⟨k+1,by omega,by go_num,d2,c9⟩
   case measure=>simp [intOf];omega
  ·have e:k=N:=by omega
   subst e;have b3:dJ (CM a r p B (.slice (some ⟨g,0,none⟩) P.length E) A C z ⟨m.c.m9 f k,⟨f,m.c.i7.length,0,l⟩::m.u8,m.Yi⟩ wr):=⟨mv,rv,ch,u⟩;clear u;go_wp2;have Y:=Aa (MF HI.o.i7 f k);have d3:dJ (DY (m.c.m9 f k).i7):=HI.o.YQ.app (fun x hx=>by obtain ⟨i,G,rfl⟩:=cG.1 hx;have h1:=List.mem_range.1 G;exact ⟨by simp,by simp only;omega,by simp only;omega⟩)
   go_loopw [69] (fun i c7=>∃j:Nat,j≤b.length∧i=.int .i64 j∧dJ (CM a r p B (.slice (some ⟨g,0,none⟩) P.length E) A C z ⟨CH (b.take j) m.c.i7.length (m.c.m9 f k),⟨f,m.c.i7.length,0,l⟩::m.u8,m.Yi⟩ c7)∧dJ (Ci a r p B w c7)) (fun i _=>b.length-(intOf i).toNat)
   case atStart=>exact ⟨0,by omega,rfl,b3,a3⟩
   case round=>
    obtain ⟨j,hj,rfl,X,a2⟩:=hrel;clear b3 a3;by_cases b7:j<b.length
    ·have c4:∀v,v∈b.take j→Cn P.length (m.c.m9 f k).i7.length v:=fun v hv=>(HA.o v (List.mem_of_mem_take hv)).more Y.o.1.lo
     obtain ⟨gm,L⟩:=JQ (b.take j) m.c.i7.length (m.c.m9 f k) Y.o.1.m c4;have b8:=Ts (b.take j) m.c.i7.length (m.c.m9 f k) d3.o;have b9:=LO (b.take j) m.c.i7.length (m.c.m9 f k);have V:=Y.o.2;rw [V] at L;have c1:(m.c.m9 f k).Ys=m.c.Ys:=rfl;rw [c1] at b9;have e5:(b.take j).length≤12:=by simp;omega
     have c3:=HA.o b[j] (bD _);have hs:=fun (W:World) (hW:Ab (fun _=>False) wr W)=>DT a r p B _ A C z ⟨CH (b.take j) m.c.i7.length (m.c.m9 f k),⟨f,m.c.i7.length,0,l⟩::m.u8,m.Yi⟩ (m.c.i7.length+j) b[j] W (X.o.p6 hW) b8 (by simp only [L];omega) ((c3.more (by simp only [L];omega)).Zb (by omega)) (by simp only;omega) (by simp only [L];omega)
     have a7:=J6 (b.take j) b[j] m.c.i7.length (m.c.m9 f k);rw [←cA b7,List.length_take,Nat.min_eq_left (by omega)] at a7;have c2:∀(W:World),Ab (fun _=>False) wr W→Calls Tryz.prog 50 #[.pointer (some ⟨a,0,none⟩),.int .i64 ((m.c.i7.length:Int)+(j:Int)),.agg #[.int .i64 b[j].kind,.int .i64 b[j].y6]] W fun e T=>e=.returned (.tuple #[])∧CM a r p B (.slice (some ⟨g,0,none⟩) P.length E) A C z ⟨CH (b.take (j+1)) m.c.i7.length (m.c.m9 f k),⟨f,m.c.i7.length,0,l⟩::m.u8,m.Yi⟩ T∧Ci a r p B W T:=by rw [a7];exact hs
     have HS:=Aa c2;have D:=a2.o.row HH.o c8.o (by decide) (by decide) (by decide);obtain ⟨ga,rfl⟩:=As D (by omega);have g9:=(D.lt ga rfl).2;have a4:∀i,i<2→wr.cell? ⟨ga,j*2+i,none⟩=([Value.int .i64 b[j].kind,.int .i64 b[j].y6])[i]? :=by intro i G;have c0:=D.cellAt (j*2+i) (by omega);rw [c0];unfold Nf;rw [BN (s:=2) (fun c U=>by obtain ⟨x,_,rfl⟩:=cG.1 U;rfl) (by simpa using b7) G,cH]
     have a0:=a4 0 (by decide);have a1:=a4 1 (by decide);simp only [aS,aT,bK] at a0 a1;have g5:(j:Int)<(b.length:Int):=by omega
     generalize b[j]=x at*;clear hs c2 a7 D a4 gm L b8 b9 V c3 c4 e5 c1;go_wp2_with fail;refine (HS.o _ (by repeat (first | exact Ab.refl _ _ | refine Ab.drew ?_ | refine Ab.drewN ?_ _ | refine Ab.alloc ?_ _))).mono ?_;rintro e w7 ⟨rfl,s1,s2⟩;have S1:=Aa s1;have S2:=Aa ((a2.o.trans (Ci.s8 (by repeat (first | exact Ab.refl _ _ | refine Ab.drew ?_ | refine Ab.drewN ?_ _ | refine Ab.alloc ?_ _)))).trans s2);clear s1 s2 HS a0 a1;go_wp2_with fail;go_roundw
     case rel=>exact ⟨j+1,by omega,by go_num,S1,S2⟩
     case measure=>simp [intOf];omega
    ·have e:j=b.length:=by omega
     subst e;have d:=X.o;rw [List.take_length] at d;have HR:=Aa d;clear d X;go_wp2_with fail;go_ret;refine ⟨rfl,?_,a2.o⟩;rw [Fc hf,HN.o];exact HR.o
end Go.Proofs.YthppbgndiplgnaaGreatDoor

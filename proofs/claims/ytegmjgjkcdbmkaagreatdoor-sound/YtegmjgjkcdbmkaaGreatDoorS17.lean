/- One of the texts of the proof: MaF MaG MaH MaJ MaK MaL QtA. -/
import Derived.Test.YtegmjgjkcdbmkaaGreatDoorS12
import Derived.OwnWalk
import Derived.StillTail
set_option maxRecDepth 100000
set_option maxHeartbeats 4000000
namespace Go.Proofs.YtegmjgjkcdbmkaaGreatDoor
open Go.RowKit Go.Maps
theorem oV{w:World}{B:Nat}{e:TypeId}{a g b n k:Nat}{d:List Value}(h:w.ownsRow B e a (.slice (some ⟨g,0,none⟩) n b) n d)(p:k≤n):w.ownsRow B e a (.slice (some ⟨g,0,none⟩) k b) k (d.take (k*a)):=by
 obtain ⟨i,j⟩:=h;have r:k*a≤n*a:=Nat.mul_le_mul_right _ p;refine ⟨by rw [List.length_take,i];omega,.inr ?_⟩;rcases j with ⟨q,_⟩ | ⟨v,u,f,c,l,o,x,m,s,t⟩
 ·simp at q
 ·simp only [Value.slice.injEq,Option.some.injEq,Addr.mk.injEq,and_true,true_and] at c;obtain ⟨rfl,rfl⟩:=c;refine ⟨g,b,f,rfl,l,o,by omega,m,s,?_⟩;rw [←t,List.take_take,Nat.min_eq_left r]
theorem lX(l):(kG l).length=l.length*4:=by
 unfold kG;rw [List.length_flatten];have:((l.reverse.map nR).map List.length)=List.replicate l.length 4:=by
  apply List.ext_getElem
  ·simp
  ·intro i a b;simp [nR]
 rw [this];simp
theorem Pm.rA{a b n v}(h:Pm a n v)(e:a≤b):Pm b n v:=by
 rcases h with h | ⟨c,d⟩ | h
 ·exact .inl h
 ·exact .inr (.inl ⟨c,by omega⟩)
 ·exact .inr (.inr h)
theorem I3.pop{a j d B t v o g n b p u m l f r w}(h:I3 a j d B p t v o m u (.slice (some ⟨g,0,none⟩) n b) l w)(s:m.bS=f::r):
 I3 a j d B p t v o {m with bS:=r} u (.slice (some ⟨g,0,none⟩) r.length b) l (w.setCell ⟨a,6,none⟩ (.slice (some ⟨g,0,none⟩) r.length b))∧FR a j d B w (w.setCell ⟨a,6,none⟩ (.slice (some ⟨g,0,none⟩) r.length b)):=by
 have y:=Aq h.e9;subst y;have c:Ab (fun k=>k=a) w (w.setCell ⟨a,6,none⟩ (.slice (some ⟨g,0,none⟩) r.length b)):=(Ab.refl _ _).d8 6 _;have x:r.length≤m.bS.length:=by rw [s];simp
 have i:=oV h.e9 x;have e:(kG m.bS).take (r.length*4)=kG r:=by rw [s,jB,←lX,List.take_left]
 rw [e] at i;refine ⟨⟨h.s9.set 6 _,h.qV,Ac h.aY c (Aj h.aY h.s9 (by decide)),Ac i c (Aj i h.s9 (by decide)),h.cU.O c (h.cU.ne h.s9),h.bN.O c (h.bN.ne h.s9),h.lb,h.ne⟩,c.mono (fun _ _ q=>.inl q)⟩
theorem TN.frame{b D u B C E s v m f r w}(h:TN b D u B v C E s m w)(n:m.bS=f::r):
 ∃g e,w.cell? ⟨b,6,none⟩=some (.slice (some ⟨g,0,none⟩) (r.length+1) e)∧r.length+1≤e∧g<w.heap.size∧b<w.heap.size∧w.cell? ⟨g,r.length*4,none⟩=some (.int .i64 f.fn)∧w.cell? ⟨g,r.length*4+1,none⟩=some (.int .i64 f.base)∧w.cell? ⟨g,r.length*4+2,none⟩=some (.int .i64 f.next)∧w.cell? ⟨g,r.length*4+3,none⟩=some (.int .i64 f.answer)∧(∀j,w.frozen? ⟨g,j,none⟩=false)∧g≠b:=by
 obtain ⟨L,M,G,h⟩:=h;have y:m.bS.length=r.length+1:=by rw [n];simp
 obtain ⟨N,O,o,rfl⟩:=Ad h.e9;obtain ⟨g,rfl⟩:=AA h.e9 (by omega);have A:=Aq h.e9;subst A;have c:=h.s9.cell 6;simp only [jC,dM,dJ,dK] at c;have k:m.bS.length≤o:=by
  rcases h.e9.2 with ⟨q,_⟩ | ⟨H,F,t,z,I,J,K,_⟩
  ·simp at q
  ·simp only [Value.slice.injEq,Option.some.injEq,Addr.mk.injEq,and_true,true_and] at z;omega
 obtain ⟨t,l⟩:=J9 h.e9;have a:∀j,j<4→w.cell? ⟨g,r.length*4+j,none⟩=(nR f)[j]? :=by intro j x;have p:=h.e9.cellAt (r.length*4+j) (by omega);have d:=lE m.bS (i:=0) (by omega) x;rw [show m.bS.length-1-0=r.length by omega] at d;rw [p,d];simp only [n,List.getElem_cons_zero]
 rw [y] at c k;exact ⟨g,o,c,k,Ae l,Ae h.s9,a 0 (by decide),a 1 (by decide),a 2 (by decide),a 3 (by decide),fun j=>AE l j,Aj h.e9 h.s9 (by decide) g rfl⟩
theorem jR(b p l B x D E u P n m v w)(h:TN b p l B x D E u m w)(hP:P.length≤4001)(i:CB P n m)(z:m.bS≠[])(Y:Pm P.length m.c.aY.length v):
 Calls Tryz.prog 80 #[.pointer (some ⟨b,0,none⟩),pG v] w fun e O=>e=.returned (.tuple #[])∧TN b p l B x D E u (KF m v) O∧FR b p l B w O:=by
 obtain ⟨f,r,a⟩:∃f r,m.bS=f::r:=by
  cases V:m.bS with
  | nil=>exact absurd V z
  | cons f r=>exact ⟨f,r,rfl⟩
 obtain ⟨g,t,L,a2,lg,lm,c0,c1,c2,c3,_,a3⟩:=h.frame a;obtain ⟨mv,rv,ch,d⟩:=h;have X:rv=.slice (some ⟨g,0,none⟩) (r.length+1) t:=by have q:=d.s9.cell 6;simp only [jC,dM,dJ,dK] at q;rw [q] at L;exact Option.some.inj L
 subst X;obtain ⟨k,o⟩:=d.pop a;have fz:=d.s9.frozen 6;have I:=i.bJ;rw [a] at I;simp only [rW] at I;have a1:=Ak.new w #[.int .i64 v.kind,.int .i64 v.bG] 182;unfold pG;cases r with
 | nil=>
   obtain ⟨J,K⟩:=k.wrote (m':={m with bS:=[],bM:=2}) 7 (.int .i64 2) rfl k.qV rfl rfl rfl rfl;have Z:=d.s9.cell 7;have a0:=d.s9.frozen 7;simp only [jC,dM,dJ,dK] at Z;have j:KF m v={m with bS:=[],bM:=2}:=by unfold KF;rw [a]
   rw [j];simp only [List.length_nil,Nat.zero_add,Nat.zero_mul] at*;have A:=(Ab.refl (fun _=>False) ((w.setCell ⟨b,6,none⟩ (.slice (some ⟨g,0,none⟩) 0 t)).setCell ⟨b,7,none⟩ (.int .i64 2))).alloc (.cells #[.int .i64 v.kind,.int .i64 v.bG] 182);have Q:=Aa (J.i9 A);have R:=Aa ((o.trans K).trans (FR.bC A));clear k o J K A d j a z i;go_enter Tryz.func80,Tryz.ntmps80;go_wp2_with fail;exact bodyPost_ret (v:=.tuple #[]) (by simp [results,Tryz.results80,go_sem]) rfl ⟨rfl,⟨_,_,_,Q.o⟩,R.o⟩
 | cons y F=>
   have j:KF m v={m with bS:=y::F,c:=m.c.set f.answer v}:=by unfold KF;rw [a]
   rw [j];have C:=i.t8;rw [a] at C;have H:=fun (W:World) (U:Ab (fun _=>False) (w.setCell ⟨b,6,none⟩ (.slice (some ⟨g,0,none⟩) (y::F).length t)) W)=>iA b p l B x D E u {m with bS:=y::F} f.answer v W ⟨_,_,_,k.i9 U⟩ i.qU C.1 (Y.rA (by omega)) (by have:=i.pl;simp only;omega) (by have:=i.ml;simp only;omega)
   have s:=Aa H;have G:=Aa o;clear k o H d j C a i z;simp only [rW] at*;unfold pG at s;go_enter Tryz.func80,Tryz.ntmps80;go_wp2_with fail;refine (s.o _ (by repeat (first | exact Ab.refl _ _ | refine Ab.drew ?_ | refine Ab.drewN ?_ _ | refine Ab.alloc ?_ _))).mono ?_;rintro e w2 ⟨rfl,M,N⟩;have S:=Aa M;have T:=Aa ((G.o.trans (FR.bC (by repeat (first | exact Ab.refl _ _ | refine Ab.drew ?_ | refine Ab.drewN ?_ _ | refine Ab.alloc ?_ _)))).trans N);clear M N s G;go_wp2_with fail;go_end0;exact ⟨rfl,S.o,T.o⟩
def pR(a:Nat)(w:World):Nat:=match w.cell? ⟨a,6,none⟩ with
 | some (.slice _ l _)=>l
 | _=>0
theorem lZ{a i d B g j c e m w}(h:TN a i d B e g j c m w):pR a w=m.bS.length:=by obtain ⟨l,n,k,h⟩:=h;obtain ⟨o,q,p,rfl⟩:=Ad h.e9;have f:=Aq h.e9;subst f;have b:=h.s9.cell 6;simp only [jC,dM,dJ,dK] at b;unfold pR;rw [b]
theorem jK{m v f r}(h:m.bS=f::r):(KF m v).bS=r:=by unfold KF;rw [h];cases r<;>rfl
theorem RC{P i}(h:i<P.length):Ap P i=P[i]:=by unfold Ap;rw [rU h];rfl
theorem jQ(c o l B p A C x P n m w)(h:TN c o l B p A C x m w)(hp:Bh B w p P)(Q:Ms P)(J:CB P n m):
 Calls Tryz.prog 54 #[.pointer (some ⟨c,0,none⟩)] w fun e w'=>e=.returned (.tuple #[])∧TN c o l B p A C x (KO P 41 m) w'∧FR c o l B w w':=by
 obtain ⟨V,I⟩:∃V,KO P 41 m=V:=⟨_,rfl⟩;rw [I];have u:=Aa I;have N:=Aa h;have a1:=Aa hp;have O:=Aa Q;have d:=Aa J;have y:m.bS.length<41:=by have:=J.bJ;omega
 clear I h hp Q J;go_enter Tryz.func54,Tryz.ntmps54;go_wp2;go_loopw [] (fun wr=>∃(j:Nat) (a:Mc),a.bS.length<j∧dN (TN c o l B p A C x a wr)∧dN (CB P n a)∧dN (KO P j a=V)∧dN (FR c o l B w wr)) (fun wr=>pR c wr)
 case atStart=>exact ⟨41,m,y,N,d,u,FR.refl _ _ _ _ _⟩
 case round=>
  clear u d;obtain ⟨j,a,X,k,d,u,t⟩:=hrel;obtain ⟨z,rfl⟩:∃z,j=z+1:=⟨j-1,by omega⟩;have b:=u.o;unfold KO at b;have a6:=Aa (lZ k.o);have a8:wr.cell? ⟨c,7,none⟩=some (.int .i64 a.bM)∧c<wr.heap.size∧wr.cell? ⟨c,0,none⟩=some p:=by obtain ⟨_,_,_,q⟩:=k.o;have D:=q.s9.cell 7;have L:=q.s9.cell 0;simp only [jC,dM,dJ,dK] at D L;exact ⟨D,Ae q.s9,L⟩
  obtain ⟨D,lm,L⟩:=a8;by_cases i:a.bM=1
  ·rw [if_pos i] at b;have Z:=d.o.run i;obtain ⟨f,r,s⟩:∃f r,a.bS=f::r:=by
    cases hq:a.bS with
    | nil=>exact absurd hq Z
    | cons f r=>exact ⟨f,r,rfl⟩
   obtain ⟨g,cm,r6,b0,lg,_,c0,c1,c2,c3,_,_⟩:=k.o.frame s;have U:=d.o.fr f (by rw [s];simp);have T:=U.fn;have H:=t.o.qY N.o a1.o;obtain ⟨gf,cf,a3,b3⟩:=H.form (by omega);subst a3;obtain ⟨vv,sv,R,a9,a0⟩:=H.get T;obtain ⟨sa,sc,rfl,_⟩:=a0.form;have d3:=R 3 (by decide);simp only [MR,dJ,dK] at d3;have y:=d.o.bJ;rw [s] at y b;simp only at b;simp only [rW] at y;have b2:(f.fn:Int)<(P.length:Int):=by omega
   have S:((a.bM:Int)==1)=true:=by simp [i]
   rw [RC T] at b;have F:=Aa s;have b1:=O.o.bA;rw [i] at D;clear H R a9 a0 U s i S Z;by_cases K:f.next<P[f.fn].b9.length
   ·rw [if_pos K] at b;subst b;generalize P[f.fn].b9.length=G at*;have a7:decide (f.next<G)=true:=by simp [K]
    go_wp2_with fail;go_region;go_wp2_with fail;go_region;go_wp2_with fail;refine bodyPost_ret (v:=.tuple #[]) (by simp [results,Tryz.results54,go_sem]) rfl ⟨rfl,?_,?_⟩
    ·exact k.o.i9 (by repeat (first | exact Ab.refl _ _ | refine Ab.drew ?_ | refine Ab.drewN ?_ _ | refine Ab.alloc ?_ _))
    ·exact t.o.trans (FR.bC (by repeat (first | exact Ab.refl _ _ | refine Ab.drew ?_ | refine Ab.drewN ?_ _ | refine Ab.alloc ?_ _)))
   ·rw [if_neg K] at b;generalize P[f.fn].b9.length=G at*;have a7:decide (f.next<G)=false:=by simp;omega
    have E:=Aa (fun (W:World) (hW:Ab (fun _=>False) wr W)=>jR c o l B _ A C x P n a Uh W (k.o.i9 hW) O.o.bA d.o (by rw [F.o];simp) (gX _ _));have a2:=Aa b;clear b;unfold pG Uh at E;go_wp2_with fail;go_region;go_wp2_with fail;go_region;go_wp2_with fail;refine (E.o _ (by repeat (first | exact Ab.refl _ _ | refine Ab.drew ?_ | refine Ab.drewN ?_ _ | refine Ab.alloc ?_ _))).mono ?_;rintro e w2 ⟨rfl,M,s2⟩;have a4:=jK (v:=Uh) F.o;have S1:=Aa M;have S2:=Aa ((t.o.trans (FR.bC (by repeat (first | exact Ab.refl _ _ | refine Ab.drew ?_ | refine Ab.drewN ?_ _ | refine Ab.alloc ?_ _)))).trans s2);have S3:=Aa (d.o.qZ);have a5:=Aa (lZ M);have Y:(KF a Uh).bS.length<z∧(KF a Uh).bS.length<a.bS.length:=by rw [a4];have:=F.o;rw [this] at X⊢;simp only [rW] at X⊢;omega
    clear M s2 E;go_wp2_with fail;go_roundw
    case rel=>exact ⟨z,KF a Uh,Y.1,S1,S3,a2,S2⟩
    case measure=>rw [a5.o,a6.o];exact Y.2
  ·rw [if_neg i] at b;subst b;have S:((a.bM:Int)==1)=false:=by simp;omega
   clear i;go_wp2_with fail;go_end0;exact ⟨rfl,k.o,t.o⟩
def kH(l:List Vl):List Value:=(l.map fun v=>[Value.int .i64 v.kind,.int .i64 v.bG]).flatten
theorem oI(l v):kH (l++[v])=kH l++[.int .i64 v.kind,.int .i64 v.bG]:=by unfold kH;simp
theorem Tryz.infoMv:(Tryz.prog.info? 182).map (fun i=>(i.zero,i.size,i.bytes))=some (some (.agg #[.int .i64 0,.int .i64 0]),2,16):=by kernel_rfl
theorem jX(Q pm Y B Z mn pn X m b l P w)(h:TN Q pm Y B Z mn pn X m w)(n:AD B w P l)(hl:l.length≤4000)(u:∀a,a∈l→b+a<m.c.aY.length)(a7:m.c.aY.length≤200000)(hb:b≤200000):
 Calls Tryz.prog 85 #[.pointer (some ⟨Q,0,none⟩),.int .i64 b,P] w fun e R=>∃v,e=.returned v∧R.ownsRow w.heap.size 182 2 v l.length (kH (WH m.c.aY b l))∧Ab (fun _=>False) w R:=by
 obtain ⟨O,F,L,M,N⟩:=info_parts Tryz.infoMv;obtain ⟨la,ll,lc,rfl⟩:=Ad n;have a0:=Aq n;subst a0;have T:=Aa h;have U:=Aa n;have S:=Aa u;clear h n u;go_enter Tryz.func85,Tryz.ntmps85;go_wp2_with (at_make;refine wpList_make_own _ rfl _ _ 174 rfl w.heap.size 182 O (.agg #[.int .i64 0,.int .i64 0]) 2 Tryz.underlying174 F L M .i64 .i64 (l.length:Int) l.length rfl rfl rfl (by rw [N];omega) (by unfold maxLen;omega) (rN _) ?_;intro w1 J D);have r:=Aa J;have p:dN (Ab (fun _=>False) w w1):=Ab.grown (Ab.refl _ w) D (fun k G=>by cases G);clear J D;go_loopw [7,15] (fun v i wr=>∃(k:Nat),k≤l.length∧i=.int .i64 k∧dN (wr.ownsRow w.heap.size 182 2 v k (kH (WH m.c.aY b (l.take k))))∧dN (Ab (fun _=>False) w wr)) (fun _ i _=>l.length-(intOf i).toNat)
 case atStart=>exact ⟨0,by omega,rfl,r,p⟩
 case round=>
  clear r p;obtain ⟨k,G,rfl,c,d⟩:=hrel;by_cases H:k<l.length
  ·have f:=Ac U.o d.o (fun _ _ q=>q);obtain ⟨gl,rfl⟩:=AA f (by omega);have A:=f.cellAt k (by omega);rw [List.getElem?_map,rU H] at A;simp only [Option.map_some] at A;have a9:=(f.lt gl rfl).2;have y:=S.o l[k] (rQ _);obtain ⟨g,cm,r5,lg,lm,z⟩:=(T.o.i9 d.o).holds y;obtain ⟨c3,t,_⟩:=z _ y;have c5:wr.cell? ⟨g,(b+l[k])*5+3+1,none⟩=some (.int .i64 (DB m.c.aY (b+l[k])).v.bG):=t;have a2:dN (kH (WH m.c.aY b (l.take (k+1)))=kH (WH m.c.aY b (l.take k))++[.int .i64 (DB m.c.aY (b+l[k])).v.kind,.int .i64 (DB m.c.aY (b+l[k])).v.bG]):=by show _=_;rw [List.take_succ_eq_append_getElem H];unfold WH;rw [List.map_append];exact oI _ _
   have a4:((b:Int)+(l[k]:Int))<(m.c.aY.length:Int):=by omega
   have a5:(0:Int)≤(b:Int)+(l[k]:Int):=by omega
   have a6:(k:Int)<(l.length:Int):=by omega
   generalize DB m.c.aY (b+l[k])=C at*;generalize l[k]=x at*;obtain ⟨va,vl,vc,rfl⟩:=Ad c.o;have a3:=Aq c.o;subst a3;have a8:=d.o.size;clear f z t;go_wp2_with (at_builtin;refine wpList_append_own _ rfl _ _ 174 rfl w.heap.size 182 O (.agg #[.int .i64 0,.int .i64 0]) 2 16 Tryz.underlying174 F L M N rfl (by decide) _ _ _ rfl (c.o.alloc _) ⟨wr.heap.size,0,none⟩ 1 1 [.int .i64 C.v.kind,.int .i64 C.v.bG] rfl rfl (A5 (by simp) _ _) (fun x K=>by simp at K;rcases K with rfl | rfl<;>rfl) (by unfold maxLen;omega) (by omega) (by simp;omega) ?_;intro v' w3 I E a1);have W:Ab (fun _=>False) w w3:=Ab.grown (d.o.alloc _) E (fun j hj=>.inr (c.o.lt j hj).1);have s:=Aa I;rw [←a2.o] at s;clear E a1 I;go_roundw
   case rel=>exact ⟨vl+1,by omega,by go_num,s,W⟩
   case measure=>simp [intOf];omega
  ·have e:k=l.length:=by omega
   subst e;have o:=c.o;rw [List.take_length] at o;have V:=Aa o;clear c o;go_wp2_with fail;go_ret;exact ⟨_,rfl,V.o,d.o⟩
theorem I3.rH{a g c B p s n o r i v' m l w W b fr}(h:I3 a g c B o p s n m r i l w)(C:Ab (fun _=>False) w W)(D:W.grownBy b i.ownBlock)(v:b.ownsRow B 176 4 v' (m.bS.length+1) (kG m.bS++nR fr)):
 I3 a g c B o p s n {m with bS:=fr::m.bS} r v' l (b.setCell ⟨a,6,none⟩ v')∧FR a g c B w (b.setCell ⟨a,6,none⟩ v'):=by
 have d:Ab (fun k=>i.ownBlock=some k) w b:=Ab.grown (C.mono (fun _ _ q=>q.elim)) D (fun j F=>.inl F);have hF:FR a g c B w b:=d.mono (fun k _ q=>by obtain ⟨A,y,z,E⟩:=Fe h.e9 q;exact .inr (.inr (.inr ⟨A,y,_,z,E,.inr rfl⟩)))
 have f:Ab (fun k=>k=a) b (b.setCell ⟨a,6,none⟩ v'):=(Ab.refl _ _).d8 6 _;have e:Ak a (jC o p s n l r i m.bM g c) 121 b:=h.s9.O d (fun q=>Aj h.e9 h.s9 (by decide) a q rfl);have u:=Ac h.aY d (iF h.aY h.e9 (by decide));have x:=h.cU.O d (fun q=>iJ h.e9 h.cU _ q rfl);have t:=h.bN.O d (fun q=>iJ h.e9 h.bN _ q rfl);refine ⟨⟨e.set 6 _,h.qV,Ac u f (Aj u e (by decide)),?_,x.O f (x.ne e),t.O f (t.ne e),h.lb,h.ne⟩,hF.trans (f.mono (fun _ _ q=>.inl q))⟩;show (b.setCell ⟨a,6,none⟩ v').ownsRow B _ 4 v' (fr::m.bS).length (kG (fr::m.bS));rw [jB,rW];exact Ac v f (Aj v e (by decide))
theorem Tryz.infoFr:(Tryz.prog.info? 176).map (fun i=>(i.zero,i.size,i.bytes))=some (some (.agg #[.int .i64 0,.int .i64 0,.int .i64 0,.int .i64 0]),4,32):=by kernel_rfl
theorem pQ(c):∀u∈nR c,u.oneCell'=true:=by intro x a;simp only [nR,List.mem_cons,List.not_mem_nil,or_false] at a;rcases a with rfl | rfl | rfl | rfl<;>rfl
theorem nH(l):∀(a:Nat) (c:Co),iB c.aY→iB (XZ l a c).aY:=by
 induction l with
 | nil=>intro a c h;exact h
 | cons v l b=>intro a c h;exact b _ _ (h.set a v)
theorem jL(d j i B:Nat)(r:Value)(v x o:Nat)(P:List PFn)(m:Mc)(f g:Nat)(k:List Vl)(n:Value)(w:World)(h:TN d j i B r v x o m w)(t:40≤m.bS.length)(E:m.bS.length≤40)(D:∃a l c,n=.slice a l c):
 Calls Tryz.prog 53 #[.pointer (some ⟨d,0,none⟩),.int .i64 f,n,.int .i64 g] w fun e z=>e=.returned (.bool false)∧TN d j i B r v x o (UR P m f k g) z∧FR d j i B w z:=by
 have s:UR P m f k g={m with bM:=4}:=by unfold UR;rw [if_pos t]
 rw [s];obtain ⟨a,l,c,rfl⟩:=D;obtain ⟨L,M,I,b⟩:=h;obtain ⟨N,Q,O,rfl⟩:=Ad b.e9;have G:=Aq b.e9;subst G;have y:=b.s9.cell 6;have H:=b.s9.cell 7;have J:=b.s9.frozen 7;have K:=Ae b.s9;simp only [jC,dM,dJ,dK] at y H;obtain ⟨p,q⟩:=b.wrote (m':={m with bM:=4}) 7 (.int .i64 4) rfl b.qV rfl rfl rfl rfl;have A:=Aa p;have C:=Aa q;have F:decide ((40:Int)≤(m.bS.length:Int))=true:=by simp;omega
 have u:m.bS.length=40:=by omega
 rw [u] at y;clear b p q s t E u F;go_enter Tryz.func53,Tryz.ntmps53;go_wp2_with fail;go_ret;exact ⟨rfl,⟨_,_,_,A.o⟩,C.o⟩
theorem jA(a r p B:Nat)(fv:Value)(A C z:Nat)(P:List PFn)(n:Nat)(m:Mc)(f l B':Nat)(b:List Vl)(av:Value)(w:World)(h:TN a r p B fv A C z m w)(J:Bh B w fv P)(F:Ms P)(G:pH P (n+1) m)(hd:m.bS.length<40)(hf:f<P.length)(ha:∀v,v∈b→Pm P.length m.c.aY.length v)(d6:b.length≤(Ap P f).l8.length)(D:w.ownsRow B' 182 2 av b.length (kH b)):
 Calls Tryz.prog 53 #[.pointer (some ⟨a,0,none⟩),.int .i64 f,av,.int .i64 l] w fun e T=>e=.returned (.bool true)∧TN a r p B fv A C z (UR P m f b l) T∧FR a r p B w T:=by
 have hV:UR P m f b l=⟨m.c.enter f (Ap P f).l8.length b,⟨f,m.c.aY.length,0,l⟩::m.bS,m.bM⟩:=by unfold UR;rw [if_neg (by omega)]
 rw [hV];obtain ⟨i0,d8,f2,f3,f4⟩:=info_parts Tryz.infoCe;obtain ⟨i1,d9,e9,f0,f1⟩:=info_parts Tryz.infoFr;obtain ⟨va,vl,vc,rfl⟩:=Ad D;have V:=Aq D;subst V;have e6:=F.l8 f;have g7:=G.ml;have g8:=G.pl;have g3:=F.bA;obtain ⟨g,E,rfl,f6⟩:=J.form (by omega);obtain ⟨vv,sv,U,a8,e4⟩:=J.get hf;obtain ⟨xv,xn,xc,rfl⟩:=Ad a8;have e8:=Aq a8;subst e8;have Z:=U 1 (by decide);simp only [MR,dJ,dK] at Z;rw [RC hf] at d6 e6 hV;have HH:=Aa h;have c8:=Aa D;have HI:=Aa G;have HA:=Aa ha;have f9:=Aa F;obtain ⟨mv,rv,ch,d⟩:=h;obtain ⟨ma,h2,mc,rfl⟩:=Ad d.aY;have e2:=Aq d.aY;subst e2;obtain ⟨ra,h3,rc,rfl⟩:=Ad d.e9;have e3:=Aq d.e9;subst e3;have r0:=d.s9.cell 0;have K:=d.s9.cell 5;have r6:=d.s9.cell 6;have b4:=d.s9.frozen 6;have lm:=Ae d.s9;simp only [jC,dM,dJ,dK] at r0 K r6;have H:=Aa (Aj d.e9 d.s9 (by decide));have b6:¬(Value.slice ra m.bS.length rc).ownBlock=some g:=by obtain ⟨_,q,_⟩:=J;exact iF q d.e9 (by decide) g rfl
 have b0:=Aa b6;have b2:=Aa d;have a9:=Aa d.e9;have d4:B≤w.heap.size:=by have:=d.lb;omega
 have g4:(f:Int)<(P.length:Int):=by omega
 generalize hN:P[f].l8.length=N at*;have HN:=Aa hN;have g0:decide ((40:Int)≤(m.bS.length:Int))=false:=by simp;omega
 have g1:¬40≤m.bS.length:=by omega
 have g2:¬(40:Int)≤(m.bS.length:Int):=by omega
 have f8:=Aa J;have d0:dN (g≠a):=by obtain ⟨_,q,_⟩:=J;exact Aj q d.s9 (by decide) g rfl
 clear d J G D F U a8 e4 hN ha hV b6;go_enter Tryz.func53,Tryz.ntmps53;go_wp2_with (at_builtin;refine EG _ rfl _ _ 119 rfl B 176 i1 (.agg #[.int .i64 0,.int .i64 0,.int .i64 0,.int .i64 0]) 4 32 Tryz.underlying119 d9 e9 f0 f1 rfl (by decide) _ _ _ rfl (a9.o.alloc _) ⟨w.heap.size,0,none⟩ 1 1 (nR ⟨f,m.c.aY.length,0,l⟩) rfl rfl (A5 rfl _ _) (pQ _) (by decide) (by unfold maxLen;omega) (by omega) (by simp;omega) ?_;intro v' t I y a6;have q6:t.cell? ⟨a,6,none⟩=some (.slice ra m.bS.length rc):=(rM (y.block a (by simp;omega) (fun h=>H.o a h.symm rfl))).trans (by rw [←r6];exact rM (Below.heap_alloc _ _ _ lm));have z6:t.frozen? ⟨a,6,none⟩=false:=(rS (y.block a (by simp;omega) (fun h=>H.o a h.symm rfl))).trans (by rw [←b4];exact rS (Below.heap_alloc _ _ _ lm));have q0:t.cell? ⟨a,0,none⟩=some (.slice (some ⟨g,0,none⟩) P.length E):=(rM (y.block a (by simp;omega) (fun h=>H.o a h.symm rfl))).trans (by rw [←r0];exact rM (Below.heap_alloc _ _ _ lm));have q1:t.cell? ⟨g,f*4+1,none⟩=some (.slice xv N xc):=(rM (y.block g (by simp;omega) (fun h=>b0.o h.symm))).trans (by rw [←Z];exact rM (Below.heap_alloc _ _ _ f6));have f5:g<t.heap.size:=(by have:=y.size;simp at this;omega);have f7:a<t.heap.size:=(by have:=y.size;simp at this;omega);have d7:g≠a:=d0.o;obtain ⟨O,S,Q,rfl⟩:=Ad I);have M:World.grownBy _ t (Value.ownBlock (.slice ra m.bS.length rc)):=y;have d5:=(fun (o:Ab (fun _=>False) w _)=>b2.o.rH (fr:=⟨f,m.c.aY.length,0,l⟩) (v':=.slice O S Q) o M I) (by repeat (first | exact Ab.refl _ _ | refine Ab.drew ?_ | refine Ab.drewN ?_ _ | refine Ab.alloc ?_ _));obtain ⟨p1,p2⟩:=d5;have P1:dN (TN a r p B (.slice (some ⟨g,0,none⟩) P.length E) A C z {m with bS:=⟨f,m.c.aY.length,0,l⟩::m.bS} (t.setCell ⟨a,6,none⟩ (.slice O S Q))):=⟨_,_,_,p1⟩;have P2:=Aa p2;clear I y a6 q6 z6 q0 q1 f5 f7 d7 M p1 p2 b2 a9 H b0 r0 K r6 b4 Z;generalize World.setCell t _ _=W1 at*;go_loopw [50] (fun i wr=>∃k:Nat,k≤N∧i=.int .i64 k∧dN (TN a r p B (.slice (some ⟨g,0,none⟩) P.length E) A C z ⟨m.c.l8 f k,⟨f,m.c.aY.length,0,l⟩::m.bS,m.bM⟩ wr)∧dN (FR a r p B w wr)) (fun i _=>N-(intOf i).toNat)
 case atStart=>
  have e:m.c.l8 f 0=m.c:=by simp [Co.l8]
  have R:TN a r p B (.slice (some ⟨g,0,none⟩) P.length E) A C z ⟨m.c.l8 f 0,⟨f,m.c.aY.length,0,l⟩::m.bS,m.bM⟩ W1:=by rw [e];exact P1.o
  exact ⟨0,by omega,rfl,R,P2⟩
 case round=>
  obtain ⟨k,hk,rfl,⟨mv,rv,ch,u⟩,a3⟩:=hrel;clear P1 P2;by_cases g6:k<N
  ·have a5:(m.c.l8 f k).aY.length=m.c.aY.length+k:=by simp [Co.l8]
   obtain ⟨c5,h0,c6,rfl⟩:=Ad u.aY;have e1:=Aq u.aY;subst e1;have K:=u.s9.cell 5;have rz:=u.s9.frozen 5;have lr:=Ae u.s9;simp only [jC,dM,dJ,dK] at K;have H:=Aa (Aj u.aY u.s9 (by decide));have b5:=Aa u;have d4:B≤wr.heap.size:=by have:=u.lb;omega
   have b1:=Aa u.aY;have e7:=Aa (nA m.c f k);clear u;simp only [a5] at K b1 H b5;have e0:=Aa a5;clear a5;go_wp2_with (at_builtin;refine EG _ rfl _ _ 118 rfl B 184 i0 (.agg qN) 5 40 Tryz.underlying118 d8 f2 f3 f4 rfl (by decide) _ _ _ rfl (b1.o.alloc _) ⟨wr.heap.size,0,none⟩ 1 1 (lA ⟨⟨0,f,k⟩,Uh⟩) rfl rfl (A5 rfl _ _) (nJ _) (by decide) (by unfold maxLen;omega) (by omega) (by simp;omega) ?_;intro v' t I y a6;have q1:t.cell? ⟨a,5,none⟩=some (.slice c5 (m.c.aY.length+k) c6):=(rM (y.block a (by simp;omega) (fun h=>H.o a h.symm rfl))).trans (by rw [←K];exact rM (Below.heap_alloc _ _ _ lr));have q2:t.frozen? ⟨a,5,none⟩=false:=(rS (y.block a (by simp;omega) (fun h=>H.o a h.symm rfl))).trans (by rw [←rz];exact rS (Below.heap_alloc _ _ _ lr));obtain ⟨O,S,Q,rfl⟩:=Ad I);have M:World.grownBy _ t (Value.ownBlock (.slice c5 (m.c.aY.length+k) c6)):=y;have F:=(fun (o:Ab (fun _=>False) wr _)=>b5.o.push (cl:=⟨⟨0,f,k⟩,Uh⟩) (v':=.slice O S Q) o M (by simp only [e0.o];exact I)) (by repeat (first | exact Ab.refl _ _ | refine Ab.drew ?_ | refine Ab.drewN ?_ _ | refine Ab.alloc ?_ _));have R5:TN a r p B (.slice (some ⟨g,0,none⟩) P.length E) A C z ⟨m.c.l8 f (k+1),⟨f,m.c.aY.length,0,l⟩::m.bS,m.bM⟩ (t.setCell ⟨a,5,none⟩ (.slice O S Q)):=by rw [←e7.o];exact ⟨_,_,_,F.1⟩
   have d2:=Aa R5;have c9:=Aa (a3.o.trans F.2);clear F R5 I y M a6 q1 q2;go_roundw
   case rel=>exact ⟨k+1,by omega,by go_num,d2,c9⟩
   case measure=>simp [intOf];omega
  ·have e:k=N:=by omega
   subst e;have b3:dN (TN a r p B (.slice (some ⟨g,0,none⟩) P.length E) A C z ⟨m.c.l8 f k,⟨f,m.c.aY.length,0,l⟩::m.bS,m.bM⟩ wr):=⟨mv,rv,ch,u⟩;clear u;go_wp2;have Y:=Aa (lW HI.o.aY f k);have d3:dN (iB (m.c.l8 f k).aY):=HI.o.qU.app (fun x hx=>by obtain ⟨i,G,rfl⟩:=List.mem_map.1 hx;have h1:=List.mem_range.1 G;exact ⟨by simp,by simp only;omega,by simp only;omega⟩)
   go_loopw [69] (fun i c7=>∃j:Nat,j≤b.length∧i=.int .i64 j∧dN (TN a r p B (.slice (some ⟨g,0,none⟩) P.length E) A C z ⟨XZ (b.take j) m.c.aY.length (m.c.l8 f k),⟨f,m.c.aY.length,0,l⟩::m.bS,m.bM⟩ c7)∧dN (FR a r p B w c7)) (fun i _=>b.length-(intOf i).toNat)
   case atStart=>exact ⟨0,by omega,rfl,b3,a3⟩
   case round=>
    obtain ⟨j,hj,rfl,X,a2⟩:=hrel;clear b3 a3;by_cases b7:j<b.length
    ·have c4:∀v,v∈b.take j→Pm P.length (m.c.l8 f k).aY.length v:=fun v hv=>(HA.o v (List.mem_of_mem_take hv)).more Y.o.1.lo
     obtain ⟨gm,L⟩:=kB (b.take j) m.c.aY.length (m.c.l8 f k) Y.o.1.m c4;have b8:=nH (b.take j) m.c.aY.length (m.c.l8 f k) d3.o;have b9:=jU (b.take j) m.c.aY.length (m.c.l8 f k);have V:=Y.o.2;rw [V] at L;have c1:(m.c.l8 f k).cU=m.c.cU:=rfl;rw [c1] at b9;have e5:(b.take j).length≤12:=by simp;omega
     have c3:=HA.o b[j] (rQ _);have hs:=fun (W:World) (hW:Ab (fun _=>False) wr W)=>iA a r p B _ A C z ⟨XZ (b.take j) m.c.aY.length (m.c.l8 f k),⟨f,m.c.aY.length,0,l⟩::m.bS,m.bM⟩ (m.c.aY.length+j) b[j] W (X.o.i9 hW) b8 (by simp only [L];omega) ((c3.more (by simp only [L];omega)).rA (by omega)) (by simp only;omega) (by simp only [L];omega)
     have a7:=kZ (b.take j) b[j] m.c.aY.length (m.c.l8 f k);rw [←List.take_succ_eq_append_getElem b7,List.length_take,Nat.min_eq_left (by omega)] at a7;have c2:∀(W:World),Ab (fun _=>False) wr W→Calls Tryz.prog 79 #[.pointer (some ⟨a,0,none⟩),.int .i64 ((m.c.aY.length:Int)+(j:Int)),.agg #[.int .i64 b[j].kind,.int .i64 b[j].bG]] W fun e T=>e=.returned (.tuple #[])∧TN a r p B (.slice (some ⟨g,0,none⟩) P.length E) A C z ⟨XZ (b.take (j+1)) m.c.aY.length (m.c.l8 f k),⟨f,m.c.aY.length,0,l⟩::m.bS,m.bM⟩ T∧FR a r p B W T:=by rw [a7];exact hs
     have HS:=Aa c2;have D:=a2.o.row HH.o c8.o (by decide) (by decide) (by decide);obtain ⟨ga,rfl⟩:=AA D (by omega);have g9:=(D.lt ga rfl).2;have a4:∀i,i<2→wr.cell? ⟨ga,j*2+i,none⟩=([Value.int .i64 b[j].kind,.int .i64 b[j].bG])[i]? :=by intro i G;have c0:=D.cellAt (j*2+i) (by omega);rw [c0];unfold kH;rw [Cz (s:=2) (fun c U=>by obtain ⟨x,_,rfl⟩:=List.mem_map.1 U;rfl) (by simpa using b7) G,List.getElem_map]
     have a0:=a4 0 (by decide);have a1:=a4 1 (by decide);simp only [dJ,dK,Nat.add_zero] at a0 a1;have g5:(j:Int)<(b.length:Int):=by omega
     generalize b[j]=x at*;clear hs c2 a7 D a4 gm L b8 b9 V c3 c4 e5 c1;go_wp2_with fail;refine (HS.o _ (by repeat (first | exact Ab.refl _ _ | refine Ab.drew ?_ | refine Ab.drewN ?_ _ | refine Ab.alloc ?_ _))).mono ?_;rintro e w7 ⟨rfl,s1,s2⟩;have S1:=Aa s1;have S2:=Aa ((a2.o.trans (FR.bC (by repeat (first | exact Ab.refl _ _ | refine Ab.drew ?_ | refine Ab.drewN ?_ _ | refine Ab.alloc ?_ _)))).trans s2);clear s1 s2 HS a0 a1;go_wp2_with fail;go_roundw
     case rel=>exact ⟨j+1,by omega,by go_num,S1,S2⟩
     case measure=>simp [intOf];omega
    ·have e:j=b.length:=by omega
     subst e;have d:=X.o;rw [List.take_length] at d;have HR:=Aa d;clear d X;go_wp2_with fail;go_ret;refine ⟨rfl,?_,a2.o⟩;rw [RC hf,HN.o];exact HR.o
theorem I3.rI{e f d B k o i j n r m g w}(h:I3 e f d B j k o i m n r g w)(p)(s:p.1≤200000)(t:p.2≤200000)(v:m.c.bN.length≤300000):
 ∃b,(Instr.mapUpdate 117 (.map (some d)) (nO p) (.agg #[])).run Tryz.prog w=.ok () b∧I3 e f d B j k o i {m with c:={m.c with bN:=p::m.c.bN}} n r g b∧FR e f d B w b:=by
 obtain ⟨l,u⟩:=pB s t;obtain ⟨b,x,y,a⟩:=h.bN.add kR Tryz.underlying117 v u;exact ⟨b,x,⟨h.s9.O a (fun q=>h.bN.ne h.s9 q.symm),h.qV,Ac h.aY a (iJ h.aY h.bN),Ac h.e9 a (iJ h.e9 h.bN),h.cU.O a (fun q=>h.ne q),y,h.lb,h.ne⟩,a.mono (fun _ _ q=>.inr (.inr (.inl q)))⟩
theorem iO{d p k B o q j c m P w}(h:TN d p k B c o q j m w)(g:Bh B w c P){f}(e:f<P.length):
 ∃a b,c=.slice (some ⟨a,0,none⟩) P.length b∧w.cell? ⟨d,0,none⟩=some (.slice (some ⟨a,0,none⟩) P.length b)∧a<w.heap.size∧d<w.heap.size∧w.cell? ⟨a,f*4+2,none⟩=some (.int .i64 (Ap P f).i8):=by
 obtain ⟨a,b,rfl,n⟩:=g.form (by omega);obtain ⟨v,u,l,_,_⟩:=g.get e;obtain ⟨s,t,r,h⟩:=h;have i:=h.s9.cell 0;simp only [jC,dM,dJ] at i;rw [RC e];exact ⟨a,b,rfl,i,n,Ae h.s9,l 2 (by decide)⟩
theorem lK(j s l B:Nat)(n:Value)(A C x:Nat)(P:List PFn)(m:Mc)(q c F:Nat)(f:List Vl)(t:Value)(w:World)(h:TN j s l B n A C x m w)(z:Bh B w n P)(K:LJ P.length m.c.aY)(p:q<m.c.aY.length)(H:∃a c,t=.slice a f.length c)
 (o:¬((DB m.c.aY q).v.kind=1∧(Ap P (DB m.c.aY q).v.bG).i8=f.length)):
 Calls Tryz.prog 86 #[.pointer (some ⟨j,0,none⟩),.int .i64 q,.int .i64 c,t,.int .i64 F] w fun e D=>e=.returned (.tuple #[])∧TN j s l B n A C x {m with bM:=3} D∧FR j s l B w D:=by
 obtain ⟨xa,xc,rfl⟩:=H;obtain ⟨g,R,r5,lg,lm,y⟩:=h.holds p;obtain ⟨M,u,_⟩:=y q p;have Z:(q:Int)<(m.c.aY.length:Int):=by omega
 have N:w.cell? ⟨g,q*5+3+1,none⟩=some (.int .i64 (DB m.c.aY q).v.bG):=u;have r:=(K.at_ p).2;have k:=Aa z;have E:=Aa h;obtain ⟨mv,rv,Q,b⟩:=h;have L:=b.s9.cell 7;have T:=b.s9.frozen 7;simp only [jC,dM,dJ,dK] at L;have d:=Aa (fun (W:World) (G:Ab (fun _=>False) w W)=>(b.i9 G).wrote (m':={m with bM:=3}) 7 (.int .i64 3) rfl b.qV rfl rfl rfl rfl);clear b y u z;generalize (DB m.c.aY q).v=v at*;by_cases i:v.kind=1
 ·have I:v.bG<P.length:=by rcases r with ⟨e,_⟩ | ⟨_,e⟩ | ⟨e,_⟩<;>omega
  obtain ⟨U,O,rfl,r0,a0,_,S⟩:=iO E.o k.o I;have Y:((Ap P v.bG).i8:Int)≠(f.length:Int):=fun e=>o ⟨i,by omega⟩
  have X:(((Ap P v.bG).i8:Int) !=(f.length:Int))=true:=by simp;omega
  have J:((v.kind:Int) !=1)=false:=by simp [i]
  have V:(v.bG:Int)<(P.length:Int):=by omega
  generalize (Ap P v.bG).i8=pp at*;clear o r i k;go_enter Tryz.func86,Tryz.ntmps86;go_wp2_with fail;go_quiet (fail);go_wp2_with fail;exact bodyPost_ret (v:=.tuple #[]) (by simp [results,Tryz.results86,go_sem]) rfl ⟨rfl,⟨_,_,_,(d.o _ (by repeat (first | exact Ab.refl _ _ | refine Ab.drew ?_ | refine Ab.drewN ?_ _ | refine Ab.alloc ?_ _))).1⟩,(FR.bC (by repeat (first | exact Ab.refl _ _ | refine Ab.drew ?_ | refine Ab.drewN ?_ _ | refine Ab.alloc ?_ _))).trans (d.o _ (by repeat (first | exact Ab.refl _ _ | refine Ab.drew ?_ | refine Ab.drewN ?_ _ | refine Ab.alloc ?_ _))).2⟩
 ·have J:((v.kind:Int) !=1)=true:=by simp;omega
  clear o r i k;go_enter Tryz.func86,Tryz.ntmps86;go_wp2_with fail;go_quiet (fail);go_wp2_with fail;exact bodyPost_ret (v:=.tuple #[]) (by simp [results,Tryz.results86,go_sem]) rfl ⟨rfl,⟨_,_,_,(d.o _ (by repeat (first | exact Ab.refl _ _ | refine Ab.drew ?_ | refine Ab.drewN ?_ _ | refine Ab.alloc ?_ _))).1⟩,(FR.bC (by repeat (first | exact Ab.refl _ _ | refine Ab.drew ?_ | refine Ab.drewN ?_ _ | refine Ab.alloc ?_ _))).trans (d.o _ (by repeat (first | exact Ab.refl _ _ | refine Ab.drew ?_ | refine Ab.drewN ?_ _ | refine Ab.alloc ?_ _))).2⟩
theorem lJ(d j f B:Nat)(i:Value)(t u l:Nat)(P:List PFn)(n:Nat)(m:Mc)(q c k:Nat)(b:List Vl)(A:Value)(w:World)(h:TN d j f B i t u l m w)(H:Bh B w i P)(r:CB P (n+1) m)(s:q<m.c.aY.length)(U:(DB m.c.aY q).v.kind=1∧(Ap P (DB m.c.aY q).v.bG).i8=b.length)(o:40≤m.bS.length)(S:∃a c,A=.slice a b.length c):
 Calls Tryz.prog 86 #[.pointer (some ⟨d,0,none⟩),.int .i64 q,.int .i64 c,A,.int .i64 k] w fun e M=>e=.returned (.tuple #[])∧TN d j f B i t u l {m with bM:=4} M∧FR d j f B w M:=by
 obtain ⟨V,X,rfl⟩:=S;obtain ⟨g,cm,r5,lg,lm,E⟩:=h.holds s;obtain ⟨Y,C,_⟩:=E q s;have a3:(q:Int)<(m.c.aY.length:Int):=by omega
 have Z:w.cell? ⟨g,q*5+3+1,none⟩=some (.int .i64 (DB m.c.aY q).v.bG):=C;have J:=(r.aY.at_ s).2;have z:=Aa H;have y:=Aa h;have N:=Aa r;clear E C;generalize (DB m.c.aY q).v=v at*;obtain ⟨G,I⟩:=U;have F:v.bG<P.length:=by rcases J with ⟨e,_⟩ | ⟨_,e⟩ | ⟨e,_⟩<;>omega
 obtain ⟨gf,cf,T,r0,a4,_,d2⟩:=iO y.o z.o F;have a2:(((Ap P v.bG).i8:Int) !=(b.length:Int))=false:=by simp [I]
 have a1:((v.kind:Int) !=1)=false:=by simp [G]
 have a0:(v.bG:Int)<(P.length:Int):=by omega
 have p:=fun (W:World) (R:Ab (fun _=>False) w W)=>jL d j f B i t u l P m v.bG k b (.slice V b.length X) W (y.o.i9 R) o N.o.bJ ⟨_,_,_,rfl⟩
 have D:UR P m v.bG b k={m with bM:=4}:=by unfold UR;rw [if_pos o]
 rw [D] at p;have x:=Aa p;generalize (Ap P v.bG).i8=pp at*;subst T;clear J G z D p I h H r F o;go_enter Tryz.func86,Tryz.ntmps86;go_wp2_with fail;go_quiet (fail);go_wp2_with fail;refine (x.o _ (by repeat (first | exact Ab.refl _ _ | refine Ab.drew ?_ | refine Ab.drewN ?_ _ | refine Ab.alloc ?_ _))).mono ?_;rintro e w2 ⟨rfl,K,L⟩;have O:=Aa K;have Q:=Aa ((FR.bC (a:=w) (by repeat (first | exact Ab.refl _ _ | refine Ab.drew ?_ | refine Ab.drewN ?_ _ | refine Ab.alloc ?_ _))).trans L);clear K L x;go_wp2_with fail;go_end0;exact ⟨rfl,O.o,Q.o⟩
theorem mG(l):∀(a:Nat) (c:Co) (e:List (Nat×Nat)),XZ l a {c with bN:=e}={(XZ l a c) with bN:=e}:=by
 induction l with
 | nil=>intro a c e;rfl
 | cons v l b=>intro a c e;simp only [XZ];exact b (a+1) (c.set a v) e
theorem oA(i p f B:Nat)(j:Value)(z A t:Nat)(P:List PFn)(n:Nat)(m:Mc)(q c d D:Nat)(b:List Vl)(G:Value)(w:World)(h:TN i p f B j z A t m w)(U:Bh B w j P)(x:CB P (n+1) m)(y:q<m.c.aY.length)(hn:(DB m.c.aY q).v.kind=1∧(Ap P (DB m.c.aY q).v.bG).i8=b.length)(k:Ms P)(Q:m.bS.length<40)(L:∀v,v∈b→Pm P.length m.c.aY.length v)(a5:c≤4000)(o:w.ownsRow D 182 2 G b.length (kH b)):
 Calls Tryz.prog 86 #[.pointer (some ⟨i,0,none⟩),.int .i64 q,.int .i64 c,G,.int .i64 d] w fun e Z=>e=.returned (.tuple #[])∧TN i p f B j z A t (UR P {m with c:={m.c with bN:=(c,(DB m.c.aY q).v.bG)::m.c.bN}} (DB m.c.aY q).v.bG b d) Z∧FR i p f B w Z:=by
 obtain ⟨xa,xl,xc,rfl⟩:=Ad o;have a4:=Aq o;subst a4;obtain ⟨g,cm,r5,lg,lm,O⟩:=h.holds y;obtain ⟨c3,H,_⟩:=O q y;have b0:(q:Int)<(m.c.aY.length:Int):=by omega
 have c5:w.cell? ⟨g,q*5+3+1,none⟩=some (.int .i64 (DB m.c.aY q).v.bG):=H;have Y:=(x.aY.at_ y).2;have s:=Aa U;have r:=Aa h;have F:=Aa x;clear O H;generalize (DB m.c.aY q).v=v at*;obtain ⟨T,V⟩:=hn;have S:v.bG<P.length:=by rcases Y with ⟨e,_⟩ | ⟨_,e⟩ | ⟨e,_⟩<;>omega
 obtain ⟨gf,cf,a2,r0,b2,_,d2⟩:=iO r.o s.o S;have a9:(((Ap P v.bG).i8:Int) !=(b.length:Int))=false:=by simp [V]
 have a8:((v.kind:Int) !=1)=false:=by simp [T]
 have a7:(v.bG:Int)<(P.length:Int):=by omega
 have a3:=k.bX v.bG;have R:=fun (W:World) (u:Ab (fun _=>False) w W)=>jA i p f B j z A t P n m v.bG d D b (.slice xa b.length xc) W (r.o.i9 u) (s.o.i9 u) k F.o.rJ Q S L (by omega) (Ac o u (fun _ _ q=>q))
 have E:=Aa R;have K:UR P {m with c:={m.c with bN:=(c,v.bG)::m.c.bN}} v.bG b d={(UR P m v.bG b d) with c:={(UR P m v.bG b d).c with bN:=(c,v.bG)::(UR P m v.bG b d).c.bN}}:=by unfold UR;simp only;rw [if_neg (by omega),if_neg (by omega)];unfold Co.enter;simp only [jG];congr 1;exact mG b m.c.aY.length (m.c.l8 v.bG (Ap P v.bG).l8.length) _
 rw [K];have a1:(UR P m v.bG b d).c.bN.length≤300000:=by unfold UR;rw [if_neg (by omega)];simp only [Co.enter,jG,Co.l8];have:=F.o.pl;omega
 have a6:=k.bA;have a0:=Aa (Ak.new w #[.int .i64 v.kind,.int .i64 v.bG] 182);generalize (Ap P v.bG).i8=pp at*;generalize UR P m v.bG b d=M at*;subst a2;clear Y T s K R V h U x Q k L a3 o;go_enter Tryz.func86,Tryz.ntmps86;go_wp2_with fail;go_quiet (fail);go_wp2_with fail;refine (E.o _ (by repeat (first | exact Ab.refl _ _ | refine Ab.drew ?_ | refine Ab.drewN ?_ _ | refine Ab.alloc ?_ _))).mono ?_;rintro e w2 ⟨rfl,s1,C⟩;have S2:=Aa ((FR.bC (a:=w) (by repeat (first | exact Ab.refl _ _ | refine Ab.drew ?_ | refine Ab.drewN ?_ _ | refine Ab.alloc ?_ _))).trans C);have N:=Aa (C.s9 (r.o.i9 (by repeat (first | exact Ab.refl _ _ | refine Ab.drew ?_ | refine Ab.drewN ?_ _ | refine Ab.alloc ?_ _))) (Ak.O a0.o (Ab.drewN (Ab.refl (fun _=>False) _) _) (fun q=>q)) (by decide) (by decide) (by decide));have b1:=N.o.cell 1;have lb:=Ae N.o;simp only [dM,dJ,dK] at b1;obtain ⟨mv,rv,ch,l⟩:=s1;have r9:=l.s9.cell 9;have b3:=Ae l.s9;simp only [jC,dM,dJ,dK] at r9;obtain ⟨w3,X,J,I⟩:=(l.i9 ((Ab.refl (fun _=>False) w2).drew)).rI (c,v.bG) (by simp only;omega) (by simp only;omega) a1;have X:(Instr.mapUpdate 117 (.map (some f)) (.agg #[.int .i64 c,.int .i64 v.bG]) (.agg #[])).run Tryz.prog _=.ok () w3:=X;have H3:=Aa J;have F3:=Aa ((S2.o.trans (FR.bC ((Ab.refl (fun _=>False) w2).drew))).trans I);clear C E l J I;go_wp2_with fail;go_region;go_wp2_with fail;go_end0;exact ⟨rfl,⟨_,_,_,H3.o⟩,F3.o⟩
section
variable {P : Program} {p : Array Oper} {md : Region.Mode} {C : World → Prop}
def RH(md:Region.Mode)(p:Array Oper)(m n:Nat):Bool:=(List.range n).all fun i=>decide (i<m) || (List.range (n+1)).any fun j=>decide (i<j) && Region.waitsFor md p j i
theorem Mk{m n:Nat}{h:Array Bool}(B:RH md p m n=true)(w:Region.chainB md p n=true)(l:HeadInv md p n h):
 ∀(d i:Nat),n-i=d→m≤i→i<n→h.getD i true=false→∀t,n≤t→t∉Region.ready md p h:=by
 intro d;induction d using Nat.strongRecOn with
 | _ d E=>
   intro i G I x v t J u;obtain ⟨_,L,k,o⟩:=mem_ready.1 u;have C:t<p.size:=(Array.getElem?_eq_some_iff.1 k).1;by_cases D:t=n
   ·subst D;have b:=List.all_eq_true.1 B i (List.mem_range.2 x);simp only [Bool.or_eq_true,decide_eq_true_eq] at b;obtain ⟨j,y,q⟩:=List.any_eq_true.1 (b.resolve_left (by omega));simp only [Bool.and_eq_true,decide_eq_true_eq] at q;obtain ⟨F,s,e,f,c,g⟩:=Region.waitsFor_spec q.2;have H:=List.mem_range.1 y;by_cases z:j=t
    ·subst z;obtain rfl:=Option.some.inj (s.symm.trans k);have a:=o e f c;rw [g,getD_both v] at a;cases a
    ·cases r:h.getD j false with
     | true=> have a:=l.closed j F s r e f c;rw [g,getD_both v] at a;cases a
     | false=>exact E (t-j) (by omega) j rfl (by omega) (by omega) (getD_in (by rw [l.size];omega) r) t (rN _) u
   ·have b:=List.all_eq_true.1 w t (List.mem_range.2 C);simp only [Bool.or_eq_true,decide_eq_true_eq] at b;obtain ⟨K,A,e,f,c,g⟩:=Region.waitsFor_spec (b.resolve_left (by omega));obtain rfl:=Option.some.inj (A.symm.trans k);have a:=o e f c;rw [g,getD_both (l.tail (t-1) (by omega) (by omega))] at a;cases a
def NJ(P:Program)(md:Region.Mode)(p:Array Oper)(C:World→Prop)(n:Nat)(L:Array Bool→Act→Prop):Nat→Array Bool→Act→Prop
 | 0,b,a=>L b a
 | f+1,b,a=>Region.ready md p b≠[]∧∀i∈Region.ready md p b,i<n∧qOp P p C i (NJ P md p C n L f (b.setIfInBounds i true)) a
theorem Fn{n g:Nat}{L:Array Bool→Act→Prop}{Q':Exit→Act→World→Prop}(d:∀b a w,C w→L b a→wpAny P md p Q' g b a w):
 ∀(f:Nat) (b:Array Bool) (a:Act) (w:World),C w→NJ P md p C n L f b a→wpAny P md p Q' (f+g) b a w
 | 0,b,a,w,c,h=>by rw [Nat.zero_add];exact d _ _ _ c h
 | f+1,b,a,w,c,h=>by rw [show f+1+g=(f+g)+1 by omega];exact ⟨fun k=>absurd k h.1,fun i m=>wpOp_of_qOp c (fun e o l j=>Fn d f _ e o l j) (h.2 i m).2⟩
theorem NK{m n i t v}{L:Array Bool→Act→Prop}(z:p[i]? =some t)(M:∀(j:Nat) (o:Oper) s b,p[j]? =some o→o.op≠.select s b)
 (K:RH md p m n=true)(D:Region.chainB md p n=true)(J:m≤i)(F:i<n)(U:∀c a,L c a→∀j∈Region.ready md p c,n≤j):
 ∀(f:Nat) (c:Array Bool) (a:Act),HeadInv md p n c→
  (∀j r,p[j]? =some r→j≠i→c.getD j true=false→(∀e∈r.after,Region.binds md e=true→e.on≠i)→t.apart p r=true)→
  i∈Region.ready md p c→YieldsIn P p C t v a→
  NJ P md p C n L f (c.setIfInBounds i true) (a.put t.dst v)→NJ P md p C n L (f+1) c a:=by
 intro f;induction f with
 | zero=>
   intro c a y _ g x H;have w:=(mem_ready.1 g).1;refine ⟨fun h=>(by rw [h] at g;cases g),fun j l=>?_⟩;have u:j<n:=(Nat.lt_or_ge j n).resolve_right (fun q=>Mk K D y _ i rfl J F w j q l);refine ⟨u,?_⟩;by_cases d:j=i
   ·subst d;exact x.qOp z H
   ·have:=U _ _ H j (ready_mono l d);omega
 | succ f ih=>
   intro c a y E g x H;have w:=(mem_ready.1 g).1;refine ⟨fun h=>(by rw [h] at g;cases g),fun j l=>?_⟩;have u:j<n:=(Nat.lt_or_ge j n).resolve_right (fun q=>Mk K D y _ i rfl J F w j q l);refine ⟨u,?_⟩;by_cases d:j=i
   ·subst d;exact x.qOp z H
   ·have Q:=(H.2 j (ready_mono l d)).2;obtain ⟨I,r,A,S⟩:=mem_ready.1 l;have a0:∀e∈r.after,Region.binds md e=true→e.on≠i:=fun e V T W=>by have q:=S e V T;rw [W,getD_both w] at q;cases q
    have R:=qOp_put A (E j r A d I a0) (fun s b=>M i t s b z) (fun s b=>M j r s b A) x Q;refine qOp_mono (fun O B=>ih (c.setIfInBounds j true) O (y.set l u) (fun k ok X Y N Z=>?_) (ready_mono g (Ne.symm d)) B.1 ?_) R
    ·refine E k ok X Y ?_ Z;by_cases G:j=k
     ·subst G;exact I
     ·rw [getD_set_ne true G] at N;exact N
    ·rw [Array.setIfInBounds_comm _ _ d];exact B.2
theorem I8{m n g:Nat}{f:Act→Prop}(x:Region.noSelect p=true)(w:RH md p m n=true)(r:Region.chainB md p n=true):
 ∀(l:List Oper) (k:Nat) (b:Array Bool) (a:Act),(∀j,j<l.length→l[j]? =p[k+j]?)→m≤k→k+l.length=n→HeadInv md p n b→
 Region.lexHead md p g l.length k b=true→wpQuiet P p C f l a→
 NJ P md p C n (fun z q=>Region.seqB md p g n z=true∧f q) l.length b a
 | [],k,b,a,_,_,i,_,d,h=>by
   have e:k=n:=by simpa using i
   subst e;exact ⟨by simpa [Region.lexHead] using d,h⟩
 | o::l,k,b,a,t,F,i,y,d,h=>by
   have c:p[k]? =some o:=by simpa using (t 0 (by simp)).symm
   simp only [rW,Region.lexHead,Bool.and_eq_true] at d;obtain ⟨⟨G,E⟩,A⟩:=d;simp only [rW] at i;have s:k<n:=by omega
   have u:k∈Region.ready md p b:=by simpa using G
   have H:qOp P p C k (wpQuiet P p C f l) a:=by unfold qOp;simp only [c];exact h
   obtain ⟨v,I,B⟩:=yieldsIn_of_qOp c H;exact NK c (Region.noSelect_spec x) w r F s (fun z q D=>seqB_ready D.1) l.length b a y (Region.free_spec c E) u I
    (I8 x w r l (k+1) _ _ (fun j J=>by have:=t (j+1) (by simp;omega);simpa [Nat.add_assoc,Nat.add_comm 1 j] using this) (by omega) (by omega) (y.set u s) A B)
def MY(md:Region.Mode)(p:Array Oper)(n:Nat):Bool:=
 Region.noSelect p && decide (n<p.size) && decide (1≤n) && RH md p 1 n && Region.chainB md p n && Region.free md p (Array.replicate p.size false) 0 && (Region.ready md p (Array.replicate p.size false)).contains 0 && Region.lexHead md p (p.size-n) (n-1) 1 ((Array.replicate p.size false).setIfInBounds 0 true)
theorem LH{R}{Q:Exit→Act→World→Prop}{a w o l v}(n)(I:P.follows .mixedOrders=true)(f:MY .any (o::l).toArray n=true)
 (B:∀c a w,Q (.panic c) (a.put o.dst v) w→Q (.panic c) a w)(O:Yields P (o::l).toArray o v a)
 (h:wpQuiet P (o::l).toArray (fun b=>∃n,b=w.drewN n) (fun d=>∀b,(∃n,b=w.drewN n)→wpList P (o::l).toArray Q (l.drop (n-1)) d b) (l.take (n-1)) (a.put o.dst v)):(Code.region R (o::l).toArray true).wp P Q a w:=by
 simp only [MY,Bool.and_eq_true,decide_eq_true_eq] at f;obtain ⟨⟨⟨⟨⟨⟨⟨x,J⟩,V⟩,L⟩,D⟩,E⟩,u⟩,G⟩:=f;have W:n<l.length+1:=by simpa using J
 have e:(l.take (n-1)).length=n-1:=by simp;omega
 have M:(o::l).toArray.size=l.length+1:=by simp
 have q:(l.drop (n-1)).length=(o::l).toArray.size-n:=by simp;omega
 have z:(o::l).toArray[0]? =some o:=by simp
 have S:HeadInv .any (o::l).toArray n (Array.replicate (o::l).toArray.size false):=
  ⟨by simp,fun j X _ s=>(by rw [getD_replicate_false] at s;cases s),fun t _ N=>getD_in (by simpa using N) (getD_replicate_false _ _)⟩
 have K:0∈Region.ready .any (o::l).toArray (Array.replicate (o::l).toArray.size false):=by simpa using u
 have T:=S.set K (by omega);have H:=I8 (md:=.any) (m:=1) (g:=(o::l).toArray.size-n) x L D (l.take (n-1)) 1 _ (a.put o.dst v) (fun j r=>by
  have F:j<n-1:=by rw [e] at r;exact r
  simp [F,Nat.add_comm 1 j]) (rN _) (by omega) T (by rw [e];exact G) h
 refine wp_region_any I ?_;have y:=Fn (C:=fun b=>∃n,b=w.drewN n) (Q':=Q) (g:=(o::l).toArray.size-n) (fun U d b A i=>by
  have:=wpAny_of_seq (md:=.any) (Q':=Q) (l.drop (n-1)) n U d b (fun j=>by rw [List.getElem?_drop];obtain ⟨k,rfl⟩:∃k,n=k+1:=⟨n-1,by omega⟩;simp [Nat.add_right_comm k 1 j]) (by rw [q];exact i.1) (i.2 b A)
  rwa [q] at this) _ _ _ _ ⟨1,rfl⟩ H
 rw [e,show n-1+((o::l).toArray.size-n)=l.length by omega] at y;rw [M];exact wpAny_take z x E u B O y
end
theorem oT(f:Ue)(r:List Ue)(k:Nat):(kG (f::r)).set (r.length*4+2) (.int .i64 k)=kG ({f with next:=k}::r):=by rw [jB,jB];have h:=lX r;rw [List.set_append];rw [if_neg (by omega)];congr 1;rw [show r.length*4+2-(kG r).length=2 by omega];rfl
theorem I3.rE{d i c B u x o g n j p v m l f r w}(h:I3 d i c B p u x o m v (.slice (some ⟨g,0,none⟩) n j) l w)(s:m.bS=f::r)(k):
 I3 d i c B p u x o {m with bS:={f with next:=k}::r} v (.slice (some ⟨g,0,none⟩) n j) l (w.setCell ⟨g,r.length*4+2,none⟩ (.int .i64 k))∧FR d i c B w (w.setCell ⟨g,r.length*4+2,none⟩ (.int .i64 k)):=by
 have C:=Aq h.e9;subst C;obtain ⟨y,b⟩:=J9 h.e9;have z:=(h.e9.lt g rfl).1;have a:Ab (fun k=>k=g) w (w.setCell ⟨g,r.length*4+2,none⟩ (.int .i64 k)):=(Ab.refl _ _).d8 _ _;have t:=(h.e9.stored (r.length*4+2) (.int .i64 k)).1;have e:(kG m.bS).set (r.length*4+2) (.int .i64 k)=kG ({f with next:=k}::r):=by rw [s];exact oT f r k
 rw [e] at t;have A:({f with next:=k}::r:List Ue).length=m.bS.length:=by rw [s];simp
 refine ⟨⟨h.s9.O a (fun q=>Aj h.e9 h.s9 (by decide) g rfl q.symm),h.qV,Ac h.aY a (Aj h.aY b (by decide)),?_,h.cU.O a (h.cU.ne b),h.bN.O a (h.bN.ne b),h.lb,h.ne⟩,a.mono (fun k _ q=>by subst q;exact .inr (.inr (.inr ⟨z,y,_,_,b,.inr rfl⟩)))⟩;show World.ownsRow _ B _ 4 _ ({f with next:=k}::r:List Ue).length (kG ({f with next:=k}::r));rw [A];exact t
theorem I3.rD{s v o B t x l g n e p u m k f r w}(h:I3 s v o B p t x l m u (.slice (some ⟨g,0,none⟩) n e) k w)(c:m.bS=f::r):
 w.cell? ⟨g,r.length*4+2,none⟩=some (.int .i64 f.next)∧w.frozen? ⟨g,r.length*4+2,none⟩=false∧g<w.heap.size:=by
 obtain ⟨y,b⟩:=J9 h.e9;have z:m.bS.length=r.length+1:=by rw [c];simp
 have q:=Aq h.e9;subst q;refine ⟨?_,AE b _,Ae b⟩;have d:=h.e9.cellAt (r.length*4+2) (by omega);have a:=lE m.bS (i:=0) (j:=2) (by omega) (by decide);rw [show m.bS.length-1-0=r.length by omega] at a;rw [d,a];simp only [c,List.getElem_cons_zero];rfl
theorem I3.qX{s v l B t x k g n d o u m e f r w}(h:I3 s v l B o t x k m u (.slice (some ⟨g,0,none⟩) n d) e w)(b:m.bS=f::r):
 w.cell? ⟨g,r.length*4+1,none⟩=some (.int .i64 f.base)∧g<w.heap.size:=by
 obtain ⟨y,p⟩:=J9 h.e9;have z:m.bS.length=r.length+1:=by rw [b];simp
 have q:=Aq h.e9;subst q;refine ⟨?_,Ae p⟩;have c:=h.e9.cellAt (r.length*4+1) (by omega);have a:=lE m.bS (i:=0) (j:=1) (by omega) (by decide);rw [show m.bS.length-1-0=r.length by omega] at a;rw [c,a];simp only [b,List.getElem_cons_zero];rfl
end Go.Proofs.YtegmjgjkcdbmkaaGreatDoor

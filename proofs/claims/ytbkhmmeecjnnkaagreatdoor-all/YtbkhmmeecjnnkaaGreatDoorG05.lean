/- Part of the proof. -/
import Derived.Test.YtbkhmmeecjnnkaaGreatDoorG04
import Derived.Maps.Views
import Derived.DeepKeys4
import Derived.Lib.ItoaNum
import Derived.Sort.Walk0
import Derived.Deep.AppendSrc
set_option maxRecDepth 100000
set_option maxHeartbeats 4000000
namespace Go.Proofs.YtbkhmmeecjnnkaaGreatDoor
open Go.RowKit Go.Proofs.Tryz Go.Maps
open Option renaming none->Z,some->T
open Value renaming int->G,slice->Y,pointer->Z',string->Y',tuple->P',bool->O',agg->N',ownBlock->L'
open IntKind renaming i64->A
open Ending renaming returned->T'
open Obj renaming cells->R'
open List renaming length->L
open World renaming cell?->K',ownsRow->J'
open Go renaming World->I',Value->H',Calls->F',maxLen->E',Addr->A',results->zz
open Go.Proofs.Tryz renaming prog->zy
open _root_ renaming Nat->M,Int->zw,False->zv,rfl->Q,decide->zu
open Bool renaming true->zt,false->zr
open Or renaming inl->zo,inr->zn
open Go.RowKit renaming intOf->zm
variable {u4:Act}{z5:Array Oper}{q1:Cg}{u0:Cd}{x4 y9:CS}{z8:Cm}{q8:Int}{n0:Cc}{x1:C8}{q2:Cf}{o0:Dd}{y2:Df}{o8:DH}{y1:Ci}{o2:FZ}{u2:Mc}{B C R X o1 p0 p4 s2 s3 v0:Nat}{z1:Nat->Prop}{p3:Oper}{q4:Program}{q9:St}{z9:Type}{n8 q0:TypeId}{V s0 u1 z0:Value}{P v1 y0:World}
def K8(l:DH)(f k:M)(x:St)(H:C8):RF×St×C8:=
 let a:=CW l [102,110] x
 let y:=Ev l 1 a
 let b:=CW l [40] y.2
 let z:=EM l b
 let r:=C6 l f k (CW l [123] z.2) H []
 (⟨y.1,z.1,r.1,(CI l z.2.b).pos,[]⟩,CW l [125] r.2.1,r.2.2)
def ER(l:DH)(F:M):M->St->C8->Dd->Dd×St×C8
 |0,x,H,E=>(E,x,H)
 |m+1,x,H,E=>if x.wY=Z/\(E=[]\/(CI l x.b).h≠0)then ER l F m (K8 l F E x H).2.1 (K8 l F E x H).2.2 (E++[(K8 l F E x H).1])else(E,x,H)
abbrev vC:Cg:=#[Y' {data:=#[]},G A 0,G A 0,Y Z 0 0,Y Z 0 0,G A 0,Y Z 0 0]
theorem Tryz.infoRF:(Tryz.prog.info? 107).map (λi=>(i.zero,i.size,i.bytes))=T (T<|N' vC,7,112):=by kernel_rfl
theorem pM(f a b c i j k e g h):∀u∈(J5 f (Y a i e) (Y b j g)<|Y c k h).toList,u.oneCell'=zt:=by intro u d;simp[J5]at d;rcases d with rfl|rfl|rfl|rfl|rfl|rfl|rfl<;>rfl
structure PF(o s g n K B:M)(U:Ce)(l:DH)(C P:H')(x:St)(H:C8)(E:Dd)(w:I'):Prop where
 rd:Dl o s g n K x.b x.wY w
 tk:Dt g n K l w
 r:EB s C P x.pl x.g w
 st:Eh B U w P H
 fn:Fq B w C E
 ul:∀k,U k->k<(w:M)
section
variable{o s g n K B:M}{U:Ce}{l:DH}{C P:H'}{x:St}{H:C8}{E:Dd}{w N:I'}
theorem PF.yI(h:PF o s g n K B U l C P x H E w):g≠o/\s≠o/\g≠s:=⟨h.tk.ne h.rd nofun,h.r.p.ne h.rd.p nofun,h.tk.ne h.r nofun⟩
theorem PF.yC(h:PF o s g n K B U l C P x H E w):∀k,L' C=T k->k≠o/\k≠s:=by intro k a;have⟨c,b,_⟩:=h.fn;exact⟨CL b h.rd nofun k a,CL b h.r nofun k a⟩
theorem PF.t8(h:PF o s g n K B U l C P x H E w)(a:O Cb w N):PF o s g n K B U l C P x H E N:=
 ⟨h.rd.j a id,h.tk.j a id,h.r.p.j a id,h.st.t8 a,h.fn.t8 a,λk b=>Av (h.ul k b) a.size⟩
theorem PF.call{c b}(h:PF o s g n K B U l C P x H E w)(d:O (λk=>k=o) w N)(f:Dl o s g n K c b N):PF o s g n K B U l C P ⟨c,b,x.pl,x.g⟩ H E N:=by have e:=h.yI;refine⟨f,h.tk.j d e.1,h.r.p.j d e.2.1,h.st.rb h.rd d,h.fn.j d (λk a=>(h.yC k a).1) ?_,λk a=>Av (h.ul k a) d.size⟩;intro k i t j a m;have a:k=o:=a;subst a;have p:w.heap[k]? =_:=h.rd;grind
theorem PF.xX{a b}(h:PF o s g n K B U l C P x H E w)(e:CW l a x=b)(c:O (λk=>k=o) w N)(d:Dl o s g n K (Jl l x.b x.wY a).1 (Jl l x.b x.wY a).2 N):PF o s g n K B U l C P b H E N:=by subst e;exact h.call c d
theorem PF.get{k q a}(h:PF o s g n K B U l C P x H E w)(d:Ev l k x=(q,a))(b:O (λk=>k=o) w N)(c:Dl o s g n K (Gj l x.b x.wY k).2.1 (Gj l x.b x.wY k).2.2 N):PF o s g n K B U l C P a H E N:=by have e:a=⟨(Gj l x.b x.wY k).2.1,(Gj l x.b x.wY k).2.2,x.pl,x.g⟩:=(BG Prod.snd d).symm;subst e;exact h.call b c
theorem PF.list{q a}(h:PF o s g n K B U l C P x H E w)(d:EM l x=(q,a))(b:O (λk=>k=o) w N)(c:Dl o s g n K (FM l x.b x.wY).2.1 (FM l x.b x.wY).2.2 N):PF o s g n K B U l C P a H E N:=by have e:a=⟨(FM l x.b x.wY).2.1,(FM l x.b x.wY).2.2,x.pl,x.g⟩:=(BG Prod.snd d).symm;subst e;exact h.call b c
theorem PF.yX{c i m v}(h:PF o s g n K B U l C P x H E w)(d:W c m 107 w)(p:∀k,L' C=T k->k≠c):PF o s g n K B U l C P x H E<|w.setCell ⟨c,i,Z⟩ v:=by
 have b:=(CT (λk=>k=c) w).wS i v;have y:∀(k:M) (e:Cg) (t:TypeId) (f:M×M),k=c->w.heap[k]? =T (R' e t f)->t=107:=by intro k e t f a j;subst a;have u:w.heap[k]? =_:=d;grind
 refine⟨h.rd.j b<|h.rd.p.ne d nofun,h.tk.j b<|h.tk.ne d nofun,h.r.p.j b<|h.r.p.ne d nofun,h.st.j b (λk a=>?_) λk e t f a j=>by grind,h.fn.j b (λk a=>p k a) λk e t f a j=>by grind,λk a=>Av (h.ul k a) b.size⟩;have⟨r,q,_⟩:=h.st;exact CL q d nofun k a
theorem PF.block{c}{e:Ce}{x' f}(h:PF o s g n K B U l C P x H E w)(p:Dl o s g n K x'.b x'.wY N)(y:Dt g n K l N)(m:EB s C c x'.pl x'.g N)(u:Eh B e N c f)(j:JI o s P c w N):PF o s g n K B (λk=>e k/\k<(N:M)) l C c x' f E N:=by
 have v:=h.st;have⟨R,r,_⟩:=v;refine⟨p,y,m,u.below,h.fn.j j.j (λk a q=>?_) λk X t fz a i=>?_,λk a=>a.2⟩;rcases q with q|q|q
 exact(h.yC k a).1 q;exact(h.yC k a).2 q;have⟨S,a0,_⟩:=h.fn;grind[GW];rcases a with a|a|a
 subst a;have b:w.heap[k]? =_:=h.rd;grind;subst a;have b:w.heap[k]? =_:=h.r;rw[i]at b;simp only[Ai,Aq]at b;rw[b.2.1];decide;rcases r.2 with⟨F,_⟩|⟨g',I,V,z,_,d,_⟩
 rw[F]at a;simp[L']at a;rw[z]at a;simp[L']at a;subst a;rw[i]at d;simp only[Ai,Aq]at d;rw[d.2.1];decide
end
theorem Fq.push{B w Wz c C x b f m d}(h:Fq B w C b)(R:O Cb w Wz)(ht:Fb B w m f.wZ)(S:CY B w d f.body)(r:f.y=[])
 (a0:J' c B 107 7 x (L b+1)<|(h.choose).flatten++(J5 f m d DS).toList)(V:Wz.grownBy c<|L' C):Fq B c x (b++[f])/\O (λk=>L' C=T k) w c:=by
 have F:=h.choose_spec;generalize h.choose=u at a0 F;have⟨a2,z,a1,a5⟩:=F;have p:O (λk=>L' C=T k) w c:=O.xA (R.mono λ_ _ q=>q.elim) V λk a=>zo a;have I:∀(k:M) (v:Cg) (t:TypeId) (y:M×M),L' C=T k->w.heap[k]? =T (R' v t y)->t≠3/\t≠104/\t≠9:=by
  intro k v t y a U;rcases a2.2 with⟨q',_⟩|⟨g',a3,a4,r,_,n,_⟩
  rw[q']at a;simp[L']at a;rw[r]at a;simp[L']at a;subst a;rw[U]at n;simp only[Ai,Aq]at n;rw[n.2.1];decide
 refine⟨⟨u++[(J5 f m d DS).toList],?_,by simp[z],?_,?_⟩,p⟩;grind;intro i h1 h2;by_cases g:i<b;rw[AD<|by omega,AD g];exact(a1 i (by omega) g).j p I;have e:i=b:=by grind
 subst e;rw[AB<|by omega,AB<|by omega];simp only[Nat.sub_self,z,AA];refine Va.j ⟨m,d,DS,Q,ht,S,?_⟩ p I;rw[r];exact An _ _ _ _;intro i j g hj a6 k a q;simp only[Ah,Az]at g hj;by_cases X:i<u;rw[AD X]at a;grind[Xm,J5,L'];grind[Xm,J5,L']
theorem Nb{a}(c:(CI a<|B-1).h=0)(f k x b)(h:Mw B x<|L b):Mw B (K8 a f k x b).2.1 (L (K8 a f k x b).2.2)/\((K8 a f k x b).2.1.wY=Z->x.b<(K8 a f k x b).2.1.b)/\x.b<=(K8 a f k x b).2.1.b:=by
 have E:=DP a;have C:∀(i:Cj) (x:St),x.b<B->(CW a i x).b<B:=λi x h=>EK Q c h
 unfold K8;simp only;have o:=(E [102,110] x).trans<|IU a 1<|CW a [102,110] x;have l:(Ev a 1<|CW a [102,110] x).2.b<B:=Iw (q:=(Ev a 1<|CW a [102,110] x).1) Q (by decide) c<|C _ _ h.1;generalize (Ev a 1<|CW a [102,110] x).2=y at*;have p:=o.trans<|(E [40] y).trans<|Jr a<|CW a [40] y;have m:(EM a<|CW a [40] y).2.b<B:=IW (q:=(EM a<|CW a [40] y).1) Q c<|C _ _ l;generalize (EM a<|CW a [40] y).2=z at*;have d:=p.trans<|E [123] z;have s:=h.xQ d<|C [123] z m;have⟨j,u,v⟩:=(GY c f).1 k _ b [] s;generalize C6 a f k (CW a [123] z) b []=r at*;have g:=E [125] r.2.1;have t:=j.xQ g<|C [125] _ j.1;refine⟨t,λe=>?_,?_⟩;have:=g.2.2.2 e;have:=d.1;omega;have:=g.1;have:=d.1;omega
theorem mC{b}(h:Fb s2 P u1 o8)(j:Dl B C R X v0 p0 b P)(i:EB C V z0 p4 s3 P)(m:Eh o1 z1 P z0 x1)(f:JI B C z0 s0 P y0):Fb s2 y0 u1 o8:=by
 have⟨o,p,_⟩:=m;refine CD h f.j λk d e a=>?_;rcases a with a|a|a
 exact Fp j.p (by decide) k d e a;exact Fp i.p (by decide) k d e a;grind[Ht]
theorem O.new{X:Ce}{a:I'}(h:O Cb a P)(k:O X P y0)(c:∀k,X k->(a:M)<=k):O Cb a y0:=((h.mono λ_ _ q=>q.elim).trans k).mono λi b q=>by grind
theorem PF.grow{j l}(h:PF B C R X v0 p0 z1 j V s0 q9 x1 o0 P)(hF:Fq p0 y0 z0 l)(e:O (λk=>L' V=T k) P y0)(v:∀k,L' z0=T k->L' V=T k\/P.heap.size<=k):PF B C R X v0 p0 z1 j z0 s0 q9 x1 l<|y0.setCell C z0:=by
 have f:=(CT (λk=>k=C) y0).wS 0 z0;have m:=h.yI;have u:=h.fn;have⟨H,p,_⟩:=u;have ty:∀(k:M) (b:Cg) (t:TypeId) (c:M×M),L' V=T k->P.heap[k]? =T (R' b t c)->t=107:=by
  intro k b t c a d;rcases p.2 with⟨E,_⟩|⟨K,F,I,z,_,i,_⟩
  rw[E]at a;simp[L']at a;rw[z]at a;simp[L']at a;subst a;rw[d]at i;simp only[Ai,Aq]at i;exact i.2.1
 have o:EB C V s0 q9.pl q9.g y0:=h.r.p.j e λq=>(h.yC C q).2 Q;have a0:∀(k:M) (b:Cg) (t:TypeId) (c:M×M),k=C->y0.heap[k]? =T (R' b t c)->t=70:=by intro k b t c a d;subst a;have N:y0.heap[k]? =_:=o;grind
 have S:=Cz h.r;have y:Dt R X v0 j y0:=h.tk.j e λq=>GW p h.tk.1 (by decide) R q Q;refine⟨(h.rd.j e λq=>(h.yC B q).1 Q).j f λq=>m.2.1 q.symm,y.j f m.2.2,?_,(h.st.j e (λk a q=>?_) λk b t c a d=>by grind).j f (λk a q=>?_) λk b t c a d=>by grind,hF.j f (λk a q=>?_) λk b t c a d=>by grind,λk a=>?_⟩;have:=o.p.set 0 z0;grind[EB,W];have⟨s,r,_⟩:=h.st;grind[GW];have⟨s,r,_⟩:=h.st;exact CL r h.r (by decide) k a q;have q:k=C:=q;subst q;rcases v k a with q|q
 exact(h.yC k q).2 Q;omega;have:=h.ul k a;have:=e.size;have:=f.size;omega
def sR(w:I')(r:Dd×St×C8)(e:Ending)(a:I'):Prop:=
 ∃(b c:H') (U:Ce),e=P' #[Z' w,(Ob r.2.1.wY)]/\EB w b c r.2.1.pl r.2.1.g a/\Eh w U a c r.2.2/\Fq w a b r.1/\O Cb w a
theorem NA(g n z d w)(ht:Dt g n z d w)(f7:0<n)(hz:(CI d<|n-1).h=0):
 F' zy 33 #[Y g n z] w λe w'=>sR w (ER d (2*n) n ⟨0,Z,0,0⟩ [] []) e w':=by
 have⟨i0,hi,g6,g7,g8⟩:=Bx Tryz.infoRF;have hn:=ht.2.2;have lg:g<w:=(ht.1.lt g Q).2;generalize hV:ER d (2*n) n ⟨0,Z,0,0⟩ [] []=V;have HV:=J hV;have HZ:=J hz;have P0:D<|PF ((w:M)+1) w g n z w (λ_=>zv) d (Y Z 0 0) (Y Z 0 0) ⟨0,Z,0,0⟩ [] []<|(w.alloc<|R' #[Y Z 0 0,Y Z 0 0,G A 0,G A 0] 70).alloc<|R' #[Y g n z,G A 0,G A<|-1,Z' w] 162:=by refine⟨?_,ht.j (((CT Cb w).alloc _).alloc _) id,?_,⟨[],An _ _ _ _,Q,λi h=>by simp at h⟩,⟨[],An _ _ _ _,Q,λi h=>by simp at h,λi j h=>by simp at h⟩,λ_ h=>h.elim⟩;have:=W.new (w.alloc<|R' #[Y Z 0 0,Y Z 0 0,G A 0,G A 0] 70) #[Y g n z,G A 0,G A<|-1,Z' w] 162;simpa[Dl,W,Ob]using this;exact(W.new w _ _).alloc _
 have O0:=J<|((CT Cb w).alloc<|R' #[Y Z 0 0,Y Z 0 0,G A 0,G A 0] 70).alloc<|R' #[Y g n z,G A 0,G A<|-1,Z' w] 162;have I0:D<|Mw n ⟨0,Z,0,0⟩ 0:=⟨f7,Ar _,Ar _,Ar _,λ_=>⟨Ad _,Ad _,Ad _⟩⟩;clear ht hz hV;go_in;go_wp2;go_loopw[] (λwr=>∃(x:St) (P:C8) (r:Dd) (fv sv:H') (U:Ce) (m:M),D (PF ((w:M)+1) w g n z w U d fv sv x P r wr)/\D (O Cb w wr)/\D (Mw n x P)/\D (x.wY=Z->n-x.b<=m/\r<=x.b)/\r<=n/\D (ER d (2*n) m x P r=V)) (λwr=>Uw ((w:M)+1) n wr);exact⟨⟨0,Z,0,0⟩,[],[],_,_,_,n,P0,O0,I0,λ_=>⟨by simp,by simp⟩,by simp,HV⟩;clear P0 O0 I0 HV;have⟨x,P,r,fv,sv,U,m,t,HO,HI,HB,h3,HC⟩:=hrel;have hc:=HI.o.1;have⟨t0,t1,t2⟩:=t.o.tk.cells hc;obtain⟨r0,r1,r2⟩:=t.o.rd.p.e3 0 1 2;have p0:=t.o.r.p.z 0;simp at r0 r1 r2 p0;have lr:=Cz t.o.rd;have lp:=Cz t.o.r;have g9:g<wr:=(t.o.tk.1.lt g Q).2;obtain⟨fa,fl,fc,rfl⟩:∃a l c,fv=Y a l c:=by have⟨_,h,_⟩:=t.o.fn;exact CA h
 have e8:fl=r:=by have⟨_,h,_⟩:=t.o.fn;exact CU h
 subst e8;have HM:=J<|LZ t.o.rd;by_cases a4:x.wY=Z/\(r=[]\/(CI d x.b).h≠0)
 .have⟨K,b7⟩:=a4;have h5:=HB.o K;obtain⟨m',e9⟩:∃m',m=m'+1:=⟨m-1,by omega⟩;subst e9;have⟨f1,x9,b4,h9⟩:=iA<|K8 d (2*n) r x P;have e4:D<|ER d (2*n) m' x9 b4 (r++[f1])=V:=by have:=HC.o;rw[ER,Bb ⟨K,b7⟩,h9]at this;exact this
  have c1:=Nb HZ.o (2*n) r x P HI.o;rw[h9]at c1;obtain⟨a2,H9,e3⟩:=Dq c1 h9 K;have h0:((L r:zw)==0)=zt\/(((L r:zw)==0)=zr/\(((CI d x.b).h:zw) !=0)=zt):=by
   cases r with
   |nil=>left;rfl
   |cons a l=>
    right;refine⟨by simp;omega,?_⟩;rcases b7 with q|q
    cases q;simp;omega
  rw[K]at r2;simp only[Ob]at r2;clear HC c1 h9 K b7;rcases h0 with h0|⟨h0,h2⟩
  all_goals
   go_wp2_with fail;go_quiet(fail);go_wp2_with fail;have PQ:=J<|t.o.t8<|(CT Cb wr).drewN nq;have OQ:D<|O Cb w<|wr.drewN nq:=HO.o.drewN nq;clear t0 t1 t2 r0 r1 r2 p0 lr lp g9 t HO;generalize wr.drewN nq=wq at PQ OQ|-;have⟨x1,b2⟩:=Dv<|CW d [102,110] x;apply(Pa ((w:M)+1) w g n z x.b x.wY d _ [102,110] (by simp) wq PQ.o.rd PQ.o.tk hc).mono;rintro e o ⟨rfl,d1,b6⟩;have P1:=J<|PQ.o.xX b2 b6 d1;have O1:=J (O.new OQ.o b6 λk s=>by omega);have c5:x1.b<n:=EK b2 HZ.o hc;have X1:=J b2;clear d1 b6 b2 PQ OQ;go_wp2_with fail;obtain⟨P2,B2,O2⟩:=Dq (P1.o.t8<|(CT Cb o).alloc<|R' vC 107) (W.new o vC 107)<|O1.o.alloc<|R' vC 107;have a0:∀k,L' (Y fa r fc)=T k->k≠(o:M):=λk s=>by have⟨_,h,_⟩:=P1.o.fn;have:=(h.lt k s).2;omega
   have a7:(o:M)≠w+1:=by have:=Cz P1.o.rd;omega
   have a1:=O1.o.size;have⟨p,x2,a5⟩:=JG<|Ev d 1 x1;apply(PU ((w:M)+1) w g n z x1.b 1 x1.wY d _ P2.o.rd P2.o.tk c5).mono;rw[show(Gj d x1.b x1.wY 1).1=p from BG Prod.fst a5];rintro e w2 ⟨rfl,d2,a9⟩;obtain⟨P3,R,O3⟩:=Dq (P2.o.get a5 a9 d2) (B2.o.j a9 a7) (O.new O2.o a9 λk s=>by omega);have c6:x2.b<n:=Iw a5 (by decide) HZ.o c5;have X2:=J a5;clear d2 a9 a5 P1 P2 B2 O1 O2;unfold MR;have⟨f0,e5,f2⟩:=R.o.k3;have ff:=R.o.wV;have lf:=Cz R.o;go_wp2_with fail;have P4:=J<|((P3.o.yX (i:=0) (v:=Y' p.a) R.o a0).yX (i:=1) (v:=G A p.pos) (R.o.set 0 _) a0).yX (i:=2) (v:=G A p.h) ((R.o.set 0 _).set 1 _) a0;have B4:D<|W o #[p.a,p.pos,p.h,Y Z 0 0,Y Z 0 0,G A 0,Y Z 0 0] 107<|((w2.setCell o p.a).setCell (o,1) p.pos).setCell (o,2) p.h:=by have:=((R.o.set 0 p.a).set 1 p.pos).set 2 p.h;exact J<|by simpa using this
   have O4:=J<|((O3.o.xB (b:=o) 0 p.a a1).xB (b:=o) 1 p.pos a1).xB (b:=o) 2 p.h a1;clear P3 R O3 f0 e5 f2 ff lf;generalize ((w2.setCell (o:M) p.a).setCell ((o:M),1) p.pos).setCell ((o:M),2) p.h=w3 at P4 B4 O4|-;have⟨x3,b3⟩:=Dv<|CW d [40] x2;apply(Pa ((w:M)+1) w g n z x2.b x2.wY d _ [40] (by simp) w3 P4.o.rd P4.o.tk c6).mono;rintro e w4 ⟨rfl,d3,b0⟩;obtain⟨P5,B5,O5⟩:=Dq (P4.o.xX b3 b0 d3) (B4.o.j b0 a7) (O.new O4.o b0 λk s=>by omega);have c7:x3.b<n:=EK b3 HZ.o c6;have X3:=J b3;clear d3 b0 b3 P4 B4 O4;go_wp2_with fail;have⟨q4,x4,a6⟩:=JG<|EM d x3;apply(V8 ((w:M)+1) w g n z x3.b x3.wY d _ P5.o.rd P5.o.tk c7 HZ.o).mono;rw[show(FM d x3.b x3.wY).1=q4 from BG Prod.fst a6];rintro e w5 ⟨v4,rfl,b8,d4,b1⟩;have T5:=J (CN b8 (B':=w)<|by have:=O5.o.size;omega);obtain⟨B,E,C,rfl⟩:=CA b8;obtain⟨P6,S,O6⟩:=Dq (P5.o.list a6 b1 d4) (B5.o.j b1 a7) (O.new O5.o b1 λk s=>by omega);have e6:x4.b<n:=IW a6 HZ.o c7;have X4:=J a6;clear d4 b1 a6 b8 P5 B5 O5;have f3:=S.o.j3;have ff:=S.o.wV;have lf:=Cz S.o;have p0:=P6.o.r.p.j0;have lp:=Cz P6.o.r;have f9:(w:M)≠o:=P6.o.r.p.ne S.o (by decide);go_wp2_with fail;have u:=J<|P6.o.yX (i:=3) (v:=Y B E C) S.o a0;have B7:D<|W o #[p.a,p.pos,p.h,Y B E C,Y Z 0 0,G A 0,Y Z 0 0] 107<|w5.setCell (o,3)<|Y B E C:=by have:=S.o.set 3<|Y B E C;exact J<|by simpa using this
   have O7:=J<|O6.o.xB (b:=o) 3 (Y B E C) a1;have T7:D<|Fb w (w5.setCell (o,3)<|Y B E C) (Y B E C) q4:=CD T5.o ((CT (λk=>k=(o:M)) w5).wS 3 _) λk ds fz s=>Fp S.o (by decide) k ds fz s;clear P6 S O6 T5 f3 ff lf p0 lp;generalize w5.setCell ((o:M),3) (Y B E C)=w6 at u B7 O7 T7|-;have G4:Kc 4 x x4:=by have q:=(DP d [102,110] x).trans<|IU d 1<|CW d [102,110] x;rw[X1.o,show(Ev d 1 x1).2=x2 by rw[X2.o]]at q;have p:=q.trans<|(DP d [40] x2).trans<|Jr d<|CW d [40] x2;rw[X3.o,show(EM d x3).2=x4 by rw[X4.o]]at p;exact p
   have c4:=J<|HI.o.xQ G4 e6;have⟨ro,rx,rf,c2⟩:=iA<|C6 d (2*n) r (CW d [123] x4) P [];have⟨x5,c3⟩:=Dv<|CW d [125] rx;have⟨y,c0⟩:=Dv<|(CI d x4.b).pos;have hF:f1=⟨p,q4,ro,y,[]⟩/\x9=x5/\b4=rf:=by have:=H9.o;unfold K8 at this;simp only[X1.o,X2.o,X3.o,X4.o,c2,c3,c0,AU]at this;exact⟨this.1.symm,this.2.1.symm,this.2.2.symm⟩
   obtain⟨rfl,rfl,rfl⟩:=hF;clear G4 HI H9;apply(SD (2*n) (λk _=>lS k) ((w:M)+1) w g n z w r U d (Y fa r fc) sv x4 P w6 u.o.rd u.o.tk u.o.r u.o.st u.o.ul O7.o.size HZ.o c4.o λ_=>by omega).mono;rw[c2,c0];simp only[c3];rintro e w7 ⟨h7,bv,U2,g0,g4,g5,rfl,b5,d5,d8,d0,d7,a3⟩;obtain⟨P8,T8,I8⟩:=Dq (u.o.block (x':=x9) d5 d8 d0 d7 a3) (mC T7.o u.o.rd u.o.r u.o.st a3)<|CN b5 (B':=w) O7.o.size;have N:=J (B7.o.j a3.j<|by rintro(q|q|q);exact a7 q;exact f9 q.symm;have⟨_,h,_⟩:=u.o.st;exact CL h B7.o (by decide) _ q Q)
   have O8:=J (O.new O7.o a3.j (λk s=>by
    rcases s with q|q|q
    omega;omega;have⟨_,h,_⟩:=u.o.st;exact(h.lt k q).1))
   obtain⟨F,I,H,rfl⟩:=CA b5;clear g0 g4 g5 b5 d5 d8 d0 d7 a3 u B7 O7 T7 c2 c3 c0 c4;obtain⟨-,-,-,-,f4,f5⟩:=N.o.k6;have ff:=N.o.wV;have lf:=Cz N.o;go_wp2_with fail;have X:=J<|(P8.o.yX (i:=5) (v:=G A y) N.o a0).yX (i:=4) (v:=Y F I H) (N.o.set 5 _) a0;have B9:D<|W o #[p.a,p.pos,p.h,Y B E C,Y F I H,y,Y Z 0 0] 107<|(w7.setCell (o,5) y).setCell (o,4)<|Y F I H:=by have:=(N.o.set 5 y).set 4<|Y F I H;exact J<|by simpa using this
   have O9:=J<|(O8.o.xB (b:=o) 5 y a1).xB (b:=o) 4 (Y F I H) a1;have T9:D<|Fb w ((w7.setCell (o,5) y).setCell (o,4)<|Y F I H) (Y B E C) q4:=CD T8.o (((CT (λk=>k=(o:M)) w7).wS 5 _).wS 4 _) λk ds fz s=>Fp N.o (by decide) k ds fz s;have I9:D<|CY w ((w7.setCell (o,5) y).setCell (o,4)<|Y F I H) (Y F I H) ro:=CD I8.o (((CT (λk=>k=(o:M)) w7).wS 5 _).wS 4 _) λk ds fz s=>Fp N.o (by decide) k ds fz s;clear P8 N O8 T8 I8 f4 f5 ff lf;generalize (w7.setCell ((o:M),5) y).setCell ((o:M),4) (Y F I H)=w8 at X B9 O9 T9 I9|-;have d6:=X.o.fn.choose_spec.1;have⟨f0,f1,f2,f3,f4,f5,f6⟩:=B9.o.k7;have lf:=Cz B9.o;have p0:=X.o.r.p.j0;have pf:=X.o.r.p.wV 0;have lp:=Cz X.o.r;have NP:=J λk s=>(X.o.yC k s).2;have h6:=O9.o.size;go_region_law(refine C7 Q _ _ 67 Q w 107 i0 (N' vC) 7 112 underlying67 hi g6 g7 g8 Q (by decide) _ _ _ Q (d6.alloc _) w8 1 1 (J5 ⟨p,q4,ro,y,[]⟩ (Y B E C) (Y F I H) DS).toList Q Q (C3 Q _ _) (pM _ _ _ _ _ _ _ _ _ _) (by decide) (by unfold E';omega) (by omega) (by simp;omega) ?_;intro v' w9 b9 a8 c9;have q1:w9 (w:M)=Y fa r fc:=(Ae<|a8.block w (by simp;omega) λh=>NP.o _ h.symm Q).trans (by rw[<-p0];exact Ae<|Ao _ _ _ lp);have qf:w9.frozen? w=zr:=(Aj<|a8.block w (by simp;omega) λh=>NP.o _ h.symm Q).trans (by rw[<-pf];exact Aj<|Ao _ _ _ lp);obtain⟨d9,e1,e0,rfl⟩:=CA b9);all_goals
    have c8:(w8.alloc<|R' (J5 ⟨p,q4,ro,y,[]⟩ (Y B E C) (Y F I H) DS) 107).drew.grownBy w9<|L'<|Y fa r fc:=a8;have f8:∀k,L' (Y d9 e1 e0)=T k->L' (Y fa r fc)=T k\/(w8:M)<=k:=λk s=>(c9 k s).imp id λq=>by simp at q;omega
    have FP:=Fq.push (f:=⟨p,q4,ro,y,[]⟩) X.o.fn (((CT _ w8).alloc _).drew) T9.o I9.o Q b9 c8;have PX:=J<|X.o.grow FP.1 FP.2 f8;have OX:=J<|(O.new O9.o FP.2 λk s=>(d6.lt k s).1).xB (b:=w) 0 (Y d9 e1 e0)<|Ad _;clear a8 c9 b9 c8 FP;go_wp2_with fail;refine⟨⟨x9,b4,r++[⟨p,q4,ro,y,[]⟩],_,_,_,m',PX,OX,a2.o.1,λe=>?_,?_,e4⟩,?_⟩;have:=a2.o.2.1 e;simp only[Ah,Az];omega;simp only[Ah,Az];omega;rw[LZ PX.o.rd,HM.o,Bb e3.o];have g1:=a2.o.2.2;have g2:=a2.o.2.1;have g3:=a2.o.1.1;split;rename_i e;have:=g2 e;omega;omega
 .have hv:V=(r,x,P):=by
   rw[<-HC.o];cases m with
   |zero=>rw[ER]
   |succ m=>rw[ER,Ba a4]
  subst hv
  have e7:(∃b:M,x.wY=b)\/(x.wY=Z/\((L r:zw)==0)=zr/\(((CI d x.b).h:zw) !=0)=zr):=by
   cases hx:x.wY with
   |some b=>exact zo ⟨b,Q⟩
   |none=>
    right;refine⟨Q,?_,?_⟩;cases r with
    |nil=>exact Bm ⟨hx,zo Q⟩ a4
    |cons a l=>simp;omega
    by_cases hq:(CI d x.b).h=0;simp[hq];exact Bm ⟨hx,zn hq⟩ a4
  clear HC a4
  rcases e7 with⟨b,K⟩|⟨K,h0,h1⟩
  have h4:zu ((b:zw)<0)=zr:=by simp
  all_goals
   rw[K]at r2;simp only[Ob]at r2;have e2:=J K;clear K;go_wp2_with fail;go_quiet(fail);go_wp2_with fail;go_quiet(fail);go_wp2;go_ret2;exact⟨_,_,_,by rw[e2.o];rfl,(t.o.t8 oq).r,(t.o.t8 oq).st,(t.o.t8 oq).fn,HO.o.xV oq⟩
theorem MH(s:Cd):∀(f i:M) (a l:DH),i<=s->Ex s f i a=.inr l->l+i<=a+s
 |0,i,a,l,c,h=>by grind[Ex]
 |f+1,i,a,l,c,h=>by
  simp only[Ex]at h;split at h
  .rename_i d;split at h
   .cases h
   .rename_i t j e;have b:=Lr d e;have:=MH s f j _ l b.2 h;grind
  grind
theorem GX.db{i d f}(h:GX i d f P y0)(o:J' P B q0 C V R y1)(s:MY i x4 P)(m:Fq d P f o0)(j:q0≠102)(l:q0≠107)(K:q0≠9):J' y0 B q0 C V R y1:=by
 apply CD o h;rintro k x F (q|q|⟨_,E,H,q⟩) g;subst q;have b:P.heap[k]? =_:=s;rw[g]at b;simp only[Ai,Aq]at b;exact j b.2.1;have⟨y,p,_⟩:=m;rcases p.2 with⟨t,_⟩|⟨I,u,z,r,_,a,_⟩
 rw[t]at q;simp[L']at q;rw[r]at q;simp[L']at q;subst q;rw[g]at a;simp only[Ai,Aq]at a;exact l a.2.1;grind
structure FR(d:M)(fs:C8)(i:M)(f:RF)(t:TF):Prop where
 I:f.I=CR t.I
 wZ:f.wZ=t.m.map CR
 body:Fv (Gs i d fs) f.body t.i
 y:f.y=[]
 cg:f.body.length<=4001
 bn:t.m+(t.i.map<|Fn d).sum<=4001
structure aW(d:M)(fns:Dd)(fs:C8)(tfs:Df):Prop where
 len:fns.length=tfs
 xE:fns.length<=4001
 bp:fs.length<=4001
 dm:∀u,u∈fs->u.k.length<=4001/\u.body.length<=4001/\u.other.length<=4001
 S:∀i (h:i<fns.length) (h':i<tfs.length),FR d fs i fns[i] tfs[i]
 dd:d<=8000
def FE(l:Dw)(x:Cc×CS):Cc×CS:=l.foldl (λx t=>(x.1++[t.a],Gw x.1 (CR t) x.2)) x
def J6(a:Dd)(i:M)(t:TF)(c:CS):CS:=
 if D9 (a.map λf=>f.I.a) t.I.a 0=i then(if 12<=i then Em 4 t.I.t9 c else c)else Em 5 t.I.t9 (if 12<=i then Em 4 t.I.t9 c else c)
def IA(a:Dd)(d i:M)(t:TF)(c:CS):Cc×CS:=L4 a d 1 t.i<|FE t.m ([],J6 a i t c)
def Ep(a:Dd)(d:M):Df->M->Dd×CS->Dd×CS
 |[],_,x=>x
 |t::l,i,x=>Ep a d l (i+1) (wv x.1 i (IA a d i t x.2).1,(IA a d i t x.2).2)
def Sj(a:Dd)(N:M)(c:CS):CS:=
 if 0<=D9 (a.map λf=>f.I.a) ⟨#[109,97,105,110]⟩ 0/\((a.map λf=>L f.wZ)[(D9 (a.map λf=>f.I.a) ⟨#[109,97,105,110]⟩ 0).toNat]?).getD 0=0 then c else Em 6 N c
theorem YE(b:Dd)(d:M)(a:Df)(i:M)(h:i<a)(x:Dd×CS):Ep b d (a.drop i) i x=Ep b d (a.drop<|i+1) (i+1) (wv x.1 i (IA b d i a[i] x.2).1,(IA b d i a[i] x.2).2):=by rw[Ap h];rfl
theorem Rv:∀(l:Dw) (x:Cc×CS),L (FE l x).1=x.1+l
 |[],x=>rfl
 |t::l,x=>by have:=Rv l (x.1++[t.a],Gw x.1 (CR t) x.2);grind[FE]
theorem YL(l:Dw)(k:M)(h:k<l)(x:Cc×CS):FE (l.drop k) x=FE (l.drop<|k+1) (x.1++[l[k].a],Gw x.1 (CR l[k]) x.2):=by grind[FE,List.drop_eq_getElem_cons]
structure Lc(fns0 fns:Dd)(i:M):Prop where
 len:fns.length=fns0.length
 eq:∀j (h:j<fns.length) (h':j<fns0.length),fns[j].I=fns0[j].I/\fns[j].wZ=fns0[j].wZ/\fns[j].body=fns0[j].body/\fns[j].br=fns0[j].br/\(i<=j->fns[j].y=fns0[j].y)
theorem Lc.wT{a}(h:Lc o0 a B):a.map (λf=>f.I.a)=o0.map (λf=>f.I.a):=by apply A5;simp[h.len];intro j b c;simp only[AT,(h.eq j (by grind)<|by grind).1]
theorem Lc.wZ{a}(h:Lc o0 a B):a.map (λf=>L f.wZ)=o0.map (λf=>L f.wZ):=by apply A5;simp[h.len];intro j b c;simp only[AT,(h.eq j (by grind)<|by grind).2.1]
theorem Lc.fun{a}(h:Lc o0 a B)(t m c):Il a t m c=Il o0 t m c:=by unfold Il;rw[h.wT,h.wZ]
theorem Lc.sec{a}(h:Lc o0 a B)(b s c):Ry a b s c=Ry o0 b s c:=by unfold Ry;simp only[h.fun]
theorem Lc.zF{b:Dd}(h:Lc o0 b B):∀(d a:M) (t:TS) (x:Cc×CS),Kr b d a t x=Kr o0 d a t x
 |0,_,_,x=>rfl
 |d+1,a,.mk s c,x=>by
  have e:(λ(x:Cc×CS) (t:TS)=>Go.Proofs.YtbkhmmeecjnnkaaGreatDoor.Kr b d (a+1) t x)=λx t=>Go.Proofs.YtbkhmmeecjnnkaaGreatDoor.Kr o0 d (a+1) t x:=by funext x t;exact h.zF d (a+1) t x
  simp only[Go.Proofs.YtbkhmmeecjnnkaaGreatDoor.Kr,e,Gk,h.sec]
theorem Lc.cz{b}(h:Lc o0 b B)(d a c x):L4 b d a c x=L4 o0 d a c x:=by
 have e:(λ(x:Cc×CS) (t:TS)=>Go.Proofs.YtbkhmmeecjnnkaaGreatDoor.Kr b d a t x)=λx t=>Go.Proofs.YtbkhmmeecjnnkaaGreatDoor.Kr o0 d a t x:=by funext x t;exact h.zF d a t x
 grind[Go.Proofs.YtbkhmmeecjnnkaaGreatDoor.L4]
theorem Lc.q{a}(h:Lc o0 a B)(d):Lc o0 (wv a B d)<|B+1:=by
 refine⟨by rw[Hc,h.len],λj f c=>?_⟩;have b:j<a:=by grind[Hc]
 have e:=h.eq j b c;grind[wv]
theorem qL(d:B<L o0)(h:o0[B].y=n0):wv o0 B n0=o0:=by subst h;apply A5;simp[wv];intro j b c;simp only[wv,List.getElem_modify];split;rename_i a;subst a;rfl;rfl
structure nG(pb wb B pl ca g n cap:M)(U:Ce)(tZ:DH)(fv sv:H')(fns:Dd)(fs:C8)(c:CS)(w w':I'):Prop where
 k:RK pb wb B pl ca U fv sv fns fs c w'
 tk:Dt g n cap tZ w'
 j:O Cb w w'
theorem nG.call{f b}(h:nG B C R X v0 p0 o1 s2 z1 f V z0 o0 x1 x4 P y0)(m:P<=R)(o:P<=C)(i:RK B C R X v0 z1 V z0 b x1 y9 v1)(a:GX C R V y0 v1):nG B C R X v0 p0 o1 s2 z1 f V z0 b x1 y9 P v1:=by refine⟨i,⟨a.db h.tk.1 h.k.wr h.k.fn nofun nofun nofun,h.tk.2⟩,?_⟩;refine⟨a.os.trans h.j.os,a.tape.trans h.j.tape,a.output.trans h.j.output,As h.j.size a.size,λk d l=>?_⟩;have e:=h.j.block k d l;rw[a.block k (Av d h.j.size) ?_,e];rintro(q|q|⟨q,_⟩);omega;have⟨_,j,_⟩:=h.k.fn;have:=(j.lt k q).1;omega;omega
theorem cI{w}(h:D5 B C z8 w)(a:Qh z8 R)(d:u0.size<=4000):
 (Instr.lookup 140 (.map<|T B) (Y' u0) zr).run zy w=.ok (G A (Fc z8 u0:M)) w:=by
 have⟨c,i,e,_⟩:=World.ownsMap.lookup_int h QZ underlying140 underlying3 (UT w)<|Nk d;have f:c=((Fc z8 u0:M):zw):=by
  cases b:Maps.has z8 (Eg u0)with
  |true=> have⟨j,_,g⟩:=a u0 b;grind[Fc]
  |false=> grind[atKey_of_not_has,Fc]
 grind
def Ye(F:Cm)(f:Df)(d b:M)(t:TF)(c:CS):CS:=
 let a:=if 12<=b then EU 4 t.I.t9 c else c
 let e:=if Fc F t.I.a=b then a else EU 5 t.I.t9 a
 (Xv F f d 1 (t.t9,t.i) (aA t.m (.map [],e))).2
structure fQ(b d:M)(U:Ce)(fs:H')(fns:Df)(stop:zw)(mf nf:M)(F:Cm)(mv:H')(fa:Cg)(w:I')(c:CS)(Wz:I'):Prop where
 xR:FJ b fs stop (.map<|T mf) mv c Wz
 yE:D5 mf nf F Wz
 rows:Gt d U Wz fs fns
 p:W w fa 151 Wz
 j:O (λk=>k=b) w Wz
theorem fQ.step(h:fQ B C z1 V y2 q8 R X z8 z0 q1 P x4 y0)(g:¬z1 B)(i:B<P)(e:FJ B V q8 (.map<|T R) z0 y9 v1)(a:O (λk=>k=B) y0 v1):fQ B C z1 V y2 q8 R X z8 z0 q1 P y9 v1:=
 ⟨e,h.yE.j a<|h.yE.ne h.xR,h.rows.j a λ_ f q=>g<|q▸f,W.j h.p a<|by omega,h.j.trans a⟩
theorem fQ.xD(h:fQ B C z1 V y2 q8 R X z8 z0 q1 P x4 y0)(a:O Cb y0 v1):fQ B C z1 V y2 q8 R X z8 z0 q1 P x4 v1:=
 ⟨W.j h.xR a id,h.yE.j a id,h.rows.j a Ed,W.j h.p a id,h.j.trans<|a.mono λ_ _ q=>q.elim⟩
theorem fQ.made(h:fQ B C z1 V y2 q8 R X z8 z0 q1 P x4 y0)(e:¬z1 B)(n:B<P)(j:∀k,z1 k->k<(P:M))(g:Qh z8 y2)(f:L y2<=4001):
 Ck B C z1 V y2 q8 R X y0 0 z8 (.map []) x4 ((y0.alloc<|.map #[] 0).setCell (B,3)<|.map<|T y0)/\W P q1 151 ((y0.alloc<|.map #[] 0).setCell (B,3)<|.map<|T y0)/\O (λk=>k=B) P ((y0.alloc<|.map #[] 0).setCell (B,3)<|.map<|T y0):=by
 have a:O (λk=>k=B) y0<|(y0.alloc<|.map #[] 0).setCell (B,3)<|.map y0:=((CT _ y0).alloc _).wS 3 _;have m:=h.j.size;have l:=World.ownsMap.lt h.yE;refine⟨⟨?_,?_,h.yE.j a<|h.yE.ne h.xR,h.rows.j a λ_ i q=>e<|q▸i,g,f,by omega,e,λq=>by grind⟩,W.j h.p a<|by omega,h.j.trans a⟩;have:=W.set (W.alloc h.xR<|.map #[] 0) 3<|.map y0;grind[FJ];have:=World.ownsMap_made (H:=Unit) y0 zy 9<|plainElem zy 3;exact D5.j this ((CT (λk=>k=B) _).wS 3 _)<|by omega
theorem gR(b d f:M)(U:Ce)(fs:H')(a:Df)(n:zw)(m I:M)(F:Cm)(c:CS)(H:H')(w:I')(hr:FJ b fs n (.map<|T m) H c w)(hm:D5 m I F w)(hp:Gt d U w fs a)(a8:Qh F a)(b6:L a<=4001)(ub:¬U b)(hU:∀k,U k->k<(w:M))(c4:f<a)
 (hO:∀t,t∈a[f].i->Sx d t)(c5:a[f].I.a.size<=4000)(c6:∀t,t∈a[f].m->t.a.size<=4000/\t.t9<=4000)(c0:a[f].m+(a[f].i.map<|Fn d).sum<=4000)(hd:1+d<=4001)(hl:L a[f].i<=4000):
 F' zy 90 #[Z' b,f] w λe w'=>e=P' #[]/\(∃m',FJ b fs n (.map<|T m) (.map<|T m') (Ye F a d f a[f] c) w')/\O (λk=>k=b) w w':=by
 have c3:=hp;have⟨d1,p1,_⟩:=c3;obtain⟨va,vl,vc,rfl⟩:=CA p1;obtain⟨g,rfl⟩:=CH p1 (by omega);cases CU p1;have lg:=(p1.lt g Q).2;have⟨av,sv,E,C,b8,b1⟩:=hp.get c4;obtain⟨y,z,rfl⟩:=CB C;have c8:=b1;have⟨d2,p2,_⟩:=c8;obtain⟨r,v,s,rfl⟩:=CA p2;have f0:=E 0 (by omega);have f1:=E 1 (by omega);have f2:=E 2 (by omega);have f3:=E 3 (by omega);have f4:=E 4 (by omega);simp only[Sk,Ac,Aa,Ab,Au]at f0 f1 f2 f3 f4;clear p1 p2 E;have r0:=W.z hr;have lb:=Cz hr;have d4:=@run_makeMap zy;generalize a[f]=t at*;have q0:=(CT Cb w).alloc<|R' #[t.I.a,t.I.t9,Y y t.m z,t.t9,Y r v s] 151;have F0:=show fQ b d U _ a n m I F H #[t.I.a,t.I.t9,Y y t.m z,t.t9,Y r v s] w c (w.alloc<|R' #[t.I.a,t.I.t9,Y y t.m z,t.t9,Y r v s] 151) from⟨W.j hr q0 id,hm.j q0 id,hp.j q0 Ed,W.new w _ _,q0.mono λ_ _ q=>q.elim⟩
 have HA:=C;clear hr hm hp C q0;go_in;go_upto_if 16 with fail;go_cut[] (λwx=>∃h,D ((if 12<=f then EU 4 t.I.t9 c else c)=h)/\fQ b d U (Y g a vc) a n m I F H #[t.I.a,t.I.t9,Y y t.m z,t.t9,Y r v s] w h wx)
 .by_cases a0:12<=f
  .have b7:(12:zw)<=(f:zw):=by omega
   have a4:=a0;clear a0;go_wp2_with(go_at_call 92;apply(EW b 4 t.I.t9 _ n (.map m) H c _ F0.xR).mono);rintro e b5 ⟨rfl,S,ow⟩;have o:=F0.step ub lb S ow;clear S ow;go_wp2_with fail;go_meet;exact⟨_,Bb a4,o⟩
  .have b7:¬(12:zw)<=(f:zw):=by omega
   have a4:=a0;clear a0;go_wp2_with fail;go_meet;exact⟨_,Ba a4,F0⟩
 have⟨h,E1,o⟩:=hcut;clear F0 r0 f0 f1 f2 f3 f4;have i0:=W.z o.p;have d0:=W.z o.xR;have lw:=o.j;have c9:=Cz o.p;have a5:=cI (w:=wc.drew) (o.yE.j ((CT Cb wc).drew) id) a8 c5;go_wp2;go_region;go_upto_if 31 with fail;go_cut[] (λwx=>∃B,D ((if Fc F t.I.a=f then h else EU 5 t.I.t9 h)=B)/\fQ b d U (Y g a vc) a n m I F H #[t.I.a,t.I.t9,Y y t.m z,t.t9,Y r v s] w B wx)
 .have l:=o.xD<|(CT Cb wc).drew;by_cases P:Fc F t.I.a=f
  .have a7:(((Fc F t.I.a:M):zw) !=(f:zw))=zr:=by simp[P]
   have HX:=J P;clear P a5;rw[a7];go_wp2_with fail;go_meet;exact⟨_,Bb HX.o,l⟩
  .have a7:=qO ((Fc F t.I.a:M):zw) f (by omega);have HX:=J P;clear P a5;rw[a7];go_wp2_with(go_at_call 92;apply(EW b 5 t.I.t9 _ n (.map m) H h _ l.xR).mono);rintro e b5 ⟨rfl,S,ow⟩;have FX:=l.step ub lb S ow;clear S ow;go_wp2_with fail;go_meet;exact⟨_,Ba HX.o,FX⟩
 have⟨B,E2,l⟩:=hcut;have⟨R,hR⟩:=Dv<|aA t.m (.map [],B);have HR:D<|(t.m.drop 0).foldl (λx t=>(Mo x.1 t,Jj x.1 t x.2)) (.map [],B)=R:=hR;have a9:Ye F a d f t c=(Xv F a d 1 (t.t9,t.i) R).2:=by unfold Ye;dsimp only;rw[E1.o,E2.o,hR]
 have b4:=J a9;clear a9 hR a5 o i0 d0 lw c9;generalize hV:wc=V at*;have b3:=W.j3 l.xR;have bf:=λi=>CZ l.xR i
 have lv:=l.j;have d6:=Cz l.p;have j0:=W.z l.p;have a3:=l.made ub lb hU a8 b6;obtain⟨KX,BX,OX⟩:=Dq a3.1 a3.2.1 a3.2.2;clear a3;have xq:∀i,(V.alloc<|.map #[] 0) (b,i)=V ⟨b,i,Z⟩:=λi=>Ae (w:=V)<|((CT Cb V).alloc<|.map #[] 0).block b (by omega) id
 have x3:=xq 3;rw[b3]at x3;have xf:=λi=>CZ (W.alloc l.xR<|.map #[] 0) i
 have z2:=W.z BX;clear xq;go_wp2;generalize (V.alloc<|.map #[] 0).setCell (b,3) (.map (V:M))=X at*;go_loopw[44] (λi wr=>∃(k:M) (p:Cm) (h:CS),k<=L t.m/\i=G A k/\Ck b d U (Y g a vc) a n m I V k F p h wr/\D (O (λk=>k=b\/k=(V:M)) w wr)/\W w #[t.I.a,t.I.t9,Y y t.m z,t.t9,Y r v s] 151 wr/\D ((t.m.drop k).foldl (λx t=>(Mo x.1 t,Jj x.1 t x.2)) (p,h)=R)) (λi _=>t.m-(zm i).toNat);exact⟨0,.map [],B,by omega,Q,KX,J<|OX.mono λ_ _ q=>zo q,BX,HR⟩;obtain⟨k,p,h,d3,rfl,k1,o1,x1,b2⟩:=hrel;clear KX OX BX HR;have C:∀j,U j->¬(j=b\/j=(V:M)):=λj hj q=>q.elim (λe=>ub<|e▸hj) (λe=>by have:=hU j hj;omega)
 have l0:=o1;by_cases hk:k<t.m
 .have N:=Cx HA o1 λj hj=>C j<|b8 j hj;obtain⟨ga,rfl⟩:=CH N (by omega);have d5:=(N.lt ga Q).2;have ha:=JN hk;have n0:=N.cellAt (k*2) (by omega);have n1:=N.cellAt (k*2+1) (by omega);rw[ha.1]at n0;rw[ha.2]at n1;have c7:=J<|Ky (λx t=>(Mo x.1 t,Jj x.1 t x.2)) t.m k hk (p,h);have b0:=c6 t.m[k]<|Am _;clear ha N;generalize t.m[k]=u at*;have K:=(CT Cb wr).alloc<|R' #[u.a,u.t9] 145;go_wp2_with(go_at_call 137;apply(OZ b _ n (.map m) V k p h u _ (k1.xD K).xR (k1.xD K).y b0.1 b0.2<|by omega).mono;rintro e w2 ⟨rfl,b9,a6,o2⟩);go_round;exact⟨k+1,_,_,by omega,by go_num,J<|(k1.xD K).zV b9 a6 o2,J<|o1.trans<|(K.mono λ_ _ q=>q.elim).trans o2,J<|W.j (W.j x1 K id) o2<|by omega,J<|c7.o.symm.trans b2.o⟩;simp[intOf];omega
 .have e:k=t.m:=by omega
  subst e;have a6:(p,h)=R:=by have:=b2.o;simpa using this
  subst a6;have y3:=W.z x1;go_wp2_with(go_at_call 138;apply(Qr d (SQ d) b d 1 t.t9 U _ a n m I V t.m F p h t.i (Y r v s) _ k1 (Gq.j b1 o1 C) hO c0 hd hl).mono);rintro e w2 ⟨rfl,⟨n2,_,k2⟩,o2⟩;go_wp2;go_end0;exact⟨Q,⟨V,by rw[b4.o];exact k2.xR⟩,(o1.trans o2).mono λ_ _ q=>q.elim (λe=>e) λe=>by omega⟩
theorem Ln(s):WideAt.IsKeyLit<|Eg s:=by grind[Eg,WideAt.IsKeyLit]
theorem Nj{b}(h:Eg u0=Eg b):u0=b:=by grind[Eg,ByteArray.ext,Array.toList_inj]
theorem Om(N):∀(l:Df) (k:M) (a:Cm),IsMap a->k+l<=N->(∀s,has a (Eg s)=zt->∃j:M,j<N/\a.atKey (Eg s) (.lit<|.int .i64 0)=.lit (.int .i64 j))->∀s,has (El l k a) (Eg s)=zt->∃j:M,j<N/\(El l k a).atKey (Eg s) (.lit<|.int .i64 0)=.lit (.int .i64 j)
 |[],_,_,_,_,h=>h
 |t::l,k,a,c,f,h=>by
  rw[El];simp only[Af]at f;by_cases d:has a (Eg t.I.a)=zt
  .rw[Bb d];exact Om N l (k+1) a c (by omega) h
  .rw[Ba d];refine Om N l (k+1) _ (c.put _ _) (by omega) λs e=>?_;by_cases b:Eg s=Eg t.I.a
   .exact⟨k,by omega,by rw[b];exact atKey_put_same c (Ln _) _ _⟩
   .rw[has_put_other b]at e;rw[atKey_put_other b];exact h s e
theorem iD(a):Qh (El a 0<|.map []) a:=λs b=>Om a a 0 _ isMap_empty (by omega) (λs b=>by grind[has_eq]) s b
def PD(F:Cm)(a:Df)(d:M):Df->M->CS->CS
 |[],_,c=>c
 |t::l,i,c=>PD F a d l (i+1)<|Ye F a d i t c
theorem bD(F:Cm)(a:Df)(d:M)(l:Df)(i:M)(h:i<l)(c:CS):PD F a d (l.drop i) i c=PD F a d (l.drop<|i+1) (i+1) (Ye F a d i l[i] c):=by rw[Ap h];rfl
def Od(a:Df)(d b:M):CS:=
 if (has (El a 0<|.map []) (Eg ⟨#[109,97,105,110]⟩) && OC a (Fc (El a 0<|.map []) ⟨#[109,97,105,110]⟩)==0)=zt then PD (El a 0<|.map []) a d a 0 ⟨0,0⟩
 else EU 6 b (PD (El a 0<|.map []) a d a 0 ⟨0,0⟩)
structure bB(d:M)(fns:Df):Prop where
 xE:fns.length<=4000
 dd:1+d<=4001
 each:∀t,t∈fns->t.I.a.size<=4000/\(∀s,s∈t.i->Sx d s)/\(∀p,p∈t.m->p.a.size<=4000/\p.t9<=4000)/\t.m+(t.i.map<|Fn d).sum<=4000/\t.i.length<=4000
abbrev uH:Cg:=#[Y Z 0 0,G A 0,.map Z,.map Z,G A 0,G A 0]
theorem SK(d:M)(U:Ce)(fs:H')(a:Df)(f:M)(w:I')(hp:Gt d U w fs a)(hU:∀k,U k->k<(w:M))(N:bB d a):
 F' zy 51 #[N' #[fs,f]] w λe w'=>e=P' #[(Od a d f).E,(Od a d f).t9]/\O Cb w w':=by
 have c6:=hp;have⟨c9,p1,_⟩:=c6;obtain⟨h,l,rfl⟩:=CB p1;have hk:=N.xE;have a2:=iD a;have⟨F,hF⟩:=Dv<|El a 0<|.map [];rw[hF]at a2;have hV:Od a d f=(if (has F (Eg ⟨#[109,97,105,110]⟩) && OC a (Fc F ⟨#[109,97,105,110]⟩)==0)=zt then PD F a d a 0 ⟨0,0⟩else EU 6 f (PD F a d a 0 ⟨0,0⟩)):=by unfold Od;rw[hF]
 rw[hV];have⟨C,hC⟩:=Dv<|PD F a d a 0 ⟨0,0⟩;rw[hC];have a7:D<|PD F a d (a.drop 0) 0 ⟨0,0⟩=C:=hC;have⟨V,a1⟩:=Dv<|(if (has F (Eg ⟨#[109,97,105,110]⟩) && OC a (Fc F ⟨#[109,97,105,110]⟩)==0)=zt then C else EU 6 f C);rw[a1];have a9:=J a1;clear a1;have HP:=J hp;have HY:=J N;have HL:D (∀t,t∈a->t.I.a.size<=4000):=λt ht=>(N.each t ht).1
 obtain⟨a8,R,b7⟩:=Dq hU a2 hF;have b6:D<|W ((w:M)+1) uH 202<|(w.alloc<|R' #[Y h a l,f] 81).alloc<|R' uH 202:=by have:=W.new (w.alloc<|R' #[Y h a l,f] 81) uH 202;exact J<|by simpa using this
 have a6:D<|W w #[Y h a l,f] 81<|w.alloc<|R' #[Y h a l,f] 81:=W.new _ _ _;have b5:D<|W w #[Y h a l,f] 81<|(w.alloc<|R' #[Y h a l,f] 81).alloc<|R' uH 202:=a6.o.alloc _;have c0:D<|O Cb w (w.alloc<|R' #[Y h a l,f] 81).drew:=((CT _ w).alloc _).drew;have c1:D<|O Cb w ((w.alloc<|R' #[Y h a l,f] 81).alloc<|R' uH 202).drew:=(((CT _ w).alloc _).alloc _).drew;clear hp p1 N hV hC a2 hU hF;go_in;go_wp2_with fail;go_cut[4] (λv P=>∃b m,v=Z' (T ⟨b,0,Z⟩)/\(w:M)<=b/\b≠(w:M)/\FJ b (Y h (L a) l) f (.map<|T m) (.map Z) ⟨0,0⟩ P/\D5 m a F P/\W w #[Y h a l,f] 81 P/\O Cb w P)
 .go_region_with(go_at_call 89;apply(ME d U _ a f _ (HP.o.j (X:=Cb) oq Ed) HL.o hk).mono;rw[b7.o];rintro e n ⟨m,rfl,hM,b3,g⟩;have I:W w #[Y h a l,f] 81 n:=(by first|exact W.j (X:=Cb) (W.j (X:=Cb) a6.o ((CT Cb _).drew) id) g id|exact W.j (X:=Cb) (W.j (X:=Cb) b5.o ((CT Cb _).drew) id) g id);have y0:=I.z;have yl:=Cz I;first|(have o:=W.j (X:=Cb) (W.j (X:=Cb) b6.o ((CT Cb _).drew) id) g id;have z0:=o.z;have zf:=o.wV;have zl:=Cz o)|skip);all_goals
   have c7:=g.size;simp at c7;go_wp2_with fail;go_meet;first
   |(have d1:=o
     have hO:=c1.o.xV g
     have hS:O (λk=>k=(w:M)+1) n<|(((((n.setCell ⟨(w:M)+1,0,Z⟩<|Y h a l).setCell ((w:M)+1,1) f).setCell ((w:M)+1,2)<|.map m).setCell ((w:M)+1,3)<|.map Z).setCell ((w:M)+1,4)<|G A 0).setCell ⟨(w:M)+1,5,Z⟩<|G A 0:=(((((((CT _ n).wS 0 _).wS 1 _).wS 2 _).wS 3 _).wS 4 _).wS 5 _)
     have hB:=((((((o.set 0<|Y h a l).set 1 f).set 2<|.map m).set 3<|.map Z).set 4<|G A 0).set 5<|G A 0)
     exact⟨(w:M)+1,m,Q,by omega,by omega,hB,b3.j hS<|by simp at hM;omega,I.j hS<|by omega,((hO.mono λ_ _ q=>q.elim).trans hS).mono λj hj q=>by omega⟩)
   |(have hO:=c0.o.xV g
     exact⟨(n:M),m,Q,by omega,by omega,W.new n _ _,b3.j ((CT Cb n).alloc _) id,I.alloc _,hO.alloc _⟩)
 obtain⟨b,m,rfl,d0,c5,b0,hm,o,ho⟩:=hcut;have y0:=o.z;have yl:=Cz o;have UB:D<|¬U b:=λq=>by have:=a8.o b q;omega
 obtain⟨K0,M0,X0,O0⟩:=F8 b0 hm o ho;clear b0 hm o ho;go_wp2;go_loopw[13] (λi wr=>∃(k:M) (c:CS) (x:H'),k<=a/\i=G A k/\D (FJ b (Y h a l) f (.map m) x c wr)/\D (D5 m a F wr)/\D (W w #[Y h a l,f] 81 wr)/\D (O Cb w wr)/\D (PD F a d (a.drop k) k c=C)) (λi _=>a-(zm i).toNat);exact⟨0,_,_,by omega,Q,K0,M0,X0,O0,a7⟩;clear K0 M0 X0 O0 a7 y0 yl;obtain⟨k,c,x,d2,rfl,r,s,E,u,H⟩:=hrel;have a0:D<|Gt d U wr (Y h a l) a:=HP.o.j u.o Ed;have c3:D (∀k,U k->k<(wr:M)):=λk hk=>Av (a8.o k hk) u.o.size
 by_cases b2:k<a
 .have a4:=bD F a d a k b2 c;rw[H.o]at a4;have c2:=J a4;have he:=HY.o.each a[k]<|Am _;have y:=J he;clear a4 H he;go_wp2_with fail;apply(gR b d k U _ a f m a F c x wr r.o s.o a0.o R.o (by omega) UB.o c3.o b2 y.o.2.1 y.o.1 y.o.2.2.1 y.o.2.2.2.1 HY.o.dd y.o.2.2.2.2).mono;rintro e n ⟨rfl,⟨m',b1⟩,g⟩;obtain⟨S,b8,c4⟩:=Dq b1 (s.o.j g<|s.o.ne r.o)<|E.o.j g λq=>c5 q.symm;have B:D<|O Cb w n:=((u.o.mono λ_ _ q=>q.elim).trans g).mono (λj hj q=>by omega);clear b1 g r s E u;go_wp2_with fail;exact⟨⟨k+1,_,_,by omega,by go_num,S,b8,c4,B,c2.o.symm⟩,by simp[intOf];omega⟩
 .have e:k=a:=by omega
  have c8:C=c:=by have:=H.o;rw[e,Bj]at this;exact this.symm
  subst c8;have d3:=Hz (p:=(k:zw)<a) (by omega);clear H;cases K:(has F (Eg ⟨#[109,97,105,110]⟩) && OC a (Fc F ⟨#[109,97,105,110]⟩)==0)with
  |true=>
   have z:=J K;clear K;go_wp2_with fail;apply(Pd b d U _ a f x m a F C wr r.o s.o a0.o R.o<|by omega).mono;rw[z.o];rintro e n ⟨rfl,g⟩;have r4:=(W.j r.o g id).z;have lb:=Cz<|W.j r.o g id;have B:=J<|u.o.xV g;clear g;go_wp2_with fail;go_region;go_wp2;go_ret2;have a5:V=C:=by rw[<-a9.o,Bb z.o]
   rw[a5];exact⟨Q,B.o.drew⟩
  |false=>
   have z:=J K;clear K;go_wp2_with fail;apply(Pd b d U _ a f x m a F C wr r.o s.o a0.o R.o<|by omega).mono;rw[z.o];rintro e n ⟨rfl,g⟩;have S:=J<|W.j r.o g id;have x1:=(W.j E.o g id).z;have xl:=Cz<|W.j E.o g id;have B:=J<|u.o.xV g;clear g r s E u;go_wp2_with fail;apply(EW b 6 f _ f (.map m) x C n S.o).mono;rintro e w3 ⟨rfl,a3,b4⟩;have r4:=W.z a3;have lb:=Cz a3;have b9:D<|O Cb w w3:=((B.o.mono λ_ _ q=>q.elim).trans b4).mono (λj hj q=>by omega);clear b4 a3 x1 xl;go_wp2_with fail;go_region;go_wp2;go_ret2;have a5:V=EU 6 f C:=by rw[<-a9.o,Ba<|by rw[z.o];decide]
   rw[a5];exact⟨Q,b9.o.drew⟩
theorem Gp.each{R:M->M->z9->Prop}{l}(h:Gp R B C l):∀a,a∈l->∃p q,R p q a:=by
 induction h with
 |nil _=>intro a b;cases b
 |cons h _ c=>
  intro a b;rcases AY.1 b with rfl|b
  exact⟨_,_,h⟩;exact c a b
theorem M5{R:M->M->z9->Prop}{f:z9->M}(k:∀B C a,R B C a->f a+B<=C){l}(h:Gp R B C l):(l.map f).sum+B<=C:=by
 induction h with
 |nil h=>simpa using h
 |cons h _ b=>have:=k _ _ _ h;simp only[AH,AQ];omega
theorem EN.bn{e:Dw}:∀{d i j:M} {t:TS},EN e d i j t->Fn d t+i<=j
 |0,_,_,_,h=>h.elim
 |d+1,i,j,.mk s f,h=>by
  obtain⟨g,k,l⟩:=h;have C:∀a b c,Gp (EN e d) a b c->(c.map<|Fn d).sum+a<=b:=λa b c r=>M5 (λ_ _ _ q=>q.bn) r
  grind[Fn]
theorem EN.tok{o:Dw}(w:L o<=4001):∀{d i j:M} {t:TS},EN o d i j t->Sx d t
 |0,_,_,_,h=>h.elim
 |d+1,i,j,.mk s B,h=>by
  obtain⟨E,F,u⟩:=h;have V:∀k,tK<|IM k:=λk=>⟨Ar _,Ar _,Ar _,by simp[IM],Ar _⟩
  have C:∀a b l,b<j->Gp (EN o d) (a+1) b l->L l<=4000/\∀t,t∈l->Sx d t:=λa b l H r=> ⟨by have:=r.le λ_ _ _ q=>q.lt;omega,λt y=>have⟨p,q,v⟩:=r.each t y;v.tok w⟩
  rcases u with⟨rfl,I,z,_⟩|⟨k,l,m,rfl,n,c,e,f⟩|⟨k,l,m,K,P,N,rfl,n,c,e,f,g,h⟩
  .exact⟨z,by omega,by simp,by simp⟩
  .refine⟨by grind,by rcases n with rfl|rfl<;>decide,by simp,λq x=>?_⟩;grind
  .have:=g.le λ_ _ _ q=>q.lt;refine⟨by grind,by subst n;decide,by simp,λq x=>?_⟩;grind
theorem EN.bh{l:Dw}:∀{e i j:M} {t:TS} {d:M} {U:Ce} {w:I'} {c:Ci},EN l e i j t->EG d U w t c->EG e U w t c
 |0,_,_,_,_,_,_,_,h,_=>h.elim
 |e+1,i,j,.mk s a,0,U,w,c,_,h=>h.elim
 |e+1,i,j,.mk s a,d+1,U,w,c,V,h=>by
  obtain⟨n,u,o,H,I,K,N,P,R,S⟩:=h;refine⟨n,u,o,H,I,K,N,P,R,λk g a0=>?_⟩;obtain⟨sv,v,x,y,z,B,C⟩:=S k g a0;refine⟨sv,v,x,y,z,B,λm E F=>?_⟩;have f:a[k].2[m]∈a[k].2:=Am _;obtain⟨p,q,X⟩:∃p q,EN l e p q a[k].2[m]:=by
   obtain⟨_,_,x3⟩:=V;rcases x3 with⟨rfl,_⟩|⟨k1,ts,m1,rfl,_,_,r,_⟩|⟨k1,ts,m1,k2,a1,m2,rfl,_,_,r,_,r2,_⟩
   .simp at g
   .have b:k=0:=by grind
    subst b;exact r.each _ f
   .have b:k=0\/k=1:=by grind
    rcases b with rfl|rfl
    .exact r.each _ f
    .exact r2.each _ f
  exact X.bh<|C m E F
theorem EN.flat{F:Dw}:∀{e i j:M} {t:TS} {d:M} {n:C8} {k:M},EN F e i j t->Gs B d n k t->Gs B e n k t
 |0,_,_,_,_,_,_,h,_=>h.elim
 |e+1,i,j,.mk s K,0,n,k,_,h=>h.elim
 |e+1,i,j,.mk s K,d+1,n,k,U,h=>by
  obtain⟨u,S,h⟩:=h;refine⟨u,S,?_⟩;have N:∀p g,(p,g)∈K->∀t,t∈g->∃a b,EN F e a b t:=by
   intro p g c t f;obtain⟨_,_,x3⟩:=U;rcases x3 with⟨rfl,_⟩|⟨k1,a0,m1,rfl,_,_,r,_⟩|⟨k1,a0,m1,k2,H,m2,rfl,_,_,r,_,r2,_⟩
   .cases c
   .simp only[AY,AE,or_false,AU]at c;rw[c.2]at f;exact r.each t f
   .simp only[AY,AE,or_false,AU]at c;rcases c with c|c
    .rw[c.2]at f;exact r.each t f
    .rw[c.2]at f;exact r2.each t f
  have I:∀(l:Cf) (m:Dj),(∀t,t∈m->∃a b,EN F e a b t)->Fv (λj t=>k<j/\Gs B d n j t) l m->Fv (λj t=>k<j/\Gs B e n j t) l m:=by
   intro l m P q;induction q with
   |nil=>exact .nil
   |cons h _ X=> obtain⟨a,b,V⟩:=P _<|A9 ..;exact .cons ⟨h.1,V.flat h.2⟩<|X λt f=>P t<|Ax _ f
  rcases h with h|⟨p,g,o,v,w,x,y,z,C,E⟩|⟨p,g,o,v,w,x,y,z,C,E⟩|⟨p,g,R,H,o,v,w,x,y,z,C,E⟩
  .exact zo h
  .grind
  .grind
  .exact zn<|zn<|zn ⟨p,g,R,H,o,v,w,x,y,z,I _ _ (N p g<|by rw[o];simp) C,I _ _ (N R H<|by rw[o];simp) E⟩
structure Lk(F:Cm)(fns:Df)(fns0:Dd):Prop where
 nm:∀s,has F (Eg s)=zt↔0<=D9 (fns0.map λf=>f.I.a) s 0
 ar:∀s,0<=D9 (fns0.map λf=>f.I.a) s 0->OC fns (Fc F s)=((fns0.map λf=>f.wZ.length)[(D9 (fns0.map λf=>f.I.a) s 0).toNat]?).getD 0
def Hi(lo:M)(D:Cm)(c:CS)(vs:Cc)(a:CS):Prop:=
 c=a/\((c.E=0/\Tidy D/\(∀s,has D (Eg s)=zt↔s∈vs)/\size D=vs)\/(c.E≠0/\c.t9<lo))
theorem Hi.mono{b a d}(h:Hi b a x4 d y9)(e:b<=B):Hi B a x4 d y9:=
 ⟨h.1,h.2.imp id λq=>⟨q.1,by omega⟩⟩
theorem Hi.yM{lo e D vs}(h:Hi lo D x4 vs y9)(k:lo<=B)(g:e≠0)(f i):Hi (B+1) f (EU e B x4) i<|Em e B y9:=by
 obtain⟨rfl,h⟩:=h;rcases h with⟨d,_⟩|⟨d,j⟩
 have a:EU e B x4=⟨e,B⟩:=by grind[EU]
 have b:Em e B x4=⟨e,B⟩:=by grind[Em]
 rw[a,b];exact⟨Q,zn ⟨g,by simp⟩⟩;have a:EU e B x4=x4:=by grind[EU]
 have b:Em e B x4=x4:=by grind[Em]
 rw[a,b];exact⟨Q,zn ⟨d,by omega⟩⟩
theorem Hi.wY{a b d}(h:Hi a b x4 d y9)(g:a<=B)(f:x4.E≠0)(e):EU e B x4=x4/\Em e B y9=x4:=by obtain⟨rfl,h⟩:=h;grind[EU,Em]
theorem Hi.I{k a d}(h:Hi k a x4 d y9)(t)(j:k<=t.t9):Hi (t.t9+1) a (Fj a t x4) d<|GS d (CR t) y9:=by
 by_cases l:x4.E=0;rcases h.2 with⟨_,_,i,_⟩|⟨q,_⟩
 have g:=(Et d t.a 0).1;unfold Fj GS;have e:(CR t).a=t.a:=Q;rw[e];by_cases f:has a (Eg t.a)=zt;rw[Bb f,Bb<|g.2<|(i _).1 f];exact h.mono (by omega);rw[Ba f,Ba λq=>f<|(i _).2<|g.1 q];exact h.yM j (by decide) _ _;omega;have b:=h.wY j l 6;have m:Fj a t x4=x4:=by grind[Fj]
 have n:GS d (CR t) y9=x4:=by unfold GS;split;exact h.1.symm;exact b.2
 rw[m,n];rcases h.2 with⟨q,_⟩|q
 omega;exact⟨Q,zn ⟨q.1,by omega⟩⟩
theorem Hi.decl{i b a}(h:Hi i b x4 a y9)(t)(l:i<=t.t9):Hi (t.t9+1) (Mo b t) (Jj b t x4) (a++[t.a])<|Gw a (CR t) y9:=by
 by_cases d:x4.E=0;obtain⟨rfl,j⟩:=h;rcases j with⟨_,m,k,o⟩|⟨q,_⟩
 have n:=(Et a t.a 0).1;unfold Jj Gw;simp only;rw[o];have e:(CR t).a=t.a:=Q;have w:(CR t).pos=t.t9:=Q;rw[e,w];by_cases f:12<=L a;have p:EU 4 t.t9 x4=⟨4,t.t9⟩:=by simp[EU,d]
 have r:Em 4 t.t9 x4=⟨4,t.t9⟩:=by grind[Em]
 rw[Bb f,Bb f,p,r];have u:EU 5 t.t9 ⟨4,t.t9⟩=⟨4,t.t9⟩:=by simp[EU]
 have v:Em 5 t.t9 ⟨4,t.t9⟩=⟨4,t.t9⟩:=by simp[Em]
 rw[u,v];refine⟨?_,zn ?_⟩;simp;simp;rw[Ba f,Ba f];by_cases g:has b (Eg t.a)=zt;rw[Bb g,Bb<|n.2<|(k _).1 g];exact Hi.yM (lo:=i) (D:=b) (vs:=a) ⟨Q,zo ⟨d,m,k,o⟩⟩ l (by decide) _ _;rw[Ba g,Ba λq=>g<|(k _).2<|n.1 q];refine⟨Q,zo ⟨d,m.put (Ln _) _,λs=>?_,?_⟩⟩;unfold Mo;by_cases y:Eg s=Eg t.a;have:=Nj y;subst this;rw[has_put_same (Tidy.isMap m)<|Ln _];simp;grind[has_put_other];grind[Mo,size_put];omega;have z:=h.wY l d 4;have B:=h.wY l d 5;have x:Jj b t x4=x4:=by grind[Jj]
 have j:Gw a (CR t) y9=x4:=by have e:=h.1;grind[Gw,CR]
 rw[x,j];rcases h.2 with⟨q,_⟩|q
 omega;exact⟨Q,zn ⟨q.1,by omega⟩⟩
theorem Hi.fun(g:Lk z8 y2 o0){e:M}{b:Cm}{f:Cc}(h:Hi e b x4 f y9)(t)(i:e<=t.t9):Hi (t.t9+1) b (Fj z8 t x4) f<|Il o0 (CR t) (-1) y9:=by have d:=g.nm t.a;unfold Fj Il;rw[show(CR t).a=t.a from Q,show(CR t).pos=t.t9 from Q];by_cases a:has z8 (Eg t.a)=zt;rw[Bb a,Bb<|d.1 a,Ba<|by omega];exact h.mono (by omega);rw[Ba a,Ba λq=>a<|d.2 q];exact h.yM i (by decide) _ _
theorem Hi.called(g:Lk z8 y2 o0){k:M}{e:Cm}{l:Cc}(h:Hi k e x4 l y9)(t a)(j:k<=t.t9):Hi (t.t9+1) e (Iu z8 y2 t a x4) l<|Il o0 (CR t) a y9:=by have d:=g.nm t.a;unfold Iu Il;rw[show(CR t).a=t.a from Q,show(CR t).pos=t.t9 from Q];by_cases b:has z8 (Eg t.a)=zt;rw[Bb b,Bb<|d.1 b,g.ar _<|d.1 b];by_cases i:((o0.map λf=>L f.wZ)[(D9 (o0.map λf=>f.I.a) t.a 0).toNat]?).getD 0=a;rw[Bb i,Ba<|by omega];exact h.mono (by omega);rw[Ba i,Bb ⟨by omega,by omega⟩];exact h.yM j (by decide) _ _;rw[Ba b,Ba λq=>b<|d.2 q];exact h.yM j (by decide) _ _
section
variable{N:M}{f:Dw}(H:Ig N f)
include H
theorem Wt{p q:M}(h:p<q)(a:q<f):(CJ f p).t9<(CJ f q).t9:=by have:=List.pairwise_iff_getElem.1 H.yY p q (by omega) a h;grind[CJ]
theorem GC{p q:M}(h:p<=q)(a:q<f):(CJ f p).t9<=(CJ f q).t9:=by grind[Nat.lt_or_ge,Nat.le_of_lt,Wt]
theorem Hi.to{i p j:M}{a b:Cm}{c d:CS}{m q:Cc}{e k:CS}(h:Hi (CJ f i).t9 a c m e)(t:∀l,Hi l a c m e->l<=(CJ f p).t9->Hi ((CJ f p).t9+1) b d q k)(r:i<=p)(u:p+1<=j)(s:j<f):Hi (CJ f j).t9 b d q k:=
 (t _ h (GC H r<|by omega)).mono (Wt H (by omega) s)
theorem Hi.k{e:Cm}{l:Cc}:∀(b:Cf) {i j:M} {c d:CS},Hi (CJ f i).t9 e c l d->Sa i j b->j<f->Hi (CJ f j).t9 e (J2 e (b.map<|CJ f) c) l (((b.map<|CJ f).map CR).foldl (λc t=>GS l t c) d)
 |[],i,j,c,d,h,a,k=>h.mono<|GC H a k
 |p::b,i,j,c,d,h,a,k=>by have s:=a.2.le;have m:=h.to H (p:=p) (j:=p+1) (λu q r=>q.I (CJ f p) r) a.1 (Ad _) (by omega);exact Hi.k b m a.2 k
variable{F:Cm}{n:Df}{g:Dd}(o:Lk F n g)
include o
theorem Hi.plain{s:VS}{E:Cf}{i j:M}(hk:s.e<=10)(a0:s.e≠7->s.e≠8->s.k=[])(C:rC s=E.map (CJ f))(d:Sa i j E)(K:j<f){N:Cm}{c:CS}{vs:Cc}{S:CS}(h:Hi (CJ f i).t9 N c vs S):
 Hi (CJ f j).t9 (Jv F n s (N,c)).1 (Jv F n s (N,c)).2 (Gk g s (vs,S)).1 (Gk g s (vs,S)).2:=by
 have⟨m,v,y,a6,R⟩:=s;simp only at hk a0 C|-;have a4:∀t:PT,[t]=E.map (CJ f)->∃p,E=[p]/\t=CJ f p:=by
  intro t e;rcases E with _|⟨p,_|⟨q,r⟩⟩
  simp at e;simp only[AH,List.map_nil,List.cons.injEq,and_true]at e;exact⟨p,Q,e⟩;simp at e
 have a5:∀(t u:PT) (l:Dw),t::u::l=E.map (CJ f)->∃p q r,E=p::q::r/\t=CJ f p/\u=CJ f q/\l=r.map (CJ f):=by
  intro t u l e;rcases E with _|⟨p,_|⟨q,r⟩⟩
  simp at e;simp at e;simp only[AH,List.cons.injEq]at e;exact⟨p,q,r,Q,e.1,e.2.1,e.2.2⟩
 unfold rC at C;simp only at C;have T2:∀(t u:PT),(m≠0/\m≠1/\m≠10/\m≠7/\m≠8)->∃p q,E=[p,q]/\v=CJ f p/\y=CJ f q:=by
  intro t u P;rw[Ba<|by omega,Ba<|by omega,Ba<|by omega]at C;have⟨p,q,r,I,U,V,e4⟩:=a5 v y [] C;have:r=[]:=by cases r with|nil=>rfl|cons a b=>simp at e4
  grind
 have X:(m≠0/\m≠1/\m≠10/\m≠7/\m≠8/\m≠4)->Hi (CJ f j).t9 N (Fj N y<|Fj N v c) (Gk g ⟨m,v,y,a6,R⟩ (vs,S)).1 (Gk g ⟨m,v,y,a6,R⟩ (vs,S)).2:=by intro P;have⟨p,q,I,U,V⟩:=T2 v y ⟨P.1,P.2.1,P.2.2.1,P.2.2.2.1,P.2.2.2.2.1⟩;subst I;have hz:=a0 (by omega) (by omega);subst hz;have a1:=d.1;have a2:=d.2.1;have B:q+1<=j:=d.2.2;have x:=h.to H (p:=p) (j:=p+1) (λw z k=>z.I (CJ f p) k) a1 (Ad _) (by omega);have s2:=x.to H (p:=q) (j:=j) (λw z k=>z.I (CJ f q) k) a2 B K;grind[Gk,Ry]
 rcases m with _|_|_|_|_|_|_|_|_|_|_|m
 obtain⟨p,rfl,e⟩:=a4 v (by grind);have B:p+1<=j:=d.2;simp only[Jv,Gk,BD];rw[e];exact h.to H (p:=p) (λw z k=>z.decl (CJ f p) k) d.1 B K;obtain⟨p,rfl,e⟩:=a4 v (by grind);have B:p+1<=j:=d.2;simp only[Jv,Gk,Ry];rw[e];exact h.to H (p:=p) (λw z k=>z.I (CJ f p) k) d.1 B K;exact X (by omega);exact X (by omega);have⟨p,q,I,U,V⟩:=T2 v y (by omega);subst I;have hz:=a0 (by omega) (by omega);subst hz;have B:q+1<=j:=d.2.2;have x:=h.to H (p:=p) (j:=p+1) (λw z k=>z.I (CJ f p) k) d.1 (Ad _) (by have:=d.2.1;omega);have s2:=x.to H (p:=q) (j:=j) (λw z k=>z.fun o (CJ f q) k) d.2.1 B K;grind[Jv,Gk,Ry];exact X (by omega);exact X (by omega);rw[Ba<|by omega,Ba<|by omega,Bb<|by omega]at C;have⟨p,q,r,I,U,V,e4⟩:=a5 v y R C;subst I;have hl:=d.2.2.le;have x:=h.to H (p:=p) (j:=p+1) (λw z k=>z.I (CJ f p) k) d.1 (Ad _) (by have:=d.2.1;omega);have s2:=x.to H (p:=q) (j:=q+1) (λw z k=>z.called o (CJ f q) R k) d.2.1 (Ad _) (by omega);have s3:=Hi.k H r s2 d.2.2 K;grind[Jv,Gk,Ry];rw[Ba<|by omega,Ba<|by omega,Bb<|by omega]at C;have⟨p,q,r,I,U,V,e4⟩:=a5 v y R C;subst I;have hl:=d.2.2.le;have x:=h.to H (p:=p) (j:=p+1) (λw z k=>z.I (CJ f p) k) d.1 (Ad _) (by have:=d.2.1;omega);have s2:=x.to H (p:=q) (j:=q+1) (λw z k=>z.I (CJ f q) k) d.2.1 (Ad _) (by omega);have s3:=Hi.k H r s2 d.2.2 K;rw[<-e4,<-U,<-V]at s3;exact s3;exact X (by omega);obtain⟨p,rfl,e⟩:=a4 y (by grind);have B:p+1<=j:=d.2;have x:=h.to H (p:=p) (λw z k=>z.I (CJ f p) k) d.1 B K;rw[<-e]at x;exact x;omega
theorem Hi.stmt:∀{d i j:M} {t:TS},EN f d i j t->∀(c:M) (x:Cm×CS) (y:Cc×CS),Hi (CJ f i).t9 x.1 x.2 y.1 y.2->Hi (CJ f j).t9 (Qv F n d c t x).1 (Qv F n d c t x).2 (Kr g d c t y).1 (Kr g d c t y).2
 |0,_,_,_,h=>h.elim
 |d+1,i,j,.mk s bl,X=>by
  intro c x y h;obtain⟨h1,I,V⟩:=X;have C:∀(a b:M) (e:Dj),b<f->Gp (EN f d) a b e->∀(x:Cm×CS) (y:Cc×CS),Hi (CJ f a).t9 x.1 x.2 y.1 y.2->Hi (CJ f b).t9 (e.foldl (λx t=>Qv F n d (c+1) t x) x).1 (e.foldl (λx t=>Qv F n d (c+1) t x) x).2 (e.foldl (λx t=>Kr g d (c+1) t x) y).1 (e.foldl (λx t=>Kr g d (c+1) t x) y).2:=by
   intro a b e K r;induction r with
   |nil h=>intro x y l;exact l.mono<|GC H h K
   |cons h _ ih=>intro x y l;exact ih K _ _<|Hi.stmt h (c+1) x y l
  have v:∀(k:M) (x:Cm×CS) (y:Cc×CS) (i:M),i<=k->k+1<L f->Hi (CJ f i).t9 x.1 x.2 y.1 y.2->Hi (CJ f<|k+1).t9 x.1 (if 6<c+1 then EU 4 (CJ f k).t9 x.2 else x.2) y.1 (if 6<c+1 then Em 4 (CJ f k).t9 y.2 else y.2):=by
   intro k x y i hi E l;split
   .exact l.to H (p:=k) (λlo z N=>z.yM N (by decide) _ _) hi (Ad _) E
   .exact l.mono<|GC H (by omega) E
  rcases V with⟨rfl,E,_,ha,ps,N,a2⟩|⟨k,e,m,rfl,l,a0,r,hm⟩|⟨k,e,m,P,a1,m2,rfl,l,a0,r,hm,R,a4⟩
  .grind[Qv,Kr,Hi.plain]
  .have hl:=r.le λ_ _ _ q=>q.lt;have u:s.e=11\/s.e=12:=by grind[IM]
   rw[Qv,Kr,Bb u,Bb u];simp only[AP,A6];have w:=v k x y i (by omega) (by omega) h;have B:=C (k+1) m e (by omega) r (x.1,if 6<c+1 then EU 4 (CJ f k).t9 x.2 else x.2) (y.1,if 6<c+1 then Em 4 (CJ f k).t9 y.2 else y.2) w;exact B.mono<|GC H (by omega) I
  .have hl:=r.le λ_ _ _ q=>q.lt;have a3:=R.le λ_ _ _ q=>q.lt;have u:s.e=11\/s.e=12:=by grind[IM]
   rw[Qv,Kr,Bb u,Bb u];simp only[AP,A6];have w:=v k x y i (by omega) (by omega) h;have B:=C (k+1) m e (by omega) r (x.1,if 6<c+1 then EU 4 (CJ f k).t9 x.2 else x.2) (y.1,if 6<c+1 then Em 4 (CJ f k).t9 y.2 else y.2) w;have S:=v P _ _ m (by omega) (by omega) B;have U:=C (P+1) m2 a1 (by omega) R (_,_) (_,_) S;exact U.mono<|GC H (by omega) I
end
def UL(n:M)(b:C8):Prop:=∀u,u∈b->u.k<=n/\u.body<=n/\u.other<=n
theorem UL.snoc{n b u}(h:UL n b)(e:u.k<=n/\u.body<=n/\u.other<=n):UL n<|b++[u]:=by
 intro v d;rcases AJ.1 d with q|q
 exact h v q;grind
theorem UL.set{n b u}(h:UL n b)(i)(e:u.k<=n/\u.body<=n/\u.other<=n):UL n<|b.set i u:=by
 intro v d;rcases List.mem_or_eq_of_mem_set d with q|q
 exact h v q;grind
theorem Wb(a):∀(f d:M) (e:Option M) (b:DH),L (GL a f d e b).1<=b+f
 |0,d,e,b=>by grind[GL]
 |f+1,d,e,b=>by
  unfold GL;split
  .have:=Wb a f (d+1) e<|b++[CI a d];grind
  .simp
theorem cF(a x):L (EM a x).1<=a:=by grind[Wb,EM,FM]
theorem mH(a x s)(h:L s.k<=L a):L (Gc a x s).1.k<=a:=by grind[Gc,cF]
theorem Yw(a b x):L (DW a b x).1.k<=a/\L (DW a b x).1.body<=a/\L (DW a b x).1.other<=a:=by grind[DW,Gd,TI,mH]
theorem gL{a n}(hl:L a=n)(p:(CI a<|n-1).h=0):∀f:M,
 (∀(i:M) (x:St) (d:C8) (j:Cf),Mw n x (L d)->UL n d->UL n (C6 a f i x d j).2.2/\L (C6 a f i x d j).1<=L j+((C6 a f i x d j).2.1.b-x.b)+1)/\
 (∀(i:M) (x:St) (d:C8),Mw n x (L d)->x.wY=Z->UL n d->UL n (Dn a f i x d).2.2):=by
 have E:=DP a;have C:∀(z:Cj) (x:St),x.b<n->(CW a z x).b<n:=λz x h=>EK Q p h
 have B:(Gd 0 0).k<=n/\(Gd 0 0).body<=n/\(Gd 0 0).other<=n:=by simp[Gd]
 intro f;induction f with
 |zero=> refine⟨λi x d j _ h=>?_,λi x d _ _ h=>?_⟩;rw[C6];exact⟨h,by simp only;omega⟩;rw[Dn];exact h
 |succ f t=>
  refine⟨λi x d j o h=>?_,λi x d o s h=>?_⟩;rw[C6];split;grind;rename_i hc;have s:x.wY=Z:=by grind
  have u1:=t.2 i x d o s h;have⟨k,N,a3,P⟩:=(GY p f).2 i x d o s;have⟨F,R,b3⟩:=(GY p f).1 i _ _ (j++[(Dn a f i x d).1]) k;have⟨S,v⟩:=t.1 i (Dn a f i x d).2.1 (Dn a f i x d).2.2 (j++[(Dn a f i x d).1]) k u1;refine⟨S,?_⟩;simp only[Ah,Az]at v;by_cases X:f=0;grind[C6];cases m:(Dn a f i x d).2.1.wY with
  |none=>have:=P X m;omega
  |some b=> rw[Fo _ _ _ _ _ m];simp only[Ah,Az];omega
  rw[Dn];split;simp only;have K:=((E (Dk<|CI a x.b) x).trans<|E [63] _).trans<|E [123]<|CW a [63]<|CW a (Dk<|CI a x.b) x;have v:=C [63] _<|C (Dk<|CI a x.b) x o.1;have U:=C [123] _ v;generalize CW a [63] (CW a (Dk<|CI a x.b) x)=x2 at*;generalize CW a [123] x2=u at*;have y:Mw n u<|d++[Gd 0 0]:=by have⟨g1,g2,g3,g4⟩:=K;have⟨h1,h2,h3,h4,V⟩:=o;have h6:=V s;refine⟨U,by omega,by omega,by simp;omega,λe=>?_⟩;grind
  have⟨k,N⟩:=t.1 i u (d++[Gd 0 0]) [] y<|h.snoc B;have⟨w,p2,p3⟩:=(GY p f).1 i u (d++[Gd 0 0]) [] y;generalize C6 a f i u (d++[Gd 0 0]) []=r at*;have m:r.1<=n:=by have:=w.1;grind
  have H:=w.xQ (E [125] r.2.1)<|C [125] _ w.1;split;split;have I:=H.xQ ((E Hp _).trans<|E [123] _)<|C [123] _<|C Hp _ H.1;have⟨F,R⟩:=t.1 i (CW a [123]<|CW a Hp<|CW a [125] r.2.1) r.2.2 [] I k;have⟨q1,q2,q3⟩:=(GY p f).1 i (CW a [123]<|CW a Hp<|CW a [125] r.2.1) r.2.2 [] I;refine F.set _ ⟨by simp[Gd],m,?_⟩;have:=q1.1;grind;exact k.set _ ⟨by simp[Gd],m,by simp[Gd]⟩;exact k.set _ ⟨by simp[Gd],m,by simp[Gd]⟩;simp only;have q:=Yw a i x;rw[hl]at q;exact(h.snoc B).set _ q
structure OR(a:Dw)(d i j:M)(t:TF):Prop where
 w:∃kn ps kb m,i<=kn/\t.I=CJ a kn/\t.m=ps.map (CJ a)/\Sa (kn+1) kb ps/\t.t9=(CJ a kb).t9/\Gp (EN a d) (kb+1) m t.i/\m<j
 lt:i<j
 top:j<a
structure rM(d:M)(fs:C8)(i:M)(f:RF)(t:TF):Prop where
 I:f.I=CR t.I
 wZ:f.wZ=t.m.map CR
 body:Fv (Gs i d fs) f.body t.i
 y:f.y=[]
section
variable{N:M}{a:Dw}(H:Ig N a)(c:He a)(g:N<=4000)(l:L a<=4001)
include H
include g l in
theorem ZJ{x:PS}(m:x.q<a)(h:(NQ a a x).2.H=zr):x.H=zr/\OR a (2*a+1) x.q (NQ a a x).2.q (NQ a a x).1:=by
 have b:=λ(k:M) (u:k≠0) {x:PS} (h:(CC a a k x).H=zr)=>Gf u h
 have d:=Ki H.end_ m;have f:=CG (n:=a) H.end_ 3 m;have i:=f.trans<|CG H.end_ 1 f.2;have j:=i.trans<|Iy H.end_ i.2;have t:=j.trans<|CG H.end_ 12 j.2;unfold NQ at h d|-;simp only at h d|-;have C:=b 13 nofun h;have⟨z,K,p,e⟩:=(bK H g l<|2*a+1).1 _ [] t.2 (by omega) C.1;have s:=b 12 nofun z;have⟨v,y,w,o,I⟩:=MK s.1;have r:=b 1 nofun v;have B:=b 3 nofun r.1;simp only[A8]at p;rw[s.2.1]at e;have E:=e.le λ_ _ _ q=>q.lt;have F:=o.le;refine⟨B.1,⟨⟨(CC a a 3 x).q,y,(D3 a a<|CC a a 1<|CC a a 3 x).2.q,_,by omega,r.2.2.1,w,?_,by grind,by rw[p];exact e,by omega⟩,by omega,d.2⟩⟩;exact o.left<|by omega
include c
theorem qR{x:PS}{y:St}(k b)(o:Al a x y):Al a (NQ a a x).2 (K8 (a.map CR) (2*a) k y b).2.1/\
 ((K8 (a.map CR) (2*a) k y b).2.1.wY=Z->rM (2*a+1) (K8 (a.map CR) (2*a) k y b).2.2 k (K8 (a.map CR) (2*a) k y b).1 (NQ a a x).1/\OT b (K8 (a.map CR) (2*a) k y b).2.2):=by
 have E:=λ(k:M) (w:3<=k) (v:k<=20) {x:PS} {y:St} (h:Al a x y)=>MA H w v h
 have d:=E 3 (by decide) (by decide) o;have⟨f,m⟩:=TY H (k:=1) (so:=1) (by decide) d;have i:=E 10 (by decide) (by decide) f;have⟨j,n⟩:=TZ H i;simp only[Ga,Nat.reduceEqDiff,BD,BE]at d f m i j n;have p:Al a (D3 a a<|CC a a 1<|CC a a 3 x).2 (EM (a.map CR)<|CW (a.map CR) [40] (Ev (a.map CR) 1<|CW (a.map CR) [102,110] y).2).2:=j;have⟨q,s⟩:=MZ H (nP H c<|2*a+1).1 (f2:=2*a) k b p (λ_=>by omega);unfold NQ K8;simp only;refine⟨q,λe=>?_⟩;have⟨t,u,z,B⟩:=s e;exact⟨⟨m,n,t.mono λ_ _ r=>r.2,Q⟩,u⟩
end
section
variable{N:M}{tZ:Dw}(H:Ig N tZ)(a:He tZ)(b:N<=4000)(c:L tZ<=4001)
include H a
structure Su(fs:C8)(rf:Dd)(tf:Df):Prop where
 len:rf.length=tf
 each:∀i (h:i<rf.length) (h':i<tf.length),rM (2*tZ.length+1) fs i rf[i] tf[i]
omit H a in
theorem Su.snoc{g e:C8}{d:Dd}{k:Df}{f:RF}{t:TF}(h:Su (tZ:=tZ) g d k)(m:OT g e)(r:rM (2*L tZ+1) e (L d) f t):Su (tZ:=tZ) e (d++[f])<|k++[t]:=by have l:=h.len;refine⟨by simp[l],λi n o=>?_⟩;by_cases j:i<d;rw[AD j,AD<|by omega];have q:=h.each i j (by omega);exact⟨q.I,q.wZ,q.body.mono λ_ _ z=>z.pre m,q.y⟩;grind
theorem rR:∀(l h:M) (x:PS) (y:St) (g:C8) (o:Df) (f:Dd),Al tZ x y->f≠[]->(x.H=zr->tZ-x.q<=l/\L tZ-x.q<=h)->(y.wY=Z->Su (tZ:=tZ) g f o)->
 Al tZ (CC tZ tZ 0 (Ic tZ tZ l x o).2) (ER (tZ.map CR) (2*tZ) h y g f).2.1/\((ER (tZ.map CR) (2*L tZ) h y g f).2.1.wY=Z->Su (tZ:=tZ) (ER (tZ.map CR) (2*tZ) h y g f).2.2 (ER (tZ.map CR) (2*tZ) h y g f).1 (Ic tZ tZ l x o).1):=by
 have v:∀(m:M) (y:St) (g:C8) (f:Dd) (p:M),y.wY=p->ER (tZ.map CR) (2*tZ) m y g f=(f,y,g):=by
  intro m y g f p i;cases m with
  |zero=>rw[ER]
  |succ m=>rw[ER,Ba<|by rw[i];simp]
 intro l;induction l with
 |zero=>
  intro h x y g o f d B u hrel;rcases d with d|⟨p,j,i⟩
  have:=u d.1;have:=d.2.2.2;omega;rw[v _ _ _ _ _ i,Ic];refine⟨zn ⟨p,?_,i⟩,λe=>by grind⟩;unfold CC;rw[Bb<|by rw[j.2.2];exact H.end_,Bb Q];exact j
 |succ l P=>
  intro h x y g o f d B u hrel;rcases d with d|⟨p,j,i⟩
  have⟨V,X⟩:=u d.1;have N:=d.2.2.2;obtain⟨t,K⟩:∃t,h=t+1:=⟨h-1,by omega⟩;subst K;have C:(CI (tZ.map CR) y.b).h=0↔(CJ tZ x.q).e=0:=by rw[d.2.2.1,D7];exact Y4 _
  by_cases s:(CJ tZ x.q).e=3;rw[Ic,Bb s,ER,Bb ⟨d.2.1,zn<|by omega⟩];have⟨F,I⟩:=qR H a f g<|zo d;have hm:=QL (n:=tZ) H.end_ N s;refine P t _ _ _ _ _ F (by simp) (λ_=>by omega) λe=>?_;have⟨R,S⟩:=I e;exact(hrel d.2.1).snoc S R;rw[Ic,Ba s];by_cases r:(CJ tZ x.q).e=0;rw[ER,Ba λq=>q.2.elim B λz=>z<|C.2 r];refine⟨?_,hrel⟩;unfold CC;rw[Bb r,Bb Q];exact zo d;rw[ER,Bb ⟨d.2.1,zn λz=>r<|C.1 z⟩];have w:(K8 (tZ.map CR) (2*tZ) f y g).2.1.wY=(CJ tZ x.q).t9:=by
   have E:=LJ H (k:=3) (by decide) (by decide) (zo d:Al tZ x y);simp only[Ga,Nat.reduceEqDiff,BD,BE]at E;have U:(CW (tZ.map CR) [102,110] y).wY=(CJ tZ x.q).t9:=by unfold CW Jl;rw[Ba λz=>s<|E.1 z,d.2.2.1,D7,d.2.1];rfl
   grind[K8,Jw,LY,Ny,Fo]
  rw[v _ _ _ _ _ w];refine⟨zn ⟨_,?_,w⟩,λe=>by grind⟩;unfold CC;rw[Ba r];exact⟨Q,by simp[Mq,d.1],Q⟩;rw[v _ _ _ _ _ i,Ic,Ba<|by rw[j.2.2,H.end_];decide];refine⟨zn ⟨p,?_,i⟩,λe=>by grind⟩;unfold CC;rw[Bb<|by rw[j.2.2];exact H.end_,Bb Q];exact j
theorem nQ:Al tZ (FQ tZ tZ ⟨0,zr,0⟩).2.2 (ER (tZ.map CR) (2*tZ) tZ ⟨0,Z,0,0⟩ [] []).2.1/\((ER (tZ.map CR) (2*tZ) (L tZ) ⟨0,Z,0,0⟩ [] []).2.1.wY=Z->Su (tZ:=tZ) (ER (tZ.map CR) (2*tZ) tZ ⟨0,Z,0,0⟩ [] []).2.2 (ER (tZ.map CR) (2*tZ) tZ ⟨0,Z,0,0⟩ [] []).1 (FQ tZ tZ ⟨0,zr,0⟩).1):=by
 have f:=H.pos;obtain⟨d,u⟩:∃d,L tZ=d+1:=⟨L tZ-1,by omega⟩;have g:Al tZ (⟨0,zr,0⟩:PS) (⟨0,Z,0,0⟩:St):=zo ⟨Q,Q,Q,f⟩;have⟨h,o⟩:=qR H a 0 [] g;have s:=Ki (n:=tZ) H.end_ (x:=⟨0,zr,0⟩) f;have e:ER (tZ.map CR) (2*tZ) tZ ⟨0,Z,0,0⟩ [] []=ER (tZ.map CR) (2*tZ) d (K8 (tZ.map CR) (2*tZ) 0 ⟨0,Z,0,0⟩ []).2.1 (K8 (tZ.map CR) (2*tZ) 0 ⟨0,Z,0,0⟩ []).2.2 [(K8 (tZ.map CR) (2*tZ) 0 ⟨0,Z,0,0⟩ []).1]:=by grind[ER]
 rw[e];unfold FQ;simp only;refine rR H a tZ d _ _ _ _ _ h (by simp) (λq=>⟨by omega,?_⟩) λj=>?_;have t:=Gf (k:=3) nofun (x:=(⟨0,zr,0⟩:PS)) (tZ:=tZ);by_cases l:(CJ tZ 0).e=3;have:=QL (n:=tZ) H.end_ (x:=⟨0,zr,0⟩) f l;omega;exfalso;have:=fZ h q;have j:=this.2.1;have m:=LJ H (k:=3) (by decide) (by decide) g;simp only[Ga,Nat.reduceEqDiff,BD,BE]at m;have p:(CW (tZ.map CR) [102,110] ⟨0,Z,0,0⟩).wY=(CJ tZ 0).t9:=by unfold CW Jl;rw[Ba λz=>l<|m.1 z];simp only[D7];rfl
 grind[LY,Jw,Ny,K8,Fo];have⟨v,w⟩:=o j;refine⟨Q,λi p r=>?_⟩;grind
end
theorem MF(s):∀(l:Df) (k:M) (a:Cm),IsMap a->(has (El l k a) (Eg s)=zt↔has a (Eg s)=zt\/0<=D9 (l.map λt=>t.I.a) s k)
 |[],k,a,_=>by simp[El,D9]
 |t::l,k,a,c=>by
  rw[El,AH,D9];have d:t.I.a.toList=s.toList↔s=t.I.a:=⟨λh=>(EQ h).symm,λh=>by rw[h]⟩;by_cases b:has a (Eg t.I.a)=zt
  .rw[Bb b,MF s l (k+1) a c];grind
  .rw[Ba b,MF s l (k+1) _<|c.put _ _];grind[has_put_same,Ln,has_put_other,Nj]
theorem LO(s)(z:Cm):∀(l:Df) (k:M) (c:Cm),IsMap c->(has c (Eg s)=zt->(El l k c).atKey (Eg s) z=c.atKey (Eg s) z)/\(¬has c (Eg s)=zt->0<=D9 (l.map λt=>t.I.a) s k->(El l k c).atKey (Eg s) z=.lit (.int .i64<|D9 (l.map λt=>t.I.a) s k))
 |[],k,c,_=>by simp[El,D9]
 |t::l,k,c,e=>by
  rw[El,AH,D9];have f:t.I.a.toList=s.toList↔s=t.I.a:=⟨λh=>(EQ h).symm,λh=>by rw[h]⟩;by_cases d:has c (Eg t.I.a)=zt
  .rw[Bb d];obtain⟨a,b⟩:=LO s z l (k+1) c e;grind
  .rw[Ba d];obtain⟨a,b⟩:=LO s z l (k+1) (c.put (Eg t.I.a)<|.lit<|.int .i64 k)<|e.put _ _;grind[has_put_same,Ln,atKey_put_same,Nj,has_put_other,atKey_put_other]
theorem uU{u a}(b:a.map (λf=>f.I.a)=u.map (λt=>t.I.a))(g:a.map (λf=>L f.wZ)=u.map (λt=>L t.m)):Lk (El u 0<|.map []) u a:=by
 have d:∀s,¬has (DataW.map []:Cm) (Eg s)=zt:=λs=>by simp[has_eq]
 refine⟨λs=>?_,λs c=>?_⟩;rw[b,MF s u 0 _ isMap_empty];exact⟨λq=>q.elim (λz=>Bm z<|d s) id,zn⟩;rw[b]at c|-;rw[g];have e:Fc (El u 0<|.map []) s=(D9 (u.map λt=>t.I.a) s 0).toNat:=by unfold Fc;rw[(LO s _ u 0 _ isMap_empty).2 (d s) c]
 rw[e];unfold OC;rw[AI]
def XG(b:M)(c a:CS):Prop:=c=a/\(c.E=0\/c.t9<b)
theorem Hi.c{b d c e a}(h:Hi b d c e a):XG b c a:=⟨h.1,h.2.imp (λq=>q.1) λq=>q.2⟩
theorem XG.xC{d c b}(h:XG d c b):Hi d (.map []) c [] b:=by refine⟨h.1,?_⟩;by_cases a:c.E=0;exact zo ⟨a,tidy_empty,λs=>by simp[has_eq],Q⟩;exact zn ⟨a,h.2.resolve_left a⟩
section
variable{N:M}{o:Dw}(H:Ig N o)
include H
theorem Hi.yB:∀(a:Cf) {i j:M} {x:Cm×CS} {y:Cc×CS},Hi (CJ o i).t9 x.1 x.2 y.1 y.2->Sa i j a->j<o->Hi (CJ o j).t9 (aA (a.map<|CJ o) x).1 (aA (a.map<|CJ o) x).2 (FE (a.map<|CJ o) y).1 (FE (a.map<|CJ o) y).2
 |[],i,j,x,y,h,b,c=>h.mono<|GC H b c
 |p::a,i,j,x,y,h,b,c=>by have f:=b.2.le;have d:=h.to H (p:=p) (j:=p+1) (λg q e=>q.decl (CJ o p) e) b.1 (Ad _) (by omega);exact Hi.yB a (x:=(Mo x.1<|CJ o p,Jj x.1 (CJ o p) x.2)) (y:=(y.1++[(CJ o p).a],Gw y.1 (CR<|CJ o p) y.2)) d b.2 c
variable{F:Cm}{u:Df}{v:Dd}(w:Lk F u v)
include w
theorem Hi.stmts{d dep:M}:∀{a b:M} {c:Dj},Gp (EN o d) a b c->b<o->∀(x:Cm×CS) (y:Cc×CS),Hi (CJ o a).t9 x.1 x.2 y.1 y.2->Hi (CJ o b).t9 (c.foldl (λx t=>Qv F u d dep t x) x).1 (c.foldl (λx t=>Qv F u d dep t x) x).2 (L4 v d dep c y).1 (L4 v d dep c y).2:=by
 intro a b c r;induction r with
 |nil h=>intro e x y f;exact f.mono<|GC H h e
 |cons h _ g=>intro e x y f;exact g e _ _<|Hi.stmt H w h dep x y f
theorem pZ{d i j idx:M}{t:TF}(g:OR o d i j t)(R:Fc F t.I.a=idx↔D9 (v.map λf=>f.I.a) t.I.a 0=(idx:zw)){c b:CS}(h:XG (CJ o i).t9 c b):XG (CJ o j).t9 (Ye F u d idx t c) (IA v d idx t b).2:=by
 have⟨s,U,kb,m,C,I,N,l,V,n,X⟩:=g.w;have hl:=l.le;have a0:=n.le λ_ _ _ q=>q.lt;have S:=g.top;have z:Hi (CJ o<|s+1).t9 (.map []) (if Fc F t.I.a=idx then(if 12<=idx then EU 4 t.I.t9 c else c)else EU 5 t.I.t9 (if 12<=idx then EU 4 t.I.t9 c else c)) []<|J6 v idx t b:=by unfold J6;have P:(Fc F t.I.a=idx)=(D9 (v.map λf=>f.I.a) t.I.a 0=(idx:zw)):=propext R;simp only[P];refine h.xC.to H (p:=s) (λlo q r=>?_) C (Ad _) (by omega);rw[I];by_cases a:12<=idx;rw[Bb a,Bb a];have r1:=q.yM (e:=4) r (by decide) (.map []) [];grind[EU,Em];rw[Ba a,Ba a];split;exact q.mono (by omega);exact q.yM r (by decide) _ _
 have k:=Hi.yB H U (x:=(.map [],_)) (y:=([],_)) z l (by omega);rw[<-N]at k;have B:=Hi.stmts H w (dep:=1) n (by omega) _ _ (k.mono<|GC H (by omega)<|by omega);unfold Ye IA Xv;simp only[show¬(6<1) by decide,BE];exact(B.mono<|GC H (by omega) S).c
theorem pY{d:M}:∀{i j:M} {l:Df},Gp (OR o d) i j l->j<o->∀(k:M) (c:CS) (x:Dd×CS),(∀m (p:m<L l),Fc F l[m].I.a=k+m↔D9 (v.map λf=>f.I.a) l[m].I.a 0=((k+m:M):zw))->XG (CJ o i).t9 c x.2->XG (CJ o j).t9 (PD F u d l k c) (Ep v d l k x).2:=by
 intro i j l r;induction r with
 |nil h=>intro b k c x _ a;exact⟨a.1,a.2.imp id λq=>Av q<|GC H h b⟩
 |@cons i m j t l h _ g=> intro b k c x e a;have n:=pZ H w h (idx:=k) (by grind) a;rw[PD,Ep];refine g b (k+1) _ _ (λq s=>?_) n;have:=e (q+1) (by grind);grind
end
section
variable{N:M}{o:Dw}(H:Ig N o)(E:N<=4000)(K:L o<=4001)
include H E K
theorem VH:∀(m:M) (x:PS) (d:Df),x.q<o->(CC o o 0 (Ic o o m x d).2).H=zr->x.H=zr/\∃f,(Ic o o m x d).1=d++f/\Gp (OR o<|2*o+1) x.q (Ic o o m x d).2.q f/\(CJ o (Ic o o m x d).2.q).e=0/\(Ic o o m x d).2.q<o
 |0,x,d,e,h=>by rw[Ic]at h|-;obtain⟨a,b,c⟩:=Ko h;exact⟨b,[],by simp,.nil<|Ad _,a,e⟩
 |m+1,x,d,e,h=>by
  rw[Ic]at h|-;split at h
  .rename_i g;rw[Bb g];have s:=Ki (n:=o) H.end_ e;obtain⟨i,f,j,k,l,p⟩:=VH m _ _ s.2 h;obtain⟨q,r⟩:=ZJ H E K e i;exact⟨q,(NQ o o x).1::f,by rw[j];simp,.cons r k,l,p⟩
  .rename_i g;rw[Ba g];obtain⟨a,b,c⟩:=Ko h;exact⟨b,[],by simp,.nil<|Ad _,a,e⟩
theorem Ts(h:(FQ o o ⟨0,zr,0⟩).2.2.H=zr):Gp (OR o<|2*o+1) 0 (L o-1) (FQ o o ⟨0,zr,0⟩).1/\(FQ o o ⟨0,zr,0⟩).2.1=N/\(CJ o<|L o-1).t9=N:=by
 have c:=H.pos;have⟨B,p,r,s,t⟩:=H.last;have d:(CJ o<|L o-1).t9=N:=by grind[CJ]
 unfold FQ at h|-;simp only at h|-;have i:=Ki (n:=o) H.end_ (x:=⟨0,zr,0⟩) c;have⟨e,C,f,a,k,l⟩:=VH H E K o _ _ i.2 h;have⟨m,g⟩:=ZJ H E K (x:=⟨0,zr,0⟩) c e;have b:(Ic o o o (NQ o o ⟨0,zr,0⟩).2 [(NQ o o ⟨0,zr,0⟩).1]).2.q=o-1:=by
  rcases AV (Ic o o o (NQ o o ⟨0,zr,0⟩).2 [(NQ o o ⟨0,zr,0⟩).1]).2.q (L o-1)with q|q
  have:=H.j _ _ q (Ag<|by omega);grind[CJ];omega
 have⟨y,z,j⟩:=Ko h;rw[j,b,f];rw[b]at a;exact⟨.cons g a,d,d⟩
end
def XE:M->TS->Prop
 |0,_=>zv
 |d+1,.mk s b=>(b=[]/\s.e<=10)\/(∃p a,b=[(p,a)]/\(s=IM 11\/s=IM 12)/\∀t,t∈a->XE d t)\/∃p a f e,b=[(p,a),(f,e)]/\s=IM 11/\(∀t,t∈a->XE d t)/\∀t,t∈e->XE d t
theorem EN.shp{c:Dw}:∀{d i j:M} {t:TS},EN c d i j t->XE d t
 |0,_,_,_,h=>h.elim
 |d+1,i,j,.mk s v,h=>by
  obtain⟨_,_,p⟩:=h;have C:∀a b f,Gp (EN c d) a b f->∀t,t∈f->XE d t:=λa b f r t u=>by obtain⟨x,y,q⟩:=r.each t u;exact q.shp
  rcases p with⟨rfl,h,_⟩|⟨k,f,m,rfl,l,_,e,_⟩|⟨k,f,m,w,B,z,rfl,l,_,e,_,g,_⟩
  .exact zo ⟨Q,h⟩
  .exact zn<|zo ⟨_,_,Q,l,C _ _ _ e⟩
  .exact zn<|zn ⟨_,_,_,_,Q,l,C _ _ _ e,C _ _ _ g⟩
theorem Zx{N:M}:∀(l:Dw) (k:M),l.Pairwise (λa b=>a.t9<b.t9)->(∀t,t∈l->k<=t.t9/\t.t9<=N)->l<=N+1-k
 |[],_,_,_=>Ar _
 |t::l,k,h,d=>by
  rw[List.pairwise_cons]at h;have f:=d t A9;have:=Zx l (k+1) h.2 λu e=>⟨by grind,(d u<|Ax _ e).2⟩
  grind
theorem Ig.xE{N:M}{l:Dw}(h:Ig N l):l<=N+1:=Zx l 0 h.yY λt a=>⟨Ar _,(h.len t a).2⟩
section
variable{N:M}{c:Dw}(H:Ig N c)(n:N<=4000)(o:L c<=4001)
include H n o
theorem Tu(h a5 x)(hP:FQ c c ⟨0,zr,0⟩=(h,a5,x))(hx:x.H=zr):
 bB 4000 h/\(∀d U w v,Gt d U w v h->Gt 4000 U w v h)/\(∀t,t∈h->∀s,s∈t.i->∃a b,EN c 4000 a b s)/\(∀t,t∈h->t.m+(t.i.map<|Fn 4000).sum<=4000/\L t.i<=4000)/\L h<=4001/\
 ∀k:Dd,k.map (λf=>f.I.a)=h.map (λt=>t.I.a)->k.map (λf=>L f.wZ)=h.map (λt=>L t.m)->Od h 4000 a5=Sj k N (Ep k 4000 h 0 (k,⟨0,0⟩)).2:=by
 have hp:=H.pos;have a2:=Ts H n o (by grind);rw[hP]at a2;have⟨a1,a4,b2⟩:=a2;simp only at a1 a4;have E:Gp (OR c 4000) 0 (L c-1) h:=a1.mono λi j t g=>⟨by have⟨R,S,P,m,F,y,B,C,I,r,K⟩:=g.w;refine⟨R,S,P,m,F,y,B,C,I,?_,K⟩;have b6:=g.top;exact r.low (i0:=0) (j0:=4000) (λ_ _ _ q=>q.lt) (λa b z _ hb q=>EN.lower 4000 q<|by omega) (Ar _)<|by omega,g.lt,g.top⟩
 have b7:=E.le λ_ _ _ q=>q.lt;have a0:∀t,t∈h->∀s,s∈t.i->∃a b,EN c 4000 a b s:=by intro t l s u;have⟨i,j,g⟩:=E.each t l;have⟨R,S,P,m,F,y,B,C,I,r,K⟩:=g.w;exact r.each s u
 have X:∀t,t∈h->t.m+(t.i.map<|Fn 4000).sum<=4000/\L t.i<=4000:=by intro t l;have⟨i,j,g⟩:=E.each t l;have⟨R,S,P,m,F,y,B,C,I,r,K⟩:=g.w;have b6:=g.top;have l1:=C.le;have l2:=M5 (f:=Fn 4000) (λ_ _ _ q=>q.bn) r;have l3:=r.le λ_ _ _ q=>q.lt;grind
 have hT:bB 4000 h:=by refine⟨by omega,by decide,λt l=>?_⟩;have⟨i,j,g⟩:=E.each t l;have⟨R,S,P,m,F,y,B,C,I,r,K⟩:=g.w;refine⟨by rw[y];exact As (OF H _).1 n,λs u=>?_,λp a3=>?_,(X t l).1,(X t l).2⟩;have⟨a,b,hh⟩:=a0 t l s u;exact hh.tok o;rw[B]at a3;obtain⟨q,_,rfl⟩:=AS.1 a3;exact⟨As (OF H _).1 n,As (OF H _).2 n⟩
 refine⟨hT,λd U w v b3=>?_,a0,X,by omega,λk b1 b5=>?_⟩;have⟨a6,h1,h2,h3,h4⟩:=b3;refine⟨a6,h1,h2,h3,λj g g'=>?_⟩;have⟨av,sv,e1,e2,e3,a7,e4,e5,e6,e7⟩:=h4 j g g';refine⟨av,sv,e1,e2,e3,a7,e4,e5,e6,λm gm a8=>?_⟩;have⟨p,q,hh⟩:=a0 h[j] (Am _) _<|Am gm;exact hh.bh<|e7 m gm a8;have V:=uU b1 b5;have a9:∀m (hm:m<L h),Fc (El h 0<|.map []) h[m].I.a=0+m↔D9 (k.map λf=>f.I.a) h[m].I.a 0=((0+m:M):zw):=by
  intro m hm;have b0:0<=D9 (h.map λt=>t.I.a) h[m].I.a 0:=(Et _ _ 0).1.2<|AS.2 ⟨h[m],Am _,Q⟩;have e:Fc (El h 0<|.map []) h[m].I.a=(D9 (h.map λt=>t.I.a) h[m].I.a 0).toNat:=by unfold Fc;rw[(LO _ _ h 0 _ isMap_empty).2 (by simp[has_eq]) b0]
  grind
 have u:=pY H V E (by omega) 0 ⟨0,0⟩ (k,⟨0,0⟩) a9 ⟨Q,zo Q⟩;rw[b2]at u;unfold Od Sj;rw[a4];have b8:=V.nm ⟨#[109,97,105,110]⟩;have b9:=V.ar ⟨#[109,97,105,110]⟩;have⟨b4,c0⟩:=u;by_cases hc:0<=D9 (k.map λf=>f.I.a) ⟨#[109,97,105,110]⟩ 0/\((k.map λf=>L f.wZ)[(D9 (k.map λf=>f.I.a) ⟨#[109,97,105,110]⟩ 0).toNat]?).getD 0=0;grind;have hb:¬(has (El h 0<|.map []) (Eg ⟨#[109,97,105,110]⟩) && OC h (Fc (El h 0<|.map []) ⟨#[109,97,105,110]⟩)==0)=zt:=by grind
 rw[Ba hb,Ba hc,<-b4];grind[EU,Em]
end
theorem Fv.d{d B}{R S:d->B->Prop}{l m}(h:Fv R l m)(k:∀a b,b∈m->R a b->S a b):Fv S l m:=by
 induction h with
 |nil=>exact .nil
 |cons h _ f=>exact .cons (k _ _ (A9 ..) h)<|f λa b e=>k a b<|Ax _ e
section
variable{N:M}{c:Dw}(H:Ig N c)(g:He c)(n:N<=4000)(o:L c<=4001)
include H
theorem VD:∀(m:M) (y:St) (a:C8) (b:Dd),Mw c y a->UL c a->Mw c (ER (c.map CR) (2*c) m y a b).2.1 (ER (c.map CR) (2*c) m y a b).2.2/\UL c (ER (c.map CR) (2*c) m y a b).2.2
 |0,y,a,b,f,j=>by grind[ER]
 |m+1,y,a,b,f,j=>by
  have d:(CI (c.map CR)<|L c-1).h=0:=by rw[D7];simp[CR,H.end_,GK]
  rw[ER];split
  .have t:=(Nb d (2*c) b y a f).1;apply VD m _ _ _ t;unfold K8;simp only;have E:=DP<|c.map CR;have C:∀(i:Cj) (x:St),x.b<c->(CW (c.map CR) i x).b<c:=λi x h=>EK Q d h
   have r:=(E [102,110] y).trans<|IU (c.map CR) 1<|CW (c.map CR) [102,110] y;have l:(Ev (c.map CR) 1<|CW (c.map CR) [102,110] y).2.b<c:=Iw (q:=(Ev (c.map CR) 1<|CW (c.map CR) [102,110] y).1) Q nofun d (C _ _ f.1);generalize (Ev (c.map CR) 1<|CW (c.map CR) [102,110] y).2=e at*;have s:=r.trans<|(E [40] e).trans<|Jr (c.map CR)<|CW (c.map CR) [40] e;have p:(EM (c.map CR)<|CW (c.map CR) [40] e).2.b<c:=IW (q:=(EM (c.map CR)<|CW (c.map CR) [40] e).1) Q d<|C _ _ l;generalize (EM (c.map CR)<|CW (c.map CR) [40] e).2=k at*;have u:=f.xQ (s.trans<|E [123] k)<|C [123] k p;exact((gL (by simp) d<|2*c).1 b _ a [] u j).1
  grind
include g n o
theorem dJ(e C x)(F:FQ c c ⟨0,zr,0⟩=(e,C,x))(h y E)(I:ER (c.map CR) (2*c) c ⟨0,Z,0,0⟩ [] []=(h,y,E)):
 (x.H=zt->y.wY=x.xN)/\
 (x.H=zr->y.wY=Z/\aW 4000 h E e/\bB 4000 e/\(∀d U w v,Gt d U w v e->Gt 4000 U w v e)/\Od e 4000 C=Sj h N (Ep h 4000 e 0 (h,⟨0,0⟩)).2):=by
 have hp:=H.pos;have⟨k,m⟩:=nQ H g;rw[F,I]at k m;simp only at k m;refine⟨λj=>?_,λj=>?_⟩;rcases k with a|⟨p,a,b⟩
 rw[a.1]at j;cases j;rw[b,a.2.1];have K:y.wY=Z:=(fZ k j).2.1;have hrel:=m K;have⟨P,a3,V,a5,a6,S⟩:=Tu H n o e C x F j
 have a0:h.map (λf=>f.I.a)=e.map (λt=>t.I.a):=by apply A5;simp[hrel.len];intro i s z;simp only[AT,(hrel.each i (by grind)<|by grind).I];rfl
 have a4:h.map (λf=>L f.wZ)=e.map (λt=>L t.m):=by apply A5;simp[hrel.len];intro i s z;simp only[AT,(hrel.each i (by grind)<|by grind).wZ,AG]
 have l:=VD H c ⟨0,Z,0,0⟩ [] [] ⟨hp,Ar _,Ar _,Ar _,λ_=>⟨Ad _,Ad _,Ad _⟩⟩ (λu B=>by cases B);rw[I]at l;simp only at l;refine⟨K,⟨hrel.len,by rw[hrel.len];omega,by have:=l.1.2.2.2.1;omega,λu B=>?_,λi s z=>?_,by decide⟩,P,a3,S h a0 a4⟩;have:=l.2 u B;omega;have r:=hrel.each i s z;have hm:e[i]∈e:=Am _;refine⟨r.I,r.wZ,r.body.d λa b R q=>?_,r.y,?_,?_⟩;have⟨p,q',X⟩:=V _ hm b R;exact X.flat q;rw[Fv.length r.body];grind;grind
end
theorem Kt{e p:M}{c:CS}(a:e≠0):(Em e p c).E≠0:=by grind[Em]
theorem KM{a:Cc}{t:Tk}{c:CS}(h:(GS a t c).E=0):t.a∈a/\c.E=0:=by grind[GS,Et,Kt]
theorem ZN{a:Dd}{t:Tk}{m:zw}{c:CS}(h:(Il a t m c).E=0):t.a∈a.map (λf=>f.I.a)/\c.E=0/\(0<=m->((((a.map λf=>f.wZ)[vx (a.map λf=>f.I.a) t.a]?).getD 0:M):zw)=m):=by
 unfold Il at h;split at h;rename_i q;split at h;grind[Kt];rename_i d;refine⟨(Et _ t.a 0).1.1 q,h,λb=>?_⟩;rcases Classical.em (((((a.map λf=>f.wZ)[(D9 (a.map λf=>f.I.a) t.a 0).toNat]?).getD 0:M):zw)=m)with e|e
 exact e;omega;grind[Kt]
theorem Vr{a:Cc}{t:Tk}{c:CS}(h:(Gw a t c).E=0):t.a∉a/\L a<12/\c.E=0:=by grind[Gw,Kt,Et]
theorem Xn{a:Cc}:∀{l:Dw} {c:CS},((l.map CR).foldl (λc t=>GS a t c) c).E=0->(∀t,t∈l->t.a∈a)/\c.E=0
 |[],c,h=>⟨λ_ q=>(by cases q),h⟩
 |t::l,c,h=>by
  obtain⟨i,b⟩:=Xn (l:=l) h;obtain⟨d,e⟩:=KM b;refine⟨λu f=>?_,e⟩;rcases AY.1 f with q|q
  .subst q;exact d
  grind
section
variable{rf:Dd}{g:Cc}{o:Cf}(r:rf.map (λf=>f.I.a)=g)(v:rf.map (λf=>L f.wZ)=o)
include r v
theorem dD{s:VS}{j:Cc}{c:CS}(_hk:s.e<=10)(h:(Gk rf s (j,c)).2.E=0):c.E=0/\(Gk rf s (j,c)).1=j++(if s.e=0 then[s.tg.a]else[])/\vK g o s j:=by unfold Gk at h|-;by_cases a:s.e=0;simp only[Bb a]at h|-;have⟨f,l,w⟩:=Vr h;exact⟨w,by trivial,⟨λ_=>⟨f,l⟩,λq=>Bm a q,λq=>by omega,λq=>by omega,λq=>by omega,λq=>by omega⟩⟩;simp only[Ba a]at h|-;by_cases k:s.e=10;simp only[Bb k]at h|-;have⟨f,l⟩:=KM h;exact⟨l,by simp,⟨λq=>Bm q a,λ_ q=>Bm k q,λq=>by omega,λq=>by omega,λ_=>f,λq=>by omega⟩⟩;simp only[Ba k]at h|-;unfold Ry at h;by_cases f:s.e=1;rw[Bb f]at h;have⟨d,e⟩:=KM h;exact⟨e,by simp,⟨λq=>Bm q a,λ_ _=>d,λq=>by omega,λq=>by omega,λq=>by omega,λq=>by omega⟩⟩;rw[Ba f]at h;have⟨m,h⟩:=Xn h;by_cases t:s.e=4;rw[Bb t]at h;have⟨b,i,n⟩:=ZN h;have⟨d,e⟩:=KM i;rw[r]at b;exact⟨e,by simp,⟨λq=>Bm q a,λ_ _=>d,λ_=>b,λq=>by omega,λq=>by omega,λ_=>m⟩⟩;rw[Ba t]at h;by_cases u:s.e=7;rw[Bb u]at h;have⟨b,i,n⟩:=ZN h;have⟨d,e⟩:=KM i;have p:=n (by omega);rw[r,v]at p;rw[r]at b;exact⟨e,by simp,⟨λq=>Bm q a,λ_ _=>d,λ_=>b,λ_=>by exact_mod_cast p,λq=>by omega,λ_=>m⟩⟩;rw[Ba u]at h;have⟨b,i⟩:=KM h;have⟨d,e⟩:=KM i;exact⟨e,by simp,⟨λq=>Bm q a,λ_ _=>d,λq=>by omega,λq=>by omega,λ_=>b,λ_=>m⟩⟩
theorem kV:∀(d f:M) (t:TS) (a:Cc) (c:CS),XE d t->(Kr rf d f t (a,c)).2.E=0->c.E=0/\(Kr rf d f t (a,c)).1=a++dS t/\nC g o t a
 |0,_,_,_,_,h,_=>h.elim
 |d+1,f,.mk s P,a,c,h,b=>by
  have m:∀(j:Dj) (a:Cc) (c:CS),(∀t,t∈j->XE d t)->(j.foldl (λx t=>Kr rf d (f+1) t x) (a,c)).2.E=0->c.E=0/\(j.foldl (λx t=>Kr rf d (f+1) t x) (a,c)).1=a++dL j/\Mn g o j a:=by
   intro j;induction j with
   |nil=>intro a c _ h;exact⟨h,by simp[dL],trivial⟩
   |cons t j H=> intro a c q h;simp only[AP]at h|-;have e:Kr rf d (f+1) t (a,c)=((Kr rf d (f+1) t (a,c)).1,(Kr rf d (f+1) t (a,c)).2):=Q;rw[e]at h|-;obtain⟨E,F,y⟩:=H _ _ (λu C=>q u<|Ax _ C) h;obtain⟨k,l,i⟩:=kV d (f+1) t a c (q t A9) E;rw[l]at F y;exact⟨k,by grind[dL],i,y⟩
  have B:∀{c:CS} {p:M},(if 6<f+1 then Em 4 p c else c).E=0->c.E=0:=by grind[Kt]
  rcases h with⟨rfl,w⟩|⟨p,j,rfl,rfl|rfl,n⟩|⟨p,j,R,S,rfl,rfl,n,z⟩
  .rw[Kr,Ba<|by omega]at b|-;obtain⟨k,l,i⟩:=dD r v w b;exact⟨k,by grind[dS,dB],w,i⟩
  .rw[Kr,Bb<|by simp[IM]]at b|-;simp only[AP,A6]at b|-;obtain⟨k,l,i⟩:=m _ _ _ n b;exact⟨B k,by grind[dS,dB,IM],zo Q,i⟩
  .rw[Kr,Bb<|by simp[IM]]at b|-;simp only[AP,A6]at b|-;obtain⟨k,l,i⟩:=m _ _ _ n b;exact⟨B k,by grind[dS,dB,IM],zn Q,i⟩
  .rw[Kr,Bb<|by simp[IM]]at b|-;simp only[AP,A6]at b|-;obtain⟨k,l,i⟩:=m _ _ _ z b;obtain⟨I,K,N⟩:=m _ _ _ n<|B k;rw[K]at l i;exact⟨B I,by grind[dS,dB,IM],Q,N,i⟩
theorem sW(d f):∀(b:Dj) (a:Cc) (c:CS),(∀t,t∈b->XE d t)->(L4 rf d f b (a,c)).2.E=0->c.E=0/\(L4 rf d f b (a,c)).1=a++dL b/\Mn g o b a:=by
 intro b;unfold L4;induction b with
 |nil=>intro a c _ h;exact⟨h,by simp[dL],trivial⟩
 |cons t b s=> intro a c i h;simp only[AP]at h|-;have e:Kr rf d f t (a,c)=((Kr rf d f t (a,c)).1,(Kr rf d f t (a,c)).2):=Q;rw[e]at h|-;have⟨p,q,j⟩:=s _ _ (λu n=>i u<|Ax _ n) h;have⟨k,l,m⟩:=kV r v d f t a c (i t A9) p;rw[l]at q j;exact⟨k,by grind[dL],m,j⟩
end
theorem WO:∀(l:Dw) (a:Cc) (c:CS),(FE l (a,c)).2.E=0->c.E=0/\(FE l (a,c)).1=a++l.map (λp=>p.a)/\(a.Nodup->(a++l.map (λp=>p.a)).Nodup)/\(L a<=12->a+L l<=12)
 |[],a,c,h=>⟨h,by simp[FE],λq=>by simpa using q,λq=>by simpa using q⟩
 |t::l,a,c,h=>by obtain⟨b,d,e,f⟩:=WO l (a++[t.a]) (Gw a (CR t) c) h;obtain⟨i,j,k⟩:=Vr b;grind[FE,CR]
mutual
theorem Tp{g:Cc}{o:Cf}:∀(t:TS) (vs:Cc),nC g o t vs->(vs.Nodup->(vs++dS t).Nodup)/\(vs.length<=12->(vs++dS t).length<=12)
 |.mk s [],vs,h=>by
  obtain⟨_,ho⟩:=h;simp only[dS,dB,AN];split
  .rename_i h0;obtain⟨h1,h2⟩:=ho.decl h0;grind
  .simp
 |.mk s [(p,ts)],vs,h=>by have:=IZ ts vs h.2;have hk:=h.1;grind[dS,dB]
 |.mk s [(p,ts),(p2,ts2)],vs,h=>by obtain⟨hk,h1,h2⟩:=h;have a:=IZ ts vs h1;have b:=IZ ts2 (vs++dL ts) h2;grind[dS,dB]
theorem IZ{g:Cc}{o:Cf}:∀(ts:Dj) (vs:Cc),Mn g o ts vs->(vs.Nodup->(vs++dL ts).Nodup)/\(vs.length<=12->(vs++dL ts).length<=12)
 |[],vs,_=>by simp[dL]
 |t::ts,vs,h=>by have a:=Tp t vs h.1;have b:=IZ ts (vs++dS t) h.2;grind[dL]
end
def FU(t:TF):Cc:=t.m.map (λp=>p.a)++dL t.i
def DF:Cd:=⟨#[109,97,105,110]⟩
structure vO(fns:Df):Prop where
 ok:wE fns
 xE:fns.length<=12
 wT:∀i (h:i<fns.length),D9 (fns.map λf=>f.I.a) fns[i].I.a 0=i
 y:∀t,t∈fns->(FU t).Nodup/\(FU t).length<=12
 main:DF∈fns.map (λf=>f.I.a)
 dq:(fns.map λf=>f.m.length)[vx (fns.map λf=>f.I.a) DF]?.getD 0=0
theorem kT{rf:Dd}{i:M}{t:TF}{c:CS}(h:(J6 rf i t c).E=0):D9 (rf.map λf=>f.I.a) t.I.a 0=i/\i<12/\c.E=0:=by grind[J6,Kt]
section
variable{rf:Dd}{g:Cc}{o:Cf}(r:rf.map (λf=>f.I.a)=g)(v:rf.map (λf=>L f.wZ)=o)
include r v
theorem pP{d i:M}{t:TF}{c:CS}(m:∀s,s∈t.i->XE d s)(h:(IA rf d i t c).2.E=0):
 c.E=0/\(IA rf d i t c).1=FU t/\Mn g o t.i (t.m.map λp=>p.a)/\(FU t).Nodup/\L (FU t)<=12/\D9 g t.I.a 0=i/\i<12:=by
 unfold IA at h|-;have e:FE t.m ([],J6 rf i t c)=((FE t.m ([],J6 rf i t c)).1,(FE t.m ([],J6 rf i t c)).2):=Q;rw[e]at h|-;have⟨l,b,a⟩:=sW r v d 1 t.i _ _ m h;have⟨q,f,u,w⟩:=WO _ _ _ l;have⟨k,x,y⟩:=kT q;rw[f,A8]at b a;have n:=IZ t.i _ a;have j:=u List.nodup_nil;have z:=w (by simp);rw[A8]at j;rw[r]at k;refine⟨y,?_,a,n.1 j,n.2<|by grind,k,x⟩;rw[f,A8,b];rfl
theorem Qc{d:M}:∀(l:Df) (i:M) (x:Dd×CS),(∀t,t∈l->∀s,s∈t.i->XE d s)->(Ep rf d l i x).2.E=0->
 x.2.E=0/\(∀j (h:j<L l),Mn g o l[j].i (l[j].m.map λp=>p.a)/\(FU l[j]).Nodup/\L (FU l[j])<=12/\D9 g l[j].I.a 0=((i+j:M):zw)/\i+j<12)/\
 L (Ep rf d l i x).1=L x.1/\(∀j (h:j<L (Ep rf d l i x).1) (y:j<L x.1),((Ep rf d l i x).1[j]).I=(x.1[j]).I/\((Ep rf d l i x).1[j]).wZ=(x.1[j]).wZ/\((Ep rf d l i x).1[j]).body=(x.1[j]).body/\(j<i->((Ep rf d l i x).1[j]).y=(x.1[j]).y)/\∀k (b:k<L l),j=i+k->((Ep rf d l i x).1[j]).y=FU l[k])
 |[],i,x,_,h=>⟨h,λj h=>by simp at h,Q,λj h y=>⟨Q,Q,Q,λ_=>Q,λk b=>by simp at b⟩⟩
 |t::l,i,x,e,h=>by
  rw[Ep]at h;obtain⟨m,n,X,w⟩:=Qc (d:=d) l (i+1) _ (λu C=>e u<|Ax _ C) h;have z:=e t A9;obtain⟨F,k2,k3,k4,k5,k6,k7⟩:=pP r v (i:=i) (c:=x.2) z m;refine⟨F,λj a=>?_,?_,λj a a0=>?_⟩
  .cases j with
   |zero=>grind
   |succ j=> obtain⟨H,I,K,N,q5⟩:=n j (by grind);exact⟨H,I,K,by rw[AW,N];omega,by omega⟩
  .grind[Ep,Hc]
  .have f:j<L (wv x.1 i (IA rf d i t x.2).1):=by grind[Hc]
   have q:=w j a f;have E:∀(B:j<L (wv x.1 i (IA rf d i t x.2).1)),((wv x.1 i (IA rf d i t x.2).1)[j]).I=(x.1[j]).I/\((wv x.1 i (IA rf d i t x.2).1)[j]).wZ=(x.1[j]).wZ/\((wv x.1 i (IA rf d i t x.2).1)[j]).body=(x.1[j]).body/\(j≠i->((wv x.1 i (IA rf d i t x.2).1)[j]).y=(x.1[j]).y)/\(j=i->((wv x.1 i (IA rf d i t x.2).1)[j]).y=FU t):=by
    intro B;simp only[wv,List.getElem_modify];split
    .grind
    grind
   obtain⟨P,R,S,U,V⟩:=E f;simp only[Ep]at a|-;refine⟨q.1.trans P,q.2.1.trans R,q.2.2.1.trans S,λa1=>(q.2.2.2.1<|by omega).trans<|U<|by omega,λk b he=>?_⟩;cases k with
   |zero=>exact(q.2.2.2.1<|by omega).trans<|V<|by omega
   |succ k=>exact q.2.2.2.2 k (by grind)<|by omega
end
theorem Nc{d:M}{rf:Dd}{c:C8}{b:Df}(a:aW d rf c b):rf.map (λf=>f.I.a)=b.map (λf=>f.I.a)/\rf.map (λf=>L f.wZ)=b.map (λf=>L f.m):=by constructor;apply A5;simp[a.len];intro i e h;simp only[AT,(a.S i (by grind)<|by grind).I,CR];apply A5;simp[a.len];intro i e h;simp only[AT,(a.S i (by grind)<|by grind).wZ,AG]
theorem iC{rf:Dd}{N:M}{c:CS}(h:(Sj rf N c).E=0):c.E=0/\DF∈rf.map (λf=>f.I.a)/\(rf.map λf=>L f.wZ)[vx (rf.map λf=>f.I.a) DF]?.getD 0=0:=by unfold Sj at h;split at h;rename_i q;exact⟨h,(Et _ DF 0).1.1 q.1,q.2⟩;grind[Kt]
theorem rX{rf:Dd}{a:Df}{N:M}(e:rf.map (λf=>f.I.a)=a.map (λf=>f.I.a))(k:rf.map (λf=>L f.wZ)=a.map (λf=>L f.m))(n:∀t,t∈a->∀s,s∈t.i->XE 4000 s)(h:(Sj rf N (Ep rf 4000 a 0 (rf,⟨0,0⟩)).2).E=0):vO a:=by have⟨l,d,b⟩:=iC h;have⟨q,u,w,x⟩:=Qc e k a 0 (rf,⟨0,0⟩) n l;rw[e]at d b;rw[k]at b;refine⟨λt c=>?_,?_,λi p=>?_,λt c=>?_,d,b⟩;obtain⟨j,m,rfl⟩:=AC.1 c;grind;grind;grind;obtain⟨j,m,rfl⟩:=AC.1 c;grind
structure vQ(rf:Dd)(fns:Df)(fs:C8):Prop where
 len:rf.length=fns
 I:∀i (h:i<rf.length) (h':i<fns.length),rf[i].I=CR fns[i].I
 wZ:∀i (h:i<rf.length) (h':i<fns.length),rf[i].wZ=fns[i].m.map CR
 body:∀i (h:i<rf.length) (h':i<fns.length),Fv (Gs i 4000 fs) rf[i].body fns[i].i
 y:∀i (h:i<rf.length) (h':i<fns.length),rf[i].y=FU fns[i]
theorem Rq{rf:Dd}{e:C8}{a:Df}(c:aW 4000 rf e a)(m:∀t,t∈a->∀s,s∈t.i->XE 4000 s)(h:(Ep rf 4000 a 0 (rf,⟨0,0⟩)).2.E=0):vQ (Ep rf 4000 a 0 (rf,⟨0,0⟩)).1 a e:=by have⟨j,k⟩:=Nc c;have⟨n,p,f,d⟩:=Qc j k a 0 (rf,⟨0,0⟩) m h;simp only at f d;have l:=c.len;refine⟨by rw[f,l],λi h b=>?_,λi h b=>?_,λi h b=>?_,λi h b=>?_⟩;rw[(d i h<|by omega).1,(c.S i (by omega) b).I];rw[(d i h<|by omega).2.1,(c.S i (by omega) b).wZ];rw[(d i h<|by omega).2.2.1];exact(c.S i (by omega) b).body;grind
def My(R:M->M->M->M->Ce):Cf->M->M->M->M->Prop
 |[],c,a,d,b=>d=c/\b=a
 |j::l,c,a,d,b=>∃f e,R j c a f e/\My R l f e d b
theorem My.mono{R S:M->M->M->M->Ce}(h:∀j a b c d,R j a b c d->S j a b c d):∀{l:Cf} {a b c d:M},My R l a b c d->My S l a b c d
 |[],_,_,_,_,q=>q
 |_::_,_,_,_,_,⟨f,e,g,i⟩=>⟨f,e,h _ _ _ _ _ g,My.mono h i⟩
def JE:M->C8->M->M->M->M->M->Prop
 |0,_,_,_,_,_,_=>zv
 |d+1,g,i,h,f,n,l=>∃u,g[i]? =T u/\
   ((u.e≠12/\u.e≠13/\n=h+(if u.e=2 then 1 else 0)/\l=f+(if u.e=9 then 1 else 0)/\(u.e=2->u.t9=h+1)/\(u.e=9->u.t9=f+1))\/
    ((u.e=12\/u.e=13)/\∃m k,My (λj a b c e=>i<j/\JE d g j a b c e) u.body h f m k/\My (λj a b c e=>i<j/\JE d g j a b c e) u.other m k n l))
theorem JE.up:∀{d:M} {f:C8} {i a b c e:M},JE d f i a b c e->JE (d+1) f i a b c e
 |0,_,_,_,_,_,_,h=>h.elim
 |d+1,f,i,a,b,c,e,h=>by
  obtain⟨u,j,h⟩:=h;refine⟨u,j,?_⟩;rcases h with h|⟨k,n,g,l,m⟩
  .exact zo h
  .exact zn ⟨k,n,g,l.mono λ_ _ _ _ _ q=>⟨q.1,q.2.up⟩,m.mono λ_ _ _ _ _ q=>⟨q.1,q.2.up⟩⟩
theorem JE.yD{k:M}:∀{d:M} {f g:C8} {i a b c e:M},JE d f i a b c e->k<=i->(∀j,k<=j->j<L f->g[j]? =f[j]?)->JE d g i a b c e
 |0,_,_,_,_,_,_,_,h,_,_=>h.elim
 |d+1,f,g,i,a,b,c,e,h,t,m=>by
  obtain⟨u,l,h⟩:=h;have s:i<f:=by
   rcases AV i f with q|q
   .exact q
   .rw[AF q]at l;cases l
  refine⟨u,by rw[m i t s];exact l,?_⟩;rcases h with h|⟨o,v,n,p,r⟩
  .exact zo h
  .exact zn ⟨o,v,n,p.mono λ_ _ _ _ _ q=>⟨q.1,q.2.yD (by have:=q.1;omega) m⟩,r.mono λ_ _ _ _ _ q=>⟨q.1,q.2.yD (by have:=q.1;omega) m⟩⟩
theorem JE.pre{f:C8}(h:JE B x1 C R X v0 p0)(l:OT x1 f):JE B f C R X v0 p0:=h.yD (k:=0) (Ar _) λj _ g=>l.2 j g
inductive PM (fs:C8) (l:Cf):M->Prop
 |root {k:M}:k∈l->PM fs l k
 |body {j k:M} {u:FS}:PM fs l j->fs[j]? =u->u.e=12\/u.e=13->k∈u.body->PM fs l k
 |other {j k:M} {u:FS}:PM fs l j->fs[j]? =u->u.e=12\/u.e=13->k∈u.other->PM fs l k
theorem PM.thru{m:Cf}(h:PM x1 q2 B)(e:∀j,j∈q2->PM x1 m j):PM x1 m B:=by
 induction h with
 |root q=>exact e _ q
 |body _ b a c d=>exact .body d b a c
 |other _ b a c d=>exact .other d b a c
theorem PM.look{e:C8}{k:M}(h:PM x1 q2 k)(f:∀(j:M) (u:FS),x1[j]? =u->e[j]? =u\/(u.body=[]/\u.other=[])):PM e q2 k:=by
 induction h with
 |root q=>exact .root q
 |body _ b a c d=>
  rcases f _ _ b with q|q
  exact .body d q a c;grind
 |other _ b a c d=>
  rcases f _ _ b with q|q
  exact .other d q a c;grind
theorem PM.pre{a:C8}(h:PM x1 q2 B)(b:OT x1 a):PM a q2 B:=h.look λj u q=>zo<|by rw[b.2 j (Bz.1 q).1];exact q
theorem PM.set{r:C8}(h:PM r q2 B)(u)(b:OT (x1++[Gd 0 0]) r):PM (r.set x1 u) q2 B:=h.look λj v q=>by
 by_cases e:j=x1
 .have a:=b.2 x1 (by simp);rw[<-e,q,e,Bc<|Ad _,Nat.sub_self]at a;cases a;exact zn ⟨Q,Q⟩
 grind
theorem mI(a x s):(Gc a x s).1.e<=9/\(Gc a x s).2.pl=x.pl+(if (Gc a x s).1.e=2 then 1 else 0)/\(Gc a x s).2.g=x.g+(if (Gc a x s).1.e=9 then 1 else 0)/\((Gc a x s).1.e=2->(Gc a x s).1.t9=x.pl+1)/\((Gc a x s).1.e=9->(Gc a x s).1.t9=x.g+1):=by unfold Gc;split;simp[CW];grind[CW,Ev,EM]
theorem Yx(b a x):(DW b a x).1.e<=11/\(DW b a x).2.pl=x.pl+(if (DW b a x).1.e=2 then 1 else 0)/\(DW b a x).2.g=x.g+(if (DW b a x).1.e=9 then 1 else 0)/\((DW b a x).1.e=2->(DW b a x).1.t9=x.pl+1)/\((DW b a x).1.e=9->(DW b a x).1.t9=x.g+1):=by grind[DW,CW,Ev,mI]
theorem gM{g:DH}{n:M}(hz:(CI g<|n-1).h=0):∀f:M,
 (∀(i:M) (x:St) (d:C8) (m:Cf),Mw n x d->(x.wY=Z->2*(n-x.b)+1<=f)->(C6 g f i x d m).2.1.wY=Z->
   ∃H,(C6 g f i x d m).1=m++H/\My (λj a b c e=>L d<=j/\JE f (C6 g f i x d m).2.2 j a b c e) H x.pl x.g (C6 g f i x d m).2.1.pl (C6 g f i x d m).2.1.g/\OT d (C6 g f i x d m).2.2/\∀k,L d<=k->k<L (C6 g f i x d m).2.2->PM (C6 g f i x d m).2.2 H k)/\
 (∀(i:M) (x:St) (d:C8),Mw n x d->x.wY=Z->2*(n-x.b)<=f->(Dn g f i x d).2.1.wY=Z->
   (Dn g f i x d).1=d/\JE f (Dn g f i x d).2.2 d x.pl x.g (Dn g f i x d).2.1.pl (Dn g f i x d).2.1.g/\OT d (Dn g f i x d).2.2/\∀k,L d<=k->k<L (Dn g f i x d).2.2->PM (Dn g f i x d).2.2 [d] k):=by
 have E:=DP g;have C:∀(a0:Cj) (x:St),x.b<n->(CW g a0 x).b<n:=λa0 x h=>EK Q hz h
 have BP:=GY (tZ:=g) (n:=n) hz;intro f;induction f with
 |zero=> refine⟨λi x d m h V l=>?_,λi x d h l V _=>?_⟩;rw[C6]at l;have:=V l;omega;have:=h.1;omega
 |succ f ih=>
  refine⟨λi x d m h V l=>?_,λi x d h F V l=>?_⟩;rw[C6]at l|-;split at l;rename_i hc;rw[Bb hc];exact⟨[],by simp,⟨Q,Q⟩,OT.refl _,λk a b=>Bm b<|Nat.not_lt.2 a⟩;rename_i hc;rw[Ba hc];have F:x.wY=Z:=by
   cases F:x.wY with
   |none=>rfl
   |some b=>exact Bm (zo<|by simp[F]) hc
  have b9:=V F;have b8:=h.1;have⟨a1,a2,a3,a4⟩:=(BP f).2 i x d h F;have a9:(Dn g f i x d).2.1.wY=Z:=by
   cases hq:(Dn g f i x d).2.1.wY with
   |none=>rfl
   |some p=>rw[Fo _ _ _ _ _ hq]at l;simp only[hq]at l;cases l
  have a5:=a4 (by omega) a9;have⟨b1,b2,b3,b4⟩:=ih.2 i x d h F (by omega) a9;have⟨H,c1,c2,S,c4⟩:=ih.1 i _ _ (m++[(Dn g f i x d).1]) a1 (λ_=>by omega) l;refine⟨L d::H,by rw[c1,b1];simp,⟨_,_,⟨Ad _,(b2.pre S).up⟩,c2.mono λ_ _ _ _ _ q=>⟨by omega,q.2.up⟩⟩,b3.trans S,λk hk hl=>?_⟩;rcases AV k (Dn g f i x d).2.2 with q|q
  exact((b4 k hk q).pre S).thru λj s=>.root<|by rw[Ay.1 s];exact A9
  exact(c4 k q hl).thru λj s=>.root<|Ax _ s
  .have hi:=h;have⟨h1,h2,h3,h4,h5⟩:=h;have⟨p1,p2,p3⟩:=h5 F;rw[Dn]at l|-;by_cases hw:Dk (CI g x.b)=mS\/Dk (CI g x.b)=LG
   .rw[Bb hw]at l|-;simp only at l|-;have B:=((E (Dk<|CI g x.b) x).trans<|E [63] _).trans<|E [123]<|CW g [63]<|CW g (Dk<|CI g x.b) x;have c2:=C [63] _<|C (Dk<|CI g x.b) x h1;have S:=C [123] _ c2;generalize CW g [63] (CW g (Dk<|CI g x.b) x)=x2 at*;generalize CW g [123] x2=P at*;have I0:Mw n P<|d++[Gd 0 0]:=by have⟨g1,g2,g3,g4⟩:=B;refine⟨S,by omega,by omega,by simp;omega,λe=>?_⟩;have:=g4 e;simp only[Ah,Af,Aw];omega
    have N1:=ih.1 i P (d++[Gd 0 0]) [] I0 (λe=>by have:=(B.2.2.2 e).2;omega);have⟨a1,a2,a3⟩:=(BP f).1 i P (d++[Gd 0 0]) [] I0;generalize C6 g f i P (d++[Gd 0 0]) []=r at*;have w:=E [125] r.2.1;have c4:=C [125] r.2.1 a1.1;have I3:=a1.xQ w c4;generalize CW g [125] r.2.1=o at*;have b0:∀(u:FS),(u.e=12\/u.e=13)->u.body=r.1->u.other=[]->o.wY=Z->
     JE (f+1) (r.2.2.set d u) d x.pl x.g o.pl o.g/\OT d (r.2.2.set d u)/\∀k,L d<=k->k<L (r.2.2.set d u)->PM (r.2.2.set d u) [d] k:=by
     intro u hk a6 ho he;have⟨U,e2⟩:=w.2.2.2 he;have⟨H,n1,n2,I,n4⟩:=N1 U;have⟨s1,z,s3,s4⟩:=KI d r.2.2 (Gd 0 0) u I;refine⟨⟨u,z,zn ⟨hk,o.pl,o.g,?_,by rw[ho];exact⟨Q,Q⟩⟩⟩,s1,λk a7 X=>?_⟩;rotate_left;rcases AV d k with q|q
     refine((n4 k (by simp only[Ah,Az];omega)<|by simpa using X).set u I).thru λj s=>.body (.root A9) z hk<|by rw[a6,n1];exact s
     exact .root (by rw[show k=d by omega];exact A9);rw[a6,n1,A8,w.2.1,w.2.2.1,<-B.2.1,<-B.2.2.1];refine n2.mono λj a b c e q=>?_;have y:=q.1;simp only[Ah,Az]at y;exact⟨by omega,q.2.yD (k:=d+1) (by omega) s4⟩
    by_cases a8:Dk (CI g x.b)=mS
    .rw[Bb a8]at l|-;by_cases he:Ei o.wY (CI g o.b) Hp=zt
     .rw[Bb he]at l|-;simp only at l|-;have R:=(E Hp o).trans<|E [123]<|CW g Hp o;have c5:=C [123] _<|C Hp o c4;generalize CW g Hp o=x4 at*;generalize CW g [123] x4=v at*;have I5:=I3.xQ R c5;have b7:P.b<=o.b:=As a2 w.1;have N2:=ih.1 i v r.2.2 [] I5 (λe=>by have:=(R.2.2.2 e).2;have:=B.1;omega);have⟨b1,b2,b3⟩:=(BP f).1 i v r.2.2 [] I5;have RB:∀p,v.wY=T p->(C6 g f i v r.2.2 []).2.1.wY=T p:=λp h=>by rw[Fo _ _ _ _ _ h];exact h
      generalize C6 g f i v r.2.2 []=t at*;have E6:=E [125] t.2.1;generalize CW g [125] t.2.1=x5 at*;have⟨U,e2⟩:=E6.2.2.2 l;have⟨c0,m1,m2,m3,m4⟩:=N2 U;have b5:v.wY=Z:=by
       cases hq:v.wY with
       |none=>rfl
       |some p=>rw[RB p hq]at U;cases U
      have⟨f1,f2⟩:=R.2.2.2 b5;have⟨g1,g2⟩:=w.2.2.2 f1;have⟨H,n1,n2,I,n4⟩:=N1 g1;have⟨s1,z,s3,s4⟩:=KI d t.2.2 (Gd 0 0) {Gd i (-1)with e:=12,br:=(CI g x2.b).pos,body:=r.1,xY:=(CI g x4.b).pos,other:=t.1}<|I.trans m3;have b6:=I.1;simp only[Ah,Az]at b6;refine⟨by trivial,⟨_,z,zn ⟨zo Q,r.2.1.pl,r.2.1.g,?_,?_⟩⟩,s1,λk a7 X=>?_⟩;rotate_left 2;rcases AV d k with q|q
      rcases AV k r.2.2 with K|K
      exact(((n4 k (by simp only[Ah,Az];omega) K).pre m3).set _<|I.trans m3).thru λj s=>.body (.root A9) z (zo Q) (by show j∈r.1;rw[n1];exact s)
      exact((m4 k K<|by simpa using X).set _<|I.trans m3).thru λj s=>.other (.root A9) z (zo Q) (by show j∈t.1;rw[m1];exact s)
      exact .root (by rw[show k=d by omega];exact A9);have N:My (λj a b c e=>L (d++[Gd 0 0])<=j/\JE f r.2.2 j a b c e) r.1 P.pl P.g r.2.1.pl r.2.1.g:=by rw[n1,A8];exact n2
      rw[B.2.1,B.2.2.1]at N;refine N.mono λj a b c e q=>?_;have y:=q.1;simp only[Ah,Az]at y;exact⟨by omega,(q.2.pre m3).yD (k:=d+1) (by omega) s4⟩;have N:My (λj a b c e=>L r.2.2<=j/\JE f t.2.2 j a b c e) t.1 v.pl v.g t.2.1.pl t.2.1.g:=by rw[m1,A8];exact m2
      rw[R.2.1,R.2.2.1,w.2.1,w.2.2.1,<-E6.2.1,<-E6.2.2.1]at N;refine N.mono λj a b c e q=>?_;have y:=q.1;exact⟨by omega,q.2.yD (k:=d+1) (by omega) s4⟩
     rw[Ba he]at l|-;simp only at l|-;have⟨y,K⟩:=b0 {Gd i (-1)with e:=12,br:=(CI g x2.b).pos,body:=r.1} (zo Q) Q Q l;exact⟨by trivial,y,K⟩
    rw[Ba a8]at l|-;simp only at l|-;have⟨y,K⟩:=b0 {Gd i (-1)with e:=13,br:=(CI g x2.b).pos,body:=r.1} (zn Q) Q Q l;exact⟨by trivial,y,K⟩
   rw[Ba hw]at l|-;simp only at l|-;have⟨k1,k2,k3,k4,k5⟩:=Yx g i x;have⟨s1,z,s3,_⟩:=KI d (d++[Gd 0 0]) (Gd 0 0) (DW g i x).1<|OT.refl _;have e:=E [59] (DW g i x).2;exact⟨by trivial,⟨_,z,zo ⟨by omega,by omega,by rw[e.2.1];exact k2,by rw[e.2.2.1];exact k3,k4,k5⟩⟩,s1,λk a7 X=>.root<|by simp at X;rw[show k=L d by omega];exact A9⟩
mutual
def FN(fs:C8)(inn:M):TS->M->M->M->Prop
 |.mk s [],i,pl,ca=>∃u,fs[i]? =T u/\SC s u inn/\(s.e=1->u.t9=pl+1)/\(s.e=8->u.t9=ca+1)
 |.mk s [(_,ts)],i,pl,ca=>∃u,fs[i]? =T u/\u.l=inn/\((s.e=12/\u.e=13)\/(s.e=11/\u.e=12))/\u.other=[]/\TO fs inn ts u.body pl ca
 |.mk s [(_,ts),(_,ts2)],i,pl,ca=>∃u,fs[i]? =T u/\u.l=inn/\s.e=11/\u.e=12/\TO fs inn ts u.body pl ca/\TO fs inn ts2 u.other (pl+nL 1 ts) (ca+nL 8 ts)
 |.mk _ (_::_::_::_),_,_,_=>zv
def TO(fs:C8)(inn:M):Dj->Cf->M->M->Prop
 |[],l,_,_=>l=[]
 |t::ts,l,pl,ca=>∃j l',l=j::l'/\FN fs inn t j pl ca/\TO fs inn ts l' (pl+nK 1 t) (ca+nK 8 t)
end
theorem bY:FK B=2↔B=1:=by grind[FK]
theorem Yg:FK B=9↔B=8:=by grind[FK]
theorem Vx:∀(d e i m k v q:M) (t:TS),Gs B d x1 i t->JE e x1 i m k v q->FN x1 B t i m k/\v=m+nK 1 t/\q=k+nK 8 t
 |0,_,_,_,_,_,_,_,h,_=>h.elim
 |_+1,0,_,_,_,_,_,_,_,h=>h.elim
 |d+1,e+1,i,m,k,v,q,.mk s bl,h,w=>by
  have N:∀(l:Cf) (o:Dj) (m k v q:M),Fv (λj t=>i<j/\Gs B d x1 j t) l o->My (λj a b c x=>i<j/\JE e x1 j a b c x) l m k v q->TO x1 B o l m k/\v=m+nL 1 o/\q=k+nL 8 o:=by
   intro l o m k v q ha;induction ha generalizing m k with
   |nil=>intro h;exact⟨Q,by simp[nL,h.1],by simp[nL,h.2]⟩
   |@cons j t l o hj _ ih=> rintro⟨K,y,q1,q2⟩;obtain⟨r1,r2,r3⟩:=Vx d e j m k K y t hj.2 q1.2;obtain⟨P,X,k3⟩:=ih K y q2;subst r2 r3;exact⟨⟨j,l,Q,r1,P⟩,by rw[X];simp[nL];omega,by rw[k3];simp[nL];omega⟩
  obtain⟨u,H,h⟩:=h;obtain⟨u',V,w⟩:=w;rw[H]at V;cases V;rcases h with⟨rfl,U⟩|⟨p,o,rfl,rfl,r,E,_,_,F,C⟩|⟨p,o,rfl,rfl,r,E,_,_,F,C⟩|⟨p,o,p2,a2,rfl,rfl,r,E,_,_,C,a0⟩
  .have r:=U.e;have hf:=U.xE;have a1:u.e≠12/\u.e≠13:=by grind[FK]
   rcases w with⟨_,_,n,g,f,I⟩|⟨n,_⟩
   .rw[r]at n g f I;simp only[bY,Yg]at n g f I;refine⟨⟨u,H,U,f,I⟩,?_,?_⟩
    .rw[n];simp[nK,nB]
    .rw[g];simp[nK,nB]
   .omega
  .rcases w with⟨n,g,_⟩|⟨n,K,y,g,f⟩
   .omega
   .obtain⟨z,R,S⟩:=N _ _ _ _ _ _ C g;rw[F]at f;obtain⟨f,I⟩:=f;exact⟨⟨u,H,E,zo ⟨Q,r⟩,F,z⟩,by grind[nK,nB,IM],by grind[nK,nB,IM]⟩
  .rcases w with⟨n,g,_⟩|⟨n,K,y,g,f⟩
   .omega
   .obtain⟨z,R,S⟩:=N _ _ _ _ _ _ C g;rw[F]at f;obtain⟨f,I⟩:=f;exact⟨⟨u,H,E,zn ⟨Q,r⟩,F,z⟩,by grind[nK,nB,IM],by grind[nK,nB,IM]⟩
  .rcases w with⟨n,g,_⟩|⟨n,K,y,g,f⟩
   .omega
   .obtain⟨z,R,S⟩:=N _ _ _ _ _ _ C g;obtain⟨P,X,k3⟩:=N _ _ _ _ _ _ a0 f;rw[R,S]at P;exact⟨⟨u,H,E,Q,r,z,P⟩,by grind[nK,nB,IM],by grind[nK,nB,IM]⟩
theorem SV(d e):∀(l:Cf) (i:Dj) (g f m k:M),Fv (Gs B d x1) l i->My (λj a b c x=>JE e x1 j a b c x) l g f m k->TO x1 B i l g f/\m=g+nL 1 i/\k=f+nL 8 i:=by
 intro l i g f m k p;induction p generalizing g f with
 |nil=>intro h;exact⟨Q,by simp[nL,h.1],by simp[nL,h.2]⟩
 |@cons j t l i q _ r=> rintro⟨o,n,u,v⟩;have⟨w,y,z⟩:=Vx d e j g f o n t q u;have⟨s,C,E⟩:=r o n v;subst y z;exact⟨⟨j,l,Q,w,s⟩,by grind[nL],by grind[nL]⟩
def MW(e:M)(m:C8):Dd->M->M->M->M->Prop
 |[],h,d,i,g=>i=h/\g=d
 |f::l,h,d,i,g=>∃n k,My (λj a b c x=>JE e m j a b c x) f.body h d n k/\MW e m l n k i g
theorem MW.pre{f:C8}(g:OT x1 f):∀{l:Dd} {a b c d:M},MW B x1 l a b c d->MW B f l a b c d
 |[],_,_,_,_,h=>h
 |_::_,_,_,_,_,⟨m,i,j,k⟩=>⟨m,i,j.mono λ_ _ _ _ _ q=>q.pre g,MW.pre g k⟩
theorem MW.snoc:∀{l:Dd} {a b c d:M} {f:RF} {i g:M},MW B x1 l a b c d->My (λj a b c x=>JE B x1 j a b c x) f.body c d i g->MW B x1 (l++[f]) a b i g
 |[],_,_,_,_,f,i,g,h,q=>by obtain⟨rfl,rfl⟩:=h;exact⟨i,g,q,Q,Q⟩
 |_::_,_,_,_,_,_,_,_,⟨o,k,m,n⟩,q=>⟨o,k,m,MW.snoc n q⟩
def E9(a b:M)(v:Vl):Prop:=(v.e=0/\v.c=0)\/(v.e=1/\v.c<a)\/(v.e=2/\v.c<b)
def aS(n i:M)(t:Tg):Prop:=t.e=0\/(t.e=1/\t.B<=4000/\t.F<=3/\t.F<=i/\i+(3-t.F)<n)
structure EI(nf:M)(m:List Cl):Prop where
 nm:∀i (h:i<m.length),aS m.length i m[i].nm
 vl:∀i (h:i<m.length),E9 nf m.length m[i].v
theorem E9.more{b n a:M}{v:Vl}(h:E9 b n v)(e:n<=a):E9 b a v:=by
 rcases h with h|h|⟨c,d⟩
 exact zo h;exact zn<|zo h;exact zn<|zn ⟨c,by omega⟩
theorem aS.more{n a i:M}{t:Tg}(h:aS n i t)(g:n<=a):aS a i t:=by
 rcases h with h|⟨b,c,d,e,f⟩
 exact zo h;exact zn ⟨b,c,d,e,by omega⟩
theorem LF(a n):E9 a n Hd:=zo ⟨Q,Q⟩
theorem Dy{m:List Cl}{i:M}(h:i<m):CM m i=m[i]:=by grind[CM]
theorem EI.at_{b:M}{m:List Cl}(h:EI b m){i:M}(a:i<L m):aS m i (CM m i).nm/\E9 b m (CM m i).v:=by rw[Dy a];exact⟨h.nm i a,h.vl i a⟩
theorem EI.set{b:M}{m:List Cl}(h:EI b m){c:M}{v:Vl}(d:E9 b (L m) v):EI b<|m.set c ⟨(CM m c).nm,v⟩:=by refine⟨λi a=>?_,λi a=>?_⟩;simp only[Bi]at a|-;rw[List.getElem_set];split;rename_i e;subst e;exact(h.at_ a).1;exact h.nm i a;simp only[Bi]at a|-;rw[List.getElem_set];split;exact d;exact h.vl i a
theorem EI.app{c:M}{m l:List Cl}(h:EI c m)(d:∀i (a:i<L l),aS (L m+L l) (L m+i) l[i].nm/\l[i].v=Hd):EI c<|m++l:=by have e:L (m++l)=m+l:=Ah;refine⟨λi a=>?_,λi a=>?_⟩;rw[e]at a|-;rw[List.getElem_append];split;rename_i b;exact(h.nm i b).more (by omega);grind;rw[e]at a|-;rw[List.getElem_append];split;rename_i b;exact(h.vl i b).more (by omega);grind[LF]
structure UV(nf:M)(c c':Co)(a b:M):Prop where
 m:EI nf c'.d
 lo:c.d.length<=c'.d
 hi:c'.d.length<=c.d+a
 se:c'.x+c'.xG.length<=c.x+c.xG+b
theorem UV.refl{a:M}{c:Co}(h:EI a c.d):UV a c c 0 0:=⟨h,Ad _,Ad _,Ad _⟩
theorem UV.trans{f:M}{c d e:Co}{a b g i:M}(h:UV f c d a b)(k:UV f d e g i):UV f c e (a+g)<|b+i:=
 ⟨k.m,As h.lo k.lo,by have:=h.hi;have:=k.hi;omega,by have:=h.se;have:=k.se;omega⟩
theorem UV.less{g:M}{c d:Co}{a b e f:M}(h:UV g c d a b)(i:a<=e)(j:b<=f):UV g c d e f:=⟨h.m,h.lo,by have:=h.hi;omega,by have:=h.se;omega⟩
theorem Ji{b:M}{c:Co}(h:EI b c.d){a:M}{v:Vl}(d:E9 b (L c.d) v):UV b c (c.set a v) 0 1:=by
 have e:L (c.set a v).d=c.d:=by simp[Co.set]
 refine⟨h.set d,by omega,by omega,?_⟩;grind[Co.set]
theorem SM{d:M}{c:Co}(h:EI d c.d){p:M}(a:p<=4000):UV d c (c.xK p) 4 0:=by
 have e:L (c.xK p).d=c.d+4:=by simp[Co.xK]
 refine⟨?_,by omega,by omega,Ad _⟩;refine h.app λi b=>?_;simp only[Af,Aw]at b|-;match i,b with
 |0,_=>exact⟨zn ⟨Q,a,by simp,by simp,by simp⟩,Q⟩
 |1,_=>exact⟨zn ⟨Q,a,by simp,by simp,by simp⟩,Q⟩
 |2,_=>exact⟨zn ⟨Q,a,by simp,by simp,by simp⟩,Q⟩
 |3,_=>exact⟨zn ⟨Q,a,by simp,by simp,by simp⟩,Q⟩
theorem Uf{a:M}{c:Co}(h:EI a c.d)(f n):UV a c (c.y f n) n 0/\L (c.y f n).d=L c.d+n:=by
 have e:(c.y f n).d=c.d+n:=by simp[Co.y]
 refine⟨⟨?_,by omega,by omega,Ad _⟩,e⟩;refine h.app λi b=>?_;rw[AT];exact⟨zo Q,Q⟩
theorem PR{b:M}:∀(l:List Vl) (a:M) (c:Co),EI b c.d->(∀v,v∈l->E9 b (L c.d) v)->UV b c (Fw l a c) 0 l/\L (Fw l a c).d=c.d
 |[],a,c,h,_=>⟨UV.refl h,Q⟩
 |v::l,a,c,h,f=>by
  have d:=Ji h (a:=a)<|f v<|A9 ..;have g:L (c.set a v).d=c.d:=by simp[Co.set]
  have e:=PR l (a+1) (c.set a v) d.m (λu i=>by grind);exact⟨(d.trans e.1).less (by omega)<|by grind,by grind[Fw]⟩
theorem Qx{b:M}{c:Co}(h:EI b c.d)(f n){a:List Vl}(i:∀v,v∈a->E9 b (L c.d) v):UV b c (c.enter f n a) n a/\L (c.enter f n a).d=c.d+n:=
 have⟨d,j⟩:=Uf h f n
 have⟨e,k⟩:=PR a c.d (c.y f n) d.m λv g=>(i v g).more<|by omega
 ⟨(d.trans e).less (by omega)<|by omega,by grind[Co.enter]⟩
theorem XW{i k p q m j g:M}{c l:Co}(h:EI i c.d)(E:p<L c.d)(t:q<c.d)(B:k=4->g<i)(z:k=3->m<=3)(C:k=1->j<=4000)(b:KP k p q m j g c=T l):UV i c l 4 1:=by
 have H:=h.at_ E;have e:=h.at_ t;unfold KP at b;split at b;rename_i d;cases b;have n:=SM h<|C d;have F:L (c.xK j).d=c.d+4:=by simp[Co.xK]
 have u:=Ji n.m (a:=p) (v:=⟨2,c.d⟩)<|zn<|zn ⟨Q,by simp only;omega⟩;exact(n.trans u).less (by omega) (by omega);split at b;cases b;exact(Ji h<|zn<|zn ⟨Q,t⟩).less (by omega) (by omega);split at b;rename_i d;split at b;rename_i s;cases b;have f:(CM c.d q).v.c<c.d:=by
  rcases e.2 with⟨r,_⟩|⟨r,_⟩|⟨_,r⟩
  omega;omega;exact r
 have y:=(h.at_ f).1;refine(Ji h<|zn<|zn ⟨Q,?_⟩).less (by omega) (by omega);rcases y with r|⟨_,_,_,_,r⟩
 omega;have:=z d;have:=s.2.2;simp only;omega;cases b;split at b;rename_i d;cases b;exact(Ji h<|zn<|zo ⟨Q,B d⟩).less (by omega) (by omega);split at b;split at b;rename_i s;cases b;have f:(CM c.d q).v.c<c.d:=by
  rcases e.2 with⟨r,_⟩|⟨r,_⟩|⟨_,r⟩
  omega;omega;exact r
 exact(Ji h (h.at_ f).2).less (by omega) (by omega);cases b;split at b;cases b;exact(Ji h e.2).less (by omega) (by omega);split at b;split at b;cases b;exact(Ji h e.2).less (by omega) (by omega);cases b;cases b;exact(UV.refl h).less (by omega) (by omega)
structure tJ(o:Cc)(w:Cf)(vs:Cc)(s:VS):Prop where
 tg:s.e≠0->s.e≠10->s.tg.a∈vs
 func:s.e=4\/s.e=7->s.sr.a∈o
 many:s.e=7->w[vx o s.sr.a]?.getD 0=s.k.length
 sr:s.e=2\/s.e=3\/s.e=5\/s.e=6\/s.e=8\/s.e=9\/s.e=10->s.sr.a∈vs
 k:s.e=7\/s.e=8->∀t,t∈s.k->t.a∈vs
 wU:s.e=3->s.wU<=3
mutual
def uD(o:Cc)(w:Cf)(vs:Cc):TS->Prop
 |.mk s []=>s.e<=10/\tJ o w vs s
 |.mk s [(_,ts)]=>(s.e=11\/s.e=12)/\Vc o w vs ts
 |.mk s [(_,ts),(_,ts2)]=>s.e=11/\Vc o w vs ts/\Vc o w vs ts2
 |.mk _ (_::_::_::_)=>zv
def Vc(o:Cc)(w:Cf)(vs:Cc):Dj->Prop
 |[]=>True
 |t::ts=>uD o w vs t/\Vc o w vs ts
end
structure vL(o:Cc)(w:Cf)(X:FZ):Prop where
 len:X.length=o
 us:∀f,Vc o w (CP X f).y (CP X f).i
 xE:∀f,(CP X f).y.length<=12
 pm:∀f,(CP X f).m<=(CP X f).y
 yB:∀f,f<X.length->w[f]?.getD 0=(CP X f).m
 pl:∀f,(CP X f).pl+nL 1 (CP X f).i<=4000
 g:∀f,(CP X f).g+nL 8 (CP X f).i<=4000
structure TV(K nf:M)(S:RS):Prop where
 m:EI nf S.c.d
 R:S.c.d+20*S.left<=K
 pl:S.c.x.length+S.c.xG+20*S.left<=K
 gv:E9 nf S.c.d S.xP
structure UZ(K nf:M)(S S':RS):Prop where
 inv:TV K nf S'
 lo:S.c.d.length<=S'.c.d
 left:S'.left<=S.left
theorem EF{l:Cc}{s:Cd}(h:s∈l):vx l s<l/\D9 l s 0=(vx l s:zw):=by have a:=Et l s 0;grind[vx]
def mZ(o:Cc)(w:Cf)(X:FZ)(F:M):Prop:=∀(K a c:M) (b:Dj) (d e:M) (S:RS),
 TV K (L o) S->S.left<F->c+L (CP X a).y<=S.c.d->Vc o w (CP X a).y b->d+nL 1 b<=4000->UZ K (L o) S (Da X o F a c b d e S).2
section
variable{o:Cc}{w:Cf}{X:FZ}(x:vL o w X)
include x
theorem VQ{F K f p:M}{d:List Vl}{S:RS}(q:mZ o w X F)(j:EI (L o) S.c.d)(C:S.c.d+20*S.left+14<=K)(E:L S.c.x+S.c.xG+20*S.left+14<=K)(l:E9 o S.c.d S.xP)(m:S.left<F)(k:∀v,v∈d->E9 o S.c.d v)(N:L d<=12):
 UZ K (L o) S (JK X (Da X o F) f d p S).2:=by
 unfold JK Fe;by_cases h:S.u=40;simp only[Bb h,BD];exact⟨⟨j,by grind,by grind,l⟩,Ad _,Ad _⟩;simp only[Ba h];have H:=x.xE f;have⟨i,B⟩:=Qx j f (CP X f).y k;have I:=q (K-1) f S.c.d (CP X f).i (CP X f).pl (CP X f).g {S with c:=S.c.enter f (CP X f).y d,u:=S.u+1,xP:=Hd} ⟨i.m,by grind,by have:=i.se;grind,LF _ _⟩ m (by grind) (x.us f)<|x.pl f;generalize Da X o F f (L S.c.d) (CP X f).i (CP X f).pl (CP X f).g {S with c:=S.c.enter f (L (CP X f).y) d,u:=S.u+1,xP:=Hd}=r at I|-;have⟨b,n,g⟩:=I;simp only at n g;have s:=b.R;have t:=b.pl;split;exact⟨⟨b.m,by grind,by grind,b.gv⟩,by grind,g⟩;have e:=Ji b.m (a:=p) b.gv;have u:=e.hi;have y:=e.se;have z:=e.lo;exact⟨⟨e.m,by grind,by grind,LF _ _⟩,by grind,g⟩
omit x in
theorem SZ{F K b base g ca:M}{d:Dj}(l:mZ o w X F)(j:Vc o w (CP X b).y d)(k:g+nL 1 d<=4000):∀(n:M) (S:RS),TV K (L o) S->S.left<F->base+L (CP X b).y<=L S.c.d->UZ K o S (Hw (Da X o F b base d g ca) n S).2
 |0,S,h,_,_=>⟨h,Ad _,Ad _⟩
 |n+1,S,h,q,p=>by
  unfold Hw;simp only;split
  .exact⟨⟨h.m,h.R,h.pl,h.gv⟩,Ad _,Ad _⟩
  .have I:=l K b base d g ca {S with c:={S.c with N:=(Ii S.c.N).2}} ⟨h.m,h.R,h.pl,h.gv⟩ q p j k;generalize Da X o F b base d g ca {S with c:={S.c with N:=(Ii S.c.N).2}}=r at I|-;obtain⟨a,e,f⟩:=I;simp only at e f;split
   .exact⟨a,e,f⟩
   .split
    .exact⟨⟨a.m,a.R,a.pl,a.gv⟩,e,f⟩
    .have s:=a.R;have t:=a.pl;have i:=SZ (K:=K) (base:=base) (ca:=ca) l j k n r.2.one ⟨a.m,by grind[RS.one],by grind[RS.one],a.gv⟩ (by grind[RS.one]) (by grind[RS.one]);have m:r.2.one.left<=r.2.left:=Nat.sub_le _ _;exact⟨i.inv,As e i.lo,As i.left<|As m f⟩
theorem VR{F K fi base pl ca:M}{t:TS}{S:RS}(n:mZ o w X F)(d:EI (L o) S.c.d)(h1:S.c.d+20*S.left+20<=K)(h2:L S.c.x+S.c.xG+20*S.left+20<=K)(m:E9 o S.c.d S.xP)(j:S.left<F)(E:base+L (CP X fi).y<=S.c.d)(i:uD o w (CP X fi).y t)(u:pl+nK 1 t<=4000):
 UZ K (L o) S (Ec X o (Da X o F) F fi base t pl ca S).2:=by
 have hI:∀(h:RS),h.c.d=S.c.d->h.c.x=S.c.x->h.c.xG=S.c.xG->h.left=S.left->E9 o S.c.d h.xP->UZ K o S h:=λh e1 e2 e3 e4 e5=>⟨⟨by grind,by grind,by grind,by grind⟩,by grind,by omega⟩
 have V:∀(l:Dw),(∀t,t∈l->t.a∈(CP X fi).y)->∀v,v∈EJ S.c.d base (l.map λt=>vx (CP X fi).y t.a)->E9 o S.c.d v:=by intro l j v R;unfold EJ at R;rw[List.map_map]at R;obtain⟨t,ht,rfl⟩:=AS.1 R;have:=(EF<|j t ht).1;exact(d.at_<|by grind).2
 unfold Ec;match t,i,u with
 |.mk v [],i,u=>
  have⟨H,a⟩:=i;have a0:v.e=1->pl+1<=4000:=λe=>by grind[nK]
  simp only;split;grind;rename_i k0;rw[Ba<|by omega,Ba<|by omega];split;rename_i a1;have:=(EF<|a.sr<|by omega).1;exact hI _ Q Q Q Q (d.at_<|by omega).2;rename_i a1;split;rename_i y;have a5:=a.func<|zn y;have⟨a6,_⟩:=EF a5;have a7:=a.many y;rw[x.yB _<|by rw[x.len];exact a6]at a7;have:=x.pm<|vx o v.sr.a;have:=x.xE<|vx o v.sr.a;exact VQ x n d (by omega) (by omega) m j (V _<|a.k<|zo y) (by grind[EJ]);rename_i y;split;rename_i k8;split;rename_i hc;have:=x.pm (CM S.c.d<|base+vx (CP X fi).y v.sr.a).v.c;have:=x.xE (CM S.c.d<|base+vx (CP X fi).y v.sr.a).v.c;have he:L (if S.u<40 then(ca+1,(CM S.c.d<|base+vx (CP X fi).y v.sr.a).v.c)::S.c.xG else S.c.xG)<=S.c.xG+1:=by grind
  have C:=VQ x n (p:=base+vx (CP X fi).y v.tg.a) (f:=(CM S.c.d<|base+vx (CP X fi).y v.sr.a).v.c) (K:=K) (S:={S with c:={S.c with xG:=if S.u<40 then(ca+1,(CM S.c.d<|base+vx (CP X fi).y v.sr.a).v.c)::S.c.xG else S.c.xG}}) d (by grind) (by grind) m j (V _<|a.k<|zn k8) (by grind[EJ]);exact⟨C.inv,C.lo,C.left⟩;grind;rename_i k8;have hP:=(EF<|a.tg k0 a1).1;have hQ:v.e≠1->v.e≠4->base+vx (CP X fi).y v.sr.a<S.c.d:=λe1 e4=>by have:=(EF<|a.sr<|by omega).1;omega
  cases a4:KP v.e (base+vx (CP X fi).y v.tg.a) (base+vx (CP X fi).y v.sr.a) v.wU (pl+1) (vx o v.sr.a) S.c with
  |none=>grind
  |some c=>
   have s:UV o S.c c 4 1:=by
    by_cases q:v.e=1\/v.e=4;have e:KP v.e (base+vx (CP X fi).y v.tg.a) (base+vx (CP X fi).y v.tg.a) v.wU (pl+1) (vx o v.sr.a) S.c=c:=by grind[KP]
    exact XW d (by omega) (by omega) (λe=>(EF<|a.func<|zo e).1) (λe=>a.wU e) a0 e;exact XW d (by omega) (hQ (by omega)<|by omega) (λe=>(EF<|a.func<|zo e).1) (λe=>a.wU e) a0 a4
   have g1:=s.hi;have g2:=s.se;have U:=s.lo;exact⟨⟨s.m,by grind,by grind,m.more U⟩,U,Ad _⟩
 |.mk v [(pp,g)],i,u=>
  have⟨H,a⟩:=i;have N:pl+nL 1 g<=4000:=by grind[nK,nB]
  simp only;rw[Ba<|by omega];have I:=λ(k:Dj) (B:Vc o w (CP X fi).y k) (r z:M) (P:r+nL 1 k<=4000)=>n K fi base k r z {S with c:={S.c with N:=(Ii S.c.N).2}} ⟨d,by grind,by grind,m⟩ j E B P
  split;split;have b:=I g a pl ca N;exact⟨b.inv,b.lo,b.left⟩;have b:=I [] trivial (pl+nL 1 g) (ca+nL 8 g) (by grind[nL]);exact⟨b.inv,b.lo,b.left⟩;rw[Bb<|by omega];exact SZ n a N F S ⟨d,by omega,by omega,m⟩ j E
 |.mk v [(pp,g),(a8,a2)],i,u=>
  have⟨H,a,a3⟩:=i;have N:pl+nL 1 g+nL 1 a2<=4000:=by grind[nK,nB]
  simp only;rw[Ba<|by omega,Bb H];have I:=λ(k:Dj) (B:Vc o w (CP X fi).y k) (r z:M) (P:r+nL 1 k<=4000)=>n K fi base k r z {S with c:={S.c with N:=(Ii S.c.N).2}} ⟨d,by grind,by grind,m⟩ j E B P
  split;have b:=I g a pl ca (by omega);exact⟨b.inv,b.lo,b.left⟩;have b:=I a2 a3 (pl+nL 1 g) (ca+nL 8 g) (by omega);exact⟨b.inv,b.lo,b.left⟩
theorem Nh:∀F:M,mZ o w X F
 |0=>λ_ _ _ _ _ _ _ _ h=>by omega
 |F+1=>by
  intro K d b f a c S h v n e l;match f,e,l with
  |[],_,_=>exact⟨h,Ad _,Ad _⟩
  |t::f,e,l=>
   have p:a+nK 1 t+nL 1 f<=4000:=by grind[nL]
   rw[Da];by_cases k:S.left=0
   .rw[Bb k];exact⟨⟨h.m,h.R,h.pl,h.gv⟩,Ad _,Ad _⟩
   .rw[Ba k];have s:=h.R;have u:=h.pl;have j:=VR x (K:=K) (Nh F) (pl:=a) (ca:=c) (fi:=d) (base:=b) (t:=t) (S:=S.one) h.m (by grind[RS.one]) (by grind[RS.one]) h.gv (by grind[RS.one]) n e.1 (by omega);simp only;generalize Ec X o (Da X o F) F d b t a c S.one=r at j|-;obtain⟨m,i,q⟩:=j;simp only[RS.one]at i q;split
    .exact⟨m,i,by grind⟩
    .have g:=Nh F K d b f (a+nK 1 t) (c+nK 8 t) r.2 m (by omega) (by omega) e.2 p;exact⟨g.inv,As i g.lo,by have:=g.left;omega⟩
end
def Sg(t:Tg):Prop:=t.e<=2/\t.B<=200000/\t.F<=200000
def lK(p:Tg×Tg):Value:=N' #[p.1.e,p.1.B,p.1.F,p.2.e,p.2.B,p.2.F]
def gZ(p:M×M):Value:=N' #[p.1,p.2]
theorem ZP:laidOutB zy=zt:=by kernel_rfl
theorem V0:Keyed zy 242:=Keyed.of_law<|deep_law_laid ZP (m:=5) (by omega) (of_decide_eq_true Q) (by kernel_rfl)<|by rw[underlying242]
theorem VZ:Keyed zy 245:=Keyed.of_law<|deep_law_laid ZP (m:=5) (by omega) (of_decide_eq_true Q) (by kernel_rfl)<|by rw[underlying245]
theorem Lj(h:B<=200000):(Lit.int .i64 (B:zw)).wf=zt:=WalkArith.wf_i64<|by omega
theorem RQ:∃m,Tryz.prog.types.size=m+5:=
 have h:5<=Tryz.prog.types.size:=of_decide_eq_true<|by kernel_rfl
 Nat.exists_eq_add_of_le' h
theorem iV{c d q r s t}(b:q4.underlying q0=T (.struct #[{name:=c,type:=n8,offset:=0,embedded:=false,tag:=s,pkgPath:=q,byteOffset:=B},{name:=d,type:=n8,offset:=1,embedded:=false,tag:=t,pkgPath:=r,byteOffset:=C}]))(o:q4.underlying n8=T (.int .i64))(g:(c != "_")=zt)(h:(d != "_")=zt)
 (p:q4.keyType q0=zt)(j:q4.cellsOf q0=2)(n:q4.cellsOf n8=1)(a:∃m,q4.types.size=m+5){y}(e:(Lit.int .i64 q8).wf=zt)(f:(Lit.int .i64 y).wf=zt):∃l,keyOf q4 q0 (N' #[q8,y])=T l:=by
 have⟨m,a⟩:=a;unfold keyOf;rw[b];simp[p,Value.formed,j,a,Program.keyLits,b,o,n,e,f,Value.cells,g,h]
theorem qW{p}(a:p.1<=200000)(b:p.2<=200000):∃l,keyOf zy 245 (gZ p)=T l:=
 iV underlying245 underlying3 (by decide) (by decide) (by kernel_rfl) Q Q RQ (Lj a) (Lj b)
theorem Tc{i:TypeId}{e f g s t u:String}{v w x:String}(p:q4.underlying q0=T (.struct #[{name:=e,type:=n8,offset:=0,embedded:=false,tag:=v,pkgPath:=s,byteOffset:=B},{name:=f,type:=i,offset:=1,embedded:=false,tag:=w,pkgPath:=t,byteOffset:=C},{name:=g,type:=i,offset:=2,embedded:=false,tag:=x,pkgPath:=u,byteOffset:=R}]))
 (r:q4.underlying n8=T (.int .i64))(q:q4.underlying i=T (.int .i64))(y:(e != "_")=zt)(z:(f != "_")=zt)(E:(g != "_")=zt)(l:q4.cellsOf q0=3)(n:q4.cellsOf n8=1)(o:q4.cellsOf i=1)(m){a b:zw}(h:(Lit.int .i64 q8).wf=zt)(j:(Lit.int .i64 a).wf=zt)(k:(Lit.int .i64 b).wf=zt):
 q4.keyLits (m+2) q0 [G A q8,a,b]=T [Lit.int .i64 q8,Lit.int .i64 a,Lit.int .i64 b]:=by
 unfold Program.keyLits;rw[p];simp only;rw[Bb ⟨by rw[l];rfl,by grind⟩];simp[Program.keyLits,r,q,n,o,h,j,k]
theorem oP{d i v w p1 p2 s t u q1 q2 q3 t1 t2 u1 u2 u3}(e:q4.underlying q0=T (.struct #[{name:=v,type:=n8,offset:=0,embedded:=false,tag:=t1,pkgPath:=p1,byteOffset:=B},{name:=w,type:=n8,offset:=3,embedded:=false,tag:=t2,pkgPath:=p2,byteOffset:=C}]))
 (p:q4.underlying n8=T (.struct #[{name:=s,type:=d,offset:=0,embedded:=false,tag:=u1,pkgPath:=q1,byteOffset:=R},{name:=t,type:=i,offset:=1,embedded:=false,tag:=u2,pkgPath:=q2,byteOffset:=X},{name:=u,type:=i,offset:=2,embedded:=false,tag:=u3,pkgPath:=q3,byteOffset:=v0}]))
 (r:q4.underlying d=T (.int .i64))(q:q4.underlying i=T (.int .i64))(h1:(v != "_")=zt)(h2:(w != "_")=zt)(f:(s != "_")=zt)(g:(t != "_")=zt)(h:(u != "_")=zt)
 (hk:q4.keyType q0=zt)(j:q4.cellsOf q0=6)(a:q4.cellsOf n8=3)(n:q4.cellsOf d=1)(o:q4.cellsOf i=1)(b:∃m,q4.types.size=m+5){x y z E F}(H:(Lit.int .i64 q8).wf=zt)(I:(Lit.int .i64 x).wf=zt)(K:(Lit.int .i64 y).wf=zt)(N:(Lit.int .i64 z).wf=zt)(S:(Lit.int .i64 E).wf=zt)(U:(Lit.int .i64 F).wf=zt):
 ∃l,keyOf q4 q0 (N' #[q8,x,y,z,E,F])=T l:=by
 have⟨m,b⟩:=b;have V:=Tc p r q f g h a n o (m+3) H I K;have g2:=Tc p r q f g h a n o (m+3) N S U;unfold keyOf;rw[e];simp only;rw[Bb<|by simp[hk,Value.formed,j,e],b];unfold Program.keyLits;rw[e];simp only;rw[Bb ⟨by rw[j];rfl,by grind⟩];simp[a,Value.cells,V,g2]
theorem qX{p}(a:Sg p.1)(b:Sg p.2):∃l,keyOf zy 242 (lK p)=T l:=
 oP underlying242 underlying228 underlying226 underlying3 (by decide) (by decide) (by decide) (by decide) (by decide) (by kernel_rfl) Q Q Q Q RQ (Lj<|by have:=a.1;omega) (Lj a.2.1) (Lj a.2.2) (Lj<|by have:=b.1;omega) (Lj b.2.1) (Lj b.2.2)
def Hh{c:Type}(k:TypeId)(mk:c->H')(b:M)(l:List c)(w:I'):Prop:=
 ∃(n:M) (a:Cm),n<=l/\w.ownsMap zy k unitElem b n a/\∀x,Maps.has a x=zt↔∃p,p∈l/\keyOf zy k (mk p)=T x
theorem Hh.none(k)(mk:z9->H')(w:I'):Hh k mk w []<|w.alloc<|.map #[] 0:=
 ⟨0,.map [],Ad _,World.ownsMap_made w _ _ _,λx=>by simp[Maps.has_eq]⟩
theorem Hh.lt{mk:z9->H'}{l}(h:Hh q0 mk B l P):B<P:=by have⟨n,a,_,h,_⟩:=h;exact h.lt
theorem Hh.j{mk:z9->H'}{l}{X:Ce}{w w'}(h:Hh q0 mk B l w)(i:O X w w')(j:¬X B):Hh q0 mk B l w':=
 have⟨n,c,f,⟨e,d,a,r⟩,g⟩:=h
 ⟨n,c,f,⟨e,d,by rw[i.block B (lt_of_block a) j];exact a,r⟩,g⟩
theorem Hh.ne{mk:z9->H'}{l}(h:Hh q0 mk B l P){a}(m:P.heap[C]? =T (R' q1 n8 a)):B≠C:=by have⟨n,d,g,⟨f,e,j,r⟩,i⟩:=h;grind
theorem Hh.add{e:TypeId}{mk:z9->H'}{l:List z9}{w:I'}{p:z9}{x:Lit}(h:Hh q0 mk B l w)(K:Keyed zy q0)(j:Tryz.prog.underlying n8=T (.map q0 e))(s:L l<=300000)(c:keyOf zy q0 (mk p)=x):
 ∃a,(Instr.mapUpdate n8 (.map<|T B) (mk p)<|N' #[]).run zy w=.ok () a/\Hh q0 mk B (p::l) a/\O (λq0=>q0=B) w a:=by
 have⟨n,o,q,d,r⟩:=h;have⟨a,i,f,g⟩:=World.ownsMap.store d K j (by grind[E']) c unitElem_mk;refine⟨a,i,⟨n+1,_,by simp;omega,f,λy=>?_⟩,(CT _ w).xA (World.mapTurned.grown g) λq0 c=>zo<|by cases c;rfl⟩;by_cases m:y=x;subst m;rw[Maps.has_put_same (World.ownsMap.isMap d)<|K.key c];grind;grind[Maps.has_put_other]
abbrev mA:Cd:=⟨#[48,49,50,51,52,53,54,55,56,57]⟩
theorem aG:∀n:M,n<10->(mA.extract n<|n+1).data.toList=[UInt8.ofNat<|48+n]:=by decide+kernel
theorem F7{l:Cj}(h:u0.data.toList=l):u0=⟨l.toArray⟩:=by subst h;grind
theorem Ho:∀n:M,(Lib.decDigits n)<=n+1:=by
 intro n;induction n using Nat.strongRecOn with
 |ind n a=> rw[Lib.decDigits];split;simp;have:=a (n / 10) (by omega);simp only[Ah,Az];omega
theorem eQ(r:M)(h:r<10)(a:I'):(Instr.sliceAt 9 mA (T r) (T<|G A<|(r:zw)+1) Z).run zy a=.ok (mA.extract r<|r+1) a:=by
 have e:r=0\/r=1\/r=2\/r=3\/r=4\/r=5\/r=6\/r=7\/r=8\/r=9:=by omega
 rcases e with rfl|rfl|rfl|rfl|rfl|rfl|rfl|rfl|rfl|rfl<;>(show _=_)<;>kernel_rfl
theorem Jx:∀(n:M),n<=100000->∀(w:I'),F' zy 22 #[n] w λe v=>e=Y' ⟨(Lib.decDigits n).toArray⟩/\∃m,v=w.drewN m:=by
 intro n;induction n using Nat.strongRecOn with
 |ind n g=>
  intro z w;by_cases h:n<10
  .have l:=LH (p:=(n:zw)<10) (by omega);have c:D<|mA.extract n (n+1)=⟨(Lib.decDigits n).toArray⟩:=F7 (by rw[aG n h,Lib.decDigits_one h]);clear g;go_in;go_wp2;go_ret;exact⟨BG (λs=>T'<|Y' s) c.o,0,Q⟩
  .have l:=Hz (p:=(n:zw)<10) (by omega);have⟨i,d⟩:=Dv<|Lib.decDigits<|n / 10;have o:=Ho<|n / 10;have a:=g (n / 10) (by omega) (by omega);rw[d]at o a;have a:=J a;have⟨r,j⟩:=Dv<|n % 10;have k:r<10:=by omega
   have q:=eQ r k;have⟨x,f⟩:=Dv<|mA.extract r<|r+1;have b:=aG r k;have E:x.size=1:=by
    have:L x.data.toList=1:=by rw[<-f,b];rfl
    simpa using this
   rw[f]at b q;have c:D<|(⟨i.toArray⟩:Cd)++x=⟨(Lib.decDigits n).toArray⟩:=F7 (by
    have e:Lib.decDigits n=Lib.decDigits (n / 10)++[UInt8.ofNat<|48+n % 10]:=by conv=>lhs;rw[Lib.decDigits,dif_neg h]
    rw[e,j,d];simp only[ByteArray.data_append,Array.toList_append,b])
   have t:D<|(n:zw) / 10=((n / 10:M):zw):=by show _=_;omega
   have u:D<|IntKind.i64.wrap ((n:zw) / 10)=((n / 10:M):zw):=by show _=_;rw[BI];omega
   have C:(n:zw).tmod 10=(r:zw):=by rw[Int.tmod_eq_emod_of_nonneg<|by omega];omega
   have B:IntKind.i64.wrap ((r:zw)+1)=(r:zw)+1:=by rw[BI];omega
   have y:¬9223372036854775807<L i+1:=by omega
   clear g j d f b;go_in;go_wp2;go_quiet((go_at_call 22;(first|rw[u.o]|rw[t.o]);exact Calls.quiet_of<|a.o _));go_wp2;go_ret;exact⟨BG (λs=>T'<|Y' s) c.o,nq,Q⟩
def Kq(a b:Cd):Bool:=zu<|a.data.toList<b.data.toList
def EP:Cc->Cd->Cc
 |[],s=>[s]
 |a::l,s=>if Kq a s then a::EP l s else if a=s then a::l else s::a::l
theorem NM{P}(w){j}{d:Exit->Act->I'->Prop}(p:p3.guard=Z)(s x t)
 (r:p3.op=.call {callee:=.builtin .append,args:=#[s,x],argTypes:=#[t,t]})
 (k e i C)(f:P.underlying t=T (.slice e))(q:P.info? e=T i)(g b n E)(y:u4.eval s=Y (T ⟨g,0,Z⟩) n b)(u:J' w k e C (Y (T ⟨g,0,Z⟩) n b) n E)
 (c)(B:u4.eval x=Y Z 0 c)(h:wpList P z5 d j (u4.put p3.dst<|Y (T ⟨g,0,Z⟩) n b) w):wpList P z5 d (p3::j) u4 w:=
 wpList_plain p λK m=>by
  have R:n<=b:=by
   rcases u.2 with⟨l,_⟩|⟨I,F,H,z,_,_,N,_⟩
   .simp at l
   .simp only[BU]at z;omega
  have v:=run_append_room_src (P:=P) w t t p3.type e i f q g 0 n b (Y Z 0 c) 0 [] (Src.ofNil w f c) (by omega) (by simp) (by simp);unfold Oper.wp;simp[execOp,r,resolve,invoke,builtin,y,B,v,Result.andThen];exact m _ _ h
theorem cZ(h:J' P B q0 C V (R+1) y1):∃g c,V=Y (T ⟨g,0,Z⟩) (R+1) c:=by
 rcases h.2 with⟨_,i⟩|⟨b,a,f,d,_⟩
 omega;exact⟨b,a,d⟩
theorem Uu(h:J' P B q0 C (Y R X v0) p0 y1):p0<=v0:=by
 rcases h.2 with⟨a,_⟩|⟨i,d,f,b,_,_,j,_⟩
 simp at a;simp only[BU]at b;omega
theorem Xe(h:CK B P (Y (T ⟨C,0,Z⟩) R X) n0)(k):∀j u,((n0.drop k).map Y')[j]? =T u->K' P ((⟨C,k,Z⟩:A').add j)=T u:=by
 intro j u a;cases CU h;rw[AI,List.getElem?_drop]at a;have d:k+j<n0:=by grind
 have b:=h.cellAt (k+j) (by omega);grind[Addr.add_lit]
theorem oM(h:B<n0)(a:Kq n0[B] u0=zt):n0.take B++EP (n0.drop B) u0=n0.take (B+1)++EP (n0.drop<|B+1) u0:=by grind[List.drop_eq_getElem_cons,EP]
theorem oK(h:B<n0)(b:Kq n0[B] u0=zr)(a:n0[B]=u0):EP (n0.drop B) u0=n0.drop B:=by grind[List.drop_eq_getElem_cons,EP]
theorem oN(h:B<n0)(b:Kq n0[B] u0=zr)(a:n0[B]≠u0):EP (n0.drop B) u0=u0::n0.drop B:=by grind[List.drop_eq_getElem_cons,EP]
theorem Jp(B v l s w)(h:CK B w v l)(hl:L l<=1000000):
 F' zy 47 #[v,Y' s] w λe w'=>∃m,e=T' m/\CK w.heap.size w' m (EP l s)/\O Cb w w':=by
 have⟨t,r,I,K,N⟩:=Bx Tryz.infoStr;obtain⟨va,vc,rfl⟩:=CB h;have⟨V,hV⟩:=Dv<|EP l s;rw[hV];have HV:D<|l.take 0++EP (l.drop 0) s=V:=hV;have HR:=J h;clear hV h;go_in;go_wp2;go_loopw[5,6] (λov i wr=>∃k:M,k<=l/\i=G A k/\D (J' wr w 9 1 ov k<|(l.take k).map Y')/\D (O Cb w wr)/\D (l.take k++EP (l.drop k) s=V)) (λ_ i _=>l-(zm i).toNat);exact⟨0,by omega,Q,An _ _ _ _,CT _ _,HV⟩;obtain⟨k,hk,rfl,d,F,S⟩:=hrel;clear HV;have C:CK B wr (Y va l vc) l:=Cx HR.o F.o λ_ _ q=>q;by_cases a0:k<l
 .obtain⟨g,rfl⟩:=CH C (by omega);have c:=C.cellAt k (by omega);rw[AI,Ag a0]at c;simp only[BA]at c;have lg:=(C.lt g Q).2;have b8:=(HR.o.lt g Q).2;have a6:Op.bytesLess l[k].toList s.toList=Kq l[k] s:=by unfold Kq;rw[bytesLess_eq,Lib.toList_data,Lib.toList_data]
  cases R:Kq l[k] s with
  |true=> rw[R]at a6;have o:=J<|(oM a0 R).symm.trans S.o;have b3:=J<|AK a0;generalize l[k]=a at*;have l0:=F.o.size;clear S R;go_wp2_with(at_builtin;refine AO _ Q _ _ 47 Q w 9 t ByteArray.empty 1 16 underlying47 r I K N Q (by decide) _ _ _ Q (d.o.alloc _) wr 1 1 [Y' a] Q Q (cell_one_new _ _ _) (λx b=>by simp at b;subst b;rfl) (by unfold E';omega) (by omega) (by simp;omega) ?_;intro m z H E a1);have a8:=J H;have b0:=J<|O.xA (F.o.alloc _) E λj f=>zn (d.o.lt j f).1;clear H E a1 d F;go_wp2;go_roundw;exact⟨k+1,by omega,by go_num,by rw[b3.o,Bn];exact a8,b0,o⟩;simp[intOf];omega
  |false=>
   rw[R]at a6;have b6:=Uu C;have b7:¬vc=k:=by omega
   have hz:=F.o.size;by_cases he:l[k]=s
   .have b1:(l[k].toList==s.toList)=zt:=by rw[he];simp
    have o:D<|l.take k++l.drop k=V:=by rw[<-oK a0 R he];exact S.o
    have a3:=J C;generalize l[k]=a at*;clear S R he C;go_wp2_with(at_builtin;refine AO _ Q _ _ 47 Q w 9 t ByteArray.empty 1 16 underlying47 r I K N Q (by decide) _ _ _ Q d.o (g,k) (l-k) (vc-k) ((l.drop k).map Y') Q (by simp) (Xe a3.o k) (λx b=>by obtain⟨y,_,rfl⟩:=AS.1 b;rfl) (by unfold E';omega) (by omega) (by omega) ?_;intro m z H E a1);go_wp2;go_ret;refine⟨m,Q,?_,O.xA F.o E λj f=>zn (d.o.lt j f).1⟩;unfold CK;rw[<-o.o,Bn];have e:L (l.take k++l.drop k)=k+(L l-k):=by simp;omega
    rw[e];exact H
   .have b1:(l[k].toList==s.toList)=zr:=by
     cases hq:(l[k].toList==s.toList)with
     |false=>rfl
     |true=>exact Bm (EQ<|by simpa using hq) he
    have o:D (l.take k++s::l.drop k=V):=by rw[<-oN a0 R he];exact S.o
    have a3:=J C
    generalize l[k]=a at*
    clear S R he C
    have P:True:=trivial
    have a9:∀W',(wr.alloc<|R' #[s] 9).grownBy W' (L' u5)->CK B W' (Y g l vc) l:=λW' hg=>Cx a3.o (X:=λj=>L' u5=T j) (O.xA ((CT _ _).alloc _) hg λj f=>zo f) (λj f q=>by simp[L']at f;subst f;have:=(d.o.lt _ q).1;omega)
    go_wp2_with(first|(at_builtin;have _t:=P;refine AO _ Q _ _ 47 Q w 9 t ByteArray.empty 1 16 underlying47 r I K N Q (by decide) _ _ _ Q (d.o.alloc _) wr 1 1 [Y' s] Q Q (cell_one_new _ _ _) (λx b=>by simp at b;subst b;rfl) (by unfold E';omega) (by omega) (by simp;omega) ?_;intro v2 U n p a4;clear P)|(at_builtin;refine AO _ Q _ _ 47 Q w 9 t ByteArray.empty 1 16 underlying47 r I K N Q (by decide) _ _ _ Q n (g,k) (l-k) (vc-k) ((l.drop k).map Y') Q (by simp) (Xe (a9 _ p) k) (λx b=>by obtain⟨y,_,rfl⟩:=AS.1 b;rfl) (by unfold E';omega) (by omega) (by have:=p.size;simp at this;omega) ?_;intro m z H E a1))
    go_wp2
    go_ret
    refine⟨m,Q,?_,O.xA (O.xA (F.o.alloc _) p λj f=>zn (d.o.lt j f).1) E λj f=>zn (n.lt j f).1⟩
    unfold CK
    have e:V=k+1+(l-k):=by rw[<-o.o];simp;omega
    have e2:V.map Y'=(l.take k).map Y'++[Y' s]++(l.drop k).map Y':=by rw[<-o.o];simp
    rw[e,e2]
    exact H
 .have e:k=l:=by omega
  subst e;have o:l++[s]=V:=by have:=S.o;simpa[EP]using this
  have o:=J o;have hz:=F.o.size;have d:J' wr w 9 1 u5 l<|l.map Y':=by have:=d.o;simpa using this
  have d:=J d;clear S;have P:True:=trivial;have a5:∀(m:H') (U z:I') (v2:H'),(wr.alloc<|R' #[s] 9).grownBy U (L' u5)->J' U w 9 1 v2 (L l+1) (l.map Y'++[Y' s])->U.grownBy z (L' v2)->J' z w 9 1 m (L l+1) (l.map Y'++[Y' s])->CK w z m V/\O Cb w z:=by intro m U z v2 h1 h2 h3 h4;refine⟨?_,O.xA (O.xA (F.o.alloc _) h1 λj f=>zn (d.o.lt j f).1) h3 λj f=>zn (h2.lt j f).1⟩;unfold CK;rw[<-o.o];simpa using h4
  have a2:=J a5;clear a5;rcases C.2 with⟨h2,h0⟩|⟨g,b4,b5,a7,_⟩
  .simp only[BU]at h2;obtain⟨rfl,h2,rfl⟩:=h2;have b2:l=[]:=List.eq_nil_of_length_eq_zero h2;subst b2;simp only[Aw,List.map_nil,A8,AM]at a2 d o|-;go_wp2_with(first|(at_builtin;have _t:=P;refine AO _ Q _ _ 47 Q w 9 t ByteArray.empty 1 16 underlying47 r I K N Q (by decide) _ _ _ Q (d.o.alloc _) wr 1 1 [Y' s] Q Q (cell_one_new _ _ _) (λx b=>by simp at b;subst b;rfl) (by unfold E';omega) (by omega) (by simp;omega) ?_;intro v2 U n p a4;clear P)|(at_builtin;obtain⟨g2,c2,rfl⟩:=cZ n;refine NM _ Q _ _ 47 Q w 9 t 1 underlying47 r g2 c2 1 _ Q n 0 Q ?_));go_wp2;go_ret;have⟨f1,f2⟩:=a2.o _ _ _ _ p n (World.grownBy.refl _ _) n;exact⟨_,Q,f1,f2⟩
  .simp only[BU]at a7;obtain⟨rfl,_,rfl⟩:=a7;by_cases hc:vc=l;focus
    subst hc;go_wp2_with(first|(at_builtin;have _t:=P;refine AO _ Q _ _ 47 Q w 9 t ByteArray.empty 1 16 underlying47 r I K N Q (by decide) _ _ _ Q (d.o.alloc _) wr 1 1 [Y' s] Q Q (cell_one_new _ _ _) (λx b=>by simp at b;subst b;rfl) (by unfold E';omega) (by omega) (by simp;omega) ?_;intro v2 U n p a4;clear P)|(at_builtin;refine AO _ Q _ _ 47 Q w 9 t ByteArray.empty 1 16 underlying47 r I K N Q (by decide) _ _ _ Q n g 0 0 [] Q Q (λj u hu=>by simp at hu) (λx b=>by simp at b) (by unfold E';omega) (by omega) (by have:=p.size;simp at this;omega) ?_;intro m z H E a1))
   rotate_left;focus
    go_wp2_with(first|(at_builtin;have _t:=P;refine AO _ Q _ _ 47 Q (w:M) 9 t (Y' ByteArray.empty) 1 16 underlying47 r I K N Q (by decide) _ _ _ Q (d.o.alloc _) ⟨(wr:M),0,Z⟩ 1 1 [Y' s] Q Q (cell_one_new _ _ _) (λx b=>by simp at b;subst b;rfl) (by unfold E';omega) (by omega) (by simp;omega) ?_;intro v2 U n p a4;clear P)|(at_builtin;refine AO _ Q _ _ 47 Q (w:M) 9 t (Y' ByteArray.empty) 1 16 underlying47 r I K N Q (by decide) _ _ _ Q n ⟨g,L l,Z⟩ 0 (vc-L l) [] Q Q (λj u hu=>by simp at hu) (λx b=>by simp at b) (by unfold E';omega) (by omega) (by have:=p.size;simp at this;omega) ?_;intro m z H E a1))
   all_goals
    go_wp2;go_ret;obtain⟨f1,f2⟩:=a2.o _ _ _ _ p n E (by simpa using H);exact⟨_,Q,f1,f2⟩
def Lh(a:Cc)(i:M):Cd:=a[i]?.getD ByteArray.empty
def Xs(X:FZ)(f i:M):Cd:=(CP X f).y[i]?.getD ByteArray.empty
def mU(a:Cc)(X:FZ)(t:Tg):Cj:=
 if t.e=1 then Lib.decDigits t.B++[46]++Lib.decDigits t.F
 else if t.e=2 then 64::(Lh a t.B).data.toList
 else(Lh a t.B).data.toList++[46]++(Xs X t.B t.F).data.toList
def UI(a:Cc)(X:FZ)(t:Tg):Cd:=⟨(mU a X t).toArray⟩
def vU(a:Cc)(X:FZ)(p:Tg×Tg):Cj:=mU a X p.1++[62]++mU a X p.2
def vT(a:Cc)(e:M×M):Cj:=[33]++Lib.decDigits e.1++[62]++(Lh a e.2).data.toList
def tN(a:Cc)(X:FZ)(p:Tg×Tg):Cd:=⟨(vU a X p).toArray⟩
def tM(a:Cc)(e:M×M):Cd:=⟨(vT a e).toArray⟩
theorem LT{b c}(h:Kq u0 b=zt)(k:Kq b c=zt):Kq u0 c=zt:=by grind[Kq]
theorem KE(a):Kq a a=zr:=by grind[Kq]
theorem Th{b}(h:Kq u0 b=zr)(c:u0≠b):Kq b u0=zt:=by grind[Kq,ByteArray.ext]
theorem Gz(s x):∀l:Cc,x∈EP l s↔x=s\/x∈l
 |[]=>by simp[EP]
 |a::l=>by
  rw[EP];split
  .rw[AY,Gz s x l,AY];grind
  grind
theorem No(s):∀l:Cc,L (EP l s)<=l+1
 |[]=>by simp[EP]
 |a::l=>by rw[EP];have:=No s l;grind
theorem GE(s):∀l:Cc,l.Pairwise (λa b=>Kq a b=zt)->(EP l s).Pairwise (λa b=>Kq a b=zt)
 |[],_=>by simp[EP]
 |a::l,h=>by
  obtain⟨d,c⟩:=List.pairwise_cons.1 h;rw[EP];split
  .rename_i f;refine List.pairwise_cons.2 ⟨λb e=>?_,GE s l c⟩;grind[Gz]
  grind[Th,List.pairwise_cons,LT]
structure IG(fn:Cc)(X:FZ)(seen:Cc)(pts:List<|Tg×Tg)(ent:List<|M×M):Prop where
 sorted:seen.Pairwise λa b=>Kq a b=zt
 d:∀x,x∈seen↔(∃p,p∈pts/\x=tN fn X p)\/(∃e,e∈ent/\x=tM fn e)
 len:seen.length<=pts+ent
theorem IG.none(a X):IG a X [] [] []:=⟨List.Pairwise.nil,λx=>by simp,by simp⟩
theorem IG.bu{a c b}(h:IG n0 o2 a c b)(p):IG n0 o2 (EP a<|tN n0 o2 p) (p::c) b:=by refine⟨GE _ _ h.sorted,λx=>?_,?_⟩;rw[Gz,h.d];grind;have:=No (tN n0 o2 p) a;have:=h.len;grind
theorem IG.entry{a c b}(h:IG n0 o2 a c b)(e):IG n0 o2 (EP a<|tM n0 e) c (e::b):=by refine⟨GE _ _ h.sorted,λx=>?_,?_⟩;rw[Gz,h.d];grind;have:=No (tM n0 e) a;have:=h.len;grind
def GT(v:Vl):zw:=if v.e=0 then 0 else if v.e=1 then -(v.c:zw)-1 else(v.c:zw)+1
def oF(i:M)(t:Tg):zw:=if t.e=1 then(i:zw)-t.F else -1
def wJ(t:Tg):zw:=if t.e=1 then t.F else 0
def fJ(a:Cc)(X:FZ)(i:M)(c:Cl):Ci:=[Y'<|UI a X c.nm,(GT c.v),(oF i c.nm),(wJ c.nm)]
def Ov(a:Cc)(X:FZ)(m:List Cl):Ci:=(m.mapIdx<|fJ a X).flatten
theorem uY(a X)(m:List Cl):∀c,c∈m.mapIdx (fJ a X)->L c=4:=by intro c b;obtain⟨i,d,rfl⟩:=AC.1 b;rw[List.getElem_mapIdx];rfl
theorem ZX(a X m)(c:B<L m)(b:C<4):(Ov a X m)[B*4+C]? =(fJ a X B m[B])[C]? :=by unfold Ov;rw[EO (uY a X m) (by grind) b,List.getElem_mapIdx]
theorem jI(a X m)(d:B<L m)(v):(Ov a X m).set (B*4+1) (G A<|GT v)=Ov a X (m.set B ⟨m[B].nm,v⟩):=by unfold Ov;rw[Hr (uY a X m) (by grind)<|by decide];congr 1;apply A5;simp;intro k b c;simp only[List.getElem_set,List.getElem_mapIdx];split;rename_i e;subst e;rfl;rfl
theorem jH(a X m l):Ov a X (m++l)=Ov a X m++(l.mapIdx λi=>fJ a X<|i+m).flatten:=by grind[Ov]
theorem cO(a X m c):Ov a X (m++[c])=Ov a X m++fJ a X m c:=by grind[jH]
def RX(c B:M)(w:I')(k:M):Prop:=k=c\/(B<=k/\∃a b,w.heap[k]? =T (R' a 183 b))
def DU(a B:M)(w b:I'):Prop:=O (RX a B w) w b
theorem DU.refl(a B w):DU a B w w:=CT _ _
theorem DU.trans{a b:I'}(h:DU B C a b)(k:DU B C b P):DU B C a P:=by refine⟨k.os.trans h.os,k.tape.trans h.tape,k.output.trans h.output,As h.size k.size,λi f d=>?_⟩;have e:=h.block i f d;rw[k.block i (Av f h.size) ?_,e];rintro(q|⟨l,g,j,q⟩);exact d<|zo q;rw[e]at q;exact d<|zn ⟨l,g,j,q⟩
theorem DU.xM{b}(h:O (λk=>k=B) P b):DU B C P b:=h.mono λ_ _ q=>zo q
theorem DU.wW{B a b}(h:O Cb a b):DU C B a b:=h.mono λ_ _ q=>q.elim
theorem DU.p{b w}(h:DU B C w P)(a:W b q1 q0 w)(c:b≠B)(f:q0≠183):W b q1 q0 P:=by apply a.j h;rintro(q|⟨_,d,e,q⟩);exact c q;have g:w.heap[b]? =_:=a;grind
theorem DU.row(h:DU B C P y0)(b:J' P R q0 X V v0 y1)(a:W B q1 58 P)(i:q0≠58)(j:q0≠183):J' y0 R q0 X V v0 y1:=by apply CD b h;rintro k c f (q|⟨_,d,g,q⟩) m;subst q;have l:P.heap[k]? =_:=a;grind;grind
structure KO(pb B:M)(U:Ce)(fv sv:H')(rf:Dd)(fs:C8)(pl ca:M)(w:I'):Prop where
 r:EB pb fv sv pl ca w
 fn:Fq B w fv rf
 st:Eh B U w sv fs
theorem KO.bo(h:KO B C z1 V z0 o0 x1 v0 p0 P)(d:DU X R P y0)(o:W X q1 58 P):KO B C z1 V z0 o0 x1 v0 p0 y0:=by
 have f:∀(k:M) (b:Cg) (t:TypeId) (c:M×M),RX X R P k->P.heap[k]? =T (R' b t c)->t=58\/t=183:=by rintro k b t c (q|⟨_,z,E,q⟩) a;subst q;have g:P.heap[k]? =_:=o;rw[a]at g;simp only[Ai,Aq]at g;exact zo g.2.1;grind
 refine⟨h.r.p.j d λq=>?_,h.fn.j d (λk a q=>?_) λk b t c q a=>?_,?_⟩;have:=f B _ _ _ q h.r;revert this;decide;have⟨l,j,_⟩:=h.fn;rcases j.2 with⟨v,_⟩|⟨F,x,y,u,_,p,_⟩
 rw[v]at a;simp[L']at a;rw[u]at a;simp[L']at a;subst a;have:=f _ _ _ _ q p;revert this;decide;grind;have⟨l,j,r,s⟩:=h.st;refine⟨l,CD j d λk b c q a=>?_,r,λi m n=>(s i m n).j d λk b t c q a=>?_⟩;have:=f k b _ c q a;revert this;decide;rcases f k b t c q a with e|e<;>(rw[e];decide)
def fO(d:M)(b:H')(a:Cd)(S:RS)(c:H'):Cg:=
 #[Z' d,b,a,S.left,S.f,S.u,S.s,c,(GT S.xP)]
structure Gu(rb pb B:M)(fn:Cc)(X:FZ)(S:RS)(mv nv:H')(ch:Cd)(seen:Cc)(w:I'):Prop where
 p:W rb (fO pb mv ch S nv) 58 w
 xS:ch.data.toList=S.c.N
 d:w.ownsRow B 183 4 mv S.c.d<|Ov fn X S.c.d
 row:CK B w nv seen
 sn:IG fn X seen S.c.x S.c.xG
 lb:B<=rb
def DJ(f e B:M)(b:Cc)(X:FZ)(S:RS)(w:I'):Prop:=∃c d a g,Gu f e B b X S c d a g w
abbrev rJ(v:Vl):Value:=N' #[v.e,v.c]
def XS(c:Cl):Ci:=[G A c.nm.e,c.nm.B,c.nm.F,c.v.e,c.v.c]
def fI(m:List Cl):Ci:=(m.map XS).flatten
def iL(f:NU):Ci:=[G A f.fn,f.wX,f.q,f.answer]
def VI(l:List NU):Ci:=(l.reverse.map iL).flatten
theorem wI(m:List Cl):∀c,c∈m.map XS->L c=5:=by intro c a;obtain⟨i,_,rfl⟩:=AS.1 a;rfl
theorem wP(m:List NU):∀c,c∈m.map iL->L c=4:=by intro c a;obtain⟨i,_,rfl⟩:=AS.1 a;rfl
theorem rW(m)(b:B<L m)(a:C<5):(fI m)[B*5+C]? =(XS m[B])[C]? :=by unfold fI;rw[EO (wI m) (by grind) a,AT]
theorem gP(m c):fI (m++[c])=fI m++XS c:=by grind[fI]
theorem Yd(l){i j}(b:i<L l)(a:j<4):(VI l)[(L l-1-i)*4+j]? =(iL l[i])[j]? :=by unfold VI;rw[EO (wP l.reverse) (by simp;omega) a,AT,List.getElem_reverse];grind
theorem Nd(l f):VI (f::l)=VI l++iL f:=by grind[VI]
theorem nW(m){i}(c:i<L m)(v):((fI m).set (i*5+3) v.e).set (i*5+4) (G A v.c)=fI (m.set i ⟨m[i].nm,v⟩):=by unfold fI;rw[Hr (wI m) (by grind)<|by decide,Hr (i:=i) ?_ (by grind) (by decide)];congr 1;apply A5;simp;intro k a b;simp only[List.getElem_set,AT];split;rename_i e;subst e;simp[XS];rename_i e;rfl;grind[List.length_set,XS]
def wD(d e b B:M)(w:I')(k:M):Prop:=k=d\/k=e\/k=b\/(B<=k/\∃a t c,w.heap[k]? =T (R' a t c)/\(t=233\/t=225))
def E8(b c a B:M)(w d:I'):Prop:=O (wD b c a B w) w d
theorem E8.refl(b c a B w):E8 b c a B w w:=CT _ _
theorem E8.trans{a b:I'}(h:E8 B C R X a b)(k:E8 B C R X b P):E8 B C R X a P:=by refine⟨k.os.trans h.os,k.tape.trans h.tape,k.output.trans h.output,As h.size k.size,λi f d=>?_⟩;have e:=h.block i f d;rw[k.block i (Av f h.size) ?_,e];rintro(q|q|q|⟨l,g,t,j,q,r⟩);exact d<|zo q;exact d<|zn<|zo q;exact d<|zn<|zn<|zo q;rw[e]at q;exact d<|zn<|zn<|zn ⟨l,g,t,j,q,r⟩
theorem E8.wW{B a}(h:O Cb a P):E8 C R X B a P:=h.mono λ_ _ q=>q.elim
def tO(e:H')(f i b:M)(a:Cd)(g j:H')(d h c:M):Cg:=
 #[e,f,i,b,a,g,j,d,.map<|T h,.map<|T c]
structure Fs(mb pm em B:M)(fv:H')(mn pn cn:M)(m:Mc)(mv rv:H')(ch:Cd)(w:I'):Prop where
 p:W mb (tO fv mn pn cn ch mv rv m.s pm em) 179 w
 xS:ch.data.toList=m.c.N
 d:w.ownsRow B 233 5 mv m.c.d<|fI m.c.d
 U:w.ownsRow B 225 4 rv m.v<|VI m.v
 x:Hh 242 lK pm m.c.x w
 xG:Hh 245 gZ em m.c.xG w
 lb:B<=mb
 ne:pm≠em
def FH(e h c B:M)(d:H')(f i b:M)(m:Mc)(w:I'):Prop:=∃g j a,Fs e h c B d f i b m g j a w
theorem Fs.t8(h:Fs B C R X V v0 p0 o1 u2 z0 s0 u0 P)(a:O Cb P y0):Fs B C R X V v0 p0 o1 u2 z0 s0 u0 y0:=
 ⟨h.p.j a id,h.xS,Cx h.d a Ed,Cx h.U a Ed,h.x.j a id,h.xG.j a id,h.lb,h.ne⟩
theorem FH.t8(h:FH B C R X V v0 p0 o1 u2 P)(b:O Cb P y0):FH B C R X V v0 p0 o1 u2 y0:=
 have⟨c,d,a,h⟩:=h
 ⟨c,d,a,h.t8 b⟩
theorem Fs.yT{B'}(h:Fs B C R X V v0 p0 o1 u2 z0 s0 u0 P){b}(a:P.heap[s2]? =T (R' q1 q0 b))(e:q0≠179)(f:q0≠233)(g:q0≠225):¬wD B C R B' P s2:=by rintro(q|q|q|⟨_,c,j,d,q,r⟩);subst q;have i:=h.p;grind[W];exact h.x.ne a q.symm;exact h.xG.ne a q.symm;grind
theorem E8.p{w}(f:E8 B C R X w P)(h:FH B C R X V v0 p0 o1 u2 w)(a:W s2 q1 q0 w)(c:q0≠179)(d:q0≠233)(e:q0≠225):W s2 q1 q0 P:=by have⟨i,j,g,h⟩:=h;exact a.j f<|h.yT a c d e
theorem E8.row(d:E8 B C R X P y0)(h:FH B C R X V p0 o1 s2 u2 P)(g:J' P v0 q0 p4 z0 s3 y1)(a:q0≠179)(b:q0≠233)(c:q0≠225):J' y0 v0 q0 p4 z0 s3 y1:=by have⟨o,p,i,h⟩:=h;exact CD g d λk j l q f=>h.yT f a b c q
theorem Fs.wrote{m' ch'}(h:Fs B C R X V v0 p0 o1 u2 z0 s0 u0 P)(i x)(b:tO V v0 p0 o1 ch' z0 s0 m'.s C R=(tO V v0 p0 o1 u0 z0 s0 u2.s C R).setIfInBounds i x)(c:ch'.data.toList=m'.c.N)(f:m'.c.d=u2.c.d)(g:m'.c.x=u2.c.x)(d:m'.c.xG=u2.c.xG)(e:m'.v=u2.v):
 Fs B C R X V v0 p0 o1 m' z0 s0 ch' (P.setCell (B,i) x)/\E8 B C R X P (P.setCell (B,i) x):=by
 have a:O (λk=>k=B) P<|P.setCell (B,i) x:=(CT _ _).wS i _;refine⟨⟨by rw[b];exact h.p.set i x,c,?_,?_,?_,?_,h.lb,h.ne⟩,a.mono λ_ _ q=>zo q⟩;rw[f];exact Cx h.d a<|CL h.d h.p nofun;rw[e];exact Cx h.U a<|CL h.U h.p nofun;rw[g];exact h.x.j a<|h.x.ne h.p;rw[d];exact h.xG.j a<|h.xG.ne h.p
def Mc.hold(m:Mc)(c:M)(v:Vl):Mc:={m with c:={m.c with d:=m.c.d.set c ⟨(CM m.c.d c).nm,v⟩}}
theorem Fs.hold(h:Fs B C R X V v0 p0 o1 u2 (Y (T ⟨s2,0,Z⟩) p4 s3) z0 u0 P){c}(f:c<L u2.c.d)(v):
 Fs B C R X V v0 p0 o1 (u2.hold c v) (Y (T ⟨s2,0,Z⟩) p4 s3) z0 u0 ((P.setCell ⟨s2,c*5+3,Z⟩<|G A v.e).setCell ⟨s2,c*5+3+1,Z⟩<|G A v.c)/\E8 B C R X P ((P.setCell ⟨s2,c*5+3,Z⟩<|G A v.e).setCell ⟨s2,c*5+3+1,Z⟩<|G A v.c):=by
 cases CU h.d;have⟨i,b⟩:=E0 h.d;have o:s2≠B:=CL h.d h.p nofun s2 Q;have p:∀k,L' z0=T k->k≠s2:=CL h.U b nofun;have j:=(h.d.lt s2 Q).1;have a:O (λk=>k=s2) P<|(P.setCell (s2,c*5+3) v.e).setCell (s2,c*5+3+1) v.c:=((CT _ _).wS _ _).wS _ _;have l:E8 B C R X P<|(P.setCell (s2,c*5+3) v.e).setCell (s2,c*5+3+1) v.c:=a.mono (λk _ q=>by subst q;exact zn<|zn<|zn ⟨j,i,_,_,b,zo Q⟩);have d:=((h.d.stored (c*5+3) v.e).1.stored (c*5+3+1) v.c).1;have e:=nW u2.c.d f v;rw[<-Dy f]at e;have d:J' _ X 233 5 _ u2.c.d<|((fI u2.c.d).set (c*5+3) v.e).set (c*5+4) v.c:=d;rw[e]at d;have r:L (u2.hold c v).c.d=u2.c.d:=by simp[Mc.hold]
 refine⟨⟨h.p.j a λq=>o q.symm,h.xS,?_,Cx h.U a p,h.x.j a<|h.x.ne b,h.xG.j a<|h.xG.ne b,h.lb,h.ne⟩,l⟩;rw[r];exact d
theorem Fs.z(h:Fs B C R X V v0 p0 o1 u2 (Y (T ⟨s2,0,Z⟩) p4 s3) z0 u0 P){c}(f:c<L u2.c.d):
 (∀j,j<5->K' P ⟨s2,c*5+j,Z⟩=(XS<|CM u2.c.d c)[j]?)/\(∀j,P.frozen? ⟨s2,j,Z⟩=zr)/\p4=L u2.c.d/\s2<P.heap.size/\s2≠B:=by
 have b:=CU h.d;subst b;have⟨e,a⟩:=E0 h.d;refine⟨λj i=>?_,λj=>CZ a j,Q,Cz a,CL h.d h.p nofun s2 Q⟩;have d:=h.d.cellAt (c*5+j) (by omega);grind[rW,Dy]
def Ib(m:List Cl):Prop:=∀i (h:i<L m),Sg m[i].nm
theorem Ib.at_{m}(h:Ib m){i}(a:i<L m):Sg (CM m i).nm:=by rw[Dy a];exact h i a
theorem JO{mk:z9->H'}{l}(h:J' P B n8 R V X y1)(d:Hh q0 mk C l P):∀j,L' V=T j->¬j=C:=by
 intro j a q;subst q;rcases h.2 with⟨o,_⟩|⟨m,g,i,f,_,c,_⟩
 grind[L'];rw[f]at a;simp[L']at a;subst a;exact d.ne c Q
theorem Oh(m:Mc)(a i:M)(v:Vl):(CM (m.hold a v).c.d i).nm=(CM m.c.d i).nm:=by grind[Mc.hold,CM]
theorem Fs.ao(h:Fs B C R X V v0 p0 o1 u2 z0 s0 u0 P)(p)(d:Sg p.1)(e:Sg p.2)(g:L u2.c.x<=300000):
 ∃b,(Instr.mapUpdate 174 (.map<|T C) (lK p)<|N' #[]).run zy P=.ok () b/\Fs B C R X V v0 p0 o1 {u2 with c:={u2.c with x:=p::u2.c.x}} z0 s0 u0 b/\E8 B C R X P b:=by
 have⟨l,f⟩:=qX d e;have⟨b,i,j,a⟩:=h.x.add V0 underlying174 g f;exact⟨b,i,⟨h.p.j a λq=>h.x.ne h.p q.symm,h.xS,Cx h.d a<|JO h.d h.x,Cx h.U a<|JO h.U h.x,j,h.xG.j a λq=>h.ne q.symm,h.lb,h.ne⟩,a.mono λ_ _ q=>zn<|zo q⟩
theorem Hs(C E I B fv mn pn cn m a v w)(h:FH C E I B fv mn pn cn m w)(ht:Ib m.c.d)(t:a<L m.c.d)(hv:E9 200000 m.c.d v)(hl:L m.c.x<=300000)(b3:L m.c.d<=200000):
 F' zy 111 #[Z' C,a,rJ v] w λe w'=>e=P' #[]/\FH C E I B fv mn pn cn {m with c:=m.c.set a v} w'/\E8 C E I B w w':=by
 have⟨V,hV⟩:=Dv<|{m with c:=m.c.set a v};rw[hV];have HV:=J hV;clear hV;have⟨mv,rv,ch,h⟩:=h;obtain⟨xa,xl,xc,rfl⟩:=CA h.d;obtain⟨g,rfl⟩:=CH h.d (by omega);obtain⟨b,p,rfl,b1,b0⟩:=h.z t;have r5:=h.p.j5;have r8:=h.p.j8;have lr:=Cz h.p;have f:=p<|a*5+3;have f4:=p<|a*5+4;have j:=b 0 (by decide);have k:=b 1 (by decide);have l:=b 2 (by decide);have c3:=b 3 (by decide);have c4:=b 4 (by decide);simp only[XS,Aa,Ab,Au]at j k l c3 c4;have a9:(a:zw)<(L m.c.d:zw):=by omega
 have⟨a2,f2⟩:=h.hold t v;have X:=((CT Cb<|(w.setCell (g,a*5+3) v.e).setCell (g,a*5+3+1) v.c).alloc<|R' #[v.e,v.c] 231).drew;have i:=a2.t8 X;have H:=W.new ((w.setCell (g,a*5+3) v.e).setCell (g,a*5+3+1) v.c) #[v.e,v.c] 231;have a7:((w.setCell (g,a*5+3) v.e).setCell (g,a*5+3+1) v.c:M)=w:=by simp
 rw[a7]at H;have a1:=W.j H ((CT Cb _).drew) id;have F:=f2.trans<|E8.wW X;clear h a2 f2 b p X H a7;unfold rJ;go_in;go_wp2_with fail;go_region;clear j k l c3 c4 f f4 r5 r8;generalize (((World.setCell w _ _).setCell _ _).alloc _).drew=W2 at*;have q:L (m.hold a v).c.d=m.c.d:=by simp[Mc.hold]
 have⟨b,p,_,b2,_⟩:=i.z (c:=a) (by rw[q];exact t);obtain⟨r5,r8⟩:=i.p.e2 5 8;have b5:=Cz i.p;obtain⟨e3,e4⟩:=a1.e2 0 1;have le:=Cz a1;have j:=b 0 (by decide);have k:=b 1 (by decide);have l:=b 2 (by decide);simp only[tO,XS,Ac,Aa,Ab,Au]at r5 r8 j k l e3 e4;have a4:=Oh m a a v;have a0:=ht.at_ t;rw[a4]at j k l;have⟨N,S⟩:=Dv<|(CM m.c.d a).nm;rw[S]at j k l a0;have HN:=J S;have n:=((CT Cb W2).alloc<|R' #[N.e,N.B,N.F] 228);have a6:L (m.hold a v).c.x<=300000:=hl;clear b p a4 S;rcases hv with⟨x,n0⟩|⟨y,n1⟩|⟨z,n2⟩
 .have d1:((v.e:zw)==1)=zr:=by simp[x]
  have d2:((v.e:zw)==2)=zr:=by simp[x]
  have d:{m with c:=m.c.set a v}=m.hold a v:=by unfold Mc.hold Co.set;simp[x]
  have s:=J d;clear q x n0 d;go_wp2_with fail;go_end0;refine⟨Q,?_,F.trans<|E8.wW n⟩;rw[<-HV.o,s.o];exact⟨_,_,_,i.t8 n⟩
 have⟨w3,r,o,f⟩:=(i.t8<|n.drew).ao (N,⟨2,v.c,0⟩) a0 ⟨by simp,by simp only;omega,by simp⟩ a6;have d:{m with c:=m.c.set a v}={(m.hold a v)with c:={(m.hold a v).c with x:=(N,⟨2,v.c,0⟩)::(m.hold a v).c.x}}:=by unfold Mc.hold Co.set;simp[y,HN.o]
 have s:=J d;have d1:((v.e:zw)==1)=zt:=by simp[y]
 have d2:((v.e:zw)==2)=zr:=by simp[y]
 have H3:=o;have F3:=(F.trans<|E8.wW<|n.drew).trans f;have r:(Instr.mapUpdate 174 (.map E) (N' #[N.e,N.B,N.F,G A 2,v.c,G A 0])<|N' #[]).run zy _=.ok () w3:=r;clear q y n1 d o f;rotate_left;have a3:v.c<(m.hold a v).c.d:=by rw[q];exact n2
 have⟨u,_,_,_,_⟩:=i.z (c:=v.c) a3;have K:=u 0 (by decide);have P:=u 1 (by decide);have R:=u 2 (by decide);simp only[XS,Aa,Ab,Au]at K P R;have a5:=Oh m a v.c v;have a8:=ht.at_ n2;rw[a5]at K P R;have⟨N2,U⟩:=Dv<|(CM m.c.d v.c).nm;rw[U]at K P R a8;have⟨w3,r,o,f⟩:=(i.t8<|n.drew).ao (N,N2) a0 a8 a6;have d:{m with c:=m.c.set a v}={(m.hold a v)with c:={(m.hold a v).c with x:=(N,N2)::(m.hold a v).c.x}}:=by unfold Mc.hold Co.set;simp[z,HN.o,U]
 have s:=J d;have d1:((v.e:zw)==1)=zr:=by simp[z]
 have d2:((v.e:zw)==2)=zt:=by simp[z]
 have H3:=o;have F3:=(F.trans<|E8.wW<|n.drew).trans f;have b4:(v.c:zw)<(L m.c.d:zw):=by omega
 unfold lK at r;simp only at r;clear q z n2 a3 d o f u U a5;all_goals
  go_wp2_with fail;go_region;go_wp2_with fail;go_end0;refine⟨Q,?_,F3⟩;rw[<-HV.o,s.o];exact⟨_,_,_,H3⟩
theorem Yo(h k j B r u x o m v y a w)(f:Fs h k j B r u x o m v y a w):
 F' zy 119 #[Z' h] w λe z=>e=(Ii m.c.N).1/\(∃n,Fs h k j B r u x o {m with c:={m.c with N:=(Ii m.c.N).2}} v y n z)/\E8 h k j B w z:=by
 have K:=Cz f.p;have N:=f.p.j4;have F:=f.p.wV;have d:=f.xS;cases g:m.c.N with
 |nil=>
  rw[g]at d;have E:a.toList.isEmpty=zt:=by rw[Br,d];rfl
  have s:{m with c:={m.c with N:=(Ii m.c.N).2}}=m:=by have⟨⟨_,_,_,_⟩,_,_⟩:=m;simp only at g;subst g;rfl
  rw[g]at s;rw[s];have i:=f;clear f d;simp only[Ii];go_in;go_wp2;go_ret;exact⟨Q,⟨_,i⟩,E8.refl _ _ _ _ _⟩
 |cons b l=>
  rw[g]at d;have E:a.toList.isEmpty=zr:=by rw[Br,d];rfl
  have I:0<a.size:=by have:L a.data.toList=a.size:=BS;rw[d]at this;simp at this;omega
  have H:((a[0].toNat:zw)==49)=(b==49):=by
   have e:a[0]=b:=by
    have:a.data.toList[0]? =b:=by rw[d];rfl
    rw[Array.getElem?_toList]at this;have:=(Array.getElem?_eq_some_iff.1 this).2;exact this
   rw[e,Bool.eq_iff_iff];simp only[BQ];constructor;intro q;have:b.toNat=49:=by omega
   exact UInt8.toNat_inj.1 (by simpa using this);intro q;subst q;rfl
  have t:(a.extract 1 a).data.toList=l:=by
   rw[Bq,Array.toList_extract,d];have:a.size=l+1:=by have:L a.data.toList=a.size:=BS;rw[d]at this;simpa using this.symm
   simp[this]
  have⟨p,C⟩:=f.wrote (m':={m with c:={m.c with N:=l}}) (ch':=a.extract 1 a) 4 (a.extract 1 a) Q t Q Q Q Q;have i:=p;simp only[Ii];clear f p d t;go_in;go_wp2;go_ret;exact⟨Q,⟨_,i⟩,C⟩
theorem FH.holds(h:FH B C R X V v0 p0 o1 u2 P){a}(c:a<L u2.c.d):
 ∃g d,K' P ⟨B,5,Z⟩=T (Y (T ⟨g,0,Z⟩) (L u2.c.d) d)/\g<P.heap.size/\B<P.heap.size/\(∀a,a<L u2.c.d->K' P ⟨g,a*5+3,Z⟩=T (G A (CM u2.c.d a).v.e)/\K' P ⟨g,a*5+4,Z⟩=T (G A (CM u2.c.d a).v.c)/\K' P ⟨g,a*5,Z⟩=T (G A (CM u2.c.d a).nm.e)/\K' P ⟨g,a*5+1,Z⟩=T (G A (CM u2.c.d a).nm.B)/\K' P ⟨g,a*5+2,Z⟩=T (G A (CM u2.c.d a).nm.F)):=by
 have⟨k,l,j,h⟩:=h;obtain⟨n,o,i,rfl⟩:=CA h.d;obtain⟨g,rfl⟩:=CH h.d (by omega);obtain⟨_,_,rfl,e,_⟩:=h.z c;have f:=h.p.j5;exact⟨g,i,f,e,Cz h.p,λa c=>by have⟨b,_⟩:=h.z c;exact⟨b 3<|by decide,b 4<|by decide,b 0<|by decide,b 1<|by decide,b 2<|by decide⟩⟩
theorem IQ(f o k B l n p j m a w)(h:FH f o k B l n p j m w)(c:a<L m.c.d)(b:(CM m.c.d a).v.e=2):
 F' zy 153 #[Z' f,a] w λe q=>e=P' #[(CM m.c.d a).v.c,O' zt]/\O Cb w q:=by
 have⟨g,t,E,y,z,d⟩:=h.holds c;have⟨r,i,_⟩:=d a c;have x:(a:zw)<(L m.c.d:zw):=by omega
 have s:w (g,a*5+3+1)=(CM m.c.d a).v.c:=i;have v:(((CM m.c.d a).v.e:zw) !=2)=zr:=by simp[b]
 have u:(((CM m.c.d a).v.e:zw)==2)=zt:=by simp[b]
 clear h d b;generalize CM m.c.d a=C at*;go_in;go_wp2;go_ret2;exact⟨Q,oq⟩
theorem Lt(c i d B n q r j m a w)(h:FH c i d B n q r j m w)(o:a<L m.c.d)(x:(CM m.c.d a).v.e≠2):
 F' zy 153 #[Z' c,a] w λe s=>e=P' #[G A 0,O' zr]/\FH c i d B n q r j {m with s:=3} s/\E8 c i d B w s:=by
 have⟨g,F,U,P,R,p⟩:=h.holds o;have⟨y,v,_⟩:=p a o;have N:(a:zw)<(L m.c.d:zw):=by omega
 have z:w (g,a*5+3+1)=(CM m.c.d a).v.c:=v;have I:=qO ((CM m.c.d a).v.e:zw) 2 (by omega);have H:=Ka ((CM m.c.d a).v.e:zw) 2 (by omega);have⟨S,X,E,b⟩:=h;have V:=b.p.z;have K:=b.p.wV 7;have⟨k,l⟩:=b.wrote (m':={m with s:=3}) 7 (G A 3) Q b.xS Q Q Q Q;have f:=((CT Cb<|w.setCell (c,7)<|G A 3).alloc<|R' #[(CM m.c.d a).v.e,(CM m.c.d a).v.c] 231);have t:=k.t8 f;have u:=l.trans<|E8.wW f;clear b p x k l f;generalize CM m.c.d a=C at*;go_in;go_wp2;go_ret2;first|exact⟨Q,⟨_,_,_,t⟩,u⟩|trace_state
theorem jK(a c b B f g i d m)(p q:M)(w:I')(h:FH a c b B f g i d m w)(n:q<m.c.d)(k:(CM m.c.d q).v.e≠2):
 F' zy 115 #[Z' a,p,q] w λe l=>e=P' #[]/\FH a c b B f g i d {m with s:=3} l/\E8 a c b B w l:=by
 have j:=Lt a c b B f g i d m q w h n k;clear h k;go_in;go_wp2_with fail;apply j.mono;rintro e s ⟨rfl,o,r⟩;clear j;go_wp2_with fail;go_end0;exact⟨Q,o,r⟩
theorem cT(a c b B f g i d m)(p q:M)(w:I')(h:FH a c b B f g i d m w)(n:p<m.c.d)(k:(CM m.c.d p).v.e≠2):
 F' zy 116 #[Z' a,p,q] w λe l=>e=P' #[]/\FH a c b B f g i d {m with s:=3} l/\E8 a c b B w l:=by
 have j:=Lt a c b B f g i d m p w h n k;clear h k;go_in;go_wp2_with fail;apply j.mono;rintro e s ⟨rfl,o,r⟩;clear j;go_wp2_with fail;go_end0;exact⟨Q,o,r⟩
theorem jM(a c b B f g i d m)(p q:M)(k:M)(w:I')(h:FH a c b B f g i d m w)(o:q<m.c.d)(l:(CM m.c.d q).v.e≠2):
 F' zy 114 #[Z' a,p,q,k] w λe n=>e=P' #[]/\FH a c b B f g i d {m with s:=3} n/\E8 a c b B w n:=by
 have j:=Lt a c b B f g i d m q w h o l;clear h l;go_in;go_wp2_with fail;apply j.mono;rintro e t ⟨rfl,r,s⟩;clear j;go_wp2_with fail;exact Ak (v:=P' #[]) (by simp[zz,results114,go_sem]) Q ⟨Q,r,s⟩
theorem cP(a d b B j k l i m p q w)(h:FH a d b B j k l i m w)(I:Ib m.c.d)(r:EI 200000 m.c.d)(X:L m.c.x<=300000)(a0:L m.c.d<=200000)(F:p<L m.c.d)(H:q<L m.c.d)(z:(CM m.c.d q).v.e=2):
 F' zy 115 #[Z' a,p,q] w λe R=>e=P' #[]/\FH a d b B j k l i {m with c:=m.c.set p (CM m.c.d (CM m.c.d q).v.c).v} R/\E8 a d b B w R:=by
 have⟨n,C⟩:=Dv<|(CM m.c.d q).v.c;have N:=(r.at_ H).2;have E:n<m.c.d:=by rcases N with⟨e,_⟩|⟨e,_⟩|⟨_,e⟩<;>omega
 have o:=IQ a d b B j k l i m q w h H z;rw[C]at o|-;have K:=(r.at_ E).2;have f:=λ(t:I') (U:O Cb w t)=>Hs a d b B j k l i m p (CM m.c.d n).v t (h.t8 U) I F K X a0
 have a1:(n:zw)<(L m.c.d:zw):=by omega
 have⟨V,x⟩:=Dv<|{m with c:=m.c.set p (CM m.c.d n).v};rw[x]at f|-;clear I r N K z x C;go_in;go_wp2_with fail;apply o.mono;rintro e w1 ⟨rfl,s⟩;have⟨g,cm,r5,lg,lm,y⟩:=(h.t8 s).holds F;have⟨c3,u,_⟩:=y n E;have c5:w1 (g,n*5+3+1)=(CM m.c.d n).v.c:=u;clear y o u;unfold rJ at f;generalize (CM m.c.d n).v=v at*;go_wp2_with fail;apply(f _ s).mono;rintro e w2 ⟨rfl,s1,P⟩;have S:=(E8.wW s).trans P;clear P f;go_wp2_with fail;go_end0;exact⟨Q,s1,S⟩
theorem Yp(a d b B j k l i m p q w)(h:FH a d b B j k l i m w)(H:Ib m.c.d)(r:EI 200000 m.c.d)(U:L m.c.x<=300000)(X:L m.c.d<=200000)(s:p<L m.c.d)(F:q<L m.c.d)(C:(CM m.c.d p).v.e=2):
 F' zy 116 #[Z' a,p,q] w λe P=>e=P' #[]/\FH a d b B j k l i {m with c:=m.c.set (CM m.c.d p).v.c (CM m.c.d q).v} P/\E8 a d b B w P:=by
 have⟨n,E⟩:=Dv<|(CM m.c.d p).v.c;have K:=(r.at_ s).2;have a0:n<m.c.d:=by rcases K with⟨e,_⟩|⟨e,_⟩|⟨_,e⟩<;>omega
 have o:=IQ a d b B j k l i m p w h s C;rw[E]at o|-;have I:=(r.at_ F).2;have f:=λ(u:I') (S:O Cb w u)=>Hs a d b B j k l i m n (CM m.c.d q).v u (h.t8 S) H a0 I U X
 have a1:(q:zw)<(L m.c.d:zw):=by omega
 have⟨V,y⟩:=Dv<|{m with c:=m.c.set n (CM m.c.d q).v};rw[y]at f|-;clear H r K I C y E;go_in;go_wp2_with fail;apply o.mono;rintro e w1 ⟨rfl,t⟩;have⟨g,cm,r5,lg,lm,z⟩:=(h.t8 t).holds s;have⟨c3,x,_⟩:=z q F;have c5:w1 (g,q*5+3+1)=(CM m.c.d q).v.c:=x;clear z o x;unfold rJ at f;generalize (CM m.c.d q).v=v at*;go_wp2_with fail;apply(f _ t).mono;rintro e w2 ⟨rfl,s1,N⟩;have R:=(E8.wW t).trans N;clear N f;go_wp2_with fail;go_end0;exact⟨Q,s1,R⟩
theorem cU(a f c B l t x j m)(p q k:M)(w:I')(h:FH a f c B l t x j m w)(P:EI 200000 m.c.d)(s:q<m.c.d)(K:(CM m.c.d q).v.e=2)(r:¬((CM m.c.d (CM m.c.d q).v.c).nm.e=1/\(CM m.c.d (CM m.c.d q).v.c).nm.F=0)):
 F' zy 114 #[Z' a,p,q,k] w λe U=>e=P' #[]/\FH a f c B l t x j {m with s:=3} U/\E8 a f c B w U:=by
 have⟨n,R⟩:=Dv<|(CM m.c.d q).v.c;have S:=(P.at_ s).2;have a0:n<m.c.d:=by rcases S with⟨e,_⟩|⟨e,_⟩|⟨_,e⟩<;>omega
 have i:=IQ a f c B l t x j m q w h s K;rw[R]at i r;have a1:(n:zw)<(L m.c.d:zw):=by omega
 clear P S K R;go_in;go_wp2_with fail;apply i.mono;rintro e w1 ⟨rfl,u⟩;have H:=h.t8 u;have⟨g,cm,r5,lg,lm,I⟩:=H.holds s;have⟨_,_,c0,c1,c2⟩:=I n a0;have⟨mv,rv,ch,b⟩:=H;have r7:=b.p.z;have fz:=b.p.wV 7;generalize (CM m.c.d n).nm=N at*;have y:N.e=1->((N.e:zw) !=1)=zr:=λq=>by simp[q]
 have z:N.e≠1->((N.e:zw) !=1)=zt:=λq=>by simp;omega
 have C:N.F≠0->((N.F:zw) !=0)=zt:=λq=>by simp;omega
 have⟨E,F⟩:=b.wrote (m':={m with s:=3}) 7 (G A 3) Q b.xS Q Q Q Q;have o:=((CT Cb<|w1.setCell (a,7)<|G A 3).alloc<|R' #[N.e,N.B,N.F] 228);have V:=E.t8 o;have X:=(E8.wW u).trans<|F.trans<|E8.wW o;clear I u i b E F o h;by_cases d:N.e=1;have d1:=y d;have d2:=C λq=>r ⟨d,q⟩;rotate_left;have d1:=z d;all_goals
  clear y z C r d;go_wp2_with fail;exact Ak (v:=P' #[]) (by simp[zz,results114,go_sem]) Q ⟨Q,⟨_,_,_,V⟩,X⟩
theorem cV(a d b B:M)(l:H')(o r j:M)(m:Mc)(p q k:M)(w:I')(h:FH a d b B l o r j m w)(R:Ib m.c.d)(x:EI 200000 m.c.d)(hl:L m.c.x<=300000)(a0:L m.c.d<=200000)(hp:p<m.c.d)(y:q<m.c.d)(H:(CM m.c.d q).v.e=2)(i:(CM m.c.d (CM m.c.d q).v.c).nm.e=1/\(CM m.c.d (CM m.c.d q).v.c).nm.F=0)(a2:k<=3):
 F' zy 114 #[Z' a,p,q,k] w λe s=>e=P' #[]/\FH a d b B l o r j {m with c:=m.c.set p ⟨2,(CM m.c.d q).v.c+k⟩} s/\E8 a d b B w s:=by
 have⟨n,I⟩:=Dv<|(CM m.c.d q).v.c;have U:=(x.at_ y).2;have K:n<m.c.d:=by rcases U with⟨e,_⟩|⟨e,_⟩|⟨_,e⟩<;>omega
 have u:=IQ a d b B l o r j m q w h y H;rw[I]at u i|-;have P:=(x.at_ K).1;have a1:n+k<m.c.d:=by
  rcases P with e|⟨_,_,_,_,e⟩
  have:=i.1;omega;have:=i.2;omega
 have S:E9 200000 m.c.d ⟨2,n+k⟩:=zn<|zn ⟨Q,a1⟩;have t:=λ(f:I') (hW:O Cb w f)=>Hs a d b B l o r j m p ⟨2,n+k⟩ f (h.t8 hW) R hp S hl a0
 have t:∀(f:I'),O Cb w f->F' zy 111 #[Z' a,p,N' #[G A 2,((n:zw)+(k:zw))]] f λe s=>e=P' #[]/\FH a d b B l o r j {m with c:=m.c.set p ⟨2,n+k⟩} s/\E8 a d b B f s:=t
 have v:=t;have a3:(n:zw)<(L m.c.d:zw):=by omega
 have a4:IntKind.i64.wrap ((n:zw)+(k:zw))=(n:zw)+(k:zw):=by rw[BI];omega
 have⟨V,E⟩:=Dv<|{m with c:=m.c.set p ⟨2,n+k⟩};rw[E]at v|-;clear R x U S H E I t P;go_in;go_wp2_with fail;apply u.mono;rintro e w1 ⟨rfl,z⟩;have C:=h.t8 z;have⟨g,cm,r5,lg,lm,F⟩:=C.holds y;have⟨_,_,c0,c1,c2⟩:=F n K;generalize (CM m.c.d n).nm=N at*;have d1:((N.e:zw) !=1)=zr:=by simp[i.1]
 have d2:((N.F:zw) !=0)=zr:=by simp[i.2]
 clear F u h C i;go_wp2_with fail;apply(v _<|z.trans oq).mono;rintro e w2 ⟨rfl,s1,X⟩;have S2:=(E8.wW<|z.trans oq).trans X;clear X v;go_wp2_with fail;go_end0;exact⟨Q,s1,S2⟩

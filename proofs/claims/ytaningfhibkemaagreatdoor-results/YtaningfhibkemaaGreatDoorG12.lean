/- Part of the proof: ChG CkJ CkK CkL PaF0 RdL RdR RdS TrN. -/
import Derived.Test.YtaningfhibkemaaGreatDoorG11
import Derived.Maps.Views
set_option maxRecDepth 100000
set_option maxHeartbeats 40000000
namespace Go.Proofs.YtaningfhibkemaaGreatDoor
open Go.RowKit Go.Proofs.Tryz Go.Maps
open Option renaming none->Z,some->T
open Value renaming int->G,slice->Y
open IntKind renaming i64->A
theorem Xt(f)(ih:∀k,k<=f->IE k):Ob (f+1) (fun l=>l≠XR/\l≠Hm/\l≠Vm/\l≠Ic/\l≠[42]):=by
 intro L K g n b3 B E U F fv sv M c w I ht C b7 hB hz f5 d4 i7 e6;have hn:=ht.2.2;obtain⟨d5,i8,i5,i6,h5⟩:=f5;obtain⟨h8,IH,f0⟩:=Ax (h5 d4) ih e6;clear ih h5 d4 e6;obtain⟨i0,hi,i9,j0,j1⟩:=info_parts Tryz.infoSt;obtain⟨cs,b4,d6,d8⟩:=b7;have hn:=ht.2.2;have r3:=I.cI.cell 3;have p1:=C.cI.cell 1;have f1:=C.cI.frozen 1;simp at r3 p1;obtain⟨sa,sl,sc,h7⟩:=Ad b4;subst h7;have h6:=Ag b4;subst h6;have lr:=Ae I;have lp:=Ae C;have f7:K≠L:=C.cI.ne I.cI (by decide);obtain⟨e9,e8,HR,d2,HP,d1,d0,HZ⟩:=En (Am b4 I (by decide)) (Am b4 C (by decide)) I ht C d8 d6 hz;clear I ht C d8 d6 hz;obtain⟨y,hy⟩:∃y,AK F (f+1) E M c=y:=⟨_,rfl⟩;rw[hy];have HY:=J hy;obtain⟨t,HT⟩:∃t,D (tokAt F M.cJ=t):=⟨_,rfl⟩;clear hy;go_enter func99,ntmps99;go_wp2;refine DK (Mt _ L K g n b3 B U F fv M c sa sc w HR.o d2.o HP.o ⟨cs,b4,d0.o,d1.o⟩ hB (by omega) ?_);intro wc j7 j8 j9 l2 l3 l4 l5 l6 l7 l8 l9 m0 m4 m5 m6 m7 m8 hcut;dsimp only;obtain⟨va,vl,vc,I,ht,C,b7,c7⟩:=hcut;have e5:w.heap.size<=wc.heap.size:=c7.d8.size;clear e9 e8 HR d2 HP d1 d0 b4 r3 p1 f1 lr lp f7;have H:D (SF L K wc.heap.size g n b3 B U F fv (Y va vl vc) M (c++[CC 0 0]) (DL E) (wc.alloc (.cells (DL E) 92))):=
  ⟨I.cI.alloc _,ht.d8 ((O.refl kJ wc).alloc _) id,C.cI.alloc _,W.new _ _ _,b7.d8 ((O.refl kJ wc).alloc _) (fun _ _ q=>q) (fun _ _ _ _ q=>q.elim),fun k a=>by obtain⟨f3,b1,_⟩:=b7;have:=(b1.lt k a).2;omega⟩
 have b8:D (Fy L K (Y sa c.length sc) (Y va vl vc) w (wc.alloc (.cells (DL E) 92))):=c7.alloc _;clear I ht C b7 c7;go_wp2;generalize wc.alloc (.cells (DL E) 92)=W0 at H b8⊢;obtain⟨t0,t1,t2⟩:=H.o.tk.cells d5;rw[HT.o]at t0 t1 t2;obtain⟨r0,r1⟩:=H.o.rd.cI.e2 0 1;simp at r0 r1;have l0:=Ae H.o.rd;have l1:g<W0.heap.size:=(H.o.tk.1.lt g rfl).2;have ls:wc.heap.size<W0.heap.size:=Ae H.o.sx;go_region;generalize wc.heap.size=sb at H b8 e5 ls⊢;have b5:D (SG L K sb g n b3 B U F fv (Y sa c.length sc) (Y va vl vc) M (c++[CC 0 0]) (DL E) [(49,3,AX,0,[])] w W0):=⟨H.o,b8.o,e5,d5,HZ.o,fun q h=>by rw[iL.1 h];exact⟨.inr rfl,iB _ _ _ _⟩,hB⟩;have e7:D (c.length<(c++[CC 0 0]).length):=by show _<_;simp
 clear H b8;go_upto_region 6 with fail;go_cut[53] (fun v wx=>v=.bool (decide (t.sort=2\/t.sort=4))/\D (W W0.heap.size #[.string t.d9,G A t.pos,G A t.sort] 49 wx)/\D (SG L K sb g n b3 B U F fv (Y sa c.length sc) (Y va vl vc) M (c++[CC 0 0]) (DL E) [(49,3,AX,0,[])] w wx))
 case first=>
  have hs:(t.sort=2/\((t.sort:Int)==2)=true)\/(t.sort=4/\((t.sort:Int)==2)=false/\((t.sort:Int)==4)=true)\/((¬(t.sort=2\/t.sort=4))/\((t.sort:Int)==2)=false/\((t.sort:Int)==4)=false):=by
   by_cases h:t.sort=2
   .simp[h]
   by_cases k:t.sort=4
   .simp[k]
   .simp;omega
  rcases hs with⟨hs,d9⟩|⟨hs,d9,f9⟩|⟨hs,d9,f9⟩
  all_goals
   have HS:=J hs;clear hs;go_wp2_with fail;go_meet
   case rel=>exact⟨by simp[HS.o],W.d8 (W.new _ _ _) (X:=kJ) (by repeat first|exact BI _ _|apply BG|apply BH|apply BE) id,b5.o.quiet (by repeat first|exact BI _ _|apply BG|apply BH|apply BE)⟩
 case rest=>
 obtain⟨rfl,c9,b2⟩:=hcut;have b0:=c9.o.cell 0;simp at b0;go_upto_if 53 with fail;go_cut[8] (fun v wx=>∃b:ByteArray,v=.string b/\D (b.toList=AG (tokAt F M.cJ))/\D (SG L K sb g n b3 B U F fv (Y sa c.length sc) (Y va vl vc) M (c++[CC 0 0]) (DL E) [(49,3,AX,0,[])] w wx))
 case first=>
  by_cases hc:t.sort=2\/t.sort=4;all_goals
   have HS:=J hc;simp only[hc,decide_true,decide_false];clear hc;go_wp2_with fail;go_meet
   case rel=>exact⟨_,rfl,by show _=_;rw[HT.o];simp[AG,HS.o],b2.o.quiet (by repeat first|exact BI _ _|apply BG|apply BH|apply BE)⟩
 case rest=>
 clear c9 b2 b0 HT b5;obtain⟨b,rfl,HB,b5⟩:=hcut;have hw:=f0.o;simp only[<-HB.o]at hw;have hb:=HB.o;obtain⟨h0,h1,h2,h3,h4⟩:=hw;have e0:(b.toList==[105,102])=false:=beq_eq_false_iff_ne.2 h0;have e1:(b.toList==[119,104,105,108,101])=false:=beq_eq_false_iff_ne.2 h1;have e2:(b.toList==[118,97,114])=false:=beq_eq_false_iff_ne.2 h2;have e3:(b.toList==[114,101,116,117,114,110])=false:=beq_eq_false_iff_ne.2 h3;have e4:(b.toList==[42])=false:=beq_eq_false_iff_ne.2 h4;rw[hb]at h0 h1 h2 h3 h4;have HW:=J (And.intro h0 (And.intro h1 (And.intro h2 (And.intro h3 h4))));clear h0 h1 h2 h3 h4 hb;go_wp2_with fail;refine((b5.o.quiet (by repeat first|exact BI _ _|apply BG|apply BH|apply BE)).get 1 (by decide)).mono ?_;rintro e w1 ⟨q1,x1,c4,rfl,b2⟩;unfold JW;obtain⟨i,m,o,r,s,u,x,fa⟩:=b2.o.s.sx.c7;simp at i m o r s u x;go_wp2_with fail;clear i m o r s u x fa;refine((((b2.o.cU 1 (.string q1.d9)).cU 2 (G A q1.pos)).cU 3 (G A q1.sort)).dP _ [61] (by simp)).mono ?_;rintro e w2 ⟨x2,c5,rfl,b9⟩;obtain⟨i,m,o,r,s,u,x,fa⟩:=b9.o.s.sx.c7;obtain⟨V,a8,a9,N,P,Q,R,S⟩:=b9.o.s.sx.e8 7 8 9 10 11 12 13 14;simp at i m o r s u x V a8 a9 N P Q R S;go_wp2_with fail;clear i m o r s u x V a8 a9 N P Q R S fa;have h1:=congrArg (fun z=>(z.2.pl,z.2.ca)) c4.o;have h2:=congrArg (fun z=>(z.pl,z.ca)) c5.o;simp only[Bo,Aw,jF]at h1 h2;refine(b9.o.value {CC E (-1)with p:=q1} rfl (by omega) (by omega)).mono ?_;clear h1 h2;rintro e w3 ⟨d,x3,v1,v2,v3,c6,rfl,c0,c8⟩;obtain⟨i,m,o,r,s,u,x,fa⟩:=c0.o.s.sx.c7;obtain⟨V,a8,a9,N,P,Q,R,S⟩:=c0.o.s.sx.e8 7 8 9 10 11 12 13 14;simp at i m o r s u x V a8 a9 N P Q R S;unfold Br;go_wp2_with fail;clear i m o r s u x V a8 a9 N P Q R S fa;have hb:=NU F x2 {CC E (-1)with p:=q1};rw[c6.o]at hb;have c1:=J hb;clear hb;refine(((((((((((((((((c0.o.cU 0 (G A d.kind)).cU 1 (.string d.p.d9)).cU 2 (G A d.p.pos)).cU 3 (G A d.p.sort)).cU 4 (.string d.q.d9)).cU 5 (G A d.q.pos)).cU 6 (G A d.q.sort)).cU 7 (G A d.field)).cU 8 (Y v1 v2 v3)).cU 9 (G A d.l7)).cU 10 AX).cU 11 AX).cU 12 (G A d.br)).cU 13 (G A d.dR)).cU 14 (G A d.dD)).one.cast (ZS _ (by simp) _ _ _ _ _ _ _ _ _ _ _ _ _ _ _)).dP _ [59] (by simp)).mono ?_;rintro e w8 ⟨x8,d3,rfl,c2⟩;have f2:D (y=(c.length,x8,(c++[CC 0 0]).set c.length d)):=by show _=_;rw[<-HY.o];simp[AK,Bc,HW.o,c4.o,c5.o,c6.o,d3.o]
 have HE:D (SE L K sb g n b3 B U U F fv (Y sa c.length sc) (Y va vl vc) x8 _ (Br d (Y v1 v2 v3) AX AX) _ w w8 c.length d (Y v1 v2 v3) AX AX):=⟨c2.o,⟨fun _=>id,fun _=>.inl⟩,e7.o,(c2.o.r _ (.head _)).2,by rw[c1.o.1];exact iB _ _ _ _,by rw[c1.o.2];exact iB _ _ _ _,fun k a=>c8.o k (by simpa[Value.ownBlock]using a)⟩;clear c2 b5 b2 b9 c0 c4 c5 c6 d3 HY c1 c8;have c3:=J HE.o.g;have b6:=HE.o.g.s;obtain⟨f3,b1,f6,f8⟩:=b6.st;have d7:=HE.o.l;obtain⟨gg,f4⟩:=Ap b1 (by omega);subst f4;have gz:=IS b1;have a:=fun j (h:j<15)=>Mk b1 c.length d7 j h
 obtain⟨g0,k0⟩:=a 0 (by decide);obtain⟨g1,k1⟩:=a 1 (by decide);obtain⟨g2,k2⟩:=a 2 (by decide);obtain⟨g3,k3⟩:=a 3 (by decide);obtain⟨g4,k4⟩:=a 4 (by decide);obtain⟨g5,k5⟩:=a 5 (by decide);obtain⟨g6,k6⟩:=a 6 (by decide);obtain⟨g7,k7⟩:=a 7 (by decide);obtain⟨g8,k8⟩:=a 8 (by decide);obtain⟨g9,k9⟩:=a 9 (by decide);obtain⟨h9,j2⟩:=a 10 (by decide);obtain⟨i1,j3⟩:=a 11 (by decide);obtain⟨i2,j4⟩:=a 12 (by decide);obtain⟨i3,j5⟩:=a 13 (by decide);obtain⟨i4,j6⟩:=a 14 (by decide);simp only[iH]at k0;rw[<-Ag b1]at d7;have r3:=b6.rd.cI.cell 3;have p1:=b6.pr.cI.cell 1;simp at r3 p1;obtain⟨i,m,o,r,s,u,x,fa⟩:=c3.o.s.sx.c7;obtain⟨V,a8,a9,N,P,Q,R,S⟩:=c3.o.s.sx.e8 7 8 9 10 11 12 13 14;simp[Br]at i m o r s u x V a8 a9 N P Q R S;obtain⟨m1,m2,m3⟩:=b6.eJ gg rfl;clear b6 b1 f6 f8 c3 fa a;go_wp2;go_region;go_wp2;go_ret;have hq:=HE.o.post f2.o;rw[Kn]at hq;exact hq
theorem Xn:∀f,IE f:=by
 intro f;induction f using Nat.strongRecOn with
 |_ f z=>
  intro v u g n c B t U a e y x d w o q m p i r b j l;cases f with
  |zero=>have:=b.1;omega
  |succ f=>
   have s:∀k,k<=f->IE k:=fun k C=>z k (by omega)
   by_cases h:AG (tokAt a x.cJ)=XR\/AG (tokAt a x.cJ)=Hm
   .exact Xr f s v u g n c B t U a e y x d w o q m p i r b j l h
   by_cases k:AG (tokAt a x.cJ)=Vm\/AG (tokAt a x.cJ)=Ic\/AG (tokAt a x.cJ)=[42]
   .exact Xs f s v u g n c B t U a e y x d w o q m p i r b j l k
   .simp only[not_or]at h k;exact Xt f s v u g n c B t U a e y x d w o q m p i r b j l ⟨h.1,h.2,k.1,k.2.1,k.2.2⟩
def GL(d:List Tk)(f k:Nat)(x:St)(C:List FS):RF×St×List FS:=
 let a:=Aw d [102,110] x
 let y:=Bo d 1 a
 let b:=Aw d [40] y.2
 let z:=Cb d b
 let r:=AA d f k (Aw d [123] z.2) C []
 (⟨y.1,z.1,r.1,(tokAt d z.2.cJ).pos,[]⟩,Aw d [125] r.2.1,r.2.2)
def Cn(d:List Tk)(F:Nat):Nat->St->List FS->List RF->List RF×St×List FS
 |0,x,C,s=>(s,x,C)
 |m+1,x,C,s=>if x.cL=Z/\(s=[]\/(tokAt d x.cJ).sort≠0)then Cn d F m (GL d F s.length x C).2.1 (GL d F s.length x C).2.2 (s++[(GL d F s.length x C).1])else(s,x,C)
abbrev bA:Array Value:=#[.string {data:=#[]},G A 0,G A 0,Y Z 0 0,Y Z 0 0,G A 0,Y Z 0 0]
theorem Tryz.infoRF:(Tryz.prog.info? 53).map (fun i=>(i.zero,i.size,i.bytes))=T (T (.agg bA),7,112):=by kernel_rfl
theorem YM(f a b c j k m g h i):∀u∈(ER f (Y a j g) (Y b k h) (Y c m i)).toList,u.oneCell'=true:=by intro u e;simp[ER]at e;rcases e with rfl|rfl|rfl|rfl|rfl|rfl|rfl<;>rfl
structure PF(l o g n E B:Nat)(U:Nat->Prop)(d:List Tk)(p I:Value)(x:St)(C:List FS)(s:List RF)(w:World):Prop where
 rd:AJ l o g n E x.cJ x.cL w
 tk:AP g n E d w
 pr:Cg o p I x.pl x.ca w
 st:BA B U w I C
 fn:Cw B w p s
 ul:∀k,U k->k<w.heap.size
section
variable{l o g n E B:Nat}{U:Nat->Prop}{d:List Tk}{p I:Value}{x:St}{C:List FS}{s:List RF}{w H:World}
theorem PF.eA(h:PF l o g n E B U d p I x C s w):g≠l/\o≠l/\g≠o:=⟨h.tk.ne h.rd (by decide),h.pr.cI.ne h.rd.cI (by decide),h.tk.ne h.pr (by decide)⟩
theorem PF.dU(h:PF l o g n E B U d p I x C s w):∀k,p.ownBlock=T k->k≠l/\k≠o:=by intro k a;obtain⟨c,b,_⟩:=h.fn;exact⟨Am b h.rd (by decide) k a,Am b h.pr (by decide) k a⟩
theorem PF.s9(h:PF l o g n E B U d p I x C s w)(a:O kJ w H):PF l o g n E B U d p I x C s H:=
 ⟨h.rd.d8 a id,h.tk.d8 a id,h.pr.cI.d8 a id,h.st.s9 a,h.fn.s9 a,fun k b=>iI (h.ul k b) a.size⟩
theorem PF.call{c b}(h:PF l o g n E B U d p I x C s w)(e:O (fun k=>k=l) w H)(m:AJ l o g n E c b H):PF l o g n E B U d p I ⟨c,b,x.pl,x.ca⟩ C s H:=by have i:=h.eA;refine⟨m,h.tk.d8 e i.1,h.pr.cI.d8 e i.2.1,h.st.rb h.rd e,h.fn.d8 e (fun k a=>(h.dU k a).1) ?_,fun k a=>iI (h.ul k a) e.size⟩;intro k q t r a j;have a:k=l:=a;subst a;have f:w.heap[k]? =_:=h.rd;rw[j]at f;simp only[gX,iE]at f;rw[f.2.1];decide
theorem PF.dP{L a}(h:PF l o g n E B U d p I x C s w)(e:Aw d L x=a)(b:O (fun k=>k=l) w H)(c:AJ l o g n E (Fi d x.cJ x.cL L).1 (Fi d x.cJ x.cL L).2 H):PF l o g n E B U d p I a C s H:=by subst e;exact h.call b c
theorem PF.get{k q a}(h:PF l o g n E B U d p I x C s w)(f:Bo d k x=(q,a))(b:O (fun k=>k=l) w H)(c:AJ l o g n E (Dl d x.cJ x.cL k).2.1 (Dl d x.cJ x.cL k).2.2 H):PF l o g n E B U d p I a C s H:=by have e:a=⟨(Dl d x.cJ x.cL k).2.1,(Dl d x.cJ x.cL k).2.2,x.pl,x.ca⟩:=(congrArg Prod.snd f).symm;subst e;exact h.call b c
theorem PF.list{q a}(h:PF l o g n E B U d p I x C s w)(f:Cb d x=(q,a))(b:O (fun k=>k=l) w H)(c:AJ l o g n E (CU d x.cJ x.cL).2.1 (CU d x.cJ x.cL).2.2 H):PF l o g n E B U d p I a C s H:=by have e:a=⟨(CU d x.cJ x.cL).2.1,(CU d x.cJ x.cL).2.2,x.pl,x.ca⟩:=(congrArg Prod.snd f).symm;subst e;exact h.call b c
theorem PF.eO{f i u v}(h:PF l o g n E B U d p I x C s w)(j:W f u 53 w)(y:∀k,p.ownBlock=T k->k≠f):PF l o g n E B U d p I x C s (w.setCell ⟨f,i,Z⟩ v):=by
 have e:=(O.refl (fun k=>k=f) w).t9 i v;have r:∀(k:Nat) (b:Array Value) (t:TypeId) (c:Nat×Nat),k=f->w.heap[k]? =T (.cells b t c)->t=53:=by intro k b t c a m;subst a;have q:w.heap[k]? =_:=j;rw[m]at q;simp only[gX,iE]at q;exact q.2.1
 refine⟨h.rd.d8 e (h.rd.cI.ne j (by decide)),h.tk.d8 e (h.tk.ne j (by decide)),h.pr.cI.d8 e (h.pr.cI.ne j (by decide)),h.st.d8 e (fun k a=>?_) (fun k b t c a m=>by rw[r k b t c a m];decide),h.fn.d8 e (fun k a=>y k a) (fun k b t c a m=>by rw[r k b t c a m];decide),fun k a=>iI (h.ul k a) e.size⟩;obtain⟨F,z,_⟩:=h.st;exact Am z j (by decide) k a
theorem PF.block{c}{i:Nat->Prop}{x' j}(h:PF l o g n E B U d p I x C s w)(v:AJ l o g n E x'.cJ x'.cL H)(K:AP g n E d H)(u:Cg o p c x'.pl x'.ca H)(z:BA B i H c j)(r:Fy l o I c w H):PF l o g n E B (fun k=>i k/\k<H.heap.size) d p c x' j s H:=by
 have F:=h.st;obtain⟨P,m,_⟩:=F;refine⟨v,K,u,z.below,h.fn.d8 r.d8 (fun k a q=>?_) (fun k S t V a e=>?_),fun k a=>a.2⟩
 .rcases q with q|q|q
  .exact(h.dU k a).1 q
  .exact(h.dU k a).2 q
  .obtain⟨Q,y,_⟩:=h.fn;exact Gz y m (by decide) k a q
 .rcases a with a|a|a
  .subst a;have b:w.heap[k]? =_:=h.rd;rw[e]at b;simp only[gX,iE]at b;rw[b.2.1];decide
  .subst a;have b:w.heap[k]? =_:=h.pr;rw[e]at b;simp only[gX,iE]at b;rw[b.2.1];decide
  .rcases m.2 with⟨M,_⟩|⟨X,N,R,L,_,f,_⟩
   .rw[M]at a;simp[Value.ownBlock]at a
   .rw[L]at a;simp[Value.ownBlock]at a;subst a;rw[e]at f;simp only[gX,iE]at f;rw[f.2.1];decide
end
theorem Cw.push{B w Wz g p z c f r m}(h:Cw B w p c)(S:O kJ w Wz)(ht:CM B w r f.cQ)(V:Ay B w m f.cT)(x:f.t8=[])
 (N:g.ownsRow B 53 7 z (c.length+1) ((h.choose).flatten++(ER f r m AX).toList))(hg:Wz.grownBy g p.ownBlock):Cw B g z (c++[f])/\O (fun k=>p.ownBlock=T k) w g:=by
 have P:=h.choose_spec;generalize h.choose=b at N P;obtain⟨a2,M,a1,U⟩:=P;have v:O (fun k=>p.ownBlock=T k) w g:=O.grown (S.mono (fun _ _ q=>q.elim)) hg (fun k a=>.inl a);have Q:∀(k:Nat) (y:Array Value) (t:TypeId) (F:Nat×Nat),p.ownBlock=T k->w.heap[k]? =T (.cells y t F)->t≠3/\t≠49/\t≠9:=by
  intro k y t F a X;rcases a2.2 with⟨q',_⟩|⟨g',a3,a4,x,_,u,_⟩
  .rw[q']at a;simp[Value.ownBlock]at a
  .rw[x]at a;simp[Value.ownBlock]at a;subst a;rw[X]at u;simp only[gX,iE]at u;rw[u.2.1];decide
 refine⟨⟨b++[(ER f r m AX).toList],?_,by simp[M],?_,?_⟩,v⟩
 .rw[List.flatten_append,gW];simpa using N
 .intro i h1 R;by_cases n:i<c.length
  .rw[iQ (by omega),iQ n];exact(a1 i (by omega) n).d8 v Q
  .have e:i=c.length:=by simp at R;omega
   subst e;rw[iO (by omega),iO (by omega)];simp only[Nat.sub_self,M,iN];refine Pd.d8 ⟨r,m,AX,rfl,ht,V,?_⟩ v Q;rw[x];exact iB _ _ _ _
 .intro i j n hj a0 k a q;simp only[gW,iM]at n hj;by_cases K:i<b.length
  .rw[iQ K]at a;by_cases L:j<b.length
   .rw[iQ L]at q;exact U i j K L a0 k a q
   .rw[iO (by omega)]at q;simp[QX,ER,Value.ownBlock,show j-b.length=0 by omega]at q
  .rw[iO (by omega)]at a;simp[QX,ER,Value.ownBlock,show i-b.length=0 by omega]at a
theorem Jp{a n}(c:(tokAt a (n-1)).sort=0)(f k x b)(h:IA n x b.length):IA n (GL a f k x b).2.1 (GL a f k x b).2.2.length/\((GL a f k x b).2.1.cL=Z->x.cJ<(GL a f k x b).2.1.cJ)/\x.cJ<=(GL a f k x b).2.1.cJ:=by
 have E:=A9 a;have C:∀(L:List UInt8) (x:St),x.cJ<n->(Aw a L x).cJ<n:=fun L x h=>Ci rfl c h
 unfold GL;simp only;have m:=(E [102,110] x).trans (EX a 1 (Aw a [102,110] x));have j:(Bo a 1 (Aw a [102,110] x)).2.cJ<n:=ED (q:=(Bo a 1 (Aw a [102,110] x)).1) rfl (by decide) c (C _ _ h.1);generalize (Bo a 1 (Aw a [102,110] x)).2=y at*;have o:=m.trans ((E [40] y).trans (Fm a (Aw a [40] y)));have l:(Cb a (Aw a [40] y)).2.cJ<n:=EY (q:=(Cb a (Aw a [40] y)).1) rfl c (C _ _ j);generalize (Cb a (Aw a [40] y)).2=z at*;have d:=o.trans (E [123] z);have p:=h.dJ d (C [123] z l);obtain⟨i,t,u⟩:=(DX c f).1 k _ b [] p;generalize AA a f k (Aw a [123] z) b []=r at*;have g:=E [125] r.2.1;have s:=i.dJ g (C [125] _ i.1);refine⟨s,fun e=>?_,?_⟩
 .have:=g.2.2.2 e;have:=d.1;omega
 .have:=g.1;have:=d.1;omega
theorem XA{U:Nat->Prop}{m f g n q c b B j C p s i E v l r w o}(h:CM j w v l)(x:AJ m f g n q c b w)(u:Cg f s i C p w)(z:BA B U w i r)(t:Fy m f i E w o):CM j o v l:=by
 obtain⟨F,y,_⟩:=z;refine Ai h t.d8 (fun k d e a=>?_);rcases a with a|a|a
 .exact C6 x.cI (by decide) k d e a
 .exact C6 u.cI (by decide) k d e a
 .exact GA y (by decide) k d e a
theorem O.new{X:Nat->Prop}{a w b:World}(h:O kJ a w)(k:O X w b)(c:∀k,X k->a.heap.size<=k):O kJ a b:=((h.mono (fun _ _ q=>q.elim)).trans k).mono (fun i d q=>by have:=c i q;omega)
theorem PF.grow{v e g n o B}{U:Nat->Prop}{z j i y x E K C w f}(h:PF v e g n o B U z j y x E K w)(hF:Cw B f i C)(l:O (fun k=>j.ownBlock=T k) w f)(N:∀k,i.ownBlock=T k->j.ownBlock=T k\/w.heap.size<=k):PF v e g n o B U z i y x E C (f.setCell ⟨e,0,Z⟩ i):=by
 have m:=(O.refl (fun k=>k=e) f).t9 0 i;have F:=h.eA;have M:=h.fn;obtain⟨X,s,_⟩:=M;have S:∀(k:Nat) (b:Array Value) (t:TypeId) (c:Nat×Nat),j.ownBlock=T k->w.heap[k]? =T (.cells b t c)->t=53:=by
  intro k b t c a d;rcases s.2 with⟨R,_⟩|⟨g',V,a0,Q,_,r,_⟩
  .rw[R]at a;simp[Value.ownBlock]at a
  .rw[Q]at a;simp[Value.ownBlock]at a;subst a;rw[d]at r;simp only[gX,iE]at r;exact r.2.1
 have H:Cg e j y x.pl x.ca f:=h.pr.cI.d8 l (fun q=>(h.dU e q).2 rfl);have I:∀(k:Nat) (b:Array Value) (t:TypeId) (c:Nat×Nat),k=e->f.heap[k]? =T (.cells b t c)->t=47:=by intro k b t c a d;subst a;have p:f.heap[k]? =_:=H;rw[d]at p;simp only[gX,iE]at p;exact p.2.1
 have lp:=Ae h.pr;have P:AP g n o z f:=h.tk.d8 l (fun q=>Gz s h.tk.1 (by decide) g q rfl);refine⟨(h.rd.d8 l (fun q=>(h.dU v q).1 rfl)).d8 m (fun q=>F.2.1 q.symm),P.d8 m F.2.2,?_,(h.st.d8 l (fun k a q=>?_) (fun k b t c a d=>by rw[S k b t c a d];decide)).d8 m (fun k a q=>?_) (fun k b t c a d=>by rw[I k b t c a d];decide),hF.d8 m (fun k a q=>?_) (fun k b t c a d=>by rw[I k b t c a d];decide),fun k a=>?_⟩
 .have:=H.cI.set 0 i;simpa[Cg,W]using this
 .obtain⟨L,u,_⟩:=h.st;exact Gz u s (by decide) k a q
 .obtain⟨L,u,_⟩:=h.st;exact Am u h.pr (by decide) k a q
 .have q:k=e:=q;subst q;rcases N k a with q|q
  .exact(h.dU k q).2 rfl
  .omega
 .have:=h.ul k a;have:=l.size;have:=m.size;omega
def ZM(w:World)(r:List RF×St×List FS)(e:Ending)(a:World):Prop:=
 ∃(b c:Value) (U:Nat->Prop),e=.returned (.tuple #[.pointer (T ⟨w.heap.size,0,Z⟩),G A (Gh r.2.1.cL)])/\Cg w.heap.size b c r.2.1.pl r.2.1.ca a/\BA w.heap.size U a c r.2.2/\Cw w.heap.size a b r.1/\O kJ w a
theorem JJ(g n C d w)(ht:AP g n C d w)(f7:0<n)(hz:(tokAt d (n-1)).sort=0):
 Calls prog 18 #[Y (T ⟨g,0,Z⟩) n C] w fun e w'=>ZM w (Cn d (2*n) n ⟨0,Z,0,0⟩ [] []) e w':=by
 obtain⟨i0,hi,g6,g7,g8⟩:=info_parts Tryz.infoRF;have hn:=ht.2.2;have lg:g<w.heap.size:=(ht.1.lt g rfl).2;generalize hV:Cn d (2*n) n ⟨0,Z,0,0⟩ [] []=V;have HV:=J hV;have HZ:=J hz;have P0:D (PF (w.heap.size+1) w.heap.size g n C w.heap.size (fun _=>False) d (Y Z 0 0) (Y Z 0 0) ⟨0,Z,0,0⟩ [] [] ((w.alloc (.cells #[Y Z 0 0,Y Z 0 0,G A 0,G A 0] 47)).alloc (.cells #[Y (T ⟨g,0,Z⟩) n C,G A 0,G A (-1),.pointer (T ⟨w.heap.size,0,Z⟩)] 143))):=by
  refine⟨?_,ht.d8 (((O.refl kJ w).alloc _).alloc _) id,?_,⟨[],iB _ _ _ _,rfl,fun i h=>by simp at h⟩,⟨[],iB _ _ _ _,rfl,fun i h=>by simp at h,fun i j h=>by simp at h⟩,fun _ h=>h.elim⟩
  .have:=W.new (w.alloc (.cells #[Y Z 0 0,Y Z 0 0,G A 0,G A 0] 47)) #[Y (T ⟨g,0,Z⟩) n C,G A 0,G A (-1),.pointer (T ⟨w.heap.size,0,Z⟩)] 143;simpa[AJ,W,Gh]using this
  .exact(W.new w _ _).alloc _
 have O0:=J (((O.refl kJ w).alloc (.cells #[Y Z 0 0,Y Z 0 0,G A 0,G A 0] 47)).alloc (.cells #[Y (T ⟨g,0,Z⟩) n C,G A 0,G A (-1),.pointer (T ⟨w.heap.size,0,Z⟩)] 143));have I0:D (IA n ⟨0,Z,0,0⟩ 0):=⟨f7,iF _,iF _,iF _,fun _=>⟨gS _,gS _,gS _⟩⟩;clear ht hz hV;go_enter func18,ntmps18;go_wp2;go_loopw[] (fun wr=>∃(x:St) (N:List FS) (r:List RF) (fv sv:Value) (U:Nat->Prop) (m:Nat),D (PF (w.heap.size+1) w.heap.size g n C w.heap.size U d fv sv x N r wr)/\D (O kJ w wr)/\D (IA n x N.length)/\D (x.cL=Z->n-x.cJ<=m/\r.length<=x.cJ)/\r.length<=n/\D (Cn d (2*n) m x N r=V)) (fun wr=>OB (w.heap.size+1) n wr)
 case atStart=>exact⟨⟨0,Z,0,0⟩,[],[],_,_,_,n,P0,O0,I0,fun _=>⟨by simp,by simp⟩,by simp,HV⟩
 case round=>
  clear P0 O0 I0 HV;obtain⟨x,N,r,fv,sv,U,m,t,HO,HI,HB,h3,HC⟩:=hrel;have hc:=HI.o.1;obtain⟨t0,t1,t2⟩:=t.o.tk.cells hc;obtain⟨r0,r1,r2⟩:=t.o.rd.cI.e3 0 1 2;have S:=t.o.pr.cI.cell 0;simp at r0 r1 r2 S;have lr:=Ae t.o.rd;have lp:=Ae t.o.pr;have g9:g<wr.heap.size:=(t.o.tk.1.lt g rfl).2;obtain⟨fa,fl,fc,rfl⟩:∃a l c,fv=Y a l c:=by obtain⟨_,h,_⟩:=t.o.fn;exact Ad h
  have e8:fl=r.length:=by obtain⟨_,h,_⟩:=t.o.fn;exact Ag h
  subst e8;have HM:=J (Ib t.o.rd);by_cases a4:x.cL=Z/\(r=[]\/(tokAt d x.cJ).sort≠0)
  .obtain⟨y,b8⟩:=a4;have h5:=HB.o y;obtain⟨m',e9⟩:∃m',m=m'+1:=⟨m-1,by omega⟩;subst e9;obtain⟨f1,x9,b5,h9⟩:∃a b c,GL d (2*n) r.length x N=(a,b,c):=⟨_,_,_,rfl⟩;have e5:D (Cn d (2*n) m' x9 b5 (r++[f1])=V):=by have:=HC.o;rw[Cn,jR ⟨y,b8⟩,h9]at this;exact this
   have c2:=Jp HZ.o (2*n) r.length x N HI.o;rw[h9]at c2;obtain⟨a2,H9,e4⟩:=Ax c2 h9 y;have h0:((r.length:Int)==0)=true\/(((r.length:Int)==0)=false/\(((tokAt d x.cJ).sort:Int) !=0)=true):=by
    cases r with
    |nil=>left;rfl
    |cons a l=>
     right;refine⟨by simp;omega,?_⟩;rcases b8 with q|q
     .cases q
     .simp;omega
   rw[y]at r2;simp only[Gh]at r2;clear HC c2 h9 y b8;rcases h0 with h0|⟨h0,h2⟩
   all_goals
    go_wp2_with fail;go_quiet(fail);go_wp2_with fail;have PQ:=J (t.o.s9 ((O.refl kJ wr).drewN nq));have OQ:D (O kJ w (wr.drewN nq)):=HO.o.drewN nq;clear t0 t1 t2 r0 r1 r2 S lr lp g9 t HO;generalize wr.drewN nq=wq at PQ OQ⊢;obtain⟨x1,b2⟩:∃z,Aw d [102,110] x=z:=⟨_,rfl⟩;refine(Jl (w.heap.size+1) w.heap.size g n C x.cJ x.cL d _ [102,110] (by simp) wq PQ.o.rd PQ.o.tk hc).mono ?_;rintro e o ⟨rfl,d3,b7⟩;have P1:=J (PQ.o.dP b2 b7 d3);have O1:=J (O.new OQ.o b7 (fun k s=>by omega));have c7:x1.cJ<n:=Ci b2 HZ.o hc;have X1:=J b2;clear d3 b7 b2 PQ OQ;go_wp2_with fail;obtain⟨P2,B2,O2⟩:=Ax (P1.o.s9 ((O.refl kJ o).alloc (.cells bA 53))) (W.new o bA 53) (O1.o.alloc (.cells bA 53));have a0:∀k,Value.ownBlock (Y fa r.length fc)=T k->k≠o.heap.size:=fun k s=>by obtain⟨_,h,_⟩:=P1.o.fn;have:=(h.lt k s).2;omega
    have a7:o.heap.size≠w.heap.size+1:=by have:=Ae P1.o.rd;omega
    have a1:=O1.o.size;obtain⟨p,x2,a5⟩:∃q z,Bo d 1 x1=(q,z):=⟨_,_,rfl⟩;refine(Lf (w.heap.size+1) w.heap.size g n C x1.cJ 1 x1.cL d _ P2.o.rd P2.o.tk c7).mono ?_;rw[show(Dl d x1.cJ x1.cL 1).1=p from congrArg Prod.fst a5];rintro e w2 ⟨rfl,d4,a9⟩;obtain⟨P3,P,O3⟩:=Ax (P2.o.get a5 a9 d4) (B2.o.d8 a9 a7) (O.new O2.o a9 (fun k s=>by omega));have c8:x2.cJ<n:=ED a5 (by decide) HZ.o c7;have X2:=J a5;clear d4 a9 a5 P1 P2 B2 O1 O2;unfold JW;obtain⟨f0,c6,f2⟩:=P.o.e3 0 1 2;have ff:=P.o.frozen;have lf:=Ae P.o;simp only[gR,gP,gQ]at f0 c6 f2;go_wp2_with fail;have P4:=J (((P3.o.eO (i:=0) (v:=.string p.d9) P.o a0).eO (i:=1) (v:=G A p.pos) (P.o.set 0 _) a0).eO (i:=2) (v:=G A p.sort) ((P.o.set 0 _).set 1 _) a0);have B4:D (W o.heap.size #[.string p.d9,G A p.pos,G A p.sort,Y Z 0 0,Y Z 0 0,G A 0,Y Z 0 0] 53 (((w2.setCell ⟨o.heap.size,0,Z⟩ (.string p.d9)).setCell ⟨o.heap.size,1,Z⟩ (G A p.pos)).setCell ⟨o.heap.size,2,Z⟩ (G A p.sort))):=by have:=((P.o.set 0 (.string p.d9)).set 1 (G A p.pos)).set 2 (G A p.sort);exact J (by simpa using this)
    have O4:=J (((O3.o.cO (b:=o.heap.size) 0 (.string p.d9) a1).cO (b:=o.heap.size) 1 (G A p.pos) a1).cO (b:=o.heap.size) 2 (G A p.sort) a1);clear P3 P O3 f0 c6 f2 ff lf;generalize ((w2.setCell ⟨o.heap.size,0,Z⟩ (.string p.d9)).setCell ⟨o.heap.size,1,Z⟩ (G A p.pos)).setCell ⟨o.heap.size,2,Z⟩ (G A p.sort)=w3 at P4 B4 O4⊢;obtain⟨x3,b3⟩:∃z,Aw d [40] x2=z:=⟨_,rfl⟩;refine(Jl (w.heap.size+1) w.heap.size g n C x2.cJ x2.cL d _ [40] (by simp) w3 P4.o.rd P4.o.tk c8).mono ?_;rintro e w4 ⟨rfl,d5,b0⟩;obtain⟨P5,B5,O5⟩:=Ax (P4.o.dP b3 b0 d5) (B4.o.d8 b0 a7) (O.new O4.o b0 (fun k s=>by omega));have c9:x3.cJ<n:=Ci b3 HZ.o c8;have X3:=J b3;clear d5 b0 b3 P4 B4 O4;go_wp2_with fail;obtain⟨X,x4,a6⟩:∃q z,Cb d x3=(q,z):=⟨_,_,rfl⟩;refine(PY (w.heap.size+1) w.heap.size g n C x3.cJ x3.cL d _ P5.o.rd P5.o.tk c9 HZ.o).mono ?_;rw[show(CU d x3.cJ x3.cL).1=X from congrArg Prod.fst a6];rintro e w5 ⟨v4,rfl,b9,d6,b1⟩;have T5:=J (Aq b9 (B':=w.heap.size) (by have:=O5.o.size;omega));obtain⟨E,H,F,rfl⟩:=Ad b9;obtain⟨P6,Q,O6⟩:=Ax (P5.o.list a6 b1 d6) (B5.o.d8 b1 a7) (O.new O5.o b1 (fun k s=>by omega));have e6:x4.cJ<n:=EY a6 HZ.o c9;have X4:=J a6;clear d6 b1 a6 b9 P5 B5 O5;have f3:=Q.o.cell 3;have ff:=Q.o.frozen;have lf:=Ae Q.o;have S:=P6.o.pr.cI.cell 0;have lp:=Ae P6.o.pr;simp only[gR,gP,gQ]at f3 S;have f9:w.heap.size≠o.heap.size:=P6.o.pr.cI.ne Q.o (by decide);go_wp2_with fail;have u:=J (P6.o.eO (i:=3) (v:=Y E H F) Q.o a0);have B7:D (W o.heap.size #[.string p.d9,G A p.pos,G A p.sort,Y E H F,Y Z 0 0,G A 0,Y Z 0 0] 53 (w5.setCell ⟨o.heap.size,3,Z⟩ (Y E H F))):=by have:=Q.o.set 3 (Y E H F);exact J (by simpa using this)
    have O7:=J (O6.o.cO (b:=o.heap.size) 3 (Y E H F) a1);have T7:D (CM w.heap.size (w5.setCell ⟨o.heap.size,3,Z⟩ (Y E H F)) (Y E H F) X):=Ai T5.o ((O.refl (fun k=>k=o.heap.size) w5).t9 3 _) (fun k ds fz s=>C6 Q.o (by decide) k ds fz s);clear P6 Q O6 T5 f3 ff lf S lp;generalize w5.setCell ⟨o.heap.size,3,Z⟩ (Y E H F)=w6 at u B7 O7 T7⊢;have G4:Ge 4 x x4:=by have q:=(A9 d [102,110] x).trans (EX d 1 (Aw d [102,110] x));rw[X1.o,show(Bo d 1 x1).2=x2 by rw[X2.o]]at q;have p:=q.trans ((A9 d [40] x2).trans (Fm d (Aw d [40] x2)));rw[X3.o,show(Cb d x3).2=x4 by rw[X4.o]]at p;exact p
    have c5:=J (HI.o.dJ G4 e6);obtain⟨ro,rx,rf,c3⟩:∃a b c,AA d (2*n) r.length (Aw d [123] x4) N []=(a,b,c):=⟨_,_,_,rfl⟩;obtain⟨x5,c4⟩:∃z,Aw d [125] rx=z:=⟨_,rfl⟩;obtain⟨B,c1⟩:∃z,(tokAt d x4.cJ).pos=z:=⟨_,rfl⟩;have hF:f1=⟨p,X,ro,B,[]⟩/\x9=x5/\b5=rf:=by have:=H9.o;unfold GL at this;simp only[X1.o,X2.o,X3.o,X4.o,c3,c4,c1,jF]at this;exact⟨this.1.symm,this.2.1.symm,this.2.2.symm⟩
    obtain⟨rfl,rfl,rfl⟩:=hF;clear G4 HI H9;refine(Ng (2*n) (fun k _=>Xn k) (w.heap.size+1) w.heap.size g n C w.heap.size r.length U d (Y fa r.length fc) sv x4 N w6 u.o.rd u.o.tk u.o.pr u.o.st u.o.ul O7.o.size HZ.o c5.o (fun _=>by omega)).mono ?_;rw[c3,c1];simp only[c4];rintro e w7 ⟨h7,bv,U2,g0,g4,g5,rfl,b6,d7,e0,d2,d9,a3⟩;obtain⟨P8,T8,I8⟩:=Ax (u.o.block (x':=x9) d7 e0 d2 d9 a3) (XA T7.o u.o.rd u.o.pr u.o.st a3) (Aq b6 (B':=w.heap.size) O7.o.size);have M:=J (B7.o.d8 a3.d8 (by
     rintro(q|q|q)
     .exact a7 q
     .exact f9 q.symm
     .obtain⟨_,h,_⟩:=u.o.st;exact Am h B7.o (by decide) _ q rfl))
    have O8:=J (O.new O7.o a3.d8 (fun k s=>by
     rcases s with q|q|q
     .omega
     .omega
     .obtain⟨_,h,_⟩:=u.o.st;exact(h.lt k q).1))
    obtain⟨I,L,K,rfl⟩:=Ad b6;clear g0 g4 g5 b6 d7 e0 d2 d9 a3 u B7 O7 T7 c3 c4 c1 c5;obtain⟨f4,f5⟩:=M.o.e2 4 5;have ff:=M.o.frozen;have lf:=Ae M.o;simp only[gR,gP,gQ]at f4 f5;go_wp2_with fail;have R:=J ((P8.o.eO (i:=5) (v:=G A B) M.o a0).eO (i:=4) (v:=Y I L K) (M.o.set 5 _) a0);have B9:D (W o.heap.size #[.string p.d9,G A p.pos,G A p.sort,Y E H F,Y I L K,G A B,Y Z 0 0] 53 ((w7.setCell ⟨o.heap.size,5,Z⟩ (G A B)).setCell ⟨o.heap.size,4,Z⟩ (Y I L K))):=by have:=(M.o.set 5 (G A B)).set 4 (Y I L K);exact J (by simpa using this)
    have O9:=J ((O8.o.cO (b:=o.heap.size) 5 (G A B) a1).cO (b:=o.heap.size) 4 (Y I L K) a1);have T9:D (CM w.heap.size ((w7.setCell ⟨o.heap.size,5,Z⟩ (G A B)).setCell ⟨o.heap.size,4,Z⟩ (Y I L K)) (Y E H F) X):=Ai T8.o (((O.refl (fun k=>k=o.heap.size) w7).t9 5 _).t9 4 _) (fun k ds fz s=>C6 M.o (by decide) k ds fz s);have I9:D (Ay w.heap.size ((w7.setCell ⟨o.heap.size,5,Z⟩ (G A B)).setCell ⟨o.heap.size,4,Z⟩ (Y I L K)) (Y I L K) ro):=Ai I8.o (((O.refl (fun k=>k=o.heap.size) w7).t9 5 _).t9 4 _) (fun k ds fz s=>C6 M.o (by decide) k ds fz s);clear P8 M O8 T8 I8 f4 f5 ff lf;generalize (w7.setCell ⟨o.heap.size,5,Z⟩ (G A B)).setCell ⟨o.heap.size,4,Z⟩ (Y I L K)=w8 at R B9 O9 T9 I9⊢;have d8:=R.o.fn.choose_spec.1;obtain⟨f0,f1,f2,f3,f4,f5,f6⟩:=B9.o.e7 0 1 2 3 4 5 6;have lf:=Ae B9.o;have S:=R.o.pr.cI.cell 0;have pf:=R.o.pr.cI.frozen 0;have lp:=Ae R.o.pr;simp only[gR,gP,gQ]at f0 f1 f2 f3 f4 f5 f6 S;have NP:=J (fun k s=>(R.o.dU k s).2);have h6:=O9.o.size;go_region_law(refine AC rfl _ _ 44 rfl w.heap.size 53 i0 (.agg bA) 7 112 underlying44 hi g6 g7 g8 rfl (by decide) _ _ _ rfl (d8.alloc _) ⟨w8.heap.size,0,Z⟩ 1 1 (ER ⟨p,X,ro,B,[]⟩ (Y E H F) (Y I L K) AX).toList rfl rfl (AD rfl _ _) (YM _ _ _ _ _ _ _ _ _ _) (by decide) (by unfold maxLen;omega) (by omega) (by simp;omega) ?_;intro v' w9 c0 a8 d1;have q1:w9.cell? ⟨w.heap.size,0,Z⟩=T (Y fa r.length fc):=(gT (a8.block w.heap.size (by simp;omega) (fun h=>NP.o _ h.symm rfl))).trans (by rw[<-S];exact gT (iC _ _ _ lp));have qf:w9.frozen? ⟨w.heap.size,0,Z⟩=false:=(gY (a8.block w.heap.size (by simp;omega) (fun h=>NP.o _ h.symm rfl))).trans (by rw[<-pf];exact gY (iC _ _ _ lp));obtain⟨e1,e3,e2,rfl⟩:=Ad c0);all_goals
     have d0:(w8.alloc (.cells (ER ⟨p,X,ro,B,[]⟩ (Y E H F) (Y I L K) AX) 53)).drew.grownBy w9 (Value.ownBlock (Y fa r.length fc)):=a8;have f8:∀k,Value.ownBlock (Y e1 e3 e2)=T k->Value.ownBlock (Y fa r.length fc)=T k\/w8.heap.size<=k:=fun k s=>(d1 k s).imp id (fun q=>by simp at q;omega)
     have FP:=Cw.push (f:=⟨p,X,ro,B,[]⟩) R.o.fn (((O.refl _ w8).alloc _).drew) T9.o I9.o rfl c0 d0;have PX:=J (R.o.grow FP.1 FP.2 f8);have OX:=J ((O.new O9.o FP.2 (fun k s=>(d8.lt k s).1)).cO (b:=w.heap.size) 0 (Y e1 e3 e2) (gS _));clear a8 d1 c0 d0 FP;go_wp2_with fail;refine⟨⟨x9,b5,r++[⟨p,X,ro,B,[]⟩],_,_,_,m',PX,OX,a2.o.1,fun e=>?_,?_,e5⟩,?_⟩
     .have:=a2.o.2.1 e;simp only[gW,iM];omega
     .simp only[gW,iM];omega
     .rw[Ib PX.o.rd,HM.o,jR e4.o];have g1:=a2.o.2.2;have g2:=a2.o.2.1;have g3:=a2.o.1.1;split
      .rename_i e;have:=g2 e;omega
      .omega
  .have hv:V=(r,x,N):=by
    rw[<-HC.o];cases m with
    |zero=>rw[Cn]
    |succ m=>rw[Cn,jQ a4]
   subst hv
   have e7:(∃b:Nat,x.cL=T b)\/(x.cL=Z/\((r.length:Int)==0)=false/\(((tokAt d x.cJ).sort:Int) !=0)=false):=by
    cases hx:x.cL with
    |some b=>exact .inl ⟨b,rfl⟩
    |none=>
     right;refine⟨rfl,?_,?_⟩
     .cases r with
      |nil=>exact jY ⟨hx,.inl rfl⟩ a4
      |cons a l=>simp;omega
     .by_cases hq:(tokAt d x.cJ).sort=0
      .simp[hq]
      .exact jY ⟨hx,.inr hq⟩ a4
   clear HC a4
   rcases e7 with⟨b,y⟩|⟨y,h0,h1⟩
   .have h4:decide ((b:Int)<0)=false:=by simp
    rw[y]at r2;simp only[Gh]at r2;have b4:=J y;clear y;go_wp2_with fail;go_quiet(fail);go_wp2_with fail;go_quiet(fail);go_wp2;go_ret2;exact⟨_,_,_,by rw[b4.o];rfl,(t.o.s9 (by repeat first|exact BI _ _|apply BG|apply BH|apply BE)).pr,(t.o.s9 (by repeat first|exact BI _ _|apply BG|apply BH|apply BE)).st,(t.o.s9 (by repeat first|exact BI _ _|apply BG|apply BH|apply BE)).fn,HO.o.dM (by repeat first|exact BI _ _|apply BG|apply BH|apply BE)⟩
   .rw[y]at r2
    simp only[Gh]at r2;have b4:=J y;clear y;go_wp2_with fail;go_quiet(fail);go_wp2_with fail;go_quiet(fail);go_wp2;go_ret2;exact⟨_,_,_,by rw[b4.o];rfl,(t.o.s9 (by repeat first|exact BI _ _|apply BG|apply BH|apply BE)).pr,(t.o.s9 (by repeat first|exact BI _ _|apply BG|apply BH|apply BE)).st,(t.o.s9 (by repeat first|exact BI _ _|apply BG|apply BH|apply BE)).fn,HO.o.dM (by repeat first|exact BI _ _|apply BG|apply BH|apply BE)⟩
theorem IN(s:ByteArray):∀(f i:Nat) (a l:List Tk),i<=s.size->BD s f i a=.inr l->l.length+i<=a.length+s.size
 |0,i,a,l,c,h=>by simp only[BD,Sum.inr.injEq]at h;subst h;omega
 |f+1,i,a,l,c,h=>by
  simp only[BD]at h;split at h
  .rename_i d;split at h
   .cases h
   .rename_i t j e;have b:=G7 d e;have:=IN s f j _ l b.2 h;have g:t.toList.length<=1:=by cases t<;>simp
    simp only[gW]at this;omega
  .simp only[Sum.inr.injEq]at h;subst h;omega
theorem DW.gD{l B f g e i v n m w j}(h:DW l B g w j)(u:w.ownsRow f e i v n m){c}(z:Jc l c w){o}(t:Cw B w g o)(p:e≠82)(r:e≠53)(s:e≠9):j.ownsRow f e i v n m:=by
 refine Ai u h ?_;rintro k F L (q|q|⟨_,K,M,q⟩) b
 .subst q;have d:w.heap[k]? =_:=z;rw[b]at d;simp only[gX,iE]at d;exact p d.2.1
 .obtain⟨H,x,_⟩:=t;rcases x.2 with⟨C,_⟩|⟨N,E,I,y,_,a,_⟩
  .rw[C]at q;simp[Value.ownBlock]at q
  .rw[y]at q;simp[Value.ownBlock]at q;subst q;rw[b]at a;simp only[gX,iE]at a;exact r a.2.1
 .rw[b]at q;simp only[gX,iE]at q;exact s q.2.1
structure FR(d:Nat)(fs:List FS)(i:Nat)(f:RF)(t:TF):Prop where
 name:f.name=Ao t.name
 cQ:f.cQ=t.u9.map Ao
 cT:CQ (Dw i d fs) f.cT t.cP
 t8:f.t8=[]
 gI:f.cT.length<=4001
 fU:t.u9.length+(t.cP.map (Cz d)).sum<=4001
structure TQ(d:Nat)(fns:List RF)(fs:List FS)(tfs:List TF):Prop where
 len:fns.length=tfs.length
 dC:fns.length<=4001
 fZ:fs.length<=4001
 gK:∀u,u∈fs->u.args.length<=4001/\u.cT.length<=4001/\u.other.length<=4001
 fr:∀i (h:i<fns.length) (h':i<tfs.length),FR d fs i fns[i] tfs[i]
 dd:d<=8000
def CP(l:List PT)(x:List ByteArray×CS):List ByteArray×CS:=l.foldl (fun x t=>(x.1++[t.d9],Dt x.1 (Ao t) x.2)) x
def Gb(a:List RF)(i:Nat)(t:TF)(c:CS):CS:=
 if BC (a.map fun f=>f.name.d9) t.name.d9 0=i then(if 12<=i then Bi 4 t.name.l7 c else c)else Bi 5 t.name.l7 (if 12<=i then Bi 4 t.name.l7 c else c)
def EI(a:List RF)(d i:Nat)(t:TF)(c:CS):List ByteArray×CS:=Gs a d 1 t.cP (CP t.u9 ([],Gb a i t c))
def BK(a:List RF)(d:Nat):List TF->Nat->List RF×CS->List RF×CS
 |[],_,x=>x
 |t::l,i,x=>BK a d l (i+1) (wv x.1 i (EI a d i t x.2).1,(EI a d i t x.2).2)
def MW(a:List RF)(N:Nat)(c:CS):CS:=
 if 0<=BC (a.map fun f=>f.name.d9) ⟨#[109,97,105,110]⟩ 0/\((a.map fun f=>f.cQ.length)[(BC (a.map fun f=>f.name.d9) ⟨#[109,97,105,110]⟩ 0).toNat]?).getD 0=0 then c else Bi 6 N c
theorem R3(b:List RF)(d:Nat)(a:List TF)(i:Nat)(h:i<a.length)(x:List RF×CS):BK b d (a.drop i) i x=BK b d (a.drop (i+1)) (i+1) (wv x.1 i (EI b d i a[i] x.2).1,(EI b d i a[i] x.2).2):=by rw[iD h];rfl
theorem Mx:∀(l:List PT) (x:List ByteArray×CS),(CP l x).1.length=x.1.length+l.length
 |[],x=>rfl
 |t::l,x=>by have:=Mx l (x.1++[t.d9],Dt x.1 (Ao t) x.2);simp only[CP,jB,gW,gU,iJ]at this⊢;omega
theorem Sb(l:List PT)(k:Nat)(h:k<l.length)(x:List ByteArray×CS):CP (l.drop k) x=CP (l.drop (k+1)) (x.1++[l[k].d9],Dt x.1 (Ao l[k]) x.2):=by unfold CP;rw[iD h];rfl
structure GR(fns0 fns:List RF)(i:Nat):Prop where
 len:fns.length=fns0.length
 eq:∀j (h:j<fns.length) (h':j<fns0.length),fns[j].name=fns0[j].name/\fns[j].cQ=fns0[j].cQ/\fns[j].cT=fns0[j].cT/\fns[j].br=fns0[j].br/\(i<=j->fns[j].t8=fns0[j].t8)
theorem GR.cH{b a i}(h:GR b a i):a.map (fun f=>f.name.d9)=b.map (fun f=>f.name.d9):=by
 apply jL
 .simp[h.len]
 .intro j c d;simp only[jE,(h.eq j (by simpa using c) (by simpa using d)).1]
theorem GR.cQ{b a i}(h:GR b a i):a.map (fun f=>f.cQ.length)=b.map (fun f=>f.cQ.length):=by
 apply jL
 .simp[h.len]
 .intro j c d;simp only[jE,(h.eq j (by simpa using c) (by simpa using d)).2.1]
theorem GR.fun{b a i}(h:GR b a i)(t m c):Ev a t m c=Ev b t m c:=by unfold Ev;rw[h.cH,h.cQ]
theorem GR.sec{b a i}(h:GR b a i)(d s c):MA a d s c=MA b d s c:=by unfold MA;simp only[h.fun]
theorem GR.eT{c b:List RF}{i:Nat}(h:GR c b i):∀(d a:Nat) (t:TS) (x:List ByteArray×CS),FM b d a t x=FM c d a t x
 |0,_,_,x=>rfl
 |d+1,a,.mk s f,x=>by
  have e:(fun(x:List ByteArray×CS) (t:TS)=>Go.Proofs.YtaningfhibkemaaGreatDoor.FM b d (a+1) t x)=fun x t=>Go.Proofs.YtaningfhibkemaaGreatDoor.FM c d (a+1) t x:=by funext x t;exact h.eT d (a+1) t x
  simp only[Go.Proofs.YtaningfhibkemaaGreatDoor.FM,e,Dp,h.sec]
theorem GR.gC{c b i}(h:GR c b i)(d a f x):Gs b d a f x=Gs c d a f x:=by
 have e:(fun(x:List ByteArray×CS) (t:TS)=>Go.Proofs.YtaningfhibkemaaGreatDoor.FM b d a t x)=fun x t=>Go.Proofs.YtaningfhibkemaaGreatDoor.FM c d a t x:=by funext x t;exact h.eT d a t x
 simp only[Go.Proofs.YtaningfhibkemaaGreatDoor.Gs,e]
theorem GR.next{b a i}(h:GR b a i)(g):GR b (wv a i g) (i+1):=by
 refine⟨by rw[D9,h.len],fun j c f=>?_⟩;have d:j<a.length:=by rw[D9]at c;exact c
 have e:=h.eq j d f;simp only[wv,List.getElem_modify];split
 .rename_i k;exact⟨e.1,e.2.1,e.2.2.1,e.2.2.2.1,fun q=>by omega⟩
 .exact⟨e.1,e.2.1,e.2.2.1,e.2.2.2.1,fun q=>e.2.2.2.2 (by omega)⟩
theorem Y2{a i}(f:i<a.length){b}(h:a[i].t8=b):wv a i b=a:=by
 subst h;apply jL
 .simp[wv]
 .intro j d e;simp only[wv,List.getElem_modify];split
  .rename_i c;subst c;rfl
  .rfl
structure XZ(pb wb B pl ca g n cap:Nat)(U:Nat->Prop)(toks:List Tk)(fv sv:Value)(fns:List RF)(fs:List FS)(c:CS)(w w':World):Prop where
 k:RK pb wb B pl ca U fv sv fns fs c w'
 tk:AP g n cap toks w'
 d8:O kJ w w'
theorem XZ.call{j b B l f g n r}{U:Nat->Prop}{u d m x s i c p w v o}(h:XZ j b B l f g n r U u d m x i c w v)(E:w.heap.size<=B)(F:w.heap.size<=b)(y:RK j b B l f U d m s i p o)(a:DW b B d v o):XZ j b B l f g n r U u d m s i p w o:=by
 refine⟨y,⟨a.gD h.tk.1 h.k.wr h.k.fn (by decide) (by decide) (by decide),h.tk.2⟩,?_⟩;refine⟨a.os.trans h.d8.os,a.tape.trans h.d8.tape,a.output.trans h.d8.output,iG h.d8.size a.size,fun k t C=>?_⟩;have e:=h.d8.block k t C;rw[a.block k (iI t h.d8.size) ?_,e];rintro(q|q|⟨q,_⟩)
 .omega
 .obtain⟨_,z,_⟩:=h.k.fn;have:=(z.lt k q).1;omega
 .omega
theorem Uu{m n N F w s}(h:Bj m n F w)(g:Lp F N)(k:s.size<=4000):
 (Instr.lookup 121 (.map (T m)) (.string s) false).run prog w=.ok (G A (Cq F s:Nat)) w:=by
 obtain⟨c,l,a,_⟩:=World.ownsMap.lookup_int h Md underlying121 underlying3 (OU w) (Jv k);have i:c=((Cq F s:Nat):Int):=by
  cases d:Maps.has F (Bq s)with
  |true=>
   obtain⟨j,_,f⟩:=g s d;rw[f]at a;have e:(j:Int)=c:=by simpa using a
   rw[<-e];simp[Cq,f]
  |false=>
   have b:=atKey_of_not_has d (.lit (.int .i64 0));rw[b]at a;have e:(0:Int)=c:=by simpa using a
   rw[<-e];simp[Cq,b]
 rw[<-i];exact l
def Rz(F:DataW Unit)(f:List TF)(d b:Nat)(t:TF)(c:CS):CS:=
 let a:=if 12<=b then Ca 4 t.name.l7 c else c
 let e:=if Cq F t.name.d9=b then a else Ca 5 t.name.l7 a
 (Pa F f d 1 (t.l7,t.cP) (Ts t.u9 (.map [],e))).2
structure Vw(b d:Nat)(U:Nat->Prop)(fs:Value)(fns:List TF)(stop:Int)(mf nf:Nat)(F:DataW Unit)(mv:Value)(fa:Array Value)(w:World)(c:CS)(Wz:World):Prop where
 dK:CT b fs stop (.map (T mf)) mv c Wz
 dY:Bj mf nf F Wz
 rows:DM d U Wz fs fns
 cI:W w.heap.size fa 132 Wz
 d8:O (fun k=>k=b) w Wz
theorem Vw.step{b d:Nat}{U:Nat->Prop}{f:Value}{o:List TF}{j:Int}{g p:Nat}{F:DataW Unit}{i:Value}{n:Array Value}{w l e:World}{c m:CS}(h:Vw b d U f o j g p F i n w c l)(t:¬U b)(u:b<w.heap.size)(r:CT b f j (.map (T g)) i m e)(a:O (fun k=>k=b) l e):Vw b d U f o j g p F i n w m e:=
 ⟨r,h.dY.d8 a (h.dY.ne h.dK),h.rows.d8 a (fun _ s q=>t (q▸s)),W.d8 h.cI a (by omega),h.d8.trans a⟩
theorem Vw.quiet{b d}{U:Nat->Prop}{j i n k m F l g w e f c}(h:Vw b d U j i n k m F l g w c e)(a:O kJ e f):Vw b d U j i n k m F l g w c f:=
 ⟨W.d8 h.dK a id,h.dY.d8 a id,h.rows.d8 a (fun _ _ q=>q),W.d8 h.cI a id,h.d8.trans (a.mono (fun _ _ q=>q.elim))⟩
theorem Vw.made{b d:Nat}{U:Nat->Prop}{i:Value}{e:List TF}{m:Int}{j l:Nat}{F:DataW Unit}{t:Value}{g:Array Value}{w a:World}{c:CS}(h:Vw b d U i e m j l F t g w c a)(n:¬U b)(x:b<w.heap.size)(r:∀k,U k->k<w.heap.size)(p:Lp F e.length)(o:e.length<=4001):
 Ck b d U i e m j l a.heap.size 0 F (.map []) c ((a.alloc (.map #[] 0)).setCell ⟨b,3,Z⟩ (.map (T a.heap.size)))/\W w.heap.size g 132 ((a.alloc (.map #[] 0)).setCell ⟨b,3,Z⟩ (.map (T a.heap.size)))/\O (fun k=>k=b) w ((a.alloc (.map #[] 0)).setCell ⟨b,3,Z⟩ (.map (T a.heap.size))):=by
 have f:O (fun k=>k=b) a ((a.alloc (.map #[] 0)).setCell ⟨b,3,Z⟩ (.map (T a.heap.size))):=((O.refl _ a).alloc _).t9 3 _;have v:=h.d8.size;have u:=World.ownsMap.lt h.dY;refine⟨⟨?_,?_,h.dY.d8 f (h.dY.ne h.dK),h.rows.d8 f (fun _ s q=>n (q▸s)),p,o,by omega,n,fun q=>by have:=r _ q;omega⟩,W.d8 h.cI f (by omega),h.d8.trans f⟩
 .have:=W.set (W.alloc h.dK (.map #[] 0)) 3 (.map (T a.heap.size));simpa[CT]using this
 .have:=World.ownsMap_made (H:=Unit) a prog 9 (plainElem prog 3);exact Bj.d8 this ((O.refl (fun k=>k=b) _).t9 3 _) (by omega)
theorem VQ(b d f:Nat)(U:Nat->Prop)(fs:Value)(a:List TF)(o:Int)(m I:Nat)(F:DataW Unit)(c:CS)(H:Value)(w:World)(M:CT b fs o (.map (T m)) H c w)(hm:Bj m I F w)(hp:DM d U w fs a)(a9:Lp F a.length)(b9:a.length<=4001)(ub:¬U b)(hU:∀k,U k->k<w.heap.size)(c7:f<a.length)
 (hO:∀t,t∈a[f].cP->OZ d t)(c8:a[f].name.d9.size<=4000)(c9:∀t,t∈a[f].u9->t.d9.size<=4000/\t.l7<=4000)(c5:a[f].u9.length+(a[f].cP.map (Cz d)).sum<=4000)(hd:1+d<=4001)(hl:a[f].cP.length<=4000):
 Calls prog 77 #[.pointer (T ⟨b,0,Z⟩),G A f] w fun e w'=>e=.returned (.tuple #[])/\(∃m',CT b fs o (.map (T m)) (.map (T m')) (Rz F a d f a[f] c) w')/\O (fun k=>k=b) w w':=by
 have c6:=hp;obtain⟨d4,p1,_⟩:=c6;obtain⟨va,vl,vc,rfl⟩:=Ad p1;obtain⟨g,rfl⟩:=Ap p1 (by omega);have d2:=Ag p1;subst d2;have lg:=(p1.lt g rfl).2;obtain⟨av,sv,E,v,b0,a6⟩:=hp.get c7;obtain⟨z,l1,B,rfl⟩:=Ad v;have c3:=Ag v;subst c3;have d1:=a6;obtain⟨d5,p2,_⟩:=d1;obtain⟨r,y,s,rfl⟩:=Ad p2;have f0:=E 0 (by omega);have f1:=E 1 (by omega);have f2:=E 2 (by omega);have f3:=E 3 (by omega);have f4:=E 4 (by omega);simp only[MX,gR,gP,gQ,iH]at f0 f1 f2 f3 f4;clear p1 p2 E;have r0:=Ak M 0;have r2:=Ak M 2;simp only[gR,gP,gQ]at r0 r2;have lb:=Ae M;have d7:=@run_makeMap prog;generalize a[f]=t at*;have q0:=(O.refl kJ w).alloc (.cells #[.string t.name.d9,G A t.name.l7,Y z t.u9.length B,G A t.l7,Y r y s] 132);obtain⟨F0,HA,HT,HO,b6⟩:=BB (show Vw b d U _ a o m I F H #[.string t.name.d9,G A t.name.l7,Y z t.u9.length B,G A t.l7,Y r y s] w c (w.alloc (.cells #[.string t.name.d9,G A t.name.l7,Y z t.u9.length B,G A t.l7,Y r y s] 132)) from⟨W.d8 M q0 id,hm.d8 q0 id,hp.d8 q0 (fun _ _ q=>q),W.new w _ _,q0.mono (fun _ _ q=>q.elim)⟩) v a6 hO b0;clear M hm hp v a6 hO b0 q0;go_enter func77,ntmps77;go_upto_if 16 with fail;go_cut[] (fun wx=>∃l,D ((if 12<=f then Ca 4 t.name.l7 c else c)=l)/\D (Vw b d U (Y (T ⟨g,0,Z⟩) a.length vc) a o m I F H #[.string t.name.d9,G A t.name.l7,Y z t.u9.length B,G A t.l7,Y r y s] w l wx))
 case first=>
  by_cases a0:12<=f
  .have c0:(12:Int)<=(f:Int):=by omega
   have a4:=J a0;clear a0;go_wp2_with(go_at_call 79;refine(Ct b 4 t.name.l7 _ o (.map (T m)) H c _ F0.o.dK).mono ?_);rintro e b8 ⟨rfl,P,ow⟩;have n:=J (F0.o.step ub lb P ow);clear P ow;go_wp2_with fail;go_meet
   case rel=>exact⟨_,jR a4.o,n⟩
  .have c0:¬(12:Int)<=(f:Int):=by omega
   have a4:=J a0;clear a0;go_wp2_with fail;go_meet
   case rel=>exact⟨_,jQ a4.o,F0⟩
 case rest=>
 obtain⟨l,E1,n⟩:=hcut;clear F0 r0 r2 f0 f1 f2 f3 f4;have i0:=Ak n.o.cI 0;have i1:=Ak n.o.cI 1;simp only[gR,gP,gQ]at i0 i1;have b5:=Ak n.o.dK 2;simp only[gR,gP,gQ]at b5;have lw:=n.o.d8.size;have d3:=Ae n.o.cI;have a5:=Uu (w:=wc.drew) (n.o.dY.d8 ((O.refl kJ wc).drew) id) a9 c8;go_wp2;go_region;go_upto_if 31 with fail;go_cut[] (fun wx=>∃C,D ((if Cq F t.name.d9=f then l else Ca 5 t.name.l7 l)=C)/\D (Vw b d U (Y (T ⟨g,0,Z⟩) a.length vc) a o m I F H #[.string t.name.d9,G A t.name.l7,Y z t.u9.length B,G A t.l7,Y r y s] w C wx))
 case first=>
  have h:=J (n.o.quiet ((O.refl kJ wc).drew));by_cases N:Cq F t.name.d9=f
  .have a8:(((Cq F t.name.d9:Nat):Int) !=(f:Int))=false:=by simp[N]
   have HX:=J N;clear N a5;rw[a8];go_wp2_with fail;go_meet
   case rel=>exact⟨_,jR HX.o,h⟩
  .have a8:(((Cq F t.name.d9:Nat):Int) !=(f:Int))=true:=by simp;omega
   have HX:=J N;clear N a5;rw[a8];go_wp2_with(go_at_call 79;refine(Ct b 5 t.name.l7 _ o (.map (T m)) H l _ h.o.dK).mono ?_);rintro e b8 ⟨rfl,P,ow⟩;have FX:=J (h.o.step ub lb P ow);clear P ow;go_wp2_with fail;go_meet
   case rel=>exact⟨_,jQ HX.o,FX⟩
 case rest=>
 obtain⟨C,E2,h⟩:=hcut;obtain⟨R,hR⟩:∃R,Ts t.u9 (.map [],C)=R:=⟨_,rfl⟩;have HR:D ((t.u9.drop 0).foldl (fun x t=>(Iq x.1 t,Fg x.1 t x.2)) (.map [],C)=R):=hR;have b1:Rz F a d f t c=(Pa F a d 1 (t.l7,t.cP) R).2:=by unfold Rz;dsimp only;rw[E1.o,E2.o,hR]
 have b7:=J b1;clear b1 hR a5 n i0 i1 b5 lw d3;generalize hV:wc=V at*;have b3:=Ak h.o.dK 3;have bf:=fun i=>Az h.o.dK i
 have lv:=h.o.d8.size;have d9:=Ae h.o.cI;have j0:=Ak h.o.cI 0;have j1:=Ak h.o.cI 1;have j2:=Ak h.o.cI 2;have j3:=Ak h.o.cI 3;have j4:=Ak h.o.cI 4;simp only[gR,gP,gQ]at j0 j1 j2 j3 j4;simp only[gR,gP,gQ]at b3;have a3:=h.o.made ub lb hU a9 b9;obtain⟨KX,BX,OX⟩:=Ax a3.1 a3.2.1 a3.2.2;clear a3;have xq:∀i,(V.alloc (.map #[] 0)).cell? ⟨b,i,Z⟩=V.cell? ⟨b,i,Z⟩:=fun i=>gT (w:=V) (((O.refl kJ V).alloc (.map #[] 0)).block b (by omega) id)
 have x3:=xq 3;rw[b3]at x3;have xf:=fun i=>Az (W.alloc h.o.dK (.map #[] 0)) i
 have z2:=Ak BX.o 2;simp only[gR,gP,gQ]at z2;clear xq;go_wp2;generalize (V.alloc (.map #[] 0)).setCell ⟨b,3,Z⟩ (.map (T V.heap.size))=X at*;go_loopw[44] (fun i wr=>∃(k:Nat) (p:DataW Unit) (l:CS),k<=t.u9.length/\i=G A k/\D (Ck b d U (Y (T ⟨g,0,Z⟩) a.length vc) a o m I V.heap.size k F p l wr)/\D (O (fun k=>k=b\/k=V.heap.size) w wr)/\D (W w.heap.size #[.string t.name.d9,G A t.name.l7,Y z t.u9.length B,G A t.l7,Y r y s] 132 wr)/\D ((t.u9.drop k).foldl (fun x t=>(Iq x.1 t,Fg x.1 t x.2)) (p,l)=R)) (fun i _=>t.u9.length-(intOf i).toNat)
 case atStart=>exact⟨0,.map [],C,by omega,rfl,KX,J (OX.o.mono (fun _ _ q=>.inl q)),BX,HR⟩
 case round=>
  obtain⟨k,p,l,d6,rfl,k1,Q,x1,b4⟩:=hrel;clear KX OX BX HR;have v:∀j,U j->¬(j=b\/j=V.heap.size):=fun j hj q=>q.elim (fun e=>ub (e▸hj)) (fun e=>by have:=hU j hj;omega)
  have l0:=Q.o.size;by_cases hk:k<t.u9.length
  .have L:=Ac HA.o Q.o (fun j hj=>v j (b6.o j hj));obtain⟨ga,rfl⟩:=Ap L (by omega);have d8:=(L.lt ga rfl).2;have ha:=FK hk;have n0:=L.cellAt (k*2) (by omega);have n1:=L.cellAt (k*2+1) (by omega);rw[ha.1]at n0;rw[ha.2]at n1;have d0:=J (Fj (fun x t=>(Iq x.1 t,Fg x.1 t x.2)) t.u9 k hk (p,l));have b2:=c9 t.u9[k] (iA _);clear ha L;generalize t.u9[k]=u at*;have K:=J ((O.refl kJ wr).alloc (.cells #[.string u.d9,G A u.l7] 126));go_wp2_with(go_at_call 115;refine(Ky b _ o (.map (T m)) V.heap.size k p l u _ (k1.o.quiet K.o).dK (k1.o.quiet K.o).t8 b2.1 b2.2 (by omega)).mono ?_;rintro e w2 ⟨rfl,c4,a7,S⟩);go_round
   case rel=>exact⟨k+1,_,_,by omega,by go_num,J ((k1.o.quiet K.o).fB c4 a7 S),J (Q.o.trans ((K.o.mono (fun _ _ q=>q.elim)).trans S)),J (W.d8 (W.d8 x1.o K.o id) S (by omega)),J (d0.o.symm.trans b4.o)⟩
   case measure=>simp[intOf];omega
  .have e:k=t.u9.length:=by omega
   subst e;have a7:(p,l)=R:=by have:=b4.o;simpa using this
   subst a7;have y3:=Ak x1.o 3;have y4:=Ak x1.o 4;simp only[gR,gP,gQ]at y3 y4;go_wp2_with(go_at_call 116;refine(IG d (No d) b d 1 t.l7 U _ a o m I V.heap.size t.u9.length F p l t.cP (Y r y s) _ k1.o (C7.d8 HT.o Q.o v) HO.o c5 hd hl).mono ?_);rintro e w2 ⟨rfl,⟨n2,_,k2⟩,S⟩;go_wp2;go_end0;exact⟨rfl,⟨V.heap.size,by rw[b7.o];exact k2.dK⟩,(Q.o.trans S).mono (fun _ _ q=>q.elim (fun e=>e) (fun e=>by omega))⟩
theorem Gm(s):WideAt.IsKeyLit (Bq s):=by unfold Bq WideAt.IsKeyLit;trivial
theorem Ju{a b}(h:Bq a=Bq b):a=b:=by unfold Bq at h;simp only[Lit.string.injEq]at h;exact ByteArray.ext (Array.toList_inj.1 h)
theorem Ka(N:Nat):∀(l:List TF) (k:Nat) (a:DataW Unit),IsMap a->k+l.length<=N->(∀s,has a (Bq s)=true->∃j:Nat,j<N/\a.atKey (Bq s) (.lit (.int .i64 0))=.lit (.int .i64 j))->∀s,has (A8 l k a) (Bq s)=true->∃j:Nat,j<N/\(A8 l k a).atKey (Bq s) (.lit (.int .i64 0))=.lit (.int .i64 j)
 |[],_,_,_,_,h=>h
 |t::l,k,a,c,f,h=>by
  rw[A8];simp only[gU]at f;by_cases d:has a (Bq t.name.d9)=true
  .rw[jR d];exact Ka N l (k+1) a c (by omega) h
  .rw[jQ d];refine Ka N l (k+1) _ (c.put _ _) (by omega) (fun s e=>?_);by_cases b:Bq s=Bq t.name.d9
   .exact⟨k,by omega,by rw[b];exact atKey_put_same c (Gm _) _ _⟩
   .rw[has_put_other b]at e;rw[atKey_put_other b];exact h s e
theorem V4(a):Lp (A8 a 0 (.map [])) a.length:=fun s b=>Ka a.length a 0 _ isMap_empty (by omega) (fun s b=>by simp[has_eq]at b) s b
def GS(F:DataW Unit)(a:List TF)(d:Nat):List TF->Nat->CS->CS
 |[],_,c=>c
 |t::l,i,c=>GS F a d l (i+1) (Rz F a d i t c)
theorem TX(F:DataW Unit)(a:List TF)(d:Nat)(l:List TF)(i:Nat)(h:i<l.length)(c:CS):GS F a d (l.drop i) i c=GS F a d (l.drop (i+1)) (i+1) (Rz F a d i l[i] c):=by rw[iD h];rfl
def Im(a:List TF)(d b:Nat):CS:=
 if (has (A8 a 0 (.map [])) (Bq ⟨#[109,97,105,110]⟩) && JD a (Cq (A8 a 0 (.map [])) ⟨#[109,97,105,110]⟩)==0)=true then GS (A8 a 0 (.map [])) a d a 0 ⟨0,0⟩
 else Ca 6 b (GS (A8 a 0 (.map [])) a d a 0 ⟨0,0⟩)
structure TV(d:Nat)(fns:List TF):Prop where
 dC:fns.length<=4000
 dd:1+d<=4001
 each:∀t,t∈fns->t.name.d9.size<=4000/\(∀s,s∈t.cP->OZ d s)/\(∀p,p∈t.u9->p.d9.size<=4000/\p.l7<=4000)/\t.u9.length+(t.cP.map (Cz d)).sum<=4000/\t.cP.length<=4000
abbrev aN:Array Value:=#[Y Z 0 0,G A 0,.map Z,.map Z,G A 0,G A 0]
theorem Nk(d:Nat)(U:Nat->Prop)(fs:Value)(a:List TF)(f:Nat)(w:World)(hp:DM d U w fs a)(hU:∀k,U k->k<w.heap.size)(K:TV d a):
 Calls prog 38 #[.agg #[fs,G A f]] w fun e w'=>e=.returned (.tuple #[G A (Im a d f).cS,G A (Im a d f).l7])/\O kJ w w':=by
 have c4:=hp;obtain⟨c8,p1,_⟩:=c4;obtain⟨h,vl,l,rfl⟩:=Ad p1;have c7:=Ag p1;subst c7;have hk:=K.dC;have a1:=V4 a;obtain⟨F,hF⟩:∃F,A8 a 0 (.map [])=F:=⟨_,rfl⟩;rw[hF]at a1;have hV:Im a d f=(if (has F (Bq ⟨#[109,97,105,110]⟩) && JD a (Cq F ⟨#[109,97,105,110]⟩)==0)=true then GS F a d a 0 ⟨0,0⟩else Ca 6 f (GS F a d a 0 ⟨0,0⟩)):=by unfold Im;rw[hF]
 rw[hV];obtain⟨C,S⟩:∃C,GS F a d a 0 ⟨0,0⟩=C:=⟨_,rfl⟩;rw[S];have a5:D (GS F a d (a.drop 0) 0 ⟨0,0⟩=C):=S;obtain⟨V,a0⟩:∃V,(if (has F (Bq ⟨#[109,97,105,110]⟩) && JD a (Cq F ⟨#[109,97,105,110]⟩)==0)=true then C else Ca 6 f C)=V:=⟨_,rfl⟩;rw[a0];have a7:=J a0;clear a0;have HP:=J hp;have HY:=J K;have HL:D (∀t,t∈a->t.name.d9.size<=4000):=fun t ht=>(K.each t ht).1
 obtain⟨a6,P,b5⟩:=Ax hU a1 hF;have b4:D (W (w.heap.size+1) aN 176 ((w.alloc (.cells #[Y h a.length l,G A f] 60)).alloc (.cells aN 176))):=by have:=W.new (w.alloc (.cells #[Y h a.length l,G A f] 60)) aN 176;exact J (by simpa using this)
 have a4:D (W w.heap.size #[Y h a.length l,G A f] 60 (w.alloc (.cells #[Y h a.length l,G A f] 60))):=W.new _ _ _;have b3:D (W w.heap.size #[Y h a.length l,G A f] 60 ((w.alloc (.cells #[Y h a.length l,G A f] 60)).alloc (.cells aN 176))):=a4.o.alloc _;have b8:D (O kJ w (w.alloc (.cells #[Y h a.length l,G A f] 60)).drew):=((O.refl _ w).alloc _).drew;have b9:D (O kJ w ((w.alloc (.cells #[Y h a.length l,G A f] 60)).alloc (.cells aN 176)).drew):=(((O.refl _ w).alloc _).alloc _).drew;clear hp p1 K hV S a1 hU hF;go_enter func38,ntmps38;go_wp2_with fail;go_cut[4] (fun v L=>∃b M,v=.pointer (T ⟨b,0,Z⟩)/\w.heap.size<=b/\b≠w.heap.size/\CT b (Y h a.length l) f (.map (T M)) (.map Z) ⟨0,0⟩ L/\Bj M a.length F L/\W w.heap.size #[Y h a.length l,G A f] 60 L/\O kJ w L)
 case first=>
  go_region_with(go_at_call 76;refine(IK d U _ a f _ (HP.o.d8 (X:=kJ) (by repeat first|exact BI _ _|apply BG|apply BH|apply BE) (fun _ _ q=>q)) HL.o hk).mono ?_;rw[b5.o];rintro e m ⟨M,rfl,hM,b1,g⟩;have E:W w.heap.size #[Y h a.length l,G A f] 60 m:=(by first|exact W.d8 (X:=kJ) (W.d8 (X:=kJ) a4.o ((O.refl kJ _).drew) id) g id|exact W.d8 (X:=kJ) (W.d8 (X:=kJ) b3.o ((O.refl kJ _).drew) id) g id);obtain⟨N,y1⟩:=E.e2 0 1;have yl:=Ae E;simp only[gR,gP,gQ]at N y1;first|(have n:=W.d8 (X:=kJ) (W.d8 (X:=kJ) b4.o ((O.refl kJ _).drew) id) g id;obtain⟨z0,z1,z2,z3,z4,z5⟩:=n.e6 0 1 2 3 4 5;have zf:=n.frozen;have zl:=Ae n;simp only[gR,gP,gQ]at z0 z1 z2 z3 z4 z5)|skip);all_goals
   have c5:=g.size;simp at c5;go_wp2_with fail;go_meet
   case rel=>
    first
    |(have d0:=n
      have hO:=b9.o.dM g
      have hS:O (fun k=>k=w.heap.size+1) m ((((((m.setCell ⟨w.heap.size+1,0,Z⟩ (Y h a.length l)).setCell ⟨w.heap.size+1,1,Z⟩ (G A f)).setCell ⟨w.heap.size+1,2,Z⟩ (.map (T M))).setCell ⟨w.heap.size+1,3,Z⟩ (.map Z)).setCell ⟨w.heap.size+1,4,Z⟩ (G A 0)).setCell ⟨w.heap.size+1,5,Z⟩ (G A 0)):=(((((((O.refl _ m).t9 0 _).t9 1 _).t9 2 _).t9 3 _).t9 4 _).t9 5 _)
      have hB:=((((((n.set 0 (Y h a.length l)).set 1 (G A f)).set 2 (.map (T M))).set 3 (.map Z)).set 4 (G A 0)).set 5 (G A 0))
      exact⟨w.heap.size+1,M,rfl,by omega,by omega,hB,b1.d8 hS (by simp at hM;omega),E.d8 hS (by omega),((hO.mono (fun _ _ q=>q.elim)).trans hS).mono (fun j hj q=>by omega)⟩)
    |(have hO:=b8.o.dM g
      exact⟨m.heap.size,M,rfl,by omega,by omega,W.new m _ _,b1.d8 ((O.refl kJ m).alloc _) id,E.alloc _,hO.alloc _⟩)
 case rest=>
  obtain⟨b,M,rfl,c9,c3,a8,hm,n,ho⟩:=hcut;have N:=n.cell 0;have yl:=Ae n;simp only[gR,gP]at N;have UB:D (¬U b):=fun q=>by have:=a6.o b q;omega
  obtain⟨K0,M0,X0,O0⟩:=Ba a8 hm n ho;clear a8 hm n ho;go_wp2;go_loopw[13] (fun i wr=>∃(k:Nat) (c:CS) (s:Value),k<=a.length/\i=G A k/\D (CT b (Y h a.length l) f (.map (T M)) s c wr)/\D (Bj M a.length F wr)/\D (W w.heap.size #[Y h a.length l,G A f] 60 wr)/\D (O kJ w wr)/\D (GS F a d (a.drop k) k c=C)) (fun i _=>a.length-(intOf i).toNat)
  case atStart=>exact⟨0,_,_,by omega,rfl,K0,M0,X0,O0,a5⟩
  case round=>
   clear K0 M0 X0 O0 a5 N yl;obtain⟨k,c,s,d1,rfl,o,p,z,r,B⟩:=hrel;have R:D (DM d U wr (Y h a.length l) a):=HP.o.d8 r.o (fun _ _ q=>q);have c1:D (∀k,U k->k<wr.heap.size):=fun k hk=>iI (a6.o k hk) r.o.size
   by_cases b0:k<a.length
   .have a2:=TX F a d a k b0 c;rw[B.o]at a2;have c0:=J a2;have he:=HY.o.each a[k] (iA _);have u:=J he;clear a2 B he;go_wp2_with fail;refine(VQ b d k U _ a f M a.length F c s wr o.o p.o R.o P.o (by omega) UB.o c1.o b0 u.o.2.1 u.o.1 u.o.2.2.1 u.o.2.2.2.1 HY.o.dd u.o.2.2.2.2).mono ?_;rintro e m ⟨rfl,⟨m',a9⟩,g⟩;obtain⟨Q,b6,c2⟩:=Ax a9 (p.o.d8 g (p.o.ne o.o)) (z.o.d8 g (fun q=>c3 q.symm));have y:D (O kJ w m):=((r.o.mono (fun _ _ q=>q.elim)).trans g).mono (fun j hj q=>by omega);clear a9 g o p z r;go_wp2_with fail;exact⟨⟨k+1,_,_,by omega,by go_num,Q,b6,c2,y,c0.o.symm⟩,by simp[intOf];omega⟩
   .have e:k=a.length:=by omega
    have c6:C=c:=by have:=B.o;rw[e,jW]at this;exact this.symm
    subst c6;have d2:decide ((k:Int)<(a.length:Int))=false:=by simp;omega
    clear B;cases H:(has F (Bq ⟨#[109,97,105,110]⟩) && JD a (Cq F ⟨#[109,97,105,110]⟩)==0)with
    |true=>
     have x:=J H;clear H;go_wp2_with fail;refine(KB b d U _ a f s M a.length F C wr o.o p.o R.o P.o (by omega)).mono ?_;rw[x.o];rintro e m ⟨rfl,g⟩;obtain⟨r4,r5⟩:=(W.d8 o.o g id).e2 4 5;have lb:=Ae (W.d8 o.o g id);simp only[gR,gP,gQ]at r4 r5;have y:=J (r.o.dM g);clear g;go_wp2_with fail;go_region;go_wp2;go_ret2;have a3:V=C:=by rw[<-a7.o,jR x.o]
     rw[a3];exact⟨rfl,y.o.drew⟩
    |false=>
     have x:=J H;clear H;go_wp2_with fail;refine(KB b d U _ a f s M a.length F C wr o.o p.o R.o P.o (by omega)).mono ?_;rw[x.o];rintro e m ⟨rfl,g⟩;have Q:=J (W.d8 o.o g id);have x1:=(W.d8 z.o g id).cell 1;have xl:=Ae (W.d8 z.o g id);simp only[gR,gP,gQ]at x1;have y:=J (r.o.dM g);clear g o p z r;go_wp2_with fail;refine(Ct b 6 f _ f (.map (T M)) s C m Q.o).mono ?_;rintro e w3 ⟨rfl,I,b2⟩;have r4:=W.cell I 4;have r5:=W.cell I 5;have lb:=Ae I;simp only[gR,gP,gQ]at r4 r5;have b7:D (O kJ w w3):=((y.o.mono (fun _ _ q=>q.elim)).trans b2).mono (fun j hj q=>by omega);clear b2 I x1 xl;go_wp2_with fail;go_region;go_wp2;go_ret2;have a3:V=Ca 6 f C:=by rw[<-a7.o,jQ (by rw[x.o];decide)]
     rw[a3];exact⟨rfl,b7.o.drew⟩
def ZL(w:World)(r:List TF×Nat×PS)(e:Ending)(b:World):Prop:=
 (r.2.2.cR=true/\e=.returned (.tuple #[.agg #[Y Z 0 0,G A 0],G A 3,G A r.2.2.dH])/\Below w.heap.size w b)\/
 (r.2.2.cR=false/\∃(d:Nat) (U:Nat->Prop) (a:Option Addr) (l c:Nat),e=.returned (.tuple #[.agg #[Y a l c,G A r.2.1],G A 0,G A 0])/\DM d U b (Y a l c) r.1/\(∀k,U k->w.heap.size<=k/\k<b.heap.size)/\Below w.heap.size w b)
theorem DM.dV{d}{U:Nat->Prop}{w i f a}{X:Nat->Prop}(h:DM d U w f a)(c:O X w i)(e:∀k,U k->¬X k):DM d U i f a:=by obtain⟨l,n,o,b,p⟩:=h;exact⟨l,Ac n c (fun k q=>e k (b k q)),o,b,fun j g m=>(p j g m).d8 c e⟩
theorem Kk(m F)(hF:Cj m F)(g n b j w)(hG:Below m F w)(V:m<=w.heap.size)(x:AZ g n b j w)(hn:0<n)(hz:(Aj j (n-1)).kind=0):
 Calls prog 37 #[Y (T ⟨g,0,Z⟩) n b] w fun e w'=>ZL w (Cp j n ⟨0,false,0⟩) e w':=by
 have lg:=x.lt;obtain⟨l1,p1,y,I⟩:∃l p y,Cp j n ⟨0,false,0⟩=(l,p,y):=⟨_,_,_,rfl⟩;rw[I];obtain⟨S,R,P,N⟩:=Ba I hz hG hF;clear I hz hG hF;cases E:y.cR with
 |true=>
  have o:=J E;clear E;go_enter func37,ntmps37;go_wp2_with fail;have t:AY (w.heap.size+1) g n b ⟨0,false,0⟩ ((w.alloc (.cells #[Y Z 0 0,G A 0] 60)).alloc (.cells #[Y (T ⟨g,0,Z⟩) n b,G A 0,.bool false,G A 0] 172)):=by have s:=W.new (w.alloc (.cells #[Y Z 0 0,G A 0] 60)) #[Y (T ⟨g,0,Z⟩) n b,G A 0,.bool false,G A 0] 172;simp only[World.size_alloc]at s;simpa[AY]using s
  refine(KJ m F N.o (w.heap.size+1) g n b ⟨0,false,0⟩ j _ (by omega) ((P.o.alloc V _).alloc (by simp;omega) _) (by simp;omega) t (x.d8 (((O.refl kJ _).alloc _).alloc _) id) hn R.o).mono ?_;rw[S.o];rintro e M ⟨d,U,a,l,c,rfl,z,C,i,h⟩;have f:W w.heap.size #[Y Z 0 0,G A 0] 60 M:=((W.new w #[Y Z 0 0,G A 0] 60).alloc _).d8 h (by omega);have H:=J ((((Below.refl w.heap.size w).alloc (gS _) _).alloc (by simp) _).trans (h.dI (B:=w.heap.size) (by simp;omega) (fun k u=>by omega)));obtain⟨q,r⟩:=f.e2 0 1;have bf:=f.frozen;have L:=W.cell i 2;have r3:=W.cell i 3;simp only[gR,gP,gQ,o.o]at q r L r3;have K:=Ae f;have lR:=Ae i;clear i h f x t z C;go_wp2;go_region;go_wp2;refine gZ (v:=.tuple #[.agg #[Y Z 0 0,G A 0],G A 3,G A y.dH]) (by simp[results,results37,go_sem,q,r,K]) rfl (.inl ⟨o.o,rfl,?_⟩);exact((((H.o.setCell (p:=⟨w.heap.size,0,Z⟩) (gS _) _).setCell (p:=⟨w.heap.size,1,Z⟩) (gS _) _).alloc (by simp;omega) _)).trans ⟨rfl,rfl,rfl,gS _,fun _ _=>rfl⟩
 |false=>
  have o:=J E;clear E;go_enter func37,ntmps37;go_wp2_with fail;have t:AY (w.heap.size+1) g n b ⟨0,false,0⟩ ((w.alloc (.cells #[Y Z 0 0,G A 0] 60)).alloc (.cells #[Y (T ⟨g,0,Z⟩) n b,G A 0,.bool false,G A 0] 172)):=by have s:=W.new (w.alloc (.cells #[Y Z 0 0,G A 0] 60)) #[Y (T ⟨g,0,Z⟩) n b,G A 0,.bool false,G A 0] 172;simp only[World.size_alloc]at s;simpa[AY]using s
  refine(KJ m F N.o (w.heap.size+1) g n b ⟨0,false,0⟩ j _ (by omega) ((P.o.alloc V _).alloc (by simp;omega) _) (by simp;omega) t (x.d8 (((O.refl kJ _).alloc _).alloc _) id) hn R.o).mono ?_;rw[S.o];rintro e M ⟨d,U,a,l,c,rfl,z,C,i,h⟩;have f:W w.heap.size #[Y Z 0 0,G A 0] 60 M:=((W.new w #[Y Z 0 0,G A 0] 60).alloc _).d8 h (by omega);have H:=J ((((Below.refl w.heap.size w).alloc (gS _) _).alloc (by simp) _).trans (h.dI (B:=w.heap.size) (by simp;omega) (fun k u=>by omega)));obtain⟨q,r⟩:=f.e2 0 1;have bf:=f.frozen;have L:=W.cell i 2;simp only[gR,gP,gQ,o.o]at q r L;have K:=Ae f;have lR:=Ae i;have HP:=J z;have Q:=J C;have a0:=h.size;simp at a0;clear i h f x t z C;go_wp2;refine gZ (v:=.tuple #[.agg #[Y a l c,G A p1],G A 0,G A 0]) (by simp[results,results37,go_sem,q,r,K]) rfl (.inr ⟨o.o,d,U,a,l,c,rfl,?_,?_,?_⟩)
  .refine HP.o.dV (X:=fun k=>k=w.heap.size) ?_ (fun k u=>by have:=(Q.o k u).1;simp at this;omega);refine O.alloc ?_ _;iterate 2 refine O.t9 ?_ _ _
   exact O.refl _ _
  .intro k u;have:=Q.o k u;simp at this⊢;omega
  .exact((H.o.setCell (p:=⟨w.heap.size,0,Z⟩) (gS _) _).setCell (p:=⟨w.heap.size,1,Z⟩) (gS _) _).alloc (by simp;omega) _
abbrev Vt:Value:=.agg #[Y Z 0 0,G A 0]
def X8(s:ByteArray)(a b:Nat):Prop:=∀w:World,Calls prog 13 #[.string s] w fun e c=>e=.returned (.tuple #[Y Z 0 0,Vt,G A a,G A b])/\Below w.heap.size w c
theorem JK(s p)(i:s.size<=4000)(h:AF s s.size 0 x0=.inl p):X8 s 2 p:=by
 intro w;have H:=J h;clear h;go_enter func13,ntmps13;go_wp2_with fail;refine(GD s i _).mono ?_;rw[H.o];rintro e c ⟨rfl,a⟩;have j:=a.size;simp at j;have g:Below w.heap.size w c:=((Below.refl _ _).alloc (gS _) _).trans (a.mono (by simp));have b:W w.heap.size #[Y Z 0 0,G A 0] 60 c:=by show c.heap[w.heap.size]? =_;rw[a.block _ (by simp)];exact heap_alloc_new w _
 obtain⟨d,f⟩:=b.e2 0 1;have k:=b.frozen;simp only[gR,gP,gQ]at d f;clear a b;go_wp2;refine gZ (v:=.tuple #[Y Z 0 0,Vt,G A 2,G A p]) (by simp[results,results13,go_sem,d,f]) rfl ⟨rfl,?_⟩;exact(g.setCell (p:=⟨w.heap.size,0,Z⟩) (gS _) _).setCell (p:=⟨w.heap.size,1,Z⟩) (gS _) _

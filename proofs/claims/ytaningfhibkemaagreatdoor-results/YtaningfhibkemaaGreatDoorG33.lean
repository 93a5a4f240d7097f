/- Part of the proof: LsJ LsL LsM LsO LsQ LsZ. -/
import Derived.Test.YtaningfhibkemaaGreatDoorG21
set_option maxRecDepth 100000
set_option maxHeartbeats 4000000
namespace Go.Proofs.YtaningfhibkemaaGreatDoor
open Go.RowKit Go.Proofs.Tryz
open Option renaming none->Z,some->T
open Value renaming int->G,slice->Y
open IntKind renaming i64->A
theorem Gt.cI{B f p o c d n s w g b t}{a:Array Value}(h:Gt B f p o c d n s w)(l:Ea f c d w g)(q:W b a t w)(i:t≠88)(j:t≠51):W b a t g:=q.d8 l fun k=>by obtain⟨_,r,v,u,e,m⟩:=h.own k;unfold W at q;rw[q]at e;cases e;exact m.elim i j
theorem Gt.row{B a d y x b c u s w g v e f n}{i:List Value}(h:Gt B d y x b c u s w)(p:Ea d b c w g)(q:w.ownsRow a e f v n i)(j:e≠88)(l:e≠51):g.ownsRow a e f v n i:=Ai q p fun k C H o z=>by obtain⟨_,E,t,F,m,r⟩:=h.own o;rw[m]at z;cases z;exact r.elim j l
theorem OK:∀(l:List Tk) (i:Nat) (_:i<l.length) (j:Nat),j<3->(Bh l)[i*3+j]? =(CH l[i])[j]?
 |[],i,h,_,_=>by simp at h
 |t::l,0,_,j,a=>by unfold Bh;rw[List.flatMap_cons,Nat.zero_mul,iY,jT (by simpa[CH]using a)];rfl
 |t::l,i+1,h,j,a=>by
  unfold Bh;rw[List.flatMap_cons,jS (by simp[CH];omega)];have e:(i+1)*3+j-(CH t).length=i*3+j:=by simp[CH];omega
  rw[e];exact OK l i (by simpa using h) j a
theorem CM.get{B w a c}{l:List Tk}(h:CM B w (Y a l.length c) l){i:Nat}(b:i<l.length):∃g,a=T ⟨g,0,Z⟩/\g<w.heap.size/\∀j,j<3->w.cell? ⟨g,i*3+j,Z⟩=(CH l[i])[j]? :=by obtain⟨g,rfl⟩:=Ap h (by omega);refine⟨g,rfl,(h.lt g rfl).2,fun j d=>?_⟩;rw[h.cellAt (i*3+j) (by omega),OK l i b j d]
structure XU(P:List PFn)(pn cn B sb pb Bp:Nat)(nv cv ev:Value)(w0 w:World)(b4 b6:Nat)(xa fa:Array Value)(av tv:Value)(al tl:List Tk)(s:Ls)(wr:World):Prop where
 x:K8 P pn cn B sb pb nv cv ev w0 s wr
 o:Ea sb cv ev w wr
 b4:W b4 xa 92 wr
 b6:W b6 fa 53 wr
 ar:CM Bp wr av al
 tk:CM Bp wr tv tl
theorem XU.next{P g d B c f j e a b v w n p x q m u l t s r wr i}(h:XU P g d B c f j e a b v w n p x q m u l t s wr)(k:Rb P g d B c f e a b r i)(o:Ea c a b wr i):XU P g d B c f j e a b v w n p x q m u l t r i:=
 ⟨h.x.next k o,h.o.trans o,h.x.p.m.cI o h.b4 (by decide) (by decide),h.x.p.m.cI o h.b6 (by decide) (by decide),h.x.p.m.row o h.ar (by decide) (by decide),h.x.p.m.row o h.tk (by decide) (by decide)⟩
theorem XU.s9{P m f B n l a k g i r w d e u j c q b p s wr t}(h:XU P m f B n l a k g i r w d e u j c q b p s wr)(o:O kJ wr t):XU P m f B n l a k g i r w d e u j c q b p s t:=h.next (h.x.p.s9 o) (Ea.of o)
theorem Nj{P:List PFn}{mn pn cn:Nat}{rf:List RF}{fs:List FS}(K:LsK P mn pn cn rf fs){B H pb Bp pl ca:Nat}{nv cv ev:Value}{U:Nat->Prop}{fv sv:Value}{w0:World}(c7:XN pb Bp B U fv sv rf fs pl ca w0){s:Ls}{w:World}(h:K8 P pn cn B H pb nv cv ev w0 s w){u:FS}{r:Rl}(M:MxR P u r)(hk:r.s.kind=7\/r.s.kind=8){g:Nat}(hg:g<P.length)(hp:(As P g).u9=r.s.args.length)(hE:Ds P r g (least P))(hu:XO 4000 u)(av bv ov:Value)(c5:CM Bp w av u.args)(i4:∃a l c,bv=Y a l c)(i7:∃a l c,ov=Y a l c):
 Calls prog 61 #[.pointer (T ⟨H,0,Z⟩),.agg (Br u av bv ov),G A g] w fun e d=>e=.returned (.tuple #[])/\GQ P pn cn B H pb nv cv ev s w d (Ds P r g):=by
 obtain⟨I,V,N,rfl⟩:=i4;obtain⟨L,l3,Q,rfl⟩:=i7;obtain⟨a1,l1,E,rfl⟩:=Ad c5;have i5:=Ag c5;subst i5;have b3:g<rf.length:=by rw[K.len];exact hg
 have e0:=(K.arx M hk).1;have f2:rf[g].cQ.length=u.args.length:=by rw[K.tkl g b3,hp,e0]
 have k6:=K.dC;have k3:=(K.st M).dC;obtain⟨b7,HX,v,HG,HM,b0,d7,d6⟩:=En (c7.at h.low) h K c7 M hk hE c5;have HU:=J hu;have HP:=J hp;have s0:=h.p.m.bx.cell 0;have d4:=Ae h.p.m.bx;have f0:=Ak b7.o.pr 0;have lp:=Ae b7.o.pr;obtain⟨cs,a0,_⟩:=b7.o.fn;obtain⟨ga,gl,gc,rfl⟩:=Ad a0;have d0:=Ag a0;subst d0;obtain⟨fg,rfl⟩:=Ap a0 (by omega);have lg:=(a0.lt fg rfl).2;obtain⟨tv,j6,vv,t,c6,e4,f3⟩:=b7.o.fn.get b3;obtain⟨t1,t2,t3,rfl⟩:=Ad c6;have i8:=Ag c6;subst i8;obtain⟨e1,e2,e3,rfl⟩:=Ad e4;obtain⟨v1,v2,v3,rfl⟩:=Ad f3;have n0:=t 0 (by decide);have n1:=t 1 (by decide);have n2:=t 2 (by decide);have n3:=t 3 (by decide);have n4:=t 4 (by decide);have n5:=t 5 (by decide);have n6:=t 6 (by decide);simp only[ER,gR,gP,gQ,iH]at s0 f0 n0 n1 n2 n3 n4 n5 n6;have ti:(g:Int)<(rf.length:Int):=by omega
 have b2:=J c6;rw[f2]at n3 b2;obtain⟨F,hF⟩:∃x,rf[g]=x:=⟨_,rfl⟩;have HF:=J hF;rw[hF]at n0 n1 n2 n5 b2;clear t a0 c6 e4 f3 h K c7 M hk hE c5 hu hp f2 e0 hF;go_enter func61,ntmps61;have B4:=J ((W.new w (Br u (Y a1 u.args.length E) (Y I V N) (Y L l3 Q)) 92).alloc (.cells (ER F (Y t1 u.args.length t3) (Y e1 e2 e3) (Y v1 v2 v3)) 53));have B6:D (W (w.heap.size+1) (ER F (Y t1 u.args.length t3) (Y e1 e2 e3) (Y v1 v2 v3)) 53 ((w.alloc (.cells (Br u (Y a1 u.args.length E) (Y I V N) (Y L l3 Q)) 92)).alloc (.cells (ER F (Y t1 u.args.length t3) (Y e1 e2 e3) (Y v1 v2 v3)) 53))):=by have:=W.new (w.alloc (.cells (Br u (Y a1 u.args.length E) (Y I V N) (Y L l3 Q)) 92)) (ER F (Y t1 u.args.length t3) (Y e1 e2 e3) (Y v1 v2 v3)) 53;simp only[World.size_alloc]at this;exact this
 have AL:=J (((O.refl kJ w).alloc (.cells (Br u (Y a1 u.args.length E) (Y I V N) (Y L l3 Q)) 92)).alloc (.cells (ER F (Y t1 u.args.length t3) (Y e1 e2 e3) (Y v1 v2 v3)) 53));go_upto_region 2 with fail;change Code.wp _ _ _ _ ((w.alloc (.cells (Br u (Y a1 u.args.length E) (Y I V N) (Y L l3 Q)) 92)).alloc (.cells (ER F (Y t1 u.args.length t3) (Y e1 e2 e3) (Y v1 v2 v3)) 53));generalize (w.alloc (.cells (Br u (Y a1 u.args.length E) (Y I V N) (Y L l3 Q)) 92)).alloc (.cells (ER F (Y t1 u.args.length t3) (Y e1 e2 e3) (Y v1 v2 v3)) 53)=h8 at B4 B6 AL⊢;generalize i3:w.heap.size+1=b6 at B6⊢;generalize i2:w.heap.size=f at B4⊢;have d5:D (XU P pn cn B H pb Bp nv cv ev w0 w f b6 (Br u (Y a1 u.args.length E) (Y I V N) (Y L l3 Q)) (ER F (Y t1 u.args.length t3) (Y e1 e2 e3) (Y v1 v2 v3)) (Y a1 u.args.length E) (Y t1 u.args.length t3) u.args F.cQ s h8):=⟨HX.o.s9 AL.o,Ea.of AL.o,B4.o,B6.o,Ac d6.o AL.o (fun _ _ q=>q),Ac b2.o AL.o (fun _ _ q=>q)⟩;have a8:D (F.cQ.length=u.args.length):=(Ag b2.o).symm;clear B4 B6 AL d6 b2 n0 n1 n2 n3 n4 n5 n6 s0 f0 d4 lp lg i2 i3 ti;go_wp2_with fail;go_loopw[7] (fun i wr=>∃(k:Nat) (s':Ls),k<=u.args.length/\i=G A k/\D (XU P pn cn B H pb Bp nv cv ev w0 w f b6 (Br u (Y a1 u.args.length E) (Y I V N) (Y L l3 Q)) (ER F (Y t1 u.args.length t3) (Y e1 e2 e3) (Y v1 v2 v3)) (Y a1 u.args.length E) (Y t1 u.args.length t3) u.args F.cQ s' wr)/\D (FC P pn cn s s' (fun S=>∀i a,i<k->r.s.args[i]? =T a->S.F (vN r.f a) (vN g i)))) (fun i _=>u.args.length-(intOf i).toNat)
 case atStart=>exact⟨0,s,by omega,rfl,d5,(FC.rf HX.o.p.i).to fun _ _ i a q=>by omega⟩
 case round=>
  clear d5;obtain⟨k,s',hk,rfl,p,NX⟩:=hrel;by_cases a5:k<u.args.length
  .have tk:decide ((k:Int)<(u.args.length:Int))=true:=by simp;omega
   obtain⟨ag,rfl,k7,c4⟩:=p.o.ar.get a5;have c8:D (CM Bp wr (Y t1 F.cQ.length t3) F.cQ):=by rw[a8.o];exact p.o.tk
   obtain⟨tg,rfl,k8,e9⟩:=c8.o.get (i:=k) (by rw[a8.o];exact a5);have g0:=c4 0 (by decide);have g1:=c4 1 (by decide);have g2:=c4 2 (by decide);have g3:=e9 0 (by decide);simp only[CH,gP,gQ,iH]at g0 g1 g2 g3;have d3:k<r.s.args.length:=by rw[<-(v.o.arx HM.o b0.o).1];exact a5
   have e6:k<rf[g].cQ.length:=by rw[HF.o,a8.o];exact a5
   have hx:=(v.o.arx HM.o b0.o).2 k a5 d3;have hy:=v.o.pax b3 e6;obtain⟨a4,hA⟩:∃x,u.args[k]=x:=⟨_,rfl⟩;have i0:a4.d9.size<=4000:=by rw[<-hA];exact HU.o.2.2 _ (iA _)
   rw[hA]at g0 g1 g2 hx;have i1:∃Tt,(F.cQ[k]'(by rw[a8.o];exact a5)).d9=Tt/\Tt.size<=4000/\F.name.d9++⟨#[46]⟩++Tt=Cd P (vN g k)/\F.name.d9.size<=4000:=by
    refine⟨_,rfl,?_,?_,?_⟩
    .have:=v.o.tkt g b3 k e6;simp only[HF.o]at this;rw[this];exact v.o.hy.nm.t8 _ _
    .have:=hy.1;simp only[HF.o]at this;exact this
    .have:=v.o.name g b3;rw[HF.o]at this;rw[this];exact v.o.hy.nm.name _
   obtain⟨Tt,c9,k1,d9,k2⟩:=i1;rw[c9]at g3;have b1:D (∀b,O kJ wr b->Calls prog 58 #[.pointer (T ⟨H,0,Z⟩),.agg (Br u (Y (T ⟨ag,0,Z⟩) u.args.length E) (Y I V N) (Y L l3 Q)),.agg (XT a4)] b fun e d=>e=.returned (.string (Cd P (vN r.f r.s.args[k])))/\O kJ b d):=fun b R=>by have:=Hw HG.o (p.o.s9 R).x u (Y (T ⟨ag,0,Z⟩) u.args.length E) (Y I V N) (Y L l3 Q) ⟨_,_,_,rfl⟩ ⟨_,_,_,rfl⟩ ⟨_,_,_,rfl⟩ a4 (v.o.ix HM.o) i0;rw[Mg,hx.1]at this;exact this
   have a7:D (∀b,O kJ wr b->Calls prog 60 #[.pointer (T ⟨H,0,Z⟩),.string (Cd P (vN r.f r.s.args[k])),.string (F.name.d9++{data:=#[46]}++Tt)] b fun e d=>e=.returned (.tuple #[])/\GQ P pn cn B H pb nv cv ev s' b d (fun S=>AM P pn (vN g k)->S.F (vN r.f r.s.args[k]) (vN g k))):=fun b R=>GT v.o.nm v.o.hy B H pb nv cv ev s' b (p.o.x.p.s9 R) _ _ rfl d9 (.inl hx.2) (.inl hy.2) (fun _ _=>d7.o.1 k _ (gV d3))
   have h5:=J hy.2;obtain⟨X,hX⟩:∃x,Cd P (vN r.f r.s.args[k])=x:=⟨_,rfl⟩;rw[hX]at b1 a7;have HC:D (∀b,Ea H cv ev wr b->b.cell? ⟨f,0,Z⟩=T (G A u.kind)/\b.cell? ⟨f,1,Z⟩=T (.string u.p.d9)/\b.cell? ⟨f,2,Z⟩=T (G A u.p.pos)/\b.cell? ⟨f,3,Z⟩=T (G A u.p.sort)/\b.cell? ⟨f,4,Z⟩=T (.string u.q.d9)/\b.cell? ⟨f,5,Z⟩=T (G A u.q.pos)/\b.cell? ⟨f,6,Z⟩=T (G A u.q.sort)/\b.cell? ⟨f,7,Z⟩=T (G A u.field)/\b.cell? ⟨f,8,Z⟩=T (Y (T ⟨ag,0,Z⟩) u.args.length E)/\b.cell? ⟨f,9,Z⟩=T (G A u.l7)/\b.cell? ⟨f,10,Z⟩=T (Y I V N)/\b.cell? ⟨f,11,Z⟩=T (Y L l3 Q)/\b.cell? ⟨f,12,Z⟩=T (G A u.br)/\b.cell? ⟨f,13,Z⟩=T (G A u.dR)/\b.cell? ⟨f,14,Z⟩=T (G A u.dD)/\b.cell? ⟨b6,0,Z⟩=T (.string F.name.d9)/\b.cell? ⟨b6,3,Z⟩=T (Y (T ⟨tg,0,Z⟩) u.args.length t3)/\b.cell? ⟨ag,k*3,Z⟩=T (.string a4.d9)/\b.cell? ⟨ag,k*3+1,Z⟩=T (G A a4.pos)/\b.cell? ⟨ag,k*3+2,Z⟩=T (G A a4.sort)/\b.cell? ⟨tg,k*3,Z⟩=T (.string Tt)):=fun b R=>by
    have m:=p.o.x.p.m.cI R p.o.b4 (by decide) (by decide);have h6:=p.o.x.p.m.cI R p.o.b6 (by decide) (by decide);have ha:=p.o.x.p.m.row R p.o.ar (by decide) (by decide);have ht:=p.o.x.p.m.row R c8.o (by decide) (by decide);have ga:∀j,j<3->b.cell? ⟨ag,k*3+j,Z⟩=(CH a4)[j]? :=fun j hj=>by rw[ha.cellAt (k*3+j) (by omega),OK u.args k a5 j hj,hA]
    have gt:b.cell? ⟨tg,k*3+0,Z⟩=T (.string Tt):=by rw[ht.cellAt (k*3+0) (by rw[a8.o];omega),OK F.cQ k (by rw[a8.o];exact a5) 0 (by decide),<-c9];rfl
    exact⟨m.cell 0,m.cell 1,m.cell 2,m.cell 3,m.cell 4,m.cell 5,m.cell 6,m.cell 7,m.cell 8,m.cell 9,m.cell 10,m.cell 11,m.cell 12,m.cell 13,m.cell 14,h6.cell 0,h6.cell 3,ga 0 (by decide),ga 1 (by decide),ga 2 (by decide),gt⟩
   clear hx hy hA c9 d9 hX c4 e9 c8;have k4:¬(9223372036854775807<F.name.d9.size+1):=by omega
   have k5:¬(9223372036854775807<F.name.d9.size+1+Tt.size):=by omega
   obtain⟨y0,y1,y2,y3,y4,y5,y6,y7,y8,y9,o1,o2,o6,o7,o8,o9,p0,p1,p2,p3,p4⟩:=HC.o wr (O.refl _ _);clear g0 g1 g2 g3;go_wp2_with fail;go_region_held3(fun d=>d.cell? ⟨f,0,Z⟩=T (G A u.kind)/\d.cell? ⟨f,1,Z⟩=T (.string u.p.d9)/\d.cell? ⟨f,2,Z⟩=T (G A u.p.pos)/\d.cell? ⟨f,3,Z⟩=T (G A u.p.sort)/\d.cell? ⟨f,4,Z⟩=T (.string u.q.d9)/\d.cell? ⟨f,5,Z⟩=T (G A u.q.pos)/\d.cell? ⟨f,6,Z⟩=T (G A u.q.sort)/\d.cell? ⟨f,7,Z⟩=T (G A u.field)/\d.cell? ⟨f,8,Z⟩=T (Y (T ⟨ag,0,Z⟩) u.args.length E)/\d.cell? ⟨f,9,Z⟩=T (G A u.l7)/\d.cell? ⟨f,10,Z⟩=T (Y I V N)/\d.cell? ⟨f,11,Z⟩=T (Y L l3 Q)/\d.cell? ⟨f,12,Z⟩=T (G A u.br)/\d.cell? ⟨f,13,Z⟩=T (G A u.dR)/\d.cell? ⟨f,14,Z⟩=T (G A u.dD)/\d.cell? ⟨b6,0,Z⟩=T (.string F.name.d9)/\d.cell? ⟨b6,3,Z⟩=T (Y (T ⟨tg,0,Z⟩) u.args.length t3)/\d.cell? ⟨ag,k*3,Z⟩=T (.string a4.d9)/\d.cell? ⟨ag,k*3+1,Z⟩=T (G A a4.pos)/\d.cell? ⟨ag,k*3+2,Z⟩=T (G A a4.sort)/\d.cell? ⟨tg,k*3,Z⟩=T (.string Tt)) (go_keep)
    (first
      |(go_at_call 58;refine(b1.o _ (by repeat first|exact BI _ _|apply BG|apply BH|apply BE)).mono ?_;rintro e w3 ⟨rfl,o3⟩;have O3:=J (O.trans (X:=kJ) (a:=wr) (by repeat first|exact BI _ _|apply BG|apply BH|apply BE) o3);clear o3;obtain⟨z0,z1,z2,z3,z4,z5,z6,z7,z8,z9,z10,z11,z12,z13,z14,z15,z16,z17,z18,z19,z20⟩:=HC.o w3 (Ea.of O3.o))
      |(go_at_call 60;refine(a7.o _ (O.trans (X:=kJ) (a:=wr) O3.o (by repeat first|exact BI _ _|apply BG|apply BH|apply BE))).mono ?_;rintro e w5 ⟨rfl,s5,p5,x5,o5⟩;obtain⟨O5,P5,X5⟩:=Ax (Ea.trans (Ea.of (O.trans (X:=kJ) (a:=wr) O3.o (by repeat first|exact BI _ _|apply BG|apply BH|apply BE))) o5) p5 x5;clear o5 p5 x5;obtain⟨q0,q1,q2,q3,q4,q5,q6,q7,q8,q9,k9,l0,l4,l5,l6,l7,l8,n7,n8,n9,o0⟩:=HC.o w5 O5.o))
   all_goals
    have N5:D (FC P pn cn s s5 (fun S=>∀i a,i<k+1->r.s.args[i]? =T a->S.F (vN r.f a) (vN g i))):=by
     refine(NX.o.then X5.o (fun S h7 c0 q i a h1 h2=>c0.f _ _ (q i a h1 h2))).to fun _ q i a h1 h2=>?_
     rcases jG i k with z|z
     .exact q.1 i a z h2
     .obtain rfl:i=k:=by omega
      rw[gV d3]at h2;cases h2;exact q.2 h5.o
    have C5:=J (p.o.next P5.o O5.o);clear P5 X5 O5 O3 p NX;go_wp2_with fail;go_roundw
    case rel=>exact⟨k+1,s5,by omega,by go_num,C5,N5⟩
    case measure=>simp[intOf];omega
  .have tk:decide ((k:Int)<(u.args.length:Int))=false:=by simp;omega
   have b8:=p.o.b4.cell 8;have j1:=Ae p.o.b4;simp only[Br,gR,gP,gQ]at b8;have N0:D (FC P pn cn s s' (fun S=>(∀i a,r.s.args[i]? =T a->S.F (vN r.f a) (vN g i))/\∀(C:Nat) (u':FS) (o:Rl),C<0->fs[C]? =T u'->MxR P u' o->o.s.kind=10->o.f=g->S.F o.sr r.tg)):=NX.o.to fun _ q=>⟨fun i a h2=>q i a (by have:=(List.getElem?_eq_some_iff.1 h2).1;have:=(v.o.arx HM.o b0.o).1;omega) h2,fun C _ _ h=>by omega⟩
   go_wp2_with fail;clear b8 j1;go_loopw[8] (fun i wr=>∃(j:Nat) (s':Ls),j<=fs.length/\i=G A j/\D (XU P pn cn B H pb Bp nv cv ev w0 w f b6 (Br u (Y a1 u.args.length E) (Y I V N) (Y L l3 Q)) (ER F (Y t1 u.args.length t3) (Y e1 e2 e3) (Y v1 v2 v3)) (Y a1 u.args.length E) (Y t1 u.args.length t3) u.args F.cQ s' wr)/\D (FC P pn cn s s' (fun S=>(∀i a,r.s.args[i]? =T a->S.F (vN r.f a) (vN g i))/\∀(C:Nat) (u':FS) (o:Rl),C<j->fs[C]? =T u'->MxR P u' o->o.s.kind=10->o.f=g->S.F o.sr r.tg))) (fun i _=>fs.length-(intOf i).toNat)
   case atStart=>exact⟨0,s',by omega,rfl,p,N0⟩
   case round=>
    clear p NX N0;obtain⟨j,s2,hj,rfl,p,NX⟩:=hrel;have a9:=HG.o.at p.o.x.low;have s0:=p.o.x.p.m.bx.cell 0;have d4:=Ae p.o.x.p.m.bx;have f1:=Ak a9.pr 1;have lp:=Ae a9.pr;obtain⟨rs,a0,_⟩:=a9.st;obtain⟨j7,j9,j8,rfl⟩:=Ad a0;have d0:=Ag a0;subst d0;simp only[gR,gP,gQ]at s0 f1;by_cases e5:j<fs.length
    .have tj:decide ((j:Int)<(fs.length:Int))=true:=by simp;omega
     obtain⟨sg,rfl⟩:=Ap a0 (by omega);have j2:=(a0.lt sg rfl).2;obtain⟨u3,ybv,yov,t,f4,f5,f6⟩:=a9.st.get e5;obtain⟨y1,y2,y3,rfl⟩:=Ad f4;obtain⟨y4,y5,y6,rfl⟩:=Ad f5;obtain⟨y7,y8,y9,rfl⟩:=Ad f6;obtain⟨y,hy⟩:∃y,fs[j]=y:=⟨_,rfl⟩;rw[hy]at t;have HY:D (fs[j]? =T y):=by rw[gV e5,hy];exact J rfl
     have j0:=v.o.z y (by rw[<-hy];exact iA _);have i9:=v.o.dD j y HY.o;have m0:=t 0 (by decide);have m1:=t 1 (by decide);have m2:=t 2 (by decide);have m3:=t 3 (by decide);have m4:=t 4 (by decide);have m5:=t 5 (by decide);have m6:=t 6 (by decide);have m7:=t 7 (by decide);have m8:=t 8 (by decide);have m9:=t 9 (by decide);have f8:=t 10 (by decide);have f9:=t 11 (by decide);have g4:=t 12 (by decide);have g5:=t 13 (by decide);have g6:=t 14 (by decide);simp only[Br,gR,gP,gQ,iH]at m0 m1 m2 m3 m4 m5 m6 m7 m8 m9 f8 f9 g4 g5 g6;have B9:=J (W.new wr (Br y (Y y1 y2 y3) (Y y4 y5 y6) (Y y7 y8 y9)) 92);have AL:=J ((O.refl kJ wr).alloc (.cells (Br y (Y y1 y2 y3) (Y y4 y5 y6) (Y y7 y8 y9)) 92));clear t f4 f5 f6 hy a0 a9;go_upto_region 10 with fail;change Code.wp _ _ _ _ (wr.alloc (.cells (Br y (Y y1 y2 y3) (Y y4 y5 y6) (Y y7 y8 y9)) 92));generalize wr.alloc (.cells (Br y (Y y1 y2 y3) (Y y4 y5 y6) (Y y7 y8 y9)) 92)=W1 at B9 AL⊢;generalize wr.heap.size=n at B9⊢;have C1:=J (p.o.s9 AL.o);clear p AL m0 m1 m2 m3 m4 m5 m6 m7 m8 m9 f8 f9 g4 g5 g6 s0 f1 d4 lp j2;obtain⟨k0,f7⟩:=B9.o.e2 0 14;have l9:=Ae B9.o;simp only[Br,gR,gP,gQ]at k0 f7;by_cases b5:y.kind=11/\y.dD=g
     .obtain⟨a6,d1⟩:=b5;obtain⟨o,M'⟩:∃o,MxR P y o:=by
       rcases v.o.rule j y HY.o with q|q
       .omega
       .exact q
      have d2:o.s.kind=10:=by
       have h1:=M'.kind;have h2:=M'.dC;unfold DB at h1;split at h1
       .omega
       .split at h1<;>omega
      have e8:o.f=g:=by rw[<-M'.dD];exact d1
      have g7:((y.kind:Int)==11)=true:=by simp[a6]
      have j3:((y.dD:Int)==(g:Int))=true:=by simp[d1]
      have hx:=v.o.srx M' (by omega);have hz:=v.o.tgx HM.o (by have:=b0.o;omega) (by have:=b0.o;omega);have b1:D (∀b,O kJ W1 b->Calls prog 58 #[.pointer (T ⟨H,0,Z⟩),.agg (Br y (Y y1 y2 y3) (Y y4 y5 y6) (Y y7 y8 y9)),.agg (XT y.q)] b fun e d=>e=.returned (.string (Cd P o.sr))/\O kJ b d):=fun b R=>by have:=Hw HG.o (C1.o.s9 R).x y (Y y1 y2 y3) (Y y4 y5 y6) (Y y7 y8 y9) ⟨_,_,_,rfl⟩ ⟨_,_,_,rfl⟩ ⟨_,_,_,rfl⟩ y.q i9 j0.2.1;rw[Mg,hx.1]at this;exact this
      have d8:D (∀b,O kJ W1 b->Calls prog 58 #[.pointer (T ⟨H,0,Z⟩),.agg (Br u (Y a1 u.args.length E) (Y I V N) (Y L l3 Q)),.agg (XT u.p)] b fun e d=>e=.returned (.string (Cd P r.tg))/\O kJ b d):=fun b R=>by have:=Hw HG.o (C1.o.s9 R).x u (Y a1 u.args.length E) (Y I V N) (Y L l3 Q) ⟨_,_,_,rfl⟩ ⟨_,_,_,rfl⟩ ⟨_,_,_,rfl⟩ u.p (v.o.ix HM.o) HU.o.1;rw[Mg,hz.1]at this;exact this
      have e7:Fq P g o.sr:=⟨o.s,by rw[<-e8];exact M'.rl.2,d2,by rw[<-e8];rfl⟩;have a7:D (∀b,O kJ W1 b->Calls prog 60 #[.pointer (T ⟨H,0,Z⟩),.string (Cd P o.sr),.string (Cd P r.tg)] b fun e d=>e=.returned (.tuple #[])/\GQ P pn cn B H pb nv cv ev s2 b d (fun S=>AM P pn r.tg->S.F o.sr r.tg)):=fun b R=>GT v.o.nm v.o.hy B H pb nv cv ev s2 b (C1.o.x.p.s9 R) _ _ rfl rfl (.inl hx.2) (.inl hz.2) (fun _ _=>d7.o.2 _ e7)
      obtain⟨g8,h0,g9,j4⟩:=Ba hz.2 M' d2 hx.2;obtain⟨X,hX⟩:∃x,Cd P o.sr=x:=⟨_,rfl⟩;obtain⟨j5,hZ⟩:∃x,Cd P r.tg=x:=⟨_,rfl⟩;rw[hX]at b1 a7;rw[hZ]at d8 a7;have HC:D (∀b,Ea H cv ev W1 b->b.cell? ⟨n,0,Z⟩=T (G A y.kind)/\b.cell? ⟨n,1,Z⟩=T (.string y.p.d9)/\b.cell? ⟨n,2,Z⟩=T (G A y.p.pos)/\b.cell? ⟨n,3,Z⟩=T (G A y.p.sort)/\b.cell? ⟨n,4,Z⟩=T (.string y.q.d9)/\b.cell? ⟨n,5,Z⟩=T (G A y.q.pos)/\b.cell? ⟨n,6,Z⟩=T (G A y.q.sort)/\b.cell? ⟨n,7,Z⟩=T (G A y.field)/\b.cell? ⟨n,8,Z⟩=T (Y y1 y2 y3)/\b.cell? ⟨n,9,Z⟩=T (G A y.l7)/\b.cell? ⟨n,10,Z⟩=T (Y y4 y5 y6)/\b.cell? ⟨n,11,Z⟩=T (Y y7 y8 y9)/\b.cell? ⟨n,12,Z⟩=T (G A y.br)/\b.cell? ⟨n,13,Z⟩=T (G A y.dR)/\b.cell? ⟨n,14,Z⟩=T (G A y.dD)/\b.cell? ⟨f,0,Z⟩=T (G A u.kind)/\b.cell? ⟨f,1,Z⟩=T (.string u.p.d9)/\b.cell? ⟨f,2,Z⟩=T (G A u.p.pos)/\b.cell? ⟨f,3,Z⟩=T (G A u.p.sort)/\b.cell? ⟨f,4,Z⟩=T (.string u.q.d9)/\b.cell? ⟨f,5,Z⟩=T (G A u.q.pos)/\b.cell? ⟨f,6,Z⟩=T (G A u.q.sort)/\b.cell? ⟨f,7,Z⟩=T (G A u.field)/\b.cell? ⟨f,8,Z⟩=T (Y a1 u.args.length E)/\b.cell? ⟨f,9,Z⟩=T (G A u.l7)/\b.cell? ⟨f,10,Z⟩=T (Y I V N)/\b.cell? ⟨f,11,Z⟩=T (Y L l3 Q)/\b.cell? ⟨f,12,Z⟩=T (G A u.br)/\b.cell? ⟨f,13,Z⟩=T (G A u.dR)/\b.cell? ⟨f,14,Z⟩=T (G A u.dD)):=fun b R=>by have m:=C1.o.x.p.m.cI R C1.o.b4 (by decide) (by decide);have h9:=C1.o.x.p.m.cI R B9.o (by decide) (by decide);exact⟨h9.cell 0,h9.cell 1,h9.cell 2,h9.cell 3,h9.cell 4,h9.cell 5,h9.cell 6,h9.cell 7,h9.cell 8,h9.cell 9,h9.cell 10,h9.cell 11,h9.cell 12,h9.cell 13,h9.cell 14,m.cell 0,m.cell 1,m.cell 2,m.cell 3,m.cell 4,m.cell 5,m.cell 6,m.cell 7,m.cell 8,m.cell 9,m.cell 10,m.cell 11,m.cell 12,m.cell 13,m.cell 14⟩
      clear hx hz hX hZ a6 d1 e7 M' d2;clear k0 f7;obtain⟨p6,p7,r9,t6,t7,t8,t9,u0,u1,u2,p8,p9,r0,r1,r3,r4,r5,r6,r7,r8,s1,s3,s4,s6,s7,s8,s9,t0,t4,t5⟩:=HC.o W1 (O.refl _ _);go_wp2_with fail;go_region_held3(fun d=>d.cell? ⟨n,0,Z⟩=T (G A y.kind)/\d.cell? ⟨n,1,Z⟩=T (.string y.p.d9)/\d.cell? ⟨n,2,Z⟩=T (G A y.p.pos)/\d.cell? ⟨n,3,Z⟩=T (G A y.p.sort)/\d.cell? ⟨n,4,Z⟩=T (.string y.q.d9)/\d.cell? ⟨n,5,Z⟩=T (G A y.q.pos)/\d.cell? ⟨n,6,Z⟩=T (G A y.q.sort)/\d.cell? ⟨n,7,Z⟩=T (G A y.field)/\d.cell? ⟨n,8,Z⟩=T (Y y1 y2 y3)/\d.cell? ⟨n,9,Z⟩=T (G A y.l7)/\d.cell? ⟨n,10,Z⟩=T (Y y4 y5 y6)/\d.cell? ⟨n,11,Z⟩=T (Y y7 y8 y9)/\d.cell? ⟨n,12,Z⟩=T (G A y.br)/\d.cell? ⟨n,13,Z⟩=T (G A y.dR)/\d.cell? ⟨n,14,Z⟩=T (G A y.dD)/\d.cell? ⟨f,0,Z⟩=T (G A u.kind)/\d.cell? ⟨f,1,Z⟩=T (.string u.p.d9)/\d.cell? ⟨f,2,Z⟩=T (G A u.p.pos)/\d.cell? ⟨f,3,Z⟩=T (G A u.p.sort)/\d.cell? ⟨f,4,Z⟩=T (.string u.q.d9)/\d.cell? ⟨f,5,Z⟩=T (G A u.q.pos)/\d.cell? ⟨f,6,Z⟩=T (G A u.q.sort)/\d.cell? ⟨f,7,Z⟩=T (G A u.field)/\d.cell? ⟨f,8,Z⟩=T (Y a1 u.args.length E)/\d.cell? ⟨f,9,Z⟩=T (G A u.l7)/\d.cell? ⟨f,10,Z⟩=T (Y I V N)/\d.cell? ⟨f,11,Z⟩=T (Y L l3 Q)/\d.cell? ⟨f,12,Z⟩=T (G A u.br)/\d.cell? ⟨f,13,Z⟩=T (G A u.dR)/\d.cell? ⟨f,14,Z⟩=T (G A u.dD)) (go_keep)
       (first
         |(go_at_call 60;have q9:=O4;refine(a7.o _ (O.trans (X:=kJ) (a:=W1) O4.o (by repeat first|exact BI _ _|apply BG|apply BH|apply BE))).mono ?_;rintro e w5 ⟨rfl,s5,p5,x5,o5⟩;obtain⟨O5,P5,X5⟩:=Ax (Ea.trans (Ea.of (O.trans (X:=kJ) (a:=W1) O4.o (by repeat first|exact BI _ _|apply BG|apply BH|apply BE))) o5) p5 x5;clear o5 p5 x5;obtain⟨yc0,yc1,yc2,yc3,yc4,yc5,yc6,yc7,yc8,yc9,yc10,yc11,yc12,yc13,yc14,yc15,yc16,yc17,yc18,yc19,yc20,yc21,yc22,yc23,yc24,yc25,yc26,yc27,yc28,yc29⟩:=HC.o w5 O5.o)
         |(go_at_call 58;have q9:=O3;refine(d8.o _ (O.trans (X:=kJ) (a:=W1) O3.o (by repeat first|exact BI _ _|apply BG|apply BH|apply BE))).mono ?_;rintro e w4 ⟨rfl,o4⟩;have O4:=J (O.trans (X:=kJ) (a:=W1) (O.trans (X:=kJ) (a:=W1) O3.o (by repeat first|exact BI _ _|apply BG|apply BH|apply BE)) o4);clear o4;obtain⟨yd0,yd1,yd2,yd3,yd4,yd5,yd6,yd7,yd8,yd9,yd10,yd11,yd12,yd13,yd14,yd15,yd16,yd17,yd18,yd19,yd20,yd21,yd22,yd23,yd24,yd25,yd26,yd27,yd28,yd29⟩:=HC.o w4 (Ea.of O4.o))
         |(go_at_call 58;refine(b1.o _ (by repeat first|exact BI _ _|apply BG|apply BH|apply BE)).mono ?_;rintro e w3 ⟨rfl,o3⟩;have O3:=J (O.trans (X:=kJ) (a:=W1) (by repeat first|exact BI _ _|apply BG|apply BH|apply BE) o3);clear o3;obtain⟨u4,u5,v9,x4,x6,x7,x8,x9,yb8,yb9,u6,u7,u8,u9,v0,v4,v5,v6,v7,v8,w1,w2,w6,w7,w8,w9,x0,x1,x2,x3⟩:=HC.o w3 (Ea.of O3.o)))
      all_goals
       have N5:D (FC P pn cn s s5 (fun S=>(∀i a,r.s.args[i]? =T a->S.F (vN r.f a) (vN g i))/\∀(C:Nat) (u':FS) (o:Rl),C<j+1->fs[C]? =T u'->MxR P u' o->o.s.kind=10->o.f=g->S.F o.sr r.tg)):=by
        refine(NX.o.then X5.o (fun S h7 c0 q=>⟨fun i a z=>c0.f _ _ (q.1 i a z),fun C u' r2 z1 z2 z3 z4 z5=>c0.f _ _ (q.2 C u' r2 z1 z2 z3 z4 z5)⟩)).to fun _ q=>⟨q.1.1,fun C u' r2 z1 z2 z3 z4 z5=>?_⟩
        rcases jG C j with z|z
        .exact q.1.2 C u' r2 z z2 z3 z4 z5
        .obtain rfl:C=j:=by omega
         rw[HY.o]at z2;cases z2;have e1:=v.o.srx z3 (by omega);have e2:=v.o.srx h0.o (by have:=g9.o;omega);rw[Ft v.o.nm v.o.hy (.inl e1.2) (.inl e2.2) (e1.1.symm.trans e2.1)];exact q.2 g8.o
       have C5:=J (C1.o.next P5.o O5.o);clear P5 X5 O5 O4 O3 C1 NX;go_wp2_with fail;go_roundw
       case rel=>exact⟨j+1,s5,by omega,by go_num,C5,N5⟩
       case measure=>simp[intOf];omega
     .have N5:D (FC P pn cn s s2 (fun S=>(∀i a,r.s.args[i]? =T a->S.F (vN r.f a) (vN g i))/\∀(C:Nat) (u':FS) (o:Rl),C<j+1->fs[C]? =T u'->MxR P u' o->o.s.kind=10->o.f=g->S.F o.sr r.tg)):=NX.o.to fun _ q=>⟨q.1,fun C u' r2 z1 z2 z3 z4 z5=>by
       rcases jG C j with z|z
       .exact q.2 C u' r2 z z2 z3 z4 z5
       .obtain rfl:C=j:=by omega
        rw[HY.o]at z2;cases z2;refine jY ⟨?_,?_⟩ b5
        .rw[z3.kind,z4];rfl
        .rw[z3.dD,z5]⟩
      by_cases a6:y.kind=11
      .have g7:((y.kind:Int)==11)=true:=by simp[a6]
       have i6:¬y.dD=g:=fun q=>b5 ⟨a6,q⟩
       have j3:((y.dD:Int)==(g:Int))=false:=by simp;omega
       clear a6 i6 b5;go_wp2_with fail;go_roundw
       case rel=>exact⟨j+1,s2,by omega,by go_num,C1,N5⟩
       case measure=>simp[intOf];omega
      .have g7:((y.kind:Int)==11)=false:=by simp;omega
       clear a6 b5;go_wp2_with fail;go_roundw
       case rel=>exact⟨j+1,s2,by omega,by go_num,C1,N5⟩
       case measure=>simp[intOf];omega
    .have tj:decide ((j:Int)<(fs.length:Int))=false:=by simp;omega
     have R1:D (GQ P pn cn B H pb nv cv ev s w wr (Ds P r g)):=by
      refine⟨s2,p.o.x.p,NX.o.to fun _ q=>⟨q.1,fun x hx=>?_⟩,p.o.o⟩;obtain⟨st,h1,h2,rfl⟩:=hx;rcases v.o.stmt ⟨g,st⟩ ⟨hg,h1⟩with z|⟨kk,uu,z1,z2⟩
      .simp only at z;omega
      .exact q.2 kk uu ⟨g,st⟩ (by have:=(List.getElem?_eq_some_iff.1 z1).1;omega) z1 z2 h2 rfl
     clear p NX a9 a0;go_wp2_with fail;go_end0;exact⟨rfl,R1.o⟩
theorem Xz{P:List PFn}{e a c:Nat}(b:AnHy P e a c){t:Nat}(h:Ez P a t)(d:PK t):AM P a t:=by
 rcases h with q|⟨g,f,rfl⟩
 .exact q
 .have:=b.ok.dC;unfold PK fN at d;omega
theorem Kb{P:List PFn}{r:Rl}{t:Nat}(b:LZ P r)(a:AS r)(h:(least P).I r.at t):Dk P r t (least P):=(Ew P).fol r t b a h
theorem AE{P:List PFn}{u:FS}{r:Rl}(M:MxR P u r){k:Nat}(h:r.s.kind=k):u.kind=DB k:=by rw[M.kind,h]
theorem Wp{u:FS}(n:Nat)(h:u.kind=n):((u.kind:Int)==2)=decide (n=2)/\((u.kind:Int)==3)=decide (n=3)/\((u.kind:Int)==6)=decide (n=6)/\((u.kind:Int)==7)=decide (n=7)/\((u.kind:Int)==8)=decide (n=8)/\((u.kind:Int)==4)=decide (n=4)/\((u.kind:Int)==5)=decide (n=5)/\((u.kind:Int)==10)=decide (n=10)/\((u.kind:Int)==9)=decide (n=9):=by subst h;refine⟨?_,?_,?_,?_,?_,?_,?_,?_,?_⟩<;>rw[Bool.eq_iff_iff]<;>simp<;>omega
theorem Np{P:List PFn}{mn H F:Nat}{rf:List RF}{fs:List FS}(K:LsK P mn H F rf fs){B b E:Nat}{C v x:Value}{s:Ls}{w:World}(h:Rb P H F B b E C v x s w){u:FS}{r:Rl}(M:MxR P u r)(y:r.s.kind=5\/r.s.kind=9){t:Nat}(ht:(least P).I r.at t)(av bv ov:Value)(a9:∃a l c,av=Y a l c)(b0:∃a l c,bv=Y a l c)(b1:∃a l c,ov=Y a l c)(X a4 Q:ByteArray)(hX:X=Cd P t)(hZ:a4=Cd P r.tg)(hQ:Q=Cd P r.sr):
 Calls prog 62 #[.pointer (T ⟨b,0,Z⟩),.agg (Br u av bv ov),.string X,.string a4,.string Q] w fun e d=>e=.returned (.tuple #[])/\GQ P H F B b E C v x s w d (Dk P r t):=by
 obtain⟨f,n,j,rfl⟩:=a9;obtain⟨g,o,k,rfl⟩:=b0;obtain⟨i,p,m,rfl⟩:=b1;have N:=(Du K.hy.ok ht).2;have a5:=(K.tgx M (by omega) (by omega)).2;have a7:=(K.srx M (by omega)).2;have a6:=Kb M.rl (by unfold AS;omega) ht;have AL:=J ((O.refl kJ w).alloc (.cells (Br u (Y f n j) (Y g o k) (Y i p m)) 92));have I:=J (W.new w (Br u (Y f n j) (Y g o k) (Y i p m)) 92);have hP:=h.s9 AL.o;have a0:D (∀d,GQ P H F B b E C v x s (w.alloc (.cells (Br u (Y f n j) (Y g o k) (Y i p m)) 92)) d (Dk P r t)->GQ P H F B b E C v x s w d (Dk P r t)):=fun d ⟨V,R,S,U⟩=>⟨V,R,S,(Ea.of AL.o).trans U⟩
 rcases y with y|y
 .have k5:((u.kind:Int)==5)=true:=by rw[AE M y];rfl
  have L:D (Calls prog 60 #[.pointer (T ⟨b,0,Z⟩),.string X,.string a4] (w.alloc (.cells (Br u (Y f n j) (Y g o k) (Y i p m)) 92)) fun e d=>e=.returned (.tuple #[])/\GQ P H F B b E C v x s (w.alloc (.cells (Br u (Y f n j) (Y g o k) (Y i p m)) 92)) d (Dk P r t)):=
   (GT K.nm K.hy B b E C v x s _ hP X a4 hX hZ N (.inl a5) (fun q _=>a6.2.1 y (q.isC K.hy.ok.dC K.hy.ok.ok.t8))).mono fun e d ⟨q0,V,R,S,U⟩=>⟨q0,V,R,S.to fun _ z=>⟨fun q=>by omega,fun _ _=>z a5,fun q=>by omega,fun q=>by omega⟩,U⟩
  clear h K M N a5 a7 a6 hP hX hZ hQ ht;go_enter func62,ntmps62;go_upto_region 1 with fail;generalize w.alloc (.cells (Br u (Y f n j) (Y g o k) (Y i p m)) 92)=a8 at AL I L a0⊢;have k0:=I.o.cell 0;have lb:=Ae I.o;simp only[Br,gR,gP]at k0;go_wp2_with fail;refine L.o.mono ?_;rintro e w2 ⟨rfl,q⟩;have R1:=J (a0.o _ q);clear q;go_wp2_with fail;go_end0;exact⟨rfl,R1.o⟩
 .have k5:((u.kind:Int)==5)=false:=by rw[AE M y];rfl
  have b2:((u.kind:Int)==10)=true:=by rw[AE M y];rfl
  have L:D (Calls prog 60 #[.pointer (T ⟨b,0,Z⟩),.string Q,.string X] (w.alloc (.cells (Br u (Y f n j) (Y g o k) (Y i p m)) 92)) fun e d=>e=.returned (.tuple #[])/\GQ P H F B b E C v x s (w.alloc (.cells (Br u (Y f n j) (Y g o k) (Y i p m)) 92)) d (Dk P r t)):=
   (GT K.nm K.hy B b E C v x s _ hP Q X hQ hX (.inl a7) N (fun _ q=>a6.2.2.1 y (q.isC K.hy.ok.dC K.hy.ok.ok.t8))).mono fun e d ⟨q0,V,R,S,U⟩=>⟨q0,V,R,S.to fun _ z=>⟨fun q=>by omega,fun q=>by omega,fun _ q=>z (Xz K.hy N q),fun q=>by omega⟩,U⟩
  clear h K M N a5 a7 a6 hP hX hZ hQ ht;go_enter func62,ntmps62;go_upto_region 1 with fail;generalize w.alloc (.cells (Br u (Y f n j) (Y g o k) (Y i p m)) 92)=a8 at AL I L a0⊢;have k0:=I.o.cell 0;have lb:=Ae I.o;simp only[Br,gR,gP]at k0;go_wp2_with fail;refine L.o.mono ?_;rintro e w2 ⟨rfl,q⟩;have R1:=J (a0.o _ q);clear q;go_wp2_with fail;go_end0;exact⟨rfl,R1.o⟩
def Le(n:Nat):ByteArray:=⟨(Lib.decDigits n).toArray⟩
theorem Fh(n:Nat)(h:n<=4001):(Le n).size<=5:=by
 have:=Lib.decDigits_length n;have c:Lib.nDigits n<=5:=by
  rcases jG n 10 with q|q
  .rw[Lib.nDigits_small q];omega
  .rcases jG n 100 with a|a
   .rw[Lib.nDigits_unique 1 n (by omega) (by omega)];omega
   .rcases jG n 1000 with b|b
    .rw[Lib.nDigits_unique 2 n (by omega) (by omega)];omega
    .rw[Lib.nDigits_unique 3 n (by omega) (by omega)];omega
 have e:(Le n).size=(Lib.decDigits n).length:=by unfold Le;simp[ByteArray.size]
 omega
theorem ON(P:List PFn){n k:Nat}(b:1<=n)(a:k<4):Le n++⟨#[46]⟩++Le k=Cd P (pN n k):=by
 have e:Q6 (pN n k)=⟨1,n,k⟩:=by unfold Q6 Dz pN;rw[jQ (by omega),jQ (by omega)];simp only;rw[show(156+(n-1)*4+k-156) / 4+1=n by omega,show(156+(n-1)*4+k-156) % 4=k by omega]
 unfold Cd IX Le;rw[e];apply ByteArray.ext;apply Array.ext';simp
theorem XB(P:List PFn){n:Nat}(a:1<=n):Le n++⟨#[46,48]⟩=Cd P (pN n 0):=by rw[<-ON P a (by decide)];unfold Le;rw[Lib.decDigits_one (i:=0) (by decide)];apply ByteArray.ext;apply Array.ext';simp
theorem Ru{P:List PFn}{mn d C:Nat}{rf:List RF}{fs:List FS}(K:LsK P mn d C rf fs){B y V Bp ca:Nat}{nv H I:Value}{U:Nat->Prop}{fv sv:Value}{w0:World}(b4:XN V Bp B U fv sv rf fs d ca w0){s:Ls}{w:World}(h:K8 P d C B y V nv H I w0 s w){u:FS}{r:Rl}(M:MxR P u r)(R:r.s.kind=3){t:Nat}(ht:(least P).I r.at t)(av bv ov:Value)(d3:∃a l c,av=Y a l c)(d4:∃a l c,bv=Y a l c)(d8:∃a l c,ov=Y a l c)(X a8 Q:ByteArray)(hX:X=Cd P t)(hZ:a8=Cd P r.tg):
 Calls prog 62 #[.pointer (T ⟨y,0,Z⟩),.agg (Br u av bv ov),.string X,.string a8,.string Q] w fun e F=>e=.returned (.tuple #[])/\GQ P d C B y V nv H I s w F (Dk P r t):=by
 obtain⟨a1,l1,c1,rfl⟩:=d3;obtain⟨a2,l2,c2,rfl⟩:=d4;obtain⟨a3,l3,c3,rfl⟩:=d8;have b2:=(Du K.hy.ok ht).2;have b8:=(K.tgx M (by omega) (by omega)).2;have b9:=Kb M.rl (by unfold AS;omega) ht;have d5:=(K.st M).field;have e6:=K.hy.pn;have b3:u.field=r.s.field:=M.field R;have k5:((u.kind:Int)==5)=false:=by rw[AE M R];rfl
 have e7:((u.kind:Int)==10)=false:=by rw[AE M R];rfl
 have k4:((u.kind:Int)==4)=true:=by rw[AE M R];rfl
 have AL:=J ((O.refl kJ w).alloc (.cells (Br u (Y a1 l1 c1) (Y a2 l2 c2) (Y a3 l3 c3)) 92));have j:=J (W.new w (Br u (Y a1 l1 c1) (Y a2 l2 c2) (Y a3 l3 c3)) 92);obtain⟨a4,HK,HG,c8,d1⟩:=BB (h.s9 AL.o) K b4 b8 b2;have b7:D (∀m,1<=m->t=pN m 0->(least P).I r.tg (pN m r.s.field)):=fun m hm e=>by
  have:=b9.1 R (by rw[e];unfold pN;omega) (by rw[e];unfold pN;omega);rw[e]at this;have e2:pN m 0+r.s.field=pN m r.s.field:=by unfold pN;omega
  rw[e2]at this;exact this
 have c9:D (∀n,1<=n->n<=d->((X.toList==(Le n++⟨#[46,48]⟩).toList)=true↔t=pN n 0)):=fun n f o=>by
  rw[XB P f,hX];constructor
  .intro q;exact Ft K.nm K.hy b2 (.inl (.inr ⟨n,0,f,o,by decide,rfl⟩)) (CA (beq_iff_eq.1 q))
  .rintro rfl;simp
 have HZ:=J hZ;have a6:=J R;obtain⟨g,a9⟩:∃n,r.s.field=n:=⟨_,rfl⟩;rw[a9]at b7 d5 b3;have d0:=J a9;clear h K b4 M b2 b8 b9 hX hZ ht R a9;go_enter func62,ntmps62;go_upto_region 1 with fail;generalize w.alloc (.cells (Br u (Y a1 l1 c1) (Y a2 l2 c2) (Y a3 l3 c3)) 92)=e1 at AL j a4⊢;generalize w.heap.size=b6 at j⊢;have k0:=j.o.cell 0;have lb:=Ae j.o;simp only[Br,gR,gP]at k0;go_wp2_with fail;clear k0 lb;go_loopw[10] (fun i wr=>∃(n:Nat) (L:Ls),1<=n/\n<=d+1/\i=G A n/\D (K8 P d C B y V nv H I w0 L wr)/\D (W b6 (Br u (Y a1 l1 c1) (Y a2 l2 c2) (Y a3 l3 c3)) 92 wr)/\D (Ea y H I w wr)/\D (FC P d C s L (fun S=>∀m,1<=m->m<n->t=pN m 0->S.I r.tg (pN m g)))) (fun i _=>d+1-(intOf i).toNat)
 case atStart=>exact⟨1,s,by omega,by omega,rfl,a4,j,Ea.of AL.o,(FC.rf a4.o.p.i).to fun _ _ m f o=>by omega⟩
 case round=>
  clear a4 j AL;obtain⟨n,L,b0,e5,rfl,p,j,HO,NX⟩:=hrel;have b1:=HG.o.at p.o.low;have s0:=p.o.p.m.bx.cell 0;have e8:=Ae p.o.p.m.bx;have f2:=Ak b1.pr 2;have lp:=Ae b1.pr;simp only[gR,gP,gQ]at s0 f2;clear b1;by_cases d7:n<=d
  .have tn:decide ((n:Int)<=(d:Int))=true:=by simp;omega
   have hz:=Fh n (by omega);have a0:=c9.o n b0 d7;have HD:D (∀b,Calls prog 23 #[G A n] b fun e F=>e=.returned (.string (Le n))/\O kJ b F):=fun b=>(Hb n (by omega) b).mono fun _ _ ⟨f,m,o⟩=>⟨f,by rw[o];exact(O.refl _ _).drewN m⟩
   have c0:∀b,O kJ wr b->t=pN n 0->Calls prog 59 #[.pointer (T ⟨y,0,Z⟩),.string a8,.string (Le n++{data:=#[46]}++Le g)] b fun e F=>e=.returned (.tuple #[])/\GQ P d C B y V nv H I L b F (fun S=>S.I r.tg (pN n g)):=fun b v e=>Li HK.o.nm HK.o.hy B y V nv H I L b (p.o.p.s9 v) _ _ HZ.o (ON P b0 (by omega)) c8.o (b7.o n b0 e)
   have a7:=J c0;have d9:=Fh g (by omega);have b5:D (∀b,Calls prog 23 #[G A g] b fun e F=>e=.returned (.string (Le g))/\O kJ b F):=fun b=>(Hb g (by omega) b).mono fun _ _ ⟨f,m,o⟩=>⟨f,by rw[o];exact(O.refl _ _).drewN m⟩
   obtain⟨a5,hD⟩:∃x,Le n=x:=⟨_,rfl⟩;obtain⟨E,hE⟩:∃x,Le g=x:=⟨_,rfl⟩;rw[hD]at hz HD a7 a0;rw[hE]at d9 b5 a7;clear c0 hD hE;cases hb:(X.toList==(a5++({data:=#[46,48]}:ByteArray)).toList)with
   |true=>
    have HT:=J (a0.1 hb);clear a0;have c7:=j.o.cell 7;have lb:=Ae j.o;simp only[Br,gR,gP,gQ]at c7;rw[b3]at c7;have e3:¬(9223372036854775807<a5.size+1):=by omega
    have e4:¬(9223372036854775807<a5.size+1+E.size):=by omega
    have HC:D (∀b,Ea y H I wr b->b.cell? ⟨b6,7,Z⟩=T (G A g)):=fun b v=>by have:=(p.o.p.m.cI v j.o (by decide) (by decide)).cell 7;simp only[Br,gR,gP,gQ]at this;rw[b3]at this;exact this
    go_upto_region 11 with(go_at_call 23;refine(HD.o _).mono ?_;rintro e w3 ⟨rfl,o3⟩;have N:=J o3;clear o3);have c3:=HC.o w3 (Ea.of N.o);clear c7 s0 f2;go_region_held3(fun F=>F.cell? ⟨b6,7,Z⟩=T (G A g)) (go_keep)
     (first
       |(go_at_call 59;refine(a7.o _ (O.trans (X:=kJ) (a:=wr) O5.o (by repeat first|exact BI _ _|apply BG|apply BH|apply BE)) HT.o).mono ?_;rintro e w6 ⟨rfl,s6,p6,x6,o6⟩;obtain⟨O6,P6,X6⟩:=Ax (Ea.trans (Ea.of (O.trans (X:=kJ) (a:=wr) O5.o (by repeat first|exact BI _ _|apply BG|apply BH|apply BE))) o6) p6 x6;clear o6 p6 x6;have c6:=HC.o w6 O6.o)
       |(go_at_call 23;have q9:=O4;refine(b5.o _).mono ?_;rintro e w5 ⟨rfl,o5⟩;have O5:=J (O.trans (X:=kJ) (a:=wr) (O.trans (X:=kJ) (a:=wr) O4.o (by repeat first|exact BI _ _|apply BG|apply BH|apply BE)) o5);clear o5;have c5:=HC.o w5 (Ea.of O5.o))
       |(go_at_call 23;refine(HD.o _).mono ?_;rintro e w4 ⟨rfl,o4⟩;have O4:=J (O.trans (X:=kJ) (a:=wr) (O.trans (X:=kJ) (a:=wr) N.o (by repeat first|exact BI _ _|apply BG|apply BH|apply BE)) o4);clear o4;have c4:=HC.o w4 (Ea.of O4.o)))
    all_goals
     have N6:D (FC P d C s s6 (fun S=>∀m,1<=m->m<n+1->t=pN m 0->S.I r.tg (pN m g))):=by
      refine(NX.o.then X6.o (fun S e0 d2 q m f o v=>d2.i _ _ (q m f o v))).to fun _ q m f o v=>?_
      rcases jG m n with z|z
      .exact q.1 m f z v
      .obtain rfl:m=n:=by omega
       exact q.2
     obtain⟨B7,X7,O7⟩:=Ax (p.o.p.m.cI O6.o j.o (by decide) (by decide)) (p.o.next P6.o O6.o) (HO.o.trans O6.o);clear O6 P6 X6 O5 O4 N c6 c5 c4 c3;go_wp2_with fail;go_roundw
     case rel=>exact⟨n+1,s6,by omega,by omega,by go_num,X7,B7,O7,N6⟩
     case measure=>simp[intOf];omega
   |false=>
    have HT:D (t≠pN n 0):=fun q=>by have:=a0.2 q;rw[hb]at this;cases this
    have N6:D (FC P d C s L (fun S=>∀m,1<=m->m<n+1->t=pN m 0->S.I r.tg (pN m g))):=NX.o.to fun _ q m f o v=>by
     rcases jG m n with z|z
     .exact q m f z v
     .obtain rfl:m=n:=by omega
      exact jY v HT.o
    clear a0;go_wp2_with(go_at_call 23;refine(HD.o _).mono ?_;rintro e w3 ⟨rfl,o3⟩;have N:=J o3;clear o3);obtain⟨X7,B7,O7⟩:=Ax (p.o.s9 N.o) (j.o.d8 N.o id) (HO.o.trans (Ea.of N.o));go_roundw
    case rel=>exact⟨n+1,L,by omega,by omega,by go_num,X7,B7,O7,N6⟩
    case measure=>simp[intOf];omega
  .have tn:decide ((n:Int)<=(d:Int))=false:=by simp;omega
   have R1:D (GQ P d C B y V nv H I s w wr (Dk P r t)):=by
    refine⟨L,p.o.p,NX.o.to fun _ q=>⟨fun _ f o=>?_,fun q=>by have:=a6.o;omega,fun q=>by have:=a6.o;omega,fun q=>by have:=a6.o;omega⟩,HO.o⟩;obtain⟨m,k,m1,m2,m3,rfl⟩:=d1.o.field HK.o.hy.ok.dC HK.o.hy.ok.ok.t8 f;have d6:k=0:=by unfold pN at o;omega
    subst d6;have:=q m m1 (by omega) rfl;rw[d0.o,show pN m 0+g=pN m g by unfold pN;omega];exact this
   clear p j HO NX;go_wp2_with fail;go_end0;exact⟨rfl,R1.o⟩
theorem YY{a:List TF}(d:GoodP a){b:List RF}{e:List FS}(S:RuS (fnN a) (paN a) (xfR a 0 0) b e)(f:Nat)(h:f<b.length):b[f].t8=(As (Bl (fnN a) a 0 0) f).t8:=by
 have c:f<a.length:=by have:=S.h.eN;simp only[fnN,iT]at this;omega
 rw[S.h.t8 f h,Fw a f c,(d.one f c).2.1]
def QZ(f:RF):List ByteArray:=f.t8.map fun v=>f.name.d9++⟨#[46]⟩++v
def K5(a:List RF)(k:Nat):List ByteArray:=(a.take k).flatMap QZ
def Qn(n:Nat):List ByteArray:=(List.range 4).map fun k=>Le n++⟨#[46]⟩++Le k
def Q4(n:Nat):List ByteArray:=(List.range n).flatMap fun i=>Qn (i+1)
theorem Qi(a:List RF)(k:Nat)(h:k<a.length):K5 a (k+1)=K5 a k++QZ a[k]:=by unfold K5;rw[iX h,List.flatMap_append,List.flatMap_singleton]
theorem WA(n:Nat):Q4 (n+1)=Q4 n++Qn (n+1):=by unfold Q4;rw[List.range_succ,List.flatMap_append,List.flatMap_singleton]
theorem aY{P:List PFn}{q d l:Nat}{a:List RF}{m:List FS}(K:LsK P q d l a m)(o:∀f (h:f<a.length),a[f].t8=(As P f).t8):Iv P d=K5 a a.length++Q4 d:=by
 unfold Iv Yv;rw[jZ,List.map_flatMap,List.map_flatMap,<-K.len];congr 1
 .have:∀k,k<=a.length->(List.range k).flatMap (fun f=>((List.range (As P f).t8.length).map (vN f)).map (Cd P))=K5 a k:=by
   intro k;induction k with
   |zero=>intro _;rfl
   |succ k p=>
    intro c;rw[Qi a k c,List.range_succ,List.flatMap_append,List.flatMap_singleton,p (by omega)];congr 1;have e:QZ a[k]=(As P k).t8.map fun v=>CR P k++⟨#[46]⟩++v:=by unfold QZ;rw[o k c,K.name k c]
    rw[e];refine jL (by simp) fun i g j=>?_
    have b:i<(As P k).t8.length:=by simpa using g
    simp only[jE,List.getElem_range];rw[<-Lm K.hy (by rw[<-K.len];exact c) b];unfold Ii;rw[gV b];rfl
  exact this _ (gS _)
 .unfold Q4;congr 1;funext n;unfold Qn;refine jL (by simp) fun i g j=>?_
  have b:i<4:=by simpa using j
  simp only[jE,List.getElem_range];exact(ON P (by omega) b).symm
theorem Gt.setE{B I H F p r t E s w g}(h:Gt B I H F p (Y (T ⟨g,0,Z⟩) r t) E s w)(i:Nat)(u:Value)(L:List ByteArray)(U:Au B w u L):
 Gt B I H F p (Y (T ⟨g,0,Z⟩) r t) E ⟨s.cells,s.ents.set i L,s.more⟩ (w.setCell ⟨g,i,Z⟩ u)/\O (fun k=>k=g) w (w.setCell ⟨g,i,Z⟩ u)/\B<=g:=by
 have d:O (fun k=>k=g) w (w.setCell ⟨g,i,Z⟩ u):=(O.refl _ w).t9 i u;have x:=h.en;obtain⟨a,c,e⟩:=x.form;cases e;obtain⟨V,K,C,Q⟩:=x;obtain⟨P,X,fz,y⟩:=CB C (k:=g) rfl;have f:∀{v l},Au B w v l->Au B (w.setCell ⟨g,i,Z⟩ u) v l:=fun{v l} q=>Ai q d (fun k ds f2 o z=>by subst o;rw[y]at z;cases z)
 refine⟨⟨h.bx.d8 d (fun q=>?_),f h.nr,h.nl,?_,⟨V.set i u,by simp[K],?_,fun j m b=>?_⟩,h.sb,h.ne,h.ln,h.sh⟩,d,P⟩
 .have n:=h.bx;unfold W at n;rw[q,y]at n;cases n
 .obtain⟨N,M,S,R⟩:=h.cl;exact⟨N,M,Ac S d (fun k o q=>h.ne k g o rfl q),fun j m b=>f (R j m b)⟩
 .have:=(C.stored i u).1;simpa using this
 .simp only[jV]at m b;rw[List.getElem_set,List.getElem_set];split
  .exact f U
  .exact f (Q j (by omega) b)
theorem TB{P:List PFn}{c d b:Nat}(a:AnHy P c d b){g:Nat}(f:g<P.length):⟨#[64]⟩++CR P g=Cd P (fN g):=by
 have:=a.ok.dC;have e:Q6 (fN g)=⟨2,g,0⟩:=by unfold Q6 Dz fN;rw[jQ (by omega),jR (by omega)];simp only;rw[show 144+g-144=g by omega]
 unfold Cd IX CR;rw[e];apply ByteArray.ext;apply Array.ext';simp
theorem Ra.eshort{P:List PFn}{k d b:Nat}(a:AnHy P k d b){s:Ls}(h:Ra P d b s){l:List ByteArray}(c:l∈s.ents):l.length<=12:=by
 obtain⟨i,f,rfl⟩:=iP.1 c;have:=Kj _ ((List.range P.length).map (CR P)) (h.es _ c).nodup fun x j=>by obtain⟨g,e,rfl⟩:=h.ei i _ (gV f) x j;exact jD.2 ⟨g,List.mem_range.2 (Hu a.ok e).2,rfl⟩
 have:=a.ok.dC;simp only[iT,List.length_range]at*;omega
structure Vq(P:List PFn)(pn cn B sb pb Bp:Nat)(nv cv ev:Value)(w0 w:World)(b6:Nat)(xa:Array Value)(av:Value)(al:List Tk)(s:Ls)(wr:World):Prop where
 x:K8 P pn cn B sb pb nv cv ev w0 s wr
 o:Ea sb cv ev w wr
 b6:W b6 xa 92 wr
 ar:CM Bp wr av al
theorem Vq.next{P g d B c f j e a b q w n r m l s p wr i}(h:Vq P g d B c f j e a b q w n r m l s wr)(k:Rb P g d B c f e a b p i)(o:Ea c a b wr i):Vq P g d B c f j e a b q w n r m l p i:=
 ⟨h.x.next k o,h.o.trans o,h.x.p.m.cI o h.b6 (by decide) (by decide),h.x.p.m.row o h.ar (by decide) (by decide)⟩
theorem Vq.s9{P k e B l j a i f g m w d p c b s wr n}(h:Vq P k e B l j a i f g m w d p c b s wr)(o:O kJ wr n):Vq P k e B l j a i f g m w d p c b s n:=h.next (h.x.p.s9 o) (Ea.of o)
def aB(P:List PFn)(o h B b n p:Nat)(k i j:Value)(v:World):Prop:=
 ∀(s:Ls) (w:World) (u:FS) (r:Rl) (t:Nat) (f g m:Value) (X d Q:ByteArray),K8 P o h B b n k i j v s w->MxR P u r->AS r->(least P).I r.at t->XO 4000 u->CM p w f u.args->(∃a l c,g=Y a l c)->(∃a l c,m=Y a l c)->X=Cd P t->d=Cd P r.tg->Q=Cd P r.sr->
  Calls prog 62 #[.pointer (T ⟨b,0,Z⟩),.agg (Br u f g m),.string X,.string d,.string Q] w fun e q=>e=.returned (.tuple #[])/\GQ P o h B b n k i j s w q (Dk P r t)
def FZ(P:List PFn)(r:Rl)(S:Sy):Prop:=KY P r S/\(AS r->∀t,S.I r.at t->Dk P r t S)
theorem Kf{a b:Nat}(h:DB a=DB b):a=b:=by
 unfold DB at h;repeat' split at h
 all_goals omega
theorem bB{P:List PFn}{mn pn R:Nat}{rf:List RF}{U:List FS}(K:LsK P mn pn R rf U){u:FS}{r b:Rl}(M:MxR P u r)(j:MxR P u b){S:Sy}(h:FZ P r S):FZ P b S:=by
 have hk:b.s.kind=r.s.kind:=Kf (j.kind.symm.trans M.kind);have k:r.s.kind≠0->r.s.kind≠10->b.tg=r.tg:=fun q1 q2=>by have d:=K.tgx M q1 q2;have e:=K.tgx j (by omega) (by omega);exact Ft K.nm K.hy (.inl e.2) (.inl d.2) (e.1.symm.trans d.1)
 have s:r.s.kind=2\/r.s.kind=3\/r.s.kind=5\/r.s.kind=6\/r.s.kind=8\/r.s.kind=9\/r.s.kind=10->b.sr=r.sr:=fun q=>by have d:=K.srx M q;have e:=K.srx j (by omega);exact Ft K.nm K.hy (.inl e.2) (.inl d.2) (e.1.symm.trans d.1)
 have C:r.s.kind=4\/r.s.kind=7->b.s.cM=r.s.cM:=fun q=>by have d:=M.g q;have e:=j.g (by omega);exact K.nm.inj _ _ ((K.st j).func (by omega)) ((K.st M).func q) (e.trans d.symm)
 have y:r.s.kind=7\/r.s.kind=8->b.s.args.length=r.s.args.length/\∀i n,b.s.args[i]? =T n->∃a,r.s.args[i]? =T a/\vN b.f n=vN r.f a:=fun q=>by
  have d:=K.arx M q;have e:=K.arx j (by omega);refine⟨e.1.symm.trans d.1,fun i n v=>?_⟩;obtain⟨p,rfl⟩:=List.getElem?_eq_some_iff.1 v;have o:i<u.args.length:=by rw[e.1];exact p
  have w:i<r.s.args.length:=by rw[<-d.1];exact o
  have m:=d.2 i o w;have l:=e.2 i o p;exact⟨_,gV w,Ft K.nm K.hy (.inl l.2) (.inl m.2) (l.1.symm.trans m.1)⟩
 have E:r.s.kind=1\/r.s.kind=8->b.s.cK=r.s.cK:=fun q=>(j.pl (by omega)).symm.trans (M.pl q)
 have a2:r.s.kind=3->b.s.field=r.s.field:=fun q=>(j.field (by omega)).symm.trans (M.field q)
 have B:∀g,r.s.kind=7\/r.s.kind=8->Ds P r g S->Ds P b g S:=fun g q c=>⟨fun i n v=>by obtain⟨a,p,o⟩:=(y q).2 i n v;rw[o];exact c.1 i a p,fun x hx=>by rw[k (by omega) (by omega)];exact c.2 x hx⟩
 obtain⟨⟨H,I,L,N,Q⟩,f⟩:=h;refine⟨⟨fun q=>?_,fun q=>?_,fun q=>?_,fun q=>?_,fun q=>?_⟩,fun hF t F=>?_⟩
 .rw[k (by omega) (by omega),E (by omega)];exact H (by omega)
 .rw[k (by omega) (by omega),s (by omega)];exact I (by omega)
 .rw[k (by omega) (by omega),C (by omega)];exact L (by omega)
 .rw[k (by omega) (by omega),s (by omega)];exact N (by omega)
 .rw[C (by omega)];exact B _ (by omega) (Q (by omega))
 .have a0:AS r:=by unfold AS at hF⊢;omega
  have a1:b.at=r.at:=by
   unfold Rl.at;rw[hk];unfold AS at hF;split
   .exact k (by omega) (by omega)
   .exact s (by omega)
  rw[a1]at F;obtain⟨V,X,g3,g4⟩:=f a0 t F;refine⟨fun q m l=>?_,fun q z=>?_,fun q z=>?_,fun q m l=>?_⟩
  .rw[k (by omega) (by omega),a2 (by omega)];exact V (by omega) m l
  .rw[k (by omega) (by omega)];exact X (by omega) z
  .rw[s (by omega)];exact g3 (by omega) z
  .rw[(y (by omega)).1]at l;obtain⟨y1,y2⟩:=g4 (by omega) m l;rw[E (by omega)];exact⟨y1,B _ (by omega) y2⟩

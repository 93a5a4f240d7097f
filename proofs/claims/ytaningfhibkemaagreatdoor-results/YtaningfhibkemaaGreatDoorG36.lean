/- Part of the proof: LsR LsS LsT LsU. -/
import Derived.Test.YtaningfhibkemaaGreatDoorG31
import Derived.Test.YtaningfhibkemaaGreatDoorG33
set_option maxRecDepth 100000
set_option maxHeartbeats 4000000
namespace Go.Proofs.YtaningfhibkemaaGreatDoor
open Go.RowKit Go.Proofs.Tryz
open Option renaming none->Z,some->T
open Value renaming int->G,slice->Y
open IntKind renaming i64->A
theorem Xd{P:List PFn}{mn y cn:Nat}{rf:List RF}{fs:List FS}(K:LsK P mn y cn rf fs){B o F Bp pl ca:Nat}{nv H I:Value}{U:Nat->Prop}{fv sv:Value}{w0:World}(e1:XN F Bp B U fv sv rf fs pl ca w0)(E:aB P y cn B o F Bp nv H I w0){s:Ls}{w:World}(h:K8 P y cn B o F nv H I w0 s w){k:Nat}{u:FS}(p:fs[k]? =T u)(av bv ov:Value)(d0:CM Bp w av u.args)(h7:∃a l c,bv=Y a l c)(i3:∃a l c,ov=Y a l c):
 Calls prog 24 #[.pointer (T ⟨o,0,Z⟩),.agg (Br u av bv ov)] w fun e n=>e=.returned (.tuple #[])/\GQ P y cn B o F nv H I s w n (fun S=>∀r,MxR P u r->FZ P r S):=by
 obtain⟨a2,l2,c2,rfl⟩:=h7;obtain⟨a3,l3,c3,rfl⟩:=i3;obtain⟨a1,l1,c1,rfl⟩:=Ad d0;have i1:=Ag d0;subst i1;have f6:=K.dD k u p;have hz:=K.z u (List.mem_of_getElem? p);have AL:=J ((O.refl kJ w).alloc (.cells (Br u (Y a1 u.args.length c1) (Y a2 l2 c2) (Y a3 l3 c3)) 92));have B3:=J (W.new w (Br u (Y a1 u.args.length c1) (Y a2 l2 c2) (Y a3 l3 c3)) 92);obtain⟨d5,d3,C,HG,HE,HZ,h4,c6⟩:=En (h.s9 AL.o) (Ac d0 AL.o (fun _ _ q=>q)) K e1 E hz p f6;clear h K e1 E p hz d0 f6;go_enter func24,ntmps24;go_upto_region 1 with fail;generalize w.alloc (.cells (Br u (Y a1 u.args.length c1) (Y a2 l2 c2) (Y a3 l3 c3)) 92)=d6 at AL B3 d5 d3⊢;generalize w.heap.size=d at B3⊢;have c8:D (Vq P y cn B o F Bp nv H I w0 w d (Br u (Y a1 u.args.length c1) (Y a2 l2 c2) (Y a3 l3 c3)) (Y a1 u.args.length c1) u.args s d6):=⟨d5.o,Ea.of AL.o,B3.o,d3.o⟩;clear d5 AL d3 B3;have HC:D (∀s' W1,Vq P y cn B o F Bp nv H I w0 w d (Br u (Y a1 u.args.length c1) (Y a2 l2 c2) (Y a3 l3 c3)) (Y a1 u.args.length c1) u.args s' W1->W1.cell? ⟨d,0,Z⟩=T (G A u.kind)/\W1.cell? ⟨d,1,Z⟩=T (.string u.p.d9)/\W1.cell? ⟨d,2,Z⟩=T (G A u.p.pos)/\W1.cell? ⟨d,3,Z⟩=T (G A u.p.sort)/\W1.cell? ⟨d,4,Z⟩=T (.string u.q.d9)/\W1.cell? ⟨d,5,Z⟩=T (G A u.q.pos)/\W1.cell? ⟨d,6,Z⟩=T (G A u.q.sort)/\W1.cell? ⟨d,7,Z⟩=T (G A u.field)/\W1.cell? ⟨d,8,Z⟩=T (Y a1 u.args.length c1)/\W1.cell? ⟨d,9,Z⟩=T (G A u.l7)/\W1.cell? ⟨d,10,Z⟩=T (Y a2 l2 c2)/\W1.cell? ⟨d,11,Z⟩=T (Y a3 l3 c3)/\W1.cell? ⟨d,12,Z⟩=T (G A u.br)/\W1.cell? ⟨d,13,Z⟩=T (G A u.dR)/\W1.cell? ⟨d,14,Z⟩=T (G A u.dD)/\d<W1.heap.size):=fun s' W1 h=>⟨h.b6.cell 0,h.b6.cell 1,h.b6.cell 2,h.b6.cell 3,h.b6.cell 4,h.b6.cell 5,h.b6.cell 6,h.b6.cell 7,h.b6.cell 8,h.b6.cell 9,h.b6.cell 10,h.b6.cell 11,h.b6.cell 12,h.b6.cell 13,h.b6.cell 14,Ae h.b6⟩
 have e6:D (∀b t,K8 P y cn B o F nv H I w0 s b->t.d9.size<=4000->Calls prog 58 #[.pointer (T ⟨o,0,Z⟩),.agg (Br u (Y a1 u.args.length c1) (Y a2 l2 c2) (Y a3 l3 c3)),.agg (XT t)] b fun e n=>e=.returned (.string (YF rf u t))/\O kJ b n):=fun b t Q ht=>by have:=Hw HG.o Q u (Y a1 u.args.length c1) (Y a2 l2 c2) (Y a3 l3 c3) ⟨_,_,_,rfl⟩ ⟨_,_,_,rfl⟩ ⟨_,_,_,rfl⟩ t c6.o ht;rw[Mg]at this;exact this
 obtain⟨x0,x1,x2,x3,x4,x5,x6,x7,x8,x9,b5,b6,b7,b8,b9,lb⟩:=HC.o s d6 c8.o;go_wp2_with fail;refine(e6.o d6 u.p c8.o.x HZ.o.1).mono ?_;rintro e w1 ⟨rfl,o1⟩;have c9:=J (c8.o.s9 o1);clear o1 c8 x0 x1 x2 x3 x4 x5 x6 x7 x8 x9 b5 b6 b7 b8 b9 lb;obtain⟨x0,x1,x2,x3,x4,x5,x6,x7,x8,x9,b5,b6,b7,b8,b9,lb⟩:=HC.o s w1 c9.o;go_wp2_with fail;refine(e6.o w1 u.q c9.o.x HZ.o.2.1).mono ?_;rintro e V ⟨rfl,o2⟩;have TF:=J (c9.o.s9 o2);clear o2 c9 x0 x1 x2 x3 x4 x5 x6 x7 x8 x9 b5 b6 b7 b8 b9 lb;obtain⟨x0,x1,x2,x3,x4,x5,x6,x7,x8,x9,b5,b6,b7,b8,b9,lb⟩:=HC.o s V TF.o;have i4:=C.o.rule k u h4.o;have a7:D ((∀r,MxR P u r->r.s.kind=0\/r.s.kind=10)->GQ P y cn B o F nv H I s w V (fun S=>∀r,MxR P u r->FZ P r S)):=fun hn=>⟨s,TF.o.x.p,(FC.rf TF.o.x.p.i).to fun _ _ r M=>by have:=hn r M;exact⟨⟨fun q=>by omega,fun q=>by omega,fun q=>by omega,fun q=>by omega,fun q=>by omega⟩,fun q=>by unfold AS at q;omega⟩,TF.o.o⟩
 rcases i4 with hb|⟨r,M⟩
 .have g0:∀r,MxR P u r->False:=fun r M=>by
   have h1:=M.kind;have h2:=M.dC;unfold DB at h1;split at h1
   .omega
   .split at h1<;>omega
  have R1:=J (a7.o fun r M=>(g0 r M).elim)
  have k2:((u.kind:Int)==2)=false:=by simp;omega
  have k3:((u.kind:Int)==3)=false:=by simp;omega
  have k6:((u.kind:Int)==6)=false:=by simp;omega
  have k7:((u.kind:Int)==7)=false:=by simp;omega
  have k8:((u.kind:Int)==8)=false:=by simp;omega
  have k4:((u.kind:Int)==4)=false:=by simp;omega
  have k5:((u.kind:Int)==5)=false:=by simp;omega
  have a6:((u.kind:Int)==10)=false:=by simp;omega
  have k9:((u.kind:Int)==9)=false:=by simp;omega
  clear hb g0 a7
  go_wp2_with fail
  go_end0
  exact⟨rfl,R1.o⟩
 .have b0:D (∀w3,GQ P y cn B o F nv H I s V w3 (FZ P r)->GQ P y cn B o F nv H I s w w3 (fun S=>∀r,MxR P u r->FZ P r S)):=fun w3 ⟨s3,q1,q2,q3⟩=>⟨s3,q1,q2.to fun _ q r' M'=>bB C.o M M' q,TF.o.o.trans q3⟩
  have a9:=C.o.st M;have a5:∀j,j∈[1,2,4,6,7]->r.s.kind=j->¬AS r:=fun j hj q hF=>by unfold AS at hF;simp only[jJ,iR,or_false]at hj;omega
  have a4:=(Ew P).beg r M.rl;have kd:=M.kind;have h5:=M.dC;obtain⟨Xp,d8⟩:∃x,YF rf u u.p=x:=⟨_,rfl⟩;obtain⟨Xq,d9⟩:∃x,YF rf u u.q=x:=⟨_,rfl⟩;rw[d8,d9];obtain⟨b4,c7,HM⟩:=Ax d8 d9 M;have h8:r.s.kind=0\/r.s.kind=1\/r.s.kind=2\/r.s.kind=3\/r.s.kind=4\/r.s.kind=5\/r.s.kind=6\/r.s.kind=7\/r.s.kind=8\/r.s.kind=9\/r.s.kind=10:=by omega
  have b2:∀(R:Sy->Prop) (w3:World),(∀S,R S->FZ P r S)->GQ P y cn B o F nv H I s V w3 R->GQ P y cn B o F nv H I s V w3 (FZ P r):=fun R w3 f ⟨s3,q1,q2,q3⟩=>⟨s3,q1,q2.to fun _ q=>f _ q,q3⟩
  have g8:=C.o.hy.pn;clear d8 d9 kd h5;by_cases hF:AS r
  .have b1:r.s.kind=3\/r.s.kind=5\/r.s.kind=8\/r.s.kind=9:=hF;have a0:=C.o.tgx M (by omega) (by omega);have a8:=C.o.srx M (by omega);obtain⟨Xo,f2,f0,f1⟩:∃Xo,(Xo=if r.s.kind=9 then Xp else Xq)/\Xo=Cd P r.at/\AM P y r.at:=by
    by_cases q9:r.s.kind=9
    .exact⟨Xp,by rw[jR q9],by unfold Rl.at;rw[jR q9];exact b4.o.symm.trans a0.1,by unfold Rl.at;rw[jR q9];exact a0.2⟩
    .exact⟨Xq,by rw[jQ q9],by unfold Rl.at;rw[jQ q9];exact c7.o.symm.trans a8.1,by unfold Rl.at;rw[jQ q9];exact a8.2⟩
   have k2:((u.kind:Int)==2)=false:=by rcases b1 with q|q|q|q<;>(rw[AE M q];rfl)
   have k3:((u.kind:Int)==3)=false:=by rcases b1 with q|q|q|q<;>(rw[AE M q];rfl)
   have k6:((u.kind:Int)==6)=false:=by rcases b1 with q|q|q|q<;>(rw[AE M q];rfl)
   have k7:((u.kind:Int)==7)=false:=by rcases b1 with q|q|q|q<;>(rw[AE M q];rfl)
   have k8:((u.kind:Int)==8)=false:=by rcases b1 with q|q|q|q<;>(rw[AE M q];rfl)
   have HO:=JA B o F nv H I (Iv P y) s V TF.o.x.p.m Xo;have hL:Z8 (Iv P y) s.cells Xo=Ip P y s r.at:=by rw[f0];rfl
   rw[hL]at HO;have HO:=J HO;have c6:D (∀z,z∈Ip P y s r.at->∃t,(least P).I r.at t/\z=Cd P t):=fun z hz=>Rj C.o.nm C.o.hy TF.o.x.p.i f1 hz
   have e4:D ((Ip P y s r.at).length<=16400):=by
    unfold Ip;split
    .exact iF _
    .rcases hq:s.cells[(Vr P y r.at).toNat]? with _|q
     .exact iF _
     .exact TF.o.x.p.i.short C.o.hy (List.mem_of_getElem? hq)
   have g4:D (∀s' b t U,(least P).I r.at t->U=Cd P t->Vq P y cn B o F Bp nv H I w0 w d (Br u (Y a1 u.args.length c1) (Y a2 l2 c2) (Y a3 l3 c3)) (Y a1 u.args.length c1) u.args s' b->Calls prog 62 #[.pointer (T ⟨o,0,Z⟩),.agg (Br u (Y a1 u.args.length c1) (Y a2 l2 c2) (Y a3 l3 c3)),.string U,.string Xp,.string Xq] b fun e n=>e=.returned (.tuple #[])/\GQ P y cn B o F nv H I s' b n (Dk P r t)):=fun s' b t U h1 h2 Q=>HE.o s' b u r t _ _ _ U Xp Xq Q.x HM.o hF h1 HZ.o Q.ar ⟨_,_,_,rfl⟩ ⟨_,_,_,rfl⟩ h2 (b4.o.symm.trans a0.1) (c7.o.symm.trans a8.1)
   have c0:D (∀b,Ea o H I V b->b.cell? ⟨d,0,Z⟩=T (G A u.kind)/\b.cell? ⟨d,1,Z⟩=T (.string u.p.d9)/\b.cell? ⟨d,2,Z⟩=T (G A u.p.pos)/\b.cell? ⟨d,3,Z⟩=T (G A u.p.sort)/\b.cell? ⟨d,4,Z⟩=T (.string u.q.d9)/\b.cell? ⟨d,5,Z⟩=T (G A u.q.pos)/\b.cell? ⟨d,6,Z⟩=T (G A u.q.sort)/\b.cell? ⟨d,7,Z⟩=T (G A u.field)/\b.cell? ⟨d,8,Z⟩=T (Y a1 u.args.length c1)/\b.cell? ⟨d,9,Z⟩=T (G A u.l7)/\b.cell? ⟨d,10,Z⟩=T (Y a2 l2 c2)/\b.cell? ⟨d,11,Z⟩=T (Y a3 l3 c3)/\b.cell? ⟨d,12,Z⟩=T (G A u.br)/\b.cell? ⟨d,13,Z⟩=T (G A u.dR)/\b.cell? ⟨d,14,Z⟩=T (G A u.dD)):=fun b Q=>by have N:=TF.o.x.p.m.cI Q TF.o.b6 (by decide) (by decide);exact⟨N.cell 0,N.cell 1,N.cell 2,N.cell 3,N.cell 4,N.cell 5,N.cell 6,N.cell 7,N.cell 8,N.cell 9,N.cell 10,N.cell 11,N.cell 12,N.cell 13,N.cell 14⟩
   obtain⟨L,d7⟩:∃L,Ip P y s r.at=L:=⟨_,rfl⟩;rw[d7]at HO c6 e4;obtain⟨g6,d4,j1,e9⟩:=Ba d7 b1 hF f2;clear a9 a5 a4 M a7 b2 a0 a8 f2 f0 f1 hL d7 b1 hF g8;go_upto_if 64 with fail;go_cut[64] (fun v wx=>v=.bool true/\D (wx=V))
   case first=>
    rcases d4.o with q|q|q|q
    .have k4:((u.kind:Int)==4)=true:=by rw[AE HM.o q];rfl
     clear q;rw[k4];go_wp2_with fail;go_meet
     case rel=>exact⟨by first|rfl|rw[k4],rfl⟩
    .have k4:((u.kind:Int)==4)=false:=by rw[AE HM.o q];rfl
     have k5:((u.kind:Int)==5)=true:=by rw[AE HM.o q];rfl
     clear q;rw[k4];go_wp2_with fail;go_meet
     case rel=>exact⟨by first|rfl|rw[k5],rfl⟩
    .have k4:((u.kind:Int)==4)=false:=by rw[AE HM.o q];rfl
     have k5:((u.kind:Int)==5)=false:=by rw[AE HM.o q];rfl
     have a6:((u.kind:Int)==10)=false:=by rw[AE HM.o q];rfl
     have k9:((u.kind:Int)==9)=true:=by rw[AE HM.o q];rfl
     clear q;rw[k4];go_wp2_with fail;go_meet
     case rel=>exact⟨by first|rfl|rw[k9],rfl⟩
    .have k4:((u.kind:Int)==4)=false:=by rw[AE HM.o q];rfl
     have k5:((u.kind:Int)==5)=false:=by rw[AE HM.o q];rfl
     have a6:((u.kind:Int)==10)=true:=by rw[AE HM.o q];rfl
     clear q;rw[k4];go_wp2_with fail;go_meet
     case rel=>exact⟨by first|rfl|rw[a6],rfl⟩
   case rest=>
   obtain⟨rfl,c4⟩:=hcut;have e0:=c4.o.symm;subst e0;clear c4;go_upto_if 72 with fail;go_cut[6] (fun v wx=>v=.string Xo/\D (wx=V))
   case first=>
    by_cases q:r.s.kind=9
    .have a6:((u.kind:Int)==10)=true:=by rw[AE HM.o q];rfl
     have e:=e9.o;rw[jR q]at e;clear q;rw[a6];go_wp2_with fail;go_meet
     case rel=>exact⟨by rw[e],rfl⟩
    .have a6:((u.kind:Int)==10)=false:=by
      rcases d4.o with q'|q'|q'|q'
      .rw[AE HM.o q'];rfl
      .rw[AE HM.o q'];rfl
      .rw[AE HM.o q'];rfl
      .exact jY q' q
     have e:=e9.o
     rw[jQ q]at e
     clear q
     rw[a6]
     go_wp2_with fail
     go_meet
     case rel=>exact⟨by rw[e],rfl⟩
   case rest=>
   obtain⟨rfl,c4⟩:=hcut;have e0:=c4.o.symm;subst e0;clear c4;go_wp2_with fail;refine HO.o.mono ?_;rintro e n ⟨⟨lv,rfl,d2⟩,hw⟩;have hw:=hw.symm;subst hw;obtain⟨la,ll,lc,rfl⟩:=Ad d2;have i2:=Ag d2;subst i2;have HR:=J d2;clear d2 HO x0 x1 x2 x3 x4 x5 x6 x7 x8 x9 b5 b6 b7 b8 b9 lb;go_wp2_with fail;go_loopw[8] (fun i wr=>∃(j:Nat) (s':Ls),j<=L.length/\i=G A j/\D (Vq P y cn B o F Bp nv H I w0 w d (Br u (Y a1 u.args.length c1) (Y a2 l2 c2) (Y a3 l3 c3)) (Y a1 u.args.length c1) u.args s' wr)/\D (FC P y cn s s' (fun S=>∀t,Ez P y t->Cd P t∈L.take j->Dk P r t S))/\D (Ea o H I V wr)) (fun i _=>L.length-(intOf i).toNat)
   case atStart=>exact⟨0,s,by omega,rfl,TF,(FC.rf TF.o.x.p.i).to (fun _ _ t _ q=>by rw[List.take_zero]at q;cases q),O.refl _ _⟩
   case round=>
    obtain⟨j,s',hj,rfl,TR,NX,OW⟩:=hrel;have j3:=e4.o;by_cases f7:j<L.length
    .have tk:decide ((j:Int)<(L.length:Int))=true:=by simp;omega
     have hR:=TF.o.x.p.m.str OW.o HR.o;obtain⟨g,rfl⟩:=Ap hR (by omega);have lg:=(hR.lt g rfl).2;obtain⟨t,ht,hz⟩:=c6.o L[j] (iA _);obtain⟨U,hU⟩:∃X,Cd P t=X:=⟨_,rfl⟩;have e5:D (L[j]=U):=hz.trans hU;have e7:D (∀b,Ea o H I V b->b.cell? ⟨g,j,Z⟩=T (.string U)):=fun b Q=>by have:=Hk (TF.o.x.p.m.str Q HR.o) j f7;rw[e5.o]at this;exact this
     have c:=e7.o wr OW.o;have e8:=J hU;have HT:=J ht;have g5:D (∀b,O kJ wr b->Calls prog 62 #[.pointer (T ⟨o,0,Z⟩),.agg (Br u (Y a1 u.args.length c1) (Y a2 l2 c2) (Y a3 l3 c3)),.string U,.string Xp,.string Xq] b fun e n=>e=.returned (.tuple #[])/\GQ P y cn B o F nv H I s' wr n (Dk P r t)):=fun b Q=>(g4.o s' b t U HT.o e8.o.symm (TR.o.s9 Q)).mono fun e n ⟨q0,s3,q1,q2,q3⟩=>⟨q0,s3,q1,q2,(Ea.of Q).trans q3⟩
     obtain⟨x0,x1,x2,x3,x4,x5,x6,x7,x8,x9,b5,b6,b7,b8,b9⟩:=c0.o wr OW.o;have lb:=Ae TR.o.b6;clear hz hU ht hR;go_upto_region 25 with fail;go_region_held3(fun n=>n.cell? ⟨d,0,Z⟩=T (G A u.kind)/\n.cell? ⟨d,1,Z⟩=T (.string u.p.d9)/\n.cell? ⟨d,2,Z⟩=T (G A u.p.pos)/\n.cell? ⟨d,3,Z⟩=T (G A u.p.sort)/\n.cell? ⟨d,4,Z⟩=T (.string u.q.d9)/\n.cell? ⟨d,5,Z⟩=T (G A u.q.pos)/\n.cell? ⟨d,6,Z⟩=T (G A u.q.sort)/\n.cell? ⟨d,7,Z⟩=T (G A u.field)/\n.cell? ⟨d,8,Z⟩=T (Y a1 u.args.length c1)/\n.cell? ⟨d,9,Z⟩=T (G A u.l7)/\n.cell? ⟨d,10,Z⟩=T (Y a2 l2 c2)/\n.cell? ⟨d,11,Z⟩=T (Y a3 l3 c3)/\n.cell? ⟨d,12,Z⟩=T (G A u.br)/\n.cell? ⟨d,13,Z⟩=T (G A u.dR)/\n.cell? ⟨d,14,Z⟩=T (G A u.dD)/\n.cell? ⟨g,j,Z⟩=T (.string U)) (go_keep)
      (first|(go_at_call 62;refine(g5.o _ (by repeat first|exact BI _ _|apply BG|apply BH|apply BE)).mono ?_;rintro e w5 ⟨rfl,s5,p5,x5,o5⟩;obtain⟨O5,P5,X5⟩:=Ax o5 p5 x5;clear o5 p5 x5;have c5:=e7.o w5 (OW.o.trans O5.o);obtain⟨z0,z1,z2,z3,z4,z5,z6,z7,z8,z9,i5,i6,i7,i8,i9⟩:=c0.o w5 (OW.o.trans O5.o)))
     all_goals
      have N5:D (FC P y cn s s5 (fun S=>∀t,Ez P y t->Cd P t∈L.take (j+1)->Dk P r t S)):=by
       refine(NX.o.then X5.o (fun S j2 h6 q t h1 h2=>(q t h1 h2).up h6)).to fun _ q t' h1 h2=>?_
       rw[iX f7]at h2;rcases iW.1 h2 with z|z
       .exact q.1 t' h1 z
       .rw[iL,e5.o,<-e8.o]at z;rw[Ft C.o.nm C.o.hy h1 (Du C.o.hy.ok HT.o).2 z];exact q.2
      have T5:=J (TR.o.next P5.o O5.o);have W5:=J (OW.o.trans O5.o);clear P5 X5 O5 TR NX OW;go_wp2_with fail;go_roundw
      case rel=>exact⟨j+1,s5,by omega,by go_num,T5,N5,W5⟩
      case measure=>simp[intOf];omega
    .have tk:decide ((j:Int)<(L.length:Int))=false:=by simp;omega
     have R1:=J (b0.o wr ⟨s',TR.o.x.p,NX.o.to fun i0 q=>by
      have b1:=d4.o;refine⟨⟨fun q=>by omega,fun q=>by omega,fun q=>by omega,fun q=>by omega,fun q=>by omega⟩,fun _ t ht=>q t ht.1 ?_⟩;have e:Ip P y s' r.at=L:=by rw[<-g6.o];unfold Ip;rw[i0]
      rw[List.take_of_length_le (by omega),<-e];exact ht.2,OW.o⟩)
     clear TR NX OW;go_wp2_with fail;go_end0;exact⟨rfl,R1.o⟩
  .rcases h8 with p|p|p|p|p|p|p|p|p|p|p
   .have R1:=J (a7.o fun r' M'=>by have:=Kf (M'.kind.symm.trans M.kind);omega)
    obtain⟨k2,k3,k6,k7,k8,k4,k5,a6,k9⟩:=Wp 1 (AE M p)
    clear a9 a5 a4 M b0 a7 b2
    go_wp2_with fail
    go_end0
    exact⟨rfl,R1.o⟩
   .have a0:=C.o.tgx M (by omega) (by omega);have f9:=(C.o.hy.ok.dQ r.f M.rl.1 r.s M.rl.2).1 p;have g1:u.l7=r.s.cK:=M.pl (.inl p);have k2:((u.kind:Int)==2)=true:=by rw[AE M p];rfl
    have HP:D (∀b,O kJ V b->Calls prog 59 #[.pointer (T ⟨o,0,Z⟩),.string Xp,.string (Le r.s.cK++{data:=#[46,48]})] b fun e n=>e=.returned (.tuple #[])/\GQ P y cn B o F nv H I s V n (FZ P r)):=fun b Q=>(Li C.o.nm C.o.hy B o F nv H I s b (TF.o.x.p.s9 Q) Xp _ (b4.o.symm.trans a0.1) (XB P f9.1) a0.2 (a4.1 p)).mono fun e n ⟨q0,s3,q1,q2,q3⟩=>⟨q0,s3,q1,q2.to fun _ z=>⟨⟨fun _=>z,fun q=>by omega,fun q=>by omega,fun q=>by omega,fun q=>by omega⟩,fun q=>jY q (a5 1 (by decide) p)⟩,(Ea.of Q).trans q3⟩
    have f3:=Fh r.s.cK (by omega);have HD:D (∀b,Calls prog 23 #[G A r.s.cK] b fun e n=>e=.returned (.string (Le r.s.cK))/\O kJ b n):=fun b=>(Hb r.s.cK (by omega) b).mono fun _ _ ⟨h1,m,h2⟩=>⟨h1,by rw[h2];exact(O.refl _ _).drewN m⟩
    rw[g1]at x9;clear g1 a9 a5 a4 M a7 b2 a0;generalize r.s.cK=nn at x9 HP HD f3 f9;generalize Le nn=j0 at HP HD f3;go_wp2_with fail;refine(HD.o _).mono ?_;rintro e w5 ⟨rfl,o5⟩;have O5:=J o5;clear o5;go_wp2_with fail;refine(HP.o _ O5.o).mono ?_;rintro e w3 ⟨rfl,q⟩;have R1:=J (b0.o _ q);clear q;go_wp2_with fail;go_end0;exact⟨rfl,R1.o⟩
   .have a0:=C.o.tgx M (by omega) (by omega);have a8:=(C.o.srx M (by omega)).1;have k2:((u.kind:Int)==2)=false:=by rw[AE M p];rfl
    have k3:((u.kind:Int)==3)=true:=by rw[AE M p];rfl
    have HP:D (∀b,O kJ V b->Calls prog 59 #[.pointer (T ⟨o,0,Z⟩),.string Xp,.string (Xq)] b fun e n=>e=.returned (.tuple #[])/\GQ P y cn B o F nv H I s V n (FZ P r)):=fun b Q=>(Li C.o.nm C.o.hy B o F nv H I s b (TF.o.x.p.s9 Q) Xp _ (b4.o.symm.trans a0.1) (c7.o.symm.trans a8) a0.2 (a4.2.1 p)).mono fun e n ⟨q0,s3,q1,q2,q3⟩=>⟨q0,s3,q1,q2.to fun _ z=>⟨⟨fun q=>by omega,fun _=>z,fun q=>by omega,fun q=>by omega,fun q=>by omega⟩,fun q=>jY q (a5 2 (by decide) p)⟩,(Ea.of Q).trans q3⟩
    clear a9 a5 a4 M a7 b2 a0 a8;go_wp2_with fail;refine(HP.o _ (O.refl _ _)).mono ?_;rintro e w3 ⟨rfl,q⟩;have R1:=J (b0.o _ q);clear q;go_wp2_with fail;go_end0;exact⟨rfl,R1.o⟩
   .exact jY (show AS r by unfold AS;omega) hF
   .have a0:=C.o.tgx M (by omega) (by omega);have f5:({data:=#[64]}:ByteArray)++u.q.d9=Cd P (fN r.s.cM):=by rw[<-M.g (.inl p)];exact TB C.o.hy (a9.func (.inl p))
    obtain⟨k2,k3,k6,k7,k8,k4,k5,a6,k9⟩:=Wp 6 (AE M p);have HP:D (∀b,O kJ V b->Calls prog 59 #[.pointer (T ⟨o,0,Z⟩),.string Xp,.string ({data:=#[64]}++u.q.d9)] b fun e n=>e=.returned (.tuple #[])/\GQ P y cn B o F nv H I s V n (FZ P r)):=fun b Q=>(Li C.o.nm C.o.hy B o F nv H I s b (TF.o.x.p.s9 Q) Xp _ (b4.o.symm.trans a0.1) (f5) a0.2 (a4.2.2.1 p)).mono fun e n ⟨q0,s3,q1,q2,q3⟩=>⟨q0,s3,q1,q2.to fun _ z=>⟨⟨fun q=>by omega,fun q=>by omega,fun _=>z,fun q=>by omega,fun q=>by omega⟩,fun q=>jY q (a5 4 (by decide) p)⟩,(Ea.of Q).trans q3⟩
    have j4:=HZ.o.2.1;clear a9 a5 a4 M a7 b2 a0 f5;go_wp2_with fail;refine(HP.o _ (O.refl _ _)).mono ?_;rintro e w3 ⟨rfl,q⟩;have R1:=J (b0.o _ q);clear q;go_wp2_with fail;go_end0;exact⟨rfl,R1.o⟩
   .exact jY (show AS r by unfold AS;omega) hF
   .have a0:=C.o.tgx M (by omega) (by omega);have a8:=C.o.srx M (by omega);obtain⟨k2,k3,k6,k7,k8,k4,k5,a6,k9⟩:=Wp 7 (AE M p);have HP:D (Calls prog 60 #[.pointer (T ⟨o,0,Z⟩),.string Xq,.string Xp] V fun e n=>e=.returned (.tuple #[])/\GQ P y cn B o F nv H I s V n (FZ P r)):=(GT C.o.nm C.o.hy B o F nv H I s V TF.o.x.p Xq Xp (c7.o.symm.trans a8.1) (b4.o.symm.trans a0.1) (.inl a8.2) (.inl a0.2) (fun _ _=>a4.2.2.2.1 p)).mono fun e n ⟨q0,s3,q1,q2,q3⟩=>⟨q0,s3,q1,q2.to fun _ z'=>have z:=z' a0.2;⟨⟨fun q=>by omega,fun q=>by omega,fun q=>by omega,fun _=>z,fun q=>by omega⟩,fun q=>jY q (a5 6 (by decide) p)⟩,q3⟩
    clear a9 a5 a4 M a7 b2 a0 a8;go_wp2_with fail;refine HP.o.mono ?_;rintro e w3 ⟨rfl,q⟩;have R1:=J (b0.o _ q);clear q;go_wp2_with fail;go_end0;exact⟨rfl,R1.o⟩
   .have d1:=a9.func (.inr p);have f4:BC (rf.map fun f=>f.name.d9) u.q.d9 0=((r.s.cM:Nat):Int):=by
     have g3:r.s.cM<rf.length:=by rw[C.o.len];exact d1
     have f8:u.q.d9∈rf.map fun f=>f.name.d9:=by rw[<-M.g (.inr p),<-C.o.name _ g3];exact jD.2 ⟨_,iA g3,rfl⟩
     obtain⟨z1,z2⟩:=Iy f8;have z3:=MP f8 ByteArray.empty;rw[gV z1]at z3;simp only[Option.getD_some,jE]at z3;have z4:vx (rf.map fun f=>f.name.d9) u.q.d9<rf.length:=by simpa using z1
     have z5:=(C.o.name _ z4).symm.trans (z3.trans (M.g (.inr p)).symm);rw[z2,C.o.nm.inj _ _ (by rw[<-C.o.len];exact z4) d1 z5]
    obtain⟨k2,k3,k6,k7,k8,k4,k5,a6,k9⟩:=Wp 8 (AE M p);have e3:D (∀b,O kJ V b->Calls prog 20 #[.pointer (T ⟨F,0,Z⟩),.string u.q.d9] b fun e n=>e=.returned (G A r.s.cM)/\O kJ b n):=fun b Q=>by have g2:=HG.o.at (TF.o.s9 Q).x.low;have:=DP Bp F pl ca fv sv rf u.q.d9 b g2.pr g2.fn HG.o.rn;rw[f4]at this;exact this.mono fun _ _ q=>⟨q.1,by rw[q.2];exact O.refl _ _⟩
    have e2:D (∀b,O kJ V b->Calls prog 61 #[.pointer (T ⟨o,0,Z⟩),.agg (Br u (Y a1 u.args.length c1) (Y a2 l2 c2) (Y a3 l3 c3)),G A r.s.cM] b fun e n=>e=.returned (.tuple #[])/\GQ P y cn B o F nv H I s V n (FZ P r)):=fun b Q=>(Nj C.o HG.o (TF.o.s9 Q).x M (.inl p) d1 (a9.many p) (a4.2.2.2.2 p) HZ.o (Y a1 u.args.length c1) (Y a2 l2 c2) (Y a3 l3 c3) (TF.o.s9 Q).ar ⟨_,_,_,rfl⟩ ⟨_,_,_,rfl⟩).mono fun e n ⟨q0,s3,q1,q2,q3⟩=>⟨q0,s3,q1,q2.to fun _ z=>⟨⟨fun q=>by omega,fun q=>by omega,fun q=>by omega,fun q=>by omega,fun _=>z⟩,fun q=>jY q (a5 7 (by decide) p)⟩,(Ea.of Q).trans q3⟩
    have g9:D (∀b,O kJ V b->b.cell? ⟨o,0,Z⟩=T (.pointer (T ⟨F,0,Z⟩))):=fun b Q=>(TF.o.s9 Q).x.p.m.bx.cell 0
    have h0:D (∀b,GQ P y cn B o F nv H I s V b (FZ P r)->b.cell? ⟨o,0,Z⟩=T (.pointer (T ⟨F,0,Z⟩))):=fun b ⟨_,q,_⟩=>q.m.bx.cell 0
    have g7:D (∀b,GQ P y cn B o F nv H I s V b (FZ P r)->Ea o H I V b):=fun b ⟨_,_,_,q⟩=>q
    have s0:=TF.o.x.p.m.bx.cell 0;have j5:=Ae TF.o.x.p.m.bx;simp only[gR,gP]at s0;have c0:D (∀b,Ea o H I V b->b.cell? ⟨d,0,Z⟩=T (G A u.kind)/\b.cell? ⟨d,1,Z⟩=T (.string u.p.d9)/\b.cell? ⟨d,2,Z⟩=T (G A u.p.pos)/\b.cell? ⟨d,3,Z⟩=T (G A u.p.sort)/\b.cell? ⟨d,4,Z⟩=T (.string u.q.d9)/\b.cell? ⟨d,5,Z⟩=T (G A u.q.pos)/\b.cell? ⟨d,6,Z⟩=T (G A u.q.sort)/\b.cell? ⟨d,7,Z⟩=T (G A u.field)/\b.cell? ⟨d,8,Z⟩=T (Y a1 u.args.length c1)/\b.cell? ⟨d,9,Z⟩=T (G A u.l7)/\b.cell? ⟨d,10,Z⟩=T (Y a2 l2 c2)/\b.cell? ⟨d,11,Z⟩=T (Y a3 l3 c3)/\b.cell? ⟨d,12,Z⟩=T (G A u.br)/\b.cell? ⟨d,13,Z⟩=T (G A u.dR)/\b.cell? ⟨d,14,Z⟩=T (G A u.dD)):=fun b Q=>by have N:=TF.o.x.p.m.cI Q TF.o.b6 (by decide) (by decide);exact⟨N.cell 0,N.cell 1,N.cell 2,N.cell 3,N.cell 4,N.cell 5,N.cell 6,N.cell 7,N.cell 8,N.cell 9,N.cell 10,N.cell 11,N.cell 12,N.cell 13,N.cell 14⟩
    clear a9 a5 a4 M a7 b2 f4 d1;generalize r.s.cM=gg at e3 e2;go_upto_region 13 with fail;go_region_held3(fun n=>n.cell? ⟨d,0,Z⟩=T (G A u.kind)/\n.cell? ⟨d,1,Z⟩=T (.string u.p.d9)/\n.cell? ⟨d,2,Z⟩=T (G A u.p.pos)/\n.cell? ⟨d,3,Z⟩=T (G A u.p.sort)/\n.cell? ⟨d,4,Z⟩=T (.string u.q.d9)/\n.cell? ⟨d,5,Z⟩=T (G A u.q.pos)/\n.cell? ⟨d,6,Z⟩=T (G A u.q.sort)/\n.cell? ⟨d,7,Z⟩=T (G A u.field)/\n.cell? ⟨d,8,Z⟩=T (Y a1 u.args.length c1)/\n.cell? ⟨d,9,Z⟩=T (G A u.l7)/\n.cell? ⟨d,10,Z⟩=T (Y a2 l2 c2)/\n.cell? ⟨d,11,Z⟩=T (Y a3 l3 c3)/\n.cell? ⟨d,12,Z⟩=T (G A u.br)/\n.cell? ⟨d,13,Z⟩=T (G A u.dR)/\n.cell? ⟨d,14,Z⟩=T (G A u.dD)/\n.cell? ⟨o,0,Z⟩=T (.pointer (T ⟨F,0,Z⟩))) (go_keep)
     (first
       |(go_at_call 20;refine(e3.o _ (by repeat first|exact BI _ _|apply BG|apply BH|apply BE)).mono ?_;rintro e w3 ⟨rfl,o3⟩;have O3:=J (O.trans (X:=kJ) (a:=V) (by repeat first|exact BI _ _|apply BG|apply BH|apply BE) o3);clear o3;have t0:=g9.o w3 O3.o;obtain⟨z0,z1,z2,z3,z4,z5,z6,z7,z8,z9,i5,i6,i7,i8,i9⟩:=c0.o w3 (Ea.of O3.o))
       |(go_at_call 61;refine(e2.o _ (O.trans (X:=kJ) (a:=V) O3.o (by repeat first|exact BI _ _|apply BG|apply BH|apply BE))).mono ?_;rintro e w5 ⟨rfl,q⟩;have Q5:=J q;clear q;have t5:=h0.o w5 Q5.o;obtain⟨y0,y1,y2,y3,y4,y5,y6,y7,y8,y9,j6,j7,j8,j9,k0⟩:=c0.o w5 (g7.o w5 Q5.o)))
    all_goals
     have R1:=J (b0.o _ Q5.o);clear Q5;go_wp2_with fail;go_end0;exact⟨rfl,R1.o⟩
   .exact jY (show AS r by unfold AS;omega) hF
   .exact jY (show AS r by unfold AS;omega) hF
   .have R1:=J (a7.o fun r' M'=>by have:=Kf (M'.kind.symm.trans M.kind);omega)
    obtain⟨k2,k3,k6,k7,k8,k4,k5,a6,k9⟩:=Wp 11 (AE M p)
    clear a9 a5 a4 M b0 a7 b2
    go_wp2_with fail
    go_end0
    exact⟨rfl,R1.o⟩
theorem Ue{P:List PFn}{mn pn R:Nat}{rf:List RF}{fs:List FS}(K:LsK P mn pn R rf fs){B N pb Bp pl ca:Nat}{nv cv ev:Value}{U:Nat->Prop}{fv sv:Value}{w0:World}(f5:XN pb Bp B U fv sv rf fs pl ca w0){s:Ls}{w:World}(h:K8 P pn R B N pb nv cv ev w0 s w){u:FS}{r:Rl}(M:MxR P u r)(hk:r.s.kind=8){t:Nat}(ht:(least P).I r.at t)(hu:XO 4000 u)(av bv ov:Value)(c0:CM Bp w av u.args)(i8:∃a l c,bv=Y a l c)(j7:∃a l c,ov=Y a l c)(X i6 Q:ByteArray)(hX:X=Cd P t):
 Calls prog 62 #[.pointer (T ⟨N,0,Z⟩),.agg (Br u av bv ov),.string X,.string i6,.string Q] w fun e w'=>e=.returned (.tuple #[])/\GQ P pn R B N pb nv cv ev s w w' (Dk P r t):=by
 obtain⟨a2,l2,c2,rfl⟩:=i8;obtain⟨a3,l3,c3,rfl⟩:=j7;obtain⟨a1,l1,c1,rfl⟩:=Ad c0;have j5:=Ag c0;subst j5;have e8:=(Du K.hy.ok ht).2;have g8:=Kb M.rl (by unfold AS;omega) ht;have g5:=(K.arx M (.inr hk)).1;have i7:=(K.st M).dC;have e7:=K.len;have j3:=K.hy.ok.dC;have h7:u.l7=r.s.cK:=M.pl (.inr hk);have h4:=(K.hy.ok.dQ r.f M.rl.1 r.s M.rl.2).2.1 hk;have j0:=K.hy.ok.lc;have k5:((u.kind:Int)==5)=false:=by rw[AE M hk];rfl
 have k8:((u.kind:Int)==10)=false:=by rw[AE M hk];rfl
 have k4:((u.kind:Int)==4)=false:=by rw[AE M hk];rfl
 have k9:((u.kind:Int)==9)=true:=by rw[AE M hk];rfl
 have AL:=J ((O.refl kJ w).alloc (.cells (Br u (Y a1 u.args.length c1) (Y a2 l2 c2) (Y a3 l3 c3)) 92));have B6:=J (W.new w (Br u (Y a1 u.args.length c1) (Y a2 l2 c2) (Y a3 l3 c3)) 92);obtain⟨d6,c9,HK,HG,HM,HU,g4,d2⟩:=En (h.s9 AL.o) (Ac c0 AL.o (fun _ _ q=>q)) K f5 M hu e8 hk;have f9:D (∀g,g<P.length->t=fN g->(As P g).u9=r.s.args.length->(least P).E r.s.cK g/\Ds P r g (least P)):=fun g hg e hp=>by have:=g8.2.2.2 hk (by rw[e];unfold Zd fN;omega) (by rw[e,show fN g-144=g by unfold fN;omega];exact hp);rw[e,show fN g-144=g by unfold fN;omega]at this;exact this
 have f8:D (∀g (hg:g<rf.length),((X.toList==(⟨#[64]⟩++rf[g].name.d9:ByteArray).toList)=true↔t=fN g)):=fun g hg=>by
  have h0:g<P.length:=by omega
  rw[K.name g hg,TB K.hy h0,hX];constructor
  .intro q;exact Ft K.nm K.hy e8 (.inr ⟨g,h0,rfl⟩) (CA (beq_iff_eq.1 q))
  .rintro rfl;simp
 obtain⟨d0,d4,g2⟩:=Ax g5 e7 h7;clear h K f5 M e8 g8 hX ht hk hu c0 g5 e7 h7;go_enter func62,ntmps62;go_upto_region 1 with fail;generalize w.alloc (.cells (Br u (Y a1 u.args.length c1) (Y a2 l2 c2) (Y a3 l3 c3)) 92)=i5 at AL B6 d6 c9⊢;generalize w.heap.size=p at B6⊢;have d7:D (Vq P pn R B N pb Bp nv cv ev w0 w p (Br u (Y a1 u.args.length c1) (Y a2 l2 c2) (Y a3 l3 c3)) (Y a1 u.args.length c1) u.args s i5):=⟨d6.o,Ea.of AL.o,B6.o,c9.o⟩;have k0:=B6.o.cell 0;have lb:=Ae B6.o;simp only[Br,gR,gP]at k0;clear d6 AL c9 B6;go_wp2_with fail;clear k0 lb;go_loopw[11] (fun i wr=>∃(g:Nat) (f:Ls),g<=rf.length/\i=G A g/\D (Vq P pn R B N pb Bp nv cv ev w0 w p (Br u (Y a1 u.args.length c1) (Y a2 l2 c2) (Y a3 l3 c3)) (Y a1 u.args.length c1) u.args f wr)/\D (FC P pn R s f (fun S=>∀d,d<g->t=fN d->(As P d).u9=r.s.args.length->S.E r.s.cK d/\Ds P r d S))) (fun i _=>rf.length-(intOf i).toNat)
 case atStart=>exact⟨0,s,by omega,rfl,d7,(FC.rf d7.o.x.p.i).to fun _ _ d q=>by omega⟩
 case round=>
  clear d7;obtain⟨g,f,hg,rfl,TF,NX⟩:=hrel;have b5:=HG.o.at TF.o.x.low;have l6:=HG.o.rn;have s0:=TF.o.x.p.m.bx.cell 0;have l0:=Ae TF.o.x.p.m.bx;have f0:=Ak b5.pr 0;have lp:=Ae b5.pr;obtain⟨rs,b4,_⟩:=b5.fn;obtain⟨ga,gl,gc,rfl⟩:=Ad b4;have j4:=Ag b4;subst j4;simp only[gR,gP]at s0 f0;by_cases a6:g<rf.length
  .have tg:decide ((g:Int)<(rf.length:Int))=true:=by simp;omega
   obtain⟨fg,rfl⟩:=Ap b4 (by omega);have lg:=(b4.lt fg rfl).2;obtain⟨tv,l4,vv,a4,a7,g6,i0⟩:=b5.fn.get a6;obtain⟨t1,t2,t3,rfl⟩:=Ad a7;have j8:=Ag a7;subst j8;obtain⟨e1,e2,e3,rfl⟩:=Ad g6;obtain⟨v1,v2,v3,rfl⟩:=Ad i0;have a5:=f8.o g a6;have e9:=HK.o.tkl g a6;have h5:=HG.o.nz _ (iA a6);have d3:=J (HK.o.name g a6);obtain⟨F,hF⟩:∃x,rf[g]=x:=⟨_,rfl⟩;rw[hF]at a4 a5 e9 h5 d3;have d5:=J e9;have n0:=a4 0 (by decide);have L:=a4 1 (by decide);have n2:=a4 2 (by decide);have n3:=a4 3 (by decide);have n4:=a4 4 (by decide);have n5:=a4 5 (by decide);have n6:=a4 6 (by decide);simp only[ER,gR,gP,gQ,iH]at n0 L n2 n3 n4 n5 n6;have BF:=J (W.new wr (ER F (Y t1 F.cQ.length t3) (Y e1 e2 e3) (Y v1 v2 v3)) 53);have AL:=J ((O.refl kJ wr).alloc (.cells (ER F (Y t1 F.cQ.length t3) (Y e1 e2 e3) (Y v1 v2 v3)) 53));clear a4 b4 b5 a7 g6 i0 hF e9;go_upto_region 17 with fail;change Code.wp _ _ _ _ (wr.alloc (.cells (ER F (Y t1 F.cQ.length t3) (Y e1 e2 e3) (Y v1 v2 v3)) 53));generalize wr.alloc (.cells (ER F (Y t1 F.cQ.length t3) (Y e1 e2 e3) (Y v1 v2 v3)) 53)=W1 at BF AL⊢;generalize wr.heap.size=b9 at BF⊢;have o:=J (TF.o.s9 AL.o);clear TF AL n0 L n2 n3 n4 n5 n6 s0 f0 l0 lp lg;obtain⟨z0,z3⟩:=BF.o.e2 0 3;have f3:=Ae BF.o;have x8:=o.o.b6.cell 8;have c6:=Ae o.o.b6;simp only[ER,Br,gR,gP,gQ]at z0 z3 x8;have i9:¬(9223372036854775807<1+F.name.d9.size):=by omega
   by_cases b7:t=fN g/\F.cQ.length=u.args.length
   .obtain⟨a0,a7⟩:=b7;have hb:(X.toList==(({data:=#[64]}:ByteArray)++F.name.d9).toList)=true:=a5.2 a0;have tl:((F.cQ.length:Int)==(u.args.length:Int))=true:=by simp[a7]
    have e4:g<P.length:=by rw[<-d4.o];exact a6
    have e6:(As P g).u9=r.s.args.length:=by rw[<-d5.o,a7,d0.o]
    have hE:=f9.o g e4 a0 e6;obtain⟨g3,f7,i3⟩:=Ax e6 hE a0;obtain⟨H,b0⟩:∃n,r.s.cK=n:=⟨_,rfl⟩;rw[b0]at h4;have g1:=J b0;have x9:=o.o.b6.cell 9;simp only[Br,gR,gP,gQ]at x9;rw[g2.o,b0]at x9;obtain⟨ea,ec,j2⟩:=o.o.x.p.m.en.form;subst j2;have j1:=o.o.x.p.i.el;have c4:H-1<f.ents.length:=by omega
    obtain⟨I,eb,ed,rfl,a9,d9,_,c7,e0⟩:=o.o.x.p.m.en.get c4;have s3:=o.o.x.p.m.bx.cell 3;have c8:=Ae o.o.x.p.m.bx;simp only[gR,gP,gQ]at s3;have g7:Jk f H=f.ents[H-1]:=by unfold Jk;rw[gV c4];rfl
    have h9:=o.o.x.p.i.eshort HK.o.hy (iA c4);rw[<-g7]at e0 a9 h9;have e1:(H:Int)-1=((H-1:Nat):Int):=by omega
    obtain⟨L,e5⟩:∃n,H-1=n:=⟨_,rfl⟩;have g0:=J e5;rw[e5]at e1 a9 d9;have tn:(L:Int)<(f.ents.length:Int):=by omega
    have ew:IntKind.i64.wrap (L:Int)=(L:Int):=by
     have:L<=4001:=by omega
     rw[IntKind.wrap_i64];omega
    have d1:=J e0;have nx:=ZA HK.o.hy o.o.x.p.i (n:=H) (g:=g) (by rw[<-b0];exact hE.1);have g9:CR P g=F.name.d9:=d3.o.symm;rw[g9]at nx;have b8:=J nx;have f4:D (∀(m:World) (xa:Option Addr) (xl xc:Nat),Au W1.heap.size m (Y xa xl xc) (Dn (Jk f H) F.name.d9)->O kJ W1 m->Rb P pn R B N pb nv cv (Y (T ⟨I,0,Z⟩) f.ents.length ec) ⟨f.cells,f.ents.set (H-1) (Dn (Jk f H) F.name.d9),f.more⟩ (m.setCell ⟨I,L,Z⟩ (Y xa xl xc))/\Ea N cv (Y (T ⟨I,0,Z⟩) f.ents.length ec) W1 (m.setCell ⟨I,L,Z⟩ (Y xa xl xc))):=fun m xa xl xc h8 E=>by obtain⟨b1,b2,b3⟩:=(o.o.x.p.m.s9 E).setE L (Y xa xl xc) (Dn (Jk f H) F.name.d9) (Aq h8 o.o.x.p.b);rw[<-g0.o]at b1 b2⊢;exact⟨⟨b1,b8.o.inv,iG o.o.x.p.b (iG E.size b2.size)⟩,(Ea.of E).trans (b2.mono fun k _ q=>.inr (.inr (by rw[q];rfl)))⟩
    have BX:D (∀m,O kJ W1 m->m.cell? ⟨I,L,Z⟩=T (Y eb (Jk f H).length ed)/\m.frozen? ⟨I,L,Z⟩=false/\m.cell? ⟨N,3,Z⟩=T (Y (T ⟨I,0,Z⟩) f.ents.length ec)/\m.cell? ⟨p,9,Z⟩=T (G A H)/\m.cell? ⟨b9,0,Z⟩=T (.string F.name.d9)/\I<m.heap.size/\N<m.heap.size):=fun m E=>⟨(gT (E.block I c7 id)).trans a9,(gY (E.block I c7 id)).trans d9,(gT (E.block N c8 id)).trans s3,(gT (E.block p c6 id)).trans x9,(gT (E.block b9 f3 id)).trans z0,iI c7 E.size,iI c8 E.size⟩
    have C:D (∀m,O (fun k=>k=I) W1 m->m.cell? ⟨N,3,Z⟩=T (Y (T ⟨I,0,Z⟩) f.ents.length ec)/\m.cell? ⟨p,9,Z⟩=T (G A H)/\m.cell? ⟨b9,0,Z⟩=T (.string F.name.d9)):=fun m E=>by
     obtain⟨us,_,hr,_⟩:=o.o.x.p.m.en;obtain⟨_,cs,fz,hh⟩:=CB hr (k:=I) rfl;have L:∀{b:Nat} {cs:Array Value} {ty:TypeId},ty≠51->W b cs ty W1->b≠I:=fun j9 hb e=>by subst e;have h1:=hb;unfold W at h1;rw[hh]at h1;injection h1 with h1;injection h1 with _ h2 _;exact j9 h2.symm
     exact⟨(gT (E.block N c8 (L (by decide) o.o.x.p.m.bx))).trans s3,(gT (E.block p c6 (L (by decide) o.o.b6))).trans x9,(gT (E.block b9 f3 (L (by decide) BF.o))).trans z0⟩
    obtain⟨EL,d8⟩:∃n,(Jk f H).length=n:=⟨_,rfl⟩;have i2:=J d8;rw[d8]at a9 BX h9 d1;clear hE a0 a7 e0 g7 e6 b0 e5 nx g9 j1 a5 d8;go_upto_region 18 with fail;go_cut[] (fun wx=>D (Rb P pn R B N pb nv cv (Y (T ⟨I,0,Z⟩) f.ents.length ec) ⟨f.cells,f.ents.set (H-1) (Dn (Jk f H) F.name.d9),f.more⟩ wx)/\D (Ea N cv (Y (T ⟨I,0,Z⟩) f.ents.length ec) W1 wx))
    case first=>
     clear HK HG HM HU g4 d2 f9 f8 NX o d5 g3 f7 i3 g1 g2 d4 d0 d3 b8 k5 k8 k4 k9 tg hb tl i9 z3 x8 BF g0 i7 j3 h4 j0 h5 e4 c4 a6 hg;refine wp_region_held_drew (S:=fun w'=>O (fun k=>k=I) W1 w') (by kernel_rfl) ((O.refl _ W1).drew) (fun j=>?_);refine Fx 0 94 (v:=?_) rfl C.o j ?_ (by intro w z;go_split_ands;go_simp;try with_reducible rfl) rfl rfl (by kernel_rfl) (fun _ _ _ h=>h);simp only[kF,kG,kH];refine Fx 1 95 (v:=?_) rfl C.o j ?_ (by intro w z;go_split_ands;go_simp;try with_reducible rfl) rfl rfl (by kernel_rfl) (fun _ _ _ h=>h);simp only[kF,kG,kH];refine Fx 2 96 (v:=?_) rfl C.o j ?_ (by intro w z;go_split_ands;go_simp;try with_reducible rfl) rfl rfl (by kernel_rfl) (fun _ _ _ h=>h);simp only[kF,kG,kH];refine Fx 3 97 (v:=?_) rfl C.o j ?_ (by intro w z;go_split_ands;go_simp;try with_reducible rfl) rfl rfl (by kernel_rfl) (fun _ _ _ h=>h);simp only[kF,kG,kH];refine Fx 4 98 (v:=?_) rfl C.o j ?_ (by intro w z;go_split_ands;go_simp;try with_reducible rfl) rfl rfl (by kernel_rfl) (fun _ _ _ h=>h);simp only[kF,kG,kH];refine Fx 5 99 (v:=?_) rfl C.o j ?_ (by intro w z;go_split_ands;go_simp;try with_reducible rfl) rfl rfl (by kernel_rfl) (fun _ _ _ h=>h);simp only[kF,kG,kH];refine Fx 6 100 (v:=?_) rfl C.o j ?_ (by intro w z;go_split_ands;go_simp;try with_reducible rfl) rfl rfl (by kernel_rfl) (fun _ _ _ h=>h);simp only[kF,kG,kH];refine Fx 7 101 (v:=?_) rfl C.o j ?_ (by intro w z;go_split_ands;go_simp;try with_reducible rfl) rfl rfl (by kernel_rfl) (fun _ _ _ h=>h);simp only[kF,kG,kH];refine Fx 8 102 (v:=?_) rfl C.o j ?_ (by intro w z;go_split_ands;go_simp;try with_reducible rfl) rfl rfl (by kernel_rfl) (fun _ _ _ h=>h);simp only[kF,kG,kH];refine Fx 9 103 (v:=?_) rfl C.o j ?_ (by intro w z;go_split_ands;go_simp;try with_reducible rfl) rfl rfl (by kernel_rfl) (fun _ _ _ h=>h);simp only[kF,kG,kH];refine Fx 10 104 (v:=?_) rfl C.o j ?_ (by intro w z;go_split_ands;go_simp;try with_reducible rfl) rfl rfl (by kernel_rfl) (fun _ _ _ h=>h);simp only[kF,kG,kH];refine Fx 11 105 (v:=?_) rfl C.o j ?_ (by intro w z;go_split_ands;go_simp;try with_reducible rfl) rfl rfl (by kernel_rfl) (fun _ _ _ h=>h);simp only[kF,kG,kH];refine Fx 12 106 (v:=?_) rfl C.o j ?_ (by intro w z;go_split_ands;go_simp;try with_reducible rfl) rfl rfl (by kernel_rfl) (fun _ _ _ h=>h);simp only[kF,kG,kH];refine Fx 13 107 (v:=?_) rfl C.o j ?_ (by intro w z;go_split_ands;go_simp;try with_reducible rfl) rfl rfl (by kernel_rfl) (fun _ _ _ h=>h);simp only[kF,kG,kH];refine Fx 14 108 (v:=?_) rfl C.o j ?_ (by intro w z;go_split_ands;go_simp;try with_reducible rfl) rfl rfl (by kernel_rfl) (fun _ _ _ h=>h);simp only[kF,kG,kH];refine Fx 16 110 (v:=?_) rfl C.o j ?_ (by intro w z;go_split_ands;go_simp;try with_reducible rfl) rfl rfl (by kernel_rfl) (fun _ _ _ h=>h);simp only[kF,kG,kH];refine Fx 17 111 (v:=?_) rfl C.o j ?_ (by intro w z;go_split_ands;go_simp;try with_reducible rfl) rfl rfl (by kernel_rfl) (fun _ _ _ h=>h);simp only[kF,kG,kH];refine Fx 18 112 (v:=?_) rfl C.o j ?_ (by intro w z;go_split_ands;go_simp;try with_reducible rfl) rfl rfl (by kernel_rfl) (fun _ _ _ h=>h);simp only[kF,kG,kH];refine wpAnyH_ready (rs:=[15]) (by kernel_rfl) (by simp) ?_;refine AllReadyH.cons rfl (fun K V=>?_) AllReadyH.nil;go_simp;refine V.out _ _ j (fun j=>?_);clear V K;refine wpAnyH_ready (rs:=[19]) (by kernel_rfl) (by simp) ?_;refine AllReadyH.cons rfl (fun K V=>?_) AllReadyH.nil;go_simp;go_at_call 70;refine(LY B (Y eb EL ed) (Jk f H) F.name.d9 _ (Ac d1.o (by repeat first|exact BI _ _|apply BG|apply BH|apply BE) (fun _ _ q=>q)) (by have:=i2.o;omega)).mono ?_;rintro e m ⟨v8,rfl,c5,h6⟩;obtain⟨xa,xl,xc,rfl⟩:=Ad c5;have E:=J (O.trans (X:=kJ) (a:=W1) (by repeat first|exact BI _ _|apply BG|apply BH|apply BE) h6);obtain⟨k1,k2,k3,l7,l8,k6,k7⟩:=BX.o m E.o;have c5:=J c5;clear h6;dsimp only;refine V.out _ _ (E.o.mono fun _ _ q=>q.elim) (fun j=>?_);clear V K;refine wpAnyH_ready (rs:=[20]) (by kernel_rfl) (by simp) ?_;refine AllReadyH.cons rfl (fun K V=>?_) AllReadyH.nil;go_simp;refine V.out _ _ j (fun j=>?_);clear V K;refine wpAnyH_ready (rs:=[21]) (by kernel_rfl) (by simp) ?_;refine AllReadyH.cons rfl (fun K V=>?_) AllReadyH.nil;go_simp;refine V.out _ _ (j.t9 _ _) (fun j=>?_);clear V K;refine wpAnyH_done (by kernel_rfl) ?_ _;go_wp2_with fail;go_meet
     case rel=> obtain⟨f1,f2⟩:=f4.o _ _ _ _ (Aq c5.o (by simp)) E.o;exact⟨f1,f2⟩
    case rest=>
    obtain⟨P2,O2⟩:=hcut;have y:=J (o.o.next P2.o O2.o);have f6:=J (Nj HK.o HG.o y.o.x HM.o (.inr d2.o) e4 g3.o f7.o.2 HU.o (Y a1 u.args.length c1) (Y a2 l2 c2) (Y a3 l3 c3) y.o.ar ⟨_,_,_,rfl⟩ ⟨_,_,_,rfl⟩);clear x8 x9 z0 z3 a9 d9 s3 f4 BX C o P2 O2 c6 f3 c7 c8 d1;obtain⟨x0,x1,x2,x3,x4,x5,x6,x7,x8,x9,l9,m0,m1,m2,m3⟩:wc.cell? ⟨p,0,Z⟩=T (G A u.kind)/\wc.cell? ⟨p,1,Z⟩=T (.string u.p.d9)/\wc.cell? ⟨p,2,Z⟩=T (G A u.p.pos)/\wc.cell? ⟨p,3,Z⟩=T (G A u.p.sort)/\wc.cell? ⟨p,4,Z⟩=T (.string u.q.d9)/\wc.cell? ⟨p,5,Z⟩=T (G A u.q.pos)/\wc.cell? ⟨p,6,Z⟩=T (G A u.q.sort)/\wc.cell? ⟨p,7,Z⟩=T (G A u.field)/\wc.cell? ⟨p,8,Z⟩=T (Y a1 u.args.length c1)/\wc.cell? ⟨p,9,Z⟩=T (G A u.l7)/\wc.cell? ⟨p,10,Z⟩=T (Y a2 l2 c2)/\wc.cell? ⟨p,11,Z⟩=T (Y a3 l3 c3)/\wc.cell? ⟨p,12,Z⟩=T (G A u.br)/\wc.cell? ⟨p,13,Z⟩=T (G A u.dR)/\wc.cell? ⟨p,14,Z⟩=T (G A u.dD):=⟨y.o.b6.cell 0,y.o.b6.cell 1,y.o.b6.cell 2,y.o.b6.cell 3,y.o.b6.cell 4,y.o.b6.cell 5,y.o.b6.cell 6,y.o.b6.cell 7,y.o.b6.cell 8,y.o.b6.cell 9,y.o.b6.cell 10,y.o.b6.cell 11,y.o.b6.cell 12,y.o.b6.cell 13,y.o.b6.cell 14⟩;have c6:=Ae y.o.b6;go_wp2_with fail;refine f6.o.mono ?_;rintro e w5 ⟨rfl,s5,p5,i1,o5⟩;have T5:=J (y.o.next p5 o5);have N5:D (FC P pn R s s5 (fun S=>∀d,d<g+1->t=fN d->(As P d).u9=r.s.args.length->S.E r.s.cK d/\Ds P r d S)):=by
     refine((NX.o.then b8.o (fun S i4 a8 q d a b c=>⟨a8.e _ _ (q d a b c).1,(q d a b c).2.up a8⟩)).then i1 (fun S i4 a8 q=>⟨fun d a b c=>⟨a8.e _ _ (q.1 d a b c).1,(q.1 d a b c).2.up a8⟩,a8.e _ _ q.2⟩)).to fun _ q d h1 h2 h3=>?_
     rcases jG d g with z|z
     .exact q.1.1 d z h2 h3
     .obtain rfl:d=g:=by omega
      exact⟨by rw[g1.o];exact q.1.2,q.2⟩
    clear p5 i1 o5 f6 y NX b8;go_wp2_with fail;go_roundw
    case rel=>exact⟨g+1,s5,by omega,by go_num,T5,N5⟩
    case measure=>simp[intOf];omega
   .have N5:D (FC P pn R s f (fun S=>∀d,d<g+1->t=fN d->(As P d).u9=r.s.args.length->S.E r.s.cK d/\Ds P r d S)):=NX.o.to fun _ q d h1 h2 h3=>by
     rcases jG d g with z|z
     .exact q d z h2 h3
     .obtain rfl:d=g:=by omega
      exact jY ⟨h2,by rw[d5.o,h3,d0.o]⟩ b7
    clear NX
    by_cases a0:t=fN g
    .have hb:(X.toList==(({data:=#[64]}:ByteArray)++F.name.d9).toList)=true:=a5.2 a0
     have tl:((F.cQ.length:Int)==(u.args.length:Int))=false:=by
      have:F.cQ.length≠u.args.length:=fun q=>b7 ⟨a0,q⟩
      simp;omega
     clear a5 a0 b7;go_wp2_with fail;go_roundw
     case rel=>exact⟨g+1,f,by omega,by go_num,o,N5⟩
     case measure=>simp[intOf];omega
    .have hb:(X.toList==(({data:=#[64]}:ByteArray)++F.name.d9).toList)=false:=by rw[Bool.eq_false_iff];exact fun q=>a0 (a5.1 q)
     clear a5 a0 b7;go_wp2_with fail;go_roundw
     case rel=>exact⟨g+1,f,by omega,by go_num,o,N5⟩
     case measure=>simp[intOf];omega
  .have tg:decide ((g:Int)<(rf.length:Int))=false:=by simp;omega
   have R1:D (GQ P pn R B N pb nv cv ev s w wr (Dk P r t)):=by
    refine⟨f,TF.o.x.p,NX.o.to fun _ q=>?_,TF.o.o⟩;have l5:=d2.o;refine⟨fun z=>by omega,fun z=>by omega,fun z=>by omega,fun _ z1 z2=>?_⟩;have e7:=d4.o;have j6:t-144<g/\144<=t:=by
     rcases g4.o with z|⟨d,z3,rfl⟩
     .have:=z.isC HK.o.hy.ok.dC HK.o.hy.ok.ok.t8;unfold PK at this;unfold Zd at z1;omega
     .unfold fN;omega
    exact q (t-144) j6.1 (by unfold fN;omega) z2
   clear TF NX;go_wp2_with fail;go_end0;exact⟨rfl,R1.o⟩
theorem aP{P:List PFn}{V o x:Nat}{F:List RF}{y:List FS}(K:LsK P V o x F y){B E p I:Nat}(sb:Nat)(nv L N:Value){U:Nat->Prop}{R sv:Value}{H:World}(v:XN E p B U R sv F y o I H):aB P o x B sb E p nv L N H:=by
 intro s w u r t b e k X d Q h M hF j S C g i f m z;have n:∃a l c,b=Y a l c:=Ad C;rcases hF with q|q|q|q
 .exact Ru K v h M q j b e k n g i X d Q f m
 .exact Np K h.p M (.inl q) j b e k n g i X d Q f m z
 .exact Ue K v h M q j S b e k C g i X d Q f
 .exact Np K h.p M (.inr q) j b e k n g i X d Q f m z
theorem Xc{P:List PFn}{L b i:Nat}{x:List RF}{n:List FS}(K:LsK P L b i x n){B d q t z:Nat}{o j m:Value}{U:Nat->Prop}{C M:Value}{y:World}(v:XN q t B U C M x n b z y){s:Ls}{w:World}(h:K8 P b i B d q o j m y s w){k:Nat}{u:FS}(H:n[k]? =T u)(f g p:Value)(E:CM t w f u.args)(F:∃a l c,g=Y a l c)(I:∃a l c,p=Y a l c):
 Calls prog 24 #[.pointer (T ⟨d,0,Z⟩),.agg (Br u f g p)] w fun e N=>e=.returned (.tuple #[])/\GQ P b i B d q o j m s w N (fun S=>∀r,MxR P u r->FZ P r S):=
 Xd K v (aP K d o j m v) h H f g p E F I
theorem FZ.up{P:List PFn}{r:Rl}{S a:Sy}(h:FZ P r S)(k:S.le a)(b:∀c t,a.I c t->S.I c t):FZ P r a:=⟨h.1.up k,fun hF t d=>(h.2 hF t (b _ _ d)).up k⟩
theorem FC.thenI{P:List PFn}{a f:Nat}{s g i:Ls}{R l:Sy->Prop}(h:FC P a f s g R)(k:FC P a f g i l)(v:∀S b:Sy,S.le b->(∀c t,b.I c t->S.I c t)->R S->R b):FC P a f s i (fun S=>R S/\l S):=by
 refine⟨k.inv,fun n x q=>k.eu n x (h.eu n x q),iG k.lf h.lf,fun q=>?_,fun q=>?_⟩
 .obtain⟨m,d,o⟩:=k.stop q;obtain⟨p,r,u⟩:=h.stop m;refine⟨p,d.trans r,v _ _ (Xu d k.eu) (fun c t z=>?_) u,o⟩;have e:Ip P a i c=Ip P a g c:=by unfold Ip;rw[d]
  exact⟨z.1,by rw[<-e];exact z.2⟩
 .rcases k.go q with z|z
  .rcases h.go z with j|j
   .exact .inl j
   .exact .inr (Nat.lt_of_le_of_lt k.lf j)
  .exact .inr (iI z h.lf)
def XX(P:List PFn)(a:List FS)(k:Nat)(S:Sy):Prop:=∀(j:Nat) (u:FS) (r:Rl),j<k->a[j]? =T u->MxR P u r->FZ P r S
theorem YI{P:List PFn}{g e:Nat}{s l m:Ls}{f:List FS}{k:Nat}{u:FS}(n:f[k]? =T u)(h:FC P g e s l (XX P f k))(x:FC P g e l m (fun S=>∀r,MxR P u r->FZ P r S)):FC P g e s m (XX P f (k+1)):=
 (h.thenI x (fun _ _ a b q j u r i c d=>(q j u r i c d).up a b)).to fun _ q j o r i c d=>by
  rcases jG j k with z|z
  .exact q.1 j o r z c d
  .obtain rfl:j=k:=by omega
   rw[n]at c;cases c;exact q.2 r d
theorem WE{P:List PFn}{f b d:Nat}{g:List RF}{a:List FS}(K:LsK P f b d g a){s:Ls}(h:XX P a a.length (OF P b s)):(least P).le (OF P b s):=
 ZG fun r e=>by
  rcases K.stmt r e with q|⟨k,u,c,M⟩
  .exact⟨⟨fun z=>by omega,fun z=>by omega,fun z=>by omega,fun z=>by omega,fun z=>by omega⟩,fun z=>by unfold AS at z;omega⟩
  .exact h k u r (List.getElem?_eq_some_iff.1 c).1 c M

/- Part of the proof: LsS LsT LsU. -/
import Derived.Test.YtaningfhibkemaaGreatDoorG43
set_option maxRecDepth 100000
set_option maxHeartbeats 4000000
namespace Go.Proofs.YtaningfhibkemaaGreatDoor
open Go.RowKit Go.Proofs.Tryz
theorem TX{P:List PFn}{mn V N:Nat}{rf:List RF}{fs:List FS}(K:LsK P mn V N rf fs){B L pb Bp pl ca:Nat}{nv cv ev:Value}{U:Nat->Prop}{fv sv:Value}{w0:World}(G:XB pb Bp B U fv sv rf fs pl ca w0){s:Ls}{w:World}(h:KQ P V N B L pb nv cv ev w0 s w){u:FS}{r:Rl}(M:MxR P u r)(hk:r.s.kind=8){t:Nat}(ht:(least P).I r.at t)(hu:XC 4000 u)(av bv ov:Value)(c0:CE Bp w av u.args)(i7:∃a l c,bv=.slice a l c)(j6:∃a l c,ov=.slice a l c)(X i5 Q:ByteArray)(hX:X=BU P t):
 Calls prog 62 #[.pointer (some ⟨L,0,none⟩),.agg (Bo u av bv ov),.string X,.string i5,.string Q] w fun e w'=>e=.returned (.tuple #[])/\GG P V N B L pb nv cv ev s w w' (Dd P r t):=by
 obtain⟨a2,l2,c2,rfl⟩:=i7;obtain⟨a3,l3,c3,rfl⟩:=j6;obtain⟨a1,l1,c1,rfl⟩:=Ad c0;have j4:=Ag c0;subst j4;have e8:=(Dl K.hy.ok ht).2;have g7:=JZ M.rl (by unfold AR;omega) ht;have g4:=(K.arx M (.inr hk)).1;have i6:=(K.st M).cR;have e7:=K.len;have j2:=K.hy.ok.cR;have h6:u.l7=r.s.cA:=M.pl (.inr hk);have h0:=(K.hy.ok.dF r.f M.rl.1 r.s M.rl.2).2.1 hk;have i9:=K.hy.ok.lc;have k5:((u.kind:Int)==5)=false:=by rw[AD M hk];rfl
 have j9:((u.kind:Int)==10)=false:=by rw[AD M hk];rfl
 have k4:((u.kind:Int)==4)=false:=by rw[AD M hk];rfl
 have k9:((u.kind:Int)==9)=true:=by rw[AD M hk];rfl
 have AL:=J ((O.refl kD w).alloc (.cells (Bo u (.slice a1 u.args.length c1) (.slice a2 l2 c2) (.slice a3 l3 c3)) 92));have B6:=J (W.new w (Bo u (.slice a1 u.args.length c1) (.slice a2 l2 c2) (.slice a3 l3 c3)) 92);have d6:=J (h.s9 AL.o);have c9:=J (Ac c0 AL.o (fun _ _ q=>q));have HK:=J K;have HG:=J G;have HM:=J M;have HU:=J hu;have g3:=J e8;have d2:=J hk;have f8:D (∀g,g<P.length->t=fN g->(As P g).u9=r.s.args.length->(least P).E r.s.cA g/\Dj P r g (least P)):=fun g hg e hp=>by have:=g7.2.2.2 hk (by rw[e];unfold Y2 fN;omega) (by rw[e,show fN g-144=g by unfold fN;omega];exact hp);rw[e,show fN g-144=g by unfold fN;omega]at this;exact this
 have f7:D (∀g (hg:g<rf.length),((X.toList==(⟨#[64]⟩++rf[g].name.d9:ByteArray).toList)=true↔t=fN g)):=fun g hg=>by
  have g9:g<P.length:=Z;rw[K.name g hg,Tr K.hy g9,hX];constructor
  .intro q;exact Fi K.nm K.hy e8 (.inr ⟨g,g9,rfl⟩) (Ct (beq_iff_eq.1 q))
  .rintro rfl;simp
 have d0:=J g4;have d4:=J e7;have g1:=J h6;clear h K G M e8 g7 hX ht hk hu c0 g4 e7 h6;go_enter func62,ntmps62;go_upto_region 1 with fail;generalize w.alloc (.cells (Bo u (.slice a1 u.args.length c1) (.slice a2 l2 c2) (.slice a3 l3 c3)) 92)=i4 at AL B6 d6 c9⊢;generalize w.heap.size=p at B6⊢;have d7:D (Vg P V N B L pb Bp nv cv ev w0 w p (Bo u (.slice a1 u.args.length c1) (.slice a2 l2 c2) (.slice a3 l3 c3)) (.slice a1 u.args.length c1) u.args s i4):=⟨d6.o,DY.of AL.o,B6.o,c9.o⟩;have k0:=B6.o.cell 0;have lb:=Ae B6.o;simp only[Bo,gH,gF]at k0;clear d6 AL c9 B6;go_wp2_with fail;clear k0 lb;go_loopw[11] (fun i wr=>∃(g:Nat) (f:Ls),g<=rf.length/\i=.int .i64 g/\D (Vg P V N B L pb Bp nv cv ev w0 w p (Bo u (.slice a1 u.args.length c1) (.slice a2 l2 c2) (.slice a3 l3 c3)) (.slice a1 u.args.length c1) u.args f wr)/\D (Fq P V N s f (fun S=>∀d,d<g->t=fN d->(As P d).u9=r.s.args.length->S.E r.s.cA d/\Dj P r d S))) (fun i _=>rf.length-(intOf i).toNat)
 case atStart=>exact⟨0,s,Z,rfl,d7,(Fq.rf d7.o.x.p.i).to fun _ _ d q=>Z⟩
 case round=>
  clear d7;obtain⟨g,f,hg,rfl,TF,NX⟩:=hrel;have b5:=HG.o.at TF.o.x.low;have l5:=HG.o.rn;have s0:=TF.o.x.p.m.bx.cell 0;have k8:=Ae TF.o.x.p.m.bx;have f0:=Ak b5.pr 0;have lp:=Ae b5.pr;obtain⟨rs,b4,_⟩:=b5.fn;obtain⟨ga,gl,gc,rfl⟩:=Ad b4;have j3:=Ag b4;subst j3;simp only[gH,gF]at s0 f0;by_cases a6:g<rf.length
  .have tg:decide ((g:Int)<(rf.length:Int))=true:=jX;obtain⟨fg,rfl⟩:=Ap b4 Z;have lg:=(b4.lt fg rfl).2;obtain⟨tv,l0,vv,a4,a7,g5,h9⟩:=b5.fn.get a6;obtain⟨t1,t2,t3,rfl⟩:=Ad a7;have j7:=Ag a7;subst j7;obtain⟨e1,e2,e3,rfl⟩:=Ad g5;obtain⟨v1,v2,v3,rfl⟩:=Ad h9;have a5:=f7.o g a6;have e9:=HK.o.tkl g a6;have h4:=HG.o.nz _ (gQ a6);have d3:=J (HK.o.name g a6);obtain⟨F,hF⟩:∃x,rf[g]=x:=⟨_,rfl⟩;rw[hF]at a4 a5 e9 h4 d3;have d5:=J e9;have n0:=a4 0 T;have I:=a4 1 T;have n2:=a4 2 T;have n3:=a4 3 T;have n4:=a4 4 T;have n5:=a4 5 T;have n6:=a4 6 T;simp only[EH,gH,gF,gG,gX]at n0 I n2 n3 n4 n5 n6;have BF:=J (W.new wr (EH F (.slice t1 F.cG.length t3) (.slice e1 e2 e3) (.slice v1 v2 v3)) 53);have AL:=J ((O.refl kD wr).alloc (.cells (EH F (.slice t1 F.cG.length t3) (.slice e1 e2 e3) (.slice v1 v2 v3)) 53));clear a4 b4 b5 a7 g5 h9 hF e9;go_upto_region 17 with fail;change Code.wp _ _ _ _ (wr.alloc (.cells (EH F (.slice t1 F.cG.length t3) (.slice e1 e2 e3) (.slice v1 v2 v3)) 53));generalize wr.alloc (.cells (EH F (.slice t1 F.cG.length t3) (.slice e1 e2 e3) (.slice v1 v2 v3)) 53)=Y at BF AL⊢;generalize wr.heap.size=b9 at BF⊢;have o:=J (TF.o.s9 AL.o);clear TF AL n0 I n2 n3 n4 n5 n6 s0 f0 k8 lp lg;obtain⟨z0,z3⟩:=BF.o.e2 0 3;have f3:=Ae BF.o;have x8:=o.o.b6.cell 8;have c6:=Ae o.o.b6;simp only[EH,Bo,gH,gF,gG]at z0 z3 x8;have i8:¬(9223372036854775807<1+F.name.d9.size):=Z;by_cases b7:t=fN g/\F.cG.length=u.args.length
   .obtain⟨a0,a7⟩:=b7;have hb:(X.toList==(({data:=#[64]}:ByteArray)++F.name.d9).toList)=true:=a5.2 a0;have tl:((F.cG.length:Int)==(u.args.length:Int))=true:=by simp[a7]
    have e4:g<P.length:=by rw[<-d4.o];exact a6
    have e6:(As P g).u9=r.s.args.length:=by rw[<-d5.o,a7,d0.o]
    have hE:=f8.o g e4 a0 e6;have g2:=J e6;have f6:=J hE;have i2:=J a0;obtain⟨E,b0⟩:∃n,r.s.cA=n:=⟨_,rfl⟩;rw[b0]at h0;have g0:=J b0;have x9:=o.o.b6.cell 9;simp only[Bo,gH,gF,gG]at x9;rw[g1.o,b0]at x9;obtain⟨ea,ec,j1⟩:=o.o.x.p.m.en.form;subst j1;have j0:=o.o.x.p.i.el;have c4:E-1<f.ents.length:=Z;obtain⟨H,eb,ed,rfl,a9,d9,_,c7,e0⟩:=o.o.x.p.m.en.get c4;have s3:=o.o.x.p.m.bx.cell 3;have c8:=Ae o.o.x.p.m.bx;simp only[gH,gF,gG]at s3;have g6:Jb f E=f.ents[E-1]:=by unfold Jb;rw[gL c4];rfl
    have h7:=o.o.x.p.i.eshort HK.o.hy (gQ c4);rw[<-g6]at e0 a9 h7;have e1:(E:Int)-1=((E-1:Nat):Int):=Z;obtain⟨I,e5⟩:∃n,E-1=n:=⟨_,rfl⟩;have f9:=J e5;rw[e5]at e1 a9 d9;have tn:(I:Int)<(f.ents.length:Int):=Z;have ew:IntKind.i64.wrap (I:Int)=(I:Int):=by have:I<=4001:=Z;rw[IntKind.wrap_i64];omega
    have d1:=J e0;have nx:=Zp HK.o.hy o.o.x.p.i (n:=E) (g:=g) (by rw[<-b0];exact hE.1);have g8:CK P g=F.name.d9:=d3.o.symm;rw[g8]at nx;have b8:=J nx;have f4:D (∀(m:World) (xa:Option Addr) (xl xc:Nat),Au Y.heap.size m (.slice xa xl xc) (Df (Jb f E) F.name.d9)->O kD Y m->QY P V N B L pb nv cv (.slice (some ⟨H,0,none⟩) f.ents.length ec) ⟨f.cells,f.ents.set (E-1) (Df (Jb f E) F.name.d9),f.more⟩ (m.setCell ⟨H,I,none⟩ (.slice xa xl xc))/\DY L cv (.slice (some ⟨H,0,none⟩) f.ents.length ec) Y (m.setCell ⟨H,I,none⟩ (.slice xa xl xc))):=fun m xa xl xc h8 C=>by obtain⟨b1,b2,b3⟩:=(o.o.x.p.m.s9 C).setE I (.slice xa xl xc) (Df (Jb f E) F.name.d9) (Aq h8 o.o.x.p.b);rw[<-f9.o]at b1 b2⊢;exact⟨⟨b1,b8.o.inv,gW o.o.x.p.b (gW C.size b2.size)⟩,(DY.of C).trans (b2.mono fun k _ q=>.inr (.inr (by rw[q];rfl)))⟩
    have BX:D (∀m,O kD Y m->m.cell? ⟨H,I,none⟩=some (.slice eb (Jb f E).length ed)/\m.frozen? ⟨H,I,none⟩=false/\m.cell? ⟨L,3,none⟩=some (.slice (some ⟨H,0,none⟩) f.ents.length ec)/\m.cell? ⟨p,9,none⟩=some (.int .i64 E)/\m.cell? ⟨b9,0,none⟩=some (.string F.name.d9)/\H<m.heap.size/\L<m.heap.size):=fun m C=>⟨(gJ (C.block H c7 id)).trans a9,(gO (C.block H c7 id)).trans d9,(gJ (C.block L c8 id)).trans s3,(gJ (C.block p c6 id)).trans x9,(gJ (C.block b9 f3 id)).trans z0,gY c7 C.size,gY c8 C.size⟩
    have A:D (∀m,O (fun k=>k=H) Y m->m.cell? ⟨L,3,none⟩=some (.slice (some ⟨H,0,none⟩) f.ents.length ec)/\m.cell? ⟨p,9,none⟩=some (.int .i64 E)/\m.cell? ⟨b9,0,none⟩=some (.string F.name.d9)):=fun m C=>by
     obtain⟨us,_,hr,_⟩:=o.o.x.p.m.en;obtain⟨_,cs,fz,hh⟩:=Cu hr (k:=H) rfl;have I:∀{b:Nat} {cs:Array Value} {ty:TypeId},ty≠51->W b cs ty Y->b≠H:=fun j8 hb e=>by subst e;have h1:=hb;unfold W at h1;rw[hh]at h1;injection h1 with h1;injection h1 with _ h2 _;exact j8 h2.symm
     exact⟨(gJ (C.block L c8 (I T o.o.x.p.m.bx))).trans s3,(gJ (C.block p c6 (I T o.o.b6))).trans x9,(gJ (C.block b9 f3 (I T BF.o))).trans z0⟩
    obtain⟨EL,d8⟩:∃n,(Jb f E).length=n:=⟨_,rfl⟩;have i1:=J d8;rw[d8]at a9 BX h7 d1;clear hE a0 a7 e0 g6 e6 b0 e5 nx g8 j0 a5 d8;go_upto_region 18 with fail;go_cut[] (fun wx=>D (QY P V N B L pb nv cv (.slice (some ⟨H,0,none⟩) f.ents.length ec) ⟨f.cells,f.ents.set (E-1) (Df (Jb f E) F.name.d9),f.more⟩ wx)/\D (DY L cv (.slice (some ⟨H,0,none⟩) f.ents.length ec) Y wx))
    case first=>
     clear HK HG HM HU g3 d2 f8 f7 NX o d5 g2 f6 i2 g0 g1 d4 d0 d3 b8 k5 j9 k4 k9 tg hb tl i8 z3 x8 BF f9 i6 j2 h0 i9 h4 e4 c4 a6 hg;refine wp_region_held_drew (S:=fun w'=>O (fun k=>k=H) Y w') jW ((O.refl _ Y).drew) (fun j=>?_);refine Fn 0 94 (v:=?_) rfl A.o j ?_;simp only[Ab,An,jU];refine Fn 1 95 (v:=?_) rfl A.o j ?_;simp only[Ab,An,jU];refine Fn 2 96 (v:=?_) rfl A.o j ?_;simp only[Ab,An,jU];refine Fn 3 97 (v:=?_) rfl A.o j ?_;simp only[Ab,An,jU];refine Fn 4 98 (v:=?_) rfl A.o j ?_;simp only[Ab,An,jU];refine Fn 5 99 (v:=?_) rfl A.o j ?_;simp only[Ab,An,jU];refine Fn 6 100 (v:=?_) rfl A.o j ?_;simp only[Ab,An,jU];refine Fn 7 101 (v:=?_) rfl A.o j ?_;simp only[Ab,An,jU];refine Fn 8 102 (v:=?_) rfl A.o j ?_;simp only[Ab,An,jU];refine Fn 9 103 (v:=?_) rfl A.o j ?_;simp only[Ab,An,jU];refine Fn 10 104 (v:=?_) rfl A.o j ?_;simp only[Ab,An,jU];refine Fn 11 105 (v:=?_) rfl A.o j ?_;simp only[Ab,An,jU];refine Fn 12 106 (v:=?_) rfl A.o j ?_;simp only[Ab,An,jU];refine Fn 13 107 (v:=?_) rfl A.o j ?_;simp only[Ab,An,jU];refine Fn 14 108 (v:=?_) rfl A.o j ?_;simp only[Ab,An,jU];refine Fn 16 110 (v:=?_) rfl A.o j ?_;simp only[Ab,An,jU];refine Fn 17 111 (v:=?_) rfl A.o j ?_;simp only[Ab,An,jU];refine Fn 18 112 (v:=?_) rfl A.o j ?_;simp only[Ab,An,jU];refine wpAnyH_ready (rs:=[15]) jW jY ?_;refine AllReadyH.cons rfl (fun K R=>?_) AllReadyH.nil;go_simp;refine R.out _ _ j (fun j=>?_);clear R K;refine wpAnyH_ready (rs:=[19]) jW jY ?_;refine AllReadyH.cons rfl (fun K R=>?_) AllReadyH.nil;go_simp;go_at_call 70;refine(LO B (.slice eb EL ed) (Jb f E) F.name.d9 _ (Ac d1.o jV (fun _ _ q=>q)) (by have:=i1.o;omega)).mono ?_;rintro e m ⟨v8,rfl,c5,h5⟩;obtain⟨xa,xl,xc,rfl⟩:=Ad c5;have C:=J (O.trans (X:=kD) (a:=Y) jV h5);obtain⟨k1,k2,k3,l6,l7,k6,k7⟩:=BX.o m C.o;have c5:=J c5;clear h5;dsimp only;refine R.out _ _ (C.o.mono fun _ _ q=>q.elim) (fun j=>?_);clear R K;refine wpAnyH_ready (rs:=[20]) jW jY ?_;refine AllReadyH.cons rfl (fun K R=>?_) AllReadyH.nil;go_simp;refine R.out _ _ j (fun j=>?_);clear R K;refine wpAnyH_ready (rs:=[21]) jW jY ?_;refine AllReadyH.cons rfl (fun K R=>?_) AllReadyH.nil;go_simp;refine R.out _ _ (j.t9 _ _) (fun j=>?_);clear R K;refine wpAnyH_done jW ?_ _;go_wp2_with fail;go_meet
     case rel=> obtain⟨f1,f2⟩:=f4.o _ _ _ _ (Aq c5.o jY) C.o;exact⟨f1,f2⟩
    case rest=>
    obtain⟨P2,O2⟩:=hcut;have y:=J (o.o.next P2.o O2.o);have f5:=J (M8 HK.o HG.o y.o.x HM.o (.inr d2.o) e4 g2.o f6.o.2 HU.o (.slice a1 u.args.length c1) (.slice a2 l2 c2) (.slice a3 l3 c3) y.o.ar ⟨_,_,_,rfl⟩ ⟨_,_,_,rfl⟩);clear x8 x9 z0 z3 a9 d9 s3 f4 BX A o P2 O2 c6 f3 c7 c8 d1;obtain⟨x0,x1,x2,x3,x4,x5,x6,x7,x8,x9,l8,l9,m0,m1,m2⟩:wc.cell? ⟨p,0,none⟩=some (.int .i64 u.kind)/\wc.cell? ⟨p,1,none⟩=some (.string u.p.d9)/\wc.cell? ⟨p,2,none⟩=some (.int .i64 u.p.pos)/\wc.cell? ⟨p,3,none⟩=some (.int .i64 u.p.sort)/\wc.cell? ⟨p,4,none⟩=some (.string u.q.d9)/\wc.cell? ⟨p,5,none⟩=some (.int .i64 u.q.pos)/\wc.cell? ⟨p,6,none⟩=some (.int .i64 u.q.sort)/\wc.cell? ⟨p,7,none⟩=some (.int .i64 u.field)/\wc.cell? ⟨p,8,none⟩=some (.slice a1 u.args.length c1)/\wc.cell? ⟨p,9,none⟩=some (.int .i64 u.l7)/\wc.cell? ⟨p,10,none⟩=some (.slice a2 l2 c2)/\wc.cell? ⟨p,11,none⟩=some (.slice a3 l3 c3)/\wc.cell? ⟨p,12,none⟩=some (.int .i64 u.br)/\wc.cell? ⟨p,13,none⟩=some (.int .i64 u.dG)/\wc.cell? ⟨p,14,none⟩=some (.int .i64 u.cS):=⟨y.o.b6.cell 0,y.o.b6.cell 1,y.o.b6.cell 2,y.o.b6.cell 3,y.o.b6.cell 4,y.o.b6.cell 5,y.o.b6.cell 6,y.o.b6.cell 7,y.o.b6.cell 8,y.o.b6.cell 9,y.o.b6.cell 10,y.o.b6.cell 11,y.o.b6.cell 12,y.o.b6.cell 13,y.o.b6.cell 14⟩;have c6:=Ae y.o.b6;go_wp2_with fail;refine f5.o.mono ?_;rintro e w5 ⟨rfl,s5,p5,i0,o5⟩;have T5:=J (y.o.next p5 o5);have N5:D (Fq P V N s s5 (fun S=>∀d,d<g+1->t=fN d->(As P d).u9=r.s.args.length->S.E r.s.cA d/\Dj P r d S)):=by
     refine((NX.o.then b8.o (fun S i3 a8 q d a b c=>⟨a8.e _ _ (q d a b c).1,(q d a b c).2.up a8⟩)).then i0 (fun S i3 a8 q=>⟨fun d a b c=>⟨a8.e _ _ (q.1 d a b c).1,(q.1 d a b c).2.up a8⟩,a8.e _ _ q.2⟩)).to fun _ q d h1 h2 h3=>?_
     rcases iW d g with z|z
     .exact q.1.1 d z h2 h3
     .obtain rfl:d=g:=Z;exact⟨by rw[g0.o];exact q.1.2,q.2⟩
    clear p5 i0 o5 f5 y NX b8;go_wp2_with fail;go_roundw
    case rel=>exact⟨g+1,s5,Z,by go_num,T5,N5⟩
    case measure=>simp[intOf];omega
   .have N5:D (Fq P V N s f (fun S=>∀d,d<g+1->t=fN d->(As P d).u9=r.s.args.length->S.E r.s.cA d/\Dj P r d S)):=NX.o.to fun _ q d h1 h2 h3=>by
     rcases iW d g with z|z
     .exact q d z h2 h3
     .obtain rfl:d=g:=Z;exact jO ⟨h2,by rw[d5.o,h3,d0.o]⟩ b7
    clear NX
    by_cases a0:t=fN g
    .have hb:(X.toList==(({data:=#[64]}:ByteArray)++F.name.d9).toList)=true:=a5.2 a0
     have tl:((F.cG.length:Int)==(u.args.length:Int))=false:=by
      have:F.cG.length≠u.args.length:=fun q=>b7 ⟨a0,q⟩
      simp;omega
     clear a5 a0 b7;go_wp2_with fail;go_roundw
     case rel=>exact⟨g+1,f,Z,by go_num,o,N5⟩
     case measure=>simp[intOf];omega
    .have hb:(X.toList==(({data:=#[64]}:ByteArray)++F.name.d9).toList)=false:=by rw[Bool.eq_false_iff];exact fun q=>a0 (a5.1 q)
     clear a5 a0 b7;go_wp2_with fail;go_roundw
     case rel=>exact⟨g+1,f,Z,by go_num,o,N5⟩
     case measure=>simp[intOf];omega
  .have tg:decide ((g:Int)<(rf.length:Int))=false:=jX;have R1:D (GG P V N B L pb nv cv ev s w wr (Dd P r t)):=by
    refine⟨f,TF.o.x.p,NX.o.to fun _ q=>?_,TF.o.o⟩;have l4:=d2.o;refine⟨fun z=>Z,fun z=>Z,fun z=>Z,fun _ z1 z2=>?_⟩;have e7:=d4.o;have j5:t-144<g/\144<=t:=by
     rcases g3.o with z|⟨d,z3,rfl⟩
     .have:=z.isC HK.o.hy.ok.cR HK.o.hy.ok.ok.t8;unfold Py at this;unfold Y2 at z1;omega
     .unfold fN;omega
    exact q (t-144) j5.1 (by unfold fN;omega) z2
   clear TF NX;go_wp2_with fail;go_end0;exact⟨rfl,R1.o⟩
theorem aE{P:List PFn}{R o v:Nat}{C:List RF}{x:List FS}(K:LsK P R o v C x){B A p F:Nat}(V:Nat)(S H I:Value){U:Nat->Prop}{L Y:Value}{E:World}(G:XB A p B U L Y C x o F E):ZY P o v B V A p S H I E:=by
 intro s w u r t b e k X d Q h M hF j N z g i f m y;have n:∃a l c,b=.slice a l c:=Ad z;rcases hF with q|q|q|q
 .exact Rj K G h M q j b e k n g i X d Q f m
 .exact Ng K h.p M (.inl q) j b e k n g i X d Q f m y
 .exact TX K G h M q j N b e k z g i X d Q f
 .exact Ng K h.p M (.inr q) j b e k n g i X d Q f m y
theorem WT{P:List PFn}{H b i:Nat}{v:List RF}{n:List FS}(K:LsK P H b i v n){B d q t y:Nat}{o j m:Value}{U:Nat->Prop}{z I:Value}{x:World}(G:XB q t B U z I v n b y x){s:Ls}{w:World}(h:KQ P b i B d q o j m x s w){k:Nat}{u:FS}(E:n[k]? =some u)(f g p:Value)(A:CE t w f u.args)(C:∃a l c,g=.slice a l c)(F:∃a l c,p=.slice a l c):
 Calls prog 24 #[.pointer (some ⟨d,0,none⟩),.agg (Bo u f g p)] w fun e L=>e=.returned (.tuple #[])/\GG P b i B d q o j m s w L (fun S=>∀r,MxR P u r->FH P r S):=
 WU K G (aE K d o j m G) h E f g p A C F
theorem FH.up{P:List PFn}{r:Rl}{S a:Sy}(h:FH P r S)(k:S.le a)(b:∀c t,a.I c t->S.I c t):FH P r a:=⟨h.1.up k,fun hF t d=>(h.2 hF t (b _ _ d)).up k⟩
theorem Fq.thenI{P:List PFn}{a f:Nat}{s g i:Ls}{R l:Sy->Prop}(h:Fq P a f s g R)(k:Fq P a f g i l)(v:∀S b:Sy,S.le b->(∀c t,b.I c t->S.I c t)->R S->R b):Fq P a f s i (fun S=>R S/\l S):=by
 refine⟨k.inv,fun n x q=>k.eu n x (h.eu n x q),gW k.lf h.lf,fun q=>?_,fun q=>?_⟩
 .obtain⟨m,d,o⟩:=k.stop q;obtain⟨p,r,u⟩:=h.stop m;refine⟨p,d.trans r,v _ _ (Xg d k.eu) (fun c t z=>?_) u,o⟩;have e:Ie P a i c=Ie P a g c:=by unfold Ie;rw[d]
  exact⟨z.1,by rw[<-e];exact z.2⟩
 .rcases k.go q with z|z
  .rcases h.go z with j|j
   .exact .inl j
   .exact .inr (Nat.lt_of_le_of_lt k.lf j)
  .exact .inr (gY z h.lf)
def XL(P:List PFn)(a:List FS)(k:Nat)(S:Sy):Prop:=∀(j:Nat) (u:FS) (r:Rl),j<k->a[j]? =some u->MxR P u r->FH P r S
theorem Yx{P:List PFn}{g e:Nat}{s l m:Ls}{f:List FS}{k:Nat}{u:FS}(n:f[k]? =some u)(h:Fq P g e s l (XL P f k))(x:Fq P g e l m (fun S=>∀r,MxR P u r->FH P r S)):Fq P g e s m (XL P f (k+1)):=
 (h.thenI x (fun _ _ a b q j u r i c d=>(q j u r i c d).up a b)).to fun _ q j o r i c d=>by
  rcases iW j k with z|z
  .exact q.1 j o r z c d
  .obtain rfl:j=k:=Z;rw[n]at c;cases c;exact q.2 r d
theorem Wt{P:List PFn}{f b d:Nat}{g:List RF}{a:List FS}(K:LsK P f b d g a){s:Ls}(h:XL P a a.length (Ow P b s)):(least P).le (Ow P b s):=
 Zv fun r e=>by
  rcases K.stmt r e with q|⟨k,u,c,M⟩
  .exact⟨⟨fun z=>Z,fun z=>Z,fun z=>Z,fun z=>Z,fun z=>Z⟩,fun z=>by unfold AR at z;omega⟩
  .exact h k u r (List.getElem?_eq_some_iff.1 c).1 c M

/- Part of the proof. -/
import Derived.Test.YtbkhmmeecjnnkaaGreatDoorG06
set_option maxRecDepth 100000
set_option maxHeartbeats 16000000
namespace Go.Proofs.YtbkhmmeecjnnkaaGreatDoor
open Go.RowKit Go.Proofs.Tryz
open Option renaming none->Z,some->T
open Value renaming int->G,slice->Y,pointer->Z',string->Y',bool->O',agg->N'
open IntKind renaming i64->A
open Ending renaming returned->T'
open Obj renaming cells->R'
open List renaming length->L
open World renaming cell?->K',ownsRow->J'
open Go renaming World->I',Calls->F',maxLen->E'
open Go.Proofs.Tryz renaming prog->zy
open _root_ renaming Nat->M,Int->zw,rfl->Q,decide->zu
open Bool renaming true->zt,false->zr
open Or renaming inl->zo,inr->zn
open Go.RowKit renaming intOf->zm
variable {n0:Cc}{x1:C8}{o2:FZ}{B C R X v0:Nat}{u3:RS}{P:World}
theorem YP(F i l B U H sv m E R v a b7 X j K S u r s t I N P x y z w)
 (k:Se a b7 X m E)(hK:K<=150000)(b:Sf i l B U H sv m E R v a b7 X u.l j K F S w)(c7:u.e=6)(c4:u.l<L m)(hp:u.p.a∈(CP X u.l).y)(hq:u.q.a∈a):
 F' zy 125 #[Z' i,N'<|Dc u (Y r I x) (Y s N y)<|Y t P z,j] w λe n=>e=O' zr/\DJ i l B a X {S with c:=S.c.set (j+vx (CP X u.l).y u.p.a) ⟨1,vx a u.q.a⟩} n/\DU i B w n:=by
 have b1:=(CT Cb w).alloc<|R' (Dc u (Y r I x) (Y s N y)<|Y t P z) 114;have HO:=J b1;have o:=J<|W.new w (Dc u (Y r I x) (Y s N y)<|Y t P z) 114;have d3:=b.i.R;have d4:=b.i.pl;have c9:=b.ba;have⟨y1,y2⟩:=EF hq;have⟨z1,z2⟩:=EF hp;have d1:=k.h.xE;have d2:=k.h.yG;have a6:=J λ(d:I') (f:O Cb w d)=>KG i l B U H sv m E R v a X S u r s t I N P x y z j u.p d (b.r.t8 f) (b.p.t8 f) k.h c4 (by omega) hp;have b2:∀(d:I'),O Cb w d->F' zy 35 #[Z' l,u.q.a] d λe n=>e=((vx a u.q.a:M):zw)/\n=d:=λd f=> (Fy B l R v H sv m u.q.a d ((b.p.t8 f).r) ((b.p.t8 f).fn) k.h.xE).mono λe n h=>⟨by rw[h.1,k.h.wT,y2],h.2⟩
 have b8:=J b2;have a4:=λ(d:I') (f:O Cb w d)=>NH i l B U H sv m E R v a X S (j+vx (CP X u.l).y u.p.a) ⟨1,vx a u.q.a⟩ d (b.r.t8 f) (b.p.t8 f) k.h b.i.m (by omega) (zn<|zo ⟨Q,y1⟩) (by omega)<|by omega
 have b6:GT ⟨1,vx a u.q.a⟩= -((vx a u.q.a:M):zw)-1:=by simp[GT]
 rw[b6]at a4;have a8:=J a4;obtain⟨b9,c6⟩:∃C,W i C 58 w:=by have⟨_,_,_,_,q⟩:=b.r;exact⟨_,q.p⟩
 have c5:∃C,W i C 58 w/\C[0]? =Z' l:=by have⟨_,_,_,_,q⟩:=b.r;exact⟨_,q.p,Q⟩
 have⟨c8,b5,b4⟩:=c5;have a9:=J b5;have a7:=J b4;have⟨V,b3⟩:=Dv<|{S with c:=S.c.set (j+vx (CP X u.l).y u.p.a) ⟨1,vx a u.q.a⟩};rw[b3]at a8|-;generalize j+vx (CP X u.l).y u.p.a=zp at*;generalize vx a u.q.a=g at*;have d5:IntKind.i64.wrap (-(g:zw))= -(g:zw):=by rw[BI];omega
 have d6:IntKind.i64.wrap (-(g:zw)-1)= -(g:zw)-1:=by rw[BI];omega
 have b0:=o.o.z;have lb:=Cz o.o;clear b1 a4 b2 b k hp hq b3 b6 c6 b9 b5 b4 y2 z2;unfold Dc at*;rw[c7]at*;rw[show((6:M):zw)=6 from Q]at*;go_in;go_wp2_with fail;apply(a6.o _ HO.o).mono;rintro e w1 ⟨rfl,a5⟩;have p:=J<|HO.o.trans a5;have B1:=J<|W.j o.o a5 id;have a0:=J<|W.j a9.o p.o id;have r0:=a0.o.z 0;rw[a7.o]at r0;have lr:=Cz a0.o;have d0:=B1.o.z;have ld:=Cz B1.o;clear a5 a6 HO b0 lb o a9 a0 a7;go_wp2_with fail;go_region_law(first
  |(go_simp;go_at_call 35;refine FC (b8.o _ ?_) ?_;exact O.trans (X:=Cb) p.o oq;dsimp only)
  |(go_simp;go_at_call 78;refine(a8.o _ ?_).mono ?_;exact O.trans (X:=Cb) p.o oq;rintro e w9 ⟨rfl,v1,v2⟩;dsimp only))
 all_goals
  have V1:=J v1;have V2:=J<|(DU.wW<|O.trans (X:=Cb) p.o oq).trans v2;clear v1 v2;go_wp2_with fail;go_ret;exact⟨Q,V1.o,V2.o⟩
theorem Tw(F)(hL:JU F)(d I B U fv sv p fs p0 c0 o f1 X l K ca f S m u s V a2 a3 l1 l2 l3 N c2 c3 w)
 (hA:Py d I B U fv sv p fs p0 c0 o f1 X u.l l K S w)(p5:K+1<=150000)(hl:S.left<F)(g7:SC s u u.l)(R:s.e=7\/s.e=8)(hV:tJ o f1 (CP X u.l).y s)(hr:Fb B w (Y V l1 N) u.k)(l8:s.e=8->u.t9=ca+1/\ca<=4000)
 (hf:s.e=7->f=vx o s.sr.a/\m=S)
 (k2:s.e=8->(CM S.c.d<|l+vx (CP X u.l).y s.sr.a).v.e=1/\(CP X f).m=s.k/\f=(CM S.c.d<|l+vx (CP X u.l).y s.sr.a).v.c/\m={S with c:={S.c with xG:=if S.u<40 then(ca+1,f)::S.c.xG else S.c.xG}}):
 F' zy 160 #[Z' d,N'<|Dc u (Y V l1 N) (Y a2 l2 c2)<|Y a3 l3 c3,l] w λe w'=>e=(JK X (Da X o F) f (EJ S.c.d l<|s.k.map λt=>vx (CP X u.l).y t.a) (l+vx (CP X u.l).y s.tg.a) m).1/\DJ d I B o X (JK X (Da X o F) f (EJ S.c.d l<|s.k.map λt=>vx (CP X u.l).y t.a) (l+vx (CP X u.l).y s.tg.a) m).2 w'/\DU d B w w':=by
 cases CU hr;have k0:L u.k=L s.k:=by rw[g7.k,AG]
 obtain⟨CX,f8⟩:=Dv<|JK X (Da X o F) f (EJ S.c.d l<|s.k.map λt=>vx (CP X u.l).y t.a) (l+vx (CP X u.l).y s.tg.a) m;rw[f8];obtain⟨n5,d4,HL,a8,HV,HF,n7,o0⟩:=Pe f8 k0 hL g7 hV hf k2 l8;obtain⟨HA,o1,HK⟩:=Dq hA hr R;clear f8 k0 hL g7 hV hf k2 l8 hA hr R;go_in;unfold Dc;go_upto_if 15 with fail;go_cut[7] (λv wx=>v=G A f/\D (∃K1,Py d I B U fv sv p fs p0 c0 o f1 X u.l l K1 m wx)/\D (W (w:M) (Dc u (Y V (L u.k) N) (Y a2 l2 c2)<|Y a3 l3 c3) 114 wx)/\D (DU d B w wx)/\m.c.d=S.c.d/\f<L p/\L s.k<=L (CP X f).y/\m.left=S.left)
 .rcases HK.o with R|R
  .have m4:(w:M)≠d:=by obtain⟨_,_,_,_,q⟩:=HA.o.r;have:=Cz q.p;omega
   obtain⟨bk,g,c6⟩:=Dq (W.new w (Dc u (Y V (L u.k) N) (Y a2 l2 c2)<|Y a3 l3 c3) 114) (HA.o.t8<|(CT Cb w).alloc<|R' (Dc u (Y V (L u.k) N) (Y a2 l2 c2)<|Y a3 l3 c3) 114)<|(CT Cb w).alloc<|R' (Dc u (Y V (L u.k) N) (Y a2 l2 c2)<|Y a3 l3 c3) 114
   unfold Dc at bk g c6
   generalize w.alloc _=W1 at*
   obtain⟨b0,-,-,-,b4⟩:=bk.o.k5
   have lb:=Cz bk.o
   obtain⟨xa,xb,xc,xd,a9⟩:=g.o.r
   have r0:=a9.p.j0
   have lr:=Cz a9.p
   have d1:u.q.a=s.sr.a:=by rw[a8.o.q];rfl
   have r5:((u.e:zw)==8)=zt:=by rw[a8.o.e,R];rfl
   obtain⟨a7,H⟩:=HF.o R
   have c8:=HV.o.func<|zn R
   obtain⟨q1,q2⟩:=EF c8
   have k4:=g.o.st.h.wT
   have a5:f<L p:=by rw[a7];rw[g.o.st.h.yG]at q1;exact q1
   have q5:=HV.o.many R
   rw[g.o.st.x.yB _<|by rw[g.o.st.x.len];exact q1,<-a7]at q5
   have q9:=g.o.st.x.pm f
   have p4:=J λ(y:I') (P:O Cb W1 y)=>Fy B I p0 c0 fv sv p u.q.a y ((g.o.p.t8 P).r) ((g.o.p.t8 P).fn) g.o.st.h.xE
   have m6:D9 (p.map λf=>f.I.a) u.q.a 0=(f:zw):=by rw[k4,d1,q2,a7]
   have o6:=J m6
   have r:=J H
   clear m6 H a7 q1 q2 k4 c8 d1 a9
   go_wp2_with fail
   go_quiet((go_at_call 35;exact Calls.quiet_of_same<|(p4.o _ oq).mono λe w' h=>⟨by rw[h.1,o6.o],h.2⟩))
   go_wp2_with fail
   go_meet
   .have hd:=(CT Cb W1).drewN nq
    refine⟨Q,⟨K,by rw[r.o];exact g.o.t8 hd⟩,W.j bk.o hd id,(DU.wW c6.o).trans<|DU.wW hd,by rw[r.o],a5,by omega,by rw[r.o]⟩
  .have m4:(w:M)≠d:=by obtain⟨_,_,_,_,q⟩:=HA.o.r;have:=Cz q.p;omega
   obtain⟨bk,g,c6⟩:=Dq (W.new w (Dc u (Y V (L u.k) N) (Y a2 l2 c2)<|Y a3 l3 c3) 114) (HA.o.t8<|(CT Cb w).alloc<|R' (Dc u (Y V (L u.k) N) (Y a2 l2 c2)<|Y a3 l3 c3) 114)<|(CT Cb w).alloc<|R' (Dc u (Y V (L u.k) N) (Y a2 l2 c2)<|Y a3 l3 c3) 114
   unfold Dc at bk g c6
   generalize w.alloc _=W1 at*
   obtain⟨b0,-,-,-,b4⟩:=bk.o.k5
   have lb:=Cz bk.o
   obtain⟨xa,xb,xc,xd,a9⟩:=g.o.r
   have r0:=a9.p.j0
   have lr:=Cz a9.p
   have d1:u.q.a=s.sr.a:=by rw[a8.o.q];rfl
   have r5:((u.e:zw)==8)=zr:=by rw[a8.o.e,R];rfl
   obtain⟨g3,l6,a7,H⟩:=n7.o R
   obtain⟨l9,u4⟩:=o0.o R
   have c8:u.q.a∈(CP X u.l).y:=by rw[d1];exact HV.o.sr<|by omega
   obtain⟨q1,q2⟩:=EF c8
   have n3:l+vx (CP X u.l).y u.q.a<L S.c.d:=by have:=g.o.ba;omega
   rw[<-d1]at g3 a7
   have m8:=(g.o.m.at_ n3).2
   obtain⟨_,_,_,m7⟩:=ED m8
   obtain⟨hz,e8⟩:=m7 g3
   rw[<-a7]at hz e8
   have a5:f<L p:=by rw[g.o.st.h.yG]at e8;exact e8
   have d3:=g.o.st.wZ f a5
   have q9:=g.o.st.x.pm f
   have t6:=g.o.st.h.xE
   have d6:Jf d I B U fv sv p fs p0 c0 o X S W1:=⟨g.o.r,g.o.p,g.o.st.h,g.o.m,by have:=g.o.R;have:=g.o.k;omega,by have:=g.o.pl;have:=g.o.k;omega⟩
   obtain⟨gm,cm,r1,h5,h7,e0⟩:=d6.holds<|by omega
   have cq:=(e0 _ n3).1
   rw[hz]at cq
   have c5:=J λ(y:I') (P:O Cb W1 y)=>Py.at_ u (g.o.t8 P) V a2 a3 (L u.k) l2 l3 N c2 c3 u.q c8
   generalize l+vx (CP X u.l).y u.q.a=zq at*
   generalize g0:L S.c.d=ML at*
   obtain⟨z,e6⟩:=Dv (-(f:zw)-1:zw)
   rw[e6]at cq
   obtain⟨-,b1,b2,b3,-,b5,b6,b7,b8,b9,i7,i8,i9,j0,j1⟩:=bk.o.k15
   obtain⟨r,o5,i5,f6,f4⟩:=Ix H d3 l6 e6 l9
   clear l9
   clear H g3 a7 q1 q2 d1 m8 m7 hz d6 e0 c8 l6 d3 e6 a9 e8 g0
   go_wp2_with fail
   go_cut[8] (λv wx=>v=G A z/\D (O Cb W1 wx))
   .go_region_law(go_simp;go_at_call 159;refine(c5.o _ ?_).mono ?_;exact oq;rintro e w7 ⟨rfl,e4⟩;have o7:=J<|O.trans (X:=Cb) (a:=W1) oq e4;have n4:K' w7 ⟨d,1,Z⟩=T (Y (T ⟨gm,0,Z⟩) ML cm):=(Ae<|o7.o.block d h7 id).trans r1;have j2:K' w7 ⟨gm,zq*4+1,Z⟩=T (G A z):=(Ae<|o7.o.block gm h5 id).trans cq;clear e4;dsimp only)
    all_goals
     go_wp2_with fail;go_meet;exact⟨Q,o7⟩
   obtain⟨rfl,O2⟩:=hcut
   have n:=J<|g.o.t8 O2.o
   obtain⟨xa,xb,xc,xd,a4⟩:=n.o.r
   obtain⟨R0,-,-,-,-,R5,-,R7⟩:=a4.p.k8
   have RZ:=a4.p.wV 7
   have h6:=Cz a4.p
   have s3:=Cz n.o.p.r
   have P0:=n.o.p.r.p.j0
   obtain⟨cs,d2,r3⟩:=n.o.p.fn
   clear r3
   obtain⟨fa,fl,fc,k5⟩:=CA d2
   rw[k5]at d2 P0
   cases CU d2
   obtain⟨gf,rfl⟩:=CH d2<|by omega
   have s0:=(d2.lt gf Q).2
   have g2:=n.o.p.fn
   rw[k5]at g2
   obtain⟨tv,bv,vv,hc,m5,_⟩:=g2.get a5
   obtain⟨t1,t3,rfl⟩:=CB m5
   have f0:=hc 0<|by decide
   have f3:=hc 3<|by decide
   simp only[J5,Ac,Aa,Ab,Au]at f0 f3
   have l0:=n.o.st.h.I a5
   rw[l0]at f0
   have u0:=n.o.st.h.bq f
   have d5:=J<|W.j bk.o O2.o id
   have d8:=d5.o.j8
   have d9:=d5.o.j9
   have r9:=Cz d5.o
   have t8: -z=(f:zw)+1:=by have:=f6.o;omega
   have m9:zu (0<=z)=zr:=by have:=f6.o;simp;omega
   have n0:¬0<=z:=by have:=f6.o;omega
   have u5:IntKind.i64.wrap ((f:zw)+1)=(f:zw)+1:=by rw[BI];omega
   have u6:IntKind.i64.wrap (f:zw)=(f:zw):=by rw[BI];omega
   have t9:((L p[f].wZ:zw) !=(L u.k:zw))=zr:=by have e1:=o5.o;have e2:=i5.o;have e3:=d4.o;simp only[bne_eq_false_iff_eq];omega
   have e9:L s.k<=L (CP X f).y:=by have:=i5.o;omega
   obtain⟨c4,hD⟩:=Dv ((⟨(Lib.decDigits u.t9).toArray⟩:Cd):Cd)
   have s7:c4.size<=4002:=by rw[<-hD];have:=Ho u.t9;have e:=f4.o;simp only[ByteArray.size,BW];omega
   have j6:=J λ(y:I')=>Jx u.t9 (by have:=f4.o;omega) y
   rw[hD]at j6
   have p3:D<|(⟨#[33]⟩:Cd)++c4++⟨#[62]⟩++Lh o f=tM o (ca+1,f):=F7<|by rw[<-hD];simp[vT,f4.o]
   generalize p6:Lh o f=nm at*
   generalize p7:L p[f].wZ=TL at*
   have i6:=J a4
   obtain⟨sa,sc,rfl⟩:=CB a4.row
   have m3:=a4.sn.len
   have u3:=n.o.pl
   have t7:=n.o.k
   have o3:=J a4.row
   have s6:B<=(wc:M):=by have:=a4.lb;omega
   have s9:¬(9223372036854775807<1+c4.size):=by omega
   have t4:¬(9223372036854775807<1+c4.size+1):=by omega
   have t5:¬(9223372036854775807<1+c4.size+1+nm.size):=by omega
   clear a4 d2 hc m5 l0 hD g2 p6 p7
   by_cases h4:S.u<40
   .have p1:zu ((S.u:zw)<40)=zt:=by simp;omega
    have H:=r.o;rw[Bb h4]at H;have r:=J H;clear H;go_wp2_with fail;go_quiet(fail);go_wp2_with fail;have a0:O Cb wc<|wc.drewN nq:=(CT _ wc).drewN nq;have OQ:=J a0;refine Fu ?_;refine pL _ d (w:M) I gf f u.t9 (L p) fc B sa sc xd c4 nm (wc.drewN nq) ((Ae<|a0.block d h6 id).trans R0) ((Ae<|a0.block d h6 id).trans R7) ((Aj<|a0.block d h6 id).trans RZ) (by have:=a0.size;omega) ((Ae<|a0.block (w:M) r9 id).trans d9) ((Ae<|a0.block I s3 id).trans P0) ((Ae<|a0.block gf s0 id).trans f0) (by omega) j6.o (Cx o3.o a0 λ_ _ q=>q) (by omega) (by omega) (by omega) ?_;intro v8 w8 g5 e5;dsimp only;obtain⟨ya,yl,yc,rfl⟩:=CA g5;have o8:=J<|OQ.o.trans e5;clear a0;have g6:=g5;rw[p3.o]at g6;have g1:=i6.o.ao (S':={S with c:={S.c with xG:=(ca+1,f)::S.c.xG}}) o8.o (by simp;omega) g6 (i6.o.sn.entry (ca+1,f)) Q Q Q;have o4:=J g1.1;have f5:=J g1.2;clear g1 g6 g5 e5;go_wp2_with fail;go_meet
    .have q8:=DU.yH f5.o n.o.r n.o.p;have p9:=f5.o.p d5.o m4 (by decide);refine⟨by first|rfl|simp,⟨K+1,by rw[r.o];exact⟨n.o.st,⟨_,_,_,_,o4.o⟩,q8,n.o.m,by have:=n.o.R;simp only;omega,by simp only[Af];omega,n.o.gv,p5,n.o.yN,n.o.dp,n.o.V,n.o.lf,n.o.ba⟩⟩,p9,((DU.wW c6.o).trans<|DU.wW O2.o).trans f5.o,by rw[r.o],a5,e9,by rw[r.o]⟩
   .have p1:zu ((S.u:zw)<40)=zr:=by simp;omega
    have H:=r.o;rw[Ba h4]at H;have r:=J H;clear H;go_wp2_with fail;go_quiet(fail);go_wp2_with fail;go_meet
    .have hd:=(CT Cb wc).drewN nq;refine⟨by first|rfl|simp,⟨K,by rw[r.o];exact n.o.t8 hd⟩,W.j d5.o hd id,((DU.wW c6.o).trans<|DU.wW O2.o).trans<|DU.wW hd,by rw[r.o],a5,e9,by rw[r.o]⟩
 obtain⟨rfl,⟨K1,R1⟩,B1,F1,k9,a5,e9,k8⟩:=hcut;have R1:=J R1;obtain⟨i0,q3,m9,n0,r6⟩:=Bx Tryz.infoVal;obtain⟨C,f7⟩:=Dv<|EJ S.c.d l<|s.k.map λt=>vx (CP X u.l).y t.a;have k1:L C=L u.k:=by rw[<-f7,d4.o];simp[EJ]
 obtain⟨f2,a6,i4,i3⟩:=F8 f7 k1 k9 k8;obtain⟨s5,m0⟩:=DU.runs HA.o.r;have o2:=J (F1.o.row o1.o m0 (by decide)<|by decide);have p2:B<=(wc:M):=by obtain⟨_,_,_,_,q⟩:=R1.o.r;have:=q.lb;have:=Cz q.p;omega
 have q6:L u.k<=12:=by have:=R1.o.st.h.bi f;have:=d4.o;omega
 have v0:=Cz B1.o;have q0:l<=200000:=by have:=R1.o.R;have:=R1.o.ba;have:=R1.o.k;omega
 clear f7 k1 k9 k8 m0;unfold Dc at B1;go_wp2;go_loopw[9,10] (λav i wr=>∃k:M,k<=L u.k/\i=G A k/\D (J' wr (wc:M) 56 1 av k<|eU<|C.take k)/\D (O Cb wc wr)) (λ_ i _=>L u.k-(zm i).toNat);exact⟨0,by omega,Q,An _ _ _ _,CT _ _⟩;obtain⟨k,R,rfl,d0,ho⟩:=hrel;have b:=J<|R1.o.t8 ho.o;have B2:=J<|W.j B1.o ho.o id;have z2:=ho.o.size;by_cases c9:k<L u.k
 .have hT:=J<|Cx o2.o ho.o λ_ _ q=>q;obtain⟨ga,rfl⟩:=CH hT.o (by omega);obtain⟨t0,t1,t2⟩:=GR hT.o c9;have u8:=(hT.o.lt ga Q).2;have k7:k<L s.k:=by rw[<-d4.o];exact c9
  have d3:CI u.k k=CR s.k[k]:=by rw[a8.o.k];unfold CI;rw[AI,Ag k7];rfl
  have g9:(CI u.k k).a∈(CP X u.l).y:=by rw[d3];exact HV.o.k HK.o _<|Am _
  obtain⟨q1,q2⟩:=EF g9;have r2:l+vx (CP X u.l).y (CI u.k k).a<L m.c.d:=by have:=b.o.ba;omega
  have j4:C[k]'(by rw[a6.o];exact c9)=(CM m.c.d<|l+vx (CP X u.l).y (CI u.k k).a).v:=by cases f2.o;simp only[EJ,AT];rw[i4.o,d3];rfl
  have d6:Jf d I B U fv sv p fs p0 c0 o X m wr:=⟨b.o.r,b.o.p,b.o.st.h,b.o.m,by have:=b.o.R;have:=b.o.k;omega,by have:=b.o.pl;have:=b.o.k;omega⟩;obtain⟨gm,cm,r1,h5,h7,e0⟩:=d6.holds (by omega);have cq:=(e0 _ r2).1;rw[<-j4]at cq;have m3:D<|eU (C.take<|k+1)=eU (C.take k)++[G A<|GT<|C[k]'(by rw[a6.o];exact c9)]:=by show _=_;rw[AK<|by rw[a6.o];exact c9];unfold eU;rw[Bn];rfl
  have p8:=b.o.at_;have c5:=J λ(y:I') (P:O Cb wr y)=>Py.at_ u (b.o.t8 P) (T ⟨ga,0,Z⟩) a2 a3 (L u.k) l2 l3 N c2 c3 (CI u.k k) g9;generalize r7:l+vx (CP X u.l).y (CI u.k k).a=zq at*;generalize GT (C[k]'(by rw[a6.o];exact c9))=z at*;generalize g0:L m.c.d=ML at*;obtain⟨b0,b1,b2,b3,b4,b5,b6,b7,b8,b9,i7,i8,i9,j0,j1⟩:=B2.o.k15;have lb:=Cz B2.o;generalize CI u.k k=t at*;clear j4 q1 q2 d3 g9 d6 e0 k7 p8 r7 g0;go_wp2_with fail;go_region_law(first
   |(go_simp;go_at_call 159;refine(c5.o _ ?_).mono ?_;exact oq;rintro e w7 ⟨rfl,e4⟩;have o7:=J<|O.trans (X:=Cb) (a:=wr) oq e4;have n4:K' w7 ⟨d,1,Z⟩=T (Y (T ⟨gm,0,Z⟩) ML cm):=(Ae<|o7.o.block d h7 id).trans r1;have j2:K' w7 ⟨gm,zq*4+1,Z⟩=T (G A z):=(Ae<|o7.o.block gm h5 id).trans cq;clear e4;dsimp only)
   |(refine C7 Q _ _ 181 Q (wc:M) 56 i0 (G A 0) 1 8 underlying181 q3 m9 n0 r6 Q (by decide) _ _ _ Q ((Cx d0.o o7.o λ_ _ q=>q).alloc _) ⟨(w7:M),0,Z⟩ 1 1 [G A z] Q Q (C3 Q _ _) (λx hx=>by simp at hx;subst hx;rfl) (by decide) (by unfold E';omega) (by omega) (by have:=o7.o.size;simp;omega) ?_;intro v' w8 l4 k6 q7))
  all_goals
   have h8:=J<|O.xA (O.trans (X:=Cb) (ho.o.trans o7.o) oq) k6 λj hj=>zn (d0.o.lt j hj).1;have l5:=J l4;rw[<-m3.o]at l5;clear l4 k6 q7 n4 j2;go_wp2_with fail;go_roundw;exact⟨k+1,by omega,by go_num,l5,h8⟩;simp[intOf];omega
 .have e:k=L u.k:=by omega
  subst e;have k3:C.take (L u.k)=C:=by rw[<-a6.o,List.take_length]
  rw[k3]at d0;have b8:=B2.o.j8;have lb:=Cz B2.o;have g4:∀v,v∈C->E9 (L o) (L m.c.d) v:=by intro v hv;cases f2.o;unfold EJ at hv;rw[List.map_map]at hv;obtain⟨t,ht,rfl⟩:=AS.1 hv;have h1:=(EF<|HV.o.k HK.o t ht).1;have h2:=b.o.ba;have h3:=(b.o.m.at_ (i:=l+vx (CP X u.l).y t.a)<|by omega).2;rw[i4.o]at h3|-;exact h3
  have m1:=b.o.R;have m2:=b.o.pl;have q4:=b.o.k;obtain⟨E,hE⟩:=Dv<|Fe X (Da X o F) f C m;have j5:CX=if E.1=zr then(zt,E.2)else(zr,{E.2 with c:=E.2.c.set (l+vx (CP X u.l).y s.tg.a) E.2.xP,xP:=Hd}):=by rw[<-n5.o,f2.o];unfold JK;rw[hE]
  have j7:F' zy 40 #[Z'<|T ⟨d,0,Z⟩,G A f,u9] wr λe w'=>e=T' (O' E.1)/\DJ d I B o X E.2 w'/\DU d B wr w':=by
   by_cases j3:m.u=40
   .have e1:E=(zr,{m with s:=4}):=by rw[<-hE];unfold Fe;rw[Bb j3]
    rw[e1];exact WJ d I B o X f u9 m wr b.o.r (CA d0.o) j3
   .rw[<-hE];exact Rr F HL.o d I B U fv sv p fs p0 c0 o f1 X f C u9 K1 m wr b.o.st b.o.r b.o.p b.o.m (by omega) (by omega) q4 (by rw[i3.o];exact hl) b.o.yN (by have:=b.o.dp;omega) b.o.V a5 g4 (by rw[a6.o,d4.o];exact e9)<|by rw[a6.o];exact CN d0.o p2
  obtain⟨n6,h9,HE,n9⟩:=F8 j7 j5 hE g4;obtain⟨xa,xl,xc,rfl⟩:=CA d0.o;clear j7 j5 hE g4 k3;go_wp2_with fail;refine n6.o.mono ?_;rintro e w6 ⟨rfl,s1,s2⟩;cases f9:E.1 with
  |false=> have d7:=h9.o;rw[Bb f9]at d7;subst d7;have S1:=J s1;have S2:=J<|F1.o.trans<|(DU.wW ho.o).trans s2;clear s1 s2;go_wp2;go_ret;exact⟨Q,S1.o,S2.o⟩
  |true=>
   have d7:=h9.o;rw[Ba<|by rw[f9];decide]at d7;subst d7;have j8:=bX b.o.st.x (K:=K1) (F:=F) (f:=f) (args:=C) (S:=m) b.o.m (by omega) (by omega) (by rw[i3.o];exact hl) n9.o (by rw[a6.o];exact q6) (by rw[HE.o];exact f9);rw[HE.o]at j8;obtain⟨n1,n2⟩:=j8;have i1:=n1.R;have i2:=n1.pl;obtain⟨ya,yb,yc,yd,c7⟩:=s1;obtain⟨u1,u2⟩:=c7.wrote (S':={E.2 with xP:=Hd}) 8 (G A 0) Q c7.xS Q Q Q;have r8:=c7.p.j8;have v3:=c7.p.wV 8;have lr:=Cz c7.p;have e7:DU d B wr<|w6.setCell ⟨d,8,Z⟩<|G A 0:=s2.trans u2;have P6:=DU.yH e7 b.o.r b.o.p;have r4:(w:M)≠d:=by obtain⟨_,_,_,_,q⟩:=HA.o.r;have:=Cz q.p;omega
   have B6:=J (e7.p B2.o r4<|by decide);have g8:u.p.a∈(CP X u.l).y:=by rw[a8.o.p];exact HV.o.tg (by have:=HK.o;omega) (by have:=HK.o;omega)
   have l7:u.p.a=s.tg.a:=by rw[a8.o.p];rfl
   obtain⟨q1,q2⟩:=EF g8;have s8:=b.o.ba;obtain⟨c5,j9,n8⟩:=Dq (λ(y:I') (P:O Cb (w6.setCell ⟨d,8,Z⟩<|G A 0) y)=>KG d I B U fv sv p fs p0 c0 o X {E.2 with xP:=Hd} u V a2 a3 (L u.k) l2 l3 N c2 c3 l u.p y (DJ.t8 ⟨_,_,_,_,u1⟩ P) (P6.t8 P) b.o.st.h b.o.lf q0 g8) (λ(y:I') (P:O Cb (w6.setCell ⟨d,8,Z⟩<|G A 0) y)=>NH d I B U fv sv p fs p0 c0 o X {E.2 with xP:=Hd} (l+vx (CP X u.l).y u.p.a) E.2.xP y (DJ.t8 ⟨_,_,_,_,u1⟩ P) (P6.t8 P) b.o.st.h n1.m (by simp only;omega) n1.gv (by simp only;omega)<|by simp only;omega)<|F1.o.trans<|(DU.wW ho.o).trans e7;have h0:l+vx (CP X u.l).y s.tg.a=l+vx (CP X u.l).y u.p.a:=by rw[l7]
   generalize l+vx (CP X u.l).y u.p.a=zp at c5 j9 h0;have o9:=J h0;clear h0;generalize e6:GT E.2.xP=z at*;clear u1 u2 c7 s2 e7 P6 g8 l7 q1 q2 n1 n2 e6;obtain⟨b0,b1,b2,b3,b4,b5,b6,b7,s4,b9,i7,i8,i9,j0,j1⟩:=B6.o.k15;have u7:=Cz B6.o;go_wp2_with(first
    |(go_at_call 159;refine(c5.o _ ?_).mono ?_;exact oq;rintro e w8 ⟨rfl,e5⟩;have o8:=J<|O.trans (X:=Cb) (a:=w6.setCell ⟨d,8,Z⟩<|G A 0) oq e5;clear e5)
    |(go_at_call 78;refine(j9.o _ o8.o).mono ?_;rintro e w9 ⟨rfl,v1,v2⟩))
   have V1:=J v1;have V2:=J<|n8.o.trans<|(DU.wW o8.o).trans v2;clear v1 v2;go_wp2;go_ret;exact⟨Q,by rw[o9.o];exact V1.o,V2.o⟩
theorem MO(b x B:M)(s:Cc)(X:FZ)(r:M)(u:FS)(d f g:Ch)(k l m h i j:M)(w:I')(V:Bool×RS)(a:u.e=8\/u.e=9)
 (v:∀p,O Cb w p->F' zy 160 #[Z' b,N'<|Dc u (Y d k h) (Y f l i)<|Y g m j,r] p λe c=>e=V.1/\DJ b x B s X V.2 c/\DU b B p c):
 F' zy 125 #[Z' b,N'<|Dc u (Y d k h) (Y f l i)<|Y g m j,r] w λe c=>e=V.1/\DJ b x B s X V.2 c/\DU b B w c:=by
 have t:=(CT Cb w).alloc<|R' (Dc u (Y d k h) (Y f l i)<|Y g m j) 114;obtain⟨o,n,q⟩:=Dq t (W.new w (Dc u (Y d k h) (Y f l i)<|Y g m j) 114) v;have I:=n.o.z;have S:=Cz n.o;clear t v n;unfold Dc at*;have K:=Ka u.e 1 (by omega);have N:=Ka u.e 11 (by omega);have P:=Ka u.e 12 (by omega);have R:=Ka u.e 13 (by omega);rcases a with a|a
 have F:((u.e:zw)==8)=zt:=by rw[a];rfl
 have H:((u.e:zw)==9)=zr:=by rw[a];rfl
 rotate_left;have F:((u.e:zw)==8)=zr:=by rw[a];rfl
 have H:((u.e:zw)==9)=zt:=by rw[a];rfl
 all_goals
  clear a;go_in;go_wp2_with fail;apply(q.o _ o.o).mono;rintro e U ⟨rfl,y,z⟩;have C:=J y;have E:=J<|(DU.wW o.o).trans z;clear y z q o;go_wp2;go_ret;exact⟨Q,C.o,E.o⟩
theorem YF(c I B U fv sv t fs p0 c0 o d4 X d K S u s i j k p r l m n w)
 (hA:Py c I B U fv sv t fs p0 c0 o d4 X u.l d K S w)(F:SC s u u.l)(hk:s.e=8)(hV:tJ o d4 (CP X u.l).y s)
 (hn:¬((CM S.c.d<|d+vx (CP X u.l).y s.sr.a).v.e=1/\(CP X (CM S.c.d<|d+vx (CP X u.l).y s.sr.a).v.c).m=s.k)):
 F' zy 160 #[Z' c,N'<|Dc u (Y i u.k l) (Y j p m)<|Y k r n,d] w λe w'=>e=O' zt/\DJ c I B o X {S with s:=3} w'/\DU c B w w':=by
 have d5:D<|L u.k=s.k:=by rw[F.k,AG];exact Q
 obtain⟨bk,b,d9⟩:=Dq (W.new w (Dc u (Y i u.k l) (Y j p m)<|Y k r n) 114) (hA.t8<|(CT Cb w).alloc<|R' (Dc u (Y i u.k l) (Y j p m)<|Y k r n) 114)<|(CT Cb w).alloc<|R' (Dc u (Y i u.k l) (Y j p m)<|Y k r n) 114;have a6:u.q.a=s.sr.a:=by rw[F.q];rfl
 have f9:((u.e:zw)==8)=zr:=by rw[F.e,hk];rfl
 have a5:u.q.a∈(CP X u.l).y:=by rw[a6];exact hV.sr<|by omega
 rw[<-a6]at hn;clear hA F hk hV a6;go_in;unfold Dc at*;go_upto_if 15 with fail;generalize w.alloc _=y at*;have⟨b0,b1,b2,b3,b4,b5,b6,b7,b8,b9,e9,f0,f1,f2,f4⟩:=bk.o.k15;have lb:=Cz bk.o;have⟨q1,q2⟩:=EF a5;have d3:d+vx (CP X u.l).y u.q.a<S.c.d:=by have:=b.o.ba;omega
 have d2:=(b.o.m.at_ d3).2;have⟨_,_,a7,a8⟩:=ED d2;have c5:Jf c I B U fv sv t fs p0 c0 o X S y:=⟨b.o.r,b.o.p,b.o.st.h,b.o.m,by have:=b.o.R;have:=b.o.k;omega,by have:=b.o.pl;have:=b.o.k;omega⟩;have⟨gm,cm,r1,e6,e7,c7⟩:=c5.holds (by omega);have cq:=(c7 _ d3).1;have c6:=J λ(x:I') (hW:O Cb y x)=>Py.at_ u (b.o.t8 hW) i j k u.k p r l m n u.q a5;generalize d+vx (CP X u.l).y u.q.a=N at*;have d7:L S.c.d=S.c.d:=Q;generalize L S.c.d=ML at*;have⟨z,a9⟩:=Dv (GT (CM S.c.d N).v:zw);rw[a9]at cq a7 a8;obtain⟨R,V,P,e8⟩:=F8 a7 a8 hn a9;clear a7 a8 hn a9 d2 c5 c7 a5 q1 q2 d7;unfold Dc at c6;go_wp2_with fail;go_cut[8] (λv wx=>v=G A z/\D (O Cb y wx))
 .go_region_law(go_simp;go_at_call 159;refine(c6.o _ ?_).mono ?_;exact oq;rintro e w7 ⟨rfl,d0⟩;have o7:=J<|O.trans (X:=Cb) (a:=y) oq d0;have g7:w7 (c,1)=Y gm ML cm:=(Ae<|o7.o.block c e7 id).trans r1;have f5:w7 (gm,N*4+1)=z:=(Ae<|o7.o.block gm e6 id).trans cq;clear d0;dsimp only);all_goals
   go_wp2_with fail;go_meet;exact⟨Q,o7⟩
 obtain⟨rfl,O2⟩:=hcut;have g:=J<|b.o.t8 O2.o;have d6:=J λ(x:I') (hW:O Cb wc x)=>Hu c I B o X S x (g.o.t8 hW).r;by_cases E:(CM S.c.d N).v.e=1;have⟨H,C⟩:=V.o E;have⟨f,hf⟩:=Dv<|(CM S.c.d N).v.c;rw[hf]at H C;have c8:f<t:=by rw[b.o.st.h.yG]at C;exact C
 have e4:=b.o.st.wZ f c8;have f6:=b.o.st.h.xE;have e1:(CP X f).m≠s.k:=λq=>P.o ⟨E,by rw[hf];exact q⟩
 have⟨xa,xb,xc,xd,a0⟩:=g.o.r;have R0:=a0.p.j0;have g6:=Cz a0.p;have g5:=Cz g.o.p.r;have P0:=g.o.p.r.p.j0;have⟨cs,h,e2⟩:=g.o.p.fn;clear e2;have⟨fa,fl,fc,c9⟩:=CA h;rw[c9]at h P0;cases CU h;obtain⟨gf,rfl⟩:=CH h (by omega);have g4:=(h.lt gf Q).2;have a4:=g.o.p.fn;rw[c9]at a4;have⟨tv,bv,vv,hc,d1,_⟩:=a4.get c8;obtain⟨t1,t3,rfl⟩:=CB d1;have f3:=hc 3 (by decide);simp only[J5,Ac,Aa,Ab]at f3;have c4:=J<|W.j bk.o O2.o id;have d8:=c4.o.j8;have g3:=Cz c4.o;have f7: -z=(f:zw)+1:=by omega
 have e5:zu (0<=z)=zr:=by simp;omega
 have g2:¬0<=z:=by omega
 have g0:IntKind.i64.wrap ((f:zw)+1)=(f:zw)+1:=by rw[BI];omega
 have g1:IntKind.i64.wrap (f:zw)=(f:zw):=by rw[BI];omega
 have f8:((L t[f].wZ:zw) !=(L u.k:zw))=zt:=by have e3:=d5.o;simp only[bne_iff_ne,ne_eq];omega
 generalize e0:L t[f].wZ=TL at*;clear a0 h hc d1 a4 e0 H C e4 e1 V P R E hf;rotate_left;have H:=R.o.2 E;have e5:zu (0<=z)=zt:=by simp;exact H
 clear V P R;all_goals
  go_wp2_with fail;go_quiet(fail);go_wp2_with fail;refine(d6.o _ oq).mono ?_;rintro e w9 ⟨rfl,v1,v2⟩;have V1:=J v1;have V2:=J<|((DU.wW d9.o).trans<|DU.wW<|O2.o.trans oq).trans v2;clear v1 v2;go_wp2_with fail;go_ret;exact⟨Q,V1.o,V2.o⟩
theorem eK{b:M->M->Dj->M->M->RS->Bool×RS}{v a}(d:v.e≠0)(h:v.e≠7)(i:v.e≠8)(e:v.e≠10)(f:v.e≠11)(g:v.e≠12):
 Ec o2 n0 b B C R (.mk v a) X v0 u3=match KP v.e (R+vx (CP o2 C).y v.tg.a) (R+vx (CP o2 C).y v.sr.a) v.wU (X+1) (vx n0 v.sr.a) u3.c with
  |some c=>(zr,{u3 with c:=c})
  |none=>(zt,{u3 with s:=3}):=by
 grind[Ec]
theorem WS(F)(hL:JU F)(g j B U H N z C I E d a6 X f K pl ca s S u k m n y v x l o r w)
 (hS:Se d a6 X z C)(hK:K<=150000)(R:Sf g j B U H N z C I E d a6 X u.l f K F S w)(d2:S.c.d+20*S.left+20<=K)(d3:L S.c.x+S.c.xG+20*S.left+20<=K)
 (b0:u.l<L z)(d1:s.e<=10)(hV:tJ d a6 (CP X u.l).y s)(b8:s.e=1->pl+1<=4000)(b9:s.e=8->ca+1<=4000)(a9:SC s u u.l)(c5:s.e=1->u.t9=pl+1)(b5:s.e=8->u.t9=ca+1)(hr:Fb B w (Y k y l) u.k):
 F' zy 125 #[Z' g,N'<|Dc u (Y k y l) (Y m v o)<|Y n x r,f] w λe w'=>e=(Ec X d (Da X d F) F u.l f (.mk s []) pl ca S).1/\DJ g j B d X (Ec X d (Da X d F) F u.l f (.mk s []) pl ca S).2 w'/\DU g B w w':=by
 have b4:u.p.a=s.tg.a:=by rw[a9.p];rfl
 have b1:u.q.a=s.sr.a:=by rw[a9.q];rfl
 have a0:=a9.e;have c9:=R.ba;have c4:s.e≠0->s.e≠10->u.p.a∈(CP X u.l).y:=λa b=>by rw[b4];exact hV.tg a b
 have c7:s.e=2\/s.e=3\/s.e=5\/s.e=6\/s.e=8\/s.e=9\/s.e=10->u.q.a∈(CP X u.l).y:=λa=>by rw[b1];exact hV.sr a
 have c6:s.e≠0->s.e≠10->f+vx (CP X u.l).y s.tg.a<S.c.d:=λa b=>by have:=(EF<|hV.tg a b).1;omega
 have c8:s.e=2\/s.e=3\/s.e=5\/s.e=6\/s.e=8\/s.e=9\/s.e=10->f+vx (CP X u.l).y s.sr.a<S.c.d:=λa=>by have:=(EF<|hV.sr a).1;omega
 have b3:∀i,O Cb w i->Py g j B U H N z C I E d a6 X u.l f (K-4) S i:=λi ho=>⟨hS,R.r.t8 ho,R.p.t8 ho,R.i.m,by omega,by omega,R.i.gv,by omega,R.yN,R.dp,R.V,b0,R.ba⟩
 have b7:=CU hr;have a4:∀V:Bool×RS,Ec X d (Da X d F) F u.l f (.mk s []) pl ca S=V->F' zy 125 #[Z' g,N'<|Dc u (Y k y l) (Y m v o)<|Y n x r,f] w (λe w'=>e=V.1/\DJ g j B d X V.2 w'/\DU g B w w')->F' zy 125 #[Z' g,N'<|Dc u (Y k y l) (Y m v o)<|Y n x r,f] w (λe w'=>e=(Ec X d (Da X d F) F u.l f (.mk s []) pl ca S).1/\DJ g j B d X (Ec X d (Da X d F) F u.l f (.mk s []) pl ca S).2 w'/\DU g B w w'):=λV e h=>by grind
 by_cases h0:s.e=0;exact YO F g j B U H N z C I E d a6 X u.l f K pl ca s [] S u k m n y v x l o r w R h0 (by rw[a0,h0];rfl);by_cases b2:s.e=10;exact UA F g j B U H N z C I E d a6 X f K pl ca s [] S u k m n y v x l o r w hS hK R b2 (by rw[a0,b2];rfl) b0 b1 (hV.sr<|by omega);have hp:=c4 h0 b2;have a7:=c6 h0 b2;by_cases h7:s.e=7;refine a4 (JK X (Da X d F) (vx d s.sr.a) (EJ S.c.d f<|s.k.map λt=>vx (CP X u.l).y t.a) (f+vx (CP X u.l).y s.tg.a) S) ?_ ?_;grind[Ec];exact MO g j B d X f u k m n y v x l o r w _ (zo<|by rw[a0,h7];rfl) (λi ho=>Tw F hL g j B U H N z C I E d a6 X f (K-4) ca _ S S u s k m n y v x l o r i (b3 i ho) (by omega) R.l a9 (zo h7) hV (Cx hr ho Ed) (λh=>by omega) (λ_=>⟨Q,Q⟩) λh=>by omega);by_cases h8:s.e=8;have b6:=b5 h8;have d4:=b9 h8;by_cases hh:(CM S.c.d<|f+vx (CP X u.l).y s.sr.a).v.e=1/\(CP X (CM S.c.d<|f+vx (CP X u.l).y s.sr.a).v.c).m=s.k;refine a4 (JK X (Da X d F) (CM S.c.d<|f+vx (CP X u.l).y s.sr.a).v.c (EJ S.c.d f<|s.k.map λt=>vx (CP X u.l).y t.a) (f+vx (CP X u.l).y s.tg.a) {S with c:={S.c with xG:=if S.u<40 then(ca+1,(CM S.c.d<|f+vx (CP X u.l).y s.sr.a).v.c)::S.c.xG else S.c.xG}}) ?_ ?_;grind[Ec];exact MO g j B d X f u k m n y v x l o r w _ (zn<|by rw[a0,h8];rfl) λi ho=>Tw F hL g j B U H N z C I E d a6 X f (K-4) ca _ S _ u s k m n y v x l o r i (b3 i ho) (by omega) R.l a9 (zn h8) hV (Cx hr ho Ed) (λ_=>⟨b6,by omega⟩) (λh=>by omega) λ_=>⟨hh.1,hh.2,Q,Q⟩;refine a4 (zt,{S with s:=3}) ?_ ?_;grind[Ec];subst b7;exact MO g j B d X f u k m n _ v x l o r w _ (zn<|by rw[a0,h8];rfl) λi ho=>YF g j B U H N z C I E d a6 X f (K-4) S u s k m n v x l o r i (b3 i ho) a9 h8 hV hh;have a5:∀V:Bool×RS,(match KP s.e (f+vx (CP X u.l).y s.tg.a) (f+vx (CP X u.l).y s.sr.a) s.wU (pl+1) (vx d s.sr.a) S.c with
  |some c=>(zr,{S with c:=c})
  |none=>(zt,{S with s:=3}))=V->Ec X d (Da X d F) F u.l f (.mk s []) pl ca S=V:=λV e=>by grind[eK]
 by_cases h1:s.e=1;have e1:=c5 h1;have e2:=b8 h1;refine a4 (zr,{S with c:=(S.c.xK u.t9).set (f+vx (CP X u.l).y u.p.a) ⟨2,S.c.d⟩}) (a5 _ ?_) ?_;grind[KP];exact dU F g j B U H N z C I E d a6 X f K S u k m n y v x l o r w hS hK R (by rw[a0,h1];rfl) b0 hp (by omega);by_cases h4:s.e=4;refine a4 (zr,{S with c:=S.c.set (f+vx (CP X u.l).y u.p.a) ⟨1,vx d u.q.a⟩}) (a5 _ ?_) ?_;grind[KP];exact YP F g j B U H N z C I E d a6 X f K S u k m n y v x l o r w hS hK R (by rw[a0,h4];rfl) b0 hp (by rw[b1];exact hV.func<|zo h4);have hq:=c7 (by omega);have a8:=c8 (by omega);rw[<-b4]at a7;rw[<-b1]at a8;rw[<-b4,<-b1]at a5;have hT:∀V:Bool×RS,(∀i,Jf g j B U H N z C I E d X S i->F' zy 161 #[Z' g,N'<|Dc u (Y k y l) (Y m v o)<|Y n x r,((f+vx (CP X u.l).y u.p.a:M):zw),((f+vx (CP X u.l).y u.q.a:M):zw)] i λe w'=>e=V.1/\DJ g j B d X V.2 w'/\DU g B i w')->F' zy 125 #[Z' g,N'<|Dc u (Y k y l) (Y m v o)<|Y n x r,f] w (λe w'=>e=V.1/\DJ g j B d X V.2 w'/\DU g B w w'):=λV h=> dV F g j B U H N z C I E d a6 X f K S u k m n y v x l o r w V hS hK R (by grind[FK]) b0 hp hq h
 generalize f+vx (CP X u.l).y u.p.a=p at*;generalize f+vx (CP X u.l).y u.q.a=q at*;by_cases h2:s.e=2;refine a4 (zr,{S with c:=S.c.set p ⟨2,q⟩}) (a5 _ ?_) (hT _ λi P=>dX g j B U H N z C I E d X S u k m n y v x l o r _ _ i P a7 a8<|by rw[a0,h2];rfl);grind[KP];by_cases h3:s.e=3;have hf:=a9.wU h3;have d0:=hV.wU h3;by_cases g1:(CM S.c.d q).v.e=2;by_cases g2:(CM S.c.d (CM S.c.d q).v.c).nm.e=1/\(CM S.c.d (CM S.c.d q).v.c).nm.F=0;refine a4 (zr,{S with c:=S.c.set p ⟨2,(CM S.c.d q).v.c+u.wU⟩}) (a5 _ ?_) (hT _ λi P=>YQ g j B U H N z C I E d X S u k m n y v x l o r _ _ i P a7 a8 (by rw[a0,h3];rfl) g1 g2<|by omega);grind[KP];refine a4 (zt,{S with s:=3}) (a5 _ ?_)<|hT _ λi P=>WX g j B U H N z C I E d X S u k m n y v x l o r _ _ i P a7 a8 (by rw[a0,h3];rfl) g1 g2;grind[KP];refine a4 (zt,{S with s:=3}) (a5 _ ?_)<|hT _ λi P=>WW g j B U H N z C I E d X S u k m n y v x l o r _ _ i P a7 a8 (by rw[a0,h3];rfl) g1;grind[KP];by_cases h5:s.e=5;by_cases g1:(CM S.c.d q).v.e=2;refine a4 (zr,{S with c:=S.c.set p (CM S.c.d (CM S.c.d q).v.c).v}) (a5 _ ?_)<|hT _ λi P=>dY g j B U H N z C I E d X S u k m n y v x l o r _ _ i P a7 a8 (by rw[a0,h5];rfl) g1;grind[KP];refine a4 (zt,{S with s:=3}) (a5 _ ?_)<|hT _ λi P=>YR g j B U H N z C I E d X S u k m n y v x l o r _ _ i P a7 a8 (by rw[a0,h5];rfl) g1;grind[KP];by_cases h6:s.e=6;refine a4 (zr,{S with c:=S.c.set p (CM S.c.d q).v}) (a5 _ ?_) (hT _ λi P=>dZ g j B U H N z C I E d X S u k m n y v x l o r _ _ i P a7 a8<|by rw[a0,h6];rfl);grind[KP];have h9:s.e=9:=by omega
 by_cases g1:(CM S.c.d p).v.e=2;refine a4 (zr,{S with c:=S.c.set (CM S.c.d p).v.c (CM S.c.d q).v}) (a5 _ ?_)<|hT _ λi P=>YS g j B U H N z C I E d X S u k m n y v x l o r _ _ i P a7 a8 (by rw[a0,h9];rfl) g1;grind[KP];refine a4 (zt,{S with s:=3}) (a5 _ ?_)<|hT _ λi P=>WY g j B U H N z C I E d X S u k m n y v x l o r _ _ i P a7 a8 (by rw[a0,h9];rfl) g1;grind[KP]
theorem dT(F)(hL:JU F)(m R B U fv sv r j p0 c0 a p X b f K l g i t S u v x y I N P z C E w)
 (hS:Se a p X r j)(hK:K<=150000)(hW:Sf m R B U fv sv r j p0 c0 a p X b f K F S w)(b4:S.c.d+20*S.left+20<=K)(b5:L S.c.x+S.c.xG+20*S.left+20<=K)
 (a5:b<r)(d:uD a p (CP X b).y t)(n:l+nK 1 t<=4000)(o:g+nK 8 t<=4000)(c:FN j b t i l g)(hu:j[i]? =T u)(hr:Fb B w (Y v I z) u.k)(hI:CY B w (Y x N C) u.body)(a6:CY B w (Y y P E) u.other)(H:IL t<=4001):
 F' zy 125 #[Z'<|T ⟨m,0,Z⟩,N'<|Dc u (Y v I z) (Y x N C)<|Y y P E,f] w λe w'=>e=(Ec X a (Da X a F) F b f t l g S).1/\DJ m R B a X (Ec X a (Da X a F) F b f t l g S).2 w'/\DU m B w w':=by
 match t,d,c,n,o,H with
 |.mk s [],d,c,n,o,H=> have⟨u',k,a8,b7,b1⟩:=c;rw[hu]at k;obtain rfl:=Bo k;cases a8.l;simp only[nK,nB,Au]at n o;exact WS F hL m R B U fv sv r j p0 c0 a p X f K l g s S u v x y I N P z C E w hS hK hW b4 b5 a5 d.1 d.2 (λh=>by grind) (λh=>by grind) a8 b7 b1 hr
 |.mk s [(q,V)],d,c,n,o,H=>
  have⟨u',k,b2,b3,b6,a4⟩:=c;rw[hu]at k;obtain rfl:=Bo k;simp only[nK,nB,Au]at n o;simp only[IL,Ss,Au]at H;have a7:=d.2;rcases b3 with⟨hk,a0⟩|⟨hk,a0⟩
  exact WT F hL m R B U fv sv r j p0 c0 a p X b f K l g q s V S u v x y I N P z C E w hS hK hW hk a0 a5 a7 (by omega) (by omega) a4 hI (by omega);exact WR F hL m R B U fv sv r j p0 c0 a p X b f K l g s [(q,V)] V [] S u v x y I N P z C E w hS hK hW hk a0 a5 Q Q a7 trivial (by grind[nL]) (by grind[nL]) a4 b6 hI a6 (by omega)<|by simp[FG]
 |.mk s [(q,V),(q2,a9)],d,c,n,o,H=> have⟨u',k,b2,hk,a0,a4,b0⟩:=c;rw[hu]at k;obtain rfl:=Bo k;simp only[nK,nB,Au]at n o;simp only[IL,Ss,Au]at H;exact WR F hL m R B U fv sv r j p0 c0 a p X b f K l g s [(q,V),(q2,a9)] V a9 S u v x y I N P z C E w hS hK hW hk a0 a5 Q Q d.2.1 d.2.2 (by omega) (by omega) a4 b0 hI a6 (by omega)<|by omega
 |.mk _ (_::_::_::_),_,c,_,_,_=>exact c.elim
theorem TO.len:∀{a:Dj} {l:Cf} {c b:M},TO x1 B a l c b->L l=a
 |[],l,_,_,h=>by have e:l=[]:=h;grind
 |t::a,l,c,b,h=>by obtain⟨j,f,e,_,d⟩:=h;rw[e,Af,Af,d.len]
theorem ZS:∀a:Dj,a<=FG a
 |[]=>Ar _
 |.mk v b::a=>by have:=ZS a;grind[FG,IL]
theorem pS(h:DJ B C R n0 o2 u3 P):P (B,6)=u3.s/\B<P:=by have⟨_,_,_,_,h⟩:=h;have a:=h.p.j6;exact⟨a,Cz h.p⟩
structure vP(fs:C8)(fn:Cc)(par:Cf)(vs:Cc)(fi:M)(tr:Dj)(lr:Cf)(pl ca:M):Prop where
 n:TO fs fi tr lr pl ca
 u:Vc fn par vs tr
 p1:pl+nL 1 tr<=4000
 p2:ca+nL 8 tr<=4000
 z:FG tr<=4001
theorem dR(F)(d0:∀s,s<F->JU s):JU F:=by
 intro P pb B U fv sv rf g p0 c0 d I X c o ts l lv pl ca K S w hS hR hP hI hK hl b3 a6 d5 f9 a0 hU d8 d9 hN b2 hz;have⟨V,hV⟩:=Dv<|Da X d F c o ts pl ca S;rw[hV];obtain⟨la,lc,rfl⟩:=CB b2;have h1:L l<=4001:=by have:=ZS ts;rw[hN.len];omega
 obtain⟨f1,HS,HV,HR,HP,f4⟩:=QS d0 hS hV hR hP b2;have b8:D<|Sf P pb B U fv sv rf g p0 c0 d I X c o K F S w:=⟨hR,hP,hI,hl,b3,a6,d5,a0⟩;have b5:D<|vP g d I (CP X c).y c ts l pl ca:=⟨hN,hU,d8,d9,hz⟩;have g6:=hS.bp;clear d0 hS hV hR hP b2 hI hl b3 a6 d5 a0 hN hU d8 d9 hz;go_in;go_wp2;go_loopw[7] (λi wr=>∃(k s:M) (a:RS) (z:Dj) (N C:M),k<=l/\s<=F/\i=G A k/\D (Sf P pb B U fv sv rf g p0 c0 d I X c o K s a wr)/\D (vP g d I (CP X c).y c z (l.drop k) N C)/\D (DU P B w wr)/\D (Da X d s c o z N C a=V)) (λi _=>l-(zm i).toNat);exact⟨0,F,S,ts,pl,ca,by omega,by omega,Q,b8,b5,DU.refl _ _ _,HV⟩;clear b8 b5 HV;obtain⟨k,s,a,z,N,C,hk,hG,rfl,m,HL,HF,HV⟩:=hrel;obtain⟨n,rfl⟩:∃n,s=n+1:=⟨s-1,by have:=m.o.l;omega⟩;by_cases d7:k<l
 .have d4:=Ap d7;have E:=HL.o;rw[d4]at E;cases z with
  |nil=> have e:l[k]::l.drop (k+1)=[]:=E.n;cases e
  |cons t z=>
   have⟨j,l',e,c8,c7⟩:=E.n;obtain⟨rfl,rfl⟩:=List.cons.inj e;have⟨d3,d2⟩:=E.u;have q1:=E.p1;have q2:=E.p2;have q3:=E.z;simp only[nL,FG]at q1 q2 q3;have f2:D<|vP g d I (CP X c).y c z (l.drop<|k+1) (N+nK 1 t)<|C+nK 8 t:=⟨c7,d2,by omega,by omega,by omega⟩;have b:=HV.o;rw[Da]at b;simp only at b;have b4:=J c8;have b6:=J d3;clear E c7 d2 c8 d3 HL HV d4 e;have b3:=m.o.yN;have a6:=m.o.dp;have g9:=m.o.l;have a0:=m.o.ba;have g8:(k:zw)<(L l:zw):=by omega
   go_wp2_with fail;refine(WM P pb B d X a wr m.o.r (by omega)<|by omega).mono ?_;rintro e w1 ⟨rfl,p,R⟩;have a9:=J<|HF.o.trans R;by_cases h0:a.left=0
   .rw[Bb h0]at b p;subst b;have hd:zu (a.left≠0)=zr:=by simp[h0]
    rw[hd];have R1:=J p;clear p R h0 hd;go_wp2;go_ret;exact⟨Q,R1.o,a9.o⟩
   .rw[Ba h0]at b p;have hd:zu (a.left≠0)=zt:=by simp[h0]
    rw[hd];have x:=J<|DU.yH R m.o.r m.o.p;have o1:a.one.left=a.left-1:=Q;have o2:a.one.f=a.f+1:=Q;have i0:=m.o.i;have i1:=i0.R;have i2:=i0.pl;have m1:a.one.c.d+20*a.one.left+20<=K:=by rw[o1];show a.c.d+_+20<=K;omega
    have m2:L a.one.c.x+a.one.c.xG+20*a.one.left+20<=K:=by rw[o1];show L a.c.x+a.c.xG+_+20<=K;omega
    have c9:TV K (L d) a.one:=⟨i0.m,by omega,by omega,i0.gv⟩;have y:Sf P pb B U fv sv rf g p0 c0 d I X c o K n a.one w1:=⟨p,x.o,c9,by rw[o1];omega,by rw[o1,o2];omega,a6,m.o.V,a0⟩;obtain⟨u,hu⟩:∃u,g[l[k]]? =T u:=by
     have h:=b4.o;have⟨v,bl⟩:=t;match bl,h with
     |[],h=>exact⟨_,h.choose_spec.1⟩
     |[_],h=>exact⟨_,h.choose_spec.1⟩
     |[_,_],h=>exact⟨_,h.choose_spec.1⟩
     |_::_::_::_,h=>exact h.elim
    have hj:l[k]<g:=by
     rcases AV l[k] g with q|q
     exact q;rw[AF q]at hu;cases hu
    have d6:g[l[k]]=u:=by rw[Ag hj]at hu;simpa using hu
    have a2:=a9.o.an HR.o f4.o (by decide) (by decide);obtain⟨gl,rfl⟩:=CH a2 (by omega);have b1:=a2.cellAt k (by omega);rw[AI,Ag d7]at b1;simp only[BA]at b1;have g3:=(a2.lt gl Q).2;obtain⟨sa,sl,sc,g2⟩:∃sa sl sc,sv=Y sa sl sc:=by have⟨_,h,_⟩:=x.o.st;exact CA h
    subst g2;have g1:sl=g:=by have⟨_,h,_⟩:=x.o.st;exact CU h
    subst g1;obtain⟨gs,rfl⟩:∃gs,sa=T ⟨gs,0,Z⟩:=by obtain⟨_,h,_⟩:=x.o.st;exact CH h<|by omega
    have g4:gs<(w1:M):=by obtain⟨_,h,_⟩:=x.o.st;exact(h.lt gs Q).2
    have⟨av,bv,ov,f,a4,a5,a7⟩:=x.o.st.get hj;rw[d6]at f a4 a5 a7;obtain⟨aa,al,ac,rfl⟩:=CA a4;obtain⟨ba,f7,bc,rfl⟩:=CA a5;obtain⟨oa,ol,oc,rfl⟩:=CA a7;have hC:=λ(b9:I') (ho:O Cb w1 b9)=>dT n (f1.o n<|by omega) P pb B U fv _ rf g p0 c0 d I X c o K N C l[k] t a.one u aa ba oa al f7 ol ac bc oc b9 HS.o hK ⟨y.r.t8 ho,y.p.t8 ho,y.i,y.l,y.yN,y.dp,y.V,y.ba⟩ m1 m2 f9 b6.o (by omega) (by omega) b4.o hu (Cx a4 ho λ_ _ q=>q) (Cx a5 ho λ_ _ q=>q) (Cx a7 ho λ_ _ q=>q)<|by omega
    have c6:=VR HS.o.x (Nh HS.o.x n) (K:=K) (fi:=c) (base:=o) (pl:=N) (ca:=C) (t:=t) (S:=a.one) i0.m m1 m2 i0.gv (by rw[o1];omega) a0 b6.o (by omega);have d1:=Tb (Ll (X:=X) (fn:=d) n) c o t N C a.one;generalize Ec X d (Da X d n) n c o t N C a.one=r at hC c6 d1 b;have⟨j1,j2,j3⟩:=c6;have⟨k1,k2⟩:=d1;rw[o1,o2]at k2;rw[o1]at j3;have j2:L a.c.d<=r.2.c.d:=j2;have k1:r.2.u=a.u:=k1;have HC:=J hC;have⟨xa,xb,xc,xd,a3⟩:=p;have r0:=a3.p.j0;have lr:=Cz a3.p;have p1:=x.o.r.p.j1;have lp:=Cz x.o.r;have e0:=f 0 (by omega);have e1:=f 1 (by omega);have e2:=f 2 (by omega);have e3:=f 3 (by omega);have e4:=f 4 (by omega);have e5:=f 5 (by omega);have e6:=f 6 (by omega);have e7:=f 7 (by omega);have e8:=f 8 (by omega);have e9:=f 9 (by omega);have c1:=f 10 (by omega);have c2:=f 11 (by omega);have c3:=f 12 (by omega);have c4:=f 13 (by omega);have c5:=f 14 (by omega);simp only[Dc,Ac,Aa,Ab,Au]at e0 e1 e2 e3 e4 e5 e6 e7 e8 e9 c1 c2 c3 c4 c5;have f3:D<|DJ P pb B d X a.one w1:=⟨_,_,_,_,a3⟩;have g7:(l[k]:zw)<(L g:zw):=by omega
    have b7:=J b;have g5:=m.o.V;clear hC a3 f a4 a5 a7 a2 y c9 i0 R hd b hu d6;generalize l[k]=j at*;unfold Dc at HC;go_wp2_with fail;go_region_law(go_simp;go_at_call 125;refine(HC.o _ ?_).mono ?_;exact oq;rintro e w2 ⟨rfl,p,f0⟩;have R:=J<|(DU.wW<|O.trans (X:=Cb) (CT Cb w1) oq).trans f0;have⟨z6,h4⟩:=pS p;clear f0;dsimp only);all_goals
     obtain⟨b0,f8,a8⟩:=Dq (a9.o.trans R.o) (DU.yH R.o f3.o x.o) p;have b:=b7.o;clear p R HC e0 e1 e2 e3 e4 e5 e6 e7 e8 e9 c1 c2 c3 c4 c5 r0 p1 b1 lr lp g4 g3 b7;by_cases H:r.1=zt
     .rw[Bb<|zo H]at b;subst b;rw[H];clear H;go_wp2_with fail;go_ret;exact⟨Q,a8.o,b0.o⟩
     .by_cases hz:r.2.s=0
      .rw[Ba λq=>q.elim H λq=>q hz]at b;have a1:r.1=zr:=by simpa using H
       rw[a1];rw[hz]at z6;have f5:=J b;have f6:D<|Sf P pb B U fv (Y gs g sc) rf g p0 c0 d I X c o K n r.2 w2:=⟨a8.o,f8.o,j1,by omega,by omega,by omega,hz,by omega⟩;clear b H a1;go_wp2_with fail;go_roundw;exact⟨k+1,n,r.2,z,_,_,by omega,by omega,by simp,f6,f2,b0,f5⟩;simp[intOf];omega
      .rw[Bb<|zn hz]at b;subst b;have a1:r.1=zr:=by simpa using H
       rw[a1];have h2:((r.2.s:zw)==0)=zr:=by simp;omega
       have h3:((r.2.s:zw) !=0)=zt:=by simp;omega
       clear H a1;go_wp2_with fail;go_ret;exact⟨Q,a8.o,b0.o⟩
 .have g0:k=l:=by omega
  subst g0;have hn:=HL.o.n;rw[Bj]at hn;cases z with
  |cons t z=> have⟨_,_,e,_⟩:=hn;cases e
  |nil=> have b:=HV.o;rw[Da]at b;subst b;have R1:=J m.o.r;clear m HL HV hn;go_wp2_with fail;go_ret;exact⟨Q,R1.o,HF.o⟩
theorem jC(F):JU F:=by
 induction F using Nat.strongRecOn with
 |ind F a=>exact dR F a
def Ff(a:zw):M:=if a<0 then 0 else if 5000<a then 5000 else a.toNat
theorem Uo(a):Ff a<=5000:=by unfold Ff;split;omega;split<;>omega
abbrev pR(b:M)(a:Cj):RS:=⟨⟨[],a,[],[]⟩,b,0,0,0,Hd⟩
theorem pT(X c m a b):Jz X c m a b=if (Fe X (Da X c<|a+1) m []<|pR a b).1 then{(Fe X (Da X c<|a+1) m []<|pR a b).2 with s:=2}else(Fe X (Da X c<|a+1) m []<|pR a b).2:=Q
theorem kW(f B U R sv C P p0 N b a2 X d a w)
 (F:Se b a2 X C P)(y:KO f B U R sv C P p0 N w)(hB:B<=w)(hm:DF∈b):
 F' zy 13 #[Z' f,Y' d,G A a] w λe o=>∃j,w.heap.size<=j/\e=T' (Z'<|T ⟨j,0,Z⟩)/\DJ j f B b X (Jz X b (vx b DF) (Ff a) d.data.toList) o/\DU j B w o:=by
 have⟨q1,q2⟩:=EF hm;have a3:vx b DF<C:=by rw[F.h.yG]at q1;exact q1
 have H:=J<|pT X b (vx b DF) (Ff a) d.data.toList;have a5:=Uo a;have a1:∀(c:I'),O Cb w c->F' zy 35 #[Z' f,Y' ⟨#[109,97,105,110]⟩] c λe o=>e=((vx b DF:M):zw)/\o=c:=λc t=> (Fy B f p0 N R sv C DF c ((y.t8 t).r) ((y.t8 t).fn) F.h.xE).mono λe o h=>⟨by rw[h.1,F.h.wT,q2],h.2⟩
 have I:=J a1;have a0:∀(j:M) (c:I'),Gu j f B b X (pR (Ff a) d.data.toList) (Y Z 0 0) (Y Z 0 0) d [] c->O Cb w c->F' zy 40 #[Z' j,(vx b DF:M),Y Z 0 0] c λe o=>e=(Fe X (Da X b<|Ff a+1) (vx b DF) []<|pR (Ff a) d.data.toList).1/\DJ j f B b X (Fe X (Da X b<|Ff a+1) (vx b DF) []<|pR (Ff a) d.data.toList).2 o/\DU j B c o:=λj c l t=> Rr (Ff a+1) (jC _) j f B U R sv C P p0 N b a2 X (vx b DF) [] (Y Z 0 0) 150000 (pR (Ff a) d.data.toList) c F ⟨_,_,_,_,l⟩ (y.t8 t) ⟨λi h=>Bm h<|Nat.not_lt_zero _,λi h=>Bm h<|Nat.not_lt_zero _⟩ (by simp only[Aw];omega) (by simp only[Aw];omega) (by omega) (Nat.lt_succ_self _) (by simp only;omega) (by simp) Q a3 (λv hv=>by cases hv) (by simp)<|An _ _ _ _
 have s:=J a0;generalize Jz X b (vx b DF) (Ff a) d.data.toList=V at*;generalize Fe X (Da X b<|Ff a+1) (vx b DF) [] (pR (Ff a) d.data.toList)=r at*;generalize vx b DF=mi at*;clear a1 a0 q1 q2 hm;have u:∀(E:M),Ff a=E->∀(c:I'),O Cb w c->D (Gu c f B b X (pR E d.data.toList) (Y Z 0 0) (Y Z 0 0) d []<|c.alloc<|R' #[Z' f,Y Z 0 0,d,E,G A 0,G A 0,G A 0,Y Z 0 0,G A 0] 58):=λE g c t=> ⟨W.new _ _ _,Q,An _ _ _ _,An _ _ _ _,IG.none b X,by have:=t.size;omega⟩
 have HP:=J y;have a4:(a<0/\Ff a=0)\/(5000<a/\Ff a=5000)\/(∃n:M,a=n/\n<=5000/\Ff a=n):=by
  unfold Ff;rcases Int.lt_or_le a 0 with h|h
  exact zo ⟨h,by rw[Bb h]⟩;rcases Int.lt_or_le 5000 a with k|k
  exact zn<|zo ⟨k,by rw[Ba<|by omega,Bb k]⟩;exact zn<|zn ⟨a.toNat,by omega,by omega,by rw[Ba<|by omega,Ba<|by omega]⟩
 clear y;rcases a4 with⟨S,g⟩|⟨S,g⟩|⟨n,rfl,h2,g⟩
 rw[g]at s;have m:=u 0 g;have x:=J m;clear m u;have d1:zu (a<0)=zt:=by simp[S]
 clear g;go_in;have q:=J<|(CT Cb w).alloc<|R' #[Z' f,Y Z 0 0,d,G A 0,G A 0,G A 0,G A 0,Y Z 0 0,G A 0] 58;rotate_left;rw[g]at s;have m:=u 5000 g;have x:=J m;clear m u;have d1:=Hz (p:=a<0) (by omega);have d2:zu (5000<a)=zt:=by simp[S]
 clear g;go_in;have q:=J<|(CT Cb w).alloc<|R' #[Z' f,Y Z 0 0,d,G A 5000,G A 0,G A 0,G A 0,Y Z 0 0,G A 0] 58;rotate_left;rw[g]at s;have m:=u n g;have x:=J m;clear m u;have d1:zu ((n:zw)<0)=zr:=by simp
 have d2:=Hz (p:=5000<(n:zw)) (by omega);clear g;go_in;have q:=J<|(CT Cb w).alloc<|R' #[Z' f,Y Z 0 0,d,n,G A 0,G A 0,G A 0,Y Z 0 0,G A 0] 58;all_goals
  have K:=J<|x.o w oq;go_wp2_with fail;apply FC<|I.o _ q.o;go_wp2_with fail;apply(s.o _ _ K.o.o q.o).mono;rintro e w2 ⟨rfl,s1,s2⟩;have S2:=J<|(DU.wW q.o).trans s2;cases hr:r.1 with
  |false=> have z:=H.o;rw[hr,Ba<|by decide]at z;subst z;have S1:=J s1;clear s1 s2 I s q K x H;go_wp2_with fail;go_ret;exact⟨_,Ad _,Q,S1.o,S2.o⟩
  |true=> have z:=H.o;rw[hr,Bb Q]at z;subst z;have⟨mv,nv,ch,a6,l⟩:=s1;have lr:=Cz l.p;have r6:=l.p.z;have fz:=l.p.wV;have⟨f1,f2⟩:=l.wrote (S':={r.2 with s:=2}) 6 (G A 2) Q l.xS Q Q Q;have F1:=J f1;have F2:=J<|S2.o.trans f2;clear l f1 f2 s2 I s q K x H;go_wp2_with fail;go_ret;exact⟨_,Ad _,Q,⟨_,_,_,_,F1.o⟩,F2.o⟩

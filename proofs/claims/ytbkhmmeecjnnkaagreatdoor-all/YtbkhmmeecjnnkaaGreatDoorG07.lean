/- Part of the proof. -/
import Derived.Test.YtbkhmmeecjnnkaaGreatDoorG06
import Derived.Maps.RangeWalk
set_option maxRecDepth 100000
set_option maxHeartbeats 8000000
namespace Go.Proofs.YtbkhmmeecjnnkaaGreatDoor
open Go.RowKit Go.Maps Go.Proofs.Tryz
open Option renaming none->Z,some->T
open Value renaming int->G,slice->Y,pointer->Z',string->Y',tuple->P',agg->N',ownBlock->L'
open IntKind renaming i64->A
open Ending renaming returned->T'
open Obj renaming cells->R'
open List renaming length->L
open World renaming cell?->K',ownsRow->J'
open Go renaming World->I',Value->H',Calls->F',maxLen->E'
open Go.Proofs.Tryz renaming prog->zy
open _root_ renaming Nat->M,Int->zw,rfl->Q
open Bool renaming true->zt,false->zr
open Or renaming inl->zo,inr->zn
open Go.RowKit renaming intOf->zm
variable {u4:Act}{z5:Array Oper}{q1:Cg}{q3:Bd}{u0:Cd}{u8:Co}{z8:Cm}{v9:List (Ci)}{n0:Cc}{n7:List NU}{q2:Cf}{U:CQ}{p9:List DX}{y2:Df}{y1:Ci}{o2:FZ}{x9:NU}{B C R X o1 p0 v0:Nat}{z1:Nat->Prop}{p3:Oper}{q4:Program}{z9:Type}{q0:TypeId}{V n5 n6 n9 o3 o4 o5 o6 o7 o9 p5 p6 p7 q5 q6 q7 r4 r5 r6 r7 r8 r9 s0 s7 s9 t3 t6 t7 u1 u5 u6 u7 u9 v2 v3 v5 v6 v7 v8 x2 x3 x5 x6 x7 x8 y3 y4 y5 y6 y8 z0 z3 z4 z6 z7:Value}{P v1 y0:World}{p8:World->Prop}
theorem O.within{X:Ce}{a:I'}(h:O Cb a P)(k:O X P y0)(e:∀j,X j->(a:M)<=j):O Cb a y0:=
 ⟨k.os.trans h.os,k.tape.trans h.tape,k.output.trans h.output,As h.size k.size,λi d _=>by rw[k.block i (Av d h.size) λq=>by have:=e i q;omega,h.block i d id]⟩
theorem dP(R:Act->I'->Prop)(d p e b:M)(n:M)(g h c2 i j l m o:H')(q:Cd)(a:I'){v x y z B C E F b7 b8 b9 c8 c9 d0 d1 d2 d3 H I K N P S U X a0 a1 a2 a3 a4 a5 a6 a7 a8 a9 b0 b1 b2 b3 b4 b5 b6 r s t u:H'}
 (h0:a d=Value.map (T p))(hn:a (e,3)=q)(hL:(Instr.lookup 140 (.map<|T p) q zr).run zy a.drew=.ok n a.drew)
 (c:W b #[g,h,c2,i,j,l,m,o] 206 a)
 (hQ:∀(f:I') (d4 d5 d6 d7 d8 d9 e0 e1 e2:H'),W b #[g,h,n,i,j,l,m,o] 206 f->O (λk=>k=b) a f->R {tmps:=#[Z' d,V,z0,Z' e,s0,Z' b,u1,x2,v2,z3,y3,x3,v3,t3,o3,z4,y4,r4,o4,y5,x5,v5,u5,r5,o5,n5,z6,u6,t6,y8,r6,q6,p6,o6,y6,x8,x7,v7,u7,t7,s7,r7,q7,p7,n6,z7,x6,v6,q5,p5,o7,v8,r8,u9,s9,r9,o9,n9,v,x,y,z,B,C,E,F,d4,d5,d6,d7,d8,d9,e0,e1,e2,H,I,K,N,P,S,U,X,a0,a1,a2,a3,a4,a5,a6,a7,a8,a9,b0,b1,b2,b3,b4,b5,b6,r,s,t,u],defers:=[]} f):
 Code.wp zy (rg Tryz.f170 13) (K6 R) {tmps:=#[Z' d,V,z0,Z' e,s0,Z' b,u1,x2,v2,z3,y3,x3,v3,t3,o3,z4,y4,r4,o4,y5,x5,v5,u5,r5,o5,n5,z6,u6,t6,y8,r6,q6,p6,o6,y6,x8,x7,v7,u7,t7,s7,r7,q7,p7,n6,z7,x6,v6,q5,p5,o7,v8,r8,u9,s9,r9,o9,n9,v,x,y,z,B,C,E,F,b7,b8,b9,c8,c9,d0,d1,d2,d3,H,I,K,N,P,S,U,X,a0,a1,a2,a3,a4,a5,a6,a7,a8,a9,b0,b1,b2,b3,b4,b5,b6,r,s,t,u],defers:=[]} a:=by
 change Code.wp _ (.region _ _ _) _ _ _;have e3:=Cz c;have r2:=c.z;have f2:=c.wV 2;go_region;all_goals exact hQ _ _ _ _ _ _ _ _ _ _ (W.set (w:=a.drew) c 2 _)<|((CT _ a).drew).wS 2 _
theorem Fh.yF{a}(h:Fh B C R X n0 q3 V z0 P)(c:O (λk=>k=B) P y0)(f:W B (tL C R V z0 a) 143 y0)(d:a.wT=q3.wT)(e:a.f=q3.f):Fh B C R X n0 a V z0 y0:=
 ⟨f,h.fns.j c<|h.fns.ne h.p,by rw[d];exact h.y.j c<|h.y.ne h.p,by rw[d];exact Cx h.wT c<|CL h.wT h.p<|by decide,by rw[e];exact h.f.xU c λk i t j g q=>by subst g;rw[Ih h.p q];decide,h.ne⟩
theorem DD.lt(h:DD B P V p9)(k)(a:L' V=T k):k<P:=by have⟨c,b,_⟩:=h;exact(b.lt k a).2
theorem Fh.off(h:Fh B C R X n0 q3 V z0 P)(a:O (λk=>k=v0) P y0)(c:W v0 q1 206 P)(o:∀k,L' z0=T k->k≠v0):Fh B C R X n0 q3 V z0 y0:=by refine⟨h.p.j a<|h.p.ne c<|by decide,h.fns.j a<|h.fns.ne c,h.y.j a<|h.y.ne c,Cx h.wT a<|CL h.wT c<|by decide,?_,h.ne⟩;have⟨q1,n,l,m⟩:=h.f;refine⟨q1,Cx n a λk j=>o k j,l,λi h g=>?_⟩;have⟨f,e,d⟩:=m i h g;exact⟨f,e,Cx d a<|CL d c<|by decide⟩
theorem Kg{rb fn b s d0 d1 d2 d3 d4 d5 d6 d7 v w V}(c:W rb #[u1,x2,v2,z3,y3,x3,v3,t3] 206 V)(a:w.heap.size<=rb)
 (g:(#[d0,d1,d2,d3,d4,d5,d6,d7]:Cg)=(NS (Db fn s b) v).toArray)(d:CY w.heap.size V v (Db fn s b).k)(h:Fh B C R X fn (EY s b) z0 s0 V)(l:∀k,L' s0=T k->k<w.heap.size)(i:OP B R X w V):
 W rb #[d0,d1,d2,d3,d4,d5,d6,d7] 206 (s8 V rb d0 d1 d2 d3 d4 d5 d6 d7)/\
 ∃f,T' (N' #[d0,d1,d2,d3,d4,d5,d6,d7])=T' (N' (NS (Db fn s b) f).toArray)/\CY w.heap.size (s8 V rb d0 d1 d2 d3 d4 d5 d6 d7) f (Db fn s b).k/\Sb B C R X fn (EY s b) (s8 V rb d0 d1 d2 d3 d4 d5 d6 d7)/\OP B R X w (s8 V rb d0 d1 d2 d3 d4 d5 d6 d7):=by
 have e:=vW (V:=V) (rb:=rb) (d0:=d0) (d1:=d1) (d2:=d2) (d3:=d3) (d4:=d4) (d5:=d5) (d6:=d6) (d7:=d7);refine⟨wQ c,v,by rw[g],Cx d e<|CL d c<|by decide,⟨z0,s0,h.off e c λk j=>by have:=l k j;omega⟩,?_⟩;exact(((((((i.xB 0 d0 a).xB 1 d1 a).xB 2 d2 a).xB 3 d3 a).xB 4 d4 a).xB 5 d5 a).xB 6 d6 a).xB 7 d7 a
theorem bL(a y u B d b s N I R U S w)(h:Sb a y u B d b w)(hB:B<=w)(ha:J' w 0 145 2 (Y N s.k I) s.k<|Ej s.k)(ho:tK s)(hn:L b.wT<=4000)(hp:b.pl<=4000)(hc:b.g<=4000)(hd:s.e=0->s.tg.a∉b.wT):
 F' zy 170 #[Z' a,N'<|Jc s (Y N s.k I)<|Y R U S] w λe V=>∃v,e=N' (NS (Db d s b) v).toArray/\CY w V v (Db d s b).k/\Sb a y u B d (EY s b) V/\OP a u B w V:=by
 have F:=((CT Cb w).alloc<|R' (Jc s (Y N (L s.k) I)<|Y R U S) 270).alloc<|R' #[G A 0,G A 0,G A 0,G A 0,G A 0,Y Z 0 0,G A 0,G A 0] 206;have SB:=(W.new w (Jc s (Y N (L s.k) I)<|Y R U S) 270).alloc<|R' #[G A 0,G A 0,G A 0,G A 0,G A 0,Y Z 0 0,G A 0,G A 0] 206;have RB:=W.new (w.alloc<|R' (Jc s (Y N (L s.k) I)<|Y R U S) 270) #[G A 0,G A 0,G A 0,G A 0,G A 0,Y Z 0 0,G A 0,G A 0] 206;have b7:=h;obtain⟨nv,K,z⟩:=h;have f8:=Cz z.p;have a3:=J z.f.lt;unfold Jc at*;have c4:((w.alloc<|R' #[G A s.e,Y' s.tg.a,G A s.tg.t9,Y' s.sr.a,G A s.sr.t9,G A s.wU,Y N (L s.k) I,Y R U S] 270).alloc (R' #[G A 0,G A 0,G A 0,G A 0,G A 0,Y Z 0 0,G A 0,G A 0] 206):M)=(w:M)+2:=by simp
 have b5:(w.alloc (R' #[G A s.e,Y' s.tg.a,G A s.tg.t9,Y' s.sr.a,G A s.sr.t9,G A s.wU,Y N (L s.k) I,Y R U S] 270):M)=(w:M)+1:=by simp
 rw[b5]at RB;generalize b9:(λ(e:Ending) (V:I')=>∃v,e=T' (N' (NS (Db d s b) v).toArray)/\CY (w:M) V v (Db d s b).k/\Sb a y u B d (EY s b) V/\OP a u B w V)=Po;have HP:=J b9;clear b9;go_in;go_wp2_with fail;try rw[b5]
 clear b5;generalize (w.alloc _).alloc _=W0 at*;have B0:=b7.t8 F;have a4:=J c4;clear c4;refine Fu<|kG _ a u (w:M) s.e s.wU (vx b.wT s.tg.a:M) (vx b.wT s.sr.a:M) s.tg.a s.sr.a W0 (λV b8=>?_) ?_
 .obtain⟨nv,K,c7⟩:=B0;have b0:=c7.t8 b8;have a7:=SB.j b8 id;exact⟨b0.p.z 1,a7.z 0,a7.z 1,a7.z 3,a7.z 5,b0.y.look ho.tg,b0.y.look ho.sr⟩
 intro w9 y8 y9 f9 g0 g1 g2 g3 g4 g5 g6 g7 g8 g9 h0 h1 h2 h3 h4 h5 h7 h8 b2 a5;rw[a4.o]at b2;have S9:=SB.j a5 id;have R9:=RB.j a5 id;have O9:=F.trans a5;have z0:=S9.j6;have z1:=a5.size;have z2:=a4.o;clear a5 F SB RB B0;rw[a4.o];rw[a4.o]at z1;clear a4 z2;go_wp2_with fail;go_loopw[32] (λi wr=>∃(k:M) (l:Cf) (av:Ch) (ac:M),k<=L s.k/\i=G A k/\O Cb w wr/\W (w:M) #[G A s.e,Y' s.tg.a,G A s.tg.t9,Y' s.sr.a,G A s.sr.t9,G A s.wU,Y N (L s.k) I,Y R U S] 270 wr/\W ((w:M)+1) #[G A 0,G A 0,G A 0,G A 0,G A 0,Y Z 0 0,G A 0,G A 0] 206 wr/\W ((w:M)+2) #[G A s.e,G A (vx b.wT s.tg.a:M),G A (vx b.wT s.sr.a:M),G A s.wU,G A 0,Y av (L l) ac,G A 0,G A 0] 206 wr/\CY (w:M) wr (Y av (L l) ac) l/\D (l=(s.k.take k).map λt=>vx b.wT t.a)) (λi _=>L s.k-(zm i).toNat);exact⟨0,[],Z,0,by omega,Q,O9,S9,R9,b2,An _ _ _ _,Q⟩;obtain⟨k,l,m,n,c8,rfl,o,s1,H,C,r,a6⟩:=hrel;clear O9 S9 R9 b2;by_cases b3:k<L s.k
 .obtain⟨g,rfl⟩:=CH ha (by omega);have a8:=Cx ha o λ_ _ q=>q;have a9:=JN b3;have c0:=a8.cellAt (k*2) (by omega);have c5:=a8.cellAt (k*2+1) (by omega);rw[a9.1]at c0;rw[a9.2]at c5;have lg:=(a8.lt g Q).2;have c9:=ho.ar s.k[k]<|Am _;have e9:=J<|AK b3;clear a8 a9;generalize s.k[k]=t at*;have f7:=ho.al;have f0:L l<=4000:=by show _<=_;rw[a6.o];simp;omega
  have f4:=o.size;have F:=(CT Cb wr).alloc<|R' #[Y' t.a,G A t.t9] 145;have N4:=W.new wr #[Y' t.a,G A t.t9] 145;go_wp2_with fail;generalize wr.alloc _=W4 at*;have O4:=o.trans F;obtain⟨nv,K,b1⟩:=b7.t8 O4;refine Fu<|kL _ a u ((w:M)+2) (wr:M) (w:M) (vx b.wT t.a) _ _ _ _ _ _ _ t.a l m n W4 (b1.p.z 1) (N4.z 0) ((b1.t8<|(CT _ W4).drew).y.look c9) (C.j F id) (Cx r F λ_ _ q=>q) O4.size f0 ?_;clear b1;intro v' w5 h9 i0 i2 i3 i4 i5 i6 i7 i8 i9 j2 j3 c6 c3 b4;obtain⟨f2,f3,rfl⟩:=CB c3;have d8:=λkk (hk:L' (Y m (L l) n)=T kk)=>(r.lt kk hk).1
  have S5:W (w:M) #[G A s.e,Y' s.tg.a,G A s.tg.t9,Y' s.sr.a,G A s.sr.t9,G A s.wU,Y (T ⟨g,0,Z⟩) (L s.k) I,Y R U S] 270 w5:=(s1.j F id).j b4 λq=>q.elim (λq=>by omega) λq=>CL r s1 (by decide) _ q Q;have R5:W ((w:M)+1) #[G A 0,G A 0,G A 0,G A 0,G A 0,Y Z 0 0,G A 0,G A 0] 206 w5:=(H.j F id).j b4 λq=>q.elim (λq=>by omega) λq=>CL r H (by decide) _ q Q;have O5:O Cb w w5:=O4.within b4 λj q=>q.elim (λq=>by omega) λq=>d8 j q;clear C r s1 H O4 N4 F;go_wp2_with fail;go_round
  .exact⟨k+1,l++[vx b.wT t.a],f2,f3,by omega,by go_num,O5,S5,R5,c6,c3,by show _=_;rw[e9.o,Bn,<-a6.o];rfl⟩
  simp[intOf];omega
 .have e:k=L s.k:=by omega
  subst e;have a0:D<|l=s.k.map λt=>vx b.wT t.a:=by show _=_;rw[a6.o,List.take_length]
  clear a6 b3 c8;have f4:=o.size;have m0:=s1.j0;obtain⟨e0,e1,e2,e3,e4,e5,e6,e7⟩:=C.k8;have ef:=λi=>CZ C i
  have le:=Cz C;obtain⟨t0,t1,t2,t3,t4,t5,t6,t7⟩:=H.k8;have tf:=λi=>CZ H i
  by_cases k0:s.e=0
  .have j0:(s.e:zw)=0:=by omega
   have J0:=J k0;rw[j0]at m0;clear j0 k0;obtain⟨-,m1,m2⟩:=s1.k3;have f:=z.t8 o;obtain⟨na,nc,rfl⟩:=CB f.wT;have n2:=f.p.j2;have V1:Fh a y u B d b (Y na (L b.wT) nc) K<|wr.setCell ⟨(w:M)+2,1,Z⟩<|G A<|L b.wT:=z.t8 (o.xB 1 _<|by omega);have L1:W ((w:M)+2) #[G A s.e,G A<|L b.wT,G A (vx b.wT s.sr.a:M),G A s.wU,G A 0,Y m (L l) n,G A 0,G A 0] 206<|wr.setCell ⟨(w:M)+2,1,Z⟩<|G A<|L b.wT:=C.set 1 _;have R1:=H.xH (c:=(w:M)+2) 1 (G A<|L b.wT) (by omega);have I1:CY (w:M) (wr.setCell ⟨(w:M)+2,1,Z⟩<|G A<|L b.wT) (Y m (L l) n) l:=Cx r ((CT (λk=>k=(w:M)+2) wr).wS 1 _) (CL r C<|by decide);have O1:=o.xB (b:=(w:M)+2) 1 (G A<|L b.wT) (by omega);clear f;clear e0 e2 e3 e4 e5 e6 e7 t0 t1 t2 t3 t4 t5 t6 t7 tf;go_wp2_with(go_at_call 103;refine(SA a y u B d b s.tg _ K _ V1 (by have:=O1.size;omega) ho.tg hn<|hd J0.o).mono ?_;rintro e w6 ⟨rfl,⟨f1,h6⟩,f6⟩;have x:=f6.p ⟨_,_,V1⟩ R1 (by decide) (by decide);have L6:=f6.p ⟨_,_,V1⟩ L1 (by decide) (by decide);clear ef e1;obtain⟨e0,e1,e2,e3,e4,e5,e6,e7⟩:=L6.k8;have ef:=λi=>CZ L6 i;obtain⟨t0,t1,t2,t3,t4,t5,t6,t7⟩:=x.k8;have tf:=λi=>CZ x i;have X:CY (w:M) w6 (Y m (L l) n) l:=f6.row ⟨_,_,V1⟩ I1 (by decide) (by decide);have F6:=(OP.wW O1).trans f6;clear f6);have H6:Fh a y u B d (EY s b) f1 K w6:=by
    have e:EY s b={b with wT:=b.wT++[s.tg.a]}:=by simp[EY,J0.o]
    show Fh _ _ _ _ _ _ _ _ _;rw[e];exact h6
   (try simp only[Exit.inBlock,Exit.then]);have E:=Kg (fn:=d) (d0:=G A s.e) (d1:=G A<|L b.wT) (d2:=G A (vx b.wT s.sr.a:M)) (d3:=G A s.wU) (d4:=G A 0) (d5:=Y m (L l) n) (d6:=G A 0) (d7:=G A 0) (b:=b) (s:=s) (w:=w) (rb:=(w:M)+1) x (by omega) (v:=Y m (L l) n) (by simp[NS,Db,J0.o]) (by show CY _ _ _<|s.k.map _;rw[<-a0.o];exact X) H6 a3 F6;refine Ak (results_cell_row (P:=zy) (by rfl) _ _ ((w:M)+1) 206 _ (0,0) _ (by rfl) E.1 underlying206 (by rfl)<|by kernel_rfl) (by rfl) ?_;cases HP.o;exact E.2
  by_cases b6:s.e=4\/s.e=7
  .have j0:¬(s.e:zw)=0:=by omega
   have f:=z.t8 o;have m3:=s1.j3;have n0:=f.p.j0;have hL:=J<|(f.t8<|(CT _ wr).drew).fns.look ho.sr;clear f;have f5:=b6;rcases b6 with k4|k7
   have j4:(s.e:zw)=4:=by omega
   have J4:=J k4;rw[j4]at m0;clear j4 j0 k4;rotate_left;have j4:(s.e:zw)=7:=by omega
   have J4:=J k7;rw[j4]at m0;clear j4 j0 k7;all_goals
    go_wp2_with fail;refine Fu<|dP _ a y (w:M) ((w:M)+2) (vx d s.sr.a) _ _ _ _ _ _ _ _ s.sr.a wr n0 m3 hL.o C ?_;intro w6 j5 j6 j9 k2 k3 k5 k6 k9 l0 L6 o6;have L6:=L6;have x:=H.j o6 (by omega);have X:CY (w:M) w6 (Y m (L l) n) l:=Cx r o6 (CL r C<|by decide);have O6:=o.within o6 (λj q=>by omega);have H6:Fh a y u B d (EY s b) nv K w6:=by
     have e:EY s b=b:=by simp[EY,J4.o]
     show Fh _ _ _ _ _ _ _ _ _;rw[e];exact z.t8 O6
    clear o6 e0 e1 e2 e3 e4 e5 e6 e7 t0 t1 t2 t3 t4 t5 t6 t7 ef tf m0 m3 n0;obtain⟨e0,e1,e2,e3,e4,e5,e6,e7⟩:=L6.k8;have ef:=λi=>CZ L6 i
    obtain⟨t0,t1,t2,t3,t4,t5,t6,t7⟩:=x.k8;have tf:=λi=>CZ x i
    go_wp2_with fail;(try simp only[Exit.inBlock,Exit.then]);have E:=Kg (fn:=d) (d0:=G A s.e) (d1:=G A (vx b.wT s.tg.a:M)) (d2:=G A (vx d s.sr.a:M)) (d3:=G A s.wU) (d4:=G A 0) (d5:=Y m (L l) n) (d6:=G A 0) (d7:=G A 0) (b:=b) (s:=s) (w:=w) (rb:=(w:M)+1) x (by omega) (v:=Y m (L l) n) (by simp[NS,Db,J4.o]) (by show CY _ _ _<|s.k.map _;rw[<-a0.o];exact X) H6 a3<|OP.wW O6;refine Ak (results_cell_row (P:=zy) (by rfl) _ _ ((w:M)+1) 206 _ (0,0) _ (by rfl) E.1 underlying206 (by rfl)<|by kernel_rfl) (by rfl) ?_;cases HP.o;exact E.2
  by_cases k1:s.e=1
  .have j1:(s.e:zw)=1:=by omega
   have J1:=J k1;rw[j1]at m0;clear j1 k1;have f:=z.t8 o;have n4:=f.p.j4;have nf:=λi=>CZ f.p i
   have V6:Fh a y u B d (EY s b) nv K<|(wr.setCell ⟨a,4,Z⟩<|G A<|(b.pl:zw)+1).setCell ⟨(w:M)+2,4,Z⟩<|G A<|(b.pl:zw)+1:=
    z.yF (((o.mono λ_ _ q=>q.elim).wS 4 _).xB 4 _<|by omega) (by
     have e:EY s b={b with pl:=b.pl+1}:=by simp[EY,J1.o]
     rw[e];exact(f.p.set 4 _).xH 4 _ (by omega)) (by simp[EY,J1.o]) (by simp[EY])
   have x:=(H.xH (c:=a) 4 (G A<|(b.pl:zw)+1)<|by omega).xH (c:=(w:M)+2) 4 (G A<|(b.pl:zw)+1) (by omega);have X:CY (w:M) ((wr.setCell ⟨a,4,Z⟩<|G A<|(b.pl:zw)+1).setCell ⟨(w:M)+2,4,Z⟩<|G A<|(b.pl:zw)+1) (Y m (L l) n) l:=
    Cx r (((CT (λk=>k=a\/k=(w:M)+2) wr).setCell (p:=⟨a,4,Z⟩) (zo<|zo Q) _).setCell (p:=⟨(w:M)+2,4,Z⟩) (zo<|zn Q) _) (λk hk q=>q.elim (CL r f.p (by decide) k hk)<|CL r C (by decide) k hk)
   have F6:OP a u B w<|(wr.setCell ⟨a,4,Z⟩<|G A<|(b.pl:zw)+1).setCell ⟨(w:M)+2,4,Z⟩<|G A<|(b.pl:zw)+1:=(((o.mono λ_ _ q=>q.elim).setCell (p:=⟨a,4,Z⟩) (zo<|zo Q) _).xB 4 _<|by omega);have d9:a≠(w:M)+2:=by omega
   have e8:a≠(w:M)+1:=by omega
   clear f;go_wp2_with fail;(try simp only[Exit.inBlock,Exit.then]);have E:=Kg (fn:=d) (d0:=G A s.e) (d1:=G A (vx b.wT s.tg.a:M)) (d2:=G A (vx b.wT s.sr.a:M)) (d3:=G A s.wU) (d4:=G A<|(b.pl:zw)+1) (d5:=Y m (L l) n) (d6:=G A 0) (d7:=G A 0) (b:=b) (s:=s) (w:=w) (rb:=(w:M)+1) x (by omega) (v:=Y m (L l) n) (by simp[NS,Db,J1.o]) (by show CY _ _ _<|s.k.map _;rw[<-a0.o];exact X) V6 a3 F6;refine Ak (results_cell_row (P:=zy) (by rfl) _ _ ((w:M)+1) 206 _ (0,0) _ (by rfl) E.1 underlying206 (by rfl)<|by kernel_rfl) (by rfl) ?_;cases HP.o;exact E.2
  by_cases k8:s.e=8
  .have j1:(s.e:zw)=8:=by omega
   have J1:=J k8;rw[j1]at m0;clear j1 k8;have f:=z.t8 o;have n4:=f.p.j5;have nf:=λi=>CZ f.p i
   have V6:Fh a y u B d (EY s b) nv K<|(wr.setCell ⟨a,5,Z⟩<|G A<|(b.g:zw)+1).setCell ⟨(w:M)+2,4,Z⟩<|G A<|(b.g:zw)+1:=
    z.yF (((o.mono λ_ _ q=>q.elim).wS 5 _).xB 4 _<|by omega) (by
     have e:EY s b={b with g:=b.g+1}:=by simp[EY,J1.o]
     rw[e];exact(f.p.set 5 _).xH 4 _ (by omega)) (by simp[EY,J1.o]) (by simp[EY])
   have x:=(H.xH (c:=a) 5 (G A<|(b.g:zw)+1)<|by omega).xH (c:=(w:M)+2) 4 (G A<|(b.g:zw)+1) (by omega);have X:CY (w:M) ((wr.setCell ⟨a,5,Z⟩<|G A<|(b.g:zw)+1).setCell ⟨(w:M)+2,4,Z⟩<|G A<|(b.g:zw)+1) (Y m (L l) n) l:=
    Cx r (((CT (λk=>k=a\/k=(w:M)+2) wr).setCell (p:=⟨a,5,Z⟩) (zo<|zo Q) _).setCell (p:=⟨(w:M)+2,4,Z⟩) (zo<|zn Q) _) (λk hk q=>q.elim (CL r f.p (by decide) k hk)<|CL r C (by decide) k hk)
   have F6:OP a u B w<|(wr.setCell ⟨a,5,Z⟩<|G A<|(b.g:zw)+1).setCell ⟨(w:M)+2,4,Z⟩<|G A<|(b.g:zw)+1:=(((o.mono λ_ _ q=>q.elim).setCell (p:=⟨a,5,Z⟩) (zo<|zo Q) _).xB 4 _<|by omega);have d9:a≠(w:M)+2:=by omega
   have e8:a≠(w:M)+1:=by omega
   clear f;go_wp2_with fail;(try simp only[Exit.inBlock,Exit.then]);have E:=Kg (fn:=d) (d0:=G A s.e) (d1:=G A (vx b.wT s.tg.a:M)) (d2:=G A (vx b.wT s.sr.a:M)) (d3:=G A s.wU) (d4:=G A<|(b.g:zw)+1) (d5:=Y m (L l) n) (d6:=G A 0) (d7:=G A 0) (b:=b) (s:=s) (w:=w) (rb:=(w:M)+1) x (by omega) (v:=Y m (L l) n) (by simp[NS,Db,J1.o]) (by show CY _ _ _<|s.k.map _;rw[<-a0.o];exact X) V6 a3 F6;refine Ak (results_cell_row (P:=zy) (by rfl) _ _ ((w:M)+1) 206 _ (0,0) _ (by rfl) E.1 underlying206 (by rfl)<|by kernel_rfl) (by rfl) ?_;cases HP.o;exact E.2
  have j0:¬(s.e:zw)=0:=by omega
  have j4:¬(s.e:zw)=4:=by omega
  have j7:¬(s.e:zw)=7:=by omega
  have j1:¬(s.e:zw)=1:=by omega
  have j8:¬(s.e:zw)=8:=by omega
  have H6:Fh a y u B d (EY s b) nv K wr:=by
   have e:EY s b=b:=by simp[EY,k0,k1,k8]
   show Fh _ _ _ _ _ _ _ _ _;rw[e];exact z.t8 o
  go_wp2_with fail;(try simp only[Exit.inBlock,Exit.then]);have E:=Kg (fn:=d) (d0:=G A s.e) (d1:=G A (vx b.wT s.tg.a:M)) (d2:=G A (vx b.wT s.sr.a:M)) (d3:=G A s.wU) (d4:=G A 0) (d5:=Y m (L l) n) (d6:=G A 0) (d7:=G A 0) (b:=b) (s:=s) (w:=w) (rb:=(w:M)+1) H (by omega) (v:=Y m (L l) n) (by simp[NS,Db,k0,b6,k1,k8]) (by show CY _ _ _<|s.k.map _;rw[<-a0.o];exact r) H6 a3<|OP.wW o;refine Ak (results_cell_row (P:=zy) (by rfl) _ _ ((w:M)+1) 206 _ (0,0) _ (by rfl) E.1 underlying206 (by rfl)<|by kernel_rfl) (by rfl) ?_;cases HP.o;exact E.2
def nJ(d:M):Prop:=∀(U:Ce) (t:TS) (a:Cg) (w:I'),EG d U w t a.toList->Sx d t->IL t<=4001->
 F' zy 150 #[N' a] w λe b=>e=(IL t:M)/\O Cb w b
theorem UF(t):1<=IL t:=by cases t;simp only[IL];omega
theorem Qd:∀(l:Dj),l<=FG l
 |[]=>Ar _
 |t::l=>by have:=Qd l;grind[UF,FG]
theorem RH(l:Dj)(k:M)(h:k<l):FG (l.drop k)=IL l[k]+FG (l.drop<|k+1):=by rw[Ap h];rfl
theorem lW(l:List<|M×Dj)(k:M)(h:k<l):Ss (l.drop k)=FG l[k].2+Ss (l.drop<|k+1):=by rw[Ap h];rfl
theorem SH(d:M)(hS:nJ d)(U:Ce)(p:M)(a:Dj)(N:H')(w:I')(C:Gq d U w N a)(hO:∀t,t∈a->Sx d t)(hl:FG a<=4001):
 F' zy 105 #[N' #[p,N]] w λe w'=>e=(FG a:M)/\O Cb w w':=by
 have h:=C;have⟨a6,c,_⟩:=h;obtain⟨m,o,rfl⟩:=CB c;have a9:=Qd a;have S0:=W.new w #[p,Y m a o] 149;have u:=(CT Cb w).alloc<|R' #[p,Y m a o] 149;clear c;generalize E:FG a=V at*;have r:D<|FG (a.drop 0)=V:=E;clear E;go_in;go_wp2;go_loopw[3,9] (λz i wr=>∃(k n:M),k<=a/\i=G A k/\z=G A n/\D (n+FG (a.drop k)=V)/\O Cb w wr) (λ_ i _=>a-(zm i).toNat);exact⟨0,0,by omega,Q,Q,by show 0+_=_;rw[AM];exact r.o,u⟩;obtain⟨k,n,a8,rfl,rfl,H,l⟩:=hrel;clear r u;by_cases F:k<a
 .have f:Gq d U wr (Y m a o) a:=Gq.j C l Ed;have h:=f;have⟨a7,c,_⟩:=h;obtain⟨g,rfl⟩:=CH c (by omega);have lg:=(c.lt g Q).2;have⟨s,v,I,y,x,K,B,b,a3⟩:=f.get F;have P:=b 0 (by omega);have R:=b 1 (by omega);have S:=b 2 (by omega);have X:=b 3 (by omega);have f4:=b 4 (by omega);have f5:=b 5 (by omega);have f6:=b 6 (by omega);have f7:=b 7 (by omega);simp only[Jc,Ac,Aa,Ab,Au]at P R S X f4 f5 f6 f7;have a4:=RH a k F;have a0:=hO a[k]<|Am _;have j:D<|IL a[k]<=4001/\n+IL a[k]<=4001/\n+IL a[k]+FG (a.drop<|k+1)=V:=by have:=H.o;show _/\_;omega
  clear c b f a4;generalize a[k]=t at*;have q:=(CT Cb wr).alloc<|R' #[s.e,s.tg.a,s.tg.t9,s.sr.a,s.sr.t9,s.wU,Y v I y,Y x K B] 270;have hb:=j.o.2.1;go_wp2_with(go_at_call 150;apply(hS U t #[s.e,s.tg.a,s.tg.t9,s.sr.a,s.sr.t9,s.wU,Y v I y,Y x K B] _ (EG.j a3 q Ed) a0 j.o.1).mono;rintro e w2 ⟨rfl,o2⟩);go_round;exact⟨k+1,n+IL t,by omega,by go_num,by first|rfl|go_num,j.o.2.2,J<|l.trans<|q.trans o2⟩;simp[intOf];omega
 .have e:k=a:=by omega
  subst e;have a5:n=V:=by have:=H.o;simpa[FG]using this
  subst a5;go_wp2;go_ret;exact⟨Q,l⟩
theorem Y7(d)(hS:nJ d):nJ<|d+1:=by
 intro U t cs w hT hO hl;have⟨s,a⟩:=t;have⟨_,_,b5,a9⟩:=hO;have⟨av,bv,a4,K,H,a6,I,b2,b3,N⟩:=hT;obtain⟨q,l1,y,rfl⟩:=CA H;obtain⟨v,B,rfl⟩:=CB I;have a7:cs=Jc s (Y q l1 y) (Y v a B):=Array.ext' K;subst a7;have X:IL (.mk s a)=1+Ss a:=Q;rw[X]at hl|-;have P:D<|1+Ss (a.drop 0)=1+Ss a:=Q;have p:=J N;have o:=(CT Cb w).alloc<|R' #[s.e,s.tg.a,s.tg.t9,s.sr.a,s.sr.t9,s.wU,Y q l1 y,Y v a B] 270;clear N K H a6 X;unfold Jc;generalize 1+Ss a=V at*;go_in;go_wp2;go_loopw[3,9] (λz i wr=>∃(k n:M),k<=a/\i=G A k/\z=G A n/\D (n+Ss (a.drop k)=V)/\O Cb w wr) (λ_ i _=>a-(zm i).toNat);exact⟨0,1,by omega,Q,Q,P,o⟩;obtain⟨k,n,b4,rfl,rfl,S,c⟩:=hrel;clear P o;by_cases R:k<a
 .have b:=Cx I c Ed;have⟨sv,a5,e,r,a0,u,a3⟩:=p.o k R (by omega);have hR:=Gq.j (d:=d) (U:=U) (w:=w) (sv:=sv) (sts:=a[k].2) ⟨a5,r,a0,u,a3⟩ c Ed;obtain⟨sa,sl,sc,rfl⟩:=CA r;obtain⟨g,rfl⟩:=CH b (by omega);have lg:=(b.lt g Q).2;have l:∀x,x∈a4->L x=2:=by intro x hx;obtain⟨i,hi,rfl⟩:=AC.1 hx;have⟨_,_,e',_⟩:=p.o i (by omega) hi;rw[e'];rfl
  have E:=b.cellAt (k*2) (by omega);have F:=b.cellAt (k*2+1) (by omega);have f:=EO l (j:=k) (i:=0) (by omega) (by omega);have C:=EO l (j:=k) (i:=1) (by omega) (by omega);rw[Au]at f;rw[f,e]at E;rw[C,e]at F;simp only[Aa,Ab]at E F;have b0:=lW a k R;have a8:=a9 a[k]<|Am _;have h:D<|FG a[k].2<=4001/\n+FG a[k].2<=4001/\n+FG a[k].2+Ss (a.drop<|k+1)=V:=by have:=S.o;show _/\_;omega
  clear b r a3 u e f C l a0 b0;generalize a[k]=t at*;have m:=(CT Cb wr).alloc<|R' #[t.1,Y sa sl sc] 149;have hb:=h.o.2.1;go_wp2_with(go_at_call 105;apply(SH d hS U t.1 t.2 (Y sa sl sc) _ (Gq.j hR m Ed) a8.2 h.o.1).mono;rintro e w2 ⟨rfl,o2⟩);go_round;exact⟨k+1,n+FG t.2,by omega,by go_num,by first|rfl|go_num,h.o.2.2,J<|c.trans<|m.trans o2⟩;simp[intOf];omega
 .have e:k=a:=by omega
  subst e;have b1:n=V:=by have:=S.o;simpa[Ss]using this
  subst b1;go_wp2;go_ret;exact⟨Q,c⟩
theorem OJ:∀d,nJ d
 |0=>λ_ _ _ _ a _ _=>a.elim
 |d+1=>Y7 d<|OJ d
section
variable{P:Program}{b:Array Oper}{C:I'->Prop}
theorem JC{id}{d:Exit->Act->I'->Prop}{a a1 w o l v}(n)(r:P.follows .mixedOrders=zt)(i:UG .any (o::l).toArray n=zt)
 (I:∀c a w,d (.panic c) (a.put o.dst v) w->d (.panic c) a w)(hy:Yields P (o::l).toArray o v a)(k:C {w with drawn:=w.drawn+1})(p:a.put o.dst v=a1)
 (h:wpQuiet P (o::l).toArray C (λf=>∀e,C e->wpList P (o::l).toArray d (l.drop<|n-1) f e) (l.take<|n-1) a1):(Code.region id (o::l).toArray zt).wp P d a w:=by
 subst p;simp only[UG,Bool.and_eq_true,A7]at i;have⟨⟨⟨⟨⟨⟨⟨x,V⟩,E⟩,u⟩,q⟩,N⟩,hr⟩,U⟩:=i;have X:n<l+1:=by omega
 have a2:(l.take<|n-1)=n-1:=by simp;omega
 have a0:(o::l).toArray.size=l+1:=by simp
 have K:L (l.drop<|n-1)=(o::l).toArray.size-n:=by simp;omega
 have B:(o::l).toArray[0]? =o:=by simp
 have y:HeadInv .any (o::l).toArray n<|Array.replicate (o::l).toArray zr:=
  ⟨by simp,λj oj _ S=>(by grind[getD_replicate_false]),λt _ ht=>getD_in (by grind)<|getD_replicate_false _ _⟩
 have s:0∈Region.ready .any (o::l).toArray (Array.replicate (o::l).toArray zr):=by grind
 have z:=y.set s (by omega);have H:=Os (md:=.any) (m:=1) (g:=(o::l).toArray-n) x u q (l.take<|n-1) 1 _ (a.put o.dst v) (λj R=>by grind) (Ad _) (by omega) z (by grind) h
 apply wp_region_any r;have a3:=Ku (C:=C) (Q':=d) (g:=(o::l).toArray-n) (λa4 f e k F=>by grind[wpAny_of_seq]) _ _ _ _ k H
 grind[wpAny_take]
theorem Px{c:Act->Prop}{o e a}(d v)(i:Region.wanted o (yielded b a.tmps)=zt)(g:∀w,C w->(execOp a.eval o).run P w=.ok (.value v) w)(k:a.put o.dst v=d)(h:wpQuiet P b C c e d):wpQuiet P b C c (o::e) a:=
 wpQuiet_step λK j=>by rw[Bb i];exact⟨v,λw f=>by unfold Oper.quietAt;rw[g w f];exact⟨Q,Q⟩,by grind⟩
theorem Mv{c:Act->Prop}{o j a}(d v){f g}(m:Region.wanted o (yielded b a.tmps)=zt)(l:∀w,C w->(execOp a.eval o).run P w=.ok (.enter f g) w)(k:∀w,C w->F' P f g w λe n=>e=T' v/\C n)(q:a.put o.dst v=d)(h:wpQuiet P b C c j d):wpQuiet P b C c (o::j) a:=
 wpQuiet_step λK p=>by rw[Bb m];exact⟨v,λw i=>by unfold Oper.quietAt;rw[l w i];exact⟨Q,k w i⟩,by grind⟩
end
theorem sU{b:Act->Prop}{c:List Oper}(v:H'){f:FuncId}{args:Cg}(j:Region.wanted p3 (yielded z5 u4.tmps)=zt)(i:∀w,p8 w->(execOp u4.eval p3).run q4 w=.ok (.enter f args) w)(g:∀w,p8 w->F' q4 f args w λe k=>e=v/\p8 k)(d:u4.put p3.dst v={tmps:=#[V,z0,s0,u1,x2,v2,z3,y3,x3,v3,t3,o3,z4,y4,r4,o4,y5,x5,v5,u5,r5,o5,n5,z6,u6,t6,y8,r6,q6,p6,o6,y6,x8,x7,v7,u7,t7,s7,r7,q7,p7,n6,z7,x6,v6,q5,p5,o7,v8,r8,u9,s9,r9,o9,n9],defers:=[]})(h:wpQuiet q4 z5 p8 b c {tmps:=#[V,z0,s0,u1,x2,v2,z3,y3,x3,v3,t3,o3,z4,y4,r4,o4,y5,x5,v5,u5,r5,o5,n5,z6,u6,t6,y8,r6,q6,p6,o6,y6,x8,x7,v7,u7,t7,s7,r7,q7,p7,n6,z7,x6,v6,q5,p5,o7,v8,r8,u9,s9,r9,o9,n9],defers:=[]}):wpQuiet q4 z5 p8 b (p3::c) u4:=Mv _ v j i g d h
theorem Lx{b:Act->Prop}{c:List Oper}(v)(f:Region.wanted p3 (yielded z5 u4.tmps)=zt)(e:∀w,p8 w->(execOp u4.eval p3).run q4 w=.ok (.value v) w)(d:u4.put p3.dst v={tmps:=#[V,z0,s0,u1,x2,v2,z3,y3,x3,v3,t3,o3,z4,y4,r4,o4,y5,x5,v5,u5,r5,o5,n5,z6,u6,t6,y8,r6,q6,p6,o6,y6,x8,x7,v7,u7,t7,s7,r7,q7,p7,n6,z7,x6,v6,q5,p5,o7,v8,r8,u9,s9,r9,o9,n9],defers:=[]})(h:wpQuiet q4 z5 p8 b c {tmps:=#[V,z0,s0,u1,x2,v2,z3,y3,x3,v3,t3,o3,z4,y4,r4,o4,y5,x5,v5,u5,r5,o5,n5,z6,u6,t6,y8,r6,q6,p6,o6,y6,x8,x7,v7,u7,t7,s7,r7,q7,p7,n6,z7,x6,v6,q5,p5,o7,v8,r8,u9,s9,r9,o9,n9],defers:=[]}):wpQuiet q4 z5 p8 b (p3::c) u4:=Px _ v f e d h
theorem kO(R:Act->I'->Prop)(d c g h:M)(S:Ch)(U:M)(j k l m n o p r:H')(i:I')(b4:g<=4000)(b5:h<=4001)
 (u:∀a,O Cb i a->a (d,3)=Y S g U/\a c=j/\a (c,1)=k/\a (c,2)=l/\a (c,3)=m/\a (c,4)=n/\a (c,5)=o/\a (c,6)=p/\a (c,7)=r)
 (y:∀a,O Cb i a->F' zy 150 #[N' #[j,k,l,m,n,o,p,r]] a λe t=>e=h/\O Cb a t)
 (x:∀a,O Cb i a->F' zy 149 #[Z' d,N' #[j,k,l,m,n,o,p,r],((g+h:M):zw)] a λe t=>e=P' #[]/\∀(a3 a4 a5 a6 a7 a8 a9 b0 b1 b2 b3:H'),R {tmps:=#[Z' d,V,z0,s0,u1,x2,v2,z3,y3,x3,Z' c,v3,t3,o3,z4,y4,r4,o4,y5,x5,v5,u5,r5,o5,n5,z6,u6,t6,y8,r6,q6,p6,o6,y6,a3,a4,a5,a6,a7,a8,a9,b0,b1,b2,b3,x6,v6,q5,p5,o7,v8,r8,u9,s9,r9],defers:=[]} t):
 Code.wp zy (rg Tryz.f104 8) (K6 R) {tmps:=#[Z' d,V,z0,s0,u1,x2,v2,z3,y3,x3,Z' c,v3,t3,o3,z4,y4,r4,o4,y5,x5,v5,u5,r5,o5,n5,z6,u6,t6,y8,r6,q6,p6,o6,y6,x8,x7,v7,u7,t7,s7,r7,q7,p7,n6,z7,x6,v6,q5,p5,o7,v8,r8,u9,s9,r9],defers:=[]} i:=by
 change Code.wp _ (.region _ _ _) _ _ _;have a2:IntKind.i64.wrap ((g:zw)+(h:zw))=(g:zw)+(h:zw):=by rw[BI];omega
 have s:=J u;clear u;apply JC (C:=O Cb i) (v:=Z' d) (a1:={tmps:=#[Z' d,V,z0,s0,u1,x2,v2,z3,y3,x3,Z' c,v3,t3,o3,z4,y4,r4,o4,y5,x5,v5,u5,r5,o5,n5,z6,u6,t6,y8,r6,q6,p6,o6,y6,Z' d,x7,v7,u7,t7,s7,r7,q7,p7,n6,z7,x6,v6,q5,p5,o7,v8,r8,u9,s9,r9],defers:=[]}) 10 (by kernel_rfl) (by kernel_rfl) Io (zo ⟨by rfl,λw=>by go_simp⟩) ((CT _ i).drew) (by kernel_rfl);simp only[AX,List.take_zero,Bl,List.drop_zero,Nat.reduceSub];refine Lx (N' #[j,k,l,m,n,o,p,r]) (by rfl) (λw b=>by have⟨z,B,E,F,H,I,K,N,P⟩:=s.o w b;go_simp) Q ?_;apply Lx (Z' d) (by rfl) (λw b=>by go_simp) Q;apply Lx (Z' d) (by rfl) (λw b=>by go_simp) Q;apply Lx (Z' (d,3)) (by rfl) (λw b=>by go_simp) Q;refine Lx (Y S g U) (by rfl) (λw b=>by have⟨z,B,E,F,H,I,K,N,P⟩:=s.o w b;go_simp) Q ?_;apply Lx g (by rfl) (λw b=>by go_simp) Q;refine Lx (N' #[j,k,l,m,n,o,p,r]) (by rfl) (λw b=>by have⟨z,B,E,F,H,I,K,N,P⟩:=s.o w b;go_simp) Q ?_;apply sU h (f:=150) (args:=#[N' #[j,k,l,m,n,o,p,r]]) (by rfl) (λw b=>by go_simp) (λw b=>(y w b).mono λe a q=>⟨q.1,b.trans q.2⟩) Q;apply Lx ((g+h:M):zw) (by rfl) (λw b=>by go_simp) Q;apply wpQuiet_nil;intro a a0;have X:=x a a0;clear x y s a2;go_wp2_with(go_at_call 149;apply X.mono;rintro e w2 ⟨rfl,h2⟩);exact h2 _ _ _ _ _ _ _ _ _ _ _
def Zk(d:M):Prop:=∀(c i g B:M) (U:Ce) (f:Cc) (l:Cf) (b:Bd) (t:TS) (a:M) (h:Cg) (w:I'),
 Sb c i g B f b w->B<=w->(∀k,U k->k<B/\k≠c/\k≠g)->EG d U w t h.toList->Sx d t->nC f l t b.wT->L b.wT<=12->b.f+IL t<=4001->b.pl+nK 1 t<=4000->b.g+nK 8 t<=4000->a<=8002->
 F' zy 149 #[Z' c,N' h,a] w λe j=>e=P' #[]/\Sb c i g B f (Gy f t a b) j/\Ml c g B w j
theorem cB(c:Cc)(l:Dj)(k:M)(h:k+1<L l)(a:M)(b:Bd):DI c (l.drop k) a b=DI c (l.drop<|k+1) a (Gy c l[k] (b.f+IL l[k]) b):=by rw[Ap (by omega:k<l),Ap h];rfl
theorem cA(c:Cc)(l:Dj)(k:M)(h:l=k+1)(a:M)(b:Bd):DI c (l.drop k) a b=Gy c (l[k]'(by omega)) a b:=by rw[Ap (by omega:k<l),List.drop_eq_nil_of_le<|by omega];rfl
theorem PZ(j)(l:Dj)(k:M)(h:k<l):nL j (l.drop k)=nK j l[k]+nL j (l.drop<|k+1):=by rw[Ap h];rfl
theorem Wo{a:Cc}(l:Dj)(k:M)(h:k<l)(b:Mn n0 q2 (l.drop k) a):nC n0 q2 l[k] a/\Mn n0 q2 (l.drop<|k+1) (a++dS l[k]):=by rw[Ap h]at b;exact b
structure tQ(fn:Cc)(par:Cf)(sts:Dj)(a:M)(V b:Bd)(k:M):Prop where
 ok:Mn fn par (sts.drop k) b.wT
 nm:b.wT.length<=12
 st:b.f+FG (sts.drop k)<=4001
 pl:b.pl+nL 1 (sts.drop k)<=4000
 g:b.g+nL 8 (sts.drop k)<=4000
 is:DI fn (sts.drop k) a b=V
theorem tQ.q{c b k}(h:tQ n0 q2 c B q3 b k)(f:k+1<L c):tQ n0 q2 c B q3 (Gy n0 c[k] (b.f+IL c[k]) b)<|k+1:=by have⟨e,i⟩:=Wo c k (by omega) h.ok;have d:=Nn c[k] (b.f+IL c[k]) b e;have z:=RH c k (by omega);have n:=PZ 1 c k (by omega);have o:=PZ 8 c k (by omega);have j:=h.st;have l:=h.pl;have m:=h.g;have g:=(Tp c[k] b.wT e).2 h.nm;refine⟨by rw[d.wT];exact i,by rw[d.wT];exact g,?_,?_,?_,?_⟩;rw[d.len];omega;rw[d.pl];omega;rw[d.g];omega;rw[<-cB n0 c k f B b];exact h.is
theorem Ml.t8{b e a c}(j:Ml b e a P y0)(i:∀k,z1 k->k<a/\k≠b/\k≠e)(h:Gq B z1 P V c):Gq B z1 y0 V c:=
 Gq.j h j (λk l q=>by
  obtain⟨m,f,g⟩:=i k l;rcases q with q|q|⟨q,_⟩
  .exact f q
  .exact g q
  .omega)
theorem Jg(d:M)(hS:Zk d)(j I m B:M)(U:Ce)(l:Cc)(P:Cf)(b:Bd)(p a:M)(c:Dj)(sv:H')(w:I')(h:Sb j I m B l b w)(hB:B<=w)(hU:∀k,U k->k<B/\k≠j/\k≠m)(hR:Gq d U w sv c)(hO:∀t,t∈c->Sx d t)
 (hk:Mn l P c b.wT)(hn:L b.wT<=12)(hl:b.f+FG c<=4001)(hp:b.pl+nL 1 c<=4000)(hc:b.g+nL 8 c<=4000)(ha:a<=8002):
 F' zy 104 #[Z' j,N' #[p,sv],a] w λe z=>e=(Dx c a b:M)/\Sb j I m B l (DI l c a b) z/\Ml j m B w z:=by
 have a7:=hR;obtain⟨c8,E,_⟩:=a7;obtain⟨va,R,rfl⟩:=CB E;have a4:=E;have HU:=J hU;have d2:=Qd c;clear hU E;by_cases h0:L c=0
 .have y:=(CT Cb w).alloc<|R' #[G A p,Y va 0 R] 149;have e:c=[]:=List.eq_nil_of_length_eq_zero h0;subst e;have F:Dx [] a b=a:=Q;have e2:DI l [] a b=b:=Q;rw[F,e2];clear F e2 a4 hR;have H:=h;clear h;go_in;go_wp2_with fail;go_ret;exact⟨Q,H.t8 y,Ml.wW y⟩
 .obtain⟨n,a5⟩:∃n,L c=n+1:=⟨L c-1,by omega⟩;have F:Dx c a b=L b.f:=by unfold Dx;rw[Ba h0]
  rw[F];generalize hV:DI l c a b=V;have G0:tQ l P c a V b 0:=⟨hk,hn,hl,hp,hc,hV⟩;have HN:=J a5;rw[a5];rw[a5]at hR a4;have y:=(CT Cb w).alloc<|R' #[G A p,Y va (n+1) R] 149;have S0:=W.new w #[G A p,Y va (n+1) R] 149;obtain⟨g,rfl⟩:=CH a4 (by omega);have d0:=Uu a4;have d3:n<=4000:=by omega
  have b0:=h;obtain⟨nv,sv,hb⟩:=h;obtain⟨sa,sc,rfl,_⟩:=hb.f.form;have r3:=(hb.t8 y).p.j3;have lb:=Cz hb.p;have b2:=b0.t8 y;have b3:=Ml.wW (bb:=j) (vm:=m) (B:=B) y;clear hb F hV a5 h0 hk;go_in;go_wp2_with fail;go_loopw[30] (λi wr=>∃(k:M) (f:Bd),k<=n/\i=G A k/\tQ l P c a V f k/\Sb j I m B l f wr/\Ml j m B w wr/\W w #[G A p,Y g (n+1) R] 149 wr) (λi _=>n-(zm i).toNat);exact⟨0,b,by omega,Q,G0,b2,b3,S0⟩;obtain⟨k,f,d1,rfl,x,B1,S,S1⟩:=hrel;clear G0 b2 b3 S0 y b0 r3;have a6:Gq d U wr (Y g (n+1) R) c:=S.t8 HU.o hR;have a7:=a6;obtain⟨c9,E,_⟩:=a7;have lg:=(E.lt g Q).2;have N:k<L c:=by have:=HN.o;omega
  obtain⟨s,X,l1,c1,a2,l2,c2,u,a9⟩:=a6.get N;have f0:=u 0 (by omega);have f1:=u 1 (by omega);have f2:=u 2 (by omega);have f3:=u 3 (by omega);have f4:=u 4 (by omega);have f5:=u 5 (by omega);have f6:=u 6 (by omega);have f7:=u 7 (by omega);simp only[Jc,Ac,Aa,Ab,Au]at f0 f1 f2 f3 f4 f5 f6 f7;have a8:=hO c[k]<|Am _;have b8:=Wo c k N x.ok;have hz:=RH c k N;have b9:=PZ 1 c k N;have c0:=PZ 8 c k N;have b4:=x.st;have b5:=x.pl;have b6:=x.g;have b7:=x.nm;clear E u a6;have z1:=S.size;by_cases c4:k<n
  .have GN:=x.q (by have:=HN.o;omega);generalize c[k]=t at*;have o:L f.f<=4000/\IL t<=4001/\L f.f+IL t<=4001/\f.pl+nK 1 t<=4000/\f.g+nK 8 t<=4000:=by have:=UF t;show _/\_;omega
   clear hz b9 c0 b4 b5 b6;have C:=(CT Cb wr).alloc<|R' #[G A s.e,Y' s.tg.a,G A s.tg.t9,Y' s.sr.a,G A s.sr.t9,G A s.wU,Y X l1 c1,Y a2 l2 c2] 270;have N4:=W.new wr #[G A s.e,Y' s.tg.a,G A s.tg.t9,Y' s.sr.a,G A s.sr.t9,G A s.wU,Y X l1 c1,Y a2 l2 c2] 270;go_wp2_with fail;generalize wr.alloc _=W4 at*;obtain⟨d4,d5,a3⟩:=B1.t8 C;obtain⟨c6,c7,rfl,_⟩:=a3.f.form;refine Fu<|kO _ j wr (L f.f) (IL t) c6 c7 (G A s.e) (Y' s.tg.a) (G A s.tg.t9) (Y' s.sr.a) (G A s.sr.t9) (G A s.wU) (Y X l1 c1) (Y a2 l2 c2) W4 o.1 o.2.1 (λz r=>?_) (λz r=>?_) λz r=>?_
   .have q1:=(a3.t8 r).p.z 3;have v:=N4.j r id;exact⟨q1,v.z 0,v.z 1,v.z 2,v.z 3,v.z 4,v.z 5,v.z 6,v.z 7⟩
   .exact OJ d U t _ z (EG.j (EG.j a9 C λ_ _ q=>q) r λ_ _ q=>q) a8 o.2.1
   .refine(hS j I m B U l P f t (L f.f+IL t) _ z ⟨_,_,a3.t8 r⟩ (by have:=C.size;have:=r.size;omega) HU.o (EG.j (EG.j a9 C λ_ _ q=>q) r λ_ _ q=>q) a8 b8.1 b7 o.2.2.1 o.2.2.2.1 o.2.2.2.2<|by have:=o;omega).mono ?_;rintro e w5 ⟨rfl,K,a0⟩;refine⟨Q,λd6 d7 d8 d9 e0 e3 e4 e5 e6 e7 e8=>?_⟩;have FF:=(Ml.wW (bb:=j) (vm:=m) (B:=B)<|C.trans r).trans a0;have H5:=K;have S5:=FF.p B1 S1 (by decide) (by decide) (by decide);have F5:=S.trans FF;clear K a0 FF C N4 a3 r;go_wp2_with fail;go_round;exact⟨k+1,_,by omega,by go_num,GN,H5,F5,S5⟩;simp[intOf];omega
  .have e:k=n:=by omega
   subst e;have c3:=J<|cA l c k HN.o a f;have c5:=Qd<|c.drop<|k+1;generalize c[k]=t at*;have o:L f.f+IL t<=4001/\f.pl+nK 1 t<=4000/\f.g+nK 8 t<=4000:=by show _/\_;omega
   clear hz b9 c0 b4 b5 b6 c5 c4;have m1:=S1.j1;go_wp2_with(go_at_call 149;refine(hS j I m B U l P f t a #[G A s.e,Y' s.tg.a,G A s.tg.t9,Y' s.sr.a,G A s.sr.t9,G A s.wU,Y X l1 c1,Y a2 l2 c2] _ B1 (by omega) HU.o a9 a8 b8.1 b7 o.1 o.2.1 o.2.2 ha).mono ?_;rintro e w5 ⟨rfl,K,a0⟩);go_ret;rw[<-c3.o,x.is]at K;exact⟨Q,K,S.trans a0⟩
theorem Vy(v j)(d:j<B):∀(a:List<|Ci) (i:M),(∀x,x∈a->x=B)->(h:i<a)->a.flatten.set (i*B+j) v=(a.set i<|a[i].set j v).flatten
 |[],i,_,h=>by simp at h
 |c::a,0,b,_=>by grind
 |c::a,i+1,b,h=>by have f:=b c (by simp);have g:=Vy v j d a i (λx e=>b x<|Ax _ e) (by simpa using h);grind
theorem DD.stored(h:DD B P (Y C R X) p9){i:M}(U:i<p9)(j k:M)(f:DX->DX)(y:j<8)
 (v:∀s a,(NS s a).set j k=NS (f s) a)(S:∀s,(f s).k=s.k):DD B (P.setCell (C,i*8+j) k) (Y C R X)<|p9.modify i f:=by
 have⟨b,m,z,r⟩:=h;have E:=CU m;subst E;have I:=(m.stored (i*8+j) k).1;have⟨N,u⟩:=E0 m;have H:O (λk=>k=C) P<|P.setCell (C,i*8+j) k:=(CT _ _).wS _ _;have t:∀x,x∈b->L x=8:=by intro x K;obtain⟨q,c,rfl⟩:=AC.1 K;have⟨_,e,_⟩:=r q c (by omega);rw[e];rfl
 rw[Vy _ j y b i t<|by omega]at I;refine⟨b.set i<|b[i].set j k,by grind,by simp[z],λq c o=>?_⟩;simp only[Bi,List.length_modify]at c o;have⟨a,e,p⟩:=r q c o;have F:CY B (P.setCell (C,i*8+j) k) a p9[q].k:=Cx p H<|CL p u nofun;rw[List.getElem_set,List.getElem_modify];by_cases d:i=q;subst d;rw[Bb Q,Bb Q,e];exact⟨a,v _ _,by grind⟩;rw[Ba d,Ba d];exact⟨a,e,F⟩
theorem Fh.stored(h:Fh B C R X n0 q3 V (Y v0 p0 o1) P){i:M}(r:i<q3.f)(j k:M)(f:DX->DX)(t:j<8)
 (p:∀s e,(NS s e).set j k=NS (f s) e)(o:∀s,(f s).k=s.k):
 Fh B C R X n0 {q3 with f:=q3.f.modify i f} V (Y v0 p0 o1) (P.setCell (v0,i*8+j) k)/\Ml B R X P (P.setCell (v0,i*8+j) k):=by
 have u:=h.f.stored r j k f t p o;have⟨v,d,_⟩:=h.f;have⟨l,c⟩:=E0 d;have m:=(d.lt v0 Q).1;have a:O (λk=>k=v0) P<|P.setCell (v0,i*8+j) k:=(CT _ _).wS _ _;exact⟨⟨h.p.j a λq=>CL d h.p nofun v0 Q q.symm,h.fns.j a<|h.fns.ne c,h.y.j a<|h.y.ne c,Cx h.wT a<|CL h.wT c nofun,u,h.ne⟩,
  a.mono (λk _ q=>by subst q;exact zn<|zn ⟨m,l,_,_,c,zn Q⟩)⟩
theorem Fh.am{v' av:H'}{st:DX}(h:Fh B C R X n0 q3 V z0 P)(d:J' P X 206 8 z0 q3.f v9.flatten)(m:L v9=q3.f)
 (U:∀i (h:i<L v9) (h':i<L q3.f),Zs X P v9[i] q3.f[i])(I:CY X P av st.k)(E:O Cb P y0)(F:y0.grownBy v1<|L' z0)(s:J' v1 X 206 8 v' (L q3.f+1)<|v9.flatten++NS st av):
 Fh B C R X n0 {q3 with f:=q3.f++[st]} V v' (v1.setCell (B,3) v')/\Ml B R X P (v1.setCell (B,3) v'):=by
 have a:O (λk=>L' z0=T k) P v1:=O.xA (E.mono λ_ _ q=>q.elim) F λj S=>zo S;have c:W B (tL C R V z0 q3) 143 v1:=h.p.j a λq=>CL d h.p nofun B q Q;have f:O (λk=>k=B) v1<|v1.setCell (B,3) v':=(CT _ _).wS 3 _;have n:=h.fns.j a<|NF d h.fns;have p:=h.y.j a<|NF d h.y;have r:CK X v1 V q3.wT:=CD h.wT a<|Ht d nofun;have t:∀{u:H'} {l:Cf},CY X P u l->CY X (v1.setCell (B,3) v') u l:=λg=>by have v:CY X v1 _ _:=CD g a<|Ht d nofun;exact Cx v f<|CL v c nofun
 refine⟨⟨c.set 3 _,n.j f<|n.ne c,p.j f<|p.ne c,Cx r f<|CL r c nofun,⟨v9++[NS st av],?_,by simp[m],λi K N=>?_⟩,h.ne⟩,?_⟩;rw[List.flatten_append,Ah];simp only[List.flatten_cons,List.flatten_nil,AN,Az];exact Cx s f<|CL s c nofun;simp only[Ah,Az]at K N;by_cases o:i<q3.f;have⟨u,e,g⟩:=U i (by omega) o;rw[AD<|by omega,AD o];exact⟨u,e,t g⟩;have e:i=q3.f:=by omega
 subst e;rw[AB<|by omega,AB<|by omega];simp only[m,Nat.sub_self,AA];exact⟨av,Q,t I⟩;have x:Ml B R X P v1:=a.mono (λk _ q=>by have⟨z,v9,y,H⟩:=ES d q;exact zn<|zn ⟨z,v9,_,y,H,zn Q⟩)
 exact x.trans<|f.mono λ_ _ q=>zo q
abbrev wN:Cg:=#[G A 0,G A 0,G A 0,G A 0,G A 0,Y Z 0 0,G A 0,G A 0]
theorem Tryz.infoStep:(Tryz.prog.info? 206).map (λi=>(i.zero,i.size,i.bytes))=T (T<|N' wN,8,80):=by kernel_rfl
theorem kK(R:Act->I'->Prop)(c s p l B t b z m n a e g f d){C F I K N P S U X a0 a1 a2 a3 a4 a5 a6 a7 a8 a9 b0 b1 b2 b3 b4 b5 b6 b7 b8 b9 c0 c1 c2 c3}
 (h:Fh c s p B t b z (Y m b.f n) d)(hB:B<=d)(i:W l #[a.e,a.w,a.n,a.wU,a.t,Y e g f,a.q,a.xI] 206 d)(hi:CY B d (Y e g f) a.k)(hl:L b.f<=4001)
 (hQ:∀(r:I') (o:H') (d3 d4 d5 d6 d7 d8 d9 e1 e2 e3:H'),Fh c s p B t {b with f:=b.f++[a]} z o r->Ml c p B d r->R {tmps:=#[Z' c,V,z0,s0,u1,x2,v2,Z' l,z3,y3,x3,v3,t3,o3,z4,y4,r4,o4,y5,x5,v5,u5,r5,d3,d4,d5,d6,d7,d8,d9,e1,e2,e3,y6,x8,x7,v7,u7,t7,s7,r7,q7,p7,n6,z7,x6,v6,q5,p5,o7,v8,r8,u9,s9,r9,o9,n9,C,F,I,K,N,P,S,U,X,a0,a1,a2,a3,a4,a5,a6,a7,a8,a9,b0,b1,b2,b3,b4,b5,b6,b7,b8,b9,c0,c1,c2,c3],defers:=[]} r):
 Code.wp zy (rg Tryz.f149 4) (K6 R) {tmps:=#[Z' c,V,z0,s0,u1,x2,v2,Z' l,z3,y3,x3,v3,t3,o3,z4,y4,r4,o4,y5,x5,v5,u5,r5,o5,n5,z6,u6,t6,y8,r6,q6,p6,o6,y6,x8,x7,v7,u7,t7,s7,r7,q7,p7,n6,z7,x6,v6,q5,p5,o7,v8,r8,u9,s9,r9,o9,n9,C,F,I,K,N,P,S,U,X,a0,a1,a2,a3,a4,a5,a6,a7,a8,a9,b0,b1,b2,b3,b4,b5,b6,b7,b8,b9,c0,c1,c2,c3],defers:=[]} d:=by
 change Code.wp _ (.region _ _ _) _ _ _;have⟨i0,c5,c7,c8,c9⟩:=Bx Tryz.infoStep;have y:=Cz h.p;have e5:=Cz i;have r3:=h.p.j3;have f3:=h.p.wV 3;have e0:=i.z;have⟨cs,k,c4,c6⟩:=h.f;have u:=J (CL k h.p<|by decide);have H:=h;clear h i;go_region_law(refine C7 Q _ _ 141 Q B 206 i0 (N' wN) 8 80 underlying141 c5 c7 c8 c9 Q (by decide) _ _ _ Q (k.alloc _) d 1 1 [G A a.e,a.w,a.n,a.wU,a.t,Y e g f,a.q,a.xI] Q Q (C3 Q _ _) (λx w=>by simp only[AY,AE,or_false]at w;rcases w with rfl|rfl|rfl|rfl|rfl|rfl|rfl|rfl<;>rfl) (by decide) (by unfold E';omega) (by omega) (by simp;omega) ?_;intro o q v j e4;have q1:q (c,3)=Y m b.f n:=(Ae<|j.block c (by simp;omega) λh=>u.o c h.symm Q).trans (by rw[<-r3];exact Ae<|Ao _ _ _ y);have q2:q.frozen? (c,3)=zr:=(Aj<|j.block c (by simp;omega) λh=>u.o c h.symm Q).trans (by rw[<-f3];exact Aj<|Ao _ _ _ y);obtain⟨d0,d2,d1,rfl⟩:=CA v);all_goals
  have g5:(d.alloc<|R' #[a.e,a.w,a.n,a.wU,a.t,Y e g f,a.q,a.xI] 206).drew.grownBy q<|L'<|Y m b.f n:=j;have E:=H.am (st:=a) (av:=Y e g f) (v':=Y d0 d2 d1) k c4 c6 hi (((CT _ d).alloc<|R' #[a.e,a.w,a.n,a.wU,a.t,Y e g f,a.q,a.xI] 206).drew) g5 v;exact hQ _ _ _ _ _ _ _ _ _ _ _ _ E.1 E.2
theorem EG.xR{w s b v l}(h:EG (B+1) z1 w (.mk s b) (Jc s (Y v C R)<|Y l X v0).toList):
 ∀i (q:i<L b),∃(g:M) (c:Ch) (k f:M),l=g/\L b<=v0/\g<w.heap.size/\w ⟨g,i*2,Z⟩=T (G A (b[i].1:M))/\w ⟨g,i*2+1,Z⟩=T (Y c k f)/\Gq B z1 w (Y c k f) b[i].2:=by
 intro i q;have⟨N,P,y,p,S,V,a,a0,a3,H⟩:=h;simp only[Jc,List.cons.injEq,and_true,true_and]at p;obtain⟨_,rfl⟩:=p;cases CU a;obtain⟨g,rfl⟩:=CH a (by omega);have F:=Uu a;have⟨sv,z,e,r,I,u,K⟩:=H i q (by omega);obtain⟨c,k,f,rfl⟩:=CA r;have t:∀x,x∈y->L x=2:=by grind[List.mem_iff_getElem]
 have n:=a.cellAt (i*2) (by omega);have o:=a.cellAt (i*2+1) (by omega);have m:=EO t (j:=i) (i:=0) (by omega) (by omega);have E:=EO t (j:=i) (i:=1) (by omega) (by omega);rw[Au]at m;rw[m,e]at n;rw[E,e]at o;exact⟨g,c,k,f,Q,F,(a.lt g Q).2,n,o,z,r,I,u,K⟩
theorem Ml.tree{b c a t}(i:Ml b c a P y0)(g:∀k,z1 k->k<a/\k≠b/\k≠c)(h:EG B z1 P t y1):EG B z1 y0 t y1:=
 EG.j h i (λk j q=>by
  obtain⟨l,e,f⟩:=g k j;rcases q with q|q|⟨q,_⟩
  .exact e q
  .exact f q
  .omega)
theorem DD.t9(h:DD B P V p9){i}(l:i<L p9):∃g c,V=Y (T ⟨g,0,Z⟩) (L p9) c/\g<P.heap.size/\(∀j,j<8->∃u,K' P ⟨g,i*8+j,Z⟩=T u)/\∀j,P.frozen? ⟨g,j,Z⟩=zr:=by obtain⟨a,c,rfl,k⟩:=h.form;obtain⟨g,rfl,n⟩:=k (by omega);have⟨d,e,_⟩:=h.get l;have⟨o,m,_⟩:=h;have⟨p,f⟩:=E0 m;refine⟨g,c,Q,n,λj b=>?_,λj=>CZ f j⟩;have:=e j b;rw[this];have q:j<(NS p9[i] d):=b;grind
theorem XO(d)(hS:Zk d):Zk<|d+1:=by
 intro m C o B U c a5 b t a cs w h hB hU hT hO n hn hl hp hc ha;obtain⟨s,bl⟩:=t;have d0:=hT;obtain⟨av,bv,h4,e6,b7,g5,e5,_⟩:=hT;obtain⟨a1,l1,c1,rfl⟩:=CA b7;obtain⟨a2,c2,rfl⟩:=CB e5;cases CU b7;have g6:cs=Jc s (Y a1 (L s.k) c1) (Y a2 (L bl) c2):=Array.ext' e6;subst g6;have g7:s.e=0->s.tg.a∉b.wT:=by
  intro h0;match bl,n with
  |[],n=>exact(n.2.decl h0).1
  |[(_,_)],n=>have:=n.1;omega
  |[(_,_),(_,_)],n=>have:=n.1;omega
 obtain⟨ho,_,h7,d6⟩:=hO;have HA:=b7;have HU:=J hU;have H:=h;have hz:=UF<|.mk s bl;have u:=(CT Cb w).alloc<|R' #[G A s.e,Y' s.tg.a,G A s.tg.t9,Y' s.sr.a,G A s.sr.t9,G A s.wU,Y a1 (L s.k) c1,Y a2 (L bl) c2] 270;have SB:=W.new w #[G A s.e,Y' s.tg.a,G A s.tg.t9,Y' s.sr.a,G A s.sr.t9,G A s.wU,Y a1 (L s.k) c1,Y a2 (L bl) c2] 270;obtain⟨nv,sv,hb⟩:=h;obtain⟨sa,sc,rfl,_⟩:=hb.f.form;have r3:=(hb.t8 u).p.j3;have lb:=Cz hb.p;clear b7 hU e6 e5 g5 hb;obtain⟨ar,b7⟩:=Dv<|(Db c s b).k;generalize hV:Gy c (.mk s bl) a b=V;have HV:=J hV;clear hV;unfold Jc;go_in;go_wp2_with(go_at_call 170;refine(bL m C o B c b s a1 c1 a2 (L bl) c2 _ (H.t8 u) (by have:=u.size;omega) (Cx HA u λ_ _ q=>q) ho (by omega) (by omega) (by omega) g7).mono ?_;rintro e w1 ⟨v,rfl,d5,b8,d4⟩;obtain⟨aa,al,ac,rfl⟩:=CA d5;have B1:=b8;clear b8;simp only[NS]);have FA:=(Ml.wW (bb:=m) (vm:=o) (B:=B) u).trans d4.more;have d8:=d4.p (H.t8 u) SB (by decide) (by decide);have b9:B<=w1:=by have:=FA.size;omega
 have a9:=(CT Cb w1).alloc<|R' #[G A (Db c s b).e,G A (Db c s b).w,G A (Db c s b).n,G A (Db c s b).wU,G A (Db c s b).t,Y aa al ac,G A a,G A (Db c s b).xI] 206;have d7:=W.new w1 #[G A (Db c s b).e,G A (Db c s b).w,G A (Db c s b).n,G A (Db c s b).wU,G A (Db c s b).t,Y aa al ac,G A a,G A (Db c s b).xI] 206;generalize w1.alloc _=W1 at*;obtain⟨f8,i2,c6⟩:=B1.t8 a9;obtain⟨h2,h3,rfl,_⟩:=c6.f.form;have I2:CY B W1 (Y aa al ac) (Db c s b).k:=CN (Cx d5 a9 λ_ _ q=>q) (by have:=u.size;omega);have g9:=a9.size;have e9:L (EY s b).f<=4001:=by show L b.f<=4001;omega
 refine Fu<|kK _ m C o w1 B c (EY s b) f8 h2 h3 {Db c s b with q:=a} aa al ac W1 c6 (by omega) d7 I2 e9 ?_;intro w9 v' i5 i6 i7 i8 i9 j0 j3 j4 j5 j6 h9 f9;have H9:Sb m C o B c (CV c s a b) w9:=⟨f8,v',h9⟩;have X:=(FA.trans<|Ml.wW a9).trans f9;have b5:=f9.p ⟨_,_,c6⟩ (d8.j a9 id) (by decide) (by decide) (by decide);clear h9 f9 c6 d8 SB a9 u d7 d5 I2 B1 d4 FA H e9 b9 g9 r3 HA;obtain⟨m0,-,-,-,-,-,-,S⟩:=b5.k8;have z9:=X.size;rcases bl with _|⟨⟨K,f⟩,_|⟨⟨p2,j⟩,_|⟨q3,r4⟩⟩⟩
 .have j1:¬(s.e:zw)=11:=by have:=n.1;omega
  have j2:¬(s.e:zw)=12:=by have:=n.1;omega
  go_wp2_with fail;go_end0;cases HV.o;exact⟨Q,H9,X⟩
 .simp only[Af,Aw,AM]at S;have x:=n.1;have r:=Hb c s a b x;have R:L (CV c s a b).f=L b.f+1:=by rw[DK];simp
  have a4:Mn c a5 f (CV c s a b).wT:=by rw[r.1];exact n.2
  have c0:=a4;have y:=λa'=>GV f a' (CV c s a b) a4
  have b9:IL (.mk s [(K,f)])=1+(FG f+0):=Q;have a0:nK 1 (.mk s [(K,f)])=(if s.e=1 then 1 else 0)+(nL 1 f+0):=Q;have b3:nK 8 (.mk s [(K,f)])=(if s.e=8 then 1 else 0)+(nL 8 f+0):=Q;have p:L (CV c s a b).wT<=12/\L (CV c s a b).f+FG f<=4001/\(CV c s a b).pl+nL 1 f<=4000/\(CV c s a b).g+nL 8 f<=4000:=by
   show _/\_;rw[r.1,r.2.1,r.2.2,R];refine⟨hn,by omega,?_,?_⟩
   .rw[a0,Ba<|by omega]at hp;omega
   .rw[b3,Ba<|by omega]at hc;omega
  have a6:=J R;have c8:=d6 (K,f) (by simp);obtain⟨g,ba,c5,bc,rfl,d3,lg,f0,f1,a8⟩:=(X.tree HU.o d0).xR 0 (by simp);simp only[AA,Nat.zero_mul,AM]at f0 f1 a8;have TR:=a8;clear a8 a4 R r a0 b3 b9;rcases x with x|x
  .have a3:(s.e:zw)=11:=by omega
   have b2:=J x;rw[a3]at m0;clear a3 x;have c7:=d3;simp only[Af,Aw,AM]at c7;rcases Nat.eq_or_lt_of_le c7 with d2|d2
   subst d2;rotate_left;have h5:¬c2=1:=by omega
   all_goals
    go_wp2_with(go_at_call 104;refine(Jg d hS m C o B U c a5 (CV c s a b) K a f (Y ba c5 bc) _ H9 (by omega) HU.o TR c8.2 c0 p.1 p.2.1 p.2.2.1 p.2.2.2<|by omega).mono ?_;rintro e c9 ⟨rfl,⟨g0,g1,l⟩,z⟩;obtain⟨N,c3,rfl,f7,F,I⟩:=l.f.t9 (i:=L b.f) (by rw[(y a).len,a6.o];omega);have b1:=l;have r3:=l.p.j3;obtain⟨u7,q7⟩:=F 7 (by decide);have qf:=I<|L b.f*8+7;have b4:L b.f<L (DI c f a<|CV c s a b).f:=(by rw[(y a).len,a6.o];omega);have b0:=z;have P:=z.p H9 b5 (by decide) (by decide) (by decide);have S:=P.z 7;simp only[Ac,Aa,Ab,Af,Aw,AM]at S;have e8:¬N=w:=(by obtain⟨e3,b6,_⟩:=l.f;exact λq=>CL b6 P (by decide) N Q q);clear l z F I);have E:=b1.stored (i:=L b.f) b4 7 (Dx f a<|CV c s a b) (λq=>{q with xI:=Dx f a<|CV c s a b}) (by decide) (λ_ _=>Q) λ_=>Q;have e:=HV.o;simp only[Gy,Bb b2.o]at e;subst e;have E1:Sb m C o B c ((DI c f a<|CV c s a b).tk (L b.f)<|Dx f a<|CV c s a b)<|c9.setCell (N,L b.f*8+7)<|G A (Dx f a (CV c s a b):M):=⟨_,_,E.1⟩;have E2:=(X.trans b0).trans E.2;clear E;go_loopw[56] (λi wr=>∃k:M,k<=0/\i=G A k/\Sb m C o B c ((DI c f a<|CV c s a b).tk (L b.f)<|Dx f a<|CV c s a b) wr/\Ml m o B w wr) (λi _=>0-(zm i).toNat);exact⟨0,by omega,Q,E1,E2⟩;obtain⟨k,h6,rfl,E3,E4⟩:=hrel;have e0:k=0:=by omega
    subst e0;clear E1 E2;go_wp2_with fail;go_end0;exact⟨Q,E3,E4⟩
  .have a3:(s.e:zw)=12:=by omega
   have b2:=J x;rw[a3]at m0;clear a3 x;go_wp2_with(go_at_call 104;refine(Jg d hS m C o B U c a5 (CV c s a b) K (L b.f) f (Y ba c5 bc) _ H9 (by omega) HU.o TR c8.2 c0 p.1 p.2.1 p.2.2.1 p.2.2.2<|by omega).mono ?_;rintro e c9 ⟨rfl,⟨g0,g1,l⟩,z⟩;obtain⟨N,c3,rfl,f7,F,I⟩:=l.f.t9 (i:=L b.f) (by rw[(y<|L b.f).len,a6.o];omega);have b1:=l;have r3:=l.p.j3;obtain⟨u7,q7⟩:=F 7 (by decide);have qf:=I<|L b.f*8+7;have b4:L b.f<L (DI c f (L b.f)<|CV c s a b).f:=(by rw[(y<|L b.f).len,a6.o];omega);have b0:=z;have P:=z.p H9 b5 (by decide) (by decide) (by decide);have S:=P.z 7;simp only[Ac,Aa,Ab,Af,Aw,AM]at S;have e8:¬N=(w:M):=(by obtain⟨e3,b6,_⟩:=l.f;exact λq=>CL b6 P (by decide) N Q q);clear l z F I);go_end0;have E:=b1.stored (i:=L b.f) b4 7 (Dx f (L b.f)<|CV c s a b) (λq=>{q with xI:=Dx f (L b.f)<|CV c s a b}) (by decide) (λ_ _=>Q) λ_=>Q;have e:=HV.o;have k1:¬s.e=11:=by have:=b2.o;omega
   simp only[Gy,Ba k1,Bb b2.o]at e;subst e;exact⟨Q,⟨_,_,E.1⟩,(X.trans b0).trans E.2⟩
 .simp only[Af,Aw,AM,Nat.reduceAdd]at S;have x:=n.1;have r:=Hb c s a b<|zo x;have R:L (CV c s a b).f=L b.f+1:=by rw[DK];simp
  have a4:Mn c a5 f (CV c s a b).wT:=by rw[r.1];exact n.2.1
  have c0:=a4;have y:=λa'=>GV f a' (CV c s a b) a4
  have b9:IL (.mk s [(K,f),(p2,j)])=1+(FG f+(FG j+0)):=Q;have a0:nK 1 (.mk s [(K,f),(p2,j)])=(if s.e=1 then 1 else 0)+(nL 1 f+(nL 1 j+0)):=Q;have b3:nK 8 (.mk s [(K,f),(p2,j)])=(if s.e=8 then 1 else 0)+(nL 8 f+(nL 8 j+0)):=Q;have p:L (CV c s a b).wT<=12/\L (CV c s a b).f+FG f<=4001/\(CV c s a b).pl+nL 1 f<=4000/\(CV c s a b).g+nL 8 f<=4000:=by
   show _/\_;rw[r.1,r.2.1,r.2.2,R];refine⟨hn,by omega,?_,?_⟩
   .rw[a0,Ba<|by omega]at hp;omega
   .rw[b3,Ba<|by omega]at hc;omega
  have a6:=J R;have c8:=d6 (K,f) (by simp);obtain⟨g,ba,c5,bc,rfl,d3,lg,f0,f1,a8⟩:=(X.tree HU.o d0).xR 0 (by simp);simp only[AA,Nat.zero_mul,AM]at f0 f1 a8;have TR:=a8;have f5:=(IZ f (CV c s a b).wT a4).2 p.1;have a7:L ((DI c f a<|CV c s a b).tk (L b.f)<|Dx f a<|CV c s a b).wT<=12/\L ((DI c f a<|CV c s a b).tk (L b.f)<|Dx f a<|CV c s a b).f+FG j<=4001/\((DI c f a<|CV c s a b).tk (L b.f)<|Dx f a<|CV c s a b).pl+nL 1 j<=4000/\((DI c f a<|CV c s a b).tk (L b.f)<|Dx f a<|CV c s a b).g+nL 8 j<=4000/\Mn c a5 j ((DI c f a<|CV c s a b).tk (L b.f)<|Dx f a<|CV c s a b).wT/\L b.f<L ((DI c f a<|CV c s a b).tk (L b.f)<|Dx f a<|CV c s a b).f:=by
   show _/\_;rw[RN];show L (DI c f a<|CV c s a b).wT<=12/\L (DI c f a<|CV c s a b).f+FG j<=4001/\(DI c f a<|CV c s a b).pl+nL 1 j<=4000/\(DI c f a<|CV c s a b).g+nL 8 j<=4000/\Mn c a5 j (DI c f a<|CV c s a b).wT/\L b.f<L (DI c f a<|CV c s a b).f;rw[(y a).wT,(y a).len,(y a).pl,(y a).g];refine⟨f5,?_,?_,?_,?_,?_⟩
   .rw[R];omega
   .rw[r.2.1];rw[a0,Ba<|by omega]at hp;omega
   .rw[r.2.2];rw[b3,Ba<|by omega]at hc;omega
   .rw[r.1];exact n.2.2
   .rw[R];omega
  have h1:=d6 (p2,j) (by simp);clear a8 a4 R r a0 b3 b9 f5;have a3:(s.e:zw)=11:=by omega
  have b2:=J x;rw[a3]at m0;clear a3 x;have c7:=d3;simp only[Af,Aw,AM,Nat.reduceAdd]at c7;have d2:¬c2=1:=by omega
  go_wp2_with(go_at_call 104;refine(Jg d hS m C o B U c a5 (CV c s a b) K a f (Y ba c5 bc) _ H9 (by omega) HU.o TR c8.2 c0 p.1 p.2.1 p.2.2.1 p.2.2.2<|by omega).mono ?_;rintro e c9 ⟨rfl,⟨g0,g1,l⟩,z⟩;obtain⟨N,c3,rfl,f7,F,I⟩:=l.f.t9 (i:=L b.f) (by rw[(y a).len,a6.o];omega);have b1:=l;have r3:=l.p.j3;obtain⟨u7,q7⟩:=F 7 (by decide);have qf:=I<|L b.f*8+7;have b4:L b.f<L (DI c f a<|CV c s a b).f:=(by rw[(y a).len,a6.o];omega);have b0:=z;have P:=z.p H9 b5 (by decide) (by decide) (by decide);have S:=P.z 7;simp only[Ac,Aa,Ab,Af,Aw,AM,Nat.reduceAdd]at S;have e8:¬N=w:=(by obtain⟨e3,b6,_⟩:=l.f;exact λq=>CL b6 P (by decide) N Q q);clear l z F I);have E:=b1.stored (i:=L b.f) b4 7 (Dx f a<|CV c s a b) (λq=>{q with xI:=Dx f a<|CV c s a b}) (by decide) (λ_ _=>Q) λ_=>Q;have e:=HV.o;simp only[Gy,Bb b2.o]at e;have EV:=J e;clear e;have E1:Sb m C o B c ((DI c f a<|CV c s a b).tk (L b.f)<|Dx f a<|CV c s a b)<|c9.setCell (N,L b.f*8+7)<|G A (Dx f a (CV c s a b):M):=⟨_,_,E.1⟩;have E2:=(X.trans b0).trans E.2;clear E b1 b0 P S m0 q7 qf r3 X b5 H9 b4;go_loopw[56] (λi wr=>∃(k:M) (bk:Bd),k<=1/\i=G A k/\D (k=0->bk=(DI c f a<|CV c s a b).tk (L b.f) (Dx f a<|CV c s a b))/\D (k=1->bk=V)/\Sb m C o B c bk wr/\Ml m o B w wr) (λi _=>1-(zm i).toNat);exact⟨0,_,by omega,Q,λ_=>Q,λq=>by omega,E1,E2⟩;obtain⟨k,bk,a0,rfl,e4,b8,E3,E4⟩:=hrel;clear E1 E2;have g8:k=0\/k=1:=by omega
  rcases g8 with rfl|rfl
  .cases e4.o Q;clear e4 b8 a0;obtain⟨g',d9,e2,e1,e7,_,h8,f2,f3,f6⟩:=(E4.tree HU.o d0).xR 1 (by simp);simp only[Ai,Addr.mk.injEq,and_true]at e7;subst e7;simp only[AW,AA,Nat.one_mul,Nat.reduceAdd]at f2 f3 f6;have u:=(CT Cb wr).alloc<|R' #[G A p2,Y d9 e2 e1] 149;go_wp2_with(go_at_call 104;refine(Jg d hS m C o B U c a5 ((DI c f a<|CV c s a b).tk (L b.f)<|Dx f a<|CV c s a b) p2 a j (Y d9 e2 e1) _ (E3.t8 u) (by have:=E4.size;have:=u.size;omega) HU.o (Gq.j f6 u λ_ _ q=>q) h1.2 a7.2.2.2.2.1 a7.1 a7.2.1 a7.2.2.1 a7.2.2.2.1 ha).mono ?_;rintro e i4 ⟨rfl,⟨i1,i3,d1⟩,g4⟩;have f4:L b.f<L (DI c j a<|(DI c f a<|CV c s a b).tk (L b.f)<|Dx f a<|CV c s a b).f:=(by rw[(GV j a _ a7.2.2.2.2.1).len];have:=a7.2.2.2.2.2;omega);obtain⟨g3,c4,rfl,i0,F,I⟩:=d1.f.t9 (i:=L b.f) f4;have r3:=d1.p.j3;obtain⟨u6,q6⟩:=F 6 (by decide);have qf:=I<|L b.f*8+6;clear F I);have EE:=d1.stored (i:=L b.f) f4 6 (Dx j a<|(DI c f a<|CV c s a b).tk (L b.f)<|Dx f a<|CV c s a b) (λq=>{q with q:=Dx j a<|(DI c f a<|CV c s a b).tk (L b.f)<|Dx f a<|CV c s a b}) (by decide) (λ_ _=>Q) λ_=>Q;have E5:=J EE.1;have E6:=(E4.trans<|(Ml.wW u).trans g4).trans EE.2;clear EE;go_round;exact⟨1,_,by omega,by go_num,λq=>by omega,λ_=>EV.o,⟨_,_,E5⟩,E6⟩;simp[intOf]
  .cases b8.o Q;go_wp2_with fail;go_end0;exact⟨Q,E3,E4⟩
 .exact n.elim
theorem SI:∀d,Zk d
 |0=>λ_ _ _ _ _ _ _ _ _ _ _ _ _ _ _ a _ _ _ _ _ _ _=>a.elim
 |d+1=>XO d<|SI d
theorem sT{b:Act->Prop}{c:List Oper}(v:H'){f:FuncId}{args:Cg}(j:Region.wanted p3 (yielded z5 u4.tmps)=zt)(i:∀w,p8 w->(execOp u4.eval p3).run q4 w=.ok (.enter f args) w)(g:∀w,p8 w->F' q4 f args w λe k=>e=v/\p8 k)(d:u4.put p3.dst v={tmps:=#[V,z0,s0,u1,x2,v2,z3,y3,x3,v3,t3,o3,z4,y4,r4,o4,y5,x5,v5,u5,r5,o5,n5,z6,u6,t6,y8,r6,q6,p6,o6,y6,x8,x7,v7,u7,t7,s7,r7,q7,p7,n6,z7,x6,v6,q5,p5,o7,v8,r8],defers:=[]})(h:wpQuiet q4 z5 p8 b c {tmps:=#[V,z0,s0,u1,x2,v2,z3,y3,x3,v3,t3,o3,z4,y4,r4,o4,y5,x5,v5,u5,r5,o5,n5,z6,u6,t6,y8,r6,q6,p6,o6,y6,x8,x7,v7,u7,t7,s7,r7,q7,p7,n6,z7,x6,v6,q5,p5,o7,v8,r8],defers:=[]}):wpQuiet q4 z5 p8 b (p3::c) u4:=Mv _ v j i g d h
theorem Gl{b:Act->Prop}{c:List Oper}(v)(f:Region.wanted p3 (yielded z5 u4.tmps)=zt)(e:∀w,p8 w->(execOp u4.eval p3).run q4 w=.ok (.value v) w)(d:u4.put p3.dst v={tmps:=#[V,z0,s0,u1,x2,v2,z3,y3,x3,v3,t3,o3,z4,y4,r4,o4,y5,x5,v5,u5,r5,o5,n5,z6,u6,t6,y8,r6,q6,p6,o6,y6,x8,x7,v7,u7,t7,s7,r7,q7,p7,n6,z7,x6,v6,q5,p5,o7,v8,r8],defers:=[]})(h:wpQuiet q4 z5 p8 b c {tmps:=#[V,z0,s0,u1,x2,v2,z3,y3,x3,v3,t3,o3,z4,y4,r4,o4,y5,x5,v5,u5,r5,o5,n5,z6,u6,t6,y8,r6,q6,p6,o6,y6,x8,x7,v7,u7,t7,s7,r7,q7,p7,n6,z7,x6,v6,q5,p5,o7,v8,r8],defers:=[]}):wpQuiet q4 z5 p8 b (p3::c) u4:=Px _ v f e d h
theorem kN(R:Act->I'->Prop)(g c p j h d)
 (l:∀a,O Cb d a->K' a ⟨c,3,Z⟩=T (G A (p:M))/\K' a ⟨c,4,Z⟩=T h)
 (n:∀a,O Cb d a->F' zy 105 #[N' #[G A (p:M),h]] a λe k=>e=T' (G A (j:M))/\O Cb a k)
 (m:∀a,O Cb d a->F' zy 104 #[Z'<|T ⟨g,0,Z⟩,N' #[G A (p:M),h],G A (j:M)] a λe k=>∃v,e=T' v/\∀(x y z B E F H:H'),R {tmps:=#[Z'<|T ⟨g,0,Z⟩,V,z0,Z'<|T ⟨c,0,Z⟩,s0,u1,x2,v2,z3,y3,x3,v3,t3,o3,z4,y4,r4,o4,y5,x5,v5,u5,r5,o5,n5,z6,u6,t6,x,y,z,B,E,F,H,x7,v7,u7,t7,s7,r7,q7,p7,n6,z7,x6,v6,q5,p5,o7],defers:=[]} k):
 Code.wp zy (rg Tryz.f56 7) (K6 R) {tmps:=#[Z'<|T ⟨g,0,Z⟩,V,z0,Z'<|T ⟨c,0,Z⟩,s0,u1,x2,v2,z3,y3,x3,v3,t3,o3,z4,y4,r4,o4,y5,x5,v5,u5,r5,o5,n5,z6,u6,t6,y8,r6,q6,p6,o6,y6,x8,x7,v7,u7,t7,s7,r7,q7,p7,n6,z7,x6,v6,q5,p5,o7],defers:=[]} d:=by
 change Code.wp _ (.region _ _ _) _ _ _;have i:=J l;clear l;apply JC (C:=O Cb d) (v:=Z' g) (a1:={tmps:=#[Z' g,V,z0,Z' c,s0,u1,x2,v2,z3,y3,x3,v3,t3,o3,z4,y4,r4,o4,y5,x5,v5,u5,r5,o5,n5,z6,u6,t6,Z' g,r6,q6,p6,o6,y6,x8,x7,v7,u7,t7,s7,r7,q7,p7,n6,z7,x6,v6,q5,p5,o7],defers:=[]}) 6 (by kernel_rfl) (by kernel_rfl) Io (zo ⟨by rfl,λw=>by go_simp⟩) ((CT _ d).drew) (by kernel_rfl);simp only[AX,List.take_zero,Bl,List.drop_zero,Nat.reduceSub];apply Gl (Z' (c,3)) (by rfl) (λw b=>by go_simp) Q;refine Gl (N' #[(p:M),h]) (by rfl) (λw b=>by have⟨t,u⟩:=i.o w b;go_simp) Q ?_;apply Gl (Z' (c,3)) (by rfl) (λw b=>by go_simp) Q;refine Gl (N' #[(p:M),h]) (by rfl) (λw b=>by have⟨t,u⟩:=i.o w b;go_simp) Q ?_;apply sT (j:M) (f:=105) (args:=#[N' #[(p:M),h]]) (by rfl) (λw b=>by go_simp) (λw b=>(n w b).mono λe a q=>⟨q.1,b.trans q.2⟩) Q;apply wpQuiet_nil;intro a s;have o:=m a s;clear m n i;go_wp2_with(go_at_call 104;apply o.mono;rintro e I ⟨v,rfl,r⟩);exact r _ _ _ _ _ _ _
theorem kP(R:Act->I'->Prop)(d j a g l p c e f I K n o c0 N E s m)
 (F:∀h,O Cb m h->K' h ⟨j,0,Z⟩=T (Y' c)/\K' h ⟨d,2,Z⟩=T (Y e g f)/\K' h ⟨j,2,Z⟩=T (Y I l K)/\K' h ⟨d,3,Z⟩=T (Y n p o))
 (hb:W a #[c0,N,E,s] 153 m)
 (hQ:∀(B:I') (a0 a2 a3 a4 a5 a6 a7 a8 a9 b4 b5 b6 b7 b8 b9:H'),W a #[Y' c,Y e g f,G A (l:M),Y n p o] 153 B->O (λk=>k=a) m B->R {tmps:=#[Z'<|T ⟨d,0,Z⟩,V,z0,Z'<|T ⟨j,0,Z⟩,Z'<|T ⟨a,0,Z⟩,s0,u1,x2,v2,z3,y3,x3,v3,t3,o3,z4,y4,r4,o4,y5,x5,v5,u5,r5,o5,n5,z6,u6,t6,y8,r6,q6,p6,o6,y6,a0,a2,a3,a4,a5,a6,a7,a8,a9,b4,b5,b6,b7,b8,b9],defers:=[]} B):
 Code.wp zy (rg Tryz.f56 8) (K6 R) {tmps:=#[Z'<|T ⟨d,0,Z⟩,V,z0,Z'<|T ⟨j,0,Z⟩,Z'<|T ⟨a,0,Z⟩,s0,u1,x2,v2,z3,y3,x3,v3,t3,o3,z4,y4,r4,o4,y5,x5,v5,u5,r5,o5,n5,z6,u6,t6,y8,r6,q6,p6,o6,y6,x8,x7,v7,u7,t7,s7,r7,q7,p7,n6,z7,x6,v6,q5,p5],defers:=[]} m:=by
 change Code.wp _ (.region _ _ _) _ _ _;have r:=J F;clear F;apply JC (C:=O Cb m) (v:=Z' j) (a1:={tmps:=#[Z' d,V,z0,Z' j,Z' a,s0,u1,x2,v2,z3,y3,x3,v3,t3,o3,z4,y4,r4,o4,y5,x5,v5,u5,r5,o5,n5,z6,u6,t6,y8,r6,q6,p6,o6,y6,Z' j,x7,v7,u7,t7,s7,r7,q7,p7,n6,z7,x6,v6,q5,p5],defers:=[]}) 15 (by kernel_rfl) (by kernel_rfl) Io (zo ⟨by rfl,λw=>by go_simp⟩) ((CT _ m).drew) (by kernel_rfl);simp only[AX,List.take_zero,Bl,List.drop_zero,Nat.reduceSub];apply Gl (Z' j) (by rfl) (λw b=>by go_simp) Q;refine Gl c (by rfl) (λw b=>by have⟨u,x,y,z⟩:=r.o w b;go_simp) Q ?_;apply Gl (Z' d) (by rfl) (λw b=>by go_simp) Q;apply Gl (Z' d) (by rfl) (λw b=>by go_simp) Q;apply Gl (Z' (d,2)) (by rfl) (λw b=>by go_simp) Q;refine Gl (Y e g f) (by rfl) (λw b=>by have⟨u,x,y,z⟩:=r.o w b;go_simp) Q ?_;apply Gl (Z' (j,2)) (by rfl) (λw b=>by go_simp) Q;refine Gl (Y I l K) (by rfl) (λw b=>by have⟨u,x,y,z⟩:=r.o w b;go_simp) Q ?_;apply Gl (l:M) (by rfl) (λw b=>by go_simp) Q;apply Gl (Z' d) (by rfl) (λw b=>by go_simp) Q;apply Gl (Z' d) (by rfl) (λw b=>by go_simp) Q;apply Gl (Z' (d,3)) (by rfl) (λw b=>by go_simp) Q;refine Gl (Y n p o) (by rfl) (λw b=>by have⟨u,x,y,z⟩:=r.o w b;go_simp) Q ?_;apply Gl (N' #[c,Y e g f,(l:M),Y n p o]) (by rfl) (λw b=>by go_simp) Q;apply wpQuiet_nil;intro h H;have t:=hb.j H id;have t0:=t.z;have tf:=λi=>CZ t i
 clear r;go_wp2_with fail;have P:W a #[c,N,E,s] 153<|h.setCell a c:=t.set 0 _;have S:W a #[c,Y e g f,E,s] 153<|(h.setCell a c).setCell (a,1)<|Y e g f:=P.set 1 _;have U:W a #[c,Y e g f,(l:M),s] 153<|((h.setCell a c).setCell (a,1)<|Y e g f).setCell (a,2) (l:M):=S.set 2 _;have X:W a #[c,Y e g f,(l:M),Y n p o] 153<|(((h.setCell a c).setCell (a,1)<|Y e g f).setCell (a,2) (l:M)).setCell (a,3)<|Y n p o:=U.set 3 _;exact hQ _ _ _ _ _ _ _ _ _ _ _ _ _ _ _ _ X<|((((H.mono λ_ _ q=>q.elim).wS 0 _).wS 1 _).wS 2 _).wS 3 _
structure tS(d:M)(fn:Cc)(par:Cf)(t:TF)(pl ca:M):Prop where
 yB:∀p,p∈t.m->p.a.size<=4000
 nd:(t.m.map λp=>p.a).Nodup
 xE:t.m.length<=12
 tok:∀s,s∈t.i->Sx d s
 ok:Mn fn par t.i<|t.m.map λp=>p.a
 sz:FG t.i<=4000
 pl:pl+nL 1 t.i<=4000
 g:ca+nL 8 t.i<=4000
theorem Yt{l:Dw}(h:(l.map λp=>p.a).Nodup)(a:B<l):l[B].a∉(l.take B).map (λp=>p.a):=by grind[List.take_append_drop]
theorem O.zT{X:Ce}{a:I'}(h:O (λk=>k=B) a P)(k:O X P y0)(f:∀j,X j->j=B\/(a:M)<=j):O (λk=>k=B) a y0:=
 ⟨k.os.trans h.os,k.tape.trans h.tape,k.output.trans h.output,As h.size k.size,λi d e=>by rw[k.block i (Av d h.size) λq=>(f i q).elim e λq=>by omega,h.block i d e]⟩
theorem gK(d a m:M)(U:Ce)(c:Cc)(c2:Cf)(t:TF)(f b:M)(m1 c1 b5:H')(cs:Cg)(w:I')(hb:W a #[.map<|T m,m1,c1,b5,f,b] 143 w)(hm:Fa m c w)
 (hT:Me d U w t cs.toList)(hU:∀k,U k->k<(w:M)/\k≠a)(s:tS d c c2 t f b):
 F' zy 56 #[Z' a,N' cs] w λe l=>∃vv sv,e=N' (Rk (FO c t f b) vv sv).toArray/\CK w l vv (FO c t f b).y/\DD w l sv (FO c t f b).f/\
  (∃b2 b3 b4,W a #[.map<|T m,b2,b3,b4,((LK c t f b).pl:M),((LK c t f b).g:M)] 143 l)/\Fa m c l/\O (λk=>k=a) w l:=by
 have c4:=hT;obtain⟨av,bv,b7,a0,d4,a9⟩:=hT;obtain⟨E,e6,F,rfl⟩:=CA a0;have c7:=a9;obtain⟨e0,p1,_⟩:=c7;obtain⟨B,d9,C,rfl⟩:=CA p1;cases CU a0;cases CU p1;have c6:cs=#[Y' t.I.a,G A t.I.t9,Y E (L t.m) F,G A t.t9,Y B (L t.i) C]:=Array.ext' b7;subst c6;have lb:=Cz hb;have e5:=hm.lt;have d0:=hm.ne hb;have R:=J hU;obtain⟨o,X⟩:=Dv<|((w.alloc<|R' #[t.I.a,t.I.t9,Y E t.m F,t.t9,Y B t.i C] 151).alloc<|R' #[Y' ⟨#[]⟩,Y Z 0 0,G A 0,Y Z 0 0] 153);have a7:O Cb w o:=by rw[<-X];exact((CT _ w).alloc _).alloc _
 have a1:W w #[t.I.a,t.I.t9,Y E t.m F,t.t9,Y B t.i C] 151 o:=by rw[<-X];exact(W.new w _ _).alloc _
 have b6:W ((w:M)+1) #[Y' ⟨#[]⟩,Y Z 0 0,G A 0,Y Z 0 0] 153 o:=by rw[<-X];have:=W.new (w.alloc<|R' #[t.I.a,t.I.t9,Y E t.m F,t.t9,Y B t.i C] 151) #[Y' ⟨#[]⟩,Y Z 0 0,G A 0,Y Z 0 0] 153;rw[show(w.alloc (R' #[t.I.a,t.I.t9,Y E t.m F,t.t9,Y B t.i C] 151):M)=w+1 by simp]at this;exact this
 have b9:(o:M)=w+2:=by rw[<-X];simp
 have N:=hb.j a7 id;have b1:=N.z;have bf:=λi=>CZ N i
 have g2:=a1.z;have d6:=Cz N;have d7:=Cz a1;have e2:¬a=w:=by omega
 have e4:a<w+2:=by omega
 clear hU c4 p1 b7 d4;generalize b8:(λ(e:Ending) (l:I')=>∃vv sv,e=N' (Rk (FO c t f b) vv sv).toArray/\CK (w:M) l vv (FO c t f b).y/\DD (w:M) l sv (FO c t f b).f/\
  (∃b2 b3 b4,W a #[.map<|T m,b2,b3,b4,((LK c t f b).pl:M),((LK c t f b).g:M)] 143 l)/\Fa m c l/\O (λk=>k=a) w l)=Po
 have HP:=J b8;clear b8;have d1:=@run_makeMap zy;go_in;go_wp2_with fail;have v1:W a #[.map<|T m,.map<|T<|(w:M)+2,c1,b5,f,b] 143<|o.setCell (a,1)<|.map<|T<|(w:M)+2:=N.set 1 _;have v2:W a #[.map<|T m,.map<|T<|(w:M)+2,Y Z 0 0,b5,f,b] 143<|(o.setCell (a,1)<|.map<|T<|(w:M)+2).setCell (a,2)<|Y Z 0 0:=v1.set 2 _;have v3:W a #[.map<|T m,.map<|T<|(w:M)+2,Y Z 0 0,Y Z 0 0,f,b] 143<|((o.setCell (a,1)<|.map<|T<|(w:M)+2).setCell (a,2)<|Y Z 0 0).setCell (a,3)<|Y Z 0 0:=v2.set 3 _;have o3:O (λk=>k=a) o<|((o.setCell (a,1)<|.map<|T<|(w:M)+2).setCell (a,2)<|Y Z 0 0).setCell (a,3)<|Y Z 0 0:=(((CT _ o).wS 1 _).wS 2 _).wS 3 _;have b0:(((o.setCell (a,1)<|.map<|T<|(w:M)+2).setCell (a,2)<|Y Z 0 0).setCell (a,3) (Y Z 0 0):M)=w+2:=by simp[b9]
 obtain⟨V,hV⟩:=Dv<|(((o.setCell (a,1)<|.map<|T<|(w:M)+2).setCell (a,2)<|Y Z 0 0).setCell (a,3)<|Y Z 0 0);rw[hV]at v3 o3 b0;have e3:=hV;clear hV;rw[e3];have mz:=Fa.none V;rw[b0]at mz;have oL:=((a7.mono λ_ _ q=>q.elim).trans o3).alloc<|.map #[] 0;have BL:Fh a m ((w:M)+2) w c ⟨(t.m.take 0).map λp=>p.a,[],f,b⟩ (Y Z 0 0) (Y Z 0 0)<|V.alloc<|.map #[] 0:=
  ⟨v3.alloc _,hm.j oL d0,mz,An _ _ _ _,⟨[],An _ _ _ _,Q,λi h=>by simp at h⟩,by omega⟩
 have FL:=(a1.j o3<|by omega).alloc<|.map #[] 0;have RL:=(b6.j o3<|by omega).alloc<|.map #[] 0;have d3:=J (CL a0 hb<|by decide);generalize V.alloc _=WL at*;clear v1 v2 v3 o3 mz e3 b0 b1 bf g2 N a1 b6 a7 b9 X d1 d6 d7;go_loopw[20] (λi wr=>∃(k:M) (a5:H'),k<=L t.m/\i=G A k/\Fh a m ((w:M)+2) w c ⟨(t.m.take k).map λp=>p.a,[],f,b⟩ a5 (Y Z 0 0) wr/\D (O (λk=>k=a) w wr)/\W w #[t.I.a,t.I.t9,Y E t.m F,t.t9,Y B t.i C] 151 wr/\W ((w:M)+1) #[Y' ⟨#[]⟩,Y Z 0 0,G A 0,Y Z 0 0] 153 wr) (λi _=>t.m-(zm i).toNat);exact⟨0,_,by omega,Q,BL,oL,FL,RL⟩;obtain⟨k,a5,c8,rfl,K,z,F1,R1⟩:=hrel;clear BL oL FL RL;have e1:=s.xE;have z1:=z.size;by_cases a3:k<t.m
 .obtain⟨g,rfl⟩:=CH a0 (by omega);have a4:=Cx a0 z d3.o;have a8:=JN a3;have c0:=a4.cellAt (k*2) (by omega);have c3:=a4.cellAt (k*2+1) (by omega);rw[a8.1]at c0;rw[a8.2]at c3;have lg:=(a4.lt g Q).2;have c9:=s.yB t.m[k]<|Am _;have d2:=Yt s.nd a3;have d5:=J<|AK a3;clear a4 a8;generalize t.m[k]=q at*;have y:=(CT Cb wr).alloc<|R' #[q.a,q.t9] 145;go_wp2_with(go_at_call 103;refine(SA a m ((w:M)+2) w c ⟨(t.m.take k).map λp=>p.a,[],f,b⟩ q a5 (Y Z 0 0) _ (K.t8 y) (by have:=y.size;omega) c9 (by simp;omega) d2).mono ?_;rintro e I ⟨rfl,⟨a6,S⟩,u⟩);have r:Fh a m ((w:M)+2) w c ⟨(t.m.take<|k+1).map λp=>p.a,[],f,b⟩ a6 (Y Z 0 0) I:=by show Fh _ _ _ _ _ _ _ _ _;rw[d5.o,Bn];exact S
  have F5:=u.p ⟨_,_,K.t8 y⟩ (F1.j y id) (by decide) (by decide);have x:=u.p ⟨_,_,K.t8 y⟩ (R1.j y id) (by decide) (by decide);have O5:O (λk=>k=a) w I:=(z.xV y).zT u (λj q=>by
   rcases q with q|q|⟨q,_⟩
   .exact zo q
   .exact zn<|by omega
   .exact zn q)
  clear S u;go_round;exact⟨k+1,a6,by omega,by go_num,r,O5,F5,x⟩;simp[intOf];omega
 .have e:k=t.m:=by omega
  subst e;have B2:Fh a m ((w:M)+2) w c (XM t f b) a5 (Y Z 0 0) wr:=by have h:=K;rw[List.take_length]at h;exact h
  clear K a3 c8;go_wp2_with fail;refine Fu<|kN _ a w t.t9 (FG t.i) (Y B t.i C) wr (λl n=>?_) (λl n=>?_) λl n=>?_
  .have q2:=F1.j n id;exact⟨q2.z 3,q2.z 4⟩
  .exact SH d (OJ d) U t.t9 t.i _ l (a9.j (z.xV n) λk v q=>(R.o k v).2 q) s.tok (by have:=s.sz;omega)
  .refine(Jg d (SI d) a m ((w:M)+2) w U c c2 (XM t f b) t.t9 (FG t.i) t.i _ l ⟨_,_,B2.t8 n⟩ (by have:=n.size;omega) (λk v=>⟨(R.o k v).1,(R.o k v).2,by have:=(R.o k v).1;omega⟩) (a9.j (z.xV n) λk v q=>(R.o k v).2 q) s.tok s.ok (by show L ((t.m.map λp=>p.a))<=12;simp;omega) (by show 0+FG t.i<=4001;have:=s.sz;omega) s.pl s.g<|by have:=s.sz;omega).mono ?_;rintro e I ⟨rfl,⟨a6,d8,S⟩,u⟩;refine⟨_,Q,λe7 e8 e9 f0 f1 f2 f3=>?_⟩;have a2:Fh a m ((w:M)+2) w c (LK c t f b) a6 d8 I:=S;have F5:=u.p ⟨_,_,B2.t8 n⟩ (F1.j n id) (by decide) (by decide) (by decide);have x:=u.p ⟨_,_,B2.t8 n⟩ (R1.j n id) (by decide) (by decide) (by decide);have O5:O (λk=>k=a) w I:=(z.xV n).zT u (λj q=>by
    rcases q with q|q|⟨q,_⟩
    .exact zo q
    .exact zn<|by omega
    .exact zn q)
   obtain⟨na,nc,rfl⟩:=CB a2.wT;obtain⟨sa,sc,rfl,_⟩:=a2.f.form;have r:=a2;clear S a2 u n B2 z F1 R1;go_wp2_with fail;refine Fu<|kP _ a w ((w:M)+1) (LK c t f b).wT t.m (LK c t f b).f t.I.a na nc E F sa sc _ _ _ _ I (λl n=>?_) x ?_
   .have q1:=(r.t8 n).p;have q2:=F5.j n id;exact⟨q2.z 0,q1.z 2,q2.z 2,q1.z 3⟩
   .intro w9 f4 f6 f7 f8 f9 g0 g1 g3 g4 g5 g6 g7 g8 g9 h0 c5 H;have O9:O (λk=>k=a) w w9:=O5.zT H (λj q=>zn<|by omega);have N9:CK w w9 (Y na (LK c t f b).wT nc) (LK c t f b).wT:=Cx r.wT H (CL r.wT x<|by decide);have S9:DD w w9 (Y sa (LK c t f b).f sc) (LK c t f b).f:=r.f.xU H (λk cs t fz v q=>by subst v;rw[Ih x q];decide);have X9:=r.p.j H (r.p.ne x<|by decide);have M9:=r.fns.j H<|r.fns.ne x;clear H r x F5 O5;go_wp2_with fail;(try simp only[Exit.inBlock,Exit.then]);apply Ak (results_cell_row (P:=zy) (by rfl) _ _ ((w:M)+1) 153 _ (0,0) _ (by rfl) c5 underlying153 (by rfl)<|by kernel_rfl) (by rfl);cases HP.o;exact⟨_,_,Q,N9,S9,⟨_,_,_,X9⟩,M9,O9⟩
abbrev vM:Cg:=#[Y' ⟨#[]⟩,Y Z 0 0,G A 0,Y Z 0 0]
theorem Tryz.infoPFn:(Tryz.prog.info? 153).map (λi=>(i.zero,i.size,i.bytes))=T (T<|N' vM,4,72):=by kernel_rfl
theorem dO(R:Act->I'->Prop)(s a z B n N p r z1 z2 a3 X c1 c2 c3 c4 v w)(S:H'->H'->I'->Prop)(c)
 (o:W a #[Y p n r,z1,z2,a3] 86 c)(hf:W z #[X,c1,c2,c3,c4] 151 c)(a0:W s q1 143 c)(I:J' c B 153 4 (Y p n r) n N)(hB:B<=c.heap.size)(hn:n<=4000)
 (hC:F' zy 56 #[Z'<|T ⟨s,0,Z⟩,N' #[X,c1,c2,c3,c4]] c.drew λe w'=>∃d g f i m l,e=T' (N' #[Y' v,Y d g f,G A (w:M),Y i m l])/\S (Y d g f) (Y i m l) w'/\O (λk=>k=s) c w')
 (hQ:∀(d:Ch) (g f:M) (i:Ch) (m l:M) (b y:I') (K:H') (b2 b3 b4 b5 b7 b8 b9:H'),S (Y d g f) (Y i m l) b->O (λk=>k=s) c b->J' y B 153 4 K (n+1) (N++[Y' v,Y d g f,G A (w:M),Y i m l])->W a #[K,z1,z2,a3] 86 y->O (λk=>k=a\/L' (Y p n r)=T k) b y->R {tmps:=#[V,z0,s0,Z'<|T ⟨s,0,Z⟩,u1,x2,Z'<|T ⟨a,0,Z⟩,v2,Z'<|T ⟨z,0,Z⟩,z3,y3,x3,v3,t3,o3,z4,y4,r4,o4,y5,x5,v5,u5,r5,o5,n5,z6,u6,t6,y8,r6,q6,p6,o6,y6,x8,x7,b2,b3,b4,b5,b7,b8,b9,n6,z7,x6,v6,q5,p5,o7,v8],defers:=[]} y):
 Code.wp zy (rg Tryz.f31 11) (K6 R) {tmps:=#[V,z0,s0,Z'<|T ⟨s,0,Z⟩,u1,x2,Z'<|T ⟨a,0,Z⟩,v2,Z'<|T ⟨z,0,Z⟩,z3,y3,x3,v3,t3,o3,z4,y4,r4,o4,y5,x5,v5,u5,r5,o5,n5,z6,u6,t6,y8,r6,q6,p6,o6,y6,x8,x7,v7,u7,t7,s7,r7,q7,p7,n6,z7,x6,v6,q5,p5,o7,v8],defers:=[]} c:=by
 change Code.wp _ (.region _ _ _) _ _ _;have⟨i0,a4,a5,a6,a7⟩:=Bx Tryz.infoPFn;have lp:=Cz o;have p0:=o.z;have pf:=o.wV 0;have e0:=hf.z;have E:=J (CL I o<|by decide);have H:=J (o.ne a0<|by decide);clear hf;go_region_law(first
  |(go_simp;go_at_call 56;apply hC.mono;rintro e b ⟨d,g,f,i,m,l,rfl,P5,t⟩;have a8:b a=Y p n r:=(o.j t H.o).z 0;have P:=o.j t H.o;have a2:=Cz<|o.j t H.o;have R5:J' b B 153 4 (Y p n r) n N:=Cx I t (CL I a0<|by decide);have c5:=t.size)
  |(refine C7 Q _ _ 84 Q B 153 i0 (N' vM) 4 72 underlying84 a4 a5 a6 a7 Q (by decide) _ _ _ Q (R5.alloc _) b 1 1 [Y' v,Y d g f,(w:M),Y i m l] Q Q (C3 Q _ _) (λx hx=>by simp only[AY,AE,or_false]at hx;rcases hx with rfl|rfl|rfl|rfl<;>rfl) (by decide) (by unfold E';omega) (by omega) (by simp;omega) ?_;intro K u F C c6;have c7:u a=Y p n r:=(Ae<|C.block a (by simp;omega) λh=>E.o a h.symm Q).trans (by rw[<-a8];exact Ae<|Ao _ _ _ a2);have q2:u.frozen? a=zr:=(Aj<|C.block a (by simp;omega) λh=>E.o a h.symm Q).trans (by rw[<-CZ P 0];exact Aj<|Ao _ _ _ a2);obtain⟨a9,b1,b0,rfl⟩:=CA F))
 all_goals
  have g6:O (λk=>L' (Y p n r)=T k) b u:=O.xA ((CT _ b).alloc<|R' #[v,Y d g f,(w:M),Y i m l] 153) C λj hj=>zo hj;have U:=P.j g6 λq=>E.o a q Q;have a1:O (λk=>k=a) u<|u.setCell a<|Y a9 b1 b0:=(CT _ _).wS 0 _;exact hQ d g f i m l b _ _ _ _ _ _ _ _ _ P5 t (Cx F a1<|CL F U<|by decide) (U.set 0 _)<|(g6.mono λ_ _ q=>zn q).trans<|a1.mono λ_ _ q=>zo q
theorem dQ(R:Act->I'->Prop)(d a:M)(c e:M)(f g v l:H')(b:I')
 (h:W a #[f,g,v,l] 86 b)(x:b (d,4)=c)(y:b (d,5)=e)
 (o:∀(j:I') (p q r s t u:H'),W a #[f,g,c,e] 86 j->O (λk=>k=a) b j->R {tmps:=#[V,z0,s0,Z' d,u1,x2,Z' a,v2,z3,y3,x3,v3,t3,o3,z4,y4,r4,o4,y5,x5,v5,u5,r5,o5,n5,z6,u6,t6,y8,r6,q6,p6,o6,y6,x8,x7,v7,u7,t7,s7,r7,q7,p7,n6,z7,p,q,r,s,t,u,r8],defers:=[]} j):
 Code.wp zy (rg Tryz.f31 13) (K6 R) {tmps:=#[V,z0,s0,Z' d,u1,x2,Z' a,v2,z3,y3,x3,v3,t3,o3,z4,y4,r4,o4,y5,x5,v5,u5,r5,o5,n5,z6,u6,t6,y8,r6,q6,p6,o6,y6,x8,x7,v7,u7,t7,s7,r7,q7,p7,n6,z7,x6,v6,q5,p5,o7,v8,r8],defers:=[]} b:=by
 change Code.wp _ (.region _ _ _) _ _ _;have z:=h.z;have B:=λi=>CZ h i
 go_region;all_goals
  have m:W a #[f,g,c,l] 86<|b.drew.setCell (a,2) c:=W.set (w:=b.drew) h 2 _;have n:W a #[f,g,c,e] 86<|(b.drew.setCell (a,2) c).setCell (a,3) e:=m.set 3 _;exact o _ _ _ _ _ _ _ n<|(((CT _ b).drew).wS 2 _).wS 3 _
theorem YB(a:Cc)(l:Df)(k:M)(h:k<l)(c b:M):Du a (l.drop k) c b=FO a l[k] c b::Du a (l.drop<|k+1) (LK a l[k] c b).pl (LK a l[k] c b).g:=by rw[Ap h];rfl
theorem YA(a:Cc)(l:Df)(k:M)(h:k<l)(c b:M):Ew a (l.drop k) c b=Ew a (l.drop<|k+1) (LK a l[k] c b).pl (LK a l[k] c b).g:=by rw[Ap h];rfl
theorem bU{l:Cc}{s:Cd}{k:M}(c:k<=l)(h:D9 l s 0=k):s∉l.take k:=by intro a;have e:l.take k++l.drop k=l:=List.take_append_drop k l;rw[<-e,ZG _ _ _ a]at h;have⟨_,_,b⟩:=Et (l.take k) s 0;grind
structure nF(d:M)(fns:Df):Prop where
 xE:fns.length<=12
 first:∀i (h:i<fns.length),D9 (fns.map λf=>f.I.a) fns[i].I.a 0=i
 nm:∀t,t∈fns->t.I.a.size<=4000
 yB:∀t,t∈fns->∀p,p∈t.m->p.a.size<=4000
 nd:∀t,t∈fns->(t.m.map λp=>p.a).Nodup
 di:∀t,t∈fns->t.m.length<=12
 tok:∀t,t∈fns->∀s,s∈t.i->Sx d s
 ok:wE fns
 sz:∀t,t∈fns->FG t.i<=4000
 pl:(fns.map λt=>nL 1 t.i).sum<=4000
 g:(fns.map λt=>nL 8 t.i).sum<=4000
theorem NY.xU{f}(h:NY B P y1 f)(i:O z1 P y0)(g:∀k a t b,z1 k->P.heap[k]? =T (R' a t b)->t≠3/\t≠206/\t≠9):NY B y0 y1 f:=by have⟨n,m,e,j,l⟩:=h;exact⟨n,m,e,CD j i λk a b d q=>(g k a _ b d q).2.2 Q,l.xU i λk a t b d q=>⟨(g k a t b d q).1,(g k a t b d q).2.1⟩⟩
theorem DD.wX(h:DD B P V p9)(a:C<=B):DD C P V p9:=by have⟨c,f,g,j⟩:=h;refine⟨c,CN f a,g,λi h d=>?_⟩;have⟨b,e,k⟩:=j i h d;exact⟨b,e,CN k a⟩
structure tI(d:M)(fns:Df)(k:M)(P:CQ)(pl ca:M):Prop where
 len:P=k
 is:P++Du (fns.map λf=>f.I.a) (fns.drop k) pl ca=Du (fns.map λf=>f.I.a) fns 0 0
 c:Ew (fns.map λf=>f.I.a) (fns.drop k) pl ca=Ew (fns.map λf=>f.I.a) fns 0 0
 pl:pl+((fns.drop k).map λt=>nL 1 t.i).sum<=4000
 g:ca+((fns.drop k).map λt=>nL 8 t.i).sum<=4000
theorem Ma(f:TF->M)(l:Df)(k:M)(h:k<l):((l.drop k).map f).sum=f l[k]+((l.drop<|k+1).map f).sum:=by grind[List.drop_eq_getElem_cons]
theorem tI.ck(h:tI B y2 C U R X)(b:nF B y2)(c:C<L y2):tS B (y2.map λf=>f.I.a) (y2.map λf=>f.m) y2[C] R X:=by have a:y2[C]∈y2:=Am _;have e:=Ma (λt=>nL 1 t.i) y2 C c;have g:=Ma (λt=>nL 8 t.i) y2 C c;have:=h.pl;have:=h.g;exact⟨b.yB _ a,b.nd _ a,b.di _ a,b.tok _ a,b.ok _ a,b.sz _ a,by omega,by omega⟩
theorem tI.q{k}(h:tI B y2 k U C R)(c:nF B y2)(a:k<L y2):tI B y2 (k+1) (U++[FO (y2.map λf=>f.I.a) y2[k] C R]) (LK (y2.map λf=>f.I.a) y2[k] C R).pl (LK (y2.map λf=>f.I.a) y2[k] C R).g:=by have b:=GV (fn:=y2.map λf=>f.I.a) (par:=y2.map λf=>f.m) y2[k].i (FG y2[k].i) (XM y2[k] C R)<|c.ok _<|Am _;have i:=Ma (λt=>nL 1 t.i) y2 k a;have j:=Ma (λt=>nL 8 t.i) y2 k a;have e:(LK (y2.map λf=>f.I.a) y2[k] C R).pl=C+nL 1 y2[k].i:=b.pl;have g:(LK (y2.map λf=>f.I.a) y2[k] C R).g=R+nL 8 y2[k].i:=b.g;have:=h.pl;have:=h.g;refine⟨by simp[h.len],?_,?_,by omega,by omega⟩;rw[<-h.is,YB _ y2 k a];simp;rw[<-h.c,YA _ y2 k a]
theorem aB(d:M)(U:Ce)(fs:H')(a:Df)(a4:M)(w:I')(hp:Gt d U w fs a)(hU:∀k,U k->k<(w:M))(hy:nF d a):
 F' zy 31 #[N' #[fs,a4]] w λe w'=>∃fv,e=N' #[fv,(vx (a.map λf=>f.I.a) DF:M),((Ew (a.map λf=>f.I.a) a 0 0).1:M),((Ew (a.map λf=>f.I.a) a 0 0).2:M)]/\
  Ds w w' fv (Du (a.map λf=>f.I.a) a 0 0)/\O Cb w w':=by
 have a7:=hp;obtain⟨h9,I,_⟩:=a7;obtain⟨va,vc,rfl⟩:=CB I;obtain⟨c8,HU,HY⟩:=Dq hp hU hy;have i1:=hy.xE;clear hp hU hy I;obtain⟨x,b9⟩:=Dv<|vx (a.map λf=>f.I.a) DF;rw[b9];have f9:=J b9;clear b9;obtain⟨N,a5⟩:=Dv<|((w.alloc<|R' #[Y va (L a) vc,G A a4] 81).alloc<|R' #[Y Z 0 0,G A 0,G A 0,G A 0] 86);have c7:D<|O Cb w N:=by rw[<-a5];exact((CT _ w).alloc _).alloc _
 have b7:D<|W (w:M) #[Y va (L a) vc,G A a4] 81 N:=by rw[<-a5];exact(W.new w _ _).alloc _
 have c9:D<|W ((w:M)+1) #[Y Z 0 0,G A 0,G A 0,G A 0] 86 N:=by rw[<-a5];have:=W.new (w.alloc<|R' #[Y va (L a) vc,G A a4] 81) #[Y Z 0 0,G A 0,G A 0,G A 0] 86;rw[show(w.alloc (R' #[Y va (L a) vc,G A a4] 81):M)=(w:M)+1 by simp]at this;exact this
 have c2:(N:M)=(w:M)+2:=by rw[<-a5];simp
 have g0:=b7.o.z;have g8:=@run_makeMap zy;generalize e4:(λ(e:Ending) (w':I')=>∃fv,e=T' (N' #[fv,G A (x:M),G A ((Ew (a.map λf=>f.I.a) a 0 0).1:M),G A ((Ew (a.map λf=>f.I.a) a 0 0).2:M)])/\Ds (w:M) w' fv (Du (a.map λf=>f.I.a) a 0 0)/\O Cb w w')=Po;have HP:=J e4;clear e4;go_in;go_wp2_with fail;have mz:=Fa.none N;rw[c2]at mz;have e7:(N.alloc (.map #[] 0):M)=(w:M)+2+1:=by simp[c2]
 have bz:=W.new (N.alloc<|.map #[] 0) #[.map<|T<|(w:M)+2,.map Z,Y Z 0 0,Y Z 0 0,G A 0,G A 0] 143;rw[e7]at bz;obtain⟨ML,BL,OL,FL,RL⟩:=Ix (mz.j ((CT Cb _).alloc<|R' #[.map<|T<|(w:M)+2,.map Z,Y Z 0 0,Y Z 0 0,G A 0,G A 0] 143) id) bz ((c7.o.alloc<|.map #[] 0).alloc<|R' #[.map<|T<|(w:M)+2,.map Z,Y Z 0 0,Y Z 0 0,G A 0,G A 0] 143) ((b7.o.alloc<|.map #[] 0).alloc<|R' #[.map<|T<|(w:M)+2,.map Z,Y Z 0 0,Y Z 0 0,G A 0,G A 0] 143)<|(c9.o.alloc<|.map #[] 0).alloc<|R' #[.map<|T<|(w:M)+2,.map Z,Y Z 0 0,Y Z 0 0,G A 0,G A 0] 143;generalize (N.alloc _).alloc _=WL at*;clear mz bz e7 c2 a5 c7 b7 c9 g0 g8;go_loopw[14] (λi wr=>∃(k:M),k<=L a/\i=G A k/\D (Fa ((w:M)+2) ((a.map λf=>f.I.a).take k) wr)/\D (W ((w:M)+2+1) #[.map<|T<|(w:M)+2,.map Z,Y Z 0 0,Y Z 0 0,G A 0,G A 0] 143 wr)/\D (O Cb w wr)/\D (W (w:M) #[Y va (L a) vc,G A a4] 81 wr)/\D (W ((w:M)+1) #[Y Z 0 0,G A 0,G A 0,G A 0] 86 wr)) (λi _=>L a-(zm i).toNat);exact⟨0,by omega,Q,ML,BL,OL,FL,RL⟩;obtain⟨k,d5,rfl,F,p,y,F1,H⟩:=hrel;clear ML BL OL FL RL;have z1:=y.o.size;by_cases X:k<L a
 .have S:Gt d U wr (Y va (L a) vc) a:=c8.o.j y.o Ed;have a7:=S;obtain⟨g4,I,_⟩:=a7;obtain⟨g,rfl⟩:=CH I (by omega);have lg:=(I.lt g Q).2;obtain⟨av,sv,v,a2,b4,a9⟩:=S.get X;obtain⟨c,f5,m,rfl⟩:=CA a2;obtain⟨_,a6,_⟩:=a9;obtain⟨ba,a0,bc,rfl⟩:=CA a6;have f0:=v 0 (by omega);have f1:=v 1 (by omega);have f2:=v 2 (by omega);have f3:=v 3 (by omega);have f4:=v 4 (by omega);simp only[Sk,Ac,Aa,Ab,Au]at f0 f1 f2 f3 f4;have e3:=bU (l:=(a.map λf=>f.I.a)) (s:=a[k].I.a) (k:=k) (by simp;omega)<|HY.o.first k X;have h6:=HY.o.nm a[k]<|Am _;have e8:(a.map λf=>f.I.a).take (k+1)=(a.map λf=>f.I.a).take k++[a[k].I.a]:=by rw[AK<|by simp;omega];simp
  have g2:=J e8;clear v a2 b4 a6 I S e8;generalize a[k]=t at*;have b:=J<|(CT Cb wr).alloc<|R' #[Y' t.I.a,G A t.I.t9,Y c f5 m,G A t.t9,Y ba a0 bc] 151;have b0:=p.o.j0;have e9:=Cz p.o;obtain⟨V,h0,hM,hT⟩:=Fa.add (w:=wr.alloc<|R' #[Y' t.I.a,G A t.I.t9,Y c f5 m,G A t.t9,Y ba a0 bc] 151) (F.o.j b.o id) h6 (by simp;omega) e3;rw[show L ((a.map λf=>f.I.a).take k)=k by simp;omega]at h0;rw[<-g2.o]at hM;have MV:=J hM;have d7:=F.o.ne p.o;have d8:=F.o.ne F1.o;have d9:=F.o.ne H.o;obtain⟨BV,FV,RV,OV⟩:=F8 ((p.o.j b.o id).j hT λq=>d7 q.symm) ((F1.o.j b.o id).j hT λq=>d8 q.symm) ((H.o.j b.o id).j hT λq=>d9 q.symm) ((y.o.trans b.o).within hT λj q=>by omega);clear hM hT e3 d7 d8 d9;go_wp2_with fail;go_round;exact⟨k+1,by omega,by go_num,MV,BV,OV,FV,RV⟩;simp[intOf];omega
 .have e:k=L a:=by omega
  subst e;have a8:=F.o;rw[show((a.map λf=>f.I.a).take<|L a)=(a.map λf=>f.I.a) from BJ<|by simp]at a8;have hL:(Instr.lookup 140 (.map<|T<|(w:M)+2) (Y' ⟨#[109,97,105,110]⟩) zr).run zy wr=.ok (G A (x:M)) wr:=by rw[<-f9.o];exact a8.look (s:=DF)<|by decide
  have b0:=p.o.j0;have g0:=F1.o.z;have e9:=Cz p.o;have h7:=Cz F1.o;have b:=J<|(CT Cb wr).alloc<|R' #[Y Z 0 0,G A (x:M),G A 0,G A 0] 86;have PL:=J<|W.new wr #[Y Z 0 0,G A (x:M),G A 0,G A 0] 86;obtain⟨ML,BL,FL,RL,OL⟩:=Ix (a8.j b.o id) (p.o.j b.o id) (F1.o.j b.o id) (H.o.j b.o id)<|y.o.trans b.o;clear a8 d5 X;go_wp2_with fail;obtain⟨pb,c0⟩:=Dv<|(wr:M);have i2:(w:M)+2+1<pb:=by omega
  rw[c0];rw[c0]at PL;generalize wr.alloc _=WP at*;clear hL b0 g0 e9 h7 F p F1 H y b c0 z1;go_loopw[33] (λi wr=>∃(k:M) (P:CQ) (c:Ch) (m:M) (n o:M) (m1 nv sv:H'),k<=L a/\i=G A k/\D (tI d a k P n o)/\D (Ds (w:M) wr (Y c (L P) m) P)/\D (W pb #[Y c (L P) m,G A (x:M),G A 0,G A 0] 86 wr)/\D (Fa ((w:M)+2) (a.map λf=>f.I.a) wr)/\D (W ((w:M)+2+1) #[.map<|T<|(w:M)+2,m1,nv,sv,G A n,G A o] 143 wr)/\D (O Cb w wr)/\D (W ((w:M)+1) #[Y Z 0 0,G A 0,G A 0,G A 0] 86 wr)) (λi _=>L a-(zm i).toNat);exact⟨0,[],Z,0,0,0,_,_,_,by omega,Q,⟨Q,Q,Q,by rw[AM];exact HY.o.pl,by rw[AM];exact HY.o.g⟩,⟨[],An _ _ _ _,Q,λi h=>by simp at h⟩,PL,ML,BL,OL,RL⟩;obtain⟨k,P,c,m,n,o,m1,nv,sv,d5,rfl,G1,PA,PB,F,p,y,H⟩:=hrel;clear PL ML BL OL FL RL;have z1:=y.o.size;by_cases X:k<L a
  .have S:Gt d U wr (Y va (L a) vc) a:=c8.o.j y.o Ed;have a7:=S;obtain⟨g4,I,_⟩:=a7;obtain⟨g,rfl⟩:=CH I (by omega);have lg:=(I.lt g Q).2;obtain⟨av,bv,v,a2,b4,a9⟩:=S.get X;have e5:Me d U wr a[k] (Sk a[k] av bv).toList:=⟨av,bv,Q,a2,b4,a9⟩;obtain⟨ta,c5,tc,rfl⟩:=CA a2;obtain⟨_,a6,_⟩:=a9;obtain⟨ba,a0,bc,rfl⟩:=CA a6;have f0:=v 0 (by omega);have f1:=v 1 (by omega);have f2:=v 2 (by omega);have f3:=v 3 (by omega);have f4:=v 4 (by omega);simp only[Sk,Ac,Aa,Ab,Au]at f0 f1 f2 f3 f4;obtain⟨GN,GF,g1⟩:=Dq (G1.o.q HY.o X) (G1.o.ck HY.o X) e5;have g9:D<|L P=k:=G1.o.len;clear v a2 b4 a6 I S e5;generalize a[k]=t at*;have b:=J<|(CT Cb wr).alloc<|R' #[Y' t.I.a,G A t.I.t9,Y ta c5 tc,G A t.t9,Y ba a0 bc] 151;have NB:=J<|W.new wr #[Y' t.I.a,G A t.I.t9,Y ta c5 tc,G A t.t9,Y ba a0 bc] 151;go_wp2_with fail;generalize wr.alloc _=R at*;obtain⟨u,b5,d3,e6⟩:=PA.o;have D4:O Cb wr R.drew:=b.o.trans<|(CT _ R).drew;refine Fu<|dO _ ((w:M)+2+1) pb (wr:M) (w:M) (L P) u.flatten c m _ _ _ (Y' t.I.a) (G A t.I.t9) (Y ta c5 tc) (G A t.t9) (Y ba a0 bc) t.I.a (L t.m) (λvv sv K=>CK (w:M) K vv (FO (a.map λf=>f.I.a) t n o).y/\DD (w:M) K sv (FO (a.map λf=>f.I.a) t n o).f/\(∃c3 c4 b6,W ((w:M)+2+1) #[.map<|T<|(w:M)+2,c3,c4,b6,G A ((LK (a.map λf=>f.I.a) t n o).pl:M),G A ((LK (a.map λf=>f.I.a) t n o).g:M)] 143 K)/\Fa ((w:M)+2) (a.map λf=>f.I.a) K) R (PB.o.j b.o id) NB.o (p.o.j b.o id) (Cx b5 b.o Ed) (by have:=b.o.size;omega) (by have:=g9.o;omega) ?_ ?_
   .refine(gK d ((w:M)+2+1) ((w:M)+2) U (a.map λf=>f.I.a) (a.map λf=>L f.m) t n o m1 nv sv _ R.drew (p.o.j D4 id) (F.o.j D4 id) (g1.o.j D4 Ed) (λj r=>⟨by have:=HU.o j r;have:=D4.size;omega,by have:=HU.o j r;omega⟩) GF.o).mono ?_;rintro e K ⟨vv,b6,rfl,h1,h2,h3,h4,h5⟩;obtain⟨na,nl,nc,rfl⟩:=CA h1;obtain⟨sa,sc,rfl,_⟩:=h2.form;have d0:(w:M)<=(R.drew:M):=by have:=D4.size;omega
    exact⟨na,nl,nc,sa,_,sc,Q,⟨CN h1 d0,h2.wX d0,h3,h4⟩,(((CT _ R).drew).trans h5)⟩
   .intro na nl nc sa sl sc K E v' y37 y38 y39 y40 y41 y42 y43 hPo o5 hr9 a1 B;obtain⟨h1,h2,⟨c3,c4,b6,h3⟩,h4⟩:=hPo;obtain⟨f6,f7,rfl⟩:=CB hr9;have a3:J' K (w:M) 153 4 (Y c (L P) m) (L P) u.flatten:=Cx (Cx b5 b.o Ed) o5 (CL (Cx b5 b.o Ed) (p.o.j b.o id)<|by decide);have c1:W pb #[Y c (L P) m,G A (x:M),G A 0,G A 0] 86 K:=(PB.o.j b.o id).j o5 (by omega);have tx:∀j u t C,(j=pb\/L' (Y c (L P) m)=T j)->K.heap[j]? =T (R' u t C)->t=86\/t=153:=by
     intro j u t C r z;rcases r with r|r
     .subst r;exact zo<|Ih c1 z
     .obtain⟨_,h8,i0,g5⟩:=ES a3 r;rw[g5]at z;simp only[Ai,Aq]at z;exact zn z.2.1.symm
    have c6:∀j u t C,(j=pb\/L' (Y c (L P) m)=T j)->K.heap[j]? =T (R' u t C)->t≠3/\t≠206/\t≠9:=by intro j u t C r z;rcases tx j u t C r z with e|e<;>(rw[e];decide)
    have tb:∀j u t C,j=(w:M)+2+1->R.heap[j]? =T (R' u t C)->t≠3/\t≠206/\t≠9:=by intro j u t C r z;subst r;rw[Ih (p.o.j b.o id) z];decide
    obtain⟨f8,M9,B9⟩:=Dq GN.o (h4.j B λq=>q.elim (λq=>h4.ne c1 q) λq=>NF a3 h4 q)<|h3.j B λq=>q.elim (λq=>by omega) λq=>CL a3 h3 (by decide) _ q Q;have O9:D<|O Cb w E:=((y.o.trans b.o).within o5 λj q=>by omega).within B λj q=>q.elim (λq=>by omega) λq=>(a3.lt j q).1;have R9:D<|W ((w:M)+1) #[Y Z 0 0,G A 0,G A 0,G A 0] 86 E:=((H.o.j b.o id).j o5<|by omega).j B λq=>q.elim (λq=>by omega) λq=>CL a3 ((H.o.j b.o id).j o5<|by omega) (by decide) _ q Q;have b8:D<|Ds (w:M) E (Y f6 (L P+1) f7)<|P++[FO (a.map λf=>f.I.a) t n o]:=by
     refine⟨u++[Rk (FO (a.map λf=>f.I.a) t n o) (Y na nl nc)<|Y sa sl sc],?_,by simp[d3],λi g6 g7=>?_⟩
     .rw[List.flatten_append,Ah];simp only[List.flatten_cons,List.flatten_nil,AN,Az];exact hr9
     .simp only[Ah,Az]at g6 g7;by_cases d4:i<L P
      .rw[AD<|by omega,AD d4];exact(((e6 i (by omega) d4).xU b.o λ_ _ _ _ q=>q.elim).xU o5 tb).xU B c6
      .have e:i=L P:=by omega
       subst e;rw[AB<|by omega,AB<|by omega];simp only[d3,Nat.sub_self,AA];exact NY.xU ⟨_,_,Q,h1,h2⟩ B c6
    have g3:=J a1;have d6:L (P++[FO (a.map λf=>f.I.a) t n o])=L P+1:=by simp
    clear b5 e6 hr9 a1 B o5 h1 h2 h3 h4 a3 c1 tx c6 tb D4 b NB PA PB F p y H;go_wp2_with fail;go_round;exact⟨k+1,P++[FO (a.map λf=>f.I.a) t n o],f6,f7,_,_,c3,c4,b6,by omega,by go_num,f8,by rw[d6];exact b8,by rw[d6];exact g3,M9,B9,O9,R9⟩;simp[intOf];omega
  .have e:k=L a:=by omega
   subst e;obtain⟨-,-,-,-,d1,d2⟩:=p.o.k6;go_wp2_with fail;refine Fu<|dQ _ ((w:M)+2+1) pb n o _ _ _ _ wr PB.o d1 d2 ?_;intro E i3 i4 i5 i6 i7 i8 a1 B;have hg:=G1.o;have e1:P=Du (a.map λf=>f.I.a) a 0 0:=by have:=hg.is;rw[Bj]at this;simpa[Du]using this
   have e2:(n,o)=Ew (a.map λf=>f.I.a) a 0 0:=by have:=hg.c;rw[Bj]at this;simpa[Ew]using this
   obtain⟨b8,O9,R9,BX,E1,E2⟩:=QS (PA.o.j B λj u t C r z=>by subst r;rw[Ih PB.o z];decide) (y.o.within B λj q=>by omega) (H.o.j B<|by omega) a1 e1 e2;have e0:=a1.z;have t0:=R9.o.z;have tf:=λi=>CZ R9.o i
   clear a1 B e1 e2 hg PA PB F p y H G1 d1 d2;go_wp2_with fail;have b0:W ((w:M)+1) #[Y c (L P) m,G A 0,G A 0,G A 0] 86<|E.setCell ⟨(w:M)+1,0,Z⟩<|Y c (L P) m:=R9.o.set 0 _;have b1:W ((w:M)+1) #[Y c (L P) m,G A (x:M),G A 0,G A 0] 86<|(E.setCell ⟨(w:M)+1,0,Z⟩<|Y c (L P) m).setCell ⟨(w:M)+1,1,Z⟩<|G A (x:M):=b0.set 1 _;have b2:W ((w:M)+1) #[Y c (L P) m,G A (x:M),G A n,G A 0] 86<|((E.setCell ⟨(w:M)+1,0,Z⟩<|Y c (L P) m).setCell ⟨(w:M)+1,1,Z⟩<|G A (x:M)).setCell ⟨(w:M)+1,2,Z⟩<|G A n:=b1.set 2 _;have b3:W ((w:M)+1) #[Y c (L P) m,G A (x:M),G A n,G A o] 86<|(((E.setCell ⟨(w:M)+1,0,Z⟩<|Y c (L P) m).setCell ⟨(w:M)+1,1,Z⟩<|G A (x:M)).setCell ⟨(w:M)+1,2,Z⟩<|G A n).setCell ⟨(w:M)+1,3,Z⟩<|G A o:=b2.set 3 _;have os:O (λk=>k=(w:M)+1) E<|(((E.setCell ⟨(w:M)+1,0,Z⟩<|Y c (L P) m).setCell ⟨(w:M)+1,1,Z⟩<|G A (x:M)).setCell ⟨(w:M)+1,2,Z⟩<|G A n).setCell ⟨(w:M)+1,3,Z⟩<|G A o:=((((CT _ E).wS 0 _).wS 1 _).wS 2 _).wS 3 _;(try simp only[Exit.inBlock,Exit.then]);apply Ak (results_cell_row (P:=zy) (by rfl) _ _ ((w:M)+1) 86 _ (0,0) _ (by rfl) b3 underlying86 (by rfl)<|by kernel_rfl) (by rfl);cases HP.o;refine⟨_,?_,by rw[<-E1.o];exact b8.o.j os λj u t C r z=>by subst r;rw[Ih R9.o z];decide,O9.o.within os λj q=>by omega⟩;rw[<-E2.o]
mutual
def vI:TS->Prop
 |.mk s bl=>s.wU<=3/\wC bl
def wC:List (M×Dj)->Prop
 |[]=>True
 |(_,ts)::r=>aP ts/\wC r
def aP:Dj->Prop
 |[]=>True
 |t::ts=>vI t/\aP ts
end
theorem oA(t):M7 t<=3:=by grind[M7]
theorem qH(l n x):(FI l n x).1.wU<=3:=by unfold FI;split;grind;split;grind[Ld,oA];split;grind;split;grind;split;exact Ar _;grind
theorem dF(l n x):(DT l n x).1.wU<=3:=by grind[DT,qH]
theorem Zl:∀(a b:Dj),aP a->aP b->aP (a++b)
 |[],_,_,h=>h
 |_::a,b,h,k=>⟨h.1,Zl a b h.2 k⟩
theorem Vh(l n):∀f:M,(∀(x:PS) (b:Dj),aP b->aP (Dr l n f x b).1)/\(∀(x:PS),vI (Ee l n f x).1)
 |0=>⟨λx b h=>by grind[Dr],λx=>by rw[Ee];exact⟨Ar _,trivial⟩⟩
 |f+1=>by
  obtain⟨a,c⟩:=Vh l n f;refine⟨λx b h=>?_,λx=>?_⟩
  .rw[Dr];split
   .exact a _ _<|Zl _ _ h ⟨c _,trivial⟩
   .exact h
  .rw[Ee];split
   .simp only;split
    .exact⟨Ar _,a _ [] trivial,a _ [] trivial,trivial⟩
    .exact⟨Ar _,a _ [] trivial,trivial⟩
   .split
    .exact⟨Ar _,a _ [] trivial,trivial⟩
    .exact⟨dF _ _ _,trivial⟩
theorem iH(l n x):aP (NQ l n x).1.i:=by unfold NQ;exact(Vh l n _).1 _ [] trivial
theorem ZK(l n):∀(f:M) (x:PS) (a:Df),(∀t,t∈a->aP t.i)->∀t,t∈(Ic l n f x a).1->aP t.i
 |0,_,_,h=>by grind[Ic]
 |f+1,x,a,h=>by
  rw[Ic];split
  .refine ZK l n f _ _ λt b=>?_;grind[iH]
  .exact h
theorem jZ(l n x):∀t,t∈(FQ l n x).1->aP t.i:=by grind[FQ,ZK,iH]
theorem UE:∀(a:Dj),FG a=(a.map IL).sum
 |[]=>rfl
 |t::a=>by simp only[FG,AH,AQ,UE a]
theorem EN.sz{l:Dw}:∀{d i j:M} {t:TS},EN l d i j t->IL t+i<=j
 |0,_,_,_,h=>h.elim
 |d+1,i,j,.mk s e,h=>by
  obtain⟨f,g,k⟩:=h;have C:∀a b c,Gp (EN l d) a b c->FG c+a<=b:=λa b c r=>by rw[UE];exact M5 (λ_ _ _ q=>q.sz) r
  grind[IL,Ss]
theorem OR.sz{l:Dw}{d i j:M}{t:TF}(h:OR l d i j t):FG t.i+i<=j:=by
 have⟨p,u,c,m,e,f,g,a,k,b,n⟩:=h.w;have r:=a.le;have s:FG t.i+(c+1)<=m:=by rw[UE];exact M5 (λ_ _ _ q=>q.sz) b
 omega
mutual
def uE:TS->Prop
 |.mk s bl=>(s.e≠7->s.e≠8->s.k=[])/\s.k.length<=4000/\s.wU<=3/\wH bl
def wH:List (M×Dj)->Prop
 |[]=>True
 |(_,ts)::r=>qQ ts/\wH r
def qQ:Dj->Prop
 |[]=>True
 |t::ts=>uE t/\qQ ts
end
theorem Zh:∀{a:Dj},(∀t,t∈a->vI t->uE t)->aP a->qQ a
 |[],_,_=>trivial
 |t::_,h,k=>⟨h t (A9 ..) k.1,Zh (λu b=>h u<|Ax _ b) k.2⟩
theorem EN.wf{l:Dw}:∀{d i j:M} {t:TS},EN l d i j t->vI t->uE t
 |0,_,_,_,h,_=>h.elim
 |d+1,i,j,.mk s F,h,n=>by
  obtain⟨H,I,w⟩:=h;have C:∀a b p,Gp (EN l d) a b p->aP p->qQ p:=λa b p r=>Zh λt B n=>by obtain⟨x,y,q⟩:=r.each t B;exact q.wf n
  rcases w with⟨rfl,_,E,z,_⟩|⟨k,p,m,rfl,u,c,e,f⟩|⟨k,p,m,K,P,N,rfl,u,c,e,f,g,h⟩
  .exact⟨z,E.al,n.1,trivial⟩
  .rcases u with rfl|rfl
   all_goals
    exact⟨λ_ _=>Q,Ar _,n.1,C _ _ _ e n.2.1,trivial⟩
  .subst u;exact⟨λ_ _=>Q,Ar _,n.1,C _ _ _ e n.2.1,C _ _ _ g n.2.2.1,trivial⟩
mutual
theorem uZ(k:M):∀t:TS,nK k t<=IL t
 |.mk s bl=>by have:=rB k bl;grind[nK,IL]
theorem rB(k:M):∀bl:List<|M×Dj,nB k bl<=Ss bl
 |[]=>Ad _
 |(_,ts)::r=>by have:=Pj k ts;have:=rB k r;grind[nB,Ss]
theorem Pj(k:M):∀ts:Dj,nL k ts<=FG ts
 |[]=>Ad _
 |t::ts=>by have:=uZ k t;have:=Pj k ts;grind[nL,FG]
end
section
variable{N:M}{l:Dw}(H:Ig N l)(o:N<=4000)(v:L l<=4001)
include H o v
theorem kB(c w x)(p:FQ l l ⟨0,zr,0⟩=(c,w,x))(K:x.H=zr):
 (c.map λt=>FG t.i).sum<=4000/\∀t,t∈c->qQ t.i:=by
 have I:=H.pos;have h:=Ts H o v (by grind);have e:=jZ l l ⟨0,zr,0⟩;rw[p]at h e;have⟨d,_,_⟩:=h;simp only at d;refine⟨?_,λt k=>?_⟩;have:=M5 (f:=λt:TF=>FG t.i) (λ_ _ _ q=>q.sz) d;omega;have⟨i,j,g⟩:=d.each t k;have⟨P,R,N,m,y,z,B,C,E,n,F⟩:=g.w;exact Zh (λu s r=>by have⟨a,b,q⟩:=n.each u s;exact q.wf r)<|e t k
end
structure aY(V F Lm:M)(par:Cf)(s:DX):Prop where
 e:s.e<=12
 tg:s.e≠0->s.e≠10->s.e≠11->s.e≠12->s.w<V
 sr:s.e=2\/s.e=3\/s.e=5\/s.e=6\/s.e=8\/s.e=9\/s.e=10->s.n<V
 func:s.e=4\/s.e=7->s.n<F
 many:s.e=7->par[s.n]?.getD 0=s.k.length
 k:∀a,a∈s.k->a<V
 xE:s.k.length<=4000
 wU:s.wU<=3
 t:s.t<=4000
 q:s.q<=Lm
 xI:s.xI<=Lm
 t5:s.w<=5000
 s5:s.n<=5000
theorem Xt(l s):vx l s<=l:=by have:=(Et l s 0).2.2;grind[vx]
theorem eG{fn:Cc}{par:Cf}{s:VS}{b:Bd}{a V Lm:M}(m:s.e<=10)(h:vK fn par s b.wT)(u:s.e≠7->s.e≠8->s.k=[])(v:L s.k<=4000)(j:s.wU<=3)(c:b.wT<=V)(k:V<=12)(hF:L fn<=12)(g:a<=Lm)(n:s.e=1->b.pl+1<=4000)(l:s.e=8->b.g+1<=4000):aY V fn Lm par {Db fn s b with q:=a}:=by have o:=Xt b.wT s.tg.a;have p:=Xt b.wT s.sr.a;have r:=Xt fn s.sr.a;refine⟨by grind[Db],λd f _ _=>?_,λq=>?_,λq=>?_,λq=>?_,λx e=>?_,by grind[Db],j,?_,g,Ar _,?_,?_⟩;simp only[Db]at d f|-;rw[Ba d];have:=(EF<|h.tg d f).1;omega;simp only[Db]at q|-;rw[Ba<|by omega];have:=(EF<|h.sr q).1;omega;simp only[Db]at q|-;rw[Bb q];exact(EF<|h.func q).1;simp only[Db,AG]at q|-;rw[Bb<|zn q];exact h.many q;simp only[Db]at e;by_cases q:s.e=7\/s.e=8;obtain⟨t,i,rfl⟩:=AS.1 e;have:=(EF<|h.k q t i).1;omega;grind;grind[Db];grind[Db];grind[Db]
theorem aF{fn:Cc}{par:Cf}{s:VS}{b:Bd}{a V Lm:M}(k:s.e=11\/s.e=12)(p:s.e≠7->s.e≠8->s.k=[])(j:s.wU<=3)(c:L b.wT<=12)(g:a<=Lm):aY V fn Lm par {Db fn s b with q:=a}:=by
 have n:=Xt b.wT s.tg.a;have o:=Xt b.wT s.sr.a;have d:({Db fn s b with q:=a}:DX).e=s.e:=Q;have e:({Db fn s b with q:=a}:DX).k=[]:=by grind[Db]
 refine⟨by rw[d];omega,λl m h i=>by rw[d]at h i;omega,λq=>by rw[d]at q;omega,λq=>by rw[d]at q;omega,λq=>by rw[d]at q;omega,λx f=>by rw[e]at f;simp at f,by rw[e];simp,j,?_,g,Ar _,?_,?_⟩;simp only[Db];rw[Ba<|by omega,Ba<|by omega];exact Ar _;simp only[Db];rw[Ba<|by omega];omega;simp only[Db];rw[Ba<|by omega];omega
theorem MI{l:List DX}{i:M}{f:DX->DX}{s:DX}(h:s∈l.modify i f):s∈l\/∃u,u∈l/\s=f u:=by grind[List.mem_iff_getElem]
section
variable{fn:Cc}{par:Cf}{V Lm:M}(c:V<=12)(hF:L fn<=12)
theorem Y0{b:Bd}{i n:M}(a:n<=Lm)(h:∀s,s∈b.f->aY V fn Lm par s):∀s,s∈(b.tk i n).f->aY V fn Lm par s:=by
 intro s d;rcases MI d with q|⟨u,q,rfl⟩
 exact h s q;have k:=h u q;exact⟨k.e,k.tg,k.sr,k.func,k.many,k.k,k.xE,k.wU,k.t,k.q,a,k.t5,k.s5⟩
theorem tA{b:Bd}{i n:M}(a:n<=Lm)(h:∀s,s∈b.f->aY V fn Lm par s):∀s,s∈(b.nx i n).f->aY V fn Lm par s:=by
 intro s d;rcases MI d with q|⟨u,q,rfl⟩
 exact h s q;have k:=h u q;exact⟨k.e,k.tg,k.sr,k.func,k.many,k.k,k.xE,k.wU,k.t,a,k.xI,k.t5,k.s5⟩
theorem lO{b:Bd}{s:VS}{a:M}(h:∀s,s∈b.f->aY V fn Lm par s)(k:aY V fn Lm par {Db fn s b with q:=a}):∀u,u∈(CV fn s a b).f->aY V fn Lm par u:=by grind[DK]
theorem Nl{ts:Dj}{a n:M}{b:Bd}(d:a<=n)(e:b.f<=n):Dx ts a b<=n:=by grind[Dx]
include c hF
mutual
theorem V5:∀(t:TS) (a:M) (b:Bd),nC fn par t b.wT->uE t->(b.wT++dS t).length<=V->a<=Lm->b.f+IL t<=Lm->b.pl+nK 1 t<=4000->b.g+nK 8 t<=4000->(∀s,s∈b.f->aY V fn Lm par s)->∀s,s∈(Gy fn t a b).f->aY V fn Lm par s
 |.mk s [],a,b,ho,hw,hn,ha,hl,hp,hc,h=>by
  have hn':b.wT<=V:=by rw[Ah]at hn;omega
  simp only[nK,nB]at hp hc;rw[Gy];exact lO h<|eG ho.1 ho.2 hw.1 hw.2.1 hw.2.2.1 hn' c hF ha (λq=>by rw[Bb q]at hp;omega) λq=>by rw[Bb q]at hc;omega
 |.mk s [(_,ts)],a,b,ho,hw,hn,ha,hl,hp,hc,h=>by
  have hn':b.wT<=V:=by rw[Ah]at hn;omega
  have hab:=Hb fn s a b ho.1;have hlen:(CV fn s a b).f.length=b.f+1:=by rw[DK];simp
  have hA:=lO h<|aF (V:=V) (Lm:=Lm) (par:=par) (a:=a) ho.1 hw.1 hw.2.2.1 (by omega) ha;simp only[nK,nB]at hp hc;simp only[IL,Ss]at hl;have hn2:(((CV fn s a b).wT)++dL ts).length<=V:=by rw[hab.1];have hk:=ho.1;simp only[dS,dB,AN,Ah]at hn;rw[Ba<|by omega]at hn;simpa using hn
  have hko:Mn fn par ts (CV fn s a b).wT:=by rw[hab.1];exact ho.2
  have I:=λa' ha'=>Lo ts a' (CV fn s a b) hko hw.2.2.2.1 hn2 ha' (by omega) (by rw[hab.2.1];omega) (by rw[hab.2.2];omega) hA
  rw[Gy];split
  .exact Y0 (Nl ha<|by omega)<|I a ha
  .split
   .exact Y0 (Nl (by omega)<|by omega)<|I _<|by omega
   .exact hA
 |.mk s [(_,ts),(_,ts2)],a,b,ho,hw,hn,ha,hl,hp,hc,h=>by
  have hn':b.wT<=V:=by rw[Ah]at hn;omega
  have hab:=Hb fn s a b<|zo ho.1;have hlen:(CV fn s a b).f.length=b.f+1:=by rw[DK];simp
  have hA:=lO h<|aF (V:=V) (Lm:=Lm) (par:=par) (a:=a) (zo ho.1) hw.1 hw.2.2.1 (by omega) ha;simp only[nK,nB]at hp hc;simp only[IL,Ss]at hl;simp only[dS,dB,AN,Ah]at hn;rw[Ba<|by have:=ho.1;omega]at hn;simp only[Aw]at hn;have hko:Mn fn par ts (CV fn s a b).wT:=by rw[hab.1];exact ho.2.1
  have L1:=GV ts a (CV fn s a b) hko;have I:=Lo ts a (CV fn s a b) hko hw.2.2.2.1 (by rw[hab.1,Ah];omega) ha (by omega) (by rw[hab.2.1];omega) (by rw[hab.2.2];omega) hA;have I2:=Y0 (i:=b.f) (Nl (ts:=ts) (b:=CV fn s a b) ha<|by omega) I;rw[Gy,Bb ho.1];simp only;have e1:((DI fn ts a<|CV fn s a b).tk b.f<|Dx ts a<|CV fn s a b).wT=b.wT++dL ts:=by show(DI fn ts a<|CV fn s a b).wT=_;rw[L1.wT,hab.1]
  have e2:((DI fn ts a<|CV fn s a b).tk b.f<|Dx ts a<|CV fn s a b).f.length=b.f+1+FG ts:=by rw[RN,L1.len,hlen]
  have e3:((DI fn ts a<|CV fn s a b).tk b.f<|Dx ts a<|CV fn s a b).pl=b.pl+nL 1 ts:=by show(DI fn ts a<|CV fn s a b).pl=_;rw[L1.pl,hab.2.1]
  have e4:((DI fn ts a<|CV fn s a b).tk b.f<|Dx ts a<|CV fn s a b).g=b.g+nL 8 ts:=by show(DI fn ts a<|CV fn s a b).g=_;rw[L1.g,hab.2.2]
  refine tA (Nl ha<|by omega)<|Lo ts2 a _ (by rw[e1];exact ho.2.2) hw.2.2.2.2.1 (by rw[e1];simp only[Ah];omega) ha (by omega) (by omega) (by omega) I2
 |.mk _ (_::_::_::_),_,_,ho,_,_,_,_,_,_,_=>ho.elim
theorem Lo:∀(ts:Dj) (a:M) (b:Bd),Mn fn par ts b.wT->qQ ts->(b.wT++dL ts).length<=V->a<=Lm->b.f+FG ts<=Lm->b.pl+nL 1 ts<=4000->b.g+nL 8 ts<=4000->(∀s,s∈b.f->aY V fn Lm par s)->∀s,s∈(DI fn ts a b).f->aY V fn Lm par s
 |[],_,_,_,_,_,_,_,_,_,h=>by have _h1:=c;have _h2:=hF;rw[DI];exact h
 |[t],a,b,ho,hw,hn,ha,hl,hp,hc,h=>by simp only[dL,AN]at hn;simp only[FG,nL,Au]at hl hp hc;rw[DI];exact V5 t a b ho.1 hw.1 hn ha hl hp hc h
 |t::t2::ts,a,b,ho,hw,hn,ha,hl,hp,hc,h=>by
  rw[dL,<-Bh]at hn;have hz:FG (t::t2::ts)=IL t+FG (t2::ts):=Q;have h1:nL 1 (t::t2::ts)=nK 1 t+nL 1 (t2::ts):=Q;have h8:nL 8 (t::t2::ts)=nK 8 t+nL 8 (t2::ts):=Q;have L1:=Nn t (b.f+IL t) b ho.1;have hn1:(b.wT++dS t).length<=V:=by rw[Ah]at hn;omega
  have I:=V5 t (b.f+IL t) b ho.1 hw.1 hn1 (by omega) (by omega) (by omega) (by omega) h;rw[DI];exact Lo (t2::ts) a _ (by rw[L1.wT];exact ho.2) hw.2 (by rw[L1.wT];exact hn) ha (by rw[L1.len];omega) (by rw[L1.pl];omega) (by rw[L1.g];omega) I
end
end
def K7(P:CQ)(i j:M):Cd:=(CO P i).y[j]?.getD ⟨#[]⟩
def Kp(P:CQ)(t:Tg):Cj:=
 if t.e=1 then Lib.decDigits t.B++[46]++Lib.decDigits t.F
 else if t.e=2 then 64::(CO P t.B).I.data.toList
 else(CO P t.B).I.data.toList++[46]++(K7 P t.B t.F).data.toList
def JW(P:CQ)(t:Tg):Prop:=(t.e=0/\t.B<P/\t.F<(CO P t.B).y)\/(t.e=1/\t.B<=4000/\t.F<=3)\/(t.e=2/\t.B<P/\t.F=0)
structure NZ(P:CQ):Prop where
 I:∀i,(CO P i).I.size<=4000
 y:∀i j,(K7 P i j).size<=4000
def Xw(n:M):Cd:=⟨(Lib.decDigits n).toArray⟩
def Mf(w:I'):Prop:=∀(n:M) (a:I'),n<=4000->O Cb w a->F' zy 121 #[n] a λe b=>e=(Xw n)/\O Cb a b
theorem Ow(B:M)(K:H')(q u m:M)(P:CQ)(t:Tg)(w:I')(i:Ds B w K P)(k:Jd P)(g:NZ P)(ht:JW P t)(o:Mf w)(h0:0<L P):
 F' zy 120 #[N' #[K,q,u,m],N' #[t.e,t.B,t.F]] w λe w'=>e=Y' ⟨(Kp P t).toArray⟩/\O Cb w w':=by
 obtain⟨y,v,rfl,b3⟩:=i.form h0;have a8:=k.xE;rcases ht with⟨b,h,E⟩|⟨b,h,E⟩|⟨b,h,_⟩
 focus
  have S:((t.e:zw)==1)=zr:=by simp[b]
  have k2:((t.e:zw)==2)=zr:=by simp[b]
  have⟨vv,sv,c,d,j⟩:=i.get h;rw[<-JP h]at c d j;obtain⟨va,vc,rfl⟩:=CB d;obtain⟨f,rfl⟩:=CH d (by omega);have b4:=(d.lt f Q).2;obtain⟨sa,sc,rfl,_⟩:=j.form;have I:=d.cellAt t.F (by omega);rw[AI,Ag E]at I;simp only[BA]at I;have x:=c 0 (by decide);have f1:=c 1 (by decide);have f2:=c 2 (by decide);have f3:=c 3 (by decide);simp only[Rk,Aa,Ab,Au]at x f1 f2 f3;have a3:=g.I t.B;have a4:=g.y t.B t.F;have a9:=k.y t.B;have C:K7 P t.B t.F=(CO P t.B).y[t.F]:=by unfold K7;rw[Ag E];rfl
  have p:D<|(CO P t.B).I++{data:=#[46]}++(CO P t.B).y[t.F]=⟨(Kp P t).toArray⟩:=F7<|by unfold Kp;rw[Ba<|by omega,Ba<|by omega,C];simp
  rw[C]at a4;generalize (⟨(Kp P t).toArray⟩:Cd)=H at*;generalize (CO P t.B).y[t.F]=vt at*;generalize (CO P t.B).I=r at*;have a2:(t.B:zw)<(L P:zw):=by omega
  have b0:(t.F:zw)<(L (CO P t.B).y:zw):=by omega
  have N:¬(9223372036854775807<r.size+1):=by omega
  have a0:¬(9223372036854775807<r.size+1+vt):=by omega
  have g1:f≠w:=by omega
  have g2:f≠w+1:=by omega
  have g3:f≠w+1+1:=by omega
  have g4:f<w+1:=by omega
  have g5:f<w+1+1:=by omega
  clear c d j i k g o C b;go_in;go_wp2_with fail;go_region
 rotate_left
 .have S:((t.e:zw)==1)=zt:=by simp[b]
  have a6:(Xw t.B).size<=4001:=by have:=Ho t.B;simp only[Xw,ByteArray.size,BW];omega
  have a7:(Xw t.F).size<=4:=by have:=Ho t.F;simp only[Xw,ByteArray.size,BW];omega
  have p:D<|Xw t.B++{data:=#[46]}++Xw t.F=⟨(Kp P t).toArray⟩:=F7<|by unfold Kp Xw;rw[Bb b];simp
  have a1:t.F<=4000:=by omega
  generalize (⟨(Kp P t).toArray⟩:Cd)=H at*;have N:¬(9223372036854775807<(Xw t.B).size+1):=by omega
  have a0:¬(9223372036854775807<(Xw t.B).size+1+(Xw t.F)):=by omega
  clear i k g b;go_in;go_wp2_with fail;have n:=W.new (w.alloc<|R' #[Y y P v,q,u,m] 86) #[t.e,t.B,t.F] 228;have R:(w.alloc (R' #[Y y P v,q,u,m] 86):M)=w+1:=by simp
  rw[R]at n;have z:=((CT Cb w).alloc<|R' #[Y y P v,q,u,m] 86).alloc<|R' #[t.e,t.B,t.F] 228;generalize World.alloc (World.alloc w _) _=W0 at*;obtain⟨-,b1,b2⟩:=n.k3;have lb:=Cz n;have U:=True.intro;clear n R;go_region_law(first
   |(go_simp;go_at_call 121;have _t:=U;refine(o _ _ (by omega)<|z.trans ?_).mono ?_;exact oq;rintro e V ⟨rfl,l⟩;have F:=O.trans (X:=Cb) (a:=W0) oq l;have a5:V ((w:M)+1,2)=t.F:=(Ae<|F.block _ lb id).trans b2;clear l U;dsimp only)
   |(go_simp;go_at_call 121;refine(o _ _ a1<|z.trans<|F.trans ?_).mono ?_;exact oq;rintro e w8 ⟨rfl,l⟩;have o8:=O.trans (X:=Cb) (a:=V) oq l;clear l;dsimp only))
  all_goals
   go_wp2_with fail;go_ret;exact⟨BG (λs=>T'<|Y' s) p.o,(z.trans F).trans o8⟩
 focus
  have S:((t.e:zw)==1)=zr:=by simp[b]
  have k2:((t.e:zw)==2)=zt:=by simp[b]
  have⟨vv,sv,c,d,j⟩:=i.get h;rw[<-JP h]at c d j;have x:=c 0 (by decide);simp only[Rk,Aa,Au]at x;have a3:=g.I t.B;have p:D<|(⟨#[64]⟩:Cd)++(CO P t.B).I=⟨(Kp P t).toArray⟩:=F7<|by unfold Kp;rw[Ba<|by omega,Bb b];simp
  generalize (⟨(Kp P t).toArray⟩:Cd)=H at*;generalize (CO P t.B).I=r at*;have a2:(t.B:zw)<(L P:zw):=by omega
  have N:¬(9223372036854775807<1+r.size):=by omega
  clear c d j i k g o b;go_in;go_wp2_with fail;first|go_quiet(fail)|skip
 all_goals
  go_wp2_with fail;go_ret;exact⟨BG (λs=>T'<|Y' s) p.o,oq⟩
theorem kM(R:Act->I'->Prop)(d c B s u p:M)(t v r H I N P U a5:zw)(l:Cc)(m:Ch)(n:M)(j C:Cd)(i:I'){b8 b9 c0 c1 c2 c3 c4 c5 c6 c7 c8 c9 d0 d1 d2 d3 d4 d5 d6:H'}
 (hS:(λb:I'=>b d=Y s u p/\b (d,1)=t/\b (d,2)=v/\b (d,3)=r/\b c=H/\b (c,1)=I/\b (c,2)=N/\b (c,3)=P/\b (c,4)=U/\b (c,5)=a5) i)(lm:d<i)(ls:c<i)(hB:B<=i)
 (b7:CK B i (Y m l n) l)(g7:L l<=300000)(a9:∀k,L' (Y m l n)=T k->k≠d/\k≠c)
 (b0:∀o,O Cb i o->F' zy 120 #[N' #[Y s u p,t,v,r],N' #[H,I,N]] o λe b=>e=j/\O Cb o b)
 (b3:∀o,O Cb i o->F' zy 120 #[N' #[Y s u p,t,v,r],N' #[P,U,a5]] o λe b=>e=C/\O Cb o b)
 (g5:j.size<=20000)(g6:C.size<=20000)
 (hQ:∀(E:H') (w9:I') (e3 e4 e5 e6 e7 e8 e9 f0 f1 f2 f3 f4 f5 f6 f7 f8 f9 g0 g1:H'),CK B w9 E (l++[j++⟨#[62]⟩++C])->(∀k,L' E=T k->L' (Y m l n)=T k\/(i:M)<=k)->O (λk=>L' (Y m l n)=T k) i w9->R {tmps:=#[Z' d,V,z0,E,Z' c,s0,u1,x2,v2,z3,y3,x3,v3,t3,o3,z4,y4,r4,o4,y5,x5,v5,u5,r5,o5,n5,z6,e3,e4,e5,e6,e7,e8,e9,f0,f1,f2,f3,f4,f5,f6,f7,f8,f9,g0,g1,x6,v6,q5,p5,o7,v8,r8,u9,s9,r9,o9,n9,b8,b9,c0,c1,c2,c3,c4,c5,c6,c7,c8,c9,d0,d1,d2,d3,d4,d5,d6],defers:=[]} w9):
 Code.wp zy (rg Tryz.f77 5) (K6 R) {tmps:=#[Z' d,V,z0,Y m l n,Z' c,s0,u1,x2,v2,z3,y3,x3,v3,t3,o3,z4,y4,r4,o4,y5,x5,v5,u5,r5,o5,n5,z6,u6,t6,y8,r6,q6,p6,o6,y6,x8,x7,v7,u7,t7,s7,r7,q7,p7,n6,z7,x6,v6,q5,p5,o7,v8,r8,u9,s9,r9,o9,n9,b8,b9,c0,c1,c2,c3,c4,c5,c6,c7,c8,c9,d0,d1,d2,d3,d4,d5,d6],defers:=[]} i:=by
 change Code.wp _ (.region _ _ _) _ _ _;obtain⟨i0,d9,e0,e1,e2⟩:=Bx Tryz.infoStr;obtain⟨d7,d8,HQ,HR,g2⟩:=Ix b0 b3 hQ b7 a9;have KS:∀b:I',O (λk=>L' (Y m (L l) n)=T k) i b->K' b ⟨d,0,Z⟩=T (Y (T ⟨s,0,Z⟩) u p)/\K' b ⟨d,1,Z⟩=T (G A t)/\K' b ⟨d,2,Z⟩=T (G A v)/\K' b ⟨d,3,Z⟩=T (G A r)/\K' b ⟨c,0,Z⟩=T (G A H)/\K' b ⟨c,1,Z⟩=T (G A I)/\K' b ⟨c,2,Z⟩=T (G A N)/\K' b ⟨c,3,Z⟩=T (G A P)/\K' b ⟨c,4,Z⟩=T (G A U)/\K' b ⟨c,5,Z⟩=T (G A a5):=λb ho=>by obtain⟨q0,q1,q2,q3,q4,a6,a7,a8,q8,q9⟩:=hS;have b1:=ho.block d lm λq=>(a9 _ q).1 Q;have z:=ho.block c ls λq=>(a9 _ q).2 Q;exact⟨(Ae b1).trans q0,(Ae b1).trans q1,(Ae b1).trans q2,(Ae b1).trans q3,(Ae z).trans q4,(Ae z).trans a6,(Ae z).trans a7,(Ae z).trans a8,(Ae z).trans q8,(Ae z).trans q9⟩
 have F:=J KS;have g3:¬(9223372036854775807<j.size+1):=by omega
 have g4:¬(9223372036854775807<j.size+1+C.size):=by omega
 clear b0 b3 hQ b7 a9 KS;refine wp_region_held_drew (S:=λb=>K' b ⟨d,0,Z⟩=T (Y (T ⟨s,0,Z⟩) u p)/\K' b ⟨d,1,Z⟩=T (G A t)/\K' b ⟨d,2,Z⟩=T (G A v)/\K' b ⟨d,3,Z⟩=T (G A r)/\K' b ⟨c,0,Z⟩=T (G A H)/\K' b ⟨c,1,Z⟩=T (G A I)/\K' b ⟨c,2,Z⟩=T (G A N)/\K' b ⟨c,3,Z⟩=T (G A P)/\K' b ⟨c,4,Z⟩=T (G A U)/\K' b ⟨c,5,Z⟩=T (G A a5)) (by kernel_rfl) hS λf=>?_;apply IF 0 (Y m (L l) n) Q (by kernel_rfl) Q (λw g=>by go_simp) f;simp only[Act.put];apply IF 1 (Z'<|T ⟨d,0,Z⟩) Q (by kernel_rfl) Q (λw g=>by go_simp) f;simp only[Act.put];apply IF 2 (Z'<|T ⟨d,0,Z⟩) Q (by kernel_rfl) Q (λw g=>by go_simp) f;simp only[Act.put];apply IF 3 (Z'<|T ⟨d,0,Z⟩) Q (by kernel_rfl) Q (λw g=>by go_simp) f;simp only[Act.put];refine IF 4 (N' #[Y (T ⟨s,0,Z⟩) u p,G A t,G A v,G A r]) Q (by kernel_rfl) Q (λw g=>by obtain⟨q0,q1,q2,q3,q4,a6,a7,a8,q8,q9⟩:=g;go_simp) f ?_;simp only[Act.put];apply IF 5 (Z'<|T ⟨c,0,Z⟩) Q (by kernel_rfl) Q (λw g=>by go_simp) f;simp only[Act.put];refine IF 6 (N' #[G A H,G A I,G A N]) Q (by kernel_rfl) Q (λw g=>by obtain⟨q0,q1,q2,q3,q4,a6,a7,a8,q8,q9⟩:=g;go_simp) f ?_;simp only[Act.put];apply IF 9 (Z'<|T ⟨d,0,Z⟩) Q (by kernel_rfl) Q (λw g=>by go_simp) f;simp only[Act.put];apply IF 10 (Z'<|T ⟨d,0,Z⟩) Q (by kernel_rfl) Q (λw g=>by go_simp) f;simp only[Act.put];apply IF 11 (Z'<|T ⟨d,0,Z⟩) Q (by kernel_rfl) Q (λw g=>by go_simp) f;simp only[Act.put];refine IF 12 (N' #[Y (T ⟨s,0,Z⟩) u p,G A t,G A v,G A r]) Q (by kernel_rfl) Q (λw g=>by obtain⟨q0,q1,q2,q3,q4,a6,a7,a8,q8,q9⟩:=g;go_simp) f ?_;simp only[Act.put];apply IF 13 (Z'<|T ⟨c,3,Z⟩) Q (by kernel_rfl) Q (λw g=>by go_simp) f;simp only[Act.put];refine IF 14 (N' #[G A P,G A U,G A a5]) Q (by kernel_rfl) Q (λw g=>by obtain⟨q0,q1,q2,q3,q4,a6,a7,a8,q8,q9⟩:=g;go_simp) f ?_;simp only[Act.put];apply Ca (rs:=[7]) (by kernel_rfl) (by simp);refine BY Q (λK h=>?_) BZ;go_simp;apply(d7.o _ oq).mono;rintro e w2 ⟨rfl,u2⟩;have U2:=J<|O.trans (X:=Cb) (a:=i) oq u2;clear u2;dsimp only;refine h.out _ _ (F.o _<|U2.o.mono λ_ _ q=>q.elim) λf=>?_;clear h K;apply IF 8 (Y'<|j++⟨#[62]⟩) Q (by kernel_rfl) Q (λw g=>by go_simp) f;simp only[Act.put];apply Ca (rs:=[15]) (by kernel_rfl) (by simp);refine BY Q (λK h=>?_) BZ;go_simp;apply(d8.o _ U2.o).mono;rintro e w3 ⟨rfl,u3⟩;have y:=J<|U2.o.trans u3;clear u3;dsimp only;refine h.out _ _ (F.o _<|y.o.mono λ_ _ q=>q.elim) λf=>?_;clear h K;apply IF 16 (Y'<|j++⟨#[62]⟩++C) Q (by kernel_rfl) Q (λw g=>by go_simp) f;simp only[Act.put];apply Ca (rs:=[17]) (by kernel_rfl) (by simp);refine BY Q (λK h=>?_) BZ;go_simp;refine h.out _ _ (F.o _<|(y.o.alloc _).mono λ_ _ q=>q.elim) λf=>?_;clear h K;apply Ca (rs:=[18]) (by kernel_rfl) (by simp);refine BY Q (λK h=>?_) BZ;refine C7 Q _ _ 47 Q B 9 i0 (Y' ⟨#[]⟩) 1 16 underlying47 d9 e0 e1 e2 Q (by decide) _ _ _ Q ((Cx HR.o y.o Ed).alloc _) ⟨(w3:M),0,Z⟩ 1 1 [Y'<|j++⟨#[62]⟩++C] Q Q (C3 Q _ _) (λx hx=>by simp at hx;subst hx;rfl) (by decide) (by unfold E';omega) (by omega) (by have:=y.o.size;simp;omega) ?_;intro E w8 b6 b4 b5;have O8:=J<|O.xA ((y.o.alloc _).mono λ_ _ q=>q.elim) b4 λk hk=>zo hk;have N8:D (∀k,L' E=T k->L' (Y m (L l) n)=T k\/(i:M)<=k):=λk hk=>(b5 k hk).imp id (λq=>by have:=y.o.size;simp at q;omega)
 have HX:=J b6;clear b6 b4 b5;refine h.out _ _ (F.o _ O8.o) λf=>?_;clear h K;simp only[Act.put];apply Ca (rs:=[19]) (by kernel_rfl) (by simp);refine BY Q (λK h=>?_) BZ;go_simp;refine h.out _ _ (F.o _ O8.o) λf=>?_;clear h K;refine wpAnyH_done (by kernel_rfl) ?_ _;exact HQ.o E w8 _ _ _ _ _ _ _ _ _ _ _ _ _ _ _ _ _ _ _ (by unfold CK;simpa using HX.o) N8.o O8.o
theorem kQ(R:Act->I'->Prop)(i g B h t H:M)(v:zw)(j:M)(l:Cc)(p:Ch)(r:M)(n o:Cd)(f:I'){b8 b9 c0 c1 c2 c3 c4 c5 c6 c7 c8 c9 d0 d1 d2 d3 a7 a8 a9:H'}
 (hS:(λd:I'=>d i=Y h t H/\d g=v/\d (g,1)=j/\d (h,j*4)=o) f)(lm:i<f)(ls:g<f)(lg:h<f)(hB:B<=f)(f3:j<t)
 (a6:CK B f (Y p l r) l)(g0:L l<=300000)(I:∀k,L' (Y p l r)=T k->k≠i/\k≠g/\k≠h)
 (a2:∀P,O Cb f P->F' zy 121 #[v] P λe d=>e=n/\O Cb P d)
 (f8:n.size<=20000)(f9:o.size<=20000)
 (hQ:∀(u:H') (w9:I') (d4 d5 d6 d7 d8 d9 e0 e1 e2 e3 e4 e5 e6 e7 e8 e9 f0 f1 f2:H'),CK B w9 u (l++[(⟨#[33]⟩:Cd)++n++⟨#[62]⟩++o])->(∀k,L' u=T k->L' (Y p l r)=T k\/(f:M)<=k)->O (λk=>L' (Y p l r)=T k) f w9->R {tmps:=#[Z' i,V,z0,u,s0,Z' g,u1,x2,v2,z3,y3,x3,v3,t3,o3,z4,y4,r4,o4,y5,x5,v5,u5,r5,o5,n5,z6,u6,t6,y8,r6,q6,p6,o6,y6,x8,x7,v7,u7,t7,s7,r7,q7,p7,n6,z7,x6,v6,q5,p5,o7,v8,r8,u9,s9,d4,d5,d6,d7,d8,d9,e0,e1,e2,e3,e4,e5,e6,e7,e8,e9,f0,f1,f2,a7,a8,a9],defers:=[]} w9):
 Code.wp zy (rg Tryz.f77 9) (K6 R) {tmps:=#[Z' i,V,z0,Y p l r,s0,Z' g,u1,x2,v2,z3,y3,x3,v3,t3,o3,z4,y4,r4,o4,y5,x5,v5,u5,r5,o5,n5,z6,u6,t6,y8,r6,q6,p6,o6,y6,x8,x7,v7,u7,t7,s7,r7,q7,p7,n6,z7,x6,v6,q5,p5,o7,v8,r8,u9,s9,r9,o9,n9,b8,b9,c0,c1,c2,c3,c4,c5,c6,c7,c8,c9,d0,d1,d2,d3,a7,a8,a9],defers:=[]} f:=by
 change Code.wp _ (.region _ _ _) _ _ _;obtain⟨i0,b4,b5,b6,b7⟩:=Bx Tryz.infoStr;obtain⟨b0,HQ,HR⟩:=Dq a2 hQ a6;have KS:∀d:I',O (λk=>L' (Y p (L l) r)=T k) f d->K' d ⟨i,0,Z⟩=T (Y (T ⟨h,0,Z⟩) t H)/\K' d ⟨g,0,Z⟩=T (G A v)/\K' d ⟨g,1,Z⟩=T (G A (j:zw))/\K' d ⟨h,j*4,Z⟩=T (Y' o):=λd ho=>by obtain⟨y,z,C,E⟩:=hS;have b1:=ho.block i lm λq=>(I _ q).1 Q;have b2:=ho.block g ls λq=>(I _ q).2.1 Q;have b3:=ho.block h lg λq=>(I _ q).2.2 Q;exact⟨(Ae b1).trans y,(Ae b2).trans z,(Ae b2).trans C,(Ae b3).trans E⟩
 have F:=J KS;have f4:(j:zw)<(t:zw):=by omega
 have f5:¬(9223372036854775807<1+n.size):=by omega
 have f6:¬(9223372036854775807<1+n.size+1):=by omega
 have f7:¬(9223372036854775807<1+n.size+1+o.size):=by omega
 clear a2 hQ a6 I KS;refine wp_region_held_drew (S:=λd=>K' d ⟨i,0,Z⟩=T (Y (T ⟨h,0,Z⟩) t H)/\K' d ⟨g,0,Z⟩=T (G A v)/\K' d ⟨g,1,Z⟩=T (G A (j:zw))/\K' d ⟨h,j*4,Z⟩=T (Y' o)) (by kernel_rfl) hS λb=>?_;apply IF 0 (Y p (L l) r) Q (by kernel_rfl) Q (λw c=>by go_simp) b;simp only[Act.put];apply IF 1 (Z'<|T ⟨g,0,Z⟩) Q (by kernel_rfl) Q (λw c=>by go_simp) b;simp only[Act.put];refine IF 2 (G A v) Q (by kernel_rfl) Q (λw c=>by obtain⟨y,z,C,E⟩:=c;go_simp) b ?_;simp only[Act.put];apply IF 6 (Z'<|T ⟨i,0,Z⟩) Q (by kernel_rfl) Q (λw c=>by go_simp) b;simp only[Act.put];apply IF 7 (Z'<|T ⟨i,0,Z⟩) Q (by kernel_rfl) Q (λw c=>by go_simp) b;simp only[Act.put];apply IF 8 (Z'<|T ⟨i,0,Z⟩) Q (by kernel_rfl) Q (λw c=>by go_simp) b;simp only[Act.put];apply IF 9 (Z'<|T ⟨i,0,Z⟩) Q (by kernel_rfl) Q (λw c=>by go_simp) b;simp only[Act.put];refine IF 10 (Y (T ⟨h,0,Z⟩) t H) Q (by kernel_rfl) Q (λw c=>by obtain⟨y,z,C,E⟩:=c;go_simp) b ?_;simp only[Act.put];apply IF 11 (Z'<|T ⟨g,1,Z⟩) Q (by kernel_rfl) Q (λw c=>by go_simp) b;simp only[Act.put];refine IF 12 (G A (j:zw)) Q (by kernel_rfl) Q (λw c=>by obtain⟨y,z,C,E⟩:=c;go_simp) b ?_;simp only[Act.put];apply IF 13 (Z'<|T ⟨h,j*4,Z⟩) Q (by kernel_rfl) Q (λw c=>by go_simp) b;simp only[Act.put];apply IF 14 (Z'<|T ⟨h,j*4,Z⟩) Q (by kernel_rfl) Q (λw c=>by go_simp) b;simp only[Act.put];refine IF 15 (Y' o) Q (by kernel_rfl) Q (λw c=>by obtain⟨y,z,C,E⟩:=c;go_simp) b ?_;simp only[Act.put];apply Ca (rs:=[3]) (by kernel_rfl) (by simp);refine BY Q (λK m=>?_) BZ;go_simp;apply(b0.o _ oq).mono;rintro e w3 ⟨rfl,u2⟩;have s:=J<|O.trans (X:=Cb) (a:=f) oq u2;clear u2;dsimp only;refine m.out _ _ (F.o _<|s.o.mono λ_ _ q=>q.elim) λb=>?_;clear m K;apply IF 4 (Y'<|(⟨#[33]⟩:Cd)++n) Q (by kernel_rfl) Q (λw c=>by go_simp) b;simp only[Act.put];apply IF 5 (Y'<|(⟨#[33]⟩:Cd)++n++⟨#[62]⟩) Q (by kernel_rfl) Q (λw c=>by go_simp) b;simp only[Act.put];apply IF 16 (Y'<|(⟨#[33]⟩:Cd)++n++⟨#[62]⟩++o) Q (by kernel_rfl) Q (λw c=>by go_simp) b;simp only[Act.put];apply Ca (rs:=[17]) (by kernel_rfl) (by simp);refine BY Q (λK m=>?_) BZ;go_simp;refine m.out _ _ (F.o _<|(s.o.alloc _).mono λ_ _ q=>q.elim) λb=>?_;clear m K;apply Ca (rs:=[18]) (by kernel_rfl) (by simp);refine BY Q (λK m=>?_) BZ;refine C7 Q _ _ 47 Q B 9 i0 (Y' ⟨#[]⟩) 1 16 underlying47 b4 b5 b6 b7 Q (by decide) _ _ _ Q ((Cx HR.o s.o Ed).alloc _) ⟨(w3:M),0,Z⟩ 1 1 [Y'<|(⟨#[33]⟩:Cd)++n++⟨#[62]⟩++o] Q Q (C3 Q _ _) (λx hx=>by simp at hx;subst hx;rfl) (by decide) (by unfold E';omega) (by omega) (by have:=s.o.size;simp;omega) ?_;intro u w8 a5 a3 a4;have N:=J<|O.xA ((s.o.alloc _).mono λ_ _ q=>q.elim) a3 λk U=>zo U;have N8:D (∀k,L' u=T k->L' (Y p (L l) r)=T k\/(f:M)<=k):=λk U=>(a4 k U).imp id (λq=>by have:=s.o.size;simp at q;omega)
 have HX:=J a5;clear a5 a3 a4;refine m.out _ _ (F.o _ N.o) λb=>?_;clear m K;simp only[Act.put];apply Ca (rs:=[19]) (by kernel_rfl) (by simp);refine BY Q (λK m=>?_) BZ;go_simp;refine m.out _ _ (F.o _ N.o) λb=>?_;clear m K;refine wpAnyH_done (by kernel_rfl) ?_ _;exact HQ.o u w8 _ _ _ _ _ _ _ _ _ _ _ _ _ _ _ _ _ _ _ (by unfold CK;simpa using HX.o) N8.o N.o
def fV:Prop:=∀(B g c:M) (l:Cc) (d:I'),CK B d (Y g l c) l->L l<=1000000->F' zy 122 #[Y g l c] d λe h=>e=P' #[]/\∃f,CK B h (Y g l c) f/\f.Perm l/\f.Pairwise (λa b=>Kq b a=zr)/\O (λk=>k=g) d h
def Xx(P:CQ)(p:Tg×Tg):Cd:=⟨(Kp P p.1++[62]++Kp P p.2).toArray⟩
def ZE(P:CQ)(e:M×M):Cd:=⟨([33]++Lib.decDigits e.1++[62]++(CO P e.2).I.data.toList).toArray⟩
structure aQ{α:Type}(k:TypeId)(mk:α->H')(all ks:List α)(left:Lit->Bool):Prop where
 nodup:ks.Nodup
 sub:∀p,p∈ks->p∈all/\∃x,keyOf zy k (mk p)=T x/\left x=zr
 rest:∀x,left x=zt->∃p,p∈all/\keyOf zy k (mk p)=T x
 all:∀p,p∈all->p∈ks\/∃x,keyOf zy k (mk p)=T x/\left x=zt
theorem aQ.xC{mk:z9->H'}{l}{left:Lit->Bool}(h:∀x,left x=zt↔∃p,p∈l/\keyOf zy q0 (mk p)=T x)(c:∀p,p∈l->∃x,keyOf zy q0 (mk p)=T x):aQ q0 mk l [] left:=
 ⟨List.nodup_nil,λp a=>Bm a AE,λx b=>(h x).1 b,λp a=>by grind⟩
theorem aQ.q{k:TypeId}{mk:z9->H'}{l m:List z9}{left:Lit->Bool}(h:aQ k mk l m left)(K:Keyed zy k)(r:∀a b,mk a=mk b->a=b){p:z9}{x:Lit}(u:p∈l)(j:keyOf zy k (mk p)=x)(t:left x=zt):
 aQ k mk l (m++[p]) (λz=>left z && !z.sameKey x):=by
 have v:∀{z:Lit},(∃q,keyOf zy k (mk q)=z)->(z.sameKey x=zt↔z=x):=fun{z} o=>by have⟨q,d⟩:=o;exact⟨λq=>WideAt.sameKey_eq q,λq=>by subst q;exact WideAt.sameKey_self<|K.key j⟩
 refine⟨?_,λq d=>?_,λy c=>?_,λq d=>?_⟩;rw[List.nodup_append];refine⟨h.nodup,by simp,λa n b g=>?_⟩;rw[Ay]at g;subst g;rintro rfl;have⟨_,y,c,i⟩:=h.sub _ n;grind;rcases AJ.1 d with f|f
 have⟨s,y,c,i⟩:=h.sub _ f;grind;grind;simp only[Bool.and_eq_true]at c;exact h.rest y c.1;rcases h.all q d with f|⟨y,c,i⟩
 grind;by_cases e:y=x;subst e;have:=r _ _<|K.inj c j;grind;grind
theorem aQ.done{mk:z9->H'}{l a}{left:Lit->Bool}(h:aQ q0 mk l a left)(b:∀x,left x=zr):∀p,p∈a↔p∈l:=λp=>by refine⟨λq=>(h.sub p q).1,λq=>(h.all p q).resolve_right ?_⟩;grind
theorem JW.ok{t}(h:JW U t)(a:Jd U):Sg t:=by
 have b:=a.xE;have c:=a.y t.B;unfold Sg;rcases h with h|h|h
 omega;omega;omega
theorem UN{t}(a:Jd U)(b:NZ U)(h:JW U t):(⟨(Kp U t).toArray⟩:Cd).size<=20000:=by
 have c:L (CO U t.B).I.data.toList<=4000:=As (Nat.le_of_eq BS)<|b.I t.B;have d:L (K7 U t.B t.F).data.toList<=4000:=As (Nat.le_of_eq BS)<|b.y t.B t.F;have e:=Ho t.B;have f:=Ho t.F;have g:=a.xE;have i:=a.y t.B;show(Kp U t).toArray.size<=20000;rw[BW];unfold Kp;rcases h with h|h|h
 rw[Ba<|by omega,Ba<|by omega];simp only[Ah,Af,Aw];omega;rw[Bb<|by omega];simp only[Ah,Af,Aw];omega;rw[Ba<|by omega,Bb<|by omega];simp only[Af];omega
theorem O.over{X:Ce}{a:I'}(h:O Cb a P)(k:O X P y0)(e:∀j,X j->(a:M)<=j):O Cb a y0:=
 ⟨k.os.trans h.os,k.tape.trans h.tape,k.output.trans h.output,As h.size k.size,λj d _=>by rw[k.block j (by have:=h.size;omega) λq=>by grind,h.block j d id]⟩
theorem Pq{a:H'->Option (Cm×List MemPlace)}{left:Lit->Bool}(h:P.ranges zy q0 a B C R z8 left X)(c:O z1 P y0)(g:¬z1 B)(i:¬z1 C):y0.ranges zy q0 a B C R z8 left X:=by have p:=h.owns.lt;have q:=h.lt;have⟨f,e,u,t,d,l,F,o,j,m,s⟩:=h;exact⟨f,e,u,t,d,(c.block B p g).trans l,F,o,j,(c.block C q i).trans m,s⟩
theorem pX(a b)(h:lK a=lK b):a=b:=by have⟨⟨c,d,e⟩,⟨f,g,i⟩⟩:=a;have⟨⟨j,k,l⟩,⟨m,n,o⟩⟩:=b;grind[lK]
theorem oD(a b)(h:gZ a=gZ b):a=b:=by grind[gZ]
theorem Mr{R:H'->Option (Cm×List MemPlace)}(h:P.ownsMap zy q0 R B C z8)(e:O Cb P y0):y0.ownsMap zy q0 R B C z8:=by have⟨d,c,a,r⟩:=h;exact⟨d,c,by rw[e.block B (lt_of_block a) id];exact a,r⟩
theorem cR(S pm em B fv mn pn cn P m w)(h:FH S pm em B fv mn pn cn m w)(hp:Ds B w fv P)(hP:Jd P)(hn:NZ P)(d7:Mf w)(h5:fV)(f8:∀p,p∈m.c.x->JW P p.1/\JW P p.2)(f5:∀p,p∈m.c.xG->p.1<=4000/\p.2<P)(k8:m.c.x+L m.c.xG<=200000)(h0:0<L P):
 F' zy 77 #[Z' S] w λe w'=>∃(v:H') (l:Cc) (H:List<|Tg×Tg) (U:List<|M×M),e=v/\CK w w' v l/\l.Pairwise (λa b=>Kq b a=zr)/\l.Perm (H.map (Xx P)++U.map (ZE P))/\H.Nodup/\U.Nodup/\(∀p,p∈H↔p∈m.c.x)/\(∀p,p∈U↔p∈m.c.xG)/\O Cb w w':=by
 obtain⟨mv,rv,ch,hR⟩:=h;obtain⟨gf,cf,rfl,k9⟩:=hp.form h0;obtain⟨r0,r1,V,r3,-,-,-,-,r8,r9⟩:=hR.p.k10;have lm:=Cz hR.p;obtain⟨n1,o,k6,c5,g8⟩:=hR.x;obtain⟨n2,u,k7,c6,g9⟩:=hR.xG;obtain⟨i0,h1,h9,i1,i2⟩:=Bx Tryz.infoStr;have l0:=c5.size_le;have l1:=c6.size_le;have g0:D<|IntKind.i64.wrap ((Maps.size o:zw)+(Maps.size u:zw))=((Maps.size o+Maps.size u:M):zw):=by show _=_;rw[BI];omega
 have i3:=λn ty=>World.ownsMap.len (w:=w.drewN n) c5 underlying174 ty
 have i4:=λn ty=>World.ownsMap.len (w:=w.drewN n) c6 underlying175 ty
 go_in;go_wp2_with fail;apply J9 (v:=Z'<|T ⟨S,0,Z⟩) 11 (by kernel_rfl) (by kernel_rfl) Io<|zo ⟨by rfl,λw=>by go_simp⟩;simp only[AX,List.take_zero,Bl,List.drop_zero];repeat(quiet_step (fail))
 apply wpQuiet_nil;intro w' h7;obtain⟨nq,h8⟩:=h7;subst h8;go_wp2_with(first
  |(at_make;refine wpList_make_own _ Q _ _ 47 Q (w:M) 9 i0 (Y' ⟨#[]⟩) 1 underlying47 h1 h9 i1 .i64 .i64 (IntKind.i64.wrap<|(Maps.size o:zw)+(Maps.size u:zw)) (Maps.size o+Maps.size u) Q Q g0.o (by rw[i2];omega) (by unfold E';omega) (Ad _) ?_;intro w1 d9 f6;have c4:O Cb w w1:=O.xA ((CT _ w).drewN nq) f6 (λk c=>by cases c);clear f6;have i5:K' w1 ⟨S,8,Z⟩=T (.map<|T pm):=(Ae<|c4.block S lm id).trans r8)
  |(at_range;apply wpList_range_own _ Q _ 174 Q 242 275 V0 underlying174 unitElem pm n1 o Q<|Mr c5 c4;intro w2 c2 a2 e1))
 have O1:=c4;clear i3 i4;try go_frame
 have e6:O Cb w w2:=O.xA O1 a2 (λk c=>by cases c);have E:=c2;have lr:(w:M)<(w1:M):=(d9.lt _ Q).2;have b2:(w:M)<=(w1:M):=Nat.le_of_lt lr;generalize (w1:M)=rr at*;have f7:∀k,L' (Y (T ⟨(w:M),0,Z⟩) 0<|Maps.size o+Maps.size u)=T k->k≠rr:=by intro k c;have e:T (w:M)=T k:=c;have e:=Bo e;omega
 have r:CK (w:M) w2 (Y (T ⟨(w:M),0,Z⟩) 0<|Maps.size o+Maps.size u) []:=Cx (X:=Cb) d9 (O.xA (CT _ w1) a2 λk c=>by cases c) Ed;have b0:aQ 242 lK m.c.x []<|Maps.has o:=aQ.xC g8 λp hp=>by obtain⟨q1,q2⟩:=f8 p hp;exact qX (q1.ok hP)<|q2.ok hP
 clear c2 a2 e1 i5 c4 d9 O1 g0;go_loopw[3] (λv wr=>∃(left:Lit->Bool) (a0:M) (H:List<|Tg×Tg) (d:Cc) (f:Ch) (j:M),v=Y f (L d) j/\L d+a0<=Maps.size o/\D (d=H.map (Xx P))/\D (d=[]->∃g,f=T ⟨g,0,Z⟩)/\wr.ranges zy 242 unitElem pm rr n1 o left a0/\aQ 242 lK m.c.x H left/\CK (w:M) wr (Y f (L d) j) d/\D (∀k,L' (Y f (L d) j)=T k->k≠rr)/\O Cb w wr) (λ_ wr=>wr.rangeLeft pm rr);exact⟨Maps.has o,Maps.size o,[],[],_,_,Q,by simp,Q,λ_=>⟨_,Q⟩,E,b0,r,f7,e6⟩;clear E b0 r f7 e6;obtain⟨left,a0,H,d,f,j,rfl,f2,a7,a8,E,C,r,K,HO⟩:=hrel;go_wp2_with((at_next;refine wpList_next_ranges _ Q _ Q 242 V0 unitElem (λv:H'=>v) (λ_:Unit=>N' #[]) (λe3 _ _=>⟨e3,Q⟩) (λv y hv=>⟨(),(unitElem_inv hv).1⟩) pm rr n1 o left a0 Q E ?_ ?_));rotate_left
 .intro x kl _ _ I b5 b6 a4 _ _ c1 h3 a3 a6 d5;obtain⟨p,c0,b9⟩:=C.rest _ a4;obtain rfl:=V0.inj b6 b9;have c7:=C.q V0 pX c0 b9 a4;have b1:=c1;have c9:O Cb w I:=O.xA HO a3 (λk c=>by cases c;exact zn b2);have b3:CK (w:M) I (Y f (L d) j) d:=Cx (X:=λk=>k=rr) r (O.xA (CT _ wr) a3 λk c=>by cases c;exact zo Q) λk c q=>K.o k c q;obtain⟨T1,T2⟩:=f8 p c0;simp only[lK]at d5;clear b6 a4 c1 a3 C r;go_wp2_with fail;have F:=W.new I #[G A p.1.e,G A p.1.B,G A p.1.F,G A p.2.e,G A p.2.B,G A p.2.F] 242;rw[a6]at F;have i:O Cb w<|I.alloc<|R' #[G A p.1.e,G A p.1.B,G A p.1.F,G A p.2.e,G A p.2.B,G A p.2.F] 242:=c9.alloc _;have N:=b3.alloc<|R' #[G A p.1.e,G A p.1.B,G A p.1.F,G A p.2.e,G A p.2.B,G A p.2.F] 242;have G4:=b1.alloc<|R' #[G A p.1.e,G A p.1.B,G A p.1.F,G A p.2.e,G A p.2.B,G A p.2.F] 242;have e2:(I.alloc (R' #[G A p.1.e,G A p.1.B,G A p.1.F,G A p.2.e,G A p.2.B,G A p.2.F] 242):M)=(wr:M)+1:=by simp[a6]
  have e0:=b1.lt;have c3:=λk c=>(b3.lt k c).2
  rw[a6]at e0;generalize I.alloc _=W4 at*;have d6:D<|(⟨(Kp P p.1).toArray⟩:Cd)++⟨#[62]⟩++⟨(Kp P p.2).toArray⟩=Xx P p:=F7 (by simp);have b4:∀s,O Cb W4 s->Mf s:=λs R n W' d8 d3=>d7 n W' d8<|i.trans<|R.trans d3
  have bm:=i.block S lm id;refine Fu<|kM _ S (wr:M) (w:M) gf (L P) cf mn pn cn _ _ _ _ _ _ d f j ⟨(Kp P p.1).toArray⟩ ⟨(Kp P p.2).toArray⟩ W4 ⟨(Ae bm).trans r0,(Ae bm).trans r1,(Ae bm).trans V,(Ae bm).trans r3,F.z 0,F.z 1,F.z 2,F.z 3,F.z 4,F.z 5⟩ (by have:=i.size;omega) (by omega) i.size N (by omega) (λk c=>⟨by have:=(N.lt k c).1;omega,by have:=c3 k c;omega⟩) (λs R=>Ow B _ mn pn cn P p.1 s (hp.t8<|i.trans R) hP hn T1 (b4 s R) h0) (λs R=>Ow B _ mn pn cn P p.2 s (hp.t8<|i.trans R) hP hn T2 (b4 s R) h0) (UN hP hn T1) (UN hP hn T2) ?_;intro v' w9 i7 i8 i9 j0 j1 j2 j3 j4 j5 j6 j7 j8 j9 k0 k1 k2 k3 k4 k5 a1 b8 a5;rw[d6.o]at a1;have d1:=a1;have d0:O Cb w w9:=i.over a5 λk q=>(N.lt k q).1;have a9:w9.ranges zy 242 unitElem pm rr n1 o (λz=>left z && !z.sameKey kl) b5:=Pq G4 a5 (λq=>by have:=(N.lt _ q).1;have:=c5.lt;omega) λq=>K.o rr q Q;have c8:D (∀k,L' v'=T k->k≠rr):=λk c=>(b8 k c).elim (K.o k) λq=>by omega
  have h2:L (d++[Xx P p])=L d+1:=by simp
  have d2:D<|d++[Xx P p]=(H++[p]).map (Xx P):=by show _=_;rw[a7.o];simp
  obtain⟨e4,e5,rfl⟩:=CB a1;clear a1 b8 a5 G4 N i b4 F e2 bm c3;dsimp only;go_wp2_with fail;go_roundw;exact⟨_,b5,H++[p],_,e4,e5,Q,by omega,d2,(λq=>Bm q<|by simp),a9,c7,d1,c8,d0⟩;rw[a9.left_eq,E.left_eq];omega
 intro d4 b7;have g2:=J<|C.done b7;have g4:=J C.nodup;have i6:K' wr ⟨S,9,Z⟩=T (.map<|T em):=(Ae<|HO.block S lm id).trans r9;have f9:=λk c=>(r.lt k c).2
 have g6:=J HO.size;clear C E K d4 b7 b2 lr r8;go_wp2_with(at_range;apply wpList_range_own _ Q _ 175 Q 245 275 VZ underlying175 unitElem em n2 u Q<|Mr c6 HO;intro w5 c2 a2 e1);try go_frame
 have e7:O Cb w w5:=O.xA HO a2 (λk c=>by cases c);have E:=c2;have K:D (∀k,L' (Y f (L d) j)=T k->k≠(wr:M)):=λk c=>by have:=f9 k c;omega
 have e8:CK (w:M) w5 (Y f (L d) j) d:=Cx (X:=Cb) r (O.xA (CT _ wr) a2 λk c=>by cases c) Ed;have b0:aQ 245 gZ m.c.xG []<|Maps.has u:=aQ.xC g9 (λp hp=>by obtain⟨q1,q2⟩:=f5 p hp;exact qW (by omega)<|by have:=hP.xE;omega)
 have h6:L d<=Maps.size o:=by omega
 have f1:D<|d=H.map (Xx P)++([]:List<|M×M).map (ZE P):=by show _=_;rw[a7.o];simp
 clear c2 a2 e1 i6 r HO a7 f9 f2;have b2:=g6;generalize (wr:M)=V at*;go_loopw[3] (λv wr=>∃(left:Lit->Bool) (a0:M) (U:List<|M×M) (d:Cc) (f:Ch) (j:M),v=Y f (L d) j/\L d+a0<=Maps.size o+Maps.size u/\D (d=H.map (Xx P)++U.map (ZE P))/\D (d=[]->∃g,f=T ⟨g,0,Z⟩)/\wr.ranges zy 245 unitElem em V n2 u left a0/\aQ 245 gZ m.c.xG U left/\CK (w:M) wr (Y f (L d) j) d/\D (∀k,L' (Y f (L d) j)=T k->k≠V)/\O Cb w wr) (λ_ wr=>wr.rangeLeft em V);exact⟨Maps.has u,Maps.size u,[],d,f,j,Q,by omega,f1,a8,E,b0,e8,K,e7⟩;clear E b0 e8 K e7 f1 h6 a8;obtain⟨left,a0,U,d,f,j,rfl,f2,a7,a8,E,C,r,K,HO⟩:=hrel;go_wp2_with((at_next;refine wpList_next_ranges _ Q _ Q 245 VZ unitElem (λv:H'=>v) (λ_:Unit=>N' #[]) (λe3 _ _=>⟨e3,Q⟩) (λv y hv=>⟨(),(unitElem_inv hv).1⟩) em V n2 u left a0 Q E ?_ ?_));rotate_left
 .intro x kl _ _ I b5 b6 a4 _ _ c1 h3 a3 a6 d5;obtain⟨p,c0,b9⟩:=C.rest _ a4;obtain rfl:=VZ.inj b6 b9;have c7:=C.q VZ oD c0 b9 a4;have b1:=c1;have c9:O Cb w I:=O.xA HO a3 (λk c=>by cases c;exact zn b2);have b3:CK (w:M) I (Y f (L d) j) d:=Cx (X:=λk=>k=V) r (O.xA (CT _ wr) a3 λk c=>by cases c;exact zo Q) λk c q=>K.o k c q;obtain⟨T1,T2⟩:=f5 p c0;simp only[gZ]at d5;clear b6 a4 c1 a3 C r;go_wp2_with fail;have F:=W.new I #[G A p.1,G A p.2] 245;rw[a6]at F;have i:O Cb w<|I.alloc<|R' #[G A p.1,G A p.2] 245:=c9.alloc _;have N:=b3.alloc<|R' #[G A p.1,G A p.2] 245;have G4:=b1.alloc<|R' #[G A p.1,G A p.2] 245;have e2:(I.alloc (R' #[G A p.1,G A p.2] 245):M)=(wr:M)+1:=by simp[a6]
  have e0:=b1.lt;have c3:=λk c=>(b3.lt k c).2
  rw[a6]at e0;generalize I.alloc _=W4 at*;have d6:D<|(⟨#[33]⟩:Cd)++Xw p.1++⟨#[62]⟩++(CO P p.2).I=ZE P p:=F7 (by simp[Xw]);have b4:∀s,O Cb W4 s->Mf s:=λs R n W' d8 d3=>d7 n W' d8<|i.trans<|R.trans d3
  have bm:=i.block S lm id;obtain⟨vv,sv,hc,_,_⟩:=(hp.t8 i).get T2;rw[<-JP T2]at hc;have f0:=hc 0 (by decide);simp only[Rk,Aa,Au]at f0;have f3:(Xw p.1).size<=20000:=by have:=Ho p.1;simp only[Xw,ByteArray.size,BW];omega
  have f4:(CO P p.2).I.size<=20000:=by have:=hn.I p.2;omega
  refine Fu<|kQ _ S (wr:M) (w:M) gf (L P) cf p.1 p.2 d f j (Xw p.1) (CO P p.2).I W4 ⟨(Ae bm).trans r0,F.z 0,F.z 1,f0⟩ (by have:=i.size;omega) (by omega) (by have:=i.size;omega) i.size T2 N (by omega) (λk c=>⟨by have:=(N.lt k c).1;omega,by have:=c3 k c;omega,by have:=(N.lt k c).1;omega⟩) (λs R=>d7 p.1 s T1<|i.trans R) f3 f4 ?_;intro v' w9 i7 i8 i9 j0 j1 j2 j3 j4 j5 j6 j7 j8 j9 k0 k1 k2 k3 k4 k5 a1 b8 a5;rw[d6.o]at a1;have d1:=a1;have d0:O Cb w w9:=i.over a5 λk q=>(N.lt k q).1;have a9:w9.ranges zy 245 unitElem em V n2 u (λz=>left z && !z.sameKey kl) b5:=Pq G4 a5 (λq=>by have:=(N.lt _ q).1;have:=c6.lt;omega) λq=>K.o V q Q;have c8:D (∀k,L' v'=T k->k≠V):=λk c=>(b8 k c).elim (K.o k) λq=>by omega
  have h2:L (d++[ZE P p])=L d+1:=by simp
  have d2:D<|d++[ZE P p]=H.map (Xx P)++(U++[p]).map (ZE P):=by show _=_;rw[a7.o];simp
  obtain⟨e4,e5,rfl⟩:=CB a1;clear a1 b8 a5 G4 N i b4 F e2 bm c3 hc f0 f3 f4;dsimp only;go_wp2_with fail;go_roundw;exact⟨_,b5,U++[p],_,e4,e5,Q,by omega,d2,(λq=>Bm q<|by simp),a9,c7,d1,c8,d0⟩;rw[a9.left_eq,E.left_eq];omega
 intro d4 b7;have g3:=J<|C.done b7;have g5:=J C.nodup;have h4:∃g,f=T ⟨g,0,Z⟩:=by
  cases hq:d with
  |nil=>exact a8.o hq
  |cons a t=>exact CH r<|by rw[hq];simp
 obtain⟨g7,rfl⟩:=h4;have e9:=h5 (w:M) g7 j d wr r (by omega);have g1:∀k,k=g7->(w:M)<=k:=λk c=>by subst c;exact(r.lt _ Q).1
 clear C E K d4 b7 b2 r a8;go_wp2_with fail;apply e9.mono;rintro e w7 ⟨rfl,l7,s1,s2,s3,s4⟩;rw[a7.o]at s2;have S4:=HO.over s4 g1;clear s4 e9;go_wp2_with fail;go_ret;exact⟨_,l7,H,U,Q,s1,s3,s2,g4,g5,g2.o,g3.o,S4⟩
structure IK(P:CQ)(c:Co):Prop where
 nm:∀i,i<c.d.length->JW P (CM c.d i).nm
 X:∀p,p∈c.x->JW P p.1/\JW P p.2
 V:∀e,e∈c.xG->e.1<=4000/\e.2<P
theorem IK.set(h:IK U u8){a v}(d:a<L u8.d)(f:E9 U u8.d v):IK U<|u8.set a v:=by
 refine⟨λi e=>?_,λp b=>?_,h.V⟩;rw[ZC];rw[GP]at e;exact h.nm i e;unfold Co.set at b;simp only at b;split at b;rename_i g;rcases AY.1 b with rfl|b
 refine⟨h.nm a d,zn<|zn ⟨Q,?_,Q⟩⟩;rcases f with⟨q,_⟩|⟨_,q⟩|⟨q,_⟩
 omega;exact q;omega;exact h.X p b;split at b;rename_i g;rcases AY.1 b with rfl|b
 refine⟨h.nm a d,h.nm _ ?_⟩;rcases f with⟨q,_⟩|⟨q,_⟩|⟨_,q⟩
 omega;omega;exact q;exact h.X p b;exact h.X p b
theorem IK.app(h:IK U u8){l}(b:∀x,x∈l->JW U x.nm):IK U {u8 with d:=u8.d++l}:=by
 refine⟨λi a=>?_,h.X,h.V⟩;simp only[Ah]at a;unfold CM;rcases AV i u8.d with q|q
 simp only;rw[Be q];exact h.nm i q;grind
theorem IK.xK(h:IK U u8)(b:B<=4000):IK U<|u8.xK B:=by refine h.app λx a=>?_;simp only[AY,AE,or_false]at a;rcases a with rfl|rfl|rfl|rfl<;>exact zn<|zo ⟨Q,b,by simp⟩
theorem IK.y(h:IK U u8)(a:B<L U):IK U<|u8.y B (CO U B).y:=by refine h.app λx d=>?_;obtain⟨i,b,rfl⟩:=AS.1 d;exact zo ⟨Q,a,List.mem_range.1 b⟩
theorem IK.k:∀(l:List Vl) (a:M) (c:Co),IK U c->a+L l<=c.d->(∀v,v∈l->E9 U c.d v)->IK U (Fw l a c)
 |[],_,_,h,_,_=>h
 |v::l,a,c,h,b,d=>by simp only[Af]at b;refine IK.k l (a+1) (c.set a v) (h.set (by omega)<|d v<|by simp) (by grind[GP]) λu e=>?_;grind[GP]
theorem IK.enter(h:IK U u8){f}(a:f<L U){args}(e:L args<=L (CO U f).y)(b:∀v,v∈args->E9 (L U) (L u8.d) v):IK U<|u8.enter f (L (CO U f).y) args:=by refine IK.k args u8.d _ (h.y a) (by grind[Co.y]) λv d=>(b v d).more<|by simp[Co.y]
theorem IK.yO{m}(h:IK U m.c)(c:B<L U){a}(b:L a<=L (CO U B).y)(d:∀v,v∈a->E9 (L U) (L m.c.d) v):IK U (Ef U m B a C).c:=by unfold Proofs.YtbkhmmeecjnnkaaGreatDoor.Ef;split;exact h;exact h.enter c b d
theorem IK.leave{m}(h:IK U m.c)(b:EA U B m){v}(d:E9 U m.c.d v):IK U (DL m v).c:=by
 have⟨c,a,e⟩:=m;match a with
 |[]=>exact h
 |[f]=>exact h
 |f::g::r=>exact h.set b.yP.1 d
theorem IK.norm:∀(k:M) {m:Mc},IK U m.c->EA U B m->IK U (DQ U k m).c
 |0,_,h,_=>h
 |k+1,m,h,a=>by
  unfold DQ;split
  .split
   .exact h
   .split
    .exact h
    .exact IK.norm k (h.leave a<|LF _ _) a.zA
  .exact h
theorem IK.act{m}(h:IK U u8)(f:EI U u8.d)(d:C<L u8.d)(n:R<L u8.d)(r:B=4->p0<L U)(o:B=3->X<=3)(s:v0<=4000)(a:KP B C R X v0 p0 u8=T m):IK U m:=by
 have i:=(f.at_ n).2;unfold Proofs.YtbkhmmeecjnnkaaGreatDoor.KP at a;split at a;cases a;exact(h.xK s).set (by grind[Co.xK]) (zn<|zn ⟨Q,by simp[Co.xK]⟩);split at a;cases a;exact h.set d<|zn<|zn ⟨Q,n⟩;split at a;rename_i l;split at a;rename_i j;cases a;have⟨u,v,w⟩:=j;have e:(CM u8.d R).v.c<u8.d:=by
  rcases i with⟨b,_⟩|⟨b,_⟩|⟨_,b⟩
  omega;omega;exact b
 have t:=(f.at_ e).1;have:=o l;refine h.set d<|zn<|zn ⟨Q,?_⟩;rcases t with b|⟨_,_,_,_,b⟩
 omega;grind;cases a;split at a;rename_i l;cases a;exact h.set d<|zn<|zo ⟨Q,r l⟩;split at a;split at a;rename_i j;cases a;have e:(CM u8.d R).v.c<u8.d:=by
  rcases i with⟨b,_⟩|⟨b,_⟩|⟨_,b⟩
  omega;omega;exact b
 exact h.set d (f.at_ e).2;cases a;split at a;cases a;exact h.set d i;split at a;split at a;rename_i j;cases a;have e:(CM u8.d C).v.c<u8.d:=by
  rcases(f.at_ d).2 with⟨b,_⟩|⟨b,_⟩|⟨_,b⟩
  omega;omega;exact b
 exact h.set e i;cases a;grind
theorem IK.step(j:Jd U){m}(c:IK U m.c)(h:EA U (B+1) m)(l:m.v=x9::n7)(K:x9.q<(CO U x9.fn).f):IK U (Kn U m).c:=by
 have w:=h.S x9 (by rw[l];simp);have b:=j.ok x9.fn w.fn _<|Xc K;have hb:=w.wX;unfold Kn;rw[l];simp only;have⟨s,S⟩:=Dv<|PK (CO U x9.fn).f x9.q;rw[S]at b|-;have z:=h.q l b.q;have t:∀v,v∈EJ m.c.d x9.wX s.k->E9 U m.c.d v:=by intro v d;unfold EJ at d;obtain⟨a,p,rfl⟩:=AS.1 d;have:=b.k a p;exact(h.d.at_<|by omega).2
 have a0:L (EJ m.c.d x9.wX s.k)=s.k:=by grind[EJ]
 split;rename_i g;have h2:=b.many g;have E:=j.yB s.n;exact IK.yO (m:={m with v:={x9 with q:=s.q}::n7}) c (b.func<|zn g) (by omega) t;split;rename_i F;have a2:=b.sr (by omega);split;rename_i I;split;exact c;have d:=(h.d.at_ (i:=x9.wX+s.n)<|by omega).2;have u:(CM m.c.d<|x9.wX+s.n).v.c<U:=by
  rcases d with⟨q,_⟩|⟨_,q⟩|⟨q,_⟩
  omega;exact q;omega
 have E:=j.yB (CM m.c.d<|x9.wX+s.n).v.c;have a1:=I.2;refine IK.yO (m:=⟨{m.c with xG:=(s.t,(CM m.c.d<|x9.wX+s.n).v.c)::m.c.xG},{x9 with q:=s.q}::n7,m.s⟩) ⟨c.nm,c.X,λe k=>?_⟩ u (by omega) t;rcases AY.1 k with rfl|k
 exact⟨b.t,u⟩;exact c.V e k;exact c;split;rename_i C;have:=b.sr (by omega);exact IK.leave (m:={m with v:={x9 with q:=s.q}::n7}) c z<|(h.d.at_<|by omega).2;split;exact⟨c.nm,c.X,c.V⟩;split;rename_i x p;rename_i g F C V;by_cases y:s.e=0;grind[Proofs.YtbkhmmeecjnnkaaGreatDoor.KP];have ht:=b.tg y (by omega) (by omega) (by omega);have N:∃o,o<L m.c.d/\Proofs.YtbkhmmeecjnnkaaGreatDoor.KP s.e (x9.wX+s.w) o s.wU s.t s.n m.c=x:=by by_cases X:s.e=1\/s.e=4;refine⟨x9.wX+s.w,by omega,?_⟩;grind[Proofs.YtbkhmmeecjnnkaaGreatDoor.KP];have:=b.sr (by have:=b.e;omega);grind
 have⟨o,R,H⟩:=N;exact c.act h.d (by omega) R (λe=>b.func<|zo e) (λ_=>b.wU) b.t H;exact c
theorem Oz:∀(k:M) (m:Mc),m.v<k->(DQ U k m).s=1->∀f r,(DQ U k m).v=f::r->f.q<(CO U f.fn).f
 |0,_,h,_,_,_,_=>by omega
 |k+1,m,h,a,f,r,b=>by
  unfold DQ at a b;by_cases c:m.s=1
  .rw[Bb c]at a b;cases e:m.v with
   |nil=> grind
   |cons g s=>
    rw[e]at a b;simp only at a b;by_cases d:g.q<(CO U g.fn).f
    .grind
    .rw[Ba d]at a b;refine Oz k (DL m Hd) ?_ a f r b;grind[Pf]
  grind
theorem IK.go(e:Jd U):∀(n:M) {m:Mc},L m.v<=40->IK U m.c->EA U n m->IK U (Mh U n m).1.c
 |0,m,_,b,a=>by unfold Mh;exact b.norm 41 a
 |n+1,m,k,b,a=>by
  unfold Mh;split
  .rename_i h;have j:=b.norm 41 a;have d:=a.norm 41;cases c:(DQ U 41 m).v with
   |nil=>exact Bm c<|d.run h
   |cons f r=> have i:=Oz 41 m (by omega) h f r c;have g:=d.step e c i;exact IK.go e n g.u (j.step e d c i) g
  .exact b.norm 41 a
theorem IK.run(d:Jd U)(h:C<=5000)(e:B<L U)(a):IK U (WZ U B C a).1.c:=by have⟨k,c⟩:=EA.xC d (n:=C) (f:=B) (ch:=a) h e;refine IK.go d C c.u ?_ c;exact IK.yO (m:=⟨⟨[],a,[],[]⟩,[],1⟩) ⟨λi g=>Bm g<|Nat.not_lt_zero _,λp b=>Bm b AE,λp b=>Bm b AE⟩ e (by simp) λv j=>Bm j AE
theorem ZD:∀(n:M) (x:UInt8),x∈Lib.decDigits n->48<=x.toNat/\x.toNat<=57:=by
 intro n;induction n using Nat.strongRecOn with
 |_ n c=>
  intro x b;have a:∀d:M,d<10->(UInt8.ofNat<|48+d).toNat=48+d:=by decide
  grind[Lib.decDigits]
def uL(l:Cj):M:=l.foldl (λa d=>10*a+(d.toNat-48)) 0
theorem nZ:∀n:M,uL (Lib.decDigits n)=n:=by
 intro n;induction n using Nat.strongRecOn with
 |_ n b=>
  have a:∀d:M,d<10->(UInt8.ofNat<|48+d).toNat=48+d:=by decide
  grind[Lib.decDigits,uL]
theorem Ui(h:Lib.decDigits B=Lib.decDigits C):B=C:=by grind[nZ]
theorem gX(n):∃x l,Lib.decDigits n=x::l/\48<=x.toNat/\x.toNat<=57:=by
 cases h:Lib.decDigits n with
 |nil=> rw[Lib.decDigits]at h;split at h;cases h;exact Bm h<|by simp
 |cons x l=>grind[ZD]
theorem QE{c:UInt8}:∀{a e b d:Cj},c∉a->c∉e->a++[c]++b=e++[c]++d->a=e/\b=d
 |[],[],b,d,_,_,h=>by simpa using h
 |[],y::e,b,d,_,g,h=>by grind
 |x::a,[],b,d,f,_,h=>by grind
 |x::a,y::e,b,d,f,g,h=>by simp only[List.cons_append,List.cons.injEq]at h;obtain⟨i,j⟩:=QE (λq=>f<|Ax _ q) (λq=>g<|Ax _ q) h.2;grind
theorem PY(h:fF u0){c}(a:c.toNat<97):c∉u0.data.toList:=λq=>by have:=h c q;omega
theorem LN(n){c}(a:c.toNat<48\/57<c.toNat):c∉Lib.decDigits n:=λq=>by grind[ZD]
theorem M4{b:Cd}(h:u0.data.toList=b.data.toList):u0=b:=by cases u0;cases b;simp only at h;have:=Array.toList_inj.1 h;subst this;rfl
structure aT(P:CQ):Prop where
 nl:∀i,fF (CO P i).I
 vl:∀i j,fF<|K7 P i j
 inj:∀i j,i<P.length->j<P.length->(CO P i).I=(CO P j).I->i=j
 de:∀i,(CO P i).y.Nodup
theorem Zf(h:aT U){c}(a:c.toNat<46\/(57<c.toNat/\c.toNat<64))(t):c∉Kp U t:=by
 have e:=LN t.B (c:=c) (by omega);have f:=LN t.F (c:=c) (by omega);have g:=PY (h.nl t.B) (c:=c) (by omega);have i:=PY (h.vl t.B t.F) (c:=c) (by omega);have b:c≠46:=by rintro rfl;simp at a
 have d:c≠64:=by rintro rfl;simp at a
 grind[Kp]
theorem RP(h:aT U)(t):∃x l,Kp U t=x::l/\(t.e=1->48<=x.toNat/\x.toNat<=57)/\(t.e=2->x=64)/\(t.e≠1->t.e≠2->x.toNat=46\/97<=x.toNat):=by
 unfold Kp;split;rename_i d;have⟨x,l,e,f⟩:=gX t.B;grind;rename_i a;split;grind;rename_i b;cases c:(CO U t.B).I.data.toList with
 |nil=>exact⟨46,_,Q,λq=>Bm q a,λq=>Bm q b,λ_ _=>zo Q⟩
 |cons x l=>exact⟨x,_,Q,λq=>Bm q a,λq=>Bm q b,λ_ _=>zn<|h.nl t.B x<|by rw[c];simp⟩
theorem jP(h:n0.Nodup)(a:B<n0)(b:C<n0)(e:n0[B]=n0[C]):B=C:=by grind[List.pairwise_iff_getElem]
theorem aJ(h:aT U){s t}(F:JW U s)(H:JW U t)(e:Kp U s=Kp U t):s=t:=by
 have⟨x,l,B,I,w,K⟩:=RP h s;have⟨y,m,C,N,z,R⟩:=RP h t;rw[B,C]at e;have E:x=y:=by grind
 subst E;have e:Kp U s=Kp U t:=by grind
 have X:(64:UInt8).toNat=64:=by decide
 rcases F with⟨a,c,d⟩|⟨a,c,d⟩|⟨a,c,d⟩<;>rcases H with⟨b,f,g⟩|⟨b,f,g⟩|⟨b,f,g⟩
 unfold Kp at e;rw[Ba<|by omega,Ba<|by omega,Ba<|by omega,Ba<|by omega]at e;have⟨i,j⟩:=QE (PY (h.nl _)<|by decide) (PY (h.nl _)<|by decide) e;have o:=h.inj _ _ c f<|M4 i;have⟨q,n,p⟩:=s;have⟨u,v,r⟩:=t;simp only at*;subst o a b;have k:=M4 j;unfold K7 at k;rw[Ag d,Ag g]at k;have:=jP (h.de n) d g k;grind;omega;have:=K (by omega) (by omega);have:=z b;subst this;omega;omega;unfold Kp at e;rw[Bb a,Bb b]at e;have⟨i,j⟩:=QE (LN _<|by decide) (LN _<|by decide) e;have S:=Ui i;have V:=Ui j;have⟨q,n,p⟩:=s;have⟨u,v,r⟩:=t;grind;have:=I a;have:=z b;subst this;omega;have:=R (by omega) (by omega);have:=w a;subst this;omega;have:=N b;have:=w a;subst this;omega;unfold Kp at e;rw[Ba<|by omega,Bb a,Ba<|by omega,Bb b]at e;have o:=h.inj _ _ c f<|M4 (List.cons.inj e).2;have⟨q,n,p⟩:=s;have⟨u,v,r⟩:=t;grind
theorem Ur{a b:Cj}(h:(⟨a.toArray⟩:Cd)=⟨b.toArray⟩):a=b:=by grind
theorem oE(h:aT U){p q}(c:JW U p.1/\JW U p.2)(d:JW U q.1/\JW U q.2)(e:Xx U p=Xx U q):p=q:=by have⟨a,b⟩:=QE (Zf h (by decide) _) (Zf h (by decide) _)<|Ur e;grind[aJ]
theorem oC(h:aT U){p q}(c:p.2<L U)(d:q.2<L U)(e:ZE U p=ZE U q):p=q:=by have e:=Ur e;simp only[List.cons_append,A8,List.cons.injEq,true_and]at e;have⟨a,b⟩:=QE (LN _<|by decide) (LN _<|by decide) e;exact Prod.ext (Ui a)<|h.inj _ _ c d<|M4 b
theorem uN(h:aT U)(p q):Xx U p≠ZE U q:=by intro e;have e:=Ur e;have⟨x,l,a,_⟩:=RP h p.1;have:=Zf h (c:=33) (by decide) p.1;grind
theorem Ox{g:Type}{f:z9->g}:∀{l:List z9},l.Nodup->(∀a b,a∈l->b∈l->f a=f b->a=b)->(l.map f).Nodup
 |[],_,_=>by simp
 |x::l,h,e=>by rw[List.nodup_cons]at h;rw[AH,List.nodup_cons];refine⟨λq=>?_,Ox h.2 λa b c d=>e a b (Ax _ c)<|Ax _ d⟩;grind
structure Sw(P:CQ)(l:Cc)(pts:List<|Tg×Tg)(ent:List<|M×M):Prop where
 sorted:l.Pairwise λa b=>Kq a b=zt
 d:∀x,x∈l↔(∃p,p∈pts/\x=Xx P p)\/(∃e,e∈ent/\x=ZE P e)
theorem IC:∀{l:Cc},l.Pairwise (λa b=>Kq b a=zr)->l.Nodup->l.Pairwise (λa b=>Kq a b=zt)
 |[],_,_=>List.Pairwise.nil
 |x::l,h,c=>by rw[List.pairwise_cons]at h;rw[List.nodup_cons]at c;refine List.Pairwise.cons (λb d=>Th (h.1 b d) λq=>c.1<|q▸d)<|IC h.2 c.2
theorem pV(h:aT U)(g:IK U u8){j:List<|Tg×Tg}{i:List<|M×M}(n:n0.Pairwise λa b=>Kq b a=zr)(o:n0.Perm<|j.map (Xx U)++i.map (ZE U))(q:j.Nodup)(r:i.Nodup)(k:∀p,p∈j↔p∈u8.x)(m:∀p,p∈i↔p∈u8.xG):Sw U n0 u8.x u8.xG:=by refine⟨IC n<|o.nodup_iff.2 ?_,λx=>?_⟩;rw[List.nodup_append];refine⟨Ox q λa b d f e=>oE h (g.X a<|(k a).1 d) (g.X b<|(k b).1 f) e,Ox r λa b d f e=>oC h (g.V a<|(m a).1 d).2 (g.V b<|(m b).1 f).2 e,λa d b f=>?_⟩;grind[uN];grind
theorem ID:∀{a b:Cc},a.Pairwise (λa b=>Kq a b=zt)->b.Pairwise (λa b=>Kq a b=zt)->(∀x,x∈a↔x∈b)->a=b
 |[],[],_,_,_=>rfl
 |[],y::b,_,_,h=>Bm ((h y).2<|by simp) AE
 |x::a,[],_,_,h=>Bm ((h x).1<|by simp) AE
 |x::a,y::b,c,d,h=>by
  rw[List.pairwise_cons]at c d;have e:x=y:=by
   rcases AY.1 ((h x).1<|by simp)with q|q
   .exact q
   .rcases AY.1 ((h y).2<|by simp)with r|r
    .exact r.symm
    .have f:=d.1 x q;have g:=c.1 y r;have:=LT f g;rw[KE]at this;cases this
  subst e;rw[ID c.2 d.2 λz=>?_];grind[KE]
structure tV(fn:Cc)(P:CQ)(X:FZ):Prop where
 I:∀i,(CO P i).I=Lh fn i
 y:∀i,(CO P i).y=(CP X i).y
theorem eC(h:tV n0 U o2){l e d a}(b:Sw U l d a)(c:IG n0 o2 e d a):l=e:=by
 have i:∀t,Kp U t=mU n0 o2 t:=λt=>by unfold Kp mU K7 Xs;rw[h.I,h.y];rfl
 refine ID b.sorted c.sorted λx=>?_;rw[b.d,c.d];have f:∀p,Xx U p=tN n0 o2 p:=λp=>by grind[Xx,tN,vU]
 have g:∀p,ZE U p=tM n0 p:=λp=>by unfold ZE tM vT;rw[h.I]
 grind
structure Fi(c:Df):Prop where
 xZ:vO c
 sum:(c.map λt=>FG t.i).sum<=4000
 wf:∀t,t∈c->qQ t.i
 ak:∀t,t∈c->fR (λb=>fF b/\b.size<=4000) t
def DN(c:Df):Cc:=c.map λf=>f.I.a
def UX(c:Df):Cf:=c.map λf=>f.m
def sK(k:M)(l:Df)(i:M):M:=((l.take i).map λt=>nL k t.i).sum
theorem Wy{fn:Cc}{par:Cf}:∀(l:Df) (b a i:M) (h:i<l),(∀t,t∈l->Mn fn par t.i (t.m.map λp=>p.a))->(Du fn l b a)[i]? =(FO fn l[i] (b+sK 1 l i)<|a+sK 8 l i)
 |[],_,_,i,h,_=>by simp at h
 |t::l,b,a,0,_,_=>by simp[Du,sK]
 |t::l,b,a,i+1,h,d=>by obtain⟨_,f,j,_⟩:=Ns (fn:=fn) (par:=par) t b a<|d t<|A9 ..;have I:=Wy (fn:=fn) (par:=par) l (b+nL 1 t.i) (a+nL 8 t.i) i (by simpa using h) λt e=>d t<|Ax _ e;grind[Du,sK]
theorem GH{fn:Cc}:∀(l:Df) (b a:M),L (Du fn l b a)=l
 |[],_,_=>rfl
 |t::l,b,a=>by rw[Du,Af,GH l,Af]
theorem mO:∀(l:Df) (b a i:M) (h:i<l),(KV l b a)[i]? =T ⟨FU l[i],l[i].m,l[i].i,b+sK 1 l i,a+sK 8 l i⟩
 |[],_,_,i,h=>by simp at h
 |t::l,b,a,0,_=>by simp[KV,sK,FU]
 |t::l,b,a,i+1,h=>by have I:=mO l (b+nL 1 t.i) (a+nL 8 t.i) i (by simpa using h);grind[KV,sK]
theorem Qg:∀(l:Df) (b a:M),L (KV l b a)=l
 |[],_,_=>rfl
 |t::l,b,a=>by rw[KV,Af,Qg l,Af]
theorem W7(k):∀(l:Df) (i:M) (h:i<l),sK k l i+nL k l[i].i<=(l.map λt=>FG t.i).sum
 |[],i,h=>by simp at h
 |t::l,0,_=>by grind[Pj,sK]
 |t::l,i+1,h=>by have I:=W7 k l i (by simpa using h);grind[Pj,sK]
theorem ZZ{f:TF->M}:∀{l:Df} {t:TF},t∈l->f t<=(l.map f).sum
 |[],_,h=>by simp at h
 |a::l,t,h=>by
  simp only[AH,AQ];rcases AY.1 h with rfl|q
  .omega
  .have:=ZZ (f:=f) q;omega
section
variable{c:Df}(g:Fi c)
include g
theorem Fi.cd{t:TF}(h:t∈c):FG t.i<=4000:=As (ZZ (f:=λt=>FG t.i) h) g.sum
theorem Fi.pf(i:M)(h:i<c):CO (Du (DN c) c 0 0) i=FO (DN c) c[i] (sK 1 c i) (sK 8 c i):=by unfold CO;rw[Wy (fn:=DN c) (par:=UX c) c 0 0 i h g.xZ.ok,AM,AM];rfl
omit g in
theorem JQ(c:Df)(i:M)(h:¬i<c):CO (Du (DN c) c 0 0) i=⟨⟨#[]⟩,[],0,[]⟩:=by grind[CO,GH]
omit g in
theorem IN(c:Df)(i:M)(h:i<c):CP (KV c 0 0) i=⟨FU c[i],c[i].m,c[i].i,sK 1 c i,sK 8 c i⟩:=by grind[CP,mO]
omit g in
theorem KN(c:Df)(i:M)(h:¬i<c):CP (KV c 0 0) i=⟨[],0,[],0,0⟩:=by grind[CP,Qg]
theorem Fi.one(i:M)(h:i<c):(CO (Du (DN c) c 0 0) i).I=c[i].I.a/\(CO (Du (DN c) c 0 0) i).y=FU c[i]/\(CO (Du (DN c) c 0 0) i).m=c[i].m/\(CO (Du (DN c) c 0 0) i).f=FG c[i].i:=by rw[g.pf i h];have⟨a,_,_,b,_⟩:=Ns (fn:=DN c) (par:=UX c) c[i] (sK 1 c i) (sK 8 c i)<|g.xZ.ok _<|Am _;exact⟨Q,a,Q,b⟩
theorem Fi.zM:Jd<|Du (DN c) c 0 0:=by
 have y:=GH (fn:=DN c) c 0 0;have v:=g.xZ.xE;refine⟨by omega,λi=>?_,λi=>?_,λi=>?_,λi x s d=>?_⟩;by_cases h:i<c;rw[(g.one i h).2.1];exact(g.xZ.y _<|Am _).2;grind[JQ];by_cases h:i<c;rw[(g.one i h).2.1,(g.one i h).2.2.1];simp[FU];grind[JQ];by_cases h:i<c;rw[(g.one i h).2.2.2];have:=g.cd<|Am h;omega;grind[JQ];have h:i<c:=by omega
 have b:c[i]∈c:=Am _;have⟨B,e,C,f⟩:=g.one i h;have m:=g.xZ.y _ b;have t:=W7 1 c i h;have u:=W7 8 c i h;have z:=g.sum;have k:s∈(DI (DN c) c[i].i (FG c[i].i)<|XM c[i] (sK 1 c i)<|sK 8 c i).f:=by rw[g.pf i h]at d;exact d
 have K:=Lo (fn:=DN c) (par:=UX c) (V:=FU c[i]) (Lm:=FG c[i].i) m.2 (by grind[DN]) c[i].i (FG c[i].i) (XM c[i] (sK 1 c i)<|sK 8 c i) (g.xZ.ok _ b) (g.wf _ b) (Ad _) (Ad _) (by simp[XM]) (by show sK 1 c i+_<=4000;omega) (by show sK 8 c i+_<=4000;omega) (λs d=>by grind[XM]) s k;have w:L (DN c)=c:=by grind[DN]
 refine⟨K.e,λn o p r=>by rw[e];exact K.tg n o p r,λq=>by rw[e];exact K.sr q,λq=>by have:=K.func q;omega,λq=>?_,λa j=>by rw[e];exact K.k a j,K.xE,K.wU,K.t,by rw[f];exact K.q,by rw[f];exact K.xI,K.t5,K.s5⟩;have l:s.n<c:=by have:=K.func<|zn q;omega
 rw[(g.one _ l).2.2.1,<-K.many q];grind[UX]
theorem Fi.var{i:M}(h:i<c){s:Cd}(b:s∈FU c[i]):fF s/\s.size<=4000:=by
 have⟨_,d,e⟩:=g.ak _<|Am h;rcases AJ.1 b with q|q
 obtain⟨p,a,rfl⟩:=AS.1 q;exact d p a;exact e s q
theorem Fi.vn(i j):fF (K7 (Du (DN c) c 0 0) i j)/\(K7 (Du (DN c) c 0 0) i j).size<=4000:=by have z:fF (⟨#[]⟩:Cd)/\(⟨#[]⟩:Cd).size<=4000:=⟨QY,by decide⟩;unfold K7;by_cases h:i<c;rw[(g.one i h).2.1];by_cases a:j<FU c[i];rw[Ag a];exact g.var h<|Am _;grind;grind[JQ]
theorem Fi.nm(i):fF (CO (Du (DN c) c 0 0) i).I/\(CO (Du (DN c) c 0 0) i).I.size<=4000:=by by_cases h:i<c;rw[(g.one i h).1];exact(g.ak _<|Am h).1;rw[JQ c i h];exact⟨QY,by decide⟩
theorem Fi.az:NZ<|Du (DN c) c 0 0:=⟨λi=>(g.nm i).2,λi j=>(g.vn i j).2⟩
theorem Fi.cx:aT<|Du (DN c) c 0 0:=by refine⟨λi=>(g.nm i).1,λi j=>(g.vn i j).1,λi j a b e=>?_,λi=>?_⟩;rw[GH]at a b;rw[(g.one i a).1,(g.one j b).1]at e;have d:=g.xZ.wT i a;have f:=g.xZ.wT j b;grind;by_cases h:i<c;rw[(g.one i h).2.1];exact(g.xZ.y _<|Am _).1;grind[JQ]
theorem Fi.cw:tV (DN c) (Du (DN c) c 0 0)<|KV c 0 0:=by refine⟨λi=>?_,λi=>?_⟩;by_cases h:i<c;rw[(g.one i h).1];grind[Lh,DN];rw[JQ c i h];unfold Lh DN;rw[AF<|by grind];rfl;by_cases h:i<c;rw[(g.one i h).2.1,IN c i h];grind[JQ,KN]
theorem Fi.px:PX (DN c) (Du (DN c) c 0 0)<|KV c 0 0:=aC (par:=UX c) c 0 0 g.xZ.ok
theorem Fi.bd{d:M}(b:∀t,t∈c->∀s,s∈t.i->Sx d s):nF d c:=by
 refine⟨g.xZ.xE,g.xZ.wT,λt h=>(g.ak t h).1.2,λt h p a=>((g.ak t h).2.1 p a).2,λt h=>?_,λt h=>?_,b,g.xZ.ok,λt h=>g.cd h,?_,?_⟩;exact(List.nodup_append.1 (g.xZ.y t h).1).1;have:=(g.xZ.y t h).2;simp only[FU,Ah,AG]at this;omega;refine As ?_ g.sum;have:∀l:Df,(l.map λt=>nL 1 t.i).sum<=(l.map λt=>FG t.i).sum:=by
  intro l;induction l with
  |nil=>exact Ad _
  |cons t l e=>have:=Pj 1 t.i;simp only[AH,AQ];omega
 exact this c;refine As ?_ g.sum;have:∀l:Df,(l.map λt=>nL 8 t.i).sum<=(l.map λt=>FG t.i).sum:=by
  intro l;induction l with
  |nil=>exact Ad _
  |cons t l e=>have:=Pj 8 t.i;simp only[AH,AQ];omega
 grind
end
mutual
theorem tC{fn:Cc}{par:Cf}{vs':Cc}:∀(t:TS) (vs:Cc),nC fn par t vs->uE t->(∀s,s∈vs++dS t->s∈vs')->uD fn par vs' t
 |.mk s [],vs,h,hw,hs=>by
  have hv:∀s,s∈vs->s∈vs':=λs q=>hs s<|BN _ q
  exact⟨h.1,λa b=>hv _<|h.2.tg a b,h.2.func,h.2.many,λq=>hv _<|h.2.sr q,λq t ht=>hv _<|h.2.k q t ht,λ_=>hw.2.2.1⟩
 |.mk s [(_,ts)],vs,h,hw,hs=>by refine⟨h.1,RR ts vs h.2 hw.2.2.2.1 λu hu=>hs u ?_⟩;grind[dS,dB]
 |.mk s [(_,ts),(_,ts2)],vs,h,hw,hs=>by
  have h1:∀u,u∈vs++dL ts->u∈vs':=λu hu=>hs u<|by grind[dS,dB]
  refine⟨h.1,RR ts vs h.2.1 hw.2.2.2.1 h1,RR ts2 (vs++dL ts) h.2.2 hw.2.2.2.2.1 λu hu=>?_⟩;grind[dS,dB]
 |.mk _ (_::_::_::_),_,h,_,_=>h.elim
theorem RR{fn:Cc}{par:Cf}{vs':Cc}:∀(ts:Dj) (vs:Cc),Mn fn par ts vs->qQ ts->(∀s,s∈vs++dL ts->s∈vs')->Vc fn par vs' ts
 |[],_,_,_,_=>trivial
 |t::ts,vs,h,hw,hs=>by
  refine⟨tC t vs h.1 hw.1 λu hu=>hs u ?_,RR ts (vs++dS t) h.2 hw.2 λu hu=>hs u ?_⟩
  .rw[dL];rcases AJ.1 hu with q|q
   .exact BN _ q
   .exact Bs _<|BN _ q
  .rw[dL,<-Bh];exact hu
end
theorem Fi.ce{c:Df}(g:Fi c):vL (DN c) (UX c)<|KV c 0 0:=by have b:=g.sum;refine⟨by grind[Qg,DN],λf=>?_,λf=>?_,λf=>?_,λf a=>?_,λf=>?_,λf=>?_⟩;by_cases h:f<c;rw[IN c f h];exact RR _ _ (g.xZ.ok _<|Am _) (g.wf _<|Am _) λs q=>q;rw[KN c f h];trivial;by_cases h:f<c;rw[IN c f h];exact(g.xZ.y _<|Am _).2;grind[KN];grind[IN,FU,KN];grind[Qg,IN,UX];by_cases h:f<c;rw[IN c f h];have:=W7 1 c f h;grind;rw[KN c f h];exact Ar _;by_cases h:f<c;rw[IN c f h];have:=W7 8 c f h;grind;rw[KN c f h];exact Ar _

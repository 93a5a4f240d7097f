/- Part of the proof: LuE. -/
import Derived.Test.YtaningfhibkemaaGreatDoorG33
import Derived.Test.YtaningfhibkemaaGreatDoorG29
set_option maxRecDepth 100000
set_option maxHeartbeats 4000000
namespace Go.Proofs.YtaningfhibkemaaGreatDoor
open Go.RowKit Go.Proofs.Tryz
open Option renaming none->Z,some->T
open Value renaming int->G,slice->Y
open IntKind renaming i64->A
def Y6(a:List RF)(e d b N:Nat)(K:Int)(S c:ByteArray):Prop:=
 (b=2/\∃f v,∃(h:f<a.length) (g:v<a[f].t8.length),S=a[f].name.d9/\c=a[f].t8[v])\/(b=3/\N<=e+1/\ -1<=K/\K<=4)\/(b=4/\N<=d+1)
abbrev Z9(b N:Nat)(K:Int)(S a:ByteArray):Array Value:=#[G A b,G A 0,G A N,G A K,.string S,.string a,.string ByteArray.empty,.string ByteArray.empty]
theorem Yh{P:List PFn}{m j k:Nat}{a:List RF}{l:List FS}(K:LsK P m j k a l)(i:∀f (h:f<a.length),a[f].t8=(As P f).t8){f v:Nat}(b:f<a.length)(h:v<a[f].t8.length):
 GH P a[f].name.d9 a[f].t8[v] 0=T (vN f v)/\a[f].name.d9++⟨#[46]⟩++a[f].t8[v]=Cd P (vN f v)/\AM P j (vN f v)/\Ui a a[f].name.d9 a[f].t8[v]=true/\a[f].name.d9.size<=4000/\a[f].t8[v].size<=4000:=by
 have g:f<P.length:=by rw[<-K.len];exact b
 have e:v<(As P f).t8.length:=by rw[<-i f b];exact h
 have c:=K.name f b;have d:a[f].t8[v]=Ii P f v:=by unfold Ii;rw[<-i f b,gV h];rfl
 refine⟨?_,?_,.inl ⟨f,v,g,e,rfl⟩,ZD K b h,?_,?_⟩
 .rw[c,d];exact Yk K.nm g e
 .rw[c,d];exact Lm K.hy g e
 .rw[c];exact K.hy.nm.name f
 .rw[d];exact K.hy.nm.t8 f v
theorem Lu{P mn p cn rf fs Q x rp sb pb Bp B U fv sv nv cv ev s ra rc la lc pa pc n w}(C:Z7 P mn p cn rf fs Q x rp sb pb Bp B U fv sv nv cv ev s ra rc la lc pa pc)(b0:WdS Q x (CL ra rc) (CL la lc) (CL pa pc) (4*n) w)(hn:n<=30000)(kk N:Nat)(K:Int)(S a0:ByteArray)(hq:Y6 rf p cn kk N K S a0):
 Calls prog 12 #[.pointer (T ⟨x,0,Z⟩),.agg (Z9 kk N K S a0)] w fun e d=>e=.returned (.bool true)/\WdS Q x (CL ra rc) (CL la lc) (CL pa pc) (4*(n+1)) d/\JT w d:=by
 have A0:=J ((O.refl kJ w).alloc (.cells (Z9 kk N K S a0) 56));have B0:=J (W.new w (Z9 kk N K S a0) 56);obtain⟨D0,c,HQ⟩:=Ax (b0.s9 A0.o) C hq;clear C b0 hq;go_enter func12,ntmps12;go_upto_region 1 with fail;change Code.wp _ _ _ _ (w.alloc (.cells (Z9 kk N K S a0) 56));generalize w.alloc (.cells (Z9 kk N K S a0) 56)=b at A0 B0 D0⊢;generalize w.heap.size=u at B0⊢;have HA:=J (c.o.at D0.o);obtain⟨x0,x1,x2,x3,x4,x5⟩:=B0.o.e6 0 1 2 3 4 5;have l3:=Ae B0.o;simp only[gR,gP,gQ]at x0 x1 x2 x3 x4 x5;have y0:=HA.o.b0;have y1:=HA.o.b1;have y2:=HA.o.b2;have y3:=HA.o.r0;have y4:=HA.o.r1;have y5:=HA.o.r2;have m0:=HA.o.lb;have m1:=HA.o.l0;have m2:=HA.o.l1;have m3:=HA.o.l2;go_region_held3(fun d=>d.cell? ⟨u,1,Z⟩=T (G A 0)/\d.cell? ⟨x,0,Z⟩=T (CL ra rc)) (go_keep) (first|(go_at_call 25;refine(WH _).mono ?_;rintro e d ⟨rfl,L⟩;have L:=L.symm;subst L));go_upto_block 0 with fail;have A1:=J A0.o.drew;have B1:D (W u (Z9 kk N K S a0) 56 b.drew):=B0.o;have t:=J (D0.o.s9 (O.refl _ b).drew);clear A0 B0 D0 HA x0 x1 x2 x3 x4 x5 l3 y0 y1 y2 y3 y4 y5 m0 m1 m2 m3;generalize b.drew=V at A1 B1 t⊢;have HX:D (∀y,O kJ V y->y.cell? ⟨u,2,Z⟩=T (G A N)/\y.cell? ⟨u,3,Z⟩=T (G A K)/\y.cell? ⟨u,4,Z⟩=T (.string S)/\y.cell? ⟨u,5,Z⟩=T (.string a0)/\u<y.heap.size):=fun y o=>by have h:=B1.o.d8 o id;exact⟨h.cell 2,h.cell 3,h.cell 4,h.cell 5,Ae h⟩
 have E:=J (c.o.at t.o);obtain⟨x2,x3,x4,x5,l3⟩:=HX.o V (O.refl _ _);rcases HQ.o with⟨rfl,f,v,hf,hv,hS,hT⟩|⟨rfl,hN,d5,d6⟩|⟨rfl,hN⟩
 .obtain⟨q1,q2,r,q4,q5,q6⟩:=Yh c.o.K c.o.hv hf hv;rw[<-hS,<-hT]at q1 q2 q4;rw[<-hS]at q5;rw[<-hT]at q6;obtain⟨R,H2,H3,H4⟩:=Ba (QH c.o.st P mn p cn rp V c.o.K.hy E.o.rs E.o.it S a0 (vN f v) q1) q2 r q4;have hz:¬(9223372036854775807<S.size+1):=by omega
  have e4:¬(9223372036854775807<S.size+1+a0.size):=by omega
  clear q1 q2 r q4 hS hT hf hv HQ;go_upto_region 8 with(go_at_call 26;refine R.o.mono ?_;rintro e l ⟨⟨v2,M,rfl,k2,t2,n2⟩,o2⟩;obtain⟨g1,g2,g3,rfl⟩:=Ad k2;obtain⟨K2,T2,j⟩:=Ax k2 t2 o2;clear k2 t2 o2);have D2:=J (t.o.s9 j.o);have A2:=J (c.o.at D2.o);have e2:=Th c.o.K.nm c.o.K.hy c.o.li c.o.le H3.o T2.o;obtain⟨z2,z3,z4,z5,z6⟩:=HX.o l j.o;have b4:rf.length<=4001:=by have:=c.o.K.len;have:=c.o.K.hy.ok.dC;omega
  have HH:=J (Wj A2.o.ru b4 (fun g hg=>by obtain⟨i,hi,rfl⟩:=iP.1 hg;have:=c.o.K.hy.ok.ok.t8 i;rw[c.o.hv i hi];omega) A2.o.ls.bx S a0)
  rw[H4.o]at HH;have HO:=J (JA B sb pb nv cv ev (Iv P p) s l A2.o.ls (S++⟨#[46]⟩++a0));have e3:Z8 (Iv P p) s.cells (S++⟨#[46]⟩++a0)=M:=by rw[e2,H2.o];rfl
  rw[e3]at HO;have a4:Q.heap.size<=V.heap.size:=t.o.o.size;have HT:D (∀b I,O kJ l b->Au B b I M->Calls prog 28 #[.pointer (T ⟨x,0,Z⟩),Y g1 g2 g3,G A 0,I,.bool true] b fun e d=>e=.returned (.bool true)/\WdS Q x (CL ra rc) (CL la lc) (CL pa pc) (4*(n+1)) d/\JT b d):=fun b I o a1=>MJ Q x (T ⟨ra,0,Z⟩) 1 rc (T ⟨la,0,Z⟩) 1 lc (T ⟨pa,0,Z⟩) 1 pc n b (t.o.s9 (j.o.trans o)) hn (Y g1 g2 g3) I B M (Ac (Aq K2.o a4) o (fun _ _ q=>q)) a1 (by omega)
  have N2:=J (JT.of (A1.o.trans j.o));clear x2 x3 x4 x5 l3 K2 T2 e2 e3 R E A2 D2 t b4;go_wp2_with(first
   |(go_at_call 27;refine HH.o.mono ?_;rintro e d ⟨rfl,L⟩;have L:=L.symm;subst L)
   |(go_at_call 29;refine HO.o.mono ?_;rintro e d ⟨⟨I,rfl,a1⟩,L⟩;have L:=L.symm;subst L;obtain⟨k1,k2,k3,rfl⟩:=Ad a1;have HV:=J a1;clear a1)
   |(go_at_call 28;refine(HT.o _ _ (O.refl _ _) HV.o).mono ?_;rintro e w3 ⟨rfl,r,H⟩;have Q3:=J r;have N3:=J (N2.o.trans H);clear r H))
  go_ret;exact⟨rfl,Q3.o,N3.o⟩
 .have p2:=Ak E.o.ru.pr 2;have lp:=Ae E.o.ru.pr;simp only[gR,gP,gQ]at p2;have a2:D (∀y,O kJ V y->y.cell? ⟨pb,2,Z⟩=T (G A p)/\pb<y.heap.size):=fun y o=>⟨(gT (o.block pb lp id)).trans p2,iI lp o.size⟩
  have e1:=c.o.K.hy.pn;clear p2 lp HQ;by_cases a9:1<=N/\N<=p/\0<=K/\K<4
  .obtain⟨h1,h2,h3,h4⟩:=a9;obtain⟨k,rfl⟩:∃k:Nat,K=k:=⟨K.toNat,by omega⟩;have R:=J (Sa c.o.st P mn p cn rp V c.o.K.hy E.o.rs E.o.it N k h1 h2 (by omega));go_upto_region 12 with(go_at_call 30;refine R.o.mono ?_;rintro e l ⟨⟨v2,M,rfl,k2,t2,n2⟩,o2⟩;obtain⟨g1,g2,g3,rfl⟩:=Ad k2;obtain⟨K2,T2,j⟩:=Ax k2 t2 o2;clear k2 t2 o2);have e2:=Th c.o.K.nm c.o.K.hy c.o.li c.o.le (.inr ⟨N,k,h1,h2,by omega,rfl⟩) T2.o;obtain⟨z2,z3,z4,z5,z6⟩:=HX.o l j.o;obtain⟨z7,z8⟩:=a2.o l j.o;have b7:decide ((N:Int)<1)=false:=by simp;omega
   have b8:decide ((p:Int)<(N:Int))=false:=by simp;omega
   have d3:decide ((k:Int)<0)=false:=by simp
   have d4:decide ((4:Int)<=(k:Int))=false:=by simp;omega
   have b9:¬p<N:=by omega
   have c0:¬4<=k:=by omega
   clear R x2 x3 x4 x5 l3 E;go_region_held3(fun d=>d.cell? ⟨u,2,Z⟩=T (G A N)/\d.cell? ⟨u,3,Z⟩=T (G A k)/\d.cell? ⟨pb,2,Z⟩=T (G A p)) (go_keep) (fail);go_upto_region 14 with fail;obtain⟨F,a3⟩:∃F:Int->ByteArray,F=fun z=>Le z.toNat:=⟨_,rfl⟩
   have HD:D (∀(z:Int) (b:World),0<=z->z<=4001->Calls prog 23 #[G A z] b fun e d=>e=.returned (.string (F z))/\O kJ b d):=fun z b h1 h2=>by obtain⟨a,rfl⟩:∃a:Nat,z=a:=⟨z.toNat,by omega⟩;rw[a3];exact(Hb a (by omega) b).mono fun _ _ ⟨q1,m,q2⟩=>⟨q1,by rw[q2];exact(O.refl _ _).drewN m⟩
   have e6:(F (N:Int)).size<=5:=by rw[a3];exact Fh N (by omega)
   have e7:(F (k:Int)).size<=5:=by rw[a3];exact Fh k (by omega)
   have hX:F (N:Int)++⟨#[46]⟩++F (k:Int)=Cd P (pN N k):=by rw[a3];exact ON P h1 (by omega)
   have e3:Z8 (Iv P p) s.cells (F (N:Int)++⟨#[46]⟩++F (k:Int))=M:=by rw[e2,hX];rfl
   clear a3;have HO:D (∀b,O kJ l b->Calls prog 29 #[.pointer (T ⟨sb,0,Z⟩),.string (F (N:Int)++⟨#[46]⟩++F (k:Int))] b fun e d=>(∃v,e=.returned v/\Au B b v M)/\d=b):=fun b o=>by have h:=JA B sb pb nv cv ev (Iv P p) s b (c.o.at (t.o.s9 (j.o.trans o))).ls (F (N:Int)++⟨#[46]⟩++F (k:Int));rw[e3]at h;exact h
   have a4:Q.heap.size<=V.heap.size:=t.o.o.size;have HT:D (∀b I,O kJ l b->Au B b I M->Calls prog 28 #[.pointer (T ⟨x,0,Z⟩),Y g1 g2 g3,G A 0,I,.bool true] b fun e d=>e=.returned (.bool true)/\WdS Q x (CL ra rc) (CL la lc) (CL pa pc) (4*(n+1)) d/\JT b d):=fun b I o a1=>MJ Q x (T ⟨ra,0,Z⟩) 1 rc (T ⟨la,0,Z⟩) 1 lc (T ⟨pa,0,Z⟩) 1 pc n b (t.o.s9 (j.o.trans o)) hn (Y g1 g2 g3) I B M (Ac (Aq K2.o a4) o (fun _ _ q=>q)) a1 (by omega)
   have b6:D (∀b,O kJ l b->b.cell? ⟨u,2,Z⟩=T (G A N)/\b.cell? ⟨u,3,Z⟩=T (G A k)):=fun b o=>⟨(HX.o b (j.o.trans o)).1,(HX.o b (j.o.trans o)).2.1⟩
   have a8:D (∀b W',O kJ l b->JT b W'->W'.cell? ⟨u,2,Z⟩=T (G A N)/\W'.cell? ⟨u,3,Z⟩=T (G A k)):=fun b W' o q=>by have h:=q _ _ _ (by decide) (by decide) (by decide) (B1.o.d8 (j.o.trans o) id);exact⟨h.cell 2,h.cell 3⟩
   have z9:¬(9223372036854775807<(F (N:Int)).size+1):=by omega
   have e5:¬(9223372036854775807<(F (N:Int)).size+1+(F (k:Int)).size):=by omega
   clear e2 e3 hX K2 T2 t HX z4 z5 z7 z8;go_region_held3(fun d=>d.cell? ⟨u,2,Z⟩=T (G A N)/\d.cell? ⟨u,3,Z⟩=T (G A k)) (go_keep)
    (first
      |(go_at_call 23;refine(HD.o _ _ (by omega) (by omega)).mono ?_;rintro e w3 ⟨rfl,o3⟩;have O3:=J (O.trans (X:=kJ) (a:=l) (by repeat(first|exact O.refl _ _|exact O3.o|refine O.drew ?_|refine O.alloc ?_ _)) o3);obtain⟨c1,c2⟩:=b6.o w3 O3.o;clear o3)
      |(go_at_call 29;refine(HO.o _ O3.o).mono ?_;rintro e d ⟨⟨I,rfl,a1⟩,L⟩;have L:=L.symm;subst L;obtain⟨k1,k2,k3,rfl⟩:=Ad a1;have HV:=J a1;clear a1)
      |(go_at_call 28;refine(HT.o _ _ O3.o HV.o).mono ?_;rintro e w4 ⟨rfl,r,H⟩;have Q3:=J r;have N3:=J (((JT.of (A1.o.trans j.o)).trans (JT.of O3.o)).trans H);obtain⟨c3,c4⟩:=a8.o _ _ O3.o H;clear r H))
   all_goals
    go_wp2_with fail;go_ret;exact⟨rfl,Q3.o,N3.o⟩
  .have R:=J (QF P mn p cn rp V E.o.rs N K (by omega));go_upto_region 12 with(go_at_call 30;refine R.o.mono ?_;rintro e l ⟨rfl,o2⟩;have j:=J o2;clear o2);obtain⟨z2,z3,z4,z5,z6⟩:=HX.o l j.o;obtain⟨z7,z8⟩:=a2.o l j.o;clear R x2 x3 x4 x5 l3 E HX;go_cut[114] (fun v wx=>v=.bool true/\D (O kJ l wx))
   case first=>
    rcases(by omega:N<1\/(¬N<1/\p<N)\/(¬N<1/\¬p<N/\K<0)\/(¬N<1/\¬p<N/\¬K<0/\4<=K))with q|⟨q1,q2⟩|⟨q1,q2,r⟩|⟨q1,q2,r,q4⟩
    .have f0:N=0:=by omega
     have f1:decide ((N:Int)<1)=true:=by simp;omega
     go_quiet(fail);go_wp2_with fail;go_meet
     case rel=>exact⟨rfl,(O.refl _ _).drewN _⟩
    .have f0:N≠0:=by omega
     have f1:decide ((N:Int)<1)=false:=by simp;omega
     have f2:decide ((p:Int)<(N:Int))=true:=by simp;omega
     go_quiet(fail);go_wp2_with fail;go_meet
     case rel=>exact⟨rfl,(O.refl _ _).drewN _⟩
    .have f0:N≠0:=by omega
     have f1:decide ((N:Int)<1)=false:=by simp;omega
     have f2:decide ((p:Int)<(N:Int))=false:=by simp;omega
     go_quiet(fail);go_wp2_with fail;go_meet
     case rel=>exact⟨rfl,(O.refl _ _).drewN _⟩
    .have f0:N≠0:=by omega
     have f1:decide ((N:Int)<1)=false:=by simp;omega
     have f2:decide ((p:Int)<(N:Int))=false:=by simp;omega
     go_quiet(fail);go_wp2_with fail;go_meet
     case rel=>exact⟨rfl,(O.refl _ _).drewN _⟩
   case rest=>
   obtain⟨rfl,O3⟩:=hcut;have D3:=J (t.o.s9 (j.o.trans O3.o));have HT:=J (TA Q x (T ⟨ra,0,Z⟩) 1 rc (T ⟨la,0,Z⟩) 1 lc (T ⟨pa,0,Z⟩) 1 pc n wc D3.o hn);have N2:=J (JT.of (A1.o.trans (j.o.trans O3.o)));clear t D3;go_wp2_with(go_at_call 28;refine HT.o.mono ?_;rintro e w4 ⟨rfl,r,H⟩;have Q3:=J r;have N3:=J (N2.o.trans H);clear r H);go_ret;exact⟨rfl,Q3.o,N3.o⟩
 .have p3:=Ak E.o.ru.pr 3;have lp:=Ae E.o.ru.pr;simp only[gR,gP,gQ]at p3;have a2:D (∀y,O kJ V y->y.cell? ⟨pb,3,Z⟩=T (G A cn)/\pb<y.heap.size):=fun y o=>⟨(gT (o.block pb lp id)).trans p3,iI lp o.size⟩
  have d7:=c.o.K.hy.ok.lc;clear p3 lp HQ;by_cases a9:1<=N/\N<=cn
  .obtain⟨h1,h2⟩:=a9;have R:=J (QC c.o.st P mn p cn rp V c.o.K.hy E.o.rs N h1 h2);go_upto_region 17 with(go_at_call 31;refine R.o.mono ?_;rintro e l ⟨⟨v2,M,rfl,k2,t2,n2⟩,o2⟩;obtain⟨g1,g2,g3,rfl⟩:=Ad k2;obtain⟨K2,T2,j⟩:=Ax k2 t2 o2;clear k2 t2 o2);have e2:=ZH c.o.K.nm c.o.K.hy c.o.li c.o.le h1 h2 T2.o;obtain⟨z2,z3,z4,z5,z6⟩:=HX.o l j.o;obtain⟨z7,z8⟩:=a2.o l j.o;have b7:decide ((N:Int)<1)=false:=by simp;omega
   have b8:decide ((cn:Int)<(N:Int))=false:=by simp;omega
   have b9:¬cn<N:=by omega
   have c0:N≠0:=by omega
   clear R x2 x3 x4 x5 l3 E;go_region_held3(fun d=>d.cell? ⟨u,2,Z⟩=T (G A N)/\d.cell? ⟨pb,3,Z⟩=T (G A cn)) (go_keep) (fail);go_upto_region 19 with fail;obtain⟨ea,ec,d0⟩:=c.o.ls.en.form;subst d0;have a7:N-1<s.ents.length:=by rw[c.o.li.el];omega
   obtain⟨eg,eb,ed,rfl,a5,_,_,b5,a6⟩:=c.o.ls.en.get a7;have b1:Jk s N=s.ents[N-1]:=by unfold Jk;rw[gV a7];rfl
   rw[<-b1,<-e2]at a6 a5;have d1:eg≠x:=by obtain⟨us,_,hr,_⟩:=c.o.ls.en;exact Am hr c.o.bx (by decide) eg rfl
   obtain⟨n1,b2⟩:∃m,N-1=m:=⟨_,rfl⟩;rw[b2]at a5 a7;have d9:(N:Int)-1=(n1:Int):=by omega
   have HE:D (∀b,O (fun k=>k=x) Q b->b.cell? ⟨sb,3,Z⟩=T (Y (T ⟨eg,0,Z⟩) s.ents.length ec)/\b.cell? ⟨eg,n1,Z⟩=T (Y eb M.length ed)/\sb<b.heap.size/\eg<b.heap.size/\Au B b (Y eb M.length ed) M):=fun b o=>by have hb:=c.o.ls.bx.d8 o (fun q=>W.ne c.o.ls.bx c.o.bx (by decide) q);exact⟨hb.cell 3,(gT (o.block eg b5 d1)).trans a5,Ae hb,iI b5 o.size,Ac a6 o (Am a6 c.o.bx (by decide))⟩
   have a4:Q.heap.size<=V.heap.size:=t.o.o.size;have HT:D (∀b I,O kJ l b->Au B b I M->Calls prog 28 #[.pointer (T ⟨x,0,Z⟩),Y g1 g2 g3,G A 0,I,.bool true] b fun e d=>e=.returned (.bool true)/\WdS Q x (CL ra rc) (CL la lc) (CL pa pc) (4*(n+1)) d/\JT b d):=fun b I o a1=>MJ Q x (T ⟨ra,0,Z⟩) 1 rc (T ⟨la,0,Z⟩) 1 lc (T ⟨pa,0,Z⟩) 1 pc n b (t.o.s9 (j.o.trans o)) hn (Y g1 g2 g3) I B M (Ac (Aq K2.o a4) o (fun _ _ q=>q)) a1 (by omega)
   have a8:D (∀W',JT l.drew.drew W'->W'.cell? ⟨u,2,Z⟩=T (G A N)):=fun W' q=>(q _ _ _ (by decide) (by decide) (by decide) (B1.o.d8 j.o.drew.drew id)).cell 2
   obtain⟨c1,c2,c3,c4,c5⟩:=HE.o l (t.o.s9 j.o).o;have e0:(n1:Int)<(s.ents.length:Int):=by omega
   have d8:IntKind.i64.wrap (n1:Int)=(n1:Int):=by rw[IntKind.wrap_i64];omega
   have C5:=J c5;clear e2 b1 K2 T2 t HX z3 z4 z5 z7 z8 a5 a6 c5 b2 a7;go_region_held3(fun d=>d.cell? ⟨u,2,Z⟩=T (G A N)/\d.cell? ⟨sb,3,Z⟩=T (Y (T ⟨eg,0,Z⟩) s.ents.length ec)/\d.cell? ⟨eg,n1,Z⟩=T (Y eb M.length ed)) (go_keep)
    (first
      |(go_at_call 28;refine(HT.o _ _ ((O.refl _ _).drew.drew) C5.o).mono ?_;rintro e w4 ⟨rfl,r,H⟩;have Q3:=J r;have N3:=J ((JT.of (A1.o.trans j.o.drew.drew)).trans H);have c6:=a8.o _ H;obtain⟨c7,c8,c9,d2,_⟩:=HE.o _ r.o;clear r H))
   all_goals
    go_wp2_with fail;go_ret;exact⟨rfl,Q3.o,N3.o⟩
  .have R:=J (OC P mn p cn rp V E.o.rs N (by omega) (by omega));go_upto_region 17 with(go_at_call 31;refine R.o.mono ?_;rintro e l ⟨rfl,o2⟩;have j:=J o2;clear o2);obtain⟨z2,z3,z4,z5,z6⟩:=HX.o l j.o;obtain⟨z7,z8⟩:=a2.o l j.o;clear R x2 x3 x4 x5 l3 E HX;go_cut[153] (fun v wx=>v=.bool true/\D (O kJ l wx))
   case first=>
    rcases(by omega:N<1\/(¬N<1/\cn<N))with q|⟨q1,q2⟩
    .have f0:N=0:=by omega
     have f1:decide ((N:Int)<1)=true:=by simp;omega
     go_quiet(fail);go_wp2_with fail;go_meet
     case rel=>exact⟨rfl,(O.refl _ _).drewN _⟩
    .have f0:N≠0:=by omega
     have f1:decide ((N:Int)<1)=false:=by simp;omega
     have f2:decide ((cn:Int)<(N:Int))=true:=by simp;omega
     go_quiet(fail);go_wp2_with fail;go_meet
     case rel=>exact⟨rfl,(O.refl _ _).drewN _⟩
   case rest=>
   obtain⟨rfl,O3⟩:=hcut;have D3:=J (t.o.s9 (j.o.trans O3.o));have HT:=J (TA Q x (T ⟨ra,0,Z⟩) 1 rc (T ⟨la,0,Z⟩) 1 lc (T ⟨pa,0,Z⟩) 1 pc n wc D3.o hn);have N2:=J (JT.of (A1.o.trans (j.o.trans O3.o)));clear t D3;go_wp2_with(go_at_call 28;refine HT.o.mono ?_;rintro e w4 ⟨rfl,r,H⟩;have Q3:=J r;have N3:=J (N2.o.trans H);clear r H);go_ret;exact⟨rfl,Q3.o,N3.o⟩

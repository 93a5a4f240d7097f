/- Part of the proof: LuE. -/
import Derived.Test.YtaningfhibkemaaGreatDoorG41
set_option maxRecDepth 100000
set_option maxHeartbeats 4000000
namespace Go.Proofs.YtaningfhibkemaaGreatDoor
open Go.RowKit Go.Proofs.Tryz
def YV(a:List RF)(e d b N:Nat)(K:Int)(S c:ByteArray):Prop:=
 (b=2/\∃f v,∃(h:f<a.length) (g:v<a[f].t8.length),S=a[f].name.d9/\c=a[f].t8[v])\/(b=3/\N<=e+1/\ -1<=K/\K<=4)\/(b=4/\N<=d+1)
abbrev ZW(b N:Nat)(K:Int)(S a:ByteArray):Array Value:=#[.int .i64 b,.int .i64 0,.int .i64 N,.int .i64 K,.string S,.string a,.string ByteArray.empty,.string ByteArray.empty]
theorem XX{P:List PFn}{m j k:Nat}{a:List RF}{l:List FS}(K:LsK P m j k a l)(i:∀f (h:f<a.length),a[f].t8=(As P f).t8){f v:Nat}(b:f<a.length)(h:v<a[f].t8.length):
 Gx P a[f].name.d9 a[f].t8[v] 0=some (vN f v)/\a[f].name.d9++⟨#[46]⟩++a[f].t8[v]=BU P (vN f v)/\AK P j (vN f v)/\T6 a a[f].name.d9 a[f].t8[v]=true/\a[f].name.d9.size<=4000/\a[f].t8[v].size<=4000:=by
 have g:f<P.length:=by rw[<-K.len];exact b
 have e:v<(As P f).t8.length:=by rw[<-i f b];exact h
 have c:=K.name f b;have d:a[f].t8[v]=Hx P f v:=by unfold Hx;rw[<-i f b,gL h];rfl
 refine⟨?_,?_,.inl ⟨f,v,g,e,rfl⟩,Zs K b h,?_,?_⟩
 .rw[c,d];exact X8 K.nm g e
 .rw[c,d];exact Lc K.hy g e
 .rw[c];exact K.hy.nm.name f
 .rw[d];exact K.hy.nm.t8 f v
theorem Li{P mn p Q rf fs L x rp sb pb Bp B U fv sv nv cv ev s ra rc la lc pa pc n w}(C:ZU P mn p Q rf fs L x rp sb pb Bp B U fv sv nv cv ev s ra rc la lc pa pc)(a9:WdS L x (CD ra rc) (CD la lc) (CD pa pc) (4*n) w)(hn:n<=30000)(kk N:Nat)(K:Int)(S Y:ByteArray)(hq:YV rf p Q kk N K S Y):
 Calls prog 12 #[.pointer (some ⟨x,0,none⟩),.agg (ZW kk N K S Y)] w fun e d=>e=.returned (.bool true)/\WdS L x (CD ra rc) (CD la lc) (CD pa pc) (4*(n+1)) d/\JK w d:=by
 have A0:=J ((O.refl kD w).alloc (.cells (ZW kk N K S Y) 56));have B0:=J (W.new w (ZW kk N K S Y) 56);have D0:=J (a9.s9 A0.o);have c:=J C;have HQ:=J hq;clear C a9 hq;go_enter func12,ntmps12;go_upto_region 1 with fail;change Code.wp _ _ _ _ (w.alloc (.cells (ZW kk N K S Y) 56));generalize w.alloc (.cells (ZW kk N K S Y) 56)=b at A0 B0 D0⊢;generalize w.heap.size=u at B0⊢;have HA:=J (c.o.at D0.o);obtain⟨x0,x1,x2,x3,x4,x5⟩:=B0.o.e6 0 1 2 3 4 5;have l3:=Ae B0.o;simp only[gH,gF,gG]at x0 x1 x2 x3 x4 x5;have y0:=HA.o.b0;have y1:=HA.o.b1;have y2:=HA.o.b2;have y3:=HA.o.r0;have y4:=HA.o.r1;have y5:=HA.o.r2;have m0:=HA.o.lb;have m1:=HA.o.l0;have m2:=HA.o.l1;have m3:=HA.o.l2;go_region_held3(fun d=>d.cell? ⟨u,1,none⟩=some (.int .i64 0)/\d.cell? ⟨x,0,none⟩=some (CD ra rc)) (go_keep) (first|(go_at_call 25;refine(Ww _).mono ?_;rintro e d ⟨rfl,H⟩;have H:=H.symm;subst H));go_upto_block 0 with fail;have A1:=J A0.o.drew;have B1:D (W u (ZW kk N K S Y) 56 b.drew):=B0.o;have t:=J (D0.o.s9 (O.refl _ b).drew);clear A0 B0 D0 HA x0 x1 x2 x3 x4 x5 l3 y0 y1 y2 y3 y4 y5 m0 m1 m2 m3;generalize b.drew=V at A1 B1 t⊢;have HX:D (∀y,O kD V y->y.cell? ⟨u,2,none⟩=some (.int .i64 N)/\y.cell? ⟨u,3,none⟩=some (.int .i64 K)/\y.cell? ⟨u,4,none⟩=some (.string S)/\y.cell? ⟨u,5,none⟩=some (.string Y)/\u<y.heap.size):=fun y o=>by have h:=B1.o.d8 o id;exact⟨h.cell 2,h.cell 3,h.cell 4,h.cell 5,Ae h⟩
 have A:=J (c.o.at t.o);obtain⟨x2,x3,x4,x5,l3⟩:=HX.o V (O.refl _ _);rcases HQ.o with⟨rfl,f,v,hf,hv,hS,hT⟩|⟨rfl,hN,d4,d5⟩|⟨rfl,hN⟩
 .obtain⟨q1,q2,r,q4,q5,q6⟩:=XX c.o.K c.o.hv hf hv;rw[<-hS,<-hT]at q1 q2 q4;rw[<-hS]at q5;rw[<-hT]at q6;have M:=J (Qy c.o.st P mn p Q rp V c.o.K.hy A.o.rs A.o.it S Y (vN f v) q1);have H2:=J q2;have H3:=J r;have H4:=J q4;have hz:¬(9223372036854775807<S.size+1):=Z;have e1:¬(9223372036854775807<S.size+1+Y.size):=Z;clear q1 q2 r q4 hS hT hf hv HQ;go_upto_region 8 with(go_at_call 26;refine M.o.mono ?_;rintro e l ⟨⟨v2,I,rfl,k2,t2,n2⟩,R⟩;obtain⟨g1,g2,g3,rfl⟩:=Ad k2;have K2:=J k2;have T2:=J t2;have j:=J R;clear k2 t2 R);have D2:=J (t.o.s9 j.o);have A2:=J (c.o.at D2.o);have e2:=SZ c.o.K.nm c.o.K.hy c.o.li c.o.le H3.o T2.o;obtain⟨z2,z3,z4,z5,z6⟩:=HX.o l j.o;have b2:rf.length<=4001:=by have:=c.o.K.len;have:=c.o.K.hy.ok.cR;omega
  have HH:=J (V8 A2.o.ru b2 (fun g hg=>by obtain⟨i,hi,rfl⟩:=iF.1 hg;have:=c.o.K.hy.ok.ok.t8 i;rw[c.o.hv i hi];omega) A2.o.ls.bx S Y)
  rw[H4.o]at HH;have HO:=J (Jr B sb pb nv cv ev (Ik P p) s l A2.o.ls (S++⟨#[46]⟩++Y));have e3:ZV (Ik P p) s.cells (S++⟨#[46]⟩++Y)=I:=by rw[e2,H2.o];rfl
  rw[e3]at HO;have a3:L.heap.size<=V.heap.size:=t.o.o.size;have HT:D (∀b G,O kD l b->Au B b G I->Calls prog 28 #[.pointer (some ⟨x,0,none⟩),.slice g1 g2 g3,.int .i64 0,G,.bool true] b fun e d=>e=.returned (.bool true)/\WdS L x (CD ra rc) (CD la lc) (CD pa pc) (4*(n+1)) d/\JK b d):=fun b G o a0=>MA L x (some ⟨ra,0,none⟩) 1 rc (some ⟨la,0,none⟩) 1 lc (some ⟨pa,0,none⟩) 1 pc n b (t.o.s9 (j.o.trans o)) hn (.slice g1 g2 g3) G B I (Ac (Aq K2.o a3) o (fun _ _ q=>q)) a0 Z
  have N2:=J (JK.of (A1.o.trans j.o));clear x2 x3 x4 x5 l3 K2 T2 e2 e3 M A A2 D2 t b2;go_wp2_with(first
   |(go_at_call 27;refine HH.o.mono ?_;rintro e d ⟨rfl,H⟩;have H:=H.symm;subst H)
   |(go_at_call 29;refine HO.o.mono ?_;rintro e d ⟨⟨G,rfl,a0⟩,H⟩;have H:=H.symm;subst H;obtain⟨k1,k2,k3,rfl⟩:=Ad a0;have HV:=J a0;clear a0)
   |(go_at_call 28;refine(HT.o _ _ (O.refl _ _) HV.o).mono ?_;rintro e w3 ⟨rfl,r,F⟩;have Q3:=J r;have N3:=J (N2.o.trans F);clear r F))
  go_ret;exact⟨rfl,Q3.o,N3.o⟩
 .have p2:=Ak A.o.ru.pr 2;have lp:=Ae A.o.ru.pr;simp only[gH,gF,gG]at p2;have a1:D (∀y,O kD V y->y.cell? ⟨pb,2,none⟩=some (.int .i64 p)/\pb<y.heap.size):=fun y o=>⟨(gJ (o.block pb lp id)).trans p2,gY lp o.size⟩
  have e0:=c.o.K.hy.pn;clear p2 lp HQ;by_cases a8:1<=N/\N<=p/\0<=K/\K<4
  .obtain⟨h1,h2,h3,h4⟩:=a8;obtain⟨k,rfl⟩:∃k:Nat,K=k:=⟨K.toNat,Z⟩;have M:=J (RQ c.o.st P mn p Q rp V c.o.K.hy A.o.rs A.o.it N k h1 h2 Z);go_upto_region 12 with(go_at_call 30;refine M.o.mono ?_;rintro e l ⟨⟨v2,I,rfl,k2,t2,n2⟩,R⟩;obtain⟨g1,g2,g3,rfl⟩:=Ad k2;have K2:=J k2;have T2:=J t2;have j:=J R;clear k2 t2 R);have e2:=SZ c.o.K.nm c.o.K.hy c.o.li c.o.le (.inr ⟨N,k,h1,h2,Z,rfl⟩) T2.o;obtain⟨z2,z3,z4,z5,z6⟩:=HX.o l j.o;obtain⟨z7,z8⟩:=a1.o l j.o;have b6:decide ((N:Int)<1)=false:=jX;have b7:decide ((p:Int)<(N:Int))=false:=jX;have d2:decide ((k:Int)<0)=false:=jY;have d3:decide ((4:Int)<=(k:Int))=false:=jX;have b8:¬p<N:=Z;have b9:¬4<=k:=Z;clear M x2 x3 x4 x5 l3 A;go_region_held3(fun d=>d.cell? ⟨u,2,none⟩=some (.int .i64 N)/\d.cell? ⟨u,3,none⟩=some (.int .i64 k)/\d.cell? ⟨pb,2,none⟩=some (.int .i64 p)) (go_keep) (fail);go_upto_region 14 with fail;obtain⟨E,a2⟩:∃E:Int->ByteArray,E=fun z=>K5 z.toNat:=⟨_,rfl⟩
   have HD:D (∀(z:Int) (b:World),0<=z->z<=4001->Calls prog 23 #[.int .i64 z] b fun e d=>e=.returned (.string (E z))/\O kD b d):=fun z b h1 h2=>by obtain⟨a,rfl⟩:∃a:Nat,z=a:=⟨z.toNat,Z⟩;rw[a2];exact(GW a Z b).mono fun _ _ ⟨q1,m,q2⟩=>⟨q1,by rw[q2];exact(O.refl _ _).drewN m⟩
   have e5:(E (N:Int)).size<=5:=by rw[a2];exact E0 N Z
   have e6:(E (k:Int)).size<=5:=by rw[a2];exact E0 k Z
   have hX:E (N:Int)++⟨#[46]⟩++E (k:Int)=BU P (pN N k):=by rw[a2];exact OD P h1 Z
   have e3:ZV (Ik P p) s.cells (E (N:Int)++⟨#[46]⟩++E (k:Int))=I:=by rw[e2,hX];rfl
   clear a2;have HO:D (∀b,O kD l b->Calls prog 29 #[.pointer (some ⟨sb,0,none⟩),.string (E (N:Int)++⟨#[46]⟩++E (k:Int))] b fun e d=>(∃v,e=.returned v/\Au B b v I)/\d=b):=fun b o=>by have h:=Jr B sb pb nv cv ev (Ik P p) s b (c.o.at (t.o.s9 (j.o.trans o))).ls (E (N:Int)++⟨#[46]⟩++E (k:Int));rw[e3]at h;exact h
   have a3:L.heap.size<=V.heap.size:=t.o.o.size;have HT:D (∀b G,O kD l b->Au B b G I->Calls prog 28 #[.pointer (some ⟨x,0,none⟩),.slice g1 g2 g3,.int .i64 0,G,.bool true] b fun e d=>e=.returned (.bool true)/\WdS L x (CD ra rc) (CD la lc) (CD pa pc) (4*(n+1)) d/\JK b d):=fun b G o a0=>MA L x (some ⟨ra,0,none⟩) 1 rc (some ⟨la,0,none⟩) 1 lc (some ⟨pa,0,none⟩) 1 pc n b (t.o.s9 (j.o.trans o)) hn (.slice g1 g2 g3) G B I (Ac (Aq K2.o a3) o (fun _ _ q=>q)) a0 Z
   have b5:D (∀b,O kD l b->b.cell? ⟨u,2,none⟩=some (.int .i64 N)/\b.cell? ⟨u,3,none⟩=some (.int .i64 k)):=fun b o=>⟨(HX.o b (j.o.trans o)).1,(HX.o b (j.o.trans o)).2.1⟩
   have a7:D (∀b W',O kD l b->JK b W'->W'.cell? ⟨u,2,none⟩=some (.int .i64 N)/\W'.cell? ⟨u,3,none⟩=some (.int .i64 k)):=fun b W' o q=>by have h:=q _ _ _ T T T (B1.o.d8 (j.o.trans o) id);exact⟨h.cell 2,h.cell 3⟩
   have z9:¬(9223372036854775807<(E (N:Int)).size+1):=Z;have e4:¬(9223372036854775807<(E (N:Int)).size+1+(E (k:Int)).size):=Z;clear e2 e3 hX K2 T2 t HX z4 z5 z7 z8;go_region_held3(fun d=>d.cell? ⟨u,2,none⟩=some (.int .i64 N)/\d.cell? ⟨u,3,none⟩=some (.int .i64 k)) (go_keep)
    (first
      |(go_at_call 23;refine(HD.o _ _ Z Z).mono ?_;rintro e w3 ⟨rfl,o3⟩;have O3:=J (O.trans (X:=kD) (a:=l) (by repeat(first|exact O.refl _ _|exact O3.o|refine O.drew ?_|refine O.alloc ?_ _)) o3);obtain⟨c1,c2⟩:=b5.o w3 O3.o;clear o3)
      |(go_at_call 29;refine(HO.o _ O3.o).mono ?_;rintro e d ⟨⟨G,rfl,a0⟩,H⟩;have H:=H.symm;subst H;obtain⟨k1,k2,k3,rfl⟩:=Ad a0;have HV:=J a0;clear a0)
      |(go_at_call 28;refine(HT.o _ _ O3.o HV.o).mono ?_;rintro e w4 ⟨rfl,r,F⟩;have Q3:=J r;have N3:=J (((JK.of (A1.o.trans j.o)).trans (JK.of O3.o)).trans F);obtain⟨c3,c4⟩:=a7.o _ _ O3.o F;clear r F))
   all_goals
    go_wp2_with fail;go_ret;exact⟨rfl,Q3.o,N3.o⟩
  .have M:=J (Qw P mn p Q rp V A.o.rs N K Z);go_upto_region 12 with(go_at_call 30;refine M.o.mono ?_;rintro e l ⟨rfl,R⟩;have j:=J R;clear R);obtain⟨z2,z3,z4,z5,z6⟩:=HX.o l j.o;obtain⟨z7,z8⟩:=a1.o l j.o;clear M x2 x3 x4 x5 l3 A HX;go_cut[114] (fun v wx=>v=.bool true/\D (O kD l wx))
   case first=>
    rcases(Z:N<1\/(¬N<1/\p<N)\/(¬N<1/\¬p<N/\K<0)\/(¬N<1/\¬p<N/\¬K<0/\4<=K))with q|⟨q1,q2⟩|⟨q1,q2,r⟩|⟨q1,q2,r,q4⟩
    .have f0:N=0:=Z;have f1:decide ((N:Int)<1)=true:=jX;go_quiet(fail);go_wp2_with fail;go_meet
     case rel=>exact⟨rfl,(O.refl _ _).drewN _⟩
    .have f0:N≠0:=Z;have f1:decide ((N:Int)<1)=false:=jX;have f2:decide ((p:Int)<(N:Int))=true:=jX;go_quiet(fail);go_wp2_with fail;go_meet
     case rel=>exact⟨rfl,(O.refl _ _).drewN _⟩
    .have f0:N≠0:=Z;have f1:decide ((N:Int)<1)=false:=jX;have f2:decide ((p:Int)<(N:Int))=false:=jX;go_quiet(fail);go_wp2_with fail;go_meet
     case rel=>exact⟨rfl,(O.refl _ _).drewN _⟩
    .have f0:N≠0:=Z;have f1:decide ((N:Int)<1)=false:=jX;have f2:decide ((p:Int)<(N:Int))=false:=jX;go_quiet(fail);go_wp2_with fail;go_meet
     case rel=>exact⟨rfl,(O.refl _ _).drewN _⟩
   case rest=>
   obtain⟨rfl,O3⟩:=hcut;have D3:=J (t.o.s9 (j.o.trans O3.o));have HT:=J (Tq L x (some ⟨ra,0,none⟩) 1 rc (some ⟨la,0,none⟩) 1 lc (some ⟨pa,0,none⟩) 1 pc n wc D3.o hn);have N2:=J (JK.of (A1.o.trans (j.o.trans O3.o)));clear t D3;go_wp2_with(go_at_call 28;refine HT.o.mono ?_;rintro e w4 ⟨rfl,r,F⟩;have Q3:=J r;have N3:=J (N2.o.trans F);clear r F);go_ret;exact⟨rfl,Q3.o,N3.o⟩
 .have p3:=Ak A.o.ru.pr 3;have lp:=Ae A.o.ru.pr;simp only[gH,gF,gG]at p3;have a1:D (∀y,O kD V y->y.cell? ⟨pb,3,none⟩=some (.int .i64 Q)/\pb<y.heap.size):=fun y o=>⟨(gJ (o.block pb lp id)).trans p3,gY lp o.size⟩
  have d6:=c.o.K.hy.ok.lc;clear p3 lp HQ;by_cases a8:1<=N/\N<=Q
  .obtain⟨h1,h2⟩:=a8;have M:=J (Qt c.o.st P mn p Q rp V c.o.K.hy A.o.rs N h1 h2);go_upto_region 17 with(go_at_call 31;refine M.o.mono ?_;rintro e l ⟨⟨v2,I,rfl,k2,t2,n2⟩,R⟩;obtain⟨g1,g2,g3,rfl⟩:=Ad k2;have K2:=J k2;have T2:=J t2;have j:=J R;clear k2 t2 R);have e2:=Zw c.o.K.nm c.o.K.hy c.o.li c.o.le h1 h2 T2.o;obtain⟨z2,z3,z4,z5,z6⟩:=HX.o l j.o;obtain⟨z7,z8⟩:=a1.o l j.o;have b6:decide ((N:Int)<1)=false:=jX;have b7:decide ((Q:Int)<(N:Int))=false:=jX;have b8:¬Q<N:=Z;have b9:N≠0:=Z;clear M x2 x3 x4 x5 l3 A;go_region_held3(fun d=>d.cell? ⟨u,2,none⟩=some (.int .i64 N)/\d.cell? ⟨pb,3,none⟩=some (.int .i64 Q)) (go_keep) (fail);go_upto_region 19 with fail;obtain⟨ea,ec,c0⟩:=c.o.ls.en.form;subst c0;have a6:N-1<s.ents.length:=by rw[c.o.li.el];omega
   obtain⟨eg,eb,ed,rfl,a4,_,_,b4,a5⟩:=c.o.ls.en.get a6;have b0:Jb s N=s.ents[N-1]:=by unfold Jb;rw[gL a6];rfl
   rw[<-b0,<-e2]at a5 a4;have d0:eg≠x:=by obtain⟨us,_,hr,_⟩:=c.o.ls.en;exact Am hr c.o.bx T eg rfl
   obtain⟨n1,b1⟩:∃m,N-1=m:=⟨_,rfl⟩;rw[b1]at a4 a6;have d8:(N:Int)-1=(n1:Int):=Z;have HE:D (∀b,O (fun k=>k=x) L b->b.cell? ⟨sb,3,none⟩=some (.slice (some ⟨eg,0,none⟩) s.ents.length ec)/\b.cell? ⟨eg,n1,none⟩=some (.slice eb I.length ed)/\sb<b.heap.size/\eg<b.heap.size/\Au B b (.slice eb I.length ed) I):=fun b o=>by have hb:=c.o.ls.bx.d8 o (fun q=>W.ne c.o.ls.bx c.o.bx T q);exact⟨hb.cell 3,(gJ (o.block eg b4 d0)).trans a4,Ae hb,gY b4 o.size,Ac a5 o (Am a5 c.o.bx T)⟩
   have a3:L.heap.size<=V.heap.size:=t.o.o.size;have HT:D (∀b G,O kD l b->Au B b G I->Calls prog 28 #[.pointer (some ⟨x,0,none⟩),.slice g1 g2 g3,.int .i64 0,G,.bool true] b fun e d=>e=.returned (.bool true)/\WdS L x (CD ra rc) (CD la lc) (CD pa pc) (4*(n+1)) d/\JK b d):=fun b G o a0=>MA L x (some ⟨ra,0,none⟩) 1 rc (some ⟨la,0,none⟩) 1 lc (some ⟨pa,0,none⟩) 1 pc n b (t.o.s9 (j.o.trans o)) hn (.slice g1 g2 g3) G B I (Ac (Aq K2.o a3) o (fun _ _ q=>q)) a0 Z
   have a7:D (∀W',JK l.drew.drew W'->W'.cell? ⟨u,2,none⟩=some (.int .i64 N)):=fun W' q=>(q _ _ _ T T T (B1.o.d8 j.o.drew.drew id)).cell 2
   obtain⟨c1,c2,c3,c4,c5⟩:=HE.o l (t.o.s9 j.o).o;have d9:(n1:Int)<(s.ents.length:Int):=Z;have d7:IntKind.i64.wrap (n1:Int)=(n1:Int):=by rw[IntKind.wrap_i64];omega
   have C5:=J c5;clear e2 b0 K2 T2 t HX z3 z4 z5 z7 z8 a4 a5 c5 b1 a6;go_region_held3(fun d=>d.cell? ⟨u,2,none⟩=some (.int .i64 N)/\d.cell? ⟨sb,3,none⟩=some (.slice (some ⟨eg,0,none⟩) s.ents.length ec)/\d.cell? ⟨eg,n1,none⟩=some (.slice eb I.length ed)) (go_keep)
    (first
      |(go_at_call 28;refine(HT.o _ _ ((O.refl _ _).drew.drew) C5.o).mono ?_;rintro e w4 ⟨rfl,r,F⟩;have Q3:=J r;have N3:=J ((JK.of (A1.o.trans j.o.drew.drew)).trans F);have c6:=a7.o _ F;obtain⟨c7,c8,c9,d1,_⟩:=HE.o _ r.o;clear r F))
   all_goals
    go_wp2_with fail;go_ret;exact⟨rfl,Q3.o,N3.o⟩
  .have M:=J (Ot P mn p Q rp V A.o.rs N Z Z);go_upto_region 17 with(go_at_call 31;refine M.o.mono ?_;rintro e l ⟨rfl,R⟩;have j:=J R;clear R);obtain⟨z2,z3,z4,z5,z6⟩:=HX.o l j.o;obtain⟨z7,z8⟩:=a1.o l j.o;clear M x2 x3 x4 x5 l3 A HX;go_cut[153] (fun v wx=>v=.bool true/\D (O kD l wx))
   case first=>
    rcases(Z:N<1\/(¬N<1/\Q<N))with q|⟨q1,q2⟩
    .have f0:N=0:=Z;have f1:decide ((N:Int)<1)=true:=jX;go_quiet(fail);go_wp2_with fail;go_meet
     case rel=>exact⟨rfl,(O.refl _ _).drewN _⟩
    .have f0:N≠0:=Z;have f1:decide ((N:Int)<1)=false:=jX;have f2:decide ((Q:Int)<(N:Int))=true:=jX;go_quiet(fail);go_wp2_with fail;go_meet
     case rel=>exact⟨rfl,(O.refl _ _).drewN _⟩
   case rest=>
   obtain⟨rfl,O3⟩:=hcut;have D3:=J (t.o.s9 (j.o.trans O3.o));have HT:=J (Tq L x (some ⟨ra,0,none⟩) 1 rc (some ⟨la,0,none⟩) 1 lc (some ⟨pa,0,none⟩) 1 pc n wc D3.o hn);have N2:=J (JK.of (A1.o.trans (j.o.trans O3.o)));clear t D3;go_wp2_with(go_at_call 28;refine HT.o.mono ?_;rintro e w4 ⟨rfl,r,F⟩;have Q3:=J r;have N3:=J (N2.o.trans F);clear r F);go_ret;exact⟨rfl,Q3.o,N3.o⟩

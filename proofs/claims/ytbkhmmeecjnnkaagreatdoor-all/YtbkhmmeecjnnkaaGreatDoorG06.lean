/- Part of the proof. -/
import Derived.Test.YtbkhmmeecjnnkaaGreatDoorG05
import Derived.OwnWalk
import Derived.StillTail
import Derived.Deep.RegionHeld
set_option maxRecDepth 100000
set_option maxHeartbeats 8000000
namespace Go.Proofs.YtbkhmmeecjnnkaaGreatDoor
open Go.RowKit Go.Proofs.Tryz Go.Maps
open Option renaming none->Z,some->T
open Value renaming int->G,slice->Y,pointer->Z',string->Y',tuple->P',bool->O',agg->N',ownBlock->L'
open IntKind renaming i64->A
open Ending renaming returned->T'
open Obj renaming cells->R'
open List renaming length->L
open World renaming cell?->K',ownsRow->J'
open Go renaming World->I',Value->H',Calls->F',maxLen->E',results->zz
open Go.Proofs.Tryz renaming prog->zy
open _root_ renaming Nat->M,Int->zw,rfl->Q,decide->zu
open Bool renaming true->zt,false->zr
open Or renaming inl->zo,inr->zn
open Go.RowKit renaming intOf->zm
variable {u4:Act}{z5:Array Oper}{q1:Cg}{q3:Bd}{u0:Cd}{u8:Co}{n0:Cc}{x1:C8}{n7:List NU}{q2:Cf}{U:CQ}{p9:List DX}{o0:Dd}{y1:Ci}{o2:FZ}{x9:NU}{u2:Mc}{B C R X o1 p0 p4 s2 s3 v0:Nat}{z1:Nat->Prop}{p3:Oper}{q4:Program}{u3:RS}{n8 q0:TypeId}{V n5 n6 n9 o3 o4 o5 o6 o7 o9 p5 p6 p7 q5 q6 q7 r4 r5 r6 r7 r8 r9 s0 s7 s9 t3 t6 t7 u1 u5 u6 u7 u9 v2 v3 v5 v6 v7 v8 x2 x3 x5 x6 x7 x8 y3 y4 y5 y6 y8 z0 z3 z4 z6 z7:Value}{P v1 y0:World}{p8:World->Prop}
structure mQ(fn:Cc)(X:FZ)(rf:Dd):Prop where
 wT:rf.map (λf=>f.I.a)=fn
 xE:rf.length<=4001
 bq:∀i,(Lh fn i).size<=4000
 dh:∀i j,(Xs X i j).size<=4000
 y:∀i (h:i<rf.length),rf[i].y=(CP X i).y
 bi:∀i,(CP X i).y.length<=12
theorem mQ.yG(h:mQ n0 o2 o0):L n0=L o0:=by rw[<-h.wT,AG]
theorem mQ.I(h:mQ n0 o2 o0)(a:B<L o0):o0[B].I.a=Lh n0 B:=by unfold Lh;rw[<-h.wT,AI,Ag a];rfl
theorem RJ(h:mQ n0 o2 o0)(t)(i:t.e≠1\/(t.B<=4000/\t.F<=3)):(UI n0 o2 t).size<=8010:=by
 have e:(UI n0 o2 t).size=(mU n0 o2 t):=by simp[UI,ByteArray.size]
 rw[e];unfold mU;have a:=h.bq t.B;have b:=h.dh t.B t.F;have c:=Ho t.B;have d:=Ho t.F;have f:L (Lh n0 t.B).data.toList=(Lh n0 t.B):=BS;have g:L (Xs o2 t.B t.F).data.toList=(Xs o2 t.B t.F).size:=BS;grind
theorem WV(F E B U x sv t fs pl I d X S mv nv K a0 v w)
 (f:Gu F E B d X S mv nv K a0 w)(h:KO E B U x sv t fs pl I w)(H:mQ d X t)(hv:E9 (L d) S.c.d v)(u:v.e≠0)(hm:L S.c.d<=200000):
 F' zy 123 #[Z' F,(GT v)] w λe w'=>e=(if v.e=1 then UI d X ⟨2,v.c,0⟩else UI d X (CM S.c.d v.c).nm)/\∃m,w'=w.drewN m:=by
 have lr:=Cz f.p;have lp:=Cz h.r;have⟨r0,r1⟩:=f.p.k2;have p0:=h.r.p.j0;rcases hv with⟨q,_⟩|⟨j,k⟩|⟨j,k⟩
 exact Bm q u
 .have C:v.c<t:=by rw[H.yG]at k;exact k
  have l:GT v= -(v.c:zw)-1:=by simp[GT,j]
  obtain⟨gf,lf,cf,rfl⟩:∃a b c,x=Y a b c:=by have⟨N,hr,_⟩:=h.fn;exact CA hr
  have⟨N,r,_⟩:=h.fn;cases CU r;obtain⟨g,rfl⟩:=CH r (by omega);have lg:=(r.lt g Q).2;have⟨tv,bv,vv,y,_⟩:=h.fn.get C;have i:=y 0 (by decide);simp only[J5,Ac,Aa,Au]at i;have o:=H.I C;rw[o]at i;have e9:=H.bq v.c;have a1:=H.xE;have P:D<|(⟨#[64]⟩:Cd)++Lh d v.c=UI d X ⟨2,v.c,0⟩:=F7 (by simp[mU]);have⟨z,p⟩:=Dv<|GT v;rw[p]at l|-;have R:zu (z<0)=zt:=by simp;omega
  have V:(-z).toNat-1=v.c:=by omega
  have e6: -z-1<(L t:zw):=by omega
  have e7:0<= -z-1:=by omega
  have e8: -z<=4001:=by omega
  rw[Bb j];clear f h H r y l o u j k p;generalize Lh d v.c=nm at*;generalize v.c=n at*;go_in;go_wp2;go_ret;exact⟨BG (λs=>T'<|Y' s) P.o,0,Q⟩
 .have l:GT v=(v.c:zw)+1:=by simp[GT,j]
  obtain⟨gm,cm,rfl⟩:=CB f.d;obtain⟨g,rfl⟩:=CH f.d (by omega);have lg:=(f.d.lt g Q).2;have i:=f.d.cellAt (v.c*4) (by omega);rw[show v.c*4=v.c*4+0 from Q,ZX d X S.c.d k<|by decide]at i;have o:=(Dy k).symm;rw[o]at i;simp only[fJ,Aa,Au]at i;have⟨z,p⟩:=Dv<|GT v;rw[p]at l|-;have R:zu (z<0)=zr:=by simp;omega
  have V:z.toNat-1=v.c:=by omega
  have e6:z-1<(L S.c.d:zw):=by omega
  have e7:0<=z-1:=by omega
  rw[Ba<|by omega];clear f h H l o u j p;generalize UI d X (CM S.c.d v.c).nm=nm at*;generalize v.c=n at*;go_in;go_wp2;go_ret;exact⟨Q,0,Q⟩
def RS.hold(S:RS)(c:M)(v:Vl):RS:={S with c:={S.c with d:=S.c.d.set c ⟨(CM S.c.d c).nm,v⟩}}
theorem Gu.hold{f}(h:Gu B C R n0 o2 u3 (Y (T ⟨X,0,Z⟩) v0 p0) V u0 f P)(a:o1<L u3.c.d)(v):
 Gu B C R n0 o2 (u3.hold o1 v) (Y (T ⟨X,0,Z⟩) v0 p0) V u0 f (P.setCell ⟨X,o1*4+1,Z⟩<|G A<|GT v)/\DU B R P (P.setCell ⟨X,o1*4+1,Z⟩<|G A<|GT v):=by
 cases CU h.d;have⟨i,k⟩:=E0 h.d;have l:X≠B:=λe=>by subst e;have:=h.p;grind[W]
 have j:=(h.d.lt X Q).1;have b:DU B R P<|P.setCell (X,o1*4+1)<|GT v:=(CT _ _).setCell (zo<|zn ⟨j,i,_,k⟩) _;have d:=(h.d.stored (o1*4+1)<|GT v).1;rw[jI n0 o2 u3.c.d a,<-Dy a]at d;have m:L (u3.hold o1 v).c.d=u3.c.d:=by simp[RS.hold]
 refine⟨⟨h.p.xH _ _ l.symm,h.xS,?_,b.row h.row h.p (by decide)<|by decide,h.sn,h.lb⟩,b⟩;rw[m];exact d
theorem Gu.z{b}(h:Gu B C R n0 o2 u3 (Y (T ⟨X,0,Z⟩) v0 p0) V u0 b P){c}(i:c<L u3.c.d):
 (∀j,j<4->K' P ⟨X,c*4+j,Z⟩=(fJ n0 o2 c<|CM u3.c.d c)[j]?)/\(∀j,P.frozen? ⟨X,j,Z⟩=zr)/\v0=L u3.c.d/\X<P.heap.size/\X≠B:=by
 cases CU h.d;have⟨f,a⟩:=E0 h.d;refine⟨λj k=>?_,λj=>CZ a j,Q,Cz a,λe=>?_⟩;have d:=h.d.cellAt (c*4+j) (by omega);grind[ZX,Dy];subst e;have:=h.p;grind[W]
theorem Gu.co{c}(h:Gu B C R n0 o2 u3 V z0 u0 c P)(b:0<L u3.c.d):∃g a,V=Y (T ⟨g,0,Z⟩) (L u3.c.d) a:=by obtain⟨d,a,rfl⟩:=CB h.d;obtain⟨g,rfl⟩:=CH h.d b;grind
theorem Gu.t8{b}(h:Gu B C R n0 o2 u3 V z0 u0 b P)(a:O Cb P y0):Gu B C R n0 o2 u3 V z0 u0 b y0:=
 ⟨h.p.j a id,h.xS,Cx h.d a Ed,Cx h.row a Ed,h.sn,h.lb⟩
theorem KO.t8(h:KO B C z1 V z0 o0 x1 R X P)(a:O Cb P y0):KO B C z1 V z0 o0 x1 R X y0:=by have⟨b,g,e,f⟩:=h.st;exact⟨h.r.p.j a id,h.fn.t8 a,⟨b,Cx g a Ed,e,λi c d=>(f i c d).j a λ_ _ _ _ q=>q.elim⟩⟩
theorem lJ{m v}(i):(CM (m.set B ⟨(CM m B).nm,v⟩) i).nm=(CM m i).nm:=by grind[CM]
theorem NH(d y B:M)(U:Ce)(fv sv:H')(rf:Dd)(fs:C8)(pl ca:M)(f:Cc)(X:FZ)(S:RS)(c:M)(v:Vl)(w:I')
 (h:DJ d y B f X S w)(hP:KO y B U fv sv rf fs pl ca w)(H:mQ f X rf)(K:EI (L f) S.c.d)(F:c<S.c.d)(I:E9 f S.c.d v)(hm:L S.c.d<=200000)(hs:S.c.x+L S.c.xG<=200000):
 F' zy 78 #[Z' d,c,(GT v)] w λe w'=>e=P' #[]/\DJ d y B f X {S with c:=S.c.set c v} w'/\DU d B w w':=by
 have⟨mv,nv,ch,u,h⟩:=h;obtain⟨g,cm,rfl⟩:=h.co (by omega);have lr:=Cz h.p;have r1:=h.p.j1;have⟨a4,b3,_,lg,b4⟩:=h.z F;have c1:=a4 1 (by decide);have f1:=b3<|c*4+1;simp only[fJ,Ab,Aa]at c1;have⟨m,s⟩:=h.hold F v;by_cases x:v.e=0
 .have e1:GT v=0:=by simp[GT,x]
  have hS:S.hold c v={S with c:=S.c.set c v}:=by unfold RS.hold Co.set;simp[x]
  rw[e1]at m s|-;rw[hS]at m;have HR:=J m;have HF:=J s;clear h m s hS hP H K I;go_in;go_wp2;go_end0;exact⟨Q,⟨_,_,_,_,HR.o⟩,HF.o⟩
 .have⟨z,hz⟩:=Dv<|GT v;have d8:(z !=0)=zt:=by rw[<-hz];simp[GT,x];split<;>omega
  have a1:=hP.bo s h.p;rw[hz]at m s a1|-;have⟨r,P⟩:=Dv<|(if v.e=1 then UI f X ⟨2,v.c,0⟩else UI f X (CM S.c.d v.c).nm);have⟨N,C⟩:=Dv<|UI f X (CM S.c.d c).nm;have⟨E,hE⟩:=Dv<|N++(⟨#[62]⟩:Cd)++r;have V:L (S.hold c v).c.d=S.c.d:=by simp[RS.hold]
  have a2:=λ(l:I') (hW:O Cb (w.setCell (g,c*4+1) z) l)=>WV d y B U fv sv rf fs pl ca f X (S.hold c v) (Y g S.c.d cm) nv ch u v l (m.t8 hW) (a1.t8 hW) H (by rw[V];exact I) x<|by rw[V];exact hm
  have b0:(if v.e=1 then UI f X ⟨2,v.c,0⟩else UI f X (CM (S.hold c v).c.d v.c).nm)=r:=by rw[<-P];show(if v.e=1 then _ else UI f X (CM (S.c.d.set c ⟨(CM S.c.d c).nm,v⟩) v.c).nm)=_;rw[lJ]
  rw[b0,hz]at a2;have a8:tN f X ((CM S.c.d c).nm,if v.e=1 then⟨2,v.c,0⟩else(CM S.c.d v.c).nm)=E:=by rw[<-hE,<-C,<-P];symm;refine F7 ?_;simp only[vU,UI,ByteArray.data_append,Array.toList_append];split<;>simp
  have b6:{S with c:=S.c.set c v}={S.hold c v with c:={(S.hold c v).c with x:=((CM S.c.d c).nm,if v.e=1 then⟨2,v.c,0⟩else(CM S.c.d v.c).nm)::S.c.x}}:=by
   unfold RS.hold Co.set;rcases I with⟨q,_⟩|⟨q,_⟩|⟨q,_⟩
   exact Bm q x;simp[q];simp[q]
  have nN:N.size<=8010:=by
   rw[<-C];refine RJ H _ ?_;have:=K.nm c F;rw[<-Dy F]at this;rcases this with q|⟨_,q1,q2,_⟩
   exact zo (by omega);exact zn ⟨q1,q2⟩
  have nT:r.size<=8010:=by
   rw[<-P];split;exact RJ H _ (zo<|by simp);rename_i R;rcases I with⟨q,_⟩|⟨q,_⟩|⟨q,hn⟩
   exact Bm q x;exact Bm q R;refine RJ H _ ?_;have:=K.nm v.c hn;rw[<-Dy hn]at this;rcases this with q|⟨_,q1,q2,_⟩
   exact zo (by omega);exact zn ⟨q1,q2⟩
  have d7:=h.sn.len;have c0:=a4 0 (by decide);simp only[fJ,Aa,Au,C]at c0;have r7:=h.p.j7;have c9:=h.p.wV 7;have a9:UI f X (CM (S.hold c v).c.d c).nm=N:=by show UI f X (CM (S.c.d.set c ⟨(CM S.c.d c).nm,v⟩) c).nm=N;rw[lJ,C]
  obtain⟨a6,HT,j,c2,HE,b9,c3⟩:=qU a9 a2 m s hE a8 b6;have d6:N.size+1+r.size<=20000:=by omega
  obtain⟨na,nc,rfl⟩:=CB h.row;clear a9 a2 m s a1 hE a8 b6 b0 C P hP H K I h hz;have d5:d≠g:=λe=>b4 e.symm
  go_in;go_wp2;have b7:d<(w.setCell (g,c*4+1) z):=by simpa[World.setCell]using lr
  generalize a3:w.setCell (g,c*4+1) z=l at*;obtain⟨R0,R1,-,-,-,-,-,R7⟩:=j.o.p.k8;have RF:=j.o.p.wV 7;have b2:=(j.o.z (c:=c)<|by rw[V];exact F).1;have C0:=b2 0 (by decide);simp only[fJ,Aa,Au,a6.o]at C0;have d9:g<l:=by rw[<-a3];simpa[World.setCell]using lg
  have c4:=J j.o.row;have d0:=J a3;clear b2 a4 r1 r7 c0 c1 f1 b3 c9 a3 V a6 nN nT;have a7:∀(B':M) (i:I') (n:Ch) (p o:M),B<=B'->CK B' i (Y n p o) (EP u<|N++{data:=#[62]}++r)->O Cb l i->DJ d y B f X {S with c:=S.c.set c v} (i.setCell (d,7)<|Y n p o)/\DU d B w (i.setCell (d,7)<|Y n p o):=by
   intro B' i n p o c5 h8 t;have a5:O (λk=>k=d) i<|i.setCell (d,7)<|Y n p o:=(CT _ _).wS 7 _;have c7:DU d B w<|i.setCell (d,7)<|Y n p o:=by refine DU.trans (b:=l) c2.o<|(DU.wW t).trans<|DU.xM a5
   refine⟨⟨Y g S.c.d cm,Y n p o,ch,EP u<|N++{data:=#[62]}++r,?_⟩,c7⟩;rw[c3.o];have b1:W d (fO y (Y g S.c.d cm) ch (S.hold c v)<|Y na u nc) 58 i:=j.o.p.j t id;refine⟨b1.set 7 _,j.o.xS,Cx (Cx j.o.d t λ_ _ q=>q) a5 λk R q=>?_,?_,?_,j.o.lb⟩;subst q;simp[L']at R;exact b4 R;exact Cx (CN h8 c5) a5 (CL h8 b1<|by decide);have:=j.o.sn.bu ((CM S.c.d c).nm,if v.e=1 then⟨2,v.c,0⟩else(CM S.c.d v.c).nm);rw[b9.o,<-HE.o]at this;exact this
  have b8:=J a7;have c6:B<=l:=by have:=(j.o.d.lt g Q).1;omega
  clear a7;have d3:¬(9223372036854775807<N.size+1):=by omega
  have d4:¬(9223372036854775807<N.size+1+r.size):=by omega
  go_region_law(first
   |(go_simp;go_at_call 123;refine(HT.o _ ?_).mono ?_;exact oq;rintro e w7 ⟨rfl,m7,c8⟩;cases c8.symm;dsimp only)
   |(go_simp;go_at_call 47;refine(Jp B (Y na u nc) u _ _ (Cx c4.o oq λ_ _ q=>q)<|by omega).mono ?_;rintro e i ⟨v8,rfl,a0,b5⟩;obtain⟨n,p,o,rfl⟩:=CA a0;have t:=J<|O.trans (X:=Cb) (a:=l) oq b5;have d1:i (d,7)=Y na u nc:=(Ae<|t.o.block d b7 id).trans R7;have d2:i.frozen? (d,7)=zr:=(Aj<|t.o.block d b7 id).trans RF;have a0:=J a0;clear b5;dsimp only))
  all_goals go_end0
  all_goals have⟨f1,f2⟩:=b8.o _ _ _ _ _ (by simp;exact c6) a0.o t.o
  all_goals exact⟨Q,f1,f2⟩
theorem Gu.wrote{S' ch' b}(h:Gu B C R n0 o2 u3 V z0 u0 b P)(i u)(c:fO C V ch' S' z0=(fO C V u0 u3 z0).setIfInBounds i u)(d:ch'.data.toList=S'.c.N)(f:S'.c.d=u3.c.d)(g:S'.c.x=u3.c.x)(e:S'.c.xG=u3.c.xG):
 Gu B C R n0 o2 S' V z0 ch' b (P.setCell (B,i) u)/\DU B R P (P.setCell (B,i) u):=by
 have a:O (λk=>k=B) P<|P.setCell (B,i) u:=(CT _ _).wS i _;refine⟨⟨by rw[c];exact h.p.set i u,d,?_,Cx h.row a<|CL h.row h.p<|by decide,by rw[g,e];exact h.sn,h.lb⟩,DU.xM a⟩;rw[f];exact Cx h.d a<|CL h.d h.p<|by decide
theorem WM(g o B l X S w)(a:DJ g o B l X S w)(t:S.left<=5000)(u:S.f<=5000):
 F' zy 124 #[Z' g] w λe p=>e=(zu<|S.left≠0)/\DJ g o B l X (if S.left=0 then{S with s:=1}else S.one) p/\DU g B w p:=by
 have⟨x,y,r,F,a⟩:=a;have v:=Cz a.p;obtain⟨-,-,-,z,C,-,E⟩:=a.p.k7;have s:=a.p.wV;by_cases b:S.left=0;have q:((S.left:zw)==0)=zt:=by simp[b]
 have f:zu (S.left≠0)=zr:=by simp[b]
 rw[Bb b,f];have⟨c,d⟩:=a.wrote (S':={S with s:=1}) 6 (G A 1) Q a.xS Q Q Q;have h:=J c;have i:=J d;clear a c d b;rotate_left;have q:((S.left:zw)==0)=zr:=by simp[b]
 have f:zu (S.left≠0)=zt:=by simp[b]
 rw[Ba b,f];have j:((S.left-1:M):zw)=(S.left:zw)-1:=by omega
 have k:((S.f+1:M):zw)=(S.f:zw)+1:=by omega
 have⟨c,d⟩:=a.wrote (S':={S with left:=S.left-1}) 3 (G A<|(S.left:zw)-1) (by simp only[fO,j];rfl) a.xS Q Q Q;have⟨m,n⟩:=c.wrote (S':=S.one) 4 (G A<|(S.f:zw)+1) (by simp only[fO,RS.one,k];rfl) a.xS Q Q Q;have h:=J m;have i:=J<|d.trans n;clear a c d m n j k f;all_goals
  go_in;go_wp2;go_ret;exact⟨Q,⟨_,_,_,_,h.o⟩,i.o⟩
theorem Pr(h p B m X S w)(d:DJ h p B m X S w):
 F' zy 157 #[Z' h] w λe r=>e=(Ii S.c.N).1/\DJ h p B m X {S with c:={S.c with N:=(Ii S.c.N).2}} r/\DU h B w r:=by
 have⟨z,C,a,F,d⟩:=d;have y:=Cz d.p;have E:=d.p.j2;have u:=d.p.wV;have f:=d.xS;cases g:S.c.N with
 |nil=>
  rw[g]at f;have t:a.toList.isEmpty=zt:=by rw[Br,f];rfl
  have n:{S with c:={S.c with N:=(Ii S.c.N).2}}=S:=by have⟨⟨_,_,_,_⟩,_,_,_,_,_⟩:=S;simp only at g;subst g;rfl
  rw[g]at n;rw[n];have i:=J d;clear d f;simp only[Ii];go_in;go_wp2;go_ret;exact⟨Q,⟨_,_,_,_,i.o⟩,DU.refl _ _ _⟩
 |cons b l=>
  rw[g]at f;have t:a.toList.isEmpty=zr:=by rw[Br,f];rfl
  have x:0<a.size:=by have:L a.data.toList=a.size:=BS;rw[f]at this;simp at this;omega
  have v:((a[0].toNat:zw)==49)=(b==49):=by
   have e:a[0]=b:=by
    have:a.data.toList[0]? =b:=by rw[f];rfl
    rw[Array.getElem?_toList]at this;have:=(Array.getElem?_eq_some_iff.1 this).2;exact this
   rw[e,Bool.eq_iff_iff];simp only[BQ];constructor;intro q;have:b.toNat=49:=by omega
   exact UInt8.toNat_inj.1 (by simpa using this);intro q;subst q;rfl
  have o:(a.extract 1 a).data.toList=l:=by
   rw[Bq,Array.toList_extract,f];have:a.size=l+1:=by have:L a.data.toList=a.size:=BS;rw[f]at this;simpa using this.symm
   simp[this]
  have⟨j,k⟩:=d.wrote (S':={S with c:={S.c with N:=l}}) (ch':=a.extract 1 a) 2 (a.extract 1 a) Q o Q Q Q;have i:=J j;have s:=J k;simp only[Ii];clear d j k f o;go_in;go_wp2;go_ret;exact⟨Q,⟨_,_,_,_,i.o⟩,s.o⟩
theorem KG(rb pb B:M)(U:Ce)(N sv:H')(F:Dd)(fs:C8)(pl ca:M)(K:Cc)(X:FZ)(S:RS)(u:FS)(f i j:Ch)(n o p k l m:M)(d:M)(t:Tk)(w:I')
 (s:DJ rb pb B K X S w)(C:KO pb B U N sv F fs pl ca w)(H:mQ K X F)(hi:u.l<F)(hb:d<=200000)(ht:t.a∈(CP X u.l).y):
 F' zy 159 #[Z' rb,N'<|Dc u (Y f n k) (Y i o l)<|Y j p m,d,MR t] w λe w'=>e=((d+vx (CP X u.l).y t.a:M):zw)/\O Cb w w':=by
 have⟨mv,nv,ch,b0,s⟩:=s;have E:=J<|((CT Cb w).alloc<|R' (Dc u (Y f n k) (Y i o l)<|Y j p m) 114).alloc<|R' #[t.a,t.pos,t.h] 104;have P:=J<|(W.new w (Dc u (Y f n k) (Y i o l)<|Y j p m) 114).alloc<|R' #[t.a,t.pos,t.h] 104;have v:W ((w:M)+1) #[t.a,t.pos,t.h] 104<|(w.alloc<|R' (Dc u (Y f n k) (Y i o l)<|Y j p m) 114).alloc<|R' #[t.a,t.pos,t.h] 104:=by have:=W.new (w.alloc<|R' (Dc u (Y f n k) (Y i o l)<|Y j p m) 114) #[t.a,t.pos,t.h] 104;simpa using this
 have v:=J v;have a4:=J<|s.p.j E.o id;have r:=C.t8 E.o;have a0:=J r.r;obtain⟨gf,lf,cf,rfl⟩:∃a b c,N=Y a b c:=by have⟨cs,hr,_⟩:=C.fn;exact CA hr
 have⟨cs,x,_⟩:=r.fn;cases CU x;obtain⟨g,rfl⟩:=CH x (by omega);have lg:=(x.lt g Q).2;have⟨tv,bv,vv,R,_,_,y⟩:=r.fn.get hi;have c6:=R 6 (by decide);simp only[J5,Ac,Aa,Ab]at c6;rw[H.y u.l hi]at y;have a9:=H.bi u.l;have a8:=H.xE;have a5:=J y;obtain⟨v1,v2,v3,rfl⟩:=CA y;have⟨q1,q2⟩:=EF ht;have I:=J q2;have⟨z,hz⟩:=Dv<|vx (CP X u.l).y t.a;rw[hz]at q1 I|-;have hw:IntKind.i64.wrap ((d:zw)+(z:zw))=(d:zw)+(z:zw):=by rw[BI];omega
 have V:(((d+z:M):zw))=(d:zw)+(z:zw):=by omega
 rw[V];clear s C r x R y H q2 hz ht V;unfold Dc MR at*;go_in;go_wp2;generalize (w.alloc _).alloc _=a6 at*;have a7:=P.o.j14;have t0:=v.o.j0;have r0:=a4.o.j0;have p0:=a0.o.p.j0;have lb:=Cz P.o;have lt:=Cz v.o;have lr:=Cz a4.o;have lp:=Cz a0.o;go_quiet((go_at_call 43;exact Calls.quiet_of_same<|(Jm B (Y v1 v2 v3) (CP X u.l).y t.a _ (Cx a5.o oq λ_ _ q=>q)<|by omega).mono λe w' h=>⟨by rw[h.1,I.o],h.2⟩));go_wp2;go_ret;exact⟨Q,E.o.drewN nq⟩
theorem DJ.t8(h:DJ B C R n0 o2 u3 P)(b:O Cb P y0):DJ B C R n0 o2 u3 y0:=by have⟨c,d,a,e,h⟩:=h;exact⟨c,d,a,e,h.t8 b⟩
theorem Hu(b g B f X S w)(a:DJ b g B f X S w):
 F' zy 183 #[Z' b] w λe h=>e=O' zt/\DJ b g B f X {S with s:=3} h/\DU b B w h:=by
 have⟨n,o,k,q,a⟩:=a;have m:=Cz a.p;have p:=a.p.z;have l:=a.p.wV;have⟨c,d⟩:=a.wrote (S':={S with s:=3}) 6 (G A 3) Q a.xS Q Q Q;have i:=J c;have j:=J d;clear a c d;go_in;go_wp2;go_ret;exact⟨Q,⟨_,_,_,_,i.o⟩,j.o⟩
structure Jf(rb pb B:M)(U:Ce)(fv sv:H')(rf:Dd)(fs:C8)(pl ca:M)(fn:Cc)(X:FZ)(S:RS)(w:I'):Prop where
 r:DJ rb pb B fn X S w
 p:KO pb B U fv sv rf fs pl ca w
 h:mQ fn X rf
 m:EI fn S.c.d
 R:S.c.d.length<=200000
 pl:S.c.x+S.c.xG.length<=200000
theorem Jf.t8(h:Jf B C R z1 V z0 o0 x1 X v0 n0 o2 u3 P)(a:O Cb P y0):Jf B C R z1 V z0 o0 x1 X v0 n0 o2 u3 y0:=
 ⟨h.r.t8 a,h.p.t8 a,h.h,h.m,h.R,h.pl⟩
theorem Jf.put(h:Jf B C R z1 V z0 o0 x1 X v0 n0 o2 u3 P)(c v)(b:c<L u3.c.d)(d:E9 n0 u3.c.d v):
 F' zy 78 #[Z' B,c,(GT v)] P λe a=>e=P' #[]/\DJ B C R n0 o2 {u3 with c:=u3.c.set c v} a/\DU B R P a:=
 NH B C R z1 V z0 o0 x1 X v0 n0 o2 u3 c v P h.r h.p h.h h.m b d h.R h.pl
theorem Jf.holds(h:Jf B C R z1 V z0 o0 x1 X v0 n0 o2 u3 P)(c:0<L u3.c.d):
 ∃g b,K' P ⟨B,1,Z⟩=T (Y (T ⟨g,0,Z⟩) (L u3.c.d) b)/\g<P.heap.size/\B<P.heap.size/\∀i,i<L u3.c.d->K' P ⟨g,i*4+1,Z⟩=T (G A<|GT (CM u3.c.d i).v)/\K' P ⟨g,i*4+2,Z⟩=T (G A<|oF i (CM u3.c.d i).nm):=by
 have⟨k,l,j,m,a⟩:=h.r;obtain⟨g,b,rfl⟩:=a.co c;have f:=a.p.j1;refine⟨g,b,f,(a.z c).2.2.2.1,Cz a.p,λi e=>?_⟩;have d:=(a.z e).1;exact⟨d 1<|by decide,d 2<|by decide⟩
theorem ED{v}(h:E9 B C v):(GT v<=0↔v.e≠2)/\(v.e=2->GT v=(v.c:zw)+1/\v.c<C)/\(0<=GT v↔v.e≠1)/\(v.e=1->GT v= -(v.c:zw)-1/\v.c<B):=by
 unfold GT;rcases h with⟨q,_⟩|⟨q,r⟩|⟨q,r⟩
 simp[q];simp[q,r];omega;simp[q,r];omega
theorem dX(f K B U fv sv rf fs pl V E X S u h i j r s t k l m p q w)
 (a:Jf f K B U fv sv rf fs pl V E X S w)(b:p<L S.c.d)(d:q<L S.c.d)(hk:u.e=3):
 F' zy 161 #[Z' f,N'<|Dc u (Y h r k) (Y i s l)<|Y j t m,p,q] w λe N=>e=O' zr/\DJ f K B E X {S with c:=S.c.set p ⟨2,q⟩} N/\DU f B w N:=by
 have⟨g,cm,r1,lg,lr,o⟩:=a.holds (by omega);have F:=J<|a.t8<|(CT Cb w).alloc<|R' (Dc u (Y h r k) (Y i s l)<|Y j t m) 114;have x:=J<|(CT Cb w).alloc<|R' (Dc u (Y h r k) (Y i s l)<|Y j t m) 114;have a0:=a.R;have I:=ED<|a.m.vl q d;rw[<-Dy d]at I;have H:=ED<|a.m.vl p b;rw[<-Dy b]at H;have cq:=(o q d).1;have cp:=(o p b).1;have y:GT ⟨2,q⟩=(q:zw)+1:=by simp[GT]
 have n:=F.o.put p ⟨2,q⟩ b<|zn<|zn ⟨Q,d⟩;rw[y]at n;have v:=J n;clear n a F o I H y cp;unfold Dc at*;rw[hk]at*;rw[show((3:M):zw)=3 from Q]at*;go_in;go_wp2_with fail;apply v.o.mono;rintro e w2 ⟨rfl,z,C⟩;have P:=J z;have R:=J<|(DU.wW x.o).trans C;clear z C v x;go_wp2;go_ret;exact⟨Q,P.o,R.o⟩
theorem dZ(f K B U fv sv rf fs pl V E X S u h i j r s t k l m p q w)
 (a:Jf f K B U fv sv rf fs pl V E X S w)(d:p<L S.c.d)(b:q<L S.c.d)(hk:u.e=7):
 F' zy 161 #[Z' f,N'<|Dc u (Y h r k) (Y i s l)<|Y j t m,p,q] w λe N=>e=O' zr/\DJ f K B E X {S with c:=S.c.set p (CM S.c.d q).v} N/\DU f B w N:=by
 have⟨g,cm,r1,lg,lr,n⟩:=a.holds (by omega);have F:=J<|a.t8<|(CT Cb w).alloc<|R' (Dc u (Y h r k) (Y i s l)<|Y j t m) 114;have x:=J<|(CT Cb w).alloc<|R' (Dc u (Y h r k) (Y i s l)<|Y j t m) 114;have a0:=a.R;have I:=ED<|a.m.vl q b;rw[<-Dy b]at I;have H:=ED<|a.m.vl p d;rw[<-Dy d]at H;have cq:=(n q b).1;have cp:=(n p d).1;have o:=a.m.vl q b;rw[<-Dy b]at o;have v:=J<|F.o.put p (CM S.c.d q).v d o;clear o a F n I H cp;generalize GT (CM S.c.d q).v=z at*;unfold Dc at*;rw[hk]at*;rw[show((7:M):zw)=7 from Q]at*;go_in;go_wp2_with fail;apply v.o.mono;rintro e w2 ⟨rfl,y,C⟩;have P:=J y;have R:=J<|(DU.wW x.o).trans C;clear y C v x;go_wp2;go_ret;exact⟨Q,P.o,R.o⟩
theorem YR(b v B U fv sv rf fs pl R k X S u c d f r s t h i j p q w)
 (a:Jf b v B U fv sv rf fs pl R k X S w)(m:p<L S.c.d)(n:q<L S.c.d)(hk:u.e=5)(F:(CM S.c.d q).v.e≠2):
 F' zy 161 #[Z' b,N'<|Dc u (Y c r h) (Y d s i)<|Y f t j,p,q] w λe K=>e=O' zt/\DJ b v B k X {S with s:=3} K/\DU b B w K:=by
 have⟨g,cm,r1,lg,lr,l⟩:=a.holds (by omega);have H:=J<|a.t8<|(CT Cb w).alloc<|R' (Dc u (Y c r h) (Y d s i)<|Y f t j) 114;have y:=J<|(CT Cb w).alloc<|R' (Dc u (Y c r h) (Y d s i)<|Y f t j) 114;have a0:=a.R;have o:=ED<|a.m.vl q n;rw[<-Dy n]at o;have I:=ED<|a.m.vl p m;rw[<-Dy m]at I;have cq:=(l q n).1;have V:=(l p m).1;have hz:zu (GT (CM S.c.d q).v<=0)=zt:=by simp;exact o.1.2 F
 have x:=J<|Hu b v B k X S _ H.o.r;clear a H l o I V F;generalize GT (CM S.c.d q).v=z at*;unfold Dc at*;rw[hk]at*;rw[show((5:M):zw)=5 from Q]at*;go_in;go_wp2_with fail;apply x.o.mono;rintro e w2 ⟨rfl,C,E⟩;have N:=J C;have P:=J<|(DU.wW y.o).trans E;clear C E x y;go_wp2;go_ret;exact⟨Q,N.o,P.o⟩
theorem dY(f V B U fv sv rf fs pl ca K X S u h i j v x C k l m p q w)
 (a:Jf f V B U fv sv rf fs pl ca K X S w)(d:p<L S.c.d)(r:q<L S.c.d)(hk:u.e=5)(N:(CM S.c.d q).v.e=2):
 F' zy 161 #[Z' f,N'<|Dc u (Y h v k) (Y i x l)<|Y j C m,p,q] w λe w'=>e=O' zr/\DJ f V B K X {S with c:=S.c.set p (CM S.c.d (CM S.c.d q).v.c).v} w'/\DU f B w w':=by
 have⟨g,cm,r1,lg,lr,b⟩:=a.holds (by omega);have P:=J<|a.t8<|(CT Cb w).alloc<|R' (Dc u (Y h v k) (Y i x l)<|Y j C m) 114;have F:=J<|(CT Cb w).alloc<|R' (Dc u (Y h v k) (Y i x l)<|Y j C m) 114;have a4:=a.R;have t:=ED<|a.m.vl q r;rw[<-Dy r]at t;have R:=ED<|a.m.vl p d;rw[<-Dy d]at R;have cq:=(b q r).1;have cp:=(b p d).1;have⟨e1,o⟩:=t.2.1 N;have cn:=(b _ o).1;have s:=a.m.vl _ o;rw[<-Dy o]at s;have E:=J<|P.o.put p _ d s;generalize a0:GT (CM S.c.d q).v=z at*;generalize (CM S.c.d q).v.c=n at*;have hz:=Hz (p:=z<=0) (by omega);have a5:z.toNat-1=n:=by omega
 have a6:z-1<(L S.c.d:zw):=by omega
 have a7:0<=z-1:=by omega
 clear a P b t R cp N s a0 e1;generalize GT (CM S.c.d n).v=y at*;unfold Dc at*;rw[hk]at*;rw[show((5:M):zw)=5 from Q]at*;go_in;go_wp2_with fail;apply E.o.mono;rintro e w2 ⟨rfl,H,I⟩;have F1:=J H;have F2:=J<|(DU.wW F.o).trans I;clear H I E F;go_wp2;go_ret;exact⟨Q,F1.o,F2.o⟩
theorem WW(b v B U fv sv rf fs pl R k X S u c d f r s t h i j p q w)
 (a:Jf b v B U fv sv rf fs pl R k X S w)(m:p<L S.c.d)(n:q<L S.c.d)(hk:u.e=4)(F:(CM S.c.d q).v.e≠2):
 F' zy 161 #[Z' b,N'<|Dc u (Y c r h) (Y d s i)<|Y f t j,p,q] w λe K=>e=O' zt/\DJ b v B k X {S with s:=3} K/\DU b B w K:=by
 have⟨g,cm,r1,lg,lr,l⟩:=a.holds (by omega);have H:=J<|a.t8<|(CT Cb w).alloc<|R' (Dc u (Y c r h) (Y d s i)<|Y f t j) 114;have y:=J<|(CT Cb w).alloc<|R' (Dc u (Y c r h) (Y d s i)<|Y f t j) 114;have a0:=a.R;have o:=ED<|a.m.vl q n;rw[<-Dy n]at o;have I:=ED<|a.m.vl p m;rw[<-Dy m]at I;have cq:=(l q n).1;have V:=(l p m).1;have hz:zu (GT (CM S.c.d q).v<=0)=zt:=by simp;exact o.1.2 F
 have x:=J<|Hu b v B k X S _ H.o.r;clear a H l o I V F;generalize GT (CM S.c.d q).v=z at*;unfold Dc at*;rw[hk]at*;rw[show((4:M):zw)=4 from Q]at*;go_in;go_wp2_with fail;apply x.o.mono;rintro e w2 ⟨rfl,C,E⟩;have N:=J C;have P:=J<|(DU.wW y.o).trans E;clear C E x y;go_wp2;go_ret;exact⟨Q,N.o,P.o⟩
theorem WX(b F B U fv sv rf fs pl ca o X S u d f h x C E i j l p q w)
 (a:Jf b F B U fv sv rf fs pl ca o X S w)(s:p<L S.c.d)(t:q<L S.c.d)(hk:u.e=4)(R:(CM S.c.d q).v.e=2)(V:¬((CM S.c.d (CM S.c.d q).v.c).nm.e=1/\(CM S.c.d (CM S.c.d q).v.c).nm.F=0)):
 F' zy 161 #[Z' b,N'<|Dc u (Y d x i) (Y f C j)<|Y h E l,p,q] w λe w'=>e=O' zt/\DJ b F B o X {S with s:=3} w'/\DU b B w w':=by
 have⟨g,cm,r1,lg,lr,c⟩:=a.holds (by omega);have a0:=J<|a.t8<|(CT Cb w).alloc<|R' (Dc u (Y d x i) (Y f C j)<|Y h E l) 114;have I:=J<|(CT Cb w).alloc<|R' (Dc u (Y d x i) (Y f C j)<|Y h E l) 114;have a7:=a.R;have v:=ED<|a.m.vl q t;rw[<-Dy t]at v;have a4:=ED<|a.m.vl p s;rw[<-Dy s]at a4;have cq:=(c q t).1;have cp:=(c p s).1;have⟨K,m⟩:=v.2.1 R;have cn:=(c _ m).2;have r:=a.m.nm _ m;rw[<-Dy m]at r;have a6:(oF (CM S.c.d q).v.c (CM S.c.d (CM S.c.d q).v.c).nm !=GT (CM S.c.d q).v-1)=zt:=by
  rw[K];unfold oF;rcases r with k|⟨k,_,_,k2,_⟩
  rw[Ba<|by omega];simp only[bne_iff_ne,ne_eq];omega;have:(CM S.c.d (CM S.c.d q).v.c).nm.F≠0:=λe=>V ⟨k,e⟩
  rw[Bb k];simp only[bne_iff_ne,ne_eq];omega
 have H:=J<|Hu b F B o X S _ a0.o.r;generalize a5:GT (CM S.c.d q).v=z at*;generalize oF (CM S.c.d q).v.c (CM S.c.d (CM S.c.d q).v.c).nm=y at*;generalize (CM S.c.d q).v.c=n at*;have hz:=Hz (p:=z<=0) (by omega);have a8:z.toNat-1=n:=by omega
 have a9:z-1<(L S.c.d:zw):=by omega
 have b0:0<=z-1:=by omega
 clear a a0 c v a4 cp R V r a5 K;unfold Dc at*;rw[hk]at*;rw[show((4:M):zw)=4 from Q]at*;go_in;go_wp2_with fail;apply H.o.mono;rintro e w2 ⟨rfl,N,P⟩;have F1:=J N;have F2:=J<|(DU.wW I.o).trans P;clear N P H I;go_wp2;go_ret;exact⟨Q,F1.o,F2.o⟩
theorem YQ(h pb B U fv sv rf fs pl ca fn X S u i j l F H I m o r p q w)
 (a:Jf h pb B U fv sv rf fs pl ca fn X S w)(f:p<L S.c.d)(C:q<L S.c.d)(hk:u.e=4)(h2:(CM S.c.d q).v.e=2)(b:(CM S.c.d (CM S.c.d q).v.c).nm.e=1/\(CM S.c.d (CM S.c.d q).v.c).nm.F=0)(hf:u.wU<=3):
 F' zy 161 #[Z' h,N'<|Dc u (Y i F m) (Y j H o)<|Y l I r,p,q] w λe w'=>e=O' zr/\DJ h pb B fn X {S with c:=S.c.set p ⟨2,(CM S.c.d q).v.c+u.wU⟩} w'/\DU h B w w':=by
 have⟨g,cm,r1,lg,lr,d⟩:=a.holds (by omega);have a0:=J<|a.t8<|(CT Cb w).alloc<|R' (Dc u (Y i F m) (Y j H o)<|Y l I r) 114;have N:=J<|(CT Cb w).alloc<|R' (Dc u (Y i F m) (Y j H o)<|Y l I r) 114;have a8:=a.R;have E:=ED<|a.m.vl q C;rw[<-Dy C]at E;have a4:=ED<|a.m.vl p f;rw[<-Dy f]at a4;have cq:=(d q C).1;have cp:=(d p f).1;have⟨s,t⟩:=E.2.1 h2;have cn:=(d _ t).2;have x:=a.m.nm _ t;rw[<-Dy t]at x;have a5:(CM S.c.d q).v.c+u.wU<S.c.d:=by
  rcases x with k|⟨k,_,_,k2,k3⟩
  have:=b.1;omega;have:=b.2;omega
 have a7:(oF (CM S.c.d q).v.c (CM S.c.d (CM S.c.d q).v.c).nm !=GT (CM S.c.d q).v-1)=zr:=by rw[s];unfold oF;simp[b.1,b.2]
 have P:GT ⟨2,(CM S.c.d q).v.c+u.wU⟩=GT (CM S.c.d q).v+(u.wU:zw):=by rw[s];simp[GT];omega
 have v:=a0.o.put p ⟨2,(CM S.c.d q).v.c+u.wU⟩ f<|zn<|zn ⟨Q,a5⟩;rw[P]at v;have K:=J v;generalize a6:GT (CM S.c.d q).v=z at*;generalize oF (CM S.c.d q).v.c (CM S.c.d (CM S.c.d q).v.c).nm=y at*;generalize (CM S.c.d q).v.c=n at*;have hz:=Hz (p:=z<=0) (by omega);have a9:z.toNat-1=n:=by omega
 have b0:z-1<(L S.c.d:zw):=by omega
 have b1:0<=z-1:=by omega
 clear a a0 d E a4 cp h2 b x a6 s v P;unfold Dc at*;rw[hk]at*;rw[show((4:M):zw)=4 from Q]at*;go_in;go_wp2_with fail;apply K.o.mono;rintro e w2 ⟨rfl,R,V⟩;have F1:=J R;have F2:=J<|(DU.wW N.o).trans V;clear R V K N;go_wp2;go_ret;exact⟨Q,F1.o,F2.o⟩
theorem WY(b v B U fv sv rf fs pl V k X S u c d f r s t h i j p q w)
 (a:Jf b v B U fv sv rf fs pl V k X S w)(m:p<L S.c.d)(n:q<L S.c.d)(hk:u.e=10)(H:(CM S.c.d p).v.e≠2):
 F' zy 161 #[Z' b,N'<|Dc u (Y c r h) (Y d s i)<|Y f t j,p,q] w λe N=>e=O' zt/\DJ b v B k X {S with s:=3} N/\DU b B w N:=by
 have⟨g,cm,r1,lg,lr,l⟩:=a.holds (by omega);have I:=J<|a.t8<|(CT Cb w).alloc<|R' (Dc u (Y c r h) (Y d s i)<|Y f t j) 114;have C:=J<|(CT Cb w).alloc<|R' (Dc u (Y c r h) (Y d s i)<|Y f t j) 114;have a0:=a.R;have K:=ED<|a.m.vl q n;rw[<-Dy n]at K;have o:=ED<|a.m.vl p m;rw[<-Dy m]at o;have cq:=(l q n).1;have cp:=(l p m).1;have hz:zu (GT (CM S.c.d p).v<=0)=zt:=by simp;exact o.1.2 H
 have x:=J<|Hu b v B k X S _ I.o.r;clear a I l K o H;generalize GT (CM S.c.d q).v=y at*;generalize GT (CM S.c.d p).v=z at*;unfold Dc at*;rw[hk]at*;rw[show((10:M):zw)=10 from Q]at*;go_in;go_wp2_with fail;apply x.o.mono;rintro e w2 ⟨rfl,E,F⟩;have P:=J E;have R:=J<|(DU.wW C.o).trans F;clear E F x C;go_wp2;go_ret;exact⟨Q,P.o,R.o⟩
theorem YS(f pb B U fv sv rf fs pl ca R X S u h i j x C E k l m p q w)
 (a:Jf f pb B U fv sv rf fs pl ca R X S w)(s:p<L S.c.d)(b:q<L S.c.d)(hk:u.e=10)(V:(CM S.c.d p).v.e=2):
 F' zy 161 #[Z' f,N'<|Dc u (Y h x k) (Y i C l)<|Y j E m,p,q] w λe w'=>e=O' zr/\DJ f pb B R X {S with c:=S.c.set (CM S.c.d p).v.c (CM S.c.d q).v} w'/\DU f B w w':=by
 have⟨g,cm,r1,lg,lr,r⟩:=a.holds (by omega);have a0:=J<|a.t8<|(CT Cb w).alloc<|R' (Dc u (Y h x k) (Y i C l)<|Y j E m) 114;have H:=J<|(CT Cb w).alloc<|R' (Dc u (Y h x k) (Y i C l)<|Y j E m) 114;have a6:=a.R;have a4:=ED<|a.m.vl q b;rw[<-Dy b]at a4;have v:=ED<|a.m.vl p s;rw[<-Dy s]at v;have cq:=(r q b).1;have cp:=(r p s).1;have⟨I,o⟩:=v.2.1 V;have t:=a.m.vl q b;rw[<-Dy b]at t;have d:=a0.o.put (CM S.c.d p).v.c _ o t;generalize a5:(CM S.c.d p).v.c=n at d I o|-;have K:(n:zw)=GT (CM S.c.d p).v-1:=by omega
 rw[K]at d;have F:=J d;have hz:=Hz (p:=GT (CM S.c.d p).v<=0) (by omega);have a7:GT (CM S.c.d p).v<=200000:=by omega
 have a8:0<GT (CM S.c.d p).v:=by omega
 clear a a0 r a4 v V t I o K d a5;generalize GT (CM S.c.d q).v=y at*;generalize GT (CM S.c.d p).v=z at*;unfold Dc at*;rw[hk]at*;rw[show((10:M):zw)=10 from Q]at*;go_in;go_wp2_with fail;apply F.o.mono;rintro e w2 ⟨rfl,N,P⟩;have F1:=J N;have F2:=J<|(DU.wW H.o).trans P;clear N P F H;go_wp2;go_ret;exact⟨Q,F1.o,F2.o⟩
def Mm(S a:RS):Prop:=a.u=S.u/\a.f+a.left=S.f+S.left
theorem Mm.trans{a b c:RS}(h:Mm a b)(k:Mm b c):Mm a c:=⟨k.1.trans h.1,k.2.trans h.2⟩
def Zn(X:FZ)(fn:Cc)(F:M):Prop:=∀(c a:M) (e:Dj) (d b:M) (S:RS),Mm S (Da X fn F c a e d b S).2
section
variable{fn:Cc}{X:FZ}
theorem Ta{F:M}(e:Zn X fn F)(f a p S):Mm S (JK X (Da X fn F) f a p S).2:=by unfold JK Fe;by_cases h:S.u=40;simp only[Bb h,BD];exact⟨Q,Q⟩;simp only[Ba h];have I:=e f S.c.d (CP X f).i (CP X f).pl (CP X f).g {S with c:=S.c.enter f (CP X f).y a,u:=S.u+1,xP:=Hd};generalize Da X fn F f (L S.c.d) (CP X f).i (CP X f).pl (CP X f).g {S with c:=S.c.enter f (L (CP X f).y) a,u:=S.u+1,xP:=Hd}=r at I|-;have⟨d,b⟩:=I;simp only at d b;split;exact⟨by grind,b⟩;exact⟨by grind,b⟩
theorem QU{F:M}(g:Zn X fn F)(d a f e b):∀(n:M) (S:RS),Mm S (Hw (Da X fn F d a f e b) n S).2
 |0,S=>⟨Q,Q⟩
 |n+1,S=>by
  unfold Hw;simp only;split
  .exact⟨Q,Q⟩
  .have I:=g d a f e b {S with c:={S.c with N:=(Ii S.c.N).2}};generalize Da X fn F d a f e b {S with c:={S.c with N:=(Ii S.c.N).2}}=r at I|-;split
   .exact I
   .split
    .exact I
    .rename_i i;have h:=QU g d a f e b n r.2.one;grind[Mm,RS.one]
theorem Tb{F:M}(a:Zn X fn F)(d b t e c S):Mm S (Ec X fn (Da X fn F) F d b t e c S).2:=by have⟨v,f⟩:=t;unfold Ec;simp only;split;exact⟨Q,Q⟩;split;split;exact a ..;exact a ..;split;grind[QU];split;exact⟨Q,Q⟩;split;grind[Ta];split;split;exact Ta a ..;exact⟨Q,Q⟩;split;exact⟨Q,Q⟩;exact⟨Q,Q⟩
theorem Ll:∀F:M,Zn X fn F
 |0=>λ_ _ _ _ _ _=>⟨Q,Q⟩
 |F+1=>by
  intro g e d h f S;match d with
  |[]=>exact⟨Q,Q⟩
  |t::d=>
   rw[Da];by_cases c:S.left=0
   .rw[Bb c];exact⟨Q,Q⟩
   .rw[Ba c];have b:=Tb (Ll F) g e t h f S.one;have a:Mm S S.one:=⟨Q,by grind[RS.one]⟩;simp only;split
    .exact a.trans b
    .exact(a.trans b).trans (Ll F ..)
end
theorem Gu.push{v' f cl}(h:Gu B C R n0 o2 u3 V z0 u0 f P)(g:O Cb P y0)(i:y0.grownBy v1<|L' V)(e:J' v1 R 183 4 v' (L u3.c.d+1)<|Ov n0 o2 u3.c.d++fJ n0 o2 u3.c.d cl):
 Gu B C R n0 o2 {u3 with c:={u3.c with d:=u3.c.d++[cl]}} v' z0 u0 f (v1.setCell (B,1) v')/\DU B R P (v1.setCell (B,1) v'):=by
 have d:O (λk=>L' V=T k) P v1:=O.xA (g.mono λ_ _ q=>q.elim) i λj m=>zo m;have hF:DU B R P v1:=d.mono (λk t q=>by
  refine zn ⟨(h.d.lt k q).1,?_⟩;rcases h.d.2 with⟨o,_⟩|⟨s,p,r,n,_,l,_⟩
  rw[o]at q;simp[L']at q;rw[n]at q;simp[L']at q;subst q;exact⟨_,_,l⟩)
 have b:O (λk=>k=B) v1<|v1.setCell (B,1) v':=(CT _ _).wS 1 _;have a:W B (fO C V u0 u3 z0) 58 v1:=h.p.j d λq=>CL h.d h.p (by decide) B q Q;refine⟨⟨a.set 1 _,h.xS,?_,Cx (hF.row h.row h.p (by decide)<|by decide) b<|CL (hF.row h.row h.p (by decide)<|by decide) a<|by decide,h.sn,h.lb⟩,hF.trans<|DU.xM b⟩;show J' (v1.setCell (B,1) v') R _ 4 v' (u3.c.d++[cl])<|Ov n0 o2<|u3.c.d++[cl];rw[cO,Ah];exact Cx e b<|CL e a<|by decide
theorem DU.yH(b:DU R C P y0)(a:DJ R B C n0 o2 u3 P)(h:KO B C z1 V z0 o0 x1 X v0 P):KO B C z1 V z0 o0 x1 X v0 y0:=by have⟨d,e,c,f,a⟩:=a;exact h.bo b a.p
theorem DU.an(d:DU R C P y0)(a:DJ R B C n0 o2 u3 P)(h:J' P X q0 v0 V p0 y1)(b:q0≠58)(c:q0≠183):J' y0 X q0 v0 V p0 y1:=by have⟨g,i,f,j,a⟩:=a;exact d.row h a.p b c
structure Se(fn:Cc)(par:Cf)(X:FZ)(rf:Dd)(fs:C8):Prop where
 h:mQ fn X rf
 x:vL fn par X
 body:∀f (hf:f<rf.length),TO fs f (CP X f).i rf[f].body (CP X f).pl (CP X f).g
 cg:∀f,f<rf.length->FG (CP X f).i<=4001
 wZ:∀f (hf:f<rf.length),rf[f].wZ=(CP X f).m
 bp:fs.length<=4001
def JU(F:M):Prop:=∀(h j B:M) (U:Ce) (q s:H') (k:Dd) (i:C8) (r p:M) (a:Cc) (n:Cf) (X:FZ) (c d:M) (b:Dj) (l:Cf) (m:H') (g f K:M) (S:RS) (w:I'),
 Se a n X k i->DJ h j B a X S w->KO j B U q s k i r p w->TV K (L a) S->K<=150000->S.left<F->S.f+S.left<=5000->S.u<=40->S.s=0->c<k->d+L (CP X c).y<=S.c.d->Vc a n (CP X c).y b->g+nL 1 b<=4000->f+nL 8 b<=4000->TO i c b l g f->CY B w m l->FG b<=4001->
 F' zy 79 #[Z' h,m,d] w λe o=>e=(Da X a F c d b g f S).1/\DJ h j B a X (Da X a F c d b g f S).2 o/\DU h B w o
abbrev cl0:Cg:=#[ByteArray.empty,G A 0,G A 0,G A 0]
theorem Tryz.infoCell:(Tryz.prog.info? 183).map (λi=>(i.zero,i.size,i.bytes))=T (T<|N' cl0,4,40):=by kernel_rfl
theorem rY(s):∀u∈[Y' s,G A 0,G A<|-1,G A 0],u.oneCell'=zt:=by intro x a;simp only[AY,AE,or_false]at a;rcases a with rfl|rfl|rfl|rfl<;>rfl
theorem Qk(l v):∀(a:M) (c:Co),Fw (l++[v]) a c=(Fw l a c).set (a+l) v:=by
 induction l with
 |nil=>intro a c;rfl
 |cons u l b=> intro a c;simp only[List.cons_append,Fw,b,Af];congr 1;omega
theorem TJ(c:Co)(f k:M):{(c.y f k)with d:=(c.y f k).d++[⟨⟨0,f,k⟩,Hd⟩]}=c.y f (k+1):=by grind[Co.y,List.range_succ]
theorem WJ(d m B:M)(j:Cc)(X:FZ)(f:M)(g:H')(S:RS)(w:I')(b:DJ d m B j X S w)(q:∃a l c,g=Y a l c)(k:S.u=40):
 F' zy 40 #[Z' d,f,g] w λe n=>e=O' zr/\DJ d m B j X {S with s:=4} n/\DU d B w n:=by
 obtain⟨a,l,c,rfl⟩:=q;have⟨v,x,r,C,b⟩:=b;have u:=Cz b.p;obtain⟨-,-,-,-,-,y,z⟩:=b.p.k7;have s:=b.p.wV;have⟨h,i⟩:=b.wrote (S':={S with s:=4}) 6 (G A 4) Q b.xS Q Q Q;have o:=J h;have p:=J i;have t:((S.u:zw)==40)=zt:=by simp[k]
 clear b h i k;go_in;go_wp2;go_ret;exact⟨Q,⟨_,_,_,_,o.o⟩,p.o⟩
def eU(l:List Vl):Ci:=l.map λv=>G A<|GT v
theorem Rr(F)(hL:JU F)(m q B U fv sv d fs p0 c0 n g9 X f l av K S w)
 (hS:Se n g9 X d fs)(hR:DJ m q B n X S w)(o:KO q B U fv sv d fs p0 c0 w)(hm:EI (L n) S.c.d)(h1:S.c.d+20*S.left+14<=K)(h2:L S.c.x+S.c.xG+20*S.left+14<=K)(hK:K<=150000)(hl:S.left<F)(l7:S.f+S.left<=5000)(hd:S.u<40)(he:S.s=0)(hf:f<L d)
 (ha:∀v,v∈l->E9 (L n) (L S.c.d) v)(hn:L l<=L (CP X f).y)(c9:J' w B 56 1 av (L l)<|eU l):
 F' zy 40 #[Z' m,f,av] w λe w'=>e=O' (Fe X (Da X n F) f l S).1/\DJ m q B n X (Fe X (Da X n F) f l S).2 w'/\DU m B w w':=by
 obtain⟨va,vc,rfl⟩:=CB c9;obtain⟨mv,nv,ch,m5,p⟩:=hR;have lr:=Cz p.p;have lp:=Cz o.r;obtain⟨r0,r1,-,-,-,r5⟩:=p.p.k6;have fz:=p.p.wV;have k6:=o.r.p.z;obtain⟨gf,lf,cf,rfl⟩:∃a b c,fv=Y a b c:=by obtain⟨cs,hr,_⟩:=o.fn;exact CA hr
 obtain⟨cs,a6,j9⟩:=o.fn;clear j9;cases CU a6;obtain⟨g,rfl⟩:=CH a6 (by omega);have lg:=(a6.lt g Q).2;have j3:g≠m:=CL a6 p.p (by decide) g Q;have j8:q≠m:=o.r.p.ne p.p (by decide);obtain⟨tv,bv,vv,C,g3,b9,a7⟩:=o.fn.get hf;obtain⟨t1,t2,t3,rfl⟩:=CA g3;obtain⟨V,b2,b3,rfl⟩:=CA b9;obtain⟨v1,v2,v3,rfl⟩:=CA a7;have f0:=C 0 (by decide);have f1:=C 1 (by decide);have f2:=C 2 (by decide);have f3:=C 3 (by decide);have f4:=C 4 (by decide);have f5:=C 5 (by decide);have f6:=C 6 (by decide);simp only[J5,Ac,Aa,Ab,Au]at f0 f1 f2 f3 f4 f5 f6;have l6:L S.c.d<=150000:=by omega
 obtain⟨m1,m3,rfl⟩:=CB p.d;have l2:=Ka S.u 40 (by omega);obtain⟨d1,d2⟩:=p.wrote (S':={S with u:=S.u+1}) 5 (G A<|(S.u:zw)+1) (by simp only[fO];rfl) p.xS Q Q Q;obtain⟨e6,e1,HP,t,HM,HA,d8,d9⟩:=Pe d1 d2 (o.bo d2 p.p) hS hm ha (d2.row c9 p.p (by decide)<|by decide) (d2.row b9 p.p (by decide)<|by decide);have g6:=hS.h.y f hf;rw[g6]at a7;have e8:=J (d2.row a7 p.p (by decide)<|by decide);have l8:=hS.h.bi f;cases CU a7;cases CU b9;have l5:=hS.h.xE;clear C a6 p d1 d2 o hS hm ha c9 b9 a7 g3 g6;obtain⟨EX,c7⟩:=Dv<|Fe X (Da X n F) f l S;rw[c7];have e0:=J c7;clear c7;obtain⟨i0,j4,k2,k3,k4⟩:=Bx Tryz.infoCell;have d5:=t.o.h.I hf;have j7:=t.o.h.bq f;rw[<-d5]at j7;generalize d[f].I.a=y at*;have i5:=J d5;clear d5;have E:=(CT Cb<|w.setCell (m,5)<|G A<|(S.u:zw)+1).alloc<|R' #[Y' y,G A d[f].I.pos,G A d[f].I.h,Y t1 t2 t3,Y V (L d[f].body) b3,G A d[f].br,Y v1 (L (CP X f).y) v3] 107;obtain⟨P,h9,e5,h6,h8,i8⟩:=QS (e6.o.t8 E) (e1.o.trans<|DU.wW E) (HP.o.t8 E) (Cx d8.o E Ed) (Cx d9.o E Ed)<|Cx e8.o E Ed;have a3:=W.new (w.setCell (m,5)<|G A<|(S.u:zw)+1) #[Y' y,G A d[f].I.pos,G A d[f].I.h,Y t1 t2 t3,Y V (L d[f].body) b3,G A d[f].br,Y v1 (L (CP X f).y) v3] 107;have g1:(w.setCell (m,5) (G A<|(S.u:zw)+1):M)=w:=by simp[World.setCell]
 rw[g1]at a3;have a3:=J a3;have i3:=J hL;have d0:w≠m:=by omega
 clear e6 e1 HP d8 d9 e8 E g1 hL;go_in;go_wp2;generalize World.alloc (World.setCell _ _ _) _=W0 at*;clear r0 r1 r5 fz k6 f0 f1 f2 f3 f4 f5 f6 lp lg lr j3 j8;generalize hN:L (CP X f).y=N at*;have u:=J hN;clear hN;go_loopw[9] (λi wr=>∃k:M,k<=N/\i=G A k/\D (DJ m q B n X {S with u:=S.u+1,c:=S.c.y f k} wr)/\D (W w #[Y' y,G A d[f].I.pos,G A d[f].I.h,Y t1 t2 t3,Y V (L d[f].body) b3,G A d[f].br,Y v1 N v3] 107 wr)/\D (DU m B W0 wr)) (λi _=>N-(zm i).toNat)
 .have e:S.c.y f 0=S.c:=by simp[Co.y]
  have R:DJ m q B n X {S with u:=S.u+1,c:=S.c.y f 0} W0:=by rw[e];exact⟨_,_,_,_,P.o⟩
  exact⟨0,by omega,Q,R,a3,DU.refl _ _ _⟩
 obtain⟨k,hk,rfl,⟨mv,k5,i9,k7,s⟩,H,b7⟩:=hrel;clear a3;by_cases a2:k<N
 .have d3:L (S.c.y f k).d=L S.c.d+k:=by simp[Co.y]
  have b8:=J (b7.o.row i8.o P.o.p (by decide)<|by decide);obtain⟨gv,rfl⟩:=CH b8.o (by omega);have cv:=b8.o.cellAt k (by omega);rw[AI,Ag<|by rw[u.o];exact a2]at cv;simp only[BA]at cv;have lv:=(b8.o.lt gv Q).2;have l9:((CP X f).y[k]'(by rw[u.o];exact a2)).size<=4000:=by have:=t.o.h.dh f k;unfold Xs at this;rw[Ag<|by rw[u.o];exact a2]at this;exact this
  have j2:D<|y++{data:=#[46]}++(CP X f).y[k]'(by rw[u.o];exact a2)=UI n X ⟨0,f,k⟩:=F7<|by rw[i5.o];unfold mU Xs;rw[Ag<|by rw[u.o];exact a2];simp
  generalize (CP X f).y[k]'(by rw[u.o];exact a2)=vt at*;obtain⟨g7,g8,rfl⟩:=CB s.d;have r1:=s.p.j1;have rz:=s.p.wV 1;have lr:=Cz s.p;obtain⟨b0,-,-,-,-,-,b6⟩:=H.o.k7;have lb:=Cz H.o;have d4:=J (CL s.d s.p<|by decide);have f7:=J s;have k9:B<=wr:=by have:=s.lb;omega
  have e4:=J s.d;have k0:=J<|TJ S.c f k;clear s b8;simp only[d3]at r1 e4 d4 f7;have l0:¬(9223372036854775807<y.size+1):=by omega
  have l1:¬(9223372036854775807<y.size+1+vt.size):=by omega
  have j5:=J d3;clear d3;go_wp2_with fail;go_region_law(refine C7 Q _ _ 55 Q B 183 i0 (N' cl0) 4 40 underlying55 j4 k2 k3 k4 Q (by decide) _ _ _ Q (e4.o.alloc _) wr 1 1 [Y'<|y++{data:=#[46]}++vt,G A 0,G A<|-1,G A 0] Q Q (C3 Q _ _) (rY _) (by decide) (by unfold E';omega) (by omega) (by simp;omega) ?_;intro v' w5 c2 c1 j6;have q1:w5 (m,1)=Y g7 (L S.c.d+k) g8:=(Ae<|c1.block m (by simp;omega) λh=>d4.o m h.symm Q).trans (by rw[<-r1];exact Ae<|Ao _ _ _ lr);have q2:w5.frozen? (m,1)=zr:=(Aj<|c1.block m (by simp;omega) λh=>d4.o m h.symm Q).trans (by rw[<-rz];exact Aj<|Ao _ _ _ lr);obtain⟨h0,h4,h3,rfl⟩:=CA c2);all_goals
   have f8:(wr.alloc<|R' #[Y'<|y++{data:=#[46]}++vt,G A 0,G A<|-1,G A 0] 183).drew.grownBy w5<|L'<|Y g7 (L S.c.d+k) g8:=c1;have o:=f7.o.push (cl:=⟨⟨0,f,k⟩,Hd⟩) (v':=Y h0 h4 h3) (((CT _ wr).alloc _).drew) f8 (by rw[j2.o]at c2;simp only[j5.o];exact c2);have e9:=o.2.p H.o d0 (by decide);have R5:DJ m q B n X {S with u:=S.u+1,c:=S.c.y f<|k+1}<|w5.setCell (m,1)<|Y h0 h4 h3:=by rw[<-k0.o];exact⟨_,_,_,_,o.1⟩
   obtain⟨i7,h7,i1⟩:=Dq R5 e9<|b7.o.trans o.2;clear o e9 R5 c2 c1 f8 j6 q1 q2;go_wp2_with fail;go_roundw;exact⟨k+1,by omega,by go_num,i7,h7,i1⟩;simp[intOf];omega
 .have e:k=N:=by omega
  subst e;have j1:=u.o;have g0:L (S.c.y f k).d=L S.c.d+k:=by simp[Co.y]
  have i4:=J g0;have e7:D<|DJ m q B n X {S with u:=S.u+1,c:=S.c.y f k} wr:=⟨mv,k5,i9,k7,s⟩;have b6:=H.o.j6;have lb:=Cz H.o;have c3:=J<|Uf HM.o f k;clear s g0 j1;go_wp2;clear b6 lb;go_loopw[10] (λi d7=>∃j:M,j<=L l/\i=G A j/\D (DJ m q B n X {S with u:=S.u+1,c:=Fw (l.take j) (L S.c.d)<|S.c.y f k} d7)/\D (W w #[Y' y,G A d[f].I.pos,G A d[f].I.h,Y t1 t2 t3,Y V (L d[f].body) b3,G A d[f].br,Y v1 k v3] 107 d7)/\D (DU m B W0 d7)) (λi _=>L l-(zm i).toNat);exact⟨0,by omega,Q,e7,H,b7⟩;obtain⟨j,hj,rfl,a8,a4,I⟩:=hrel;clear e7 H b7;obtain⟨gm,x⟩:=PR (l.take j) (L S.c.d) (S.c.y f k) c3.o.1.m λv hv=>(HA.o v<|List.mem_of_mem_take hv).more c3.o.1.lo;have c4:=gm.se;have h5:=c3.o.1.se;rw[i4.o]at x;have g4:L (l.take j)<=j:=by simp;omega
  by_cases f9:j<L l
  .have c5:=J (I.o.row h6.o P.o.p (by decide)<|by decide);obtain⟨ga,rfl⟩:=CH c5.o (by omega);have ca:=c5.o.cellAt j (by omega);unfold eU at ca;rw[AI,Ag f9]at ca;simp only[BA]at ca;have la:=(c5.o.lt ga Q).2;have g5:=HA.o l[j]<|Am _;have d6:=Qk (l.take j) l[j] (L S.c.d)<|S.c.y f k;have g2:L (l.take j)=j:=by simp;omega
   rw[<-AK f9,g2]at d6;have A2:Jf m q B U (Y g (L d) cf) sv d fs p0 c0 n X {S with u:=S.u+1,c:=Fw (l.take j) (L S.c.d)<|S.c.y f k} wr:=
    ⟨a8.o,DU.yH I.o ⟨_,_,_,_,P.o⟩ e5.o,t.o.h,gm.m,by simp only[x];omega,by simp only;omega⟩
   have a5:=A2.put (L S.c.d+j) l[j] (by simp only[x];omega) (by simp only[x];exact g5.more<|by omega);simp only at a5;rw[<-d6]at a5;have eI:((L S.c.d+j:M):zw)=(L S.c.d:zw)+(j:zw):=by omega
   rw[eI]at a5;have i6:=J a5;clear a5 A2 d6 gm x c4 h5 g4 g2 eI g5;generalize GT l[j]=z at*;go_wp2_with(go_at_call 78;apply i6.o.mono;rintro e w5 ⟨rfl,s1,s2⟩);go_round;exact⟨j+1,by omega,by go_num,J s1,J<|s2.p a4.o d0<|by decide,J<|I.o.trans s2⟩;simp[intOf];omega
  .have e2:j=L l:=by omega
   subst e2;rw[List.take_length]at a8 c4 x gm;obtain⟨xv,yv,xh,xs,a1⟩:=a8.o;obtain⟨w1,w2⟩:=a1.wrote (S':={S with u:=S.u+1,c:=Fw l (L S.c.d)<|S.c.y f k,xP:=Hd}) 8 (G A 0) Q a1.xS Q Q Q;have r8:=a1.p.z;have m4:=a1.p.wV 8;have lr:=Cz a1.p;have b4:=a4.o.z;have lb:=Cz a4.o;have b5:Fw l (L S.c.d) (S.c.y f k)=S.c.enter f (L (CP X f).y) l:=by rw[u.o];rfl
   obtain⟨r,hr⟩:=Dv<|Da X n F f (L S.c.d) (CP X f).i (CP X f).pl (CP X f).g {S with c:=S.c.enter f (L (CP X f).y) l,u:=S.u+1,xP:=Hd};have c8:=Ll F (X:=X) (fn:=n) f (L S.c.d) (CP X f).i (CP X f).pl (CP X f).g {S with c:=S.c.enter f (L (CP X f).y) l,u:=S.u+1,xP:=Hd};rw[hr]at c8;have c6:=λ(a9:I') (hW:DJ m q B n X {S with u:=S.u+1,c:=Fw l (L S.c.d)<|S.c.y f k,xP:=Hd} a9) (o:KO q B U (Y g (L d) cf) sv d fs p0 c0 a9) (hI:CY B a9 (Y V (L d[f].body) b3) d[f].body)=> i3.o m q B U _ sv d fs p0 c0 n g9 X f (L S.c.d) (CP X f).i d[f].body (Y V (L d[f].body) b3) (CP X f).pl (CP X f).g K {S with c:=S.c.enter f (L (CP X f).y) l,u:=S.u+1,xP:=Hd} a9 t.o (by rw[<-b5];exact hW) o (by rw[<-b5];exact⟨gm.m,by simp only[x];omega,by simp only;omega,LF _ _⟩) hK hl (by simp only;omega) (by simp only;omega) he hf (by rw[<-b5];simp only[x,u.o];omega) (t.o.x.us f) (t.o.x.pl f) (t.o.x.g f) (t.o.body f hf) hI<|t.o.cg f hf
   rw[hr]at c6;have hC:=c6 _ ⟨_,_,_,_,w1⟩ (DU.yH (I.o.trans w2) ⟨_,_,_,_,P.o⟩ e5.o) ((I.o.trans w2).row h8.o P.o.p (by decide)<|by decide);obtain⟨HC,k8,i2⟩:=Dq hC (w2.p a4.o d0<|by decide)<|I.o.trans w2;have j0:EX=(r.2.s==0,{r.2 with u:=r.2.u-1}):=by rw[<-e0.o];unfold Fe;rw[Ba<|by omega];simp only[hr]
   clear e0;subst j0;have e3:=J c8;clear hC c6 b5 hr c8 gm x c4 h5 g4 w1 w2 a1 a8 a4 I;go_wp2_with fail;apply HC.o.mono;rintro e w6 ⟨rfl,s1,s2⟩;obtain⟨m8,m9,m6,m7,a0⟩:=s1;have k1:=e3.o.1;simp only at k1;obtain⟨u1,u2⟩:=a0.wrote (S':={r.2 with u:=r.2.u-1}) 5 (G A<|(r.2.u:zw)-1) (by simp only[fO];rw[show((r.2.u-1:M):zw)=(r.2.u:zw)-1 by omega];rfl) a0.xS Q Q Q;obtain⟨-,-,-,-,-,r5,r6⟩:=a0.p.k7;have m2:=a0.p.wV;have m0:=Cz a0.p;have U1:=J u1;have U2:=J<|h9.o.trans<|i2.o.trans<|s2.trans u2;have l3:r.2.u<=100:=by omega
   have hE:((r.2.s:zw)==0)=(r.2.s==0):=VP _;have l4:1<=r.2.u:=by omega
   clear a0 u1 u2 s2 HC k1 e3;go_wp2;go_ret;exact⟨Q,⟨_,_,_,_,U1.o⟩,U2.o⟩
theorem Vu{fn:Cc}{X:FZ}:∀(F b a:M) (e:Dj) (d c:M) (S:RS),S.s=0->(Da X fn F b a e d c S).1=zr->(Da X fn F b a e d c S).2.s=0
 |0,_,_,_,_,_,_,_,h=>by cases h
 |F+1,b,a,[],d,c,S,f,_=>f
 |F+1,b,a,t::e,d,c,S,f,h=>by
  rw[Da]at h|-;split at h
  .cases h
  .rename_i g;rw[Ba g];simp only at h|-;split at h
   .cases h
   .rename_i i;rw[Ba i];refine Vu F b a e _ _ _ ?_ h;omega
def YK(a:M)(w:I'):M:=match w (a,3)with|some v=>(zm v).toNat|none=>0
theorem Ty(h:DJ B C R n0 o2 u3 P):YK B P=u3.left:=by have⟨b,c,a,d,h⟩:=h;have:=h.p.z 3;grind[fO,YK,intOf]
structure Sf(rb pb B:M)(U:Ce)(fv sv:H')(rf:Dd)(fs:C8)(p0 c0:M)(fn:Cc)(par:Cf)(X:FZ)(fi base K F:M)(S:RS)(w:I'):Prop where
 r:DJ rb pb B fn X S w
 p:KO pb B U fv sv rf fs p0 c0 w
 i:TV K fn S
 l:S.left<F
 yN:S.f+S.left<=5000
 dp:S.u<=40
 V:S.s=0
 ba:base+(CP X fi).y.length<=S.c.d
theorem YT(F)(hL:JU F)(k x B U fv sv I C p0 c0 d H X i j K n s p l S u R y a3 l1 l2 l3 c1 z c3 w)
 (hS:Se d H X I C)(hK:K<=150000)(o:Sf k x B U fv sv I C p0 c0 d H X i j K F S w)(hn:S.left<n)(d9:i<I)(hU:Vc d H (CP X i).y l)(b8:s+nL 1 l<=4000)(e0:p+nL 8 l<=4000)(hN:TO C i l u.body s p)(hI:CY B w (Y y l2 z) u.body)(d6:FG l<=4001):
 F' zy 158 #[Z' k,N'<|Dc u (Y R l1 c1) (Y y l2 z)<|Y a3 l3 c3,j] w λe w'=>e=(Hw (Da X d F i j l s p) n S).1/\DJ k x B d X (Hw (Da X d F i j l s p) n S).2 w'/\DU k B w w':=by
 have⟨V,hV⟩:=Dv<|Hw (Da X d F i j l s p) n S;rw[hV];cases CU hI;obtain⟨HV,HL,HS,HU,HN⟩:=Ix hV hL hS hU hN;obtain⟨e2,a9⟩:∃cs,W k cs 58 w:=by have⟨_,_,_,_,q⟩:=o.r;exact⟨_,q.p⟩
 have e7:=Cz a9;have b0:w≠k:=by omega
 have v:=(CT Cb w).alloc<|R' (Dc u (Y R l1 c1) (Y y u.body z)<|Y a3 l3 c3) 114;have HO:=J v;have b4:D<|Sf k x B U fv sv I C p0 c0 d H X i j K F S<|w.alloc<|R' (Dc u (Y R l1 c1) (Y y u.body z)<|Y a3 l3 c3) 114:=⟨o.r.t8 v,o.p.t8 v,o.i,o.l,o.yN,o.dp,o.V,o.ba⟩;obtain⟨b1,c5,c7,b3,b2⟩:=Ix (W.new w (Dc u (Y R l1 c1) (Y y u.body z)<|Y a3 l3 c3) 114) (Cx hI v Ed) (a9.j v id) (o.r.t8 v)<|o.p.t8 v;clear hV hL hS hU hN o hI v a9;unfold Dc at*;go_in;go_wp2;generalize w.alloc _=W0 at*;go_loopw[] (λwr=>∃(m:M) (a:RS),a.left<m/\D (Sf k x B U fv sv I C p0 c0 d H X i j K F a wr)/\D (Hw (Da X d F i j l s p) m a=V)/\D (W w #[u.e,u.p.a,u.p.pos,u.p.h,u.q.a,u.q.pos,u.q.h,u.wU,Y R l1 c1,u.t9,Y y u.body z,Y a3 l3 c3,u.br,u.xY,u.l] 114 wr)/\D (DU k B W0 wr)) (λwr=>YK k wr);exact⟨n,S,hn,b4,HV,b1,DU.refl _ _ _⟩;have⟨m,a,hm,f,a8,d0,d2⟩:=hrel;clear b4 HV b1;have d4:=J<|Ty f.o.r;obtain⟨m',rfl⟩:∃m',m=m'+1:=⟨m-1,by omega⟩;have b:=a8.o;rw[Hw]at b;simp only at b;go_wp2_with fail;apply(Pr k x B d X a wr f.o.r).mono;rintro e w1 ⟨rfl,g,h⟩;obtain⟨a4,a5,d5⟩:=Dq (h.p d0.o b0<|by decide) (d2.o.trans h)<|DU.yH h f.o.r f.o.p;cases hc:(Ii a.c.N).1 with
 |false=> rw[Bb hc]at b;subst b;have P:=J g;clear g h a8;go_wp2;go_ret;exact⟨Q,P.o,(DU.wW HO.o).trans a5.o⟩
 |true=>
  rw[Ba<|by rw[hc];decide]at b;have i0:=f.o.i;have a7:TV K d {a with c:={a.c with N:=(Ii a.c.N).2}}:=⟨i0.m,i0.R,i0.pl,i0.gv⟩;have b5:=Nh HS.o.x F K i j l s p {a with c:={a.c with N:=(Ii a.c.N).2}} a7 f.o.l f.o.ba HU.o b8;have b6:=Ll F (X:=X) (fn:=d) i j l s p {a with c:={a.c with N:=(Ii a.c.N).2}};have a6:=Vu (X:=X) (fn:=d) F i j l s p {a with c:={a.c with N:=(Ii a.c.N).2}} f.o.V;have hC:=HL.o k x B U fv sv I C p0 c0 d H X i j l u.body (Y y u.body z) s p K {a with c:={a.c with N:=(Ii a.c.N).2}} w1 HS.o g d5.o a7 hK f.o.l f.o.yN f.o.dp f.o.V d9 f.o.ba HU.o b8 e0 HN.o (a5.o.row c5.o c7.o (by decide)<|by decide) d6;generalize Da X d F i j l s p {a with c:={a.c with N:=(Ii a.c.N).2}}=r at b5 b6 a6 hC b;have⟨j1,j2,j3⟩:=b5;have⟨k1,k2⟩:=b6;simp only at j2 j3 k1 k2;have HC:=J hC;have e6:=f.o.yN;have d7:=f.o.dp;have e4:=f.o.ba;have e5:=f.o.l;have e1:=a4.o.z;have lb:=Cz a4.o;have c6:=J k1;have t:=J b;clear hC g h a8 i0 a7 k1 b;go_wp2_with fail;apply HC.o.mono;rintro e w2 ⟨rfl,g,h⟩;have d1:=J (h.p a4.o b0<|by decide);have a0:=J<|a5.o.trans h;cases hr:r.1 with
  |true=> have b:=t.o;rw[Bb hr]at b;subst b;have P:=J g;clear g h HC t;go_wp2;go_ret;exact⟨Q,P.o,(DU.wW HO.o).trans a0.o⟩
  |false=>
   have b:=t.o;rw[Ba<|by rw[hr];decide]at b;have e3:=J<|DU.yH a0.o b3.o b2.o;have P:=J g;have d8:=a6 hr;have t:=J b;clear g h HC b a6;go_wp2_with fail;apply(WM k x B d X r.2 w2 P.o (by omega)<|by omega).mono;rintro e w3 ⟨rfl,g,h⟩;by_cases E:r.2.left=0
   .have b:=t.o;rw[Bb E]at b;subst b;rw[Bb E]at g;have hd:zu (r.2.left≠0)=zr:=by simp[E]
    rw[hd];have R4:=J g;have F4:=J<|(DU.wW HO.o).trans<|a0.o.trans h;clear g h E hd t;go_wp2;go_ret;exact⟨Q,R4.o,F4.o⟩
   .have b:=t.o;rw[Ba E]at b;rw[Ba E]at g;have hd:zu (r.2.left≠0)=zt:=by simp[E]
    rw[hd];have N:r.2.one.left=r.2.left-1:=Q;have o2:r.2.one.f=r.2.f+1:=Q;have c9:D<|Sf k x B U fv sv I C p0 c0 d H X i j K F r.2.one w3:=⟨g,DU.yH (a0.o.trans h) b3.o b2.o,⟨j1.m,by have:=j1.R;rw[N];show L r.2.c.d+_<=_;omega,by have:=j1.pl;rw[N];show L r.2.c.x+r.2.c.xG+_<=_;omega,j1.gv⟩,by rw[N];omega,by rw[N,o2];omega,by show r.2.u<=40;rw[c6.o];exact d7,d8,by show j+_<=r.2.c.d;omega⟩;obtain⟨c8,b9,c4,d3⟩:=F8 b (h.p d1.o b0<|by decide) (a0.o.trans h)<|Ty g;have b7:r.2.one.left<m'/\r.2.one.left<a.left:=by rw[N];omega
    clear g h hd b t N o2;go_wp2_with fail;go_roundw;exact⟨m',r.2.one,b7.1,c9,c8,b9,c4⟩
    case measure=>rw[d3.o,d4.o];exact b7.2
theorem YO(F c x B U E R P C I z a N X f d K y s v r S u g h i n o p j k l w)
 (b:Sf c x B U E R P C I z a N X f d K F S w)(hk:v.e=0)(a6:u.e=1):
 F' zy 125 #[Z' c,N'<|Dc u (Y g n j) (Y h o k)<|Y i p l,d] w λe w'=>e=(Ec X a (Da X a F) F f d (.mk v r) y s S).1/\DJ c x B a X (Ec X a (Da X a F) F f d (.mk v r) y s S).2 w'/\DU c B w w':=by
 have⟨V,t⟩:=Dv<|Ec X a (Da X a F) F f d (.mk v r) y s S;rw[t];obtain⟨a4,H⟩:∃cs,W c cs 58 w:=by have⟨_,_,_,_,q⟩:=b.r;exact⟨_,q.p⟩
 have a9:=Cz H;have a8:w≠c:=by omega
 have m:=(CT Cb w).alloc<|R' (Dc u (Y g n j) (Y h o k)<|Y i p l) 114;have HO:=J m;have a0:D<|Sf c x B U E R P C I z a N X f d K F S<|w.alloc<|R' (Dc u (Y g n j) (Y h o k)<|Y i p l) 114:=⟨b.r.t8 m,b.p.t8 m,b.i,b.l,b.yN,b.dp,b.V,b.ba⟩;have a7:=J<|W.new w (Dc u (Y g n j) (Y h o k)<|Y i p l) 114;have a5:V=(zr,S):=by rw[<-t];unfold Ec;simp only[hk,BD]
 subst a5;clear t m H a4;unfold Dc at*;rw[a6]at*;rw[show((1:M):zw)=1 from Q]at*;go_in;go_wp2;go_ret;exact⟨Q,a0.o.r,DU.wW HO.o⟩
theorem WT(F)(hL:JU F)(g C B U N sv z r p0 I a y X b f K i h q v d S u m j n t l x o k p w)
 (hS:Se a y X z r)(hK:K<=150000)(c:Sf g C B U N sv z r p0 I a y X b f K F S w)(hk:v.e=12)(b2:u.e=13)(a8:b<z)(hU:Vc a y (CP X b).y d)(a9:i+nL 1 d<=4000)(b1:h+nL 8 d<=4000)(hN:TO r b d u.body i h)(hI:CY B w (Y j l k) u.body)(a7:FG d<=4001):
 F' zy 125 #[Z' g,N'<|Dc u (Y m t o) (Y j l k)<|Y n x p,f] w λe w'=>e=(Ec X a (Da X a F) F b f (.mk v [(q,d)]) i h S).1/\DJ g C B a X (Ec X a (Da X a F) F b f (.mk v [(q,d)]) i h S).2 w'/\DU g B w w':=by
 have⟨bl,a4⟩:=Dv<|[(q,d)];rw[a4];have⟨V,R⟩:=Dv<|Ec X a (Da X a F) F b f (.mk v bl) i h S;rw[R];obtain⟨a6,a5⟩:∃cs,W g cs 58 w:=by have⟨_,_,_,_,q⟩:=c.r;exact⟨_,q.p⟩
 have b4:=Cz a5;have b3:w≠g:=by omega
 have s:=(CT Cb w).alloc<|R' (Dc u (Y m t o) (Y j l k)<|Y n x p) 114;have HO:=J s;have H:D<|Sf g C B U N sv z r p0 I a y X b f K F S<|w.alloc<|R' (Dc u (Y m t o) (Y j l k)<|Y n x p) 114:=⟨c.r.t8 s,c.p.t8 s,c.i,c.l,c.yN,c.dp,c.V,c.ba⟩;have E:=J<|W.new w (Dc u (Y m t o) (Y j l k)<|Y n x p) 114;have a0:V=Hw (Da X a F b f d i h) F S:=by rw[<-R,<-a4];unfold Ec;simp only;rw[Ba<|by omega,Ba<|by omega,Bb hk];rfl
 have P:=YT F hL g C B U N sv z r p0 I a y X b f K F i h d S u m j n t l x o k p _ hS hK H.o H.o.l a8 hU a9 b1 hN (Cx hI s Ed) a7;rw[<-a0]at P;have HC:=J P;have b0:=E.o.z;have lb:=Cz E.o;clear R a0 s a5 a6 P hL hS hU hN hI c H E;unfold Dc at*;rw[b2]at*;rw[show((13:M):zw)=13 from Q]at*;go_in;go_wp2_with fail;apply HC.o.mono;rintro e w1 ⟨rfl,s1,s2⟩;have S1:=J s1;have S2:=J<|(DU.wW HO.o).trans s2;clear s1 s2 HC HO;go_wp2;go_ret;exact⟨Q,S1.o,S2.o⟩
theorem WR(F)(hL:JU F)(i m B U R sv p o p0 P b N X d k K n l v bl h r S u a1 s t l1 H I c1 x y w)
 (hS:Se b N X p o)(hK:K<=150000)(a:Sf i m B U R sv p o p0 P b N X d k K F S w)(hk:v.e=11)(c7:u.e=12)(b7:d<p)(h0:(bl[0]?.getD (0,[])).2=h)(h1:(bl[1]?.getD (0,[])).2=r)
 (hU:Vc b N (CP X d).y h)(b5:Vc b N (CP X d).y r)(d0:n+nL 1 h+nL 1 r<=4000)(d1:l+nL 8 h+nL 8 r<=4000)(hN:TO o d h u.body n l)(b4:TO o d r u.other (n+nL 1 h)<|l+nL 8 h)(hI:CY B w (Y s H x) u.body)(b3:CY B w (Y t I y) u.other)(c4:FG h<=4001)(c5:FG r<=4001):
 F' zy 125 #[Z' i,N'<|Dc u (Y a1 l1 c1) (Y s H x)<|Y t I y,k] w λe w'=>e=(Ec X b (Da X b F) F d k (.mk v bl) n l S).1/\DJ i m B b X (Ec X b (Da X b F) F d k (.mk v bl) n l S).2 w'/\DU i B w w':=by
 have⟨V,hV⟩:=Dv<|Ec X b (Da X b F) F d k (.mk v bl) n l S;rw[hV];obtain⟨c9,a8⟩:∃cs,W i cs 58 w:=by have⟨_,_,_,_,q⟩:=a.r;exact⟨_,q.p⟩
 have d3:=Cz a8;have c6:w≠i:=by omega
 have z:=(CT Cb w).alloc<|R' (Dc u (Y a1 l1 c1) (Y s H x)<|Y t I y) 114;have HO:=J z;have a6:D<|Sf i m B U R sv p o p0 P b N X d k K F S<|w.alloc<|R' (Dc u (Y a1 l1 c1) (Y s H x)<|Y t I y) 114:=⟨a.r.t8 z,a.p.t8 z,a.i,a.l,a.yN,a.dp,a.V,a.ba⟩;have a4:=J<|W.new w (Dc u (Y a1 l1 c1) (Y s H x)<|Y t I y) 114;have b6:V=if (Ii S.c.N).1 then Da X b F d k h n l {S with c:={S.c with N:=(Ii S.c.N).2}}else Da X b F d k r (n+nL 1 h) (l+nL 8 h) {S with c:={S.c with N:=(Ii S.c.N).2}}:=by rw[<-hV];unfold Ec;simp only;rw[Ba<|by omega,Bb hk,h0,h1]
 have i0:=a.i;have a7:TV K b {S with c:={S.c with N:=(Ii S.c.N).2}}:=⟨i0.m,i0.R,i0.pl,i0.gv⟩;obtain⟨HX,HL,a5,b8,b9,a9⟩:=QS (Pr i m B b X S _ a6.o.r) (λ(j:I') (f:DJ i m B b X {S with c:={S.c with N:=(Ii S.c.N).2}} j) (hP:KO m B U R sv p o p0 P j) (hr:CY B j (Y s H x) u.body)=>hL i m B U R sv p o p0 P b N X d k h u.body (Y s H x) n l K {S with c:={S.c with N:=(Ii S.c.N).2}} j hS f hP a7 hK a.l a.yN a.dp a.V b7 a.ba hU (by omega) (by omega) hN hr c4) (λ(j:I') (f:DJ i m B b X {S with c:={S.c with N:=(Ii S.c.N).2}} j) (hP:KO m B U R sv p o p0 P j) (hr:CY B j (Y t I y) u.other)=>hL i m B U R sv p o p0 P b N X d k r u.other (Y t I y) (n+nL 1 h) (l+nL 8 h) K {S with c:={S.c with N:=(Ii S.c.N).2}} j hS f hP a7 hK a.l a.yN a.dp a.V b7 a.ba b5 (by omega) (by omega) b4 hr c5) (Cx hI z Ed) (Cx b3 z Ed)<|a8.j z id;have b0:=a4.o.z;have lb:=Cz a4.o;have b1:=J b6;clear hV b6 z a8 hL hS hU b5 hN b4 hI b3 a i0 a7 h0 h1;unfold Dc at*;rw[c7]at*;rw[show((12:M):zw)=12 from Q]at*;go_in;go_wp2_with fail;apply HX.o.mono;rintro e j ⟨rfl,f,g⟩;have b2:=J (g.p a4.o c6<|by decide);have c8:=b2.o.z;have d2:=Cz b2.o;have a0:=DU.yH g a6.o.r a6.o.p;cases hc:(Ii S.c.N).1 with
 |true=> have E:=b1.o;rw[hc,Bb Q]at E;have C:=HL.o j f a0 (g.row b8.o a9.o (by decide)<|by decide);rw[<-E]at C;have HC:=J C;have S2:=J<|(DU.wW HO.o).trans g;clear C E f g HL a5 a0 HX;go_wp2_with fail;apply HC.o.mono;rintro e w2 ⟨rfl,f,g⟩;have R3:=J f;have F3:=J<|S2.o.trans g;clear f g;go_wp2;go_ret;exact⟨Q,R3.o,F3.o⟩
 |false=> have E:=b1.o;rw[hc,Ba<|by decide]at E;have C:=a5.o j f a0 (g.row b9.o a9.o (by decide)<|by decide);rw[<-E]at C;have HC:=J C;have S2:=J<|(DU.wW HO.o).trans g;clear C E f g HL a5 a0 HX;go_wp2_with fail;apply HC.o.mono;rintro e w2 ⟨rfl,f,g⟩;have R3:=J f;have F3:=J<|S2.o.trans g;clear f g;go_wp2;go_ret;exact⟨Q,R3.o,F3.o⟩
theorem UA(F c H B U R sv s x p0 P f a6 X d K pl ca v bl S u g h i n o p j k l w)
 (hS:Se f a6 X s x)(hK:K<=150000)(b:Sf c H B U R sv s x p0 P f a6 X u.l d K F S w)(hk:v.e=10)(b9:u.e=11)(b2:u.l<L s)(hq:u.q.a=v.sr.a)(hv:v.sr.a∈(CP X u.l).y):
 F' zy 125 #[Z' c,N'<|Dc u (Y g n j) (Y h o k)<|Y i p l,d] w λe w'=>e=(Ec X f (Da X f F) F u.l d (.mk v bl) pl ca S).1/\DJ c H B f X (Ec X f (Da X f F) F u.l d (.mk v bl) pl ca S).2 w'/\DU c B w w':=by
 have⟨m,E⟩:=Dv<|u.l;rw[E]at b b2 hv|-;have⟨V,hV⟩:=Dv<|Ec X f (Da X f F) F m d (.mk v bl) pl ca S;rw[hV];obtain⟨b7,b4⟩:∃cs,W c cs 58 w:=by have⟨_,_,_,_,q⟩:=b.r;exact⟨_,q.p⟩
 have d4:=Cz b4;have d3:w≠c:=by omega
 have a0:=(CT Cb w).alloc<|R' (Dc u (Y g n j) (Y h o k)<|Y i p l) 114;have HO:=J a0;have t:D<|Sf c H B U R sv s x p0 P f a6 X m d K F S<|w.alloc<|R' (Dc u (Y g n j) (Y h o k)<|Y i p l) 114:=⟨b.r.t8 a0,b.p.t8 a0,b.i,b.l,b.yN,b.dp,b.V,b.ba⟩;have a7:=J<|W.new w (Dc u (Y g n j) (Y h o k)<|Y i p l) 114;have b8:V=(zt,{S with xP:=(CM S.c.d<|d+vx (CP X m).y v.sr.a).v}):=by rw[<-hV];unfold Ec;simp only;rw[Ba<|by omega,Ba<|by omega,Ba<|by omega,Bb hk]
 subst b8;have⟨q1,q2⟩:=EF hv;have d1:=b.i.R;have d2:=b.i.pl;have d0:=b.ba;have c4:d+vx (CP X m).y v.sr.a<S.c.d:=by omega
 have a9:Jf c H B U R sv s x p0 P f X S<|w.alloc<|R' (Dc u (Y g n j) (Y h o k)<|Y i p l) 114:=⟨t.o.r,t.o.p,hS.h,b.i.m,by omega,by omega⟩;have⟨gm,cm,r1,c5,a5,b1⟩:=a9.holds (by omega);have cq:=(b1 _ c4).1;have a4:=λ(N:I') (hQ:O Cb (w.alloc<|R' (Dc u (Y g n j) (Y h o k)<|Y i p l) 114) N)=>KG c H B U R sv s x p0 P f X S u g h i n o p j k l d u.q N (t.o.r.t8 hQ) (t.o.p.t8 hQ) hS.h (by rw[E];exact b2) (by omega)<|by rw[hq,E];exact hv
 rw[hq,E]at a4;have b5:=J a4;have⟨xa,xb,xc,xd,C⟩:=t.o.r;have r8:=C.p.j8;have rz:=C.p.wV 8;have a8:=J λ(N:I') (hQ:O Cb (w.alloc<|R' (Dc u (Y g n j) (Y h o k)<|Y i p l) 114) N)=>(C.t8 hQ).wrote (S':={S with xP:=(CM S.c.d<|d+vx (CP X m).y v.sr.a).v}) 8 (GT (CM S.c.d<|d+vx (CP X m).y v.sr.a).v) Q C.xS Q Q Q;generalize GT (CM S.c.d<|d+vx (CP X m).y v.sr.a).v=z at cq a8;generalize d+vx (CP X m).y v.sr.a=zq at*;generalize GT S.xP=y at*;have b0:=a7.o.z;have lb:=Cz a7.o;clear hV a0 b4 b7 a4 C a9 b1 b hq E hv q1 q2 hS;unfold Dc at*;rw[b9]at*;rw[show((11:M):zw)=11 from Q]at*;generalize c9:L S.c.d=ML at*;go_in;go_wp2_with fail;generalize w.alloc _=W1 at*;go_region_law(go_simp;go_at_call 159;refine(b5.o _ ?_).mono ?_;exact oq;rintro e I ⟨rfl,b3⟩;have r:=J<|O.trans (X:=Cb) (a:=W1) oq b3;have c6:I (c,1)=Y gm ML cm:=(Ae<|r.o.block c a5 id).trans r1;have b6:I (gm,zq*4+1)=z:=(Ae<|r.o.block gm c5 id).trans cq;have c7:I (c,8)=y:=(Ae<|r.o.block c a5 id).trans r8;have c8:I.frozen? (c,8)=zr:=(Aj<|r.o.block c a5 id).trans rz;clear b3;dsimp only);all_goals
  have⟨f1,f2⟩:=a8.o I r.o;have F1:=J f1;have F2:=J<|(DU.wW HO.o).trans<|(DU.wW r.o).trans f2;clear f1 f2 c6 b6 c7 c8;go_wp2_with fail;go_ret;exact⟨Q,⟨_,_,_,_,F1.o⟩,F2.o⟩
theorem dV(F:M)(d r B:M)(U:Ce)(z H:H')(s:Dd)(t:C8)(E y:M)(h:Cc)(a8:Cf)(X:FZ)(f K:M)(S:RS)(u:FS)(i j k:Ch)(o p q l m n:M)(w:I')(V:Bool×RS)
 (C:Se h a8 X s t)(hK:K<=150000)(c:Sf d r B U z H s t E y h a8 X u.l f K F S w)(b1:u.e=3\/u.e=4\/u.e=5\/u.e=7\/u.e=10)(a6:u.l<s)(hp:u.p.a∈(CP X u.l).y)(hq:u.q.a∈(CP X u.l).y)
 (hT:∀b,Jf d r B U z H s t E y h X S b->F' zy 161 #[Z' d,N'<|Dc u (Y i o l) (Y j p m)<|Y k q n,((f+vx (CP X u.l).y u.p.a:M):zw),((f+vx (CP X u.l).y u.q.a:M):zw)] b λe v=>e=V.1/\DJ d r B h X V.2 v/\DU d B b v):
 F' zy 125 #[Z' d,N'<|Dc u (Y i o l) (Y j p m)<|Y k q n,f] w λe v=>e=V.1/\DJ d r B h X V.2 v/\DU d B w v:=by
 have a5:=(CT Cb w).alloc<|R' (Dc u (Y i o l) (Y j p m)<|Y k q n) 114;have P:=J a5;have x:=J<|W.new w (Dc u (Y i o l) (Y j p m)<|Y k q n) 114;have b3:=c.i.R;have b4:=c.i.pl;have b2:=c.ba;obtain⟨a4,a9,HT⟩:=Dq (λ(b:I') (g:O Cb w b)=>KG d r B U z H s t E y h X S u i j k o p q l m n f u.p b (c.r.t8 g) (c.p.t8 g) C.h a6 (by omega) hp) (λ(b:I') (g:O Cb w b)=>KG d r B U z H s t E y h X S u i j k o p q l m n f u.q b (c.r.t8 g) (c.p.t8 g) C.h a6 (by omega) hq) λ(b:I') (g:O Cb w b)=>hT b ⟨c.r.t8 g,c.p.t8 g,C.h,c.i.m,by omega,by omega⟩;generalize f+vx (CP X u.l).y u.p.a=zp at*;generalize f+vx (CP X u.l).y u.q.a=zq at*;have k1:=Ka u.e 1 (by omega);have k2:=Ka u.e 2 (by omega);have k6:=Ka u.e 6 (by omega);have k8:=Ka u.e 8 (by omega);have k9:=Ka u.e 9 (by omega);have b5:=Ka u.e 11 (by omega);have b6:=Ka u.e 12 (by omega);have b7:=Ka u.e 13 (by omega);have b0:=x.o.z;have lb:=Cz x.o;clear a5 hT c C b1 hp hq;unfold Dc at*;go_in;go_wp2_with fail;apply(a4.o _ P.o).mono;rintro e w1 ⟨rfl,R⟩;have O1:=J<|P.o.trans R;have I:=J<|W.j x.o R id;have d0:=I.o.z;have ld:=Cz I.o;clear R a4 P b0 lb x;go_wp2_with fail;go_region_law(first
  |(go_simp;go_at_call 159;refine(a9.o _ ?_).mono ?_;exact O.trans (X:=Cb) O1.o oq;rintro e w8 ⟨rfl,a7⟩;have a0:=J<|O.trans (X:=Cb) (a:=w1) oq a7;have o8:=J<|O1.o.trans a0.o;have N:=J<|W.j I.o a0.o id;have e0:=N.o.z;have l8:=Cz N.o;clear a7 a0 N;dsimp only)
  |(go_simp;go_at_call 161;refine(HT.o _ ?_).mono ?_;exact O.trans (X:=Cb) o8.o oq;rintro e w9 ⟨rfl,v1,v2⟩;dsimp only))
 all_goals
  have V1:=J v1;have V2:=J<|(DU.wW o8.o).trans v2;clear v1 v2;go_wp2_with fail;go_ret;exact⟨Q,V1.o,V2.o⟩
def Co.xW(c:Co)(p k:M):Co:={c with d:=c.d++(List.range k).map λi=>⟨⟨1,p,i⟩,Hd⟩}
theorem Vz(c:Co)(p k:M):L (c.xW p k).d=c.d+k:=by simp[Co.xW]
theorem SX(c:Co)(p k:M):{(c.xW p k)with d:=(c.xW p k).d++[⟨⟨1,p,k⟩,Hd⟩]}=c.xW p (k+1):=by grind[Co.xW,List.range_succ]
def bP(n:M):Cd:=⟨(Lib.decDigits n).toArray⟩
theorem sV(n:M)(h:n<=4000)(w:I'):F' zy 22 #[n] w λe a=>e=(bP n)/\∃m,a=w.drewN m:=Jx n (by omega) w
theorem nY(s:Cd)(n k:M):∀u∈[Y' s,G A 0,n,k],u.oneCell'=zt:=by intro x a;simp only[AY,AE,or_false]at a;rcases a with rfl|rfl|rfl|rfl<;>rfl
theorem dU(F a g B)(U:Ce)(fv sv E N p0 c0 b e1 X j K S u p r s y z C t v x w)
 (hS:Se b e1 X E N)(hK:K<=150000)(f:Sf a g B U fv sv E N p0 c0 b e1 X u.l j K F S w)(g9:u.e=2)(g1:u.l<L E)(hp:u.p.a∈(CP X u.l).y)(g6:u.t9<=4000):
 F' zy 125 #[Z' a,N'<|Dc u (Y p y t) (Y r z v)<|Y s C x,j] w λe w'=>e=O' zr/\DJ a g B b X {S with c:=(S.c.xK u.t9).set (j+vx (CP X u.l).y u.p.a) ⟨2,S.c.d⟩} w'/\DU a B w w':=by
 have d7:=(CT Cb w).alloc<|R' (Dc u (Y p y t) (Y r z v)<|Y s C x) 114;have HO:=J d7;have I:=J<|W.new w (Dc u (Y p y t) (Y r z v)<|Y s C x) 114;have i5:=f.i.R;have i6:=f.i.pl;have h9:=f.ba;have⟨z1,z2⟩:=EF hp;have d2:=J λ(l:I') (P:O Cb w l)=>KG a g B U fv sv E N p0 c0 b X S u p r s y z C t v x j u.p l (f.r.t8 P) (f.p.t8 P) hS.h g1 (by omega) hp;have c5:=SM f.i.m g6;have g2:L (S.c.xK u.t9).d=S.c.d+4:=by simp[Co.xK]
 have g8:=c5.se;have a9:=λ(l:I') (hR:DJ a g B b X {S with c:=S.c.xK u.t9} l) (P:DU a B w l)=>NH a g B U fv sv E N p0 c0 b X {S with c:=S.c.xK u.t9} (j+vx (CP X u.l).y u.p.a) ⟨2,S.c.d⟩ l hR (DU.yH P f.r f.p) hS.h c5.m (by simp only;omega) (zn<|zn ⟨Q,by simp only;omega⟩) (by simp only;omega)<|by simp only;omega
 have e0:GT ⟨2,S.c.d⟩=(L S.c.d:zw)+1:=by simp[GT]
 rw[e0]at a9;have d5:=J a9;have d6:=J f.r;have g7:w≠a:=by have⟨_,_,_,_,q⟩:=f.r;have:=Cz q.p;omega
 have⟨V,c4⟩:=Dv<|{S with c:=(S.c.xK u.t9).set (j+vx (CP X u.l).y u.p.a) ⟨2,S.c.d⟩};have f1:=J c4;rw[c4];generalize j+vx (CP X u.l).y u.p.a=zp at*;have⟨i0,g3,h2,h3,h4⟩:=Bx Tryz.infoCell;have i4:L S.c.d<=150000:=by omega
 have⟨b0,b1,b2,b3,b4,b5,b6,b7,b8,b9,f2,f3,f4,f5,f6⟩:=I.o.k15;have lb:=Cz I.o;clear d7 a9 f hS hp c4 e0 z2 c5 g2 g8;unfold Dc at*;rw[g9]at*;rw[show((2:M):zw)=2 from Q]at*;go_enter func125,ntmps125;go_wp2_with fail;apply(d2.o _ HO.o).mono;rintro e w1 ⟨rfl,c8⟩;have O1:=J<|HO.o.trans c8;have H:=J<|W.j I.o c8 id;have R1:=J<|d6.o.t8 O1.o;have d0:=H.o.z;have ld:=Cz H.o;have⟨mv,nv,ch,i7,a0⟩:=R1.o;obtain⟨m1,m3,rfl⟩:=CB a0.d;have r1:=a0.p.j1;have lr:=Cz a0.p;clear a0 c8 d2 HO b0 b1 b2 b3 b4 b5 b6 b7 b8 b9 f2 f3 f4 f5 f6 lb I d6;go_wp2;clear r1 d0 ld lr;go_loopw[10] (λi wr=>∃k:M,k<=4/\i=G A k/\D (DJ a g B b X {S with c:=S.c.xW u.t9 k} wr)/\D (W w #[G A 2,u.p.a,u.p.pos,u.p.h,u.q.a,u.q.pos,u.q.h,u.wU,Y p y t,u.t9,Y r z v,Y s C x,u.br,u.xY,u.l] 114 wr)/\D (DU a B w1 wr)) (λi _=>4-(zm i).toNat);have e:S.c.xW u.t9 0=S.c:=by simp[Co.xW]
 have R:DJ a g B b X {S with c:=S.c.xW u.t9 0} w1:=by rw[e];exact R1.o
 exact⟨0,by omega,Q,R,H,DU.refl _ _ _⟩;obtain⟨k,hk,rfl,⟨mv,h5,f7,h6,d⟩,a7,a8⟩:=hrel;clear H;by_cases i3:k<4
 .have c6:=Vz S.c u.t9 k;have f8:D<|bP u.t9++{data:=#[46]}++bP k=UI b X ⟨1,u.t9,k⟩:=F7 (by unfold mU bP;simp);have s1:(bP u.t9).size<=4001:=by have:=Ho u.t9;simp only[bP,ByteArray.size,BW];omega
  have s2:(bP k).size<=5:=by have:=Ho k;simp only[bP,ByteArray.size,BW];omega
  generalize u.t9=m at*;have k4:k<=4000:=by omega
  obtain⟨c9,d1,rfl⟩:=CB d.d;have r1:=d.p.j1;have rz:=d.p.wV 1;have lr:=Cz d.p;have b9:=a7.o.j9;have lb:=Cz a7.o;have c7:=J (CL d.d d.p<|by decide);have d8:=J d;have h8:B<=wr:=by have:=d.lb;omega
  have d4:=J d.d;have h0:=J<|SX S.c m k;clear d;simp only[c6]at r1 d4 c7 d8;have i1:¬(9223372036854775807<(bP m).size+1):=by omega
  have i2:¬(9223372036854775807<(bP m).size+1+(bP k)):=by omega
  have g4:=J c6;clear c6;have a4:∀(n:M) (o:Obj),O Cb wr<|(wr.drewN n).alloc o:=λn o=>O.alloc (O.drewN oq n) o
  have f9:∀(n:M) (o:Obj),((wr.drewN n).alloc o) (a,1)=Y c9 (S.c.d+k) d1:=λn o=>(Ae<|(a4 n o).block a lr id).trans r1
  have g0:∀(n:M) (o:Obj),((wr.drewN n).alloc o).frozen? (a,1)=zr:=λn o=>(Aj<|(a4 n o).block a lr id).trans rz
  have h7:=J a4;clear a4;go_wp2_with fail;go_region_law(first
   |(go_simp;go_at_call 22;apply(sV _ (by assumption) _).mono;rintro e w7 ⟨rfl,m7,h1⟩;cases h1.symm;dsimp only)
   |(refine C7 Q _ _ 55 Q B 183 i0 (N' cl0) 4 40 underlying55 g3 h2 h3 h4 Q (by decide) _ _ _ Q (Cx d4.o oq Ed) wr 1 1 [Y'<|bP m++{data:=#[46]}++bP k,G A 0,S.c.d,k] Q Q (C3 (by simp) _ _) (nY _ _ _) (by decide) (by unfold E';omega) (by omega) (by simp;omega) ?_;intro v' w5 a6 a5 g5;have q1:w5 (a,1)=Y c9 (S.c.d+k) d1:=(Ae<|a5.block a (by simp;omega) λh=>c7.o a h.symm Q).trans<|f9 _ _;have q2:w5.frozen? (a,1)=zr:=(Aj<|a5.block a (by simp;omega) λh=>c7.o a h.symm Q).trans<|g0 _ _;obtain⟨e2,e5,e3,rfl⟩:=CA a6))
  all_goals
   have d9:World.grownBy _ w5<|L'<|Y c9 (S.c.d+k) d1:=a5;have hP:=(λ(o:O Cb wr _)=>d8.o.push (cl:=⟨⟨1,m,k⟩,Hd⟩) (v':=Y e2 e5 e3) o d9<|by rw[f8.o]at a6;simp only[g4.o,fJ,GT,oF,wJ,Hd,BD];rw[show((S.c.d+k:M):zw)-(k:zw)=(L S.c.d:zw) by omega];exact a6) oq;have R5:DJ a g B b X {S with c:=S.c.xW m<|k+1}<|w5.setCell (a,1)<|Y e2 e5 e3:=by rw[<-h0.o];exact⟨_,_,_,_,hP.1⟩
   have e9:=J R5;have d3:=J hP.2;clear hP R5 a6 a5 d9 g5 q1 q2;have e6:=J (d3.o.p a7.o g7<|by decide);have e8:=J<|a8.o.trans d3.o;go_wp2_with fail;go_roundw;exact⟨k+1,by omega,by go_num,e9,e6,e8⟩;simp[intOf];omega
 .have e4:k=4:=by omega
  have f0:D<|DJ a g B b X {S with c:=S.c.xK u.t9} wr:=by have:DJ a g B b X {S with c:=S.c.xW u.t9 k} wr:=⟨mv,h5,f7,h6,d⟩;rw[e4]at this;exact this
  have HC:=J<|d5.o wr f0.o<|(DU.wW O1.o).trans a8.o;have e7:=J<|(DU.wW O1.o).trans a8.o;clear d d5;go_wp2_with fail;apply HC.o.mono;rintro e w9 ⟨rfl,v1,v2⟩;have V1:=J v1;have V2:=J<|e7.o.trans v2;clear v1 v2 HC;go_wp2;go_ret;exact⟨Q,by rw[<-f1.o];exact V1.o,V2.o⟩
theorem Jy{j:Ci}(h:J' P B q0 R V v0 y1)(b:J' P C n8 X z0 p0 j)(c:q0≠n8):∀k,L' V=T k->¬L' z0=T k:=by
 intro k f a;rcases b.2 with⟨i,_⟩|⟨o,l,m,g,_,d,_⟩
 rw[i]at a;simp[L']at a;rw[g]at a;simp[L']at a;subst a;exact CL h d (λq=>c q.symm) _ f Q
theorem ES(h:J' P B q0 C V R y1){k:M}(a:L' V=k):B<=k/\∃b c,P.heap[k]? =T (R' b q0 c):=by
 refine⟨(h.lt k a).1,?_⟩;rcases h.2 with⟨g,_⟩|⟨l,i,j,f,_,d,_⟩
 rw[g]at a;simp[L']at a;rw[f]at a;simp[L']at a;subst a;exact⟨_,_,d⟩
theorem Fs.push{v' cl}(h:Fs B C R X V v0 p0 o1 u2 z0 s0 u0 P)(p:O Cb P y0)(r:y0.grownBy v1<|L' z0)(g:J' v1 X 233 5 v' (L u2.c.d+1)<|fI u2.c.d++XS cl):
 Fs B C R X V v0 p0 o1 {u2 with c:={u2.c with d:=u2.c.d++[cl]}} v' s0 u0 (v1.setCell (B,5) v')/\E8 B C R X P (v1.setCell (B,5) v'):=by
 have a:O (λk=>L' z0=T k) P v1:=O.xA (p.mono λ_ _ q=>q.elim) r λj t=>zo t;have hF:E8 B C R X P v1:=a.mono (λk _ q=>by have⟨o,l,n,s⟩:=ES h.d q;exact zn<|zn<|zn ⟨o,l,_,n,s,zo Q⟩)
 have d:O (λk=>k=B) v1<|v1.setCell (B,5) v':=(CT _ _).wS 5 _;have b:W B (tO V v0 p0 o1 u0 z0 s0 u2.s C R) 179 v1:=h.p.j a λq=>CL h.d h.p (by decide) B q Q;have f:=Cx h.U a (Jy h.U h.d<|by decide);have i:=h.x.j a λq=>JO h.d h.x _ q Q;have e:=h.xG.j a λq=>JO h.d h.xG _ q Q;refine⟨⟨b.set 5 _,h.xS,?_,Cx f d<|CL f b<|by decide,i.j d<|i.ne b,e.j d<|e.ne b,h.lb,h.ne⟩,hF.trans<|d.mono λ_ _ q=>zo q⟩;show J' (v1.setCell (B,5) v') X _ 5 v' (u2.c.d++[cl])<|fI<|u2.c.d++[cl];rw[gP,Ah];exact Cx g d<|CL g b<|by decide
theorem FH.other{j n e B l o d b f m s t w p}(h:FH j n e B f l o d m w)(a:W b s t w)(u:t≠179)(g:t≠233)(i:t≠225)(c:O (λk=>k=b) w p):FH j n e B f l o d m p:=by have⟨x,y,r,h⟩:=h;have v:=h.yT (B':=B) a u g i;exact⟨x,y,r,⟨h.p.j c λq=>v<|zo q.symm,h.xS,Cx h.d c<|CL h.d a g,Cx h.U c<|CL h.U a i,h.x.j c<|h.x.ne a,h.xG.j c<|h.xG.ne a,h.lb,h.ne⟩⟩
theorem E8.fresh{a}(h:E8 B C R X a P)(k:O (λk=>k=v0) P y0)(f:a<=v0):E8 B C R X a y0:=by refine⟨k.os.trans h.os,k.tape.trans h.tape,k.output.trans h.output,As h.size k.size,λi d e=>?_⟩;rw[k.block i (Av d h.size) λq=>by omega,h.block i d e]
abbrev vS:Cg:=#[G A 0,G A 0,G A 0,G A 0,G A 0]
theorem Tryz.infoCe:(Tryz.prog.info? 233).map (λi=>(i.zero,i.size,i.bytes))=T (T<|N' vS,5,40):=by kernel_rfl
theorem gQ(c):∀u∈XS c,u.oneCell'=zt:=by intro x a;simp only[XS,AY,AE,or_false]at a;rcases a with rfl|rfl|rfl|rfl|rfl<;>rfl
theorem Wh(a g f B:M)(l:H')(n p j:M)(m:Mc)(d:M)(w:I')(h:FH a g f B l n p j m w)(b9:L m.c.d<=200000):
 F' zy 113 #[Z' a,d] w λe w'=>e=N' #[G A 2,m.c.d]/\FH a g f B l n p j {m with c:=m.c.xK d} w'/\E8 a g f B w w':=by
 have⟨i0,a8,b4,b5,b6⟩:=Bx Tryz.infoCe;have I:=h;have⟨mv,rv,P,s⟩:=h;obtain⟨m1,m3,rfl⟩:=CB s.d;have x:=s.p.j5;have u:=Cz s.p;clear s;go_in;go_wp2;clear x u;have N:=(CT Cb w).alloc<|R' #[G A 0,G A 0] 231;have H:=W.new w #[G A 0,G A 0] 231;generalize w.alloc _=W0 at*;go_loopw[12] (λi wr=>∃k:M,k<=4/\i=G A k/\FH a g f B l n p j {m with c:=m.c.xW d k} wr/\W w #[G A 0,G A 0] 231 wr/\E8 a g f B w wr) (λi _=>4-(zm i).toNat);have e:m.c.xW d 0=m.c:=by simp[Co.xW]
 have R:FH a g f B l n p j {m with c:=m.c.xW d 0} W0:=by rw[e];exact I.t8 N
 exact⟨0,by omega,Q,R,H,E8.wW N⟩;obtain⟨k,hk,rfl,⟨mv,rv,P,b⟩,q,S⟩:=hrel;clear I H;by_cases b8:k<4
 .have C:=Vz m.c d k;obtain⟨V,X,rfl⟩:=CB b.d;have x:=b.p.j5;have rz:=b.p.wV 5;have u:=Cz b.p;have E:=J (CL b.d b.p<|by decide);have b7:B<=wr:=by have:=b.lb;omega
  have K:=J b.d;have b3:=J<|SX m.c d k;simp only[C]at x K E b;have a9:=J C;clear C;go_wp2_with(at_builtin;refine Dp _ Q _ _ 176 Q B 233 i0 (N' vS) 5 40 underlying176 a8 b4 b5 b6 Q (by decide) _ _ _ Q (K.alloc _) wr 1 1 (XS ⟨⟨1,d,k⟩,Hd⟩) Q Q (C3 Q _ _) (gQ _) (by decide) (by unfold E';omega) (by omega) (by simp;omega) ?_;intro v' y F t b2;have q1:y (a,5)=Y V (m.c.d+k) X:=(Ae<|t.block a (by simp;omega) λh=>E.o a h.symm Q).trans (by rw[<-x];exact Ae<|Ao _ _ _ u);have q2:y.frozen? (a,5)=zr:=(Aj<|t.block a (by simp;omega) λh=>E.o a h.symm Q).trans (by rw[<-rz];exact Aj<|Ao _ _ _ u);obtain⟨a0,a2,a1,rfl⟩:=CA F)
  .have U:World.grownBy _ y<|L'<|Y V (m.c.d+k) X:=t;have r:=(λ(o:O Cb wr _)=>b.push (cl:=⟨⟨1,d,k⟩,Hd⟩) (v':=Y a0 a2 a1) o U<|by simp only[a9.o];exact F) oq;have R5:FH a g f B l n p j {m with c:=m.c.xW d<|k+1}<|y.setCell (a,5)<|Y a0 a2 a1:=by rw[<-b3.o];exact⟨_,_,_,r.1⟩
   have a5:=S.trans r.2;have a3:=r.2.p ⟨_,_,_,b⟩ q (by decide) (by decide) (by decide);clear r F t U b2 q1 q2;go_roundw;exact⟨k+1,by omega,by go_num,R5,a3,a5⟩;simp[intOf];omega
 .have e4:k=4:=by omega
  have a7:FH a g f B l n p j {m with c:=m.c.xK d} wr:=by have:FH a g f B l n p j {m with c:=m.c.xW d k} wr:=⟨mv,rv,P,b⟩;rw[e4]at this;exact this
  have⟨b0,b1⟩:=q.k2;have bz:=q.wV;have lb:=Cz q;have z:=((CT (λk=>k=(w:M)) wr).wS 0<|G A 2).wS 1 m.c.d;have a6:=a7.other q (by decide) (by decide) (by decide) z;have a4:=S.fresh z<|Ad _;clear b z;go_wp2_with fail;refine Ak (v:=N' #[G A 2,m.c.d]) (by simp[zz,results113,go_sem,b0,b1]) Q ⟨Q,a6,a4⟩
def NS(s:DX)(a:H'):Ci:=[G A s.e,s.w,s.n,s.wU,s.t,a,s.q,s.xI]
def Zs(B:M)(w:I')(c:Ci)(s:DX):Prop:=∃a,c=NS s a/\CY B w a s.k
def DD(B:M)(w:I')(b:H')(l:List DX):Prop:=∃a:List<|Ci,J' w B 206 8 b l a.flatten/\L a=l/\∀i (h:i<L a) (c:i<L l),Zs B w a[i] l[i]
def Rk(f:nD)(b a:H'):Ci:=[Y' f.I,b,f.m,a]
def NY(B:M)(w:I')(c:Ci)(f:nD):Prop:=∃b a,c=Rk f b a/\CK B w b f.y/\DD B w a f.f
def Ds(B:M)(w:I')(b:H')(P:CQ):Prop:=∃a:List<|Ci,J' w B 153 4 b P a.flatten/\L a=P/\∀i (h:i<L a) (c:i<L P),NY B w a[i] P[i]
def TT(X:Ce)(w:I'):Prop:=∀k a t b,X k->w.heap[k]? =T (R' a t b)->t≠3/\t≠9/\t≠206/\t≠153
theorem DD.j{w w' sv}{X:Ce}(h:DD B w sv p9)(d:O X w w')(f:TT X w):DD B w' sv p9:=by have⟨a,p,n,o⟩:=h;refine⟨a,CD p d λk a b c q=>(f k a _ b c q).2.2.1 Q,n,λi h j=>?_⟩;have⟨g,e,m⟩:=o i h j;exact⟨g,e,CD m d λk a b c q=>(f k a _ b c q).1 Q⟩
theorem Ds.j{w w'}{X:Ce}(h:Ds B w V U)(d:O X w w')(f:TT X w):Ds B w' V U:=by have⟨a,m,j,l⟩:=h;refine⟨a,CD m d λk a b c q=>(f k a _ b c q).2.2.2 Q,j,λi h g=>?_⟩;have⟨p,sv,e,o,n⟩:=l i h g;exact⟨p,sv,e,CD o d λk a b c q=>(f k a _ b c q).2.1 Q,n.j d f⟩
theorem Ds.t8(h:Ds B P V U)(a:O Cb P y0):Ds B y0 V U:=h.j a λ_ _ _ _ q=>q.elim
theorem E8.yW(d:E8 B C R X P y0)(h:FH B C R X V p0 o1 s2 u2 P)(f:Ds v0 P z0 U):Ds v0 y0 z0 U:=by
 have⟨n,o,g,h⟩:=h;refine f.j d λk i t j q e=>?_;have l:t=179\/t=233\/t=225:=by by_cases a:t=179;exact zo a;by_cases b:t=233;grind;by_cases c:t=225;grind;exact Bm q<|h.yT e a b c
 grind
theorem Ds.get(h:Ds B P (Y (T ⟨C,0,Z⟩) R X) U){i}(s:i<L U):
 ∃b a,(∀j,j<4->K' P ⟨C,i*4+j,Z⟩=(Rk U[i] b a)[j]?)/\CK B P b U[i].y/\DD B P a U[i].f:=by
 have⟨f,n,u,m⟩:=h;cases CU n;have k:i<f:=by omega
 have q:∀x,x∈f->L x=4:=by intro x t;obtain⟨j,d,rfl⟩:=AC.1 t;have⟨_,_,e,_⟩:=m j d (by omega);rw[e];rfl
 have⟨b,a,e,o,p⟩:=m i k s;refine⟨b,a,λj d=>?_,o,p⟩;have r:=n.cellAt (i*4+j) (by omega);rw[r,EO q k d,e]
theorem DD.get(h:DD B P (Y (T ⟨C,0,Z⟩) R X) p9){i}(q:i<L p9):
 ∃a,(∀j,j<8->K' P ⟨C,i*8+j,Z⟩=(NS p9[i] a)[j]?)/\CY B P a p9[i].k:=by
 have⟨d,m,s,k⟩:=h;cases CU m;have f:i<d:=by omega
 have o:∀x,x∈d->L x=8:=by intro x r;obtain⟨j,b,rfl⟩:=AC.1 r;have⟨_,e,_⟩:=k j b (by omega);rw[e];rfl
 have⟨a,e,n⟩:=k i f q;refine⟨a,λj b=>?_,n⟩;have p:=m.cellAt (i*8+j) (by omega);rw[p,EO o f b,e]
theorem DD.form(h:DD B P V p9):∃a c,V=Y a p9 c/\(0<L p9->∃g,a=T ⟨g,0,Z⟩/\g<P.heap.size):=by have⟨e,b,_⟩:=h;obtain⟨a,c,rfl⟩:=CB b;refine⟨a,c,Q,λd=>?_⟩;obtain⟨g,rfl⟩:=CH b d;exact⟨g,Q,(b.lt g Q).2⟩
theorem Ds.form(h:Ds B P V U)(d:0<L U):∃g c,V=Y (T ⟨g,0,Z⟩) (L U) c/\g<P.heap.size:=by have⟨e,b,_⟩:=h;obtain⟨a,c,rfl⟩:=CB b;obtain⟨g,rfl⟩:=CH b d;exact⟨g,c,Q,(b.lt g Q).2⟩
structure uC(P:CQ)(f:nD)(s:DX):Prop where
 e:s.e<=12
 tg:s.e≠0->s.e≠10->s.e≠11->s.e≠12->s.w<f.y
 sr:s.e=2\/s.e=3\/s.e=5\/s.e=6\/s.e=8\/s.e=9\/s.e=10->s.n<f.y
 func:s.e=4\/s.e=7->s.n<P
 many:s.e=7->(CO P s.n).m=s.k
 k:∀a,a∈s.k->a<f.y.length
 xE:s.k.length<=4000
 wU:s.wU<=3
 t:s.t<=4000
 q:s.q<=f.f
 xI:s.xI<=f.f
 t5:s.w<=5000
 s5:s.n<=5000
structure Jd(P:CQ):Prop where
 xE:P.length<=4001
 y:∀i,(CO P i).y.length<=12
 yB:∀i,(CO P i).m<=(CO P i).y
 many:∀i,(CO P i).f.length<=4001
 ok:∀i,i<P.length->∀s,s∈(CO P i).f->uC P (CO P i) s
structure mY(P:CQ)(n:M)(f:NU):Prop where
 fn:f.fn<P
 wX:f.wX+(CO P f.fn).y<=n
 q:f.q<=(CO P f.fn).f
def Kb(n:M):List NU->Prop
 |[]=>True
 |[_]=>True
 |f::g::r=>f.answer<n/\Kb n (g::r)
theorem Kb.more(a:B<=C):∀{l:List NU},Kb B l->Kb C l
 |[],_=>trivial
 |[_],_=>trivial
 |_::_::_,h=>⟨Av h.1 a,Kb.more a h.2⟩
theorem Kb.tail{f:NU}:∀{l:List NU},Kb B (f::l)->Kb B l
 |[],_=>trivial
 |_::_,h=>h.2
theorem Kb.head{f f':NU}(e:f'.answer=f.answer):∀{l:List NU},Kb B (f::l)->Kb B (f'::l)
 |[],_=>trivial
 |_::_,h=>⟨by rw[e];exact h.1,h.2⟩
theorem mY.more(h:mY U B x9)(a:B<=C):mY U C x9:=⟨h.fn,As h.wX a,h.q⟩
structure EA(P:CQ)(n:M)(m:Mc):Prop where
 d:EI P m.c.d
 yJ:Ib m.c.d
 R:m.c.d+14*n<=140000
 pl:m.c.x.length+m.c.xG+14*n<=140000
 S:∀f,f∈m.v->mY P m.c.d f
 yP:Kb m.c.d m.v
 u:m.v.length<=40
 run:m.s=1->m.v≠[]
 s:m.s<=4
structure rO(P:CQ)(n:M)(m:Mc):Prop where
 d:EI P m.c.d
 yJ:Ib m.c.d
 R:m.c.d+14*n<=140000
 pl:m.c.x.length+m.c.xG+14*n<=140000
theorem EA.ct{n m}(h:EA U n m):rO U n m:=⟨h.d,h.yJ,h.R,h.pl⟩
theorem GP(c:Co)(a:M)(v:Vl):L (c.set a v).d=c.d:=by simp[Co.set]
theorem Vq(c:Co)(a:M)(v:Vl):L (c.set a v).x<=c.x+1:=by grind[Co.set]
theorem Vp(c:Co)(a:M)(v:Vl):(c.set a v).xG=c.xG:=Q
theorem ZC(c:Co)(a i:M)(v:Vl):(CM (c.set a v).d i).nm=(CM c.d i).nm:=Oh ⟨c,[],0⟩ a i v
theorem Ib.cy{m}(h:∀i,i<L m->Sg (CM m i).nm):Ib m:=λi a=>by grind[Dy]
theorem Ib.set(h:Ib u8.d)(a v):Ib (u8.set a v).d:=Ib.cy λi b=>by rw[ZC];rw[GP]at b;exact h.at_ b
theorem Ib.app{m l}(h:Ib m)(b:∀x,x∈l->Sg x.nm):Ib<|m++l:=λi a=>by
 rw[List.getElem_append];split
 .exact h i<|by assumption
 grind
theorem EA.set{n m}(h:EA U (n+1) m)(d:B<=n){a v}(b:E9 (L U) (L m.c.d) v):EA U B {m with c:=m.c.set a v}:=
 ⟨(Ji h.d b).m,h.yJ.set a v,by rw[GP];have:=h.R;omega,by have:=h.pl;grind[Vq,Vp],by rw[GP];exact h.S,by rw[GP];exact h.yP,h.u,h.run,h.s⟩
theorem EA.less{n:M}{m:Mc}(h:EA U n m)(a:B<=n):EA U B m:=⟨h.d,h.yJ,by have:=h.R;omega,by have:=h.pl;omega,h.S,h.yP,h.u,h.run,h.s⟩
theorem EA.stop{n m}(h:EA U n m)(b:1<B)(a:B<=4):EA U n {m with s:=B}:=⟨h.d,h.yJ,h.R,h.pl,h.S,h.yP,h.u,λq=>by grind,a⟩
theorem EA.leave{n m}(h:EA U (n+1) m){v}(i:E9 (L U) (L m.c.d) v):EA U n<|DL m v:=by
 have⟨c,b,e⟩:=m;match b with
 |[]=>exact h.less<|Nat.le_succ n
 |[f]=> have q:=h.less<|Nat.le_succ n;exact⟨q.d,q.yJ,q.R,q.pl,(λf d=>by cases d),trivial,by simp[DL],(λq=>by grind[DL]),by simp[DL]⟩
 |f::g::r=> have q:=h.set (Ad n) (a:=f.answer) i;exact⟨q.d,q.yJ,q.R,q.pl,λx j=>q.S x<|Ax _ j,q.yP.2,by have:=q.u;grind[DL],λ_=>by simp[DL],q.s⟩
theorem EA.zA{n m}(h:EA U n m):EA U n<|DL m Hd:=by
 have⟨c,a,e⟩:=m;match a with
 |[]=>exact h
 |[f]=>exact⟨h.d,h.yJ,h.R,h.pl,(λf b=>by cases b),trivial,by simp[DL],(λq=>by grind[DL]),by simp[DL]⟩
 |f::g::r=>
  have i:(c.set f.answer Hd).x=c.x:=by simp[Co.set,Hd]
  exact⟨(Ji h.d<|LF _ _).m,h.yJ.set _ _,by have:=h.R;grind[DL,GP],by have:=h.pl;grind[DL,Vp],λx d=>by simp only[DL,GP];exact h.S x<|Ax _ d,by simp only[DL,GP];exact h.yP.2,by have:=h.u;grind[DL],λ_=>by simp[DL],h.s⟩
theorem EA.norm{n:M}:∀(k:M) {m:Mc},EA U n m->EA U n (DQ U k m)
 |0,_,h=>h
 |k+1,m,h=>by
  unfold DQ;split
  .split
   .exact h
   .split
    .exact h
    .exact EA.norm k h.zA
  .exact h
theorem bS(b:Jd U)(p:B<U)(h:Ib u8.d)(d):Ib (u8.enter B (CO U B).y d).d:=by
 have k:∀(l:List Vl) (a:M) (u8:Co),Ib u8.d->Ib (Fw l a u8).d:=by
  intro l;induction l with
  |nil=>intro a u8 h;exact h
  |cons v l j=>intro a u8 h;exact j _ _<|h.set a v
 refine k _ _ _<|h.app λx g=>?_;obtain⟨i,e,rfl⟩:=AS.1 g;have m:=List.mem_range.1 e;have n:=b.y B;have o:=b.xE;exact⟨by simp,by grind,by grind⟩
theorem Ol(l):∀(a:M) (c:Co),(Fw l a c).xG=c.xG:=by
 induction l with
 |nil=>intro a c;rfl
 |cons v l b=>intro a c;simp only[Fw];rw[b];rfl
theorem ST(l):∀(a:M) (c:Co),L (Fw l a c).x<=c.x+l:=by
 induction l with
 |nil=>intro a c;simp[Fw]
 |cons v l b=> intro a c;simp only[Fw,Af];have d:=b (a+1)<|c.set a v;have e:=Vq c a v;omega
theorem EA.zI(u:Jd U){n f m a C}(s:C.d=m.c.d)(t:C.x=m.c.x)(K:L C.xG<=L m.c.xG+1)(h:EA U (n+1) m)(w:f<L U)(k:∀v,v∈a->E9 (L U) (L m.c.d) v)(X:L a<=12)(l:m.v=[]\/B<L m.c.d):EA U n<|Ef U ⟨C,m.v,m.s⟩ f a B:=by
 have⟨c,I,e⟩:=m;simp only at s t K k l;have b:=h.d;have d:=h.yJ;have z:=h.R;have E:=h.pl;have i:=h.S;have j:=h.yP;have F:=h.u;have H:=h.s;simp only at b d z E i j F H;rw[<-s]at b d z i j k l;rw[<-t]at E;unfold Ef;simp only;split;exact⟨b,d,by grind,by grind,i,j,F,λq=>by grind,by simp⟩;rename_i S;have⟨p,R⟩:=Qx b f (CO U f).y k;have hv:=u.y f;have y:=p.lo;have a0:L (C.enter f (CO U f).y a).x<=C.x+a:=ST a C.d<|C.y f (CO U f).y;have V:(C.enter f (CO U f).y a).xG=C.xG:=Ol _ _ _;refine⟨p.m,bS u w d a,by grind,by grind,?_,?_,by grind,λ_=>by simp,H⟩;intro x o;rcases AY.1 o with rfl|o
 exact⟨w,by grind,Ar _⟩;exact(i x o).more y;have N:=j.more y;cases I with
 |nil=>trivial
 |cons g r=>
  rcases l with q|q
  cases q;exact⟨by grind,N⟩
theorem EA.enter(a:Jd U){n f ans m args}(h:EA U (n+1) m)(d:f<L U)(b:∀v,v∈args->E9 (L U) (L m.c.d) v)(e:L args<=12)(c:m.v=[]\/ans<L m.c.d):EA U n<|Ef U m f args ans:=
 EA.zI a (C:=m.c) Q Q (Nat.le_succ _) h d b e c
theorem EA.q{n k m f}(h:EA U n m)(e:m.v=f::n7)(g:k<=L (CO U f.fn).f):EA U n {m with v:={f with q:=k}::n7}:=by
 have a:=h.S;have c:=h.yP;have d:=h.u;rw[e]at a c d;refine⟨h.d,h.yJ,h.R,h.pl,λx b=>?_,Kb.head (f:=f) (f':={f with q:=k}) Q c,d,λ_=>by simp,h.s⟩;rcases AY.1 b with rfl|b
 have:=a f (by simp);exact⟨this.fn,this.wX,g⟩;exact a x<|Ax _ b
theorem nM{b}(h:Ib u8.d)(e:v0<=4000)(a:KP B C R X v0 p0 u8=T b):Ib b.d:=by
 unfold KP at a;split at a;cases a;refine Ib.set ?_ _ _;refine h.app λx d=>?_;simp only[AY,AE,or_false]at d;rcases d with rfl|rfl|rfl|rfl<;>exact⟨by simp,by simp only;omega,by simp⟩
 split at a;cases a;exact h.set _ _;split at a;split at a;cases a;exact h.set _ _;cases a;split at a;cases a;exact h.set _ _;split at a;split at a;cases a;exact h.set _ _;cases a;split at a;cases a;exact h.set _ _;split at a;split at a;cases a;exact h.set _ _;cases a;grind
theorem Xc(h:B<L p9):PK p9 B∈p9:=by grind[PK]
theorem EA.step(g:Jd U){n m f}(h:EA U (n+1) m)(j:m.v=f::n7)(a0:f.q<L (CO U f.fn).f):EA U n<|Kn U m:=by
 have E:=h.S f (by rw[j];simp);have b:=g.ok f.fn E.fn _<|Xc a0;have hb:=E.wX;unfold Kn;rw[j];simp only;have⟨s,H⟩:=Dv<|PK (CO U f.fn).f f.q;rw[H]at b|-;have c:=h.q j b.q;have B:∀v,v∈EJ m.c.d f.wX s.k->E9 U m.c.d v:=by intro v o;unfold EJ at o;obtain⟨a,w,rfl⟩:=AS.1 o;have:=b.k a w;exact(h.d.at_<|by omega).2
 have z:∀i,(CO U i).m=s.k->L (EJ m.c.d f.wX s.k)<=12:=λi hi=>by simp only[EJ,AG];have:=g.yB i;have:=g.y i;omega
 split;rename_i p;have:=b.tg (by omega) (by omega) (by omega) (by omega);exact c.enter g (b.func<|zn p) B (z _<|b.many p) (zn<|by simp only;omega);split;rename_i R;have ht:=b.tg (by omega) (by omega) (by omega) (by omega);have a5:=b.sr (by omega);split;rename_i X;split;exact(c.less<|Nat.le_succ n).stop (by decide) (by decide);rename_i hd;have o:=(h.d.at_ (i:=f.wX+s.n)<|by omega).2;have V:(CM m.c.d<|f.wX+s.n).v.c<U:=by
  rcases o with⟨q,_⟩|⟨_,q⟩|⟨q,_⟩
  omega;exact q;omega
 exact EA.zI g (m:={m with v:={f with q:=s.q}::n7}) (C:={m.c with xG:=(s.t,(CM m.c.d<|f.wX+s.n).v.c)::m.c.xG}) Q Q (by simp) c V B (z _ X.2) (zn<|by grind);exact(c.less<|Nat.le_succ n).stop (by decide) (by decide);split;rename_i K;have:=b.sr (by omega);exact c.leave<|(h.d.at_<|by omega).2;split;have N:=h.q j (k:=if (Ii m.c.N).1 then s.xI else s.q) (by split;exact b.xI;exact b.q);have d:=N.less<|Nat.le_succ n;exact⟨d.d,d.yJ,d.R,d.pl,d.S,d.yP,d.u,d.run,d.s⟩;split;rename_i u w;rename_i p R K a2;by_cases I:s.e=0;have S:u=m.c:=by grind[KP]
 subst S;exact c.less<|Nat.le_succ n;have ht:=b.tg I (by omega) (by omega) (by omega);have hq:∃t,t<L m.c.d/\KP s.e (f.wX+s.w) t s.wU s.t s.n m.c=u:=by by_cases a3:s.e=1\/s.e=4;refine⟨f.wX+s.w,by omega,?_⟩;grind[KP];have:=b.sr (by have:=b.e;omega);grind
 have⟨t,a1,y⟩:=hq;have l:=XW h.d (by omega) a1 (λe=>b.func<|zo e) (λ_=>b.wU) (λ_=>b.t) y;have F:=l.lo;have a4:=l.hi;have H:=l.se;exact⟨l.m,nM h.yJ b.t y,by have:=h.R;grind,by have:=h.pl;grind,λx hx=>(c.S x hx).more F,c.yP.more F,c.u,c.run,c.s⟩;exact(c.less<|Nat.le_succ n).stop (by decide) (by decide)
theorem EA.xC(c:Jd U){n f ch}(j:n<=5000)(d:f<L U):rO U (n+1) ⟨⟨[],ch,[],[]⟩,[],1⟩/\EA U n (Ef U ⟨⟨[],ch,[],[]⟩,[],1⟩ f [] 0):=by have b:EA U (n+1) ⟨⟨[],ch,[],[]⟩,[],2⟩:=⟨⟨λi h=>Bm h<|Nat.not_lt_zero _,λi h=>Bm h<|Nat.not_lt_zero _⟩,λi h=>Bm h<|Nat.not_lt_zero _,by simp;omega,by simp;omega,λx g=>Bm g<|AE,trivial,by simp,λq=>by simp at q,by simp⟩;have a:=b.enter c (f:=f) (args:=[]) (ans:=0) d (λv e=>Bm e<|AE) (by simp)<|zo Q;refine⟨⟨b.d,b.yJ,b.R,b.pl⟩,?_⟩;unfold Ef at a|-;simp only[Aw,show¬(40:M)<=0 by omega,BE]at a|-;exact⟨a.d,a.yJ,a.R,a.pl,a.S,a.yP,a.u,λ_=>by simp,by simp⟩
theorem pG(h:J' P B q0 C (Y R v0 X) v0 y1)(j:p0<=v0):J' P B q0 C (Y R p0 X) p0<|y1.take<|p0*C:=by
 have⟨p,c⟩:=h;have r:p0*C<=v0*C:=Nat.mul_le_mul_right _ j;refine⟨by grind,zn ?_⟩;rcases c with⟨q,_⟩|⟨o,m,b,a,d,i,s,f,l,t⟩
 simp at q;simp only[BU,Ai,Addr.mk.injEq,and_true,true_and]at a;obtain⟨rfl,rfl⟩:=a;refine⟨R,X,b,Q,d,i,by omega,f,l,?_⟩;grind
theorem ZM(l):L (VI l)=l*4:=by
 unfold VI;rw[List.length_flatten];have:((l.reverse.map iL).map L)=List.replicate l 4:=by apply A5;simp;intro i a b;simp[iL]
 rw[this];simp
theorem E9.zB{v}(h:E9 B R v)(e:B<=C):E9 C R v:=by
 rcases h with h|⟨c,d⟩|h
 exact zo h;exact zn<|zo ⟨c,by omega⟩;exact zn<|zn h
theorem Fs.pop(h:Fs B C R X V v0 p0 o1 u2 z0 (Y (T ⟨s2,0,Z⟩) p4 s3) u0 P)(c:u2.v=x9::n7):
 Fs B C R X V v0 p0 o1 {u2 with v:=n7} z0 (Y (T ⟨s2,0,Z⟩) (L n7) s3) u0 (P.setCell ⟨B,6,Z⟩<|Y (T ⟨s2,0,Z⟩) (L n7) s3)/\E8 B C R X P (P.setCell ⟨B,6,Z⟩<|Y (T ⟨s2,0,Z⟩) (L n7) s3):=by
 cases CU h.U;have a:O (λk=>k=B) P<|P.setCell (B,6)<|Y s2 n7 s3:=(CT _ _).wS 6 _;have d:L n7<=u2.v:=by rw[c];simp
 have b:=pG h.U d;have e:(VI u2.v).take (L n7*4)=VI n7:=by grind[Nd,ZM]
 rw[e]at b;refine⟨⟨h.p.set 6 _,h.xS,Cx h.d a<|CL h.d h.p<|by decide,Cx b a<|CL b h.p<|by decide,h.x.j a<|h.x.ne h.p,h.xG.j a<|h.xG.ne h.p,h.lb,h.ne⟩,a.mono λ_ _ q=>zo q⟩
theorem FH.frame(h:FH B C R X V v0 p0 o1 u2 P)(n:u2.v=x9::n7):
 ∃g b,K' P ⟨B,6,Z⟩=T (Y (T ⟨g,0,Z⟩) (L n7+1) b)/\L n7+1<=b/\g<P.heap.size/\B<P.heap.size/\K' P ⟨g,L n7*4,Z⟩=T (G A x9.fn)/\K' P ⟨g,L n7*4+1,Z⟩=T (G A x9.wX)/\K' P ⟨g,L n7*4+2,Z⟩=T (G A x9.q)/\K' P ⟨g,L n7*4+3,Z⟩=T (G A x9.answer)/\(∀j,P.frozen? ⟨g,j,Z⟩=zr)/\g≠B:=by
 have⟨H,I,x,h⟩:=h;have p:L u2.v=n7+1:=by rw[n];simp
 obtain⟨K,N,k,rfl⟩:=CA h.U;obtain⟨g,rfl⟩:=CH h.U (by omega);cases CU h.U;have e:=h.p.j6;have c:u2.v<=k:=by
  rcases h.U.2 with⟨q,_⟩|⟨y,v,l,s,z,E,F,_⟩
  simp at q;simp only[BU,Ai,Addr.mk.injEq,and_true,true_and]at s;omega
 have⟨l,d⟩:=E0 h.U;have a:∀j,j<4->P ⟨g,L n7*4+j,Z⟩=(iL x9)[j]? :=by intro j o;have t:=h.U.cellAt (L n7*4+j) (by omega);have u:=Yd u2.v (i:=0) (by omega) o;grind
 rw[p]at e c;exact⟨g,k,e,c,Cz d,Cz h.p,a 0<|by decide,a 1<|by decide,a 2<|by decide,a 3<|by decide,λj=>CZ d j,CL h.U h.p (by decide) g Q⟩
theorem Q6(b p l B u F H t P n m v w)(h:FH b p l B u F H t m w)(hP:L P<=4001)(i:EA P n m)(y:m.v≠[])(hv:E9 P m.c.d v):
 F' zy 112 #[Z' b,rJ v] w λe X=>e=P' #[]/\FH b p l B u F H t (DL m v) X/\E8 b p l B w X:=by
 obtain⟨f,r,a⟩:∃f r,m.v=f::r:=by
  cases hq:m.v with
  |nil=>exact Bm hq y
  |cons f r=>exact⟨f,r,Q⟩
 have⟨g,s,U,a3,lg,lm,c0,c1,c2,c3,_,a4⟩:=h.frame a;have⟨mv,rv,ch,d⟩:=h;have a0:rv=Y g (L r+1) s:=by have q:=d.p.j6;rw[q]at U;exact Bo U
 subst a0;have⟨k,o⟩:=d.pop a;have fz:=d.p.wV 6;have N:=i.u;rw[a]at N;simp only[Af]at N;have a2:=W.new w #[v.e,v.c] 231;unfold rJ;cases r with
 |nil=>
  have⟨R,S⟩:=k.wrote (m':={m with v:=[],s:=2}) 7 (G A 2) Q k.xS Q Q Q Q;have r7:=d.p.z;have a1:=d.p.wV 7;have j:DL m v={m with v:=[],s:=2}:=by unfold DL;rw[a]
  rw[j];simp only[Aw,AM,Nat.zero_mul]at*;have z:=(CT Cb<|(w.setCell (b,6)<|Y g 0 s).setCell (b,7)<|G A 2).alloc<|R' #[v.e,v.c] 231;have Q1:=R.t8 z;have Q2:=(o.trans S).trans<|E8.wW z;clear k o R S z d j a y i;go_in;go_wp2_with fail;exact Ak (v:=P' #[]) (by simp[zz,results112,go_sem]) Q ⟨Q,⟨_,_,_,Q1⟩,Q2⟩
 |cons x I=>
  have j:DL m v={m with v:=x::I,c:=m.c.set f.answer v}:=by unfold DL;rw[a]
  rw[j];have E:=i.yP;rw[a]at E;have C:=λ(K:I') (hW:O Cb (w.setCell (b,6)<|Y g (x::I) s) K)=>Hs b p l B u F H t {m with v:=x::I} f.answer v K ⟨_,_,_,k.t8 hW⟩ i.yJ E.1 (hv.zB<|by omega) (by have:=i.pl;simp only;omega) (by have:=i.R;simp only;omega)
  clear k d j E a i y;simp only[Af]at*;unfold rJ at C;go_in;go_wp2_with fail;apply(C _ oq).mono;rintro e w2 ⟨rfl,s1,V⟩;have S2:=(o.trans<|E8.wW oq).trans V;clear V C o;go_wp2_with fail;go_end0;exact⟨Q,s1,S2⟩
def sJ(a:M)(w:I'):M:=match w (a,6)with
 |some (Y _ l _)=>l
 |_=>0
theorem ZV(h:FH B C R X V v0 p0 o1 u2 P):sJ B P=u2.v:=by have⟨b,d,a,h⟩:=h;obtain⟨e,f,rfl⟩:=CB h.U;have c:=h.p.j6;grind[sJ]
theorem Pf{v}(h:u2.v=x9::n7):(DL u2 v).v=n7:=by grind[DL]
theorem JP(h:B<L U):CO U B=U[B]:=by grind[CO]
theorem Q0(c o l B s E F y P n m w)(h:FH c o l B s E F y m w)(hp:Ds B w s P)(hP:Jd P)(S:EA P n m):
 F' zy 75 #[Z' c] w λe w'=>e=P' #[]/\FH c o l B s E F y (DQ P 41 m) w'/\E8 c o l B w w':=by
 have⟨V,R⟩:=Dv<|DQ P 41 m;rw[R];have x:=J R;have d:=S;have z:L m.v<41:=by have:=S.u;omega
 clear R S;go_in;go_wp2;go_loopw[] (λwr=>∃(j:M) (a:Mc),a.v<j/\FH c o l B s E F y a wr/\EA P n a/\D (DQ P j a=V)/\E8 c o l B w wr) (λwr=>sJ c wr);exact⟨41,m,z,h,d,x,E8.refl _ _ _ _ _⟩;clear x d;have⟨j,a,hj,k,d,x,u⟩:=hrel;obtain⟨C,rfl⟩:∃C,j=C+1:=⟨j-1,by omega⟩;have b:=x.o;unfold DQ at b;have b1:=J<|ZV k;have b3:wr (c,7)=a.s/\c<wr/\wr c=s:=by have⟨_,_,_,q⟩:=k;have X:=q.p.j7;have r0:=q.p.j0;exact⟨X,Cz q.p,r0⟩
 have⟨X,lm,r0⟩:=b3;by_cases i:a.s=1
 .rw[Bb i]at b;have a5:=d.run i;obtain⟨f,r,t⟩:∃f r,a.v=f::r:=by
   cases hq:a.v with
   |nil=>exact Bm hq a5
   |cons f r=>exact⟨f,r,Q⟩
  have⟨g,cm,r6,b5,lg,_,c0,c1,c2,c3,_,_⟩:=k.frame t;have a3:=d.S f (by rw[t];simp);have a2:=a3.fn;have N:=u.yW h hp;have⟨gf,cf,a8,b8⟩:=N.form (by omega);subst a8;have⟨vv,sv,hc,b4,a6⟩:=N.get a2;obtain⟨sa,sc,rfl,_⟩:=a6.form;have d3:=hc 3 (by decide);simp only[Rk,Aa,Ab]at d3;have z:=d.u;rw[t]at z b;simp only at b;simp only[Af]at z;have b7:(f.fn:zw)<(L P:zw):=by omega
  have a1:((a.s:zw)==1)=zt:=by simp[i]
  rw[JP a2]at b;have I:=J t;have b6:=hP.xE;rw[i]at X;clear N hc b4 a6 a3 t i a1 a5;by_cases U:f.q<P[f.fn].f
  .rw[Bb U]at b;subst b;generalize L P[f.fn].f=K at*;have b2:zu (f.q<K)=zt:=by simp[U]
   go_wp2_with fail;go_region;go_wp2_with fail;go_region;go_wp2_with fail;refine Ak (v:=P' #[]) (by simp[zz,results75,go_sem]) Q ⟨Q,?_,?_⟩;exact k.t8 oq;exact u.trans<|E8.wW oq
  .rw[Ba U]at b;generalize L P[f.fn].f=K at*;have b2:=Hz (p:=f.q<K) (by omega);have H:=λ(a0:I') (hW:O Cb wr a0)=>Q6 c o l B _ E F y P n a Hd a0 (k.t8 hW) hP.xE d (by rw[I.o];simp)<|LF _ _
   have a7:=J b;clear b;unfold rJ Hd at H;go_wp2_with fail;go_region;go_wp2_with fail;go_region;go_wp2_with fail;apply(H _ oq).mono;rintro e w2 ⟨rfl,s1,s2⟩;have a9:=Pf (v:=Hd) I.o;have S2:=(u.trans<|E8.wW oq).trans s2;have S3:=d.zA;have b0:=J<|ZV s1;have a4:(DL a Hd).v<C/\L (DL a Hd).v<a.v:=by rw[a9];have:=I.o;rw[this]at hj|-;simp only[Af]at hj|-;omega
   clear s2 H;go_wp2_with fail;go_roundw;exact⟨C,DL a Hd,a4.1,s1,S3,a7,S2⟩;rw[b0.o,b1.o];exact a4.2
 .rw[Ba i]at b;subst b;have a1:=Ka a.s 1 (by omega);clear i;go_wp2_with fail;go_end0;exact⟨Q,k,u⟩
def UY(l:List Vl):Ci:=(l.map λv=>[G A v.e,v.c]).flatten
theorem mG(l v):UY (l++[v])=UY l++[G A v.e,G A v.c]:=by unfold UY;simp
theorem Tryz.infoMv:(Tryz.prog.info? 231).map (λi=>(i.zero,i.size,i.bytes))=T (T<|N' #[G A 0,G A 0],2,16):=by kernel_rfl
theorem Ti(V pm em B fv mn pn cn m b l U w)(h:FH V pm em B fv mn pn cn m w)(n:CY B w U l)(hl:L l<=4000)(ha:∀a,a∈l->b+a<L m.c.d)(a7:L m.c.d<=200000)(hb:b<=200000):
 F' zy 117 #[Z' V,b,U] w λe X=>∃v,e=T' v/\J' X w 231 2 v l (UY<|EJ m.c.d b l)/\O Cb w X:=by
 have⟨S,y,N,P,R⟩:=Bx Tryz.infoMv;obtain⟨la,ll,lc,rfl⟩:=CA n;have a0:=CU n;subst a0;go_in;go_wp2_with(at_make;refine wpList_make_own _ Q _ _ 223 Q w 231 S (N' #[G A 0,G A 0]) 2 underlying223 y N P .i64 .i64 (L l:zw) l Q Q Q (by rw[R];omega) (by unfold E';omega) (Ad _) ?_;intro w1 H t);have o:O Cb w w1:=O.xA (CT _ w) t (λk z=>by cases z);clear t;go_loopw[7,15] (λv i wr=>∃(k:M),k<=l/\i=G A k/\J' wr w 231 2 v k (UY<|EJ m.c.d b<|l.take k)/\O Cb w wr) (λ_ i _=>l-(zm i).toNat);exact⟨0,by omega,Q,H,o⟩;clear H o;obtain⟨k,z,rfl,c,d⟩:=hrel;by_cases E:k<l
 .have f:=Cx n d Ed;obtain⟨gl,rfl⟩:=CH f (by omega);have s:=f.cellAt k (by omega);rw[AI,Ag E]at s;simp only[BA]at s;have a9:=(f.lt gl Q).2;have q:=ha l[k]<|Am _;have⟨g,cm,r5,lg,lm,r⟩:=(h.t8 d).holds q;have⟨c3,p,_⟩:=r _ q;have c5:wr (g,(b+l[k])*5+3+1)=(CM m.c.d<|b+l[k]).v.c:=p;have a2:D<|UY (EJ m.c.d b<|l.take<|k+1)=UY (EJ m.c.d b<|l.take k)++[G A (CM m.c.d<|b+l[k]).v.e,G A (CM m.c.d<|b+l[k]).v.c]:=by show _=_;rw[AK E];unfold EJ;rw[Bn];exact mG _ _
  have a4:((b:zw)+(l[k]:zw))<(L m.c.d:zw):=by omega
  have a5:(0:zw)<=(b:zw)+(l[k]:zw):=by omega
  have a6:(k:zw)<(L l:zw):=by omega
  generalize CM m.c.d (b+l[k])=C at*;generalize l[k]=x at*;obtain⟨va,vl,vc,rfl⟩:=CA c;have a3:=CU c;subst a3;have a8:=d.size;clear f r p;go_wp2_with(at_builtin;refine AO _ Q _ _ 223 Q w 231 S (N' #[G A 0,G A 0]) 2 16 underlying223 y N P R Q (by decide) _ _ _ Q (c.alloc _) wr 1 1 [G A C.v.e,C.v.c] Q Q (C3 (by simp) _ _) (λx K=>by simp at K;rcases K with rfl|rfl<;>rfl) (by unfold E';omega) (by omega) (by simp;omega) ?_;intro v' w3 F u a1);have O3:O Cb w w3:=O.xA (d.alloc _) u λj hj=>zn (c.lt j hj).1;rw[<-a2.o]at F;clear u a1;go_roundw;exact⟨vl+1,by omega,by go_num,F,O3⟩;simp[intOf];omega
 .have e:k=l:=by omega
  subst e;have I:=c;rw[List.take_length]at I;clear c;go_wp2_with fail;go_ret;exact⟨_,Q,I,d⟩
theorem Fs.bw{v' fr}(h:Fs B C R X V v0 p0 o1 u2 z0 s0 u0 P)(o:O Cb P y0)(p:y0.grownBy v1<|L' s0)(f:J' v1 X 225 4 v' (L u2.v+1)<|VI u2.v++iL fr):
 Fs B C R X V v0 p0 o1 {u2 with v:=fr::u2.v} z0 v' u0 (v1.setCell (B,6) v')/\E8 B C R X P (v1.setCell (B,6) v'):=by
 have a:O (λk=>L' s0=T k) P v1:=O.xA (o.mono λ_ _ q=>q.elim) p λj s=>zo s;have hF:E8 B C R X P v1:=a.mono (λk _ q=>by have⟨n,i,l,r⟩:=ES h.U q;exact zn<|zn<|zn ⟨n,i,_,l,r,zn Q⟩)
 have c:O (λk=>k=B) v1<|v1.setCell (B,6) v':=(CT _ _).wS 6 _;have b:W B (tO V v0 p0 o1 u0 z0 s0 u2.s C R) 179 v1:=h.p.j a λq=>CL h.U h.p (by decide) B q Q;have e:=Cx h.d a (Jy h.d h.U<|by decide);have g:=h.x.j a λq=>JO h.U h.x _ q Q;have d:=h.xG.j a λq=>JO h.U h.xG _ q Q;refine⟨⟨b.set 6 _,h.xS,Cx e c<|CL e b<|by decide,?_,g.j c<|g.ne b,d.j c<|d.ne b,h.lb,h.ne⟩,hF.trans<|c.mono λ_ _ q=>zo q⟩;show J' (v1.setCell (B,6) v') X _ 4 v' (fr::u2.v)<|VI (fr::u2.v);rw[Nd,Af];exact Cx f c<|CL f b<|by decide
theorem Tryz.infoFr:(Tryz.prog.info? 225).map (λi=>(i.zero,i.size,i.bytes))=T (T<|N' #[G A 0,G A 0,G A 0,G A 0],4,32):=by kernel_rfl
theorem sC(c):∀u∈iL c,u.oneCell'=zt:=by intro x a;simp only[iL,AY,AE,or_false]at a;rcases a with rfl|rfl|rfl|rfl<;>rfl
theorem gD(l):∀(a:M) (c:Co),Ib c.d->Ib (Fw l a c).d:=by
 induction l with
 |nil=>intro a c h;exact h
 |cons v l b=>intro a c h;exact b _ _<|h.set a v
theorem Pi(d j i B:M)(q:H')(u v o:M)(P:CQ)(m:Mc)(f g:M)(k:List Vl)(n:H')(w:I')(h:FH d j i B q u v o m w)(s:40<=L m.v)(E:L m.v<=40)(C:∃a l c,n=Y a l c):
 F' zy 74 #[Z' d,f,n,g] w λe x=>e=O' zr/\FH d j i B q u v o (Ef P m f k g) x/\E8 d j i B w x:=by
 have r:Ef P m f k g={m with s:=4}:=by unfold Ef;rw[Bb s]
 rw[r];obtain⟨a,l,c,rfl⟩:=C;have⟨R,U,I,b⟩:=h;obtain⟨V,X,rfl⟩:=CB b.U;obtain⟨-,-,-,-,-,-,H,S⟩:=b.p.k8;have K:=b.p.wV 7;have N:=Cz b.p;have⟨y,z⟩:=b.wrote (m':={m with s:=4}) 7 (G A 4) Q b.xS Q Q Q Q;have F:=LH (p:=(40:zw)<=m.v) (by omega);have t:L m.v=40:=by omega
 rw[t]at H;clear b r s E t F;go_in;go_wp2_with fail;go_ret;exact⟨Q,⟨_,_,_,y⟩,z⟩
theorem MJ(a t r B:M)(fv:H')(E F C:M)(P:CQ)(n:M)(m:Mc)(f l B':M)(b:List Vl)(av:H')(w:I')(h:FH a t r B fv E F C m w)(hp:Ds B w fv P)(I:Jd P)(S:rO P (n+1) m)(hd:L m.v<40)(hf:f<P)(ha:∀v,v∈b->E9 P m.c.d v)(e2:L b<=(CO P f).y)(K:J' w B' 231 2 av b<|UY b):
 F' zy 74 #[Z' a,f,av,l] w λe w'=>e=O' zt/\FH a t r B fv E F C (Ef P m f b l) w'/\E8 a t r B w w':=by
 have hV:Ef P m f b l=⟨m.c.enter f (CO P f).y b,⟨f,m.c.d,0,l⟩::m.v,m.s⟩:=by unfold Ef;rw[Ba<|by omega]
 rw[hV];have⟨i0,e4,f4,f5,f6⟩:=Bx Tryz.infoCe;have⟨i1,e5,f1,f2,f3⟩:=Bx Tryz.infoFr;obtain⟨va,vc,rfl⟩:=CB K;have e9:=I.y f;have g8:=S.R;have g9:=S.pl;have g4:=I.xE;obtain⟨g,H,rfl,f8⟩:=hp.form (by omega);have⟨vv,sv,hc,d0,e7⟩:=hp.get hf;obtain⟨xv,xc,rfl⟩:=CB d0;have d1:=hc 1 (by decide);simp only[Rk,Aa,Ab]at d1;rw[JP hf]at e2 e9 hV;have HH:=h;have d6:=K;have HI:=S;have g0:=I;have⟨mv,rv,ch,d⟩:=h;obtain⟨ma,mc,rfl⟩:=CB d.d;obtain⟨ra,rc,rfl⟩:=CB d.U;obtain⟨r0,-,-,-,-,r5,r6⟩:=d.p.k7;have c1:=d.p.wV 6;have lm:=Cz d.p;have U:=J (CL d.U d.p<|by decide);have c2:¬L' (Y ra m.v rc)=g:=by have⟨_,q,_⟩:=hp;exact Jy q d.U (by decide) g Q
 have b6:=J c2;have b8:=d;have b5:=J d.U;have e0:B<=w:=by have:=d.lb;omega
 have g5:(f:zw)<(L P:zw):=by omega
 generalize hN:L P[f].y=N at*;have HN:=J hN;have g1:=Hz (p:=(40:zw)<=m.v) (by omega);have g2:¬40<=L m.v:=by omega
 have g3:¬(40:zw)<=(L m.v:zw):=by omega
 have d8:D<|g≠a:=by have⟨_,q,_⟩:=hp;exact CL q d.p (by decide) g Q
 clear d S K I hc d0 e7 hN hV c2;go_in;go_wp2_with(at_builtin;refine Dp _ Q _ _ 177 Q B 225 i1 (N' #[G A 0,G A 0,G A 0,G A 0]) 4 32 underlying177 e5 f1 f2 f3 Q (by decide) _ _ _ Q (b5.alloc _) w 1 1 (iL ⟨f,m.c.d,0,l⟩) Q Q (C3 Q _ _) (sC _) (by decide) (by unfold E';omega) (by omega) (by simp;omega) ?_;intro v' u V y b3;have q6:u (a,6)=Y ra m.v rc:=(Ae<|y.block a (by simp;omega) λh=>U.o a h.symm Q).trans (by rw[<-r6];exact Ae<|Ao _ _ _ lm);have z6:u.frozen? (a,6)=zr:=(Aj<|y.block a (by simp;omega) λh=>U.o a h.symm Q).trans (by rw[<-c1];exact Aj<|Ao _ _ _ lm);have q0:u a=Y g P H:=(Ae<|y.block a (by simp;omega) λh=>U.o a h.symm Q).trans (by rw[<-r0];exact Ae<|Ao _ _ _ lm);have q1:u (g,f*4+1)=Y xv N xc:=(Ae<|y.block g (by simp;omega) λh=>b6.o h.symm).trans (by rw[<-d1];exact Ae<|Ao _ _ _ f8);have f7:g<u:=(by have:=y.size;simp at this;omega);have f9:a<u:=(by have:=y.size;simp at this;omega);have e3:g≠a:=d8.o;obtain⟨a4,a6,a5,rfl⟩:=CA V);have a3:World.grownBy _ u<|L'<|Y ra m.v rc:=y;have e1:=(λ(o:O Cb w _)=>b8.bw (fr:=⟨f,m.c.d,0,l⟩) (v':=Y a4 a6 a5) o a3 V) oq;have⟨p1,p2⟩:=e1;have P1:FH a t r B (Y g P H) E F C {m with v:=⟨f,m.c.d,0,l⟩::m.v}<|u.setCell (a,6)<|Y a4 a6 a5:=⟨_,_,_,p1⟩;clear V y b3 q6 z6 q0 q1 f7 f9 e3 a3 p1 b8 b5 U b6 r0 r5 r6 c1 d1;generalize World.setCell u _ _=W1 at*;go_loopw[50] (λi wr=>∃k:M,k<=N/\i=G A k/\FH a t r B (Y g P H) E F C ⟨m.c.y f k,⟨f,m.c.d,0,l⟩::m.v,m.s⟩ wr/\E8 a t r B w wr) (λi _=>N-(zm i).toNat);have e:m.c.y f 0=m.c:=by simp[Co.y]
 have R:FH a t r B (Y g P H) E F C ⟨m.c.y f 0,⟨f,m.c.d,0,l⟩::m.v,m.s⟩ W1:=by rw[e];exact P1
 exact⟨0,by omega,Q,R,p2⟩;obtain⟨k,hk,rfl,⟨mv,rv,ch,z⟩,b0⟩:=hrel;clear P1 p2;by_cases g7:k<N
 .have b2:L (m.c.y f k).d=m.c.d+k:=by simp[Co.y]
  obtain⟨d3,d4,rfl⟩:=CB z.d;have r5:=z.p.j5;have rz:=z.p.wV 5;have lr:=Cz z.p;have U:=J (CL z.d z.p<|by decide);have e0:B<=wr:=by have:=z.lb;omega
  have b7:=J z.d;have f0:=J<|TJ m.c f k;simp only[b2]at r5 b7 U z;have e6:=J b2;clear b2;go_wp2_with(at_builtin;refine Dp _ Q _ _ 176 Q B 233 i0 (N' vS) 5 40 underlying176 e4 f4 f5 f6 Q (by decide) _ _ _ Q (b7.alloc _) wr 1 1 (XS ⟨⟨0,f,k⟩,Hd⟩) Q Q (C3 Q _ _) (gQ _) (by decide) (by unfold E';omega) (by omega) (by simp;omega) ?_;intro v' u V y b3;have q1:u (a,5)=Y d3 (m.c.d+k) d4:=(Ae<|y.block a (by simp;omega) λh=>U.o a h.symm Q).trans (by rw[<-r5];exact Ae<|Ao _ _ _ lr);have q2:u.frozen? (a,5)=zr:=(Aj<|y.block a (by simp;omega) λh=>U.o a h.symm Q).trans (by rw[<-rz];exact Aj<|Ao _ _ _ lr);obtain⟨a4,a6,a5,rfl⟩:=CA V);have a3:World.grownBy _ u<|L'<|Y d3 (m.c.d+k) d4:=y;have I:=(λ(o:O Cb wr _)=>z.push (cl:=⟨⟨0,f,k⟩,Hd⟩) (v':=Y a4 a6 a5) o a3<|by simp only[e6.o];exact V) oq;have R5:FH a t r B (Y g P H) E F C ⟨m.c.y f<|k+1,⟨f,m.c.d,0,l⟩::m.v,m.s⟩<|u.setCell (a,5)<|Y a4 a6 a5:=by rw[<-f0.o];exact⟨_,_,_,I.1⟩
  have d7:=b0.trans I.2;clear I V y a3 b3 q1 q2;go_roundw;exact⟨k+1,by omega,by go_num,R5,d7⟩;simp[intOf];omega
 .have e:k=N:=by omega
  subst e;have b9:FH a t r B (Y g P H) E F C ⟨m.c.y f k,⟨f,m.c.d,0,l⟩::m.v,m.s⟩ wr:=⟨mv,rv,ch,z⟩;clear z;go_wp2;have a8:=J<|Uf HI.d f k;have d9:Ib (m.c.y f k).d:=HI.yJ.app (λx hx=>by obtain⟨i,S,rfl⟩:=AS.1 hx;have h1:=List.mem_range.1 S;exact⟨by simp,by simp only;omega,by simp only;omega⟩)
  go_loopw[69] (λi d5=>∃j:M,j<=b/\i=G A j/\FH a t r B (Y g P H) E F C ⟨Fw (b.take j) m.c.d<|m.c.y f k,⟨f,m.c.d,0,l⟩::m.v,m.s⟩ d5/\E8 a t r B w d5) (λi _=>b-(zm i).toNat);exact⟨0,by omega,Q,b9,b0⟩;obtain⟨j,hj,rfl,a7,a9⟩:=hrel;clear b9 b0;by_cases c3:j<b
  .have d2:∀v,v∈b.take j->E9 P (m.c.y f k).d v:=λv hv=>(ha v<|List.mem_of_mem_take hv).more a8.o.1.lo
   have⟨gm,a2⟩:=PR (b.take j) m.c.d (m.c.y f k) a8.o.1.m d2;have c4:=gD (b.take j) m.c.d (m.c.y f k) d9;have c5:=ST (b.take j) m.c.d<|m.c.y f k;have c9:=a8.o.2;rw[c9]at a2;have c6:(m.c.y f k).x=m.c.x:=Q;rw[c6]at c5;have e8:L (b.take j)<=12:=by simp;omega
   have c8:=ha b[j]<|Am _;have hs:=λ(X:I') (hW:O Cb wr X)=>Hs a t r B _ E F C ⟨Fw (b.take j) m.c.d<|m.c.y f k,⟨f,m.c.d,0,l⟩::m.v,m.s⟩ (m.c.d+j) b[j] X (a7.t8 hW) c4 (by simp only[a2];omega) ((c8.more<|by simp only[a2];omega).zB<|by omega) (by simp only;omega)<|by simp only[a2];omega
   have b4:=Qk (b.take j) b[j] m.c.d<|m.c.y f k;rw[<-AK c3,List.length_take,Nat.min_eq_left<|by omega]at b4;have c7:∀(X:I'),O Cb wr X->F' zy 111 #[Z' a,((L m.c.d:zw)+(j:zw)),N' #[b[j].e,b[j].c]] X λe w'=>e=P' #[]/\FH a t r B (Y g P H) E F C ⟨Fw (b.take<|j+1) m.c.d<|m.c.y f k,⟨f,m.c.d,0,l⟩::m.v,m.s⟩ w'/\E8 a t r B X w':=by rw[b4];exact hs
   have K:=a9.row HH d6 (by decide) (by decide) (by decide);obtain⟨ga,rfl⟩:=CH K (by omega);have h0:=(K.lt ga Q).2;have b1:∀i,i<2->wr (ga,j*2+i)=([G A b[j].e,b[j].c])[i]? :=by intro i S;have c0:=K.cellAt (j*2+i) (by omega);rw[c0];unfold UY;rw[EO (s:=2) (λc hc=>by obtain⟨x,_,rfl⟩:=AS.1 hc;rfl) (by simpa using c3) S,AT]
   have a0:=b1 0 (by decide);have a1:=b1 1 (by decide);simp only[Aa,Ab,Au]at a0 a1;have g6:(j:zw)<(L b:zw):=by omega
   generalize b[j]=x at*;clear hs b4 K b1 gm a2 c4 c5 c9 c8 d2 e8 c6;go_wp2_with fail;apply(c7 _ oq).mono;rintro e w7 ⟨rfl,s1,s2⟩;have S2:=(a9.trans<|E8.wW oq).trans s2;clear s2 c7 a0 a1;go_wp2_with fail;go_roundw;exact⟨j+1,by omega,by go_num,s1,S2⟩;simp[intOf];omega
  .have e:j=b:=by omega
   subst e;have d:=a7;rw[List.take_length]at d;have HR:=d;clear d a7;go_wp2_with fail;go_ret;refine⟨Q,?_,a9⟩;rw[JP hf,HN.o];exact HR
theorem Fs.cj(h:Fs B C R X V v0 p0 o1 u2 z0 s0 u0 P)(p)(d:p.1<=200000)(e:p.2<=200000)(g:L u2.c.xG<=300000):
 ∃b,(Instr.mapUpdate 175 (.map<|T R) (gZ p)<|N' #[]).run zy P=.ok () b/\Fs B C R X V v0 p0 o1 {u2 with c:={u2.c with xG:=p::u2.c.xG}} z0 s0 u0 b/\E8 B C R X P b:=by
 have⟨l,f⟩:=qW d e;have⟨b,i,j,a⟩:=h.xG.add VZ underlying175 g f;exact⟨b,i,⟨h.p.j a λq=>h.xG.ne h.p q.symm,h.xS,Cx h.d a<|JO h.d h.xG,Cx h.U a<|JO h.U h.xG,h.x.j a λq=>h.ne q,j,h.lb,h.ne⟩,a.mono λ_ _ q=>zn<|zn<|zo q⟩
theorem KF(h:FH B C R X V v0 p0 o1 u2 P)(d:Ds X P V U)(c:s2<L U):
 ∃a b,V=Y (T ⟨a,0,Z⟩) (L U) b/\K' P ⟨B,0,Z⟩=T (Y (T ⟨a,0,Z⟩) (L U) b)/\a<P.heap.size/\B<P.heap.size/\K' P ⟨a,s2*4+2,Z⟩=T (G A (CO U s2).m):=by
 obtain⟨a,b,rfl,g⟩:=d.form (by omega);have⟨o,n,e,_,_⟩:=d.get c;have⟨k,l,j,h⟩:=h;have i:=h.p.j0;rw[JP c];exact⟨a,b,Q,i,g,Cz h.p,e 2<|by decide⟩
theorem Yr(f n i B j z C s P m)(q c I:M)(d:List Vl)(p:H')(w:I')(h:FH f n i B j z C s m w)(x:Ds B w j P)(U:EI P m.c.d)(l:q<m.c.d)(N:∃a c,p=Y a d c)
 (u:¬((CM m.c.d q).v.e=1/\(CO P (CM m.c.d q).v.c).m=d)):
 F' zy 118 #[Z' f,q,c,p,I] w λe E=>e=P' #[]/\FH f n i B j z C s {m with s:=3} E/\E8 f n i B w E:=by
 obtain⟨xa,xc,rfl⟩:=N;have⟨g,cm,r5,lg,lm,t⟩:=h.holds l;have⟨V,r,_⟩:=t q l;have a3:(q:zw)<(L m.c.d:zw):=by omega
 have X:w (g,q*5+3+1)=(CM m.c.d q).v.c:=r;have y:=(U.at_ l).2;have F:=h;have⟨mv,rv,ch,b⟩:=h;have r7:=b.p.j7;have fz:=b.p.wV 7;have o:=λ(H:I') (K:O Cb w H)=>(b.t8 K).wrote (m':={m with s:=3}) 7 (G A 3) Q b.xS Q Q Q Q
 clear b t r;generalize (CM m.c.d q).v=v at*;by_cases k:v.e=1;have R:v.c<P:=by rcases y with⟨e,_⟩|⟨_,e⟩|⟨e,_⟩<;>omega
 obtain⟨gf,cf,rfl,r0,a4,_,d2⟩:=KF F x R;have a2:((CO P v.c).m:zw)≠(L d:zw):=λe=>u ⟨k,by omega⟩
 have a1:(((CO P v.c).m:zw) !=(L d:zw))=zt:=by simp;omega
 have S:((v.e:zw) !=1)=zr:=by simp[k]
 have a0:(v.c:zw)<(L P:zw):=by omega
 generalize (CO P v.c).m=pp at*;rotate_left;have S:((v.e:zw) !=1)=zt:=by simp;omega
 all_goals
  clear u y k x;go_in;go_wp2_with fail;go_quiet(fail);go_wp2_with fail;exact Ak (v:=P' #[]) (by simp[zz,results118,go_sem]) Q ⟨Q,⟨_,_,_,(o _ oq).1⟩,(E8.wW oq).trans (o _ oq).2⟩
theorem Yq(d j f B i s t l P n m)(q c k:M)(b:List Vl)(x:H')(w:I')(h:FH d j f B i s t l m w)(I:Ds B w i P)(F:EA P (n+1) m)(r:q<m.c.d)(hn:(CM m.c.d q).v.e=1/\(CO P (CM m.c.d q).v.c).m=b)(o:40<=L m.v)(X:∃a c,x=Y a b c):
 F' zy 118 #[Z' d,q,c,x,k] w λe S=>e=P' #[]/\FH d j f B i s t l {m with s:=4} S/\E8 d j f B w S:=by
 obtain⟨xa,xc,rfl⟩:=X;have⟨g,cm,r5,lg,lm,C⟩:=h.holds r;have⟨c3,y,_⟩:=C q r;have a4:(q:zw)<(L m.c.d:zw):=by omega
 have c5:w (g,q*5+3+1)=(CM m.c.d q).v.c:=y;have N:=(F.d.at_ r).2;clear C y;generalize (CM m.c.d q).v=v at*;have⟨H,K⟩:=hn;have E:v.c<P:=by rcases N with⟨e,_⟩|⟨_,e⟩|⟨e,_⟩<;>omega
 have⟨gf,cf,a0,r0,a5,_,d2⟩:=KF h I E;have a3:(((CO P v.c).m:zw) !=(L b:zw))=zr:=by simp[K]
 have a2:((v.e:zw) !=1)=zr:=by simp[H]
 have a1:(v.c:zw)<(L P:zw):=by omega
 have p:=λ(u:I') (V:O Cb w u)=>Pi d j f B i s t l P m v.c k b (Y xa b xc) u (h.t8 V) o F.u ⟨_,_,_,Q⟩
 have z:Ef P m v.c b k={m with s:=4}:=by unfold Ef;rw[Bb o]
 rw[z]at p;generalize (CO P v.c).m=pp at*;subst a0;clear N H I z K E o;go_in;go_wp2_with fail;go_quiet(fail);go_wp2_with fail;apply(p _ oq).mono;rintro e w2 ⟨rfl,s1,R⟩;have U:=(E8.wW (a:=w) oq).trans R;clear R p;go_wp2_with fail;go_end0;exact⟨Q,s1,U⟩
theorem bI(l):∀(a:M) (c:Co) (e:List<|M×M),Fw l a {c with xG:=e}={(Fw l a c)with xG:=e}:=by
 induction l with
 |nil=>intro a c e;rfl
 |cons v l b=>intro a c e;simp only[Fw];exact b (a+1) (c.set a v) e
theorem jN(i o f B:M)(j:H')(y z p:M)(P:CQ)(n:M)(m:Mc)(q c d E:M)(b:List Vl)(H:H')(w:I')(h:FH i o f B j y z p m w)(u:Ds B w j P)(t:EA P (n+1) m)(x:q<m.c.d)(hn:(CM m.c.d q).v.e=1/\(CO P (CM m.c.d q).v.c).m=b)(k:Jd P)(V:L m.v<40)(R:∀v,v∈b->E9 P m.c.d v)(a8:c<=4000)(s:J' w E 231 2 H b<|UY b):
 F' zy 118 #[Z' i,q,c,H,d] w λe w'=>e=P' #[]/\FH i o f B j y z p (Ef P {m with c:={m.c with xG:=(c,(CM m.c.d q).v.c)::m.c.xG}} (CM m.c.d q).v.c b d) w'/\E8 i o f B w w':=by
 obtain⟨xa,xc,rfl⟩:=CB s;obtain⟨g,cm,r5,lg,lm,U⟩:=h.holds x;obtain⟨c3,I,_⟩:=U q x;have b4:(q:zw)<(L m.c.d:zw):=by omega
 have c5:w (g,q*5+3+1)=(CM m.c.d q).v.c:=I;have a2:=(t.d.at_ x).2;clear U I;generalize (CM m.c.d q).v=v at*;obtain⟨hk,a0⟩:=hn;have hf:v.c<P:=by rcases a2 with⟨e,_⟩|⟨_,e⟩|⟨e,_⟩<;>omega
 obtain⟨gf,cf,a5,r0,b5,_,d2⟩:=KF h u hf;have b3:(((CO P v.c).m:zw) !=(L b:zw))=zr:=by simp[a0]
 have b2:((v.e:zw) !=1)=zr:=by simp[hk]
 have b0:(v.c:zw)<(L P:zw):=by omega
 have a6:=k.yB v.c;have X:=λ(F:I') (r:O Cb w F)=>MJ i o f B j y z p P n m v.c d E b (Y xa b xc) F (h.t8 r) (u.t8 r) k t.ct V hf R (by omega)<|Cx s r λ_ _ q=>q
 have N:Ef P {m with c:={m.c with xG:=(c,v.c)::m.c.xG}} v.c b d={(Ef P m v.c b d)with c:={(Ef P m v.c b d).c with xG:=(c,v.c)::(Ef P m v.c b d).c.xG}}:=by unfold Ef;simp only;rw[Ba<|by omega,Ba<|by omega];unfold Co.enter;simp only[Ol];congr 1;exact bI b (L m.c.d) (m.c.y v.c<|L (CO P v.c).y) _
 rw[N];have a4:L (Ef P m v.c b d).c.xG<=300000:=by unfold Ef;rw[Ba<|by omega];simp only[Co.enter,Ol,Co.y];have:=t.pl;omega
 have a9:=k.xE;have a3:=W.new w #[G A v.e,G A v.c] 231;generalize (CO P v.c).m=pp at*;generalize Ef P m v.c b d=a7 at*;subst a5;clear a2 hk u N a0 V k R a6 s;go_in;go_wp2_with fail;go_quiet(fail);go_wp2_with fail;refine(X _ oq).mono ?_;rintro e w2 ⟨rfl,s1,C⟩;have S2:=(E8.wW (a:=w) oq).trans C;have S:=C.p (h.t8 oq) (W.j a3 (O.drewN (CT Cb _) _) id) (by decide) (by decide) (by decide);have b1:=S.j1;have lb:=Cz S;obtain⟨mv,rv,ch,l⟩:=s1;have r9:=l.p.j9;have b6:=Cz l.p;obtain⟨w3,a1,h3,K⟩:=(l.t8<|(CT Cb w2).drew).cj (c,v.c) (by simp only;omega) (by simp only;omega) a4;have a1:(Instr.mapUpdate 175 (.map<|T f) (N' #[c,v.c])<|N' #[]).run zy _=.ok () w3:=a1;have F3:=(S2.trans<|E8.wW<|(CT Cb w2).drew).trans K;clear C X l K;go_wp2_with fail;go_region;go_wp2_with fail;go_end0;exact⟨Q,⟨_,_,_,h3⟩,F3⟩
theorem oH(f r)(k:M):(VI (f::r)).set (L r*4+2) k=VI ({f with q:=k}::r):=by rw[Nd,Nd];have h:=ZM r;rw[List.set_append];rw[Ba<|by omega];congr 1;rw[show r*4+2-L (VI r)=2 by omega];rfl
theorem Fs.zR(h:Fs B C R X V v0 p0 o1 u2 z0 (Y (T ⟨s2,0,Z⟩) p4 s3) u0 P)(i:u2.v=x9::n7)(k):
 Fs B C R X V v0 p0 o1 {u2 with v:={x9 with q:=k}::n7} z0 (Y (T ⟨s2,0,Z⟩) p4 s3) u0 (P.setCell ⟨s2,L n7*4+2,Z⟩<|G A k)/\E8 B C R X P (P.setCell ⟨s2,L n7*4+2,Z⟩<|G A k):=by
 cases CU h.U;have⟨c,b⟩:=E0 h.U;have d:=(h.U.lt s2 Q).1;have a:O (λk=>k=s2) P<|P.setCell (s2,L n7*4+2) k:=(CT _ _).wS _ _;have j:=(h.U.stored (L n7*4+2) k).1;have e:(VI u2.v).set (L n7*4+2) k=VI ({x9 with q:=k}::n7):=by grind[oH]
 rw[e]at j;have l:L ({x9 with q:=k}::n7:List NU)=u2.v:=by rw[i];simp
 refine⟨⟨h.p.j a λq=>CL h.U h.p nofun s2 Q q.symm,h.xS,Cx h.d a<|CL h.d b nofun,?_,h.x.j a<|h.x.ne b,h.xG.j a<|h.xG.ne b,h.lb,h.ne⟩,a.mono λk _ q=>by subst q;exact zn<|zn<|zn ⟨d,c,_,_,b,zn Q⟩⟩;grind
theorem Fs.zP(h:Fs B C R X V v0 p0 o1 u2 z0 (Y (T ⟨s2,0,Z⟩) p4 s3) u0 P)(c:u2.v=x9::n7):
 K' P ⟨s2,L n7*4+2,Z⟩=T (G A x9.q)/\P.frozen? ⟨s2,L n7*4+2,Z⟩=zr/\s2<P.heap.size:=by
 have⟨e,b⟩:=E0 h.U;have k:L u2.v=n7+1:=by rw[c];simp
 cases CU h.U;refine⟨?_,CZ b _,Cz b⟩;have d:=h.U.cellAt (L n7*4+2) (by omega);have a:=Yd u2.v (i:=0) (j:=2) (by omega) (by decide);rw[show u2.v-1-0=L n7 by omega]at a;rw[d,a];simp only[c,AA];rfl
theorem Fs.yR(h:Fs B C R X V v0 p0 o1 u2 z0 (Y (T ⟨s2,0,Z⟩) p4 s3) u0 P)(b:u2.v=x9::n7):
 K' P ⟨s2,L n7*4+1,Z⟩=T (G A x9.wX)/\s2<P.heap.size:=by
 have⟨e,d⟩:=E0 h.U;have k:L u2.v=n7+1:=by rw[b];simp
 cases CU h.U;refine⟨?_,Cz d⟩;have c:=h.U.cellAt (L n7*4+1) (by omega);have a:=Yd u2.v (i:=0) (j:=1) (by omega) (by decide);rw[show u2.v-1-0=L n7 by omega]at a;rw[c,a];simp only[b,AA];rfl
theorem DU.runs(a:DJ R B C n0 o2 u3 P):∃b,W R b 58 P:=by have⟨d,e,c,f,a⟩:=a;exact⟨_,a.p⟩
structure Py(rb pb B:M)(U:Ce)(fv sv:H')(rf:Dd)(fs:C8)(p0 c0:M)(fn:Cc)(par:Cf)(X:FZ)(fi base K:M)(S:RS)(w:I'):Prop where
 st:Se fn par X rf fs
 r:DJ rb pb B fn X S w
 p:KO pb B U fv sv rf fs p0 c0 w
 m:EI fn S.c.d
 R:S.c.d+20*S.left+16<=K
 pl:S.c.x.length+S.c.xG+20*S.left+16<=K
 gv:E9 fn S.c.d S.xP
 k:K<=150000
 yN:S.f+S.left<=5000
 dp:S.u<=40
 V:S.s=0
 lf:fi<rf
 ba:base+(CP X fi).y.length<=S.c.d
theorem Py.t8(h:Py B C R z1 V z0 o0 x1 X v0 n0 q2 o2 p0 o1 s2 u3 P)(a:O Cb P y0):Py B C R z1 V z0 o0 x1 X v0 n0 q2 o2 p0 o1 s2 u3 y0:=
 ⟨h.st,h.r.t8 a,h.p.t8 a,h.m,h.R,h.pl,h.gv,h.k,h.yN,h.dp,h.V,h.lf,h.ba⟩
theorem Py.at_(u)(h:Py B C R z1 V z0 o0 x1 X v0 n0 q2 o2 u.l p0 o1 u3 P)(a b c i j k d f g t)(l:t.a∈(CP o2 u.l).y):
 F' zy 159 #[Z' B,N'<|Dc u (Y a i d) (Y b j f)<|Y c k g,p0,MR t] P λe m=>e=G A ((p0+vx (CP o2 u.l).y t.a:M):zw)/\O Cb P m:=
 KG B C R z1 V z0 o0 x1 X v0 n0 o2 u3 u a b c i j k d f g p0 t P h.r h.p h.st.h h.lf (by have:=h.R;have:=h.ba;have:=h.k;omega) l
theorem bX(a:vL n0 q2 o2){F K f args S}(j:EI n0 S.c.d)(m:L S.c.d+20*S.left+14<=K)(n:L S.c.x+L S.c.xG+20*S.left+14<=K)(i:S.left<F)(g:∀v,v∈args->E9 n0 S.c.d v)(p:L args<=12)(e:(Fe o2 (Da o2 n0 F) f args S).1=zt):
 TV (K-1) n0 (Fe o2 (Da o2 n0 F) f args S).2/\L S.c.d<=(Fe o2 (Da o2 n0 F) f args S).2.c.d:=by
 unfold Fe at e|-;by_cases h:S.u=40;grind;simp only[Ba h];have o:=a.xE f;have⟨d,l⟩:=Qx j f (CP o2 f).y g;have I:=Nh a F (K-1) f S.c.d (CP o2 f).i (CP o2 f).pl (CP o2 f).g {S with c:=S.c.enter f (CP o2 f).y args,u:=S.u+1,xP:=Hd} ⟨d.m,by grind,by have:=d.se;grind,LF _ _⟩ i (by grind) (a.us f)<|a.pl f;generalize Da o2 n0 F f (L S.c.d) (CP o2 f).i (CP o2 f).pl (CP o2 f).g {S with c:=S.c.enter f (L (CP o2 f).y) args,u:=S.u+1,xP:=Hd}=r at I|-;have⟨b,k,q⟩:=I;simp only at k;exact⟨⟨b.m,b.R,b.pl,b.gv⟩,by omega⟩
theorem Gu.ao{S' m c}(h:Gu B C R n0 o2 u3 V z0 u0 m P)(e:O Cb P y0)(f:R<=X)(d:CK X y0 s0 c)(l:IG n0 o2 c S'.c.x S'.c.xG)(g:fO C V u0 S' s0=(fO C V u0 u3 z0).setIfInBounds 7 s0)(j:S'.c.d=u3.c.d)(i:S'.c.N=u3.c.N):
 Gu B C R n0 o2 S' V s0 u0 c (y0.setCell (B,7) s0)/\DU B R P (y0.setCell (B,7) s0):=by
 have b:O (λk=>k=B) y0<|y0.setCell (B,7) s0:=(CT _ _).wS 7 _;have a:=h.t8 e;refine⟨⟨by rw[g];exact a.p.set 7 s0,by rw[i];exact h.xS,?_,Cx (CN d f) b<|CL d a.p nofun,l,h.lb⟩,(DU.wW e).trans<|DU.xM b⟩;rw[j];exact Cx a.d b<|CL a.d a.p nofun
theorem Tryz.infoVal:(Tryz.prog.info? 56).map (λi=>(i.zero,i.size,i.bytes))=T (T<|G A 0,1,8):=by kernel_rfl
section
variable{P:Program}{r:Array Oper}{md:Region.Mode}{C:I'->Prop}
def aE(md:Region.Mode)(r:Array Oper)(m n:M):Bool:=(List.range n).all λi=>zu (i<m)||(List.range (n+1)).any λj=>zu (i<j) && Region.waitsFor md r j i
theorem TE{m n:M}{b:Array Bool}(z:aE md r m n=zt)(q:Region.chainB md r n=zt)(o:HeadInv md r n b):
 ∀(d i:M),n-i=d->m<=i->i<n->b.getD i zt=zr->∀t,n<=t->t∉Region.ready md r b:=by
 intro d;induction d using Nat.strongRecOn with
 |_ d R=>
  intro i F K s P t N y;have⟨_,U,l,p⟩:=mem_ready.1 y;have B:t<r:=(Array.getElem?_eq_some_iff.1 l).1;by_cases C:t=n;subst C;have a:=List.all_eq_true.1 z i<|List.mem_range.2 s;simp only[Bool.or_eq_true,A7]at a;have⟨j,u,h⟩:=List.any_eq_true.1 (a.resolve_left<|by omega);simp only[Bool.and_eq_true,A7]at h;have⟨E,x,e,g,f,k⟩:=Region.waitsFor_spec h.2;have H:=List.mem_range.1 u;by_cases I:j=t;grind;cases v:b.getD j zr with
  |true=> have c:=o.closed j E x v e g f;grind
  |false=>grind
  have a:=List.all_eq_true.1 q t<|List.mem_range.2 B;simp only[Bool.or_eq_true,A7]at a;have⟨S,w,e,g,f,k⟩:=Region.waitsFor_spec (a.resolve_left<|by omega);obtain rfl:=Bo<|w.symm.trans l;have c:=p e g f;rw[k,getD_both<|o.tail (t-1) (by omega)<|by omega]at c;cases c
def VK(P:Program)(md:Region.Mode)(r:Array Oper)(C:I'->Prop)(n:M)(c:Array Bool->Act->Prop):M->Array Bool->Act->Prop
 |0,b,a=>c b a
 |f+1,b,a=>Region.ready md r b≠[]/\∀i∈Region.ready md r b,i<n/\qOp P r C i (VK P md r C n c f<|b.setIfInBounds i zt) a
theorem Ku{n g:M}{d:Array Bool->Act->Prop}{Q':Exit->Act->I'->Prop}(e:∀b a w,C w->d b a->wpAny P md r Q' g b a w):
 ∀(f:M) (b:Array Bool) (a:Act) (w:I'),C w->VK P md r C n d f b a->wpAny P md r Q' (f+g) b a w
 |0,b,a,w,c,h=>by rw[AM];exact e _ _ _ c h
 |f+1,b,a,w,c,h=>by rw[show f+1+g=(f+g)+1 by omega];exact⟨λl=>Bm l h.1,λi o=>wpOp_of_qOp c (λj p m k=>Ku e f _ j p m k) (h.2 i o).2⟩
theorem VL{m n i s v}{y:Array Bool->Act->Prop}(z:r[i]? =T s)(S:∀(j:M) (o:Oper) p b,r[j]? =T o->o.op≠.select p b)
 (R:aE md r m n=zt)(F:Region.chainB md r n=zt)(N:m<=i)(K:i<n)(a0:∀c a,y c a->∀j∈Region.ready md r c,n<=j):
 ∀(f:M) (c:Array Bool) (a:Act),HeadInv md r n c->
  (∀j l,r[j]? =T l->j≠i->c.getD j zt=zr->(∀e∈l.after,Region.binds md e=zt->e.on≠i)->s.apart r l=zt)->
  i∈Region.ready md r c->YieldsIn P r C s v a->
  VK P md r C n y f (c.setIfInBounds i zt) (a.put s.dst v)->VK P md r C n y (f+1) c a:=by
 intro f;induction f with
 |zero=> intro c a x _ u w H;have E:=(mem_ready.1 u).1;refine⟨λh=>(by grind),λj d=>?_⟩;have t:j<n:=(AV j n).resolve_right λq=>TE R F x _ i Q N K E j q d;refine⟨t,?_⟩;by_cases g:j=i;subst g;exact w.qOp z H;have:=a0 _ _ H j<|ready_mono d g;omega
 |succ f ih=>
  intro c a x I u w H;have E:=(mem_ready.1 u).1;refine⟨λh=>(by grind),λj d=>?_⟩;have t:j<n:=(AV j n).resolve_right λq=>TE R F x _ i Q N K E j q d;refine⟨t,?_⟩;by_cases g:j=i;subst g;exact w.qOp z H;have X:=(H.2 j<|ready_mono d g).2;have⟨a2,l,B,a6⟩:=mem_ready.1 d;have a5:∀e∈l.after,Region.binds md e=zt->e.on≠i:=λe he hb a7=>by grind
  have h2:=qOp_put B (I j l B g a2 a5) (λp b=>S i s p b z) (λp b=>S j l p b B) w X;refine qOp_mono (λV h3=>ih (c.setIfInBounds j zt) V (x.set d t) (λk ok hk a3 U a4=>?_) (ready_mono u<|Ne.symm g) h3.1 ?_) h2;refine I k ok hk a3 ?_ a4;by_cases a1:j=k;grind;rw[getD_set_ne zt a1]at U;exact U;grind[Array.setIfInBounds_comm]
theorem Os{m n g:M}{d:Act->Prop}(x:Region.noSelect r=zt)(w:aE md r m n=zt)(p:Region.chainB md r n=zt):
 ∀(l:List Oper) (k:M) (b:Array Bool) (a:Act),(∀j,j<L l->l[j]? =r[k+j]?)->m<=k->k+L l=n->HeadInv md r n b->
 Region.lexHead md r g (L l) k b=zt->wpQuiet P r C d l a->
 VK P md r C n (λz i=>Region.seqB md r g n z=zt/\d i) (L l) b a
 |[],k,b,a,_,_,q,_,f,h=>by
  have e:k=n:=by omega
  subst e;exact⟨by grind[Region.lexHead],h⟩
 |o::l,k,b,a,t,I,q,y,f,h=>by
  have c:r[k]? =T o:=by simpa using(t 0<|by simp).symm
  simp only[Af,Region.lexHead,Bool.and_eq_true]at f;obtain⟨⟨S,H⟩,B⟩:=f;simp only[Af]at q;have s:k<n:=by omega
  have u:k∈Region.ready md r b:=by grind
  have K:qOp P r C k (wpQuiet P r C d l) a:=by unfold qOp;simp only[c];exact h
  obtain⟨v,N,E⟩:=yieldsIn_of_qOp c K;exact VL c (Region.noSelect_spec x) w p I s (λz i F=>seqB_ready F.1) (L l) b a y (Region.free_spec c H) u N
   (Os x w p l (k+1) _ _ (λj R=>by have:=t (j+1) (by simp;omega);grind) (by omega) (by omega) (y.set u s) B E)
def UG(md:Region.Mode)(r:Array Oper)(n:M):Bool:=
 Region.noSelect r && zu (n<r) && zu (1<=n) && aE md r 1 n && Region.chainB md r n && Region.free md r (Array.replicate r zr) 0 && (Region.ready md r<|Array.replicate r zr).contains 0 && Region.lexHead md r (r-n) (n-1) 1 ((Array.replicate r zr).setIfInBounds 0 zt)
theorem J9{id}{d:Exit->Act->I'->Prop}{a w o l v}(n)(x:P.follows .mixedOrders=zt)(f:UG .any (o::l).toArray n=zt)
 (q:∀c a w,d (.panic c) (a.put o.dst v) w->d (.panic c) a w)(I:Yields P (o::l).toArray o v a)
 (h:wpQuiet P (o::l).toArray (λb=>∃n,b=w.drewN n) (λe=>∀b,(∃n,b=w.drewN n)->wpList P (o::l).toArray d (l.drop<|n-1) e b) (l.take<|n-1)<|a.put o.dst v):(Code.region id (o::l).toArray zt).wp P d a w:=by
 simp only[UG,Bool.and_eq_true,A7]at f;have⟨⟨⟨⟨⟨⟨⟨i,hn⟩,R⟩,B⟩,s⟩,u⟩,y⟩,a0⟩:=f;have a1:n<l+1:=by omega
 have F:(l.take<|n-1)=n-1:=by simp;omega
 have E:(o::l).toArray.size=l+1:=by simp
 have V:L (l.drop<|n-1)=(o::l).toArray.size-n:=by simp;omega
 have p:(o::l).toArray[0]? =o:=by simp
 have K:HeadInv .any (o::l).toArray n<|Array.replicate (o::l).toArray zr:=
  ⟨by simp,λj oj _ hl=>(by grind[getD_replicate_false]),λt _ ht=>getD_in (by grind)<|getD_replicate_false _ _⟩
 have z:0∈Region.ready .any (o::l).toArray (Array.replicate (o::l).toArray zr):=by grind
 have N:=K.set z (by omega);have H:=Os (md:=.any) (m:=1) (g:=(o::l).toArray-n) i B s (l.take<|n-1) 1 _ (a.put o.dst v) (λj X=>by grind) (Ad _) (by omega) N (by grind) h
 apply wp_region_any x;have k:=Ku (C:=λb=>∃n,b=w.drewN n) (Q':=d) (g:=(o::l).toArray-n) (λa2 e b S U=>by grind[wpAny_of_seq]) _ _ _ _ ⟨1,Q⟩ H
 rw[F,show n-1+((o::l).toArray-n)=l by omega]at k;rw[E];exact wpAny_take p i u y q I k
end
theorem pL(R:Act->I'->Prop)(b q k i f s p u B:M)(l:Ch)(n:M)(d:Cc)(c h:Cd)(wc:I'){d6 d7 d8 e0 e1 e2 e3 e4 e5 e6 e7 f8 f9 g0 g1 g2 g3 g4 g5 g6 g7 g8 g9 h0 h1 h2 h3 h4 h5 h6 h7 h8 h9 i0 i1 i2 i3 e8 e9 f1 f2 f3 H I K N P S U a0 a1 a2 a3 a4 a5 a6 a7 a8 a9 b0 b1 b2 b3 b4 b5 b6 b7 b8 b9 c0 c1 c2 c3 c4 c5 c6 c7 c8 c9 d0 d1 d2 d3 d4 d5:H'}
 (R0:K' wc ⟨b,0,Z⟩=T (Z'<|T ⟨k,0,Z⟩))(R7:K' wc ⟨b,7,Z⟩=T (Y l (L d) n))(RZ:wc.frozen? ⟨b,7,Z⟩=zr)(E:b<(wc:M))(d9:K' wc ⟨q,9,Z⟩=T (G A (s:zw)))(P0:K' wc ⟨k,0,Z⟩=T (Y (T ⟨i,0,Z⟩) p u))(f0:K' wc ⟨i,f*7,Z⟩=T (Y' h))(i9:f<p)
 (x:∀t:I',F' zy 22 #[G A (s:zw)] t λe F=>e=T' (Y' c)/\∃m,F=t.drewN m)(C:CK B wc (Y l (L d) n) d)(j1:L d<=200000)(hD:c.size<=5000)(hn:h.size<=5000)
 (y:∀(o:H') (g:I'),CK (wc:M) g o (EP d<|(⟨#[33]⟩:Cd)++c++⟨#[62]⟩++h)->O Cb wc g->R {tmps:=#[Z'<|T ⟨b,0,Z⟩,V,z0,s0,Z'<|T ⟨q,0,Z⟩,u1,x2,G A (f:zw),v2,z3,y3,x3,v3,t3,o3,z4,y4,r4,o4,y5,x5,v5,u5,r5,o5,n5,z6,u6,t6,y8,r6,q6,p6,o6,y6,x8,x7,v7,u7,t7,s7,r7,q7,p7,n6,z7,x6,v6,q5,p5,o7,v8,r8,u9,s9,r9,o9,n9,d6,d7,d8,e0,e1,e2,e3,e4,e5,e6,e7,Z'<|T ⟨b,0,Z⟩,Z'<|T ⟨b,0,Z⟩,Z'<|T ⟨b,0,Z⟩,Z'<|T ⟨b,7,Z⟩,Y l (L d) n,Z'<|T ⟨q,9,Z⟩,G A (s:zw),Y' c,Y'<|(⟨#[33]⟩:Cd)++c,Y'<|(⟨#[33]⟩:Cd)++c++⟨#[62]⟩,Z'<|T ⟨b,0,Z⟩,Z'<|T ⟨b,0,Z⟩,Z'<|T ⟨b,0,Z⟩,Z'<|T ⟨k,0,Z⟩,Z'<|T ⟨k,0,Z⟩,Z'<|T ⟨k,0,Z⟩,Y (T ⟨i,0,Z⟩) p u,G A (f:zw),Z'<|T ⟨i,f*7,Z⟩,Z'<|T ⟨i,f*7,Z⟩,Z'<|T ⟨i,f*7,Z⟩,Y' h,Y'<|(⟨#[33]⟩:Cd)++c++⟨#[62]⟩++h,o,Z'<|T ⟨b,0,Z⟩,Z'<|T ⟨b,7,Z⟩,e8,e9,f1,f2,f3,H,I,K,N,P,S,U,a0,a1,a2,a3,a4,a5,a6,a7,a8,a9,b0,b1,b2,b3,b4,b5,b6,b7,b8,b9,c0,c1,c2,c3,c4,c5,c6,c7,c8,c9,d0,d1,d2,d3,d4,d5],defers:=[]} (g.setCell ⟨b,7,Z⟩ o)):
 Code.wp zy (rg Tryz.f160 9) (K6 R) {tmps:=#[Z'<|T ⟨b,0,Z⟩,V,z0,s0,Z'<|T ⟨q,0,Z⟩,u1,x2,G A (f:zw),v2,z3,y3,x3,v3,t3,o3,z4,y4,r4,o4,y5,x5,v5,u5,r5,o5,n5,z6,u6,t6,y8,r6,q6,p6,o6,y6,x8,x7,v7,u7,t7,s7,r7,q7,p7,n6,z7,x6,v6,q5,p5,o7,v8,r8,u9,s9,r9,o9,n9,d6,d7,d8,e0,e1,e2,e3,e4,e5,e6,e7,f8,f9,g0,g1,g2,g3,g4,g5,g6,g7,g8,g9,h0,h1,h2,h3,h4,h5,h6,h7,h8,h9,i0,i1,i2,i3,e8,e9,f1,f2,f3,H,I,K,N,P,S,U,a0,a1,a2,a3,a4,a5,a6,a7,a8,a9,b0,b1,b2,b3,b4,b5,b6,b7,b8,b9,c0,c1,c2,c3,c4,c5,c6,c7,c8,c9,d0,d1,d2,d3,d4,d5],defers:=[]} wc:=by
 change Code.wp _ (.region _ _ _) _ _ _;obtain⟨HQ,f5,f4⟩:=Dq y C x;have j0:(f:zw)<(p:zw):=by omega
 have i6:¬(9223372036854775807<1+c.size):=by omega
 have i7:¬(9223372036854775807<1+c.size+1):=by omega
 have i8:¬(9223372036854775807<1+c.size+1+h.size):=by omega
 clear y C x;apply J9 (v:=Z'<|T ⟨b,0,Z⟩) 23 (by kernel_rfl) (by kernel_rfl) Io<|zo ⟨by rfl,λw=>by go_simp⟩;simp only[AX,List.take_zero,Bl,List.drop_zero];repeat(quiet_step ((go_at_call 22;exact Calls.quiet_of<|f4.o _)))
 apply wpQuiet_nil;intro F f6;have⟨nq,f7⟩:=f6;subst f7;go_wp2_with fail;apply(Jp B (Y l d n) d _ _ (Cx f5.o oq Ed)<|by omega).mono;rintro e g ⟨o,rfl,j,z⟩;have j:CK wc g o<|EP d<|(⟨#[33]⟩:Cd)++c++⟨#[62]⟩++h:=by simpa using j
 obtain⟨ya,yl,yc,rfl⟩:=CA j;have r:=J<|O.trans (X:=Cb) (a:=wc) oq z;have i4:g (b,7)=Y l d n:=(Ae<|r.o.block b E id).trans R7;have i5:g.frozen? (b,7)=zr:=(Aj<|r.o.block b E id).trans RZ;have j:=J j;clear z;go_wp2_with fail;exact HQ.o _ g j.o r.o
theorem IF{d:Region.Mode}{R:Act->I'->Prop}(i v){c:Array Bool}(f:z5[i]? =p3)(b:(Region.noSelect z5 && Region.free d z5 c i && (Region.ready d z5 c).contains i)=zt)(j:Region.wanted p3 (yielded z5 u4.tmps)=zt)(g:∀P,p8 P->(execOp u4.eval p3).run q4 P=.ok (.value v) P)(e:p8 P)
 (h:wpAnyH q4 d z5 (K6 R) p8 B (c.setIfInBounds i zt) (u4.put p3.dst v) P):wpAnyH q4 d z5 (K6 R) p8 (B+1) c u4 P:=by
 simp only[Bool.and_eq_true]at b;exact wpAnyH_take f b.1.1 b.1.2 b.2 Io (zo ⟨j,g⟩) e h
theorem kH(R:Act->I'->Prop)(p h k f x a0 u C t s r n)(I:H'->I'->Prop)(N:I'->Prop){f7 f8 f9 g0 g1 g3 g4 g6 g7 g8 g9 h0 h1 h2 h3 h4 h5 h6 h7 h8 h9 i0 i1 i2 i3 i4 i5 i6 i7 i8 i9 j0 j1 j2 j3 j4 j5 j6 j7 j8 a2 a3 a4 a5 a6 a7 a8 a9 b0 b1 b2 b3 b4 b5 b6 k2 k3 k4 k5 k6 k7 k8 k9 l0 l1 l2 l3 l4 b7 b8 b9 c0 c1 c2 c3 c4 c5 c6 c7 c8 c9 d0 d1 d2 d3 d4 d5 d6 d7 d8 d9 e0 e1 e3 e4 e6 e7 e8 e9 f0 f1 f2 f3 f4 f5 f6:H'}
 (P:K' n ⟨f,2,Z⟩=T (G A u))(U:K' n ⟨f,5,Z⟩=T (Y t s r))(fb:K' n ⟨h,k+1,Z⟩=T (G A C))(ls:f<n.heap.size)
 (hA:∀q,O Cb n q->F' zy 117 #[Z'<|T ⟨p,0,Z⟩,G A C,Y t s r] q λe m=>∃v,e=T' v/\(∃a l c,v=Y a l c)/\I v m/\O Cb q m)
 (hE:∀v q,I v q->O Cb n q->F' zy 74 #[Z'<|T ⟨p,0,Z⟩,G A u,v,G A x] q λe m=>∃b,e=T' (O' b)/\N m/\K' m ⟨f,2,Z⟩=T (G A u)/\K' m ⟨f,5,Z⟩=T (Y t s r))
 (hQ:∀(b:Bool) (E:Ch) (H F:M) (y:I'),N y->R {tmps:=#[Z'<|T ⟨p,0,Z⟩,V,Z'<|T ⟨h,k,Z⟩,Z'<|T ⟨f,0,Z⟩,G A x,G A a0,z0,s0,u1,x2,v2,z3,y3,x3,v3,t3,o3,z4,y4,r4,o4,y5,x5,v5,u5,r5,o5,n5,z6,u6,t6,y8,r6,q6,p6,o6,y6,x8,x7,v7,u7,t7,s7,r7,q7,p7,n6,z7,x6,v6,q5,p5,o7,v8,r8,u9,s9,r9,o9,n9,f7,f8,f9,g0,g1,g3,g4,g6,g7,g8,g9,h0,h1,h2,h3,h4,h5,h6,h7,h8,h9,i0,i1,i2,i3,i4,i5,i6,i7,i8,i9,j0,j1,j2,j3,j4,j5,j6,j7,j8,a2,a3,a4,a5,a6,a7,a8,a9,b0,b1,b2,b3,b4,b5,b6,Z'<|T ⟨p,0,Z⟩,Z'<|T ⟨f,2,Z⟩,G A u,Z'<|T ⟨p,0,Z⟩,Z'<|T ⟨h,k,Z⟩,Z'<|T ⟨h,k,Z⟩,Z'<|T ⟨h,k+1,Z⟩,G A C,Z'<|T ⟨f,5,Z⟩,Y t s r,Y E H F,G A x,O' b,b7,b8,b9,c0,c1,c2,c3,c4,c5,c6,c7,c8,c9,d0,d1,d2,d3,d4,d5,d6,d7,d8,d9,e0,e1,e3,e4,e6,e7,e8,e9,f0,f1,f2,f3,f4,f5,f6],defers:=[]} y):
 Code.wp zy (rg Tryz.f76 20) (K6 R) {tmps:=#[Z'<|T ⟨p,0,Z⟩,V,Z'<|T ⟨h,k,Z⟩,Z'<|T ⟨f,0,Z⟩,G A x,G A a0,z0,s0,u1,x2,v2,z3,y3,x3,v3,t3,o3,z4,y4,r4,o4,y5,x5,v5,u5,r5,o5,n5,z6,u6,t6,y8,r6,q6,p6,o6,y6,x8,x7,v7,u7,t7,s7,r7,q7,p7,n6,z7,x6,v6,q5,p5,o7,v8,r8,u9,s9,r9,o9,n9,f7,f8,f9,g0,g1,g3,g4,g6,g7,g8,g9,h0,h1,h2,h3,h4,h5,h6,h7,h8,h9,i0,i1,i2,i3,i4,i5,i6,i7,i8,i9,j0,j1,j2,j3,j4,j5,j6,j7,j8,a2,a3,a4,a5,a6,a7,a8,a9,b0,b1,b2,b3,b4,b5,b6,k2,k3,k4,k5,k6,k7,k8,k9,l0,l1,l2,l3,l4,b7,b8,b9,c0,c1,c2,c3,c4,c5,c6,c7,c8,c9,d0,d1,d2,d3,d4,d5,d6,d7,d8,d9,e0,e1,e3,e4,e6,e7,e8,e9,f0,f1,f2,f3,f4,f5,f6],defers:=[]} n:=by
 change Code.wp _ (.region _ _ _) _ _ _;obtain⟨HA,HE,HQ⟩:=Dq hA hE hQ;clear hA hE hQ;refine wp_region_held_drew (S:=λm=>K' m ⟨f,2,Z⟩=T (G A u)/\K' m ⟨f,5,Z⟩=T (Y t s r)) (by kernel_rfl) ⟨P,U⟩ λg=>?_;refine IF 0 (Z'<|T ⟨p,0,Z⟩) Q (by kernel_rfl) Q (λw d=>by obtain⟨i,j⟩:=d;go_simp) g ?_;simp only[Act.put];refine IF 1 (Z'<|T ⟨f,2,Z⟩) Q (by kernel_rfl) Q (λw d=>by obtain⟨i,j⟩:=d;go_simp) g ?_;simp only[Act.put];refine IF 2 (G A u) Q (by kernel_rfl) Q (λw d=>by obtain⟨i,j⟩:=d;go_simp) g ?_;simp only[Act.put];refine IF 3 (Z'<|T ⟨p,0,Z⟩) Q (by kernel_rfl) Q (λw d=>by obtain⟨i,j⟩:=d;go_simp) g ?_;simp only[Act.put];refine IF 4 (Z'<|T ⟨h,k,Z⟩) Q (by kernel_rfl) Q (λw d=>by obtain⟨i,j⟩:=d;go_simp) g ?_;simp only[Act.put];refine IF 5 (Z'<|T ⟨h,k,Z⟩) Q (by kernel_rfl) Q (λw d=>by obtain⟨i,j⟩:=d;go_simp) g ?_;simp only[Act.put];refine IF 6 (Z'<|T ⟨h,k+1,Z⟩) Q (by kernel_rfl) Q (λw d=>by obtain⟨i,j⟩:=d;go_simp) g ?_;simp only[Act.put];refine IF 8 (Z'<|T ⟨f,5,Z⟩) Q (by kernel_rfl) Q (λw d=>by obtain⟨i,j⟩:=d;go_simp) g ?_;simp only[Act.put];refine IF 9 (Y t s r) Q (by kernel_rfl) Q (λw d=>by obtain⟨i,j⟩:=d;go_simp) g ?_;simp only[Act.put];refine IF 11 (G A x) Q (by kernel_rfl) Q (λw d=>by obtain⟨i,j⟩:=d;go_simp) g ?_;simp only[Act.put];apply Ca (rs:=[7]) (by kernel_rfl) (by simp);refine BY Q (λK o=>?_) BZ;go_simp;refine o.out _ _ g λg=>?_;clear o K;apply Ca (rs:=[10]) (by kernel_rfl) (by simp);refine BY Q (λK o=>?_) BZ;go_simp;apply(HA.o _ oq).mono;rintro e w2 ⟨l5,rfl,⟨E,H,F,rfl⟩,a1,u2⟩;have U1:=J a1;have B:=J<|O.trans (X:=Cb) (a:=n) oq u2;have g2:K' w2 ⟨f,2,Z⟩=T (G A u):=(Ae<|B.o.block f ls id).trans P;have g5:K' w2 ⟨f,5,Z⟩=T (Y t s r):=(Ae<|B.o.block f ls id).trans U;clear a1 u2;dsimp only;refine o.out _ _ ⟨g2,g5⟩ λg=>?_;clear o K;apply Ca (rs:=[12]) (by kernel_rfl) (by simp);refine BY Q (λK o=>?_) BZ;go_simp;apply(HE.o _ _ U1.o B.o).mono;rintro e y ⟨b,rfl,z,k0,k1⟩;have j9:=J z;clear z;try dsimp only
 refine o.out _ _ ⟨k0,k1⟩ λ_=>?_;clear o K;refine wpAnyH_done (by kernel_rfl) ?_ _;exact HQ.o b E H F y j9.o
def Fa(m:M)(l:Cc)(w:I'):Prop:=∃n a,n<=L l/\D5 m n a w/\∀s,a.atKey (Eg s) (.lit<|.int .i64 0)=.lit (.int .i64 (vx l s:M))
theorem Fa.j{X:Ce}{w w'}(h:Fa B n0 w)(e:O X w w')(f:¬X B):Fa B n0 w':=by have⟨n,a,d,c,b⟩:=h;exact⟨n,a,d,c.j e f,b⟩
theorem Fa.ne{w}(h:Fa B n0 w){a}(d:w.heap[C]? =T (R' q1 q0 a)):B≠C:=by have⟨n,e,g,c,f⟩:=h;exact c.ne d
theorem Fa.lt{w}(h:Fa B n0 w):B<w:=by have⟨n,b,d,a,c⟩:=h;exact World.ownsMap.lt a
theorem Fa.none(w:I'):Fa w []<|w.alloc<|.map #[] 0:=
 ⟨0,.map [],Ad _,World.ownsMap_made w _ _ _,λs=>by simp[DataW.atKey,vx,D9]⟩
theorem Fa.look{w}(h:Fa B n0 w){s}(a:s.size<=4000):
 (Instr.lookup 140 (.map<|T B) (Y' s) zr).run zy w=.ok (G A (vx n0 s:M)) w:=by
 have⟨n,d,g,b,e⟩:=h;have⟨c,i,f,_⟩:=World.ownsMap.lookup_int b QZ underlying140 underlying3 (UT w)<|Nk a;grind
theorem Pc(m s):∀(l:Cc),s∉l->∀k,D9 (l++m) s k=D9 m s (k+l)
 |[],_,k=>rfl
 |a::l,h,k=>by simp only[List.cons_append,D9,Af];rw[Ba λq=>h<|by rw[EQ q];simp,Pc m s l (λq=>h<|Ax _ q)<|k+1];congr 1;omega
theorem ZH(h:u0∉n0)(k):D9 n0 u0 k= -1:=by have⟨a,b,_⟩:=Et n0 u0 k;grind
theorem qK(l t s)(h:t∉l):vx (l++[t]) s=if s=t then L l else vx l s:=by grind[UP,vx,Pc,D9,ZH]
theorem Fa.add{w}(h:Fa B n0 w)(b:u0.size<=4000)(g:L n0<=4000)(j:u0∉n0):
 ∃a,(Instr.mapUpdate 140 (.map<|T B) u0 n0).run zy w=.ok () a/\Fa B (n0++[u0]) a/\O (λk=>k=B) w a:=by
 have⟨n,o,r,c,q⟩:=h;have⟨a,i,d,f⟩:=Jb (p:=n0) c b g (by omega);refine⟨a,i,⟨n+1,_,by simp;omega,d,λs=>?_⟩,f⟩;rw[qK n0 u0 s j];split;rename_i e;subst e;rw[Maps.atKey_put_same (World.ownsMap.isMap c)<|QZ.key<|Nk b];grind[Maps.atKey_put_other,Nj]
theorem Pm(h:J' P B q0 R V X y1)(c:O (λk=>k=C) P y0)(b:Fa C n0 P):J' y0 B q0 R V X y1:=
 CD h c (λ_ _ _ a q=>b.ne q a.symm)
def wA(a d B:M)(w:I')(k:M):Prop:=k=a\/k=d\/(B<=k/\∃b t c,w.heap[k]? =T (R' b t c)/\(t=9\/t=206))
def Ml(bb vm B:M)(w a:I'):Prop:=O (wA bb vm B w) w a
theorem Ml.refl(a b B w):Ml a b B w w:=CT _ _
theorem Ml.trans{f g B:M}{a b:I'}(h:Ml f g B a b)(k:Ml f g B b P):Ml f g B a P:=by refine⟨k.os.trans h.os,k.tape.trans h.tape,k.output.trans h.output,As h.size k.size,λi j d=>?_⟩;have e:=h.block i j d;rw[k.block i (Av j h.size) ?_,e];rintro(q|q|⟨n,l,t,m,q,r⟩);exact d<|zo q;exact d<|zn<|zo q;rw[e]at q;exact d<|zn<|zn ⟨n,l,t,m,q,r⟩
def vZ(a d B:M)(w:I')(k:M):Prop:=k=a\/k=d\/(B<=k/\∃b c,w.heap[k]? =T (R' b 9 c))
def OP(a b B:M)(w c:I'):Prop:=O (vZ a b B w) w c
theorem OP.trans{a b:I'}(h:OP B C R a b)(k:OP B C R b P):OP B C R a P:=by refine⟨k.os.trans h.os,k.tape.trans h.tape,k.output.trans h.output,As h.size k.size,λi f d=>?_⟩;have e:=h.block i f d;rw[k.block i (Av f h.size) ?_,e];rintro(q|q|⟨l,g,j,q⟩);exact d<|zo q;exact d<|zn<|zo q;rw[e]at q;exact d<|zn<|zn ⟨l,g,j,q⟩
theorem OP.wW{bb vm B a}(h:O Cb a P):OP bb vm B a P:=h.mono λ_ _ q=>q.elim
theorem OP.more(h:OP B C R P y0):Ml B C R P y0:=h.mono (λ_ _ q=>by
 rcases q with q|q|⟨q,c,d,r⟩
 .exact zo q
 .exact zn<|zo q
 .exact zn<|zn ⟨q,c,_,d,r,zo Q⟩)
theorem Ml.wW{bb vm B a}(h:O Cb a P):Ml bb vm B a P:=h.mono λ_ _ q=>q.elim
def tL(a e:M)(c d:H')(b:Bd):Cg:=#[.map<|T a,.map<|T e,c,d,b.pl,b.g]
structure Fh(bb fm vm B:M)(fn:Cc)(b:Bd)(nv sv:H')(w:I'):Prop where
 p:W bb (tL fm vm nv sv b) 143 w
 fns:Fa fm fn w
 y:Fa vm b.wT w
 wT:CK B w nv b.wT
 f:DD B w sv b.f
 ne:fm≠vm
def Sb(a c g B:M)(d:Cc)(b:Bd)(w:I'):Prop:=∃e f,Fh a c g B d b e f w
theorem DD.t8(h:DD B P V p9)(a:O Cb P y0):DD B y0 V p9:=h.j a λ_ _ _ _ q=>q.elim
theorem Fh.t8(h:Fh B C R X n0 q3 V z0 P)(a:O Cb P y0):Fh B C R X n0 q3 V z0 y0:=
 ⟨h.p.j a id,h.fns.j a id,h.y.j a id,Cx h.wT a Ed,h.f.t8 a,h.ne⟩
theorem Sb.t8(h:Sb B C R X n0 q3 P)(a:O Cb P y0):Sb B C R X n0 q3 y0:=by have⟨c,d,h⟩:=h;exact⟨c,d,h.t8 a⟩
theorem Fh.yT{B'}(h:Fh B C R X n0 q3 V z0 P){a}(c:P.heap[v0]? =T (R' q1 q0 a))(f:q0≠143)(g:q0≠9)(i:q0≠206):¬wA B R B' P v0:=by rintro(q|q|⟨_,d,l,e,q,r⟩);subst q;have j:=h.p;grind[W];exact h.y.ne c q.symm;grind
theorem Fh.ay(h:Fh B C R X n0 q3 V z0 P){a}(c:P.heap[p0]? =T (R' q1 q0 a))(f:q0≠143)(g:q0≠9):¬vZ B R v0 P p0:=by rintro(q|q|⟨_,d,e,q⟩);subst q;have i:=h.p;grind[W];exact h.y.ne c q.symm;grind
theorem OP.p{w}(e:OP B R X w P)(h:Sb B C R X n0 q3 w)(a:W v0 q1 q0 w)(c:q0≠143)(d:q0≠9):W v0 q1 q0 P:=by have⟨f,g,h⟩:=h;exact a.j e<|h.ay a c d
theorem OP.row(d:OP B R X P y0)(h:Sb B C R X n0 q3 P)(g:J' P v0 q0 p0 V o1 y1)(a:q0≠143)(c:q0≠9):J' y0 v0 q0 p0 V o1 y1:=by have⟨l,m,h⟩:=h;exact CD g d λk i j q f=>h.ay f a c q
theorem Ml.row{c d a}(j:Ml c d a P y0)(h:Sb c B d a n0 q3 P)(m:J' P C q0 R V X y1)(f:q0≠143)(g:q0≠9)(i:q0≠206):J' y0 C q0 R V X y1:=by have⟨r,s,h⟩:=h;exact CD m j λk o p q l=>h.yT l f g i q
theorem Ml.p{c e a w}(j:Ml c e a w P)(h:Sb c B e a n0 q3 w)(d:W C q1 q0 w)(f:q0≠143)(g:q0≠9)(i:q0≠206):W C q1 q0 P:=by have⟨l,m,h⟩:=h;exact d.j j<|h.yT d f g i
theorem DD.xU(h:DD B P V p9)(d:O z1 P y0)(f:∀k a t b,z1 k->P.heap[k]? =T (R' a t b)->t≠3/\t≠206):DD B y0 V p9:=by have⟨a,p,n,o⟩:=h;refine⟨a,CD p d λk a b c q=>(f k a _ b c q).2 Q,n,λi h j=>?_⟩;have⟨g,e,m⟩:=o i h j;exact⟨g,e,CD m d λk a b c q=>(f k a _ b c q).1 Q⟩
theorem NF(h:J' P B q0 R V X y1)(b:Fa C n0 P):L' V≠T C:=λq=>by obtain⟨_,c,d,a⟩:=ES h q;exact b.ne a Q
theorem Ih(h:W B q1 q0 P){a c}(d:P.heap[B]? =T (R' a n8 c)):n8=q0:=by grind[W]
theorem Fh.named{v' t a}(h:Fh B C R X n0 q3 V z0 P)(d:O (λk=>k=R) P y0)(n:Fa R (q3.wT++[t]) y0)(E:O Cb y0 v1)(F:v1.grownBy a<|L' V)(v:J' a X 9 1 v' (L q3.wT+1)<|q3.wT.map Y'++[Y' t]):
 Fh B C R X n0 {q3 with wT:=q3.wT++[t]} v' z0 (a.setCell (B,2) v')/\OP B R X P (a.setCell (B,2) v'):=by
 have N:=h.y.ne h.p;have o:W B (tL C R V z0 q3) 143 y0:=h.p.j d λq=>N q.symm;have r:Fa C n0 y0:=h.fns.j d h.ne;have e:CK X y0 V q3.wT:=Pm h.wT d h.y;have K:DD X y0 z0 q3.f:=h.f.xU d λk g t i m q=>Bm m.symm<|h.y.ne q;have c:O (λk=>L' V=T k) y0 a:=O.xA (E.mono λ_ _ q=>q.elim) F λj H=>zo H;have l:W B (tL C R V z0 q3) 143 a:=o.j c λq=>CL e o (by decide) B q Q;have f:O (λk=>k=B) a<|a.setCell (B,2) v':=(CT _ _).wS 2 _;have p:=r.j c<|NF e r;have u:=n.j c<|NF e n;have I:DD X a z0 q3.f:=K.xU c (λk g t i m q=>by have⟨_,S,U,s⟩:=ES e m;grind)
 refine⟨⟨l.set 2 _,p.j f<|p.ne l,u.j f<|u.ne l,?_,I.xU f λk g t i m q=>by grind[Ih],h.ne⟩,?_⟩
 show J' (a.setCell (B,2) v') X _ 1 v' (q3.wT++[t])<|(q3.wT++[t]).map Y';rw[Bn,Ah];exact Cx v f (CL v l<|by decide);have x:OP B R X P y0:=d.mono λ_ _ q=>zn<|zo q;have y:OP B R X y0 a:=c.mono (λk _ q=>by have⟨z,g,i,s⟩:=ES e q;exact zn<|zn ⟨z,g,i,s⟩)
 exact(x.trans y).trans (f.mono λ_ _ q=>zo q)
theorem SA(a m f B u b t nv r w)(c:Fh a m f B u b nv r w)(hB:B<=w)(hl:t.a.size<=4000)(hn:L b.wT<=4000)(ht:t.a∉b.wT):
 F' zy 103 #[Z' a,Qa t] w λe E=>e=P' #[]/\(∃C,Fh a m f B u {b with wT:=b.wT++[t.a]} C r E)/\OP a f B w E:=by
 have⟨i0,a3,a8,a9,b0⟩:=Bx Tryz.infoStr;obtain⟨-,r1,r2⟩:=c.p.k3;have ff:=λi=>CZ c.p i
 have lb:=Cz c.p;obtain⟨o,p,rfl⟩:=CB c.wT;unfold Qa;have lv:=c.y.lt;have a5:=c.y.ne c.p;have d:=c.t8<|(CT Cb w).alloc<|R' #[t.a,t.t9] 145;have F:=W.new w #[t.a,t.t9] 145;have H:=(CT Cb w).alloc<|R' #[t.a,t.t9] 145;clear c;go_in;go_wp2_with fail;generalize w.alloc _=l at*;obtain⟨-,k1,k2⟩:=d.p.k3;have j0:=F.j0;have kf:=λi=>CZ d.p i
 clear r1 r2 ff;refine J9 (v:=Z' a) 11 (by kernel_rfl) (by kernel_rfl) (λ_ _ _ h=>h) (zo ⟨by rfl,λw=>by go_simp⟩) ?_;simp only[AX,List.take_zero,Bl,List.drop_zero];repeat(quiet_step (fail))
 refine wpQuiet_nil ?_;intro E a6;have⟨nq,a7⟩:=a6;subst a7;have⟨V,b1,hM,K⟩:=Fa.add (w:=l.drewN nq) (d.y.j ((CT Cb l).drewN nq) id) hl hn ht;have g:O (λk=>k=f) l V:=((CT _ l).drewN nq).trans K;have j:W a (tL m f (Y o b.wT p) r b) 143 V:=d.p.j g λq=>a5 q.symm;have NV:W w #[t.a,t.t9] 145 V:=F.j g (by omega);have v2:=j.j2;have vf:=λi=>CZ j i
 have n0:=NV.j0;have S:=Cz j;have I:CK B V (Y o b.wT p) b.wT:=Pm d.wT g d.y;clear k1 k2 j0 kf K;have P:=J (CL I j<|by decide);go_wp2_with fail;go_region_law(refine C7 Q _ _ 47 Q B 9 i0 (Y' ⟨#[]⟩) 1 16 underlying47 a3 a8 a9 b0 Q (by decide) _ _ _ Q (I.alloc _) V 1 1 [Y' t.a] Q Q (C3 Q _ _) (λx R=>by simp at R;subst R;rfl) (by decide) (by unfold E';omega) (by omega) (by have:=g.size;have:=H.size;simp;omega) ?_;intro v' s z n a4;have q1:s (a,2)=Y o b.wT p:=(Ae<|n.block a (by simp;omega) λh=>P.o a h.symm Q).trans (by rw[<-v2];exact Ae<|Ao _ _ _ S);have q2:s.frozen? (a,2)=zr:=(Aj<|n.block a (by simp;omega) λh=>P.o a h.symm Q).trans (by rw[<-vf 2];exact Aj<|Ao _ _ _ S);obtain⟨U,a0,X,rfl⟩:=CA z);all_goals
  have N:(V.alloc<|R' #[t.a] 9).drew.grownBy s<|L'<|Y o b.wT p:=n;have y:=d.named (t:=t.a) (v':=Y U a0 X) g hM (((CT _ V).alloc _).drew) N z;have a1:∃C,Fh a m f B u {b with wT:=b.wT++[t.a]} C r<|s.setCell (a,2)<|Y U a0 X:=⟨_,y.1⟩;have a2:=(OP.wW H).trans y.2;clear y z n N a4 q1 q2;go_wp2_with fail;go_end0;exact⟨Q,a1,a2⟩
theorem UR{e}{b:Exit->Act->I'->Prop}{d f}(m:z5[B]? =T p3)
 (o:Region.noSelect z5=zt)(l:Region.free e z5 d B=zt)(n:(Region.ready e z5 d).contains B=zt)
 (g:∀c u4 P,b (.panic c) (u4.put p3.dst V) P->b (.panic c) u4 P)(p:YieldsIf q4 z5 p8 p3 V u4)(j:p8 P)(k:u4.put p3.dst V=f)
 (h:wpAnyH q4 e z5 b p8 C (d.setIfInBounds B zt) f P):wpAnyH q4 e z5 b p8 (C+1) d u4 P:=
 wpAnyH_take m o l n g p j (k▸h)
theorem Eb{e:Region.Mode}{b:Exit->Act->I'->Prop}{i:M}{v:H'}{d:Array Bool}{l m n o p q r s t u x y z C E F H I K N R U X a0 a1 a2 a3 a4 a5 a6 a7 a8 a9 b0 b1 b2 b3 b4 b5 b6 b7 b8 b9 c0 c1 f g j k:H'}(hi:z5[i]? =p3)(hs:Region.noSelect z5=zt)(hf:Region.free e z5 d i=zt)(hr:(Region.ready e z5 d).contains i=zt)(hQ:∀c u4 P,b (.panic c) (u4.put p3.dst v) P->b (.panic c) u4 P)(hy:YieldsIf q4 z5 p8 p3 v u4)(hS:p8 P)(ha:u4.put p3.dst v={tmps:=#[V,z0,s0,u1,x2,v2,z3,y3,x3,v3,t3,o3,z4,y4,r4,o4,y5,x5,v5,u5,r5,o5,n5,z6,u6,t6,y8,r6,q6,p6,o6,y6,x8,x7,v7,u7,t7,s7,r7,q7,p7,n6,z7,x6,v6,q5,p5,o7,v8,r8,u9,s9,r9,o9,n9,l,m,n,o,p,q,r,s,t,u,x,y,z,C,E,F,H,I,K,N,R,U,X,a0,a1,a2,a3,a4,a5,a6,a7,a8,a9,b0,b1,b2,b3,b4,b5,b6,b7,b8,b9,c0,c1,f,g,j,k],defers:=[]})(h:wpAnyH q4 e z5 b p8 B (d.setIfInBounds i zt) {tmps:=#[V,z0,s0,u1,x2,v2,z3,y3,x3,v3,t3,o3,z4,y4,r4,o4,y5,x5,v5,u5,r5,o5,n5,z6,u6,t6,y8,r6,q6,p6,o6,y6,x8,x7,v7,u7,t7,s7,r7,q7,p7,n6,z7,x6,v6,q5,p5,o7,v8,r8,u9,s9,r9,o9,n9,l,m,n,o,p,q,r,s,t,u,x,y,z,C,E,F,H,I,K,N,R,U,X,a0,a1,a2,a3,a4,a5,a6,a7,a8,a9,b0,b1,b2,b3,b4,b5,b6,b7,b8,b9,c0,c1,f,g,j,k],defers:=[]} P):wpAnyH q4 e z5 b p8 (B+1) d u4 P:=UR hi hs hf hr hQ hy hS ha h
theorem SU{a:Operand->H'}{x b}(d:p3.op=.lookup q0 x b zr)(e:a x=V)(c:a b=z0)(h:(Instr.lookup q0 V z0 zr).run q4 P=.ok s0 P):(execOp a p3).run q4 P=.ok (.value s0) P:=by unfold execOp;rw[d];simp only[e,c];go_simp
theorem kG(R:Act->I'->Prop)(f q c s r t u y x e){I N P U X a0 a1 a2 a3 a4 a5 a6 a7 a8 a9 b0 b1 b2 b3 b4 b5 b6 b7 b8 b9 c0 c1 c2 c3 c4 c5 c6 c7 c8 c9 d0 d1 d2 d3 d4 d5 d6 d7 C E F H}
 (B:∀d,O Cb e d->K' d ⟨f,1,Z⟩=T (.map<|T q)/\K' d ⟨c,0,Z⟩=T (G A s)/\K' d ⟨c,1,Z⟩=T (Y' y)/\K' d ⟨c,3,Z⟩=T (Y' x)/\K' d ⟨c,5,Z⟩=T (G A r)/\(Instr.lookup 140 (.map<|T q) (Y' y) zr).run zy d=.ok (G A t) d/\(Instr.lookup 140 (.map<|T q) (Y' x) zr).run zy d=.ok (G A u) d)
 (hQ:∀(z:I') (f7 y9 d8 d9 e0 e1 e2 e3 e4 e5 e6 e7 e8 e9 f0 f1 f2 f3 f4 f5 f6:H'),W e.heap.size #[G A s,G A t,G A u,G A r,G A 0,Y Z 0 0,G A 0,G A 0] 206 z->O Cb e z->R {tmps:=#[Z'<|T ⟨f,0,Z⟩,V,z0,Z'<|T ⟨c,0,Z⟩,s0,Z'<|T ⟨e.heap.size,0,Z⟩,x2,v2,f7,y9,d8,d9,e0,e1,e2,e3,e4,e5,e6,e7,e8,e9,f0,f1,f2,f3,f4,f5,f6,r6,q6,p6,o6,y6,x8,x7,v7,u7,t7,s7,r7,q7,p7,n6,z7,x6,v6,q5,p5,o7,v8,r8,u9,s9,r9,o9,n9,I,N,P,U,X,a0,a1,a2,a3,a4,a5,a6,a7,a8,a9,b0,b1,b2,b3,b4,b5,b6,b7,b8,b9,c0,c1,c2,c3,c4,c5,c6,c7,c8,c9,d0,d1,d2,d3,d4,d5,d6,d7,C,E,F,H],defers:=[]} z):
 Code.wp zy (rg Tryz.f170 1) (K6 R) {tmps:=#[Z'<|T ⟨f,0,Z⟩,V,z0,Z'<|T ⟨c,0,Z⟩,s0,u1,x2,v2,z3,y3,x3,v3,t3,o3,z4,y4,r4,o4,y5,x5,v5,u5,r5,o5,n5,z6,u6,t6,y8,r6,q6,p6,o6,y6,x8,x7,v7,u7,t7,s7,r7,q7,p7,n6,z7,x6,v6,q5,p5,o7,v8,r8,u9,s9,r9,o9,n9,I,N,P,U,X,a0,a1,a2,a3,a4,a5,a6,a7,a8,a9,b0,b1,b2,b3,b4,b5,b6,b7,b8,b9,c0,c1,c2,c3,c4,c5,c6,c7,c8,c9,d0,d1,d2,d3,d4,d5,d6,d7,C,E,F,H],defers:=[]} e:=by
 change Code.wp _ (.region _ _ _) _ _ _;have g:=J B;clear B;refine wp_region_held_drew (S:=λd=>O Cb e d) (by kernel_rfl) ((CT _ e).drew) λb=>?_;apply Eb (i:=0) (v:=Z' c) Q (by kernel_rfl) (by kernel_rfl) (by kernel_rfl) Io (zo ⟨by rfl,λw a=>by go_simp⟩) b Q;refine Eb (i:=1) (v:=G A s) Q (by kernel_rfl) (by kernel_rfl) (by kernel_rfl) Io (zo ⟨by rfl,λw a=>by have⟨k,l,m,n,o,h,j⟩:=g.o _ a;go_simp⟩) b Q ?_;apply Eb (i:=2) (v:=Z' f) Q (by kernel_rfl) (by kernel_rfl) (by kernel_rfl) Io (zo ⟨by rfl,λw a=>by go_simp⟩) b Q;apply Eb (i:=3) (v:=Z' f) Q (by kernel_rfl) (by kernel_rfl) (by kernel_rfl) Io (zo ⟨by rfl,λw a=>by go_simp⟩) b Q;apply Eb (i:=4) (v:=Z' (f,1)) Q (by kernel_rfl) (by kernel_rfl) (by kernel_rfl) Io (zo ⟨by rfl,λw a=>by go_simp⟩) b Q;refine Eb (i:=5) (v:=.map q) Q (by kernel_rfl) (by kernel_rfl) (by kernel_rfl) Io (zo ⟨by rfl,λw a=>by have⟨k,l,m,n,o,h,j⟩:=g.o _ a;go_simp⟩) b Q ?_;apply Eb (i:=6) (v:=Z' (c,1)) Q (by kernel_rfl) (by kernel_rfl) (by kernel_rfl) Io (zo ⟨by rfl,λw a=>by go_simp⟩) b Q;apply Eb (i:=7) (v:=Z' (c,1)) Q (by kernel_rfl) (by kernel_rfl) (by kernel_rfl) Io (zo ⟨by rfl,λw a=>by go_simp⟩) b Q;refine Eb (i:=8) (v:=Y' y) Q (by kernel_rfl) (by kernel_rfl) (by kernel_rfl) Io (zo ⟨by rfl,λw a=>by have⟨k,l,m,n,o,h,j⟩:=g.o _ a;go_simp⟩) b Q ?_;refine Eb (i:=9) (v:=G A t) Q (by kernel_rfl) (by kernel_rfl) (by kernel_rfl) Io (zo ⟨by rfl,λw a=>by have⟨k,l,m,n,o,h,j⟩:=g.o _ a;exact SU (by rfl) (by rfl) (by rfl) h⟩) b Q ?_;apply Eb (i:=10) (v:=Z' f) Q (by kernel_rfl) (by kernel_rfl) (by kernel_rfl) Io (zo ⟨by rfl,λw a=>by go_simp⟩) b Q;apply Eb (i:=11) (v:=Z' f) Q (by kernel_rfl) (by kernel_rfl) (by kernel_rfl) Io (zo ⟨by rfl,λw a=>by go_simp⟩) b Q;apply Eb (i:=12) (v:=Z' (f,1)) Q (by kernel_rfl) (by kernel_rfl) (by kernel_rfl) Io (zo ⟨by rfl,λw a=>by go_simp⟩) b Q;refine Eb (i:=13) (v:=.map q) Q (by kernel_rfl) (by kernel_rfl) (by kernel_rfl) Io (zo ⟨by rfl,λw a=>by have⟨k,l,m,n,o,h,j⟩:=g.o _ a;go_simp⟩) b Q ?_;apply Eb (i:=14) (v:=Z' (c,3)) Q (by kernel_rfl) (by kernel_rfl) (by kernel_rfl) Io (zo ⟨by rfl,λw a=>by go_simp⟩) b Q;apply Eb (i:=15) (v:=Z' (c,3)) Q (by kernel_rfl) (by kernel_rfl) (by kernel_rfl) Io (zo ⟨by rfl,λw a=>by go_simp⟩) b Q;refine Eb (i:=16) (v:=Y' x) Q (by kernel_rfl) (by kernel_rfl) (by kernel_rfl) Io (zo ⟨by rfl,λw a=>by have⟨k,l,m,n,o,h,j⟩:=g.o _ a;go_simp⟩) b Q ?_;refine Eb (i:=17) (v:=G A u) Q (by kernel_rfl) (by kernel_rfl) (by kernel_rfl) Io (zo ⟨by rfl,λw a=>by have⟨k,l,m,n,o,h,j⟩:=g.o _ a;exact SU (by rfl) (by rfl) (by rfl) j⟩) b Q ?_;apply Eb (i:=18) (v:=Z' (c,5)) Q (by kernel_rfl) (by kernel_rfl) (by kernel_rfl) Io (zo ⟨by rfl,λw a=>by go_simp⟩) b Q;refine Eb (i:=19) (v:=G A r) Q (by kernel_rfl) (by kernel_rfl) (by kernel_rfl) Io (zo ⟨by rfl,λw a=>by have⟨k,l,m,n,o,h,j⟩:=g.o _ a;go_simp⟩) b Q ?_;apply Eb (i:=20) (v:=N' #[s,t,u,r,G A 0,Y Z 0 0,G A 0,G A 0]) Q (by kernel_rfl) (by kernel_rfl) (by kernel_rfl) Io (zo ⟨by rfl,λw a=>by go_simp⟩) b Q;apply Ca (rs:=[21]) (by kernel_rfl) (by simp);refine BY Q (λK p=>?_) BZ;go_simp;refine p.out _ _ (b.alloc _) λb=>?_;clear p K;apply Ca (rs:=[22]) (by kernel_rfl) (by simp);refine BY Q (λK p=>?_) BZ;go_simp;refine p.out _ _ (((CT _ e).alloc _).drew) λb=>?_;clear p K;refine wpAnyH_done (by kernel_rfl) ?_ _;exact hQ _ _ _ _ _ _ _ _ _ _ _ _ _ _ _ _ _ _ _ _ _ _ (W.new e _ _)<|((CT _ e).alloc _).drew
theorem kL(R:Act->I'->Prop)(m S a s g:M)(n:M)(v w y z B C E:H')(P:Cd)(l:Cf)(d:Ch)(e:M)(b:I'){a2 a3 a4 a5 a6 a7 a8 a9 b0 b1 b2 b3 b4 b6 b7 b8 b9 c5 c8 c9 d0 d1 d2 d3 d4 d5 d6 d7 d8 d9 e0 e1 e2 e3 e4 e5 e6 e7 e8 e9 f0 f1 U X a0 a1:H'}
 (h1:b (m,1)=Value.map (T S))(hn:b s=P)(hL:(Instr.lookup 140 (.map<|T S) P zr).run zy b.drew=.ok n b.drew)
 (c:W a #[v,w,y,z,B,Y d l e,C,E] 206 b)(H:CY g b (Y d l e) l)(hB:g<=b)(hl:L l<=4000)
 (hQ:∀(t:H') (i:I') (g1 g2 g3 g4 g6 g7 g8 g9 h0 h2 h3 h4:H'),W a #[v,w,y,z,B,t,C,E] 206 i->CY g i t (l++[n])->O (λk=>k=a\/L' (Y d l e)=T k) b i->R {tmps:=#[Z' m,V,z0,s0,u1,Z' a,x2,Z' s,v2,z3,y3,x3,v3,t3,o3,z4,y4,r4,o4,y5,x5,v5,u5,r5,o5,n5,z6,u6,t6,y8,r6,q6,p6,o6,y6,x8,g1,g2,g3,g4,g6,g7,g8,g9,h0,h2,h3,h4,q5,p5,o7,v8,r8,u9,s9,r9,o9,n9,a2,a3,a4,a5,a6,a7,a8,a9,b0,b1,b2,b3,b4,b6,b7,b8,b9,c5,c8,c9,d0,d1,d2,d3,d4,d5,d6,d7,d8,d9,e0,e1,e2,e3,e4,e5,e6,e7,e8,e9,f0,f1,U,X,a0,a1],defers:=[]} i):
 Code.wp zy (rg Tryz.f170 5) (K6 R) {tmps:=#[Z' m,V,z0,s0,u1,Z' a,x2,Z' s,v2,z3,y3,x3,v3,t3,o3,z4,y4,r4,o4,y5,x5,v5,u5,r5,o5,n5,z6,u6,t6,y8,r6,q6,p6,o6,y6,x8,x7,v7,u7,t7,s7,r7,q7,p7,n6,z7,x6,v6,q5,p5,o7,v8,r8,u9,s9,r9,o9,n9,a2,a3,a4,a5,a6,a7,a8,a9,b0,b1,b2,b3,b4,b6,b7,b8,b9,c5,c8,c9,d0,d1,d2,d3,d4,d5,d6,d7,d8,d9,e0,e1,e2,e3,e4,e5,e6,e7,e8,e9,f0,f1,U,X,a0,a1],defers:=[]} b:=by
 change Code.wp _ (.region _ _ _) _ _ _;have⟨i0,f2,f3,f4,f6⟩:=Bx Tryz.infoInt;have N:=Cz c;have f7:=c.j5;have f5:=c.wV 5;have p:=J (CL H c<|by decide);go_region_law(refine C7 Q _ _ 105 Q g 3 i0 (G A 0) 1 8 underlying105 f2 f3 f4 f6 Q (by decide) _ _ _ Q (World.ownsRow.alloc H _) b 1 1 [G A n] Q Q (C3 Q _ _) (λx K=>by simp at K;subst K;rfl) (by decide) (by unfold E';omega) (by omega) (by simp;omega) ?_;intro t f r o h5;have q1:f (a,5)=Y d l e:=(Ae<|o.block a (by simp;omega) λh=>p.o a h.symm Q).trans (by rw[<-f7];exact Ae<|Ao _ _ _ N);have q2:f.frozen? (a,5)=zr:=(Aj<|o.block a (by simp;omega) λh=>p.o a h.symm Q).trans (by rw[<-f5];exact Aj<|Ao _ _ _ N);obtain⟨f8,g0,f9,rfl⟩:=CA r);all_goals
  have F:O (λk=>L' (Y d l e)=T k) b f:=O.xA (((CT _ b).alloc<|R' #[n] 3).drew) o λj hj=>zo hj;have u:=c.j F λq=>p.o a q Q;have I:O (λk=>k=a) f<|f.setCell (a,5)<|Y f8 g0 f9:=(CT _ _).wS 5 _;exact hQ _ _ _ _ _ _ _ _ _ _ _ _ _ _ (u.set 5 _) (by show J' _ _ _ _ _ (l++[n])<|(l++[n]).map _;rw[Bn,Ah];exact Cx r I<|CL r u<|by decide)<|(F.mono λ_ _ q=>zn q).trans<|I.mono λ_ _ q=>zo q

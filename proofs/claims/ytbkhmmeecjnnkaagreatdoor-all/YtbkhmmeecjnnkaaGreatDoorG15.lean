/- For every script All returns true, and the script reads behind the call as before it (P1 to P8: results of several texts, side by side, asked in every order by any names and numbers, and runs between, answer as the document does; every list that came out is written full by its owner, and behind every later step each still reads as it was written). Condition: the listed package-level variables of Go's library are laid as the program's text lays them (the card ties them). -/
import Derived.Test.YtbkhmmeecjnnkaaGreatDoorG14
import Derived.Test.YtbkhmmeecjnnkaaGreatDoorRows
import Derived.ProofKit
import Derived.SizedLaws
import Derived.Deep.Slices
import Derived.Carry
import Derived.LaidMore
import Derived.OpenShut
import Derived.Stop.Joined
import Derived.Stop.LaidErr
import Derived.MakeChecks
import Derived.Lib.LaidTab
import Derived.Test.YtbkhmmeecjnnkaaGreatDoorTie
import Derived.Test.YtbkhmmeecjnnkaaGreatDoorCards
import Derived.SevenTiedAt
set_option maxRecDepth 100000
set_option maxHeartbeats 4000000
namespace Go.Proofs.YtbkhmmeecjnnkaaGreatDoor
open Go.RowKit Go.Proofs.Tryz Go.ChangeShapes Go.WideShapes Go.ChangeAt Go
open Go.ChangeMaps (open_string shut_string)
open Option renaming none->Z,some->T
open Go.Value renaming int->G,slice->Y,pointer->Z',string->Y',tuple->P',bool->O',agg->N',ownBlock->L'
open Go.IntKind renaming i64->A
open Go.Ending renaming returned->T'
open Go.Obj renaming cells->R'
open List renaming length->L
open Go.World renaming cell?->K',ownsRow->J'
open Go renaming World->I',Value->H',Calls->F',maxLen->E',DataW->C',Addr->A'
open Go.Proofs.Tryz renaming prog->zy
open Go.RowKit renaming Below->zx,intOf->zm
open _root_ renaming Nat->M,Int->zw,rfl->Q,decide->zu
open Bool renaming true->zt,false->zr
open Or renaming inl->zo,inr->zn
variable {B:Nat}{V:Value}{P:World}
section
variable{E:M}{N:Cg}{w C R:I'}{F m:M}{t:TypeId}{v H:H'}{S:Ci}(b:W E N 29 w)(r:J' w F t 1 v m S)
include b r
theorem YC(c:29≠t)(k:O Cb w R)(g:R.grownBy C<|L' v){h:Ci}{n:M}(f:J' C F t 1 H n h)(i):W E N 29 C/\W E (N.setIfInBounds i H) 29 (C.setCell (E,i) H)/\J' (C.setCell (E,i) H) F t 1 H n h/\O (fun k=>k=E\/L' v=T k) w (C.setCell (E,i) H):=by have d:O (fun k=>L' v=T k) w C:=(k.mono fun _ _ q=>q.elim).xA g fun _ q=>zo q;have a:W E N 29 C:=b.j d fun q=>CL r b c _ q Q;have e:O (fun k=>k=E) C<|C.setCell (E,i) H:=(CT _ C).wS i _;exact⟨a,a.set i _,Cx f e<|CL f a c,(d.mono fun _ _ q=>zn q).trans<|e.mono fun _ _ q=>zo q⟩
theorem Tz{e:TypeId}(d:29≠e)(c:e≠t){u:H'}{n:M}{a:Ci}(q:J' w F e 1 u n a)(o:O (fun k=>k=E\/L' v=T k) w C):J' C F e 1 u n a:=Cx q o fun k z y=>y.elim (CL q b d k z)<|GW q r c k z
theorem uV{B l j:M}{i a c:H'}{f:Cc}{s:Ls}(h:JJ B l j i a c f s w)(x:t=36\/t=45\/t=40)(o:O (fun k=>k=E\/L' v=T k) w C):JJ B l j i a c f s C:=by
 have m:Zp w fun k=>k=E\/L' v=T k:=by rintro k (rfl|e);exact⟨_,_,_,b,zo Q⟩;have⟨_,p,q⟩:=Lv r e;grind
 have g:∀{u n},GO B w u n->∀k,(k=E\/L' v=T k)->L' u≠T k:=fun⟨y,_,d,_⟩ k z e=>z.elim (CL d b (by decide) k e)<|GW d r (by grind) k e
 exact h.law o m fun k z=>⟨g h.cl k z,g h.V k z⟩
end
theorem WN{B b w v c}(q:GO B w v c)(d:b<=B){k:M}(f:k<b):L' v≠k:=fun e=>by obtain⟨g,_,a,_⟩:=q;have:=(Lv a e).1;omega
theorem Yi{F b7 E m rv lv pv hv us w}(j:NT F b7 E m rv lv pv hv us w)(hm:8*(m+1)<=140737488355328)(hc:XA)(s:Cd)(b:Df)(rf:Dd)(fs:C8)(c8:M)(a5:Fi b)(hT:∀t,t∈b->∀u,u∈t.i->Sx 4000 u)(hS:Se (DN b) (UX b) (KV b 0 0) rf fs/\U7 fs rf/\U0 4000 fs/\vR rf b)(tb:Mz w)
 (h1:F' zy 29 #[s] w fun e C=>∃(g n a4:M) (a:Ch) (l c:M) (U:Ce),e=P' #[Y g n a4,N' #[Y a l c,c8],G A 0,G A 0]/\Gt 4000 U C (Y a l c) b/\(∀k,U k->k<(C:M))/\zx w w C)
 (h2:∀w,F' zy 9 #[s] w fun e C=>∃(h B g n a4:M) (U:Ce) (fv sv:H') (p0 c0:M),e=P' #[Z' h,Y g n a4,G A 0,G A 0]/\KO h B U fv sv rf fs p0 c0 C/\w<=h/\w<=B/\B<=C/\zx w w C/\p0=(b.map fun t=>nL 1 t.i).sum/\c0=(b.map fun t=>nL 8 t.i).sum):
 F' zy 4 #[Z' E,s] w fun e C=>e=O' zt/\∃d5 d3 d4,NT F b7 E (m+1) d5 d3 d4 hv us C:=by
 have K:=sG a5 hS.1 hS.2.1 hS.2.2.1 hS.2.2.2;have b3:=qI a5 hS.1;have hs:=OE (fn:=DN b) (par:=UX b) b 0 0 a5.xZ.ok;have hB:F<=w:=by have:=Cz j.bx;have:=j.wl;omega
 have H1:=T4 hc s b c8 a5 hT w tb (Av j.gl hB) h1
 have H2:∀y,F' zy 9 #[s] y fun e C=>∃(h B g n a4:M) (U:Ce) (fv sv:H'),e=P' #[Z' h,Y g n a4,G A 0,G A 0]/\KO h B U fv sv rf fs (Ew (DN b) b 0 0).1 (Ew (DN b) b 0 0).2 C/\O Cb y C:=fun y=>(h2 y).mono fun e C ⟨h,B,g,n,a4,U,fv,sv,p0,c0,q1,q2,_,_,_,q3,q4,q5⟩=>⟨h,B,g,n,a4,U,fv,sv,q1,by rw[hs];simp only[AM];rw[q4,q5]at q2;exact q2,Ea q3⟩
 have b0:=cJ a5;have⟨P,hP⟩:=Dv<|Du (DN b) b 0 0;have⟨mn,b1⟩:=Dv<|vx (DN b) DF;have⟨pn,b2⟩:=Dv<|(Ew (DN b) b 0 0).1;have⟨cn,a6⟩:=Dv<|(Ew (DN b) b 0 0).2;rw[hP,b1,b2,a6]at K H1;rw[b2,a6]at H2;rw[hP]at b3;rw[hP,b1]at b0;have⟨S,ys,zs,r1,r2,r3,hr⟩:=j.rr;obtain⟨ra,m1,rc,rfl⟩:=CA r1;obtain⟨la,m2,lc,rfl⟩:=CA r2;obtain⟨pa,m3,pc,rfl⟩:=CA r3;obtain⟨HR,HV,HM⟩:=Dq hr b3 b0;have HH:∀k,L' hv=T k->k<(w:M):=fun k q=>(j.hd.lt k q).2
 have⟨i1,u0,u1,u2,u3⟩:=Bx Tryz.infoPR;have⟨i2,x0,x1,x2,x3⟩:=Bx Tryz.infoPS;have⟨i3,y0,y1,y2,y3⟩:=Bx Tryz.infoPP;clear h1 h2 hS a5 hT hc tb b3 hs hP b1 b2 a6 b0 hr;go_in;go_upto_region 7 with(first
  |(go_at_call 8;apply H1.mono;rintro e w2 ⟨rp,rfl,_,d2,o2⟩)
  |(go_at_call 9;apply(H2 _).mono;rintro e w3 ⟨h,Bp,tg,tn,tc,U,fv,sv,rfl,c3,o3⟩;have O3:=o2.trans o3)
  |(go_at_call 10;apply FC<|Ju _ _))
 have B3:=j.bx.j O3 id;have Y1:=Cx r1 O3 Ed;have Y2:=Cx r2 O3 Ed;have Y3:=Cx r3 O3 Ed;have c0:=B3.j0;have lb:=Cz B3;have d6:=O3.size;clear H1 H2;go_upto_region 8 with(at_builtin;refine Dp _ Q _ _ 24 Q F 36 i1 (Z' Z) 1 8 underlying24 u0 u1 u2 u3 Q (by decide) _ _ _ Q (Y1.alloc _) _ 1 1 [Z' rp] Q Q (C3 (by simp) _ _) (fun x hx=>by simp at hx;subst hx;rfl) (by decide) (by unfold E';omega) (by omega) (by simp;omega) ?_;intro v4 w4 p a3 _;obtain⟨qa,ql,qc,rfl⟩:=CA p;have d:=YC B3 Y1 (by decide) ((CT Cb w3).alloc _) a3 p 0;have c4:=d.1.z;have f4:=d.1.wV 0;have b4:=Cz d.1;clear p a3);change Code.wp _ _ _ _ (w4.setCell E<|Y qa ql qc);have B5:W E #[Y qa ql qc,Y la m2 lc,Y pa m3 pc,hv] 29<|w4.setCell E<|Y qa ql qc:=d.2.1;have R0:=J d.2.2.1;have O5:=J d.2.2.2;clear c0 c4 f4 b4 lb d;generalize w4.setCell E (Y qa ql qc)=W5 at R0 B5 O5|-;have Z2:=Tz B3 Y1 (by decide) (by decide) Y2 O5;have Z3:=Tz B3 Y1 (by decide) (by decide) Y3 O5;have P5:=c3.law (O5.mono fun _ _ q=>q.elim zo fun q=>zn<|zo q)<|j.lawX r1 r2 r3 O3;have a6:cn<=4001:=K.hy.ok.lc;have b8:∀y,O Cb W5 y->F' zy 11 #[Z' h] y fun e C=>∃r V z I s B,e=T' (Z'<|T ⟨r,0,Z⟩)/\Xu P pn cn B r h V z I s C/\(least P).le (RY P pn s)/\O Cb y C/\(W5:M)<=B:=fun y o=>(cC K HV.o ⟨P5.t8 o,Ad _,by have:=K.len;have:=K.hy.ok.xE;omega,K.xE,fun f hf=>by obtain⟨i,hi,rfl⟩:=AC.1 hf;rw[K.I i hi];exact K.hy.nm.I i⟩ a6).mono fun e C ⟨r,V,z,I,s,q1,q2,q3,q4⟩=>⟨r,V,z,I,s,_,q1,q2.p,q3,q4,o.size⟩
 have c1:=B5.j1;have lb:=Cz B5;have d7:=O5.size;go_cut[] (fun wx=>∃(r:M) (V z I:H') (s:Ls) (B:M) (a0:Ch) (a2 a1:M),W E #[Y qa ql qc,Y a0 a2 a1,Y pa m3 pc,hv] 29 wx/\J' wx F 45 1 (Y a0 a2 a1) (m+1) (ys++[Z' r])/\JJ B r h V z I (Lu P pn) s wx/\TQ P pn cn s/\(least P).le (RY P pn s)/\D (O (fun k=>k=E\/L' (Y la m2 lc)=T k) W5 wx)/\W5<=B)
 .go_region_law(first
   |(go_simp;go_at_call 11;apply(b8 _ oq).mono;rintro e w6 ⟨r,V,z,I,s6,BL,rfl,x6,e6,o6,d1⟩;have O6:=O.trans (X:=Cb) (a:=W5) oq o6;have B6:=B5.j O6 id;have V2:=Cx Z2 O6 Ed;have c6:=(Ae<|O6.block E lb id).trans c1;have l6:=Av lb O6.size;clear o6;dsimp only)
   |(refine C7 Q _ _ 25 Q F 45 i2 (Z' Z) 1 8 underlying25 x0 x1 x2 x3 Q (by decide) _ _ _ Q (V2.alloc _) _ 1 1 [Z' r] Q Q (C3 Q _ _) (fun x hx=>by simp at hx;subst hx;rfl) (by decide) (by unfold E';omega) (by omega) (by have:=O6.size;simp;omega) ?_;intro v4 w4 p a3 _;obtain⟨a0,a2,a1,rfl⟩:=CA p;have d:=YC B6 V2 (by decide) ((CT Cb w6).alloc _) a3 p 1;have c4:=d.1.z;have f4:=d.1.wV 1;have b4:=Cz d.1;clear p a3))
  all_goals
   have B7:W E #[Y qa ql qc,Y a0 a2 a1,Y pa m3 pc,hv] 29<|w4.setCell (E,1)<|Y a0 a2 a1:=d.2.1;have R1:=J d.2.2.1;have v:=J d.2.2.2;have L7:=uV B6 V2 x6.m (zn<|zo Q) v;have I7:=J x6.i;have O7:=(O6.mono fun _ _ q=>q.elim).trans v;clear v x6 d;go_wp2_with fail;go_meet;exact⟨r,V,z,I,s6,_,a0,a2,a1,B7,R1,L7,I7,e6,O7,d1⟩
 have⟨r,V,z,I,s6,B,a0,a2,a1,B7,R1,L7,I7,E7,O7,d0⟩:=hcut;clear b8 c1 lb;have c2:=B7.z;have lb:=Cz B7;have d8:=O7.size;have V3:=Tz B5 Z2 (by decide) (by decide) Z3 O7;go_upto_region 10 with(at_builtin;refine Dp _ Q _ _ 26 Q F 40 i3 (Z' Z) 1 8 underlying26 y0 y1 y2 y3 Q (by decide) _ _ _ Q (V3.alloc _) _ 1 1 [Z' h] Q Q (C3 (by simp) _ _) (fun x hx=>by simp at hx;subst hx;rfl) (by decide) (by unfold E';omega) (by omega) (by simp;omega) ?_;intro v4 w4 p a3 _;obtain⟨a7,a9,a8,rfl⟩:=CA p;have d:=YC B7 V3 (by decide) ((CT Cb wc).alloc _) a3 p 2;have c4:=d.1.z;have f4:=d.1.wV 2;have b4:=Cz d.1;clear p a3);have b9:W E #[Y qa ql qc,Y a0 a2 a1,Y a7 a9 a8,hv] 29<|w4.setCell (E,2)<|Y a7 a9 a8:=d.2.1;have q2:=d.2.2.1;have v:=d.2.2.2;have q0:=Tz B7 V3 (by decide) (by decide) (Tz B5 Z2 (by decide) (by decide) R0 O7) v;have q1:=Tz B7 V3 (by decide) (by decide) R1 v;have b6:O (tP E (Y ra m1 rc) (Y la m2 lc)<|Y pa m3 pc) w3<|w4.setCell (E,2)<|Y a7 a9 a8:=(O5.mono fun _ _ q=>q.elim zo fun q=>zn<|zo q).trans<|(O7.mono fun _ _ q=>q.elim zo fun q=>zn<|zn<|zo q).trans<|v.mono fun _ _ q=>q.elim zo fun q=>zn<|zn<|zn q;have b5:=O.trans (o3.mono fun _ _ q=>q.elim) b6;have c7:=O.trans (o2.mono fun _ _ q=>q.elim) b5;have hh:=HH;have c5:w<=B:=by have:=d0;omega
 have c9:NT F b7 E (m+1) (Y qa ql qc) (Y a0 a2 a1) (Y a7 a9 a8) hv us<|w4.setCell (E,2)<|Y a7 a9 a8:=j.more r1 r2 r3 HR.o c7 b9 q0 q1 q2 ⟨P,mn,pn,cn,rf,fs,Bp,B,U,fv,sv,V,z,I,s6,⟨d2.law b5 (j.lawX r1 r2 r3 o2) fun q=>by have:=j.lowX r1 r2 r3 q;have:=j.gl;omega,uV B7 V3 L7 (zn<|zn Q) v,I7,E7,c3.law b6<|j.lawX r1 r2 r3 O3,K,HV.o,HM.o⟩,fun k q=>⟨WN L7.cl c5<|hh k q,WN L7.V c5<|hh k q⟩⟩;clear d v q2 b9 q0 q1 b6 b5 c7 hh;go_wp2_with fail;go_ret;exact⟨Q,_,_,_,c9⟩
structure fS where
 kd:zw
 at_:zw
 n:zw
 k:zw
 s:Cd
 t:Cd
 u:Cd
 v:Cd
abbrev fL(o:fS):Cg:=Wp o.kd o.at_ o.n o.k o.s o.t o.u o.v
abbrev fS.Ok(o:fS):Prop:=tX o.at_ o.n o.k o.s o.t o.u o.v
structure tY(g off:M)(ls:List fS)(w:I'):Prop where
 lt:ls≠[]->g<w
 c:∀i (_:i<ls.length) j,j<8->w ⟨g,off+i*8+j,Z⟩=(fL ls[i]).toList[j]?
def tW(e:H')(b:List fS)(w:I'):Prop:=∃(a:Ch) (c:M),e=Y a b c/\b<=c/\(b=[]\/∃g d,a=T ⟨g,d,Z⟩/\tY g d b w)
structure vY(r:M)(x:I'):Prop where
 f:EZ r x
 i:Zm r x
 c:XA
 s:Hm
 t:Mz x
 b:r<=x
def U6(r:M)(x:I')(B i:M)(w:I'):Prop:=∃m n e c d b a,NT r x B m e c d b a w/\L a=4*n/\n<=i/\0<m/\m<=i+1
theorem qD{r x w}(h:zx r x w)(b:0<r)(c:Mz x):Mz w:=fun j a=>(Ae<|h.block _ b).trans<|c j a
section
variable{r:M}{x:I'}(E:vY r x){B:M}
include E
theorem Td{m:M}{R C K z:H'}{i:Ci}{w:I'}(a:NT r x B m R C K z i w)(v:8*(m+1)<=140737488355328)(s:Cd)(y:s<=E'):
 F' zy 4 #[Z' B,s] w fun e j=>e=O' zt/\∃d U I N h,NT r x B d U I N h i j/\(d=m+1\/d=m/\sN s=zr):=by
 have g:r<=w:=by have:=Cz a.bx;have:=a.wl;omega
 rcases Xh r x E.f s y with⟨f,p,u,b,c⟩|⟨l,P,n,V,k,t,q,b,c⟩
 apply(bZ s B f p w u.1 (b w a.lo g) c).mono;rintro e j ⟨rfl,o⟩;have⟨h,S⟩:=a.t8 o;grind;apply(Yi a v E.c s l P n V k t q (qD a.lo a.gl E.t) (b w a.lo g) c).mono;grind
variable{i:M}{w:I'}(F:U6 r x B i w)(H:96*(i+1)<=140737488355328)
include F H
theorem nS(s:Cd)(c:s<=E'):F' zy 4 #[Z' B,s] w fun e a=>e=O' zt/\U6 r x B (i+1) a:=by have⟨m,n,z,v,y,u,l,S,d,t,o,p⟩:=F;apply(Td E S (by omega) s c).mono;rintro e a ⟨rfl,h,k,g,j,f,b,q⟩;exact⟨Q,h,n,k,g,j,f,l,b,d,by omega,by omega,by omega⟩
theorem kZ(o:fS)(ok:o.Ok):F' zy 5 #[Z' B,N'<|fL o] w fun e a=>e=O' zt/\U6 r x B (i+1) a:=by
 have⟨m,n,j,g,h,N,V,S,d,hn,v,hm⟩:=F;have K:F' zy 5 #[Z' B,N'<|fL o] w fun e a=>e=O' zt/\Sd w r B j g h N V n a:=by
  rcases Xh r x E.f o.s (by have:=ok.s;grind[E'])with⟨f,p,C,b,c⟩|⟨t,R,u,U,l,z,y,b,c⟩
  exact Yj S d (by omega) _ _ _ _ _ _ _ _ f p C.1 b c;refine V4 S d (by omega) E.i _ _ _ _ _ _ _ _ t R u U l z y.1 b fun s=>(c s).mono ?_
  grind
 apply K.mono;rintro e a ⟨rfl,k⟩;have⟨P,X,I,q⟩:=S.kept d k;exact⟨Q,m,n+1,j,g,h,P,X,q,I,by omega,v,by omega⟩
theorem gE(o:fS)(ok:o.Ok)(q:o.kd=2\/o.kd=3\/o.kd=4\/o.kd=5\/o.kd=6):F' zy 6 #[Z' B,N'<|fL o] w fun e l=>e=O' zt/\U6 r x B (i+1) l:=by have⟨m,n,j,g,h,z,t,S,d,y,c,v⟩:=F;apply(gF S c (by omega) d (by omega) (fun p b=>E.i p b.block) E.s _ _ _ _ _ _ _ _ ok q).mono;rintro e l ⟨rfl,k|k⟩;have⟨f,u,s,a⟩:=S.kept d k;exact⟨Q,m,n+1,j,g,h,f,u,a,s,by omega,c,by omega⟩;have⟨f,a⟩:=S.t8 k;exact⟨Q,m,n,j,g,h,f,t,a,d,by omega,c,by omega⟩
omit E in
theorem Y9:F' zy 7 #[Z' B] w fun e b=>e=O' zt/\U6 r x B i b:=by have⟨m,n,o,j,l,q,p,S,a,g,d,f⟩:=F;apply(Zb S a<|by omega).mono;rintro e b ⟨rfl,k⟩;have⟨h,c⟩:=S.t8 k;exact⟨Q,m,n,o,j,l,h,p,c,a,g,d,f⟩
end
theorem U6.low{r x B i w}(h:U6 r x B i w):zx r x w:=by have⟨m,n,d,b,c,a,e,S,_⟩:=h;exact S.lo
theorem U6.same{r x B i w a}(h:U6 r x B i w)(o:O Cb w a):U6 r x B i a:=by have⟨m,n,l,j,k,q,p,S,f,e,c,d⟩:=h;have⟨g,b⟩:=S.t8 o;exact⟨m,n,l,j,k,g,p,b,f,e,c,d⟩
theorem U6.le{r x B i j w}(h:U6 r x B i w)(k:i<=j):U6 r x B j w:=by have⟨m,n,f,d,e,c,g,S,b,o,a,l⟩:=h;exact⟨m,n,f,d,e,c,g,S,b,by omega,a,by omega⟩
abbrev wL:Cd:=⟨#[102,110,32,105,100,40,120,41,32,123,32,114,101,116,117,114,110,32,120,59,32,125,32,102,110,32,109,97,105,110,40,41,32,123,32,118,97,114,32,102,59,32,118,97,114,32,112,59,32,118,97,114,32,113,59,32,102,32,61,32,64,105,100,59,32,112,32,61,32,110,101,119,59,32,113,32,61,32,40,42,102,41,40,112,41,59,32,102,32,61,32,105,100,40,102,41,59,32,125]⟩
theorem iE:sN wL=zt:=by decide+kernel
theorem nR{w:I'}(E:vY w w)(P:0<(w:M))(lv:H')(n:List fS)(hl:tW lv n w)(ok:∀l∈n,l.Ok)(hn:96*L n<=140737488351232):
 F' zy 3 #[lv] w fun e w'=>e=O' zt/\zx w w w':=by
 obtain⟨a,b4,rfl,a0,a2⟩:=hl;have b1:zx w w<|w.alloc<|R' #[Tl,Tl,Tl,Tl] 29:=(Below.refl _ w).alloc (Ad _) _;have I:NT w w w 0 Tl Tl Tl Tl []<|w.alloc<|R' #[Tl,Tl,Tl,Tl] 29:=⟨b1,P,Ad _,W.new w _ _,⟨[],[],[],An _ _ _ _,An _ _ _ _,An _ _ _ _,fun i H=>Bm H<|Nat.not_lt_zero i⟩,An _ _ _ _,fun i v e=>by cases e⟩;have⟨N,R⟩:=Dv<|n;rw[R]at a0 hn|-;have HN:=J R;clear b1 R;go_in;go_upto_region 2 with fail;change Code.wp _ _ _ _ (w.alloc<|R' #[Tl,Tl,Tl,Tl] 29);have a4:(w:M)<=w:=Ad _;generalize w.alloc (R' #[Tl,Tl,Tl,Tl] 29)=W1 at I|-;generalize hb:(w:M)=r at I E P a4|-;have HA:=Td E I (by decide) wL (by unfold E';decide);clear I P;go_wp2_with fail;apply HA.mono;rintro e w2 ⟨rfl,m',a7,a5,a6,a3,S2,y⟩;have Z2:U6 r w r 0 w2:=by
  refine⟨m',0,a7,a5,a6,a3,[],S2,Q,Ad _,?_,?_⟩;all_goals
   rcases y with rfl|⟨_,y⟩
   decide;rw[iE]at y;cases y
 clear S2 y HA;go_wp2_with fail;go_loopw[4,5] (fun o i wr=>∃k:M,k<=N/\o=O' zt/\i=G A k/\U6 r w r k wr) (fun _ i _=>N-(zm i).toNat);exact⟨0,by omega,Q,Q,Z2⟩;clear Z2;obtain⟨k,hk,rfl,rfl,F⟩:=hrel;by_cases a1:k<N
 .have tk:=LH (p:=(k:zw)<N) (by omega);have m:k<n:=by rw[HN.o];exact a1
  rcases a2 with he|⟨g,d,rfl,U⟩
  rw[he]at m;simp at m;have hg:g<r:=by rw[<-hb];exact U.lt fun e=>by rw[e]at m;simp at m
  have c:∀j,j<8->wr (g,d+k*8+j)=(fL n[k]).toList[j]? :=fun j S=>(Ae<|F.low.block g hg).trans<|U.c k m j S
  have lg:g<wr:=by have:=F.low.size;omega
  have C:=ok _<|Am m;generalize n[k]=o at c C;have d0:wr (g,d+k*8)=o.kd:=c 0 (by decide);have d1:wr (g,d+k*8+1)=o.at_:=c 1 (by decide);have d2:wr (g,d+k*8+2)=o.n:=c 2 (by decide);have d3:wr (g,d+k*8+3)=o.k:=c 3 (by decide);have d4:wr (g,d+k*8+4)=o.s:=c 4 (by decide);have d5:wr (g,d+k*8+5)=o.t:=c 5 (by decide);have d6:wr (g,d+k*8+6)=o.u:=c 6 (by decide);have d7:wr (g,d+k*8+7)=o.v:=c 7 (by decide);clear U c m;go_upto_region 7 with fail;change Code.wp _ _ _ _ (wr.alloc<|R' (fL o) 32);have s:=W.new wr (fL o) 32;have q:=F.same<|(CT Cb wr).alloc<|R' (fL o) 32;generalize wr.alloc (R' (fL o) 32)=b3 at s q|-;generalize (wr:M)=ob at s|-;have x0:=s.z;have lo:=Cz s;clear d0 d1 d2 d3 d4 d5 d6 d7 lg s F;have t:∀j V,j<=k+1->U6 r w r j V->F' zy 7 #[Z' r] V fun e w'=>e=O' zt/\U6 r w r (k+1) w':=fun j V S z=>Y9 (z.le S)<|by omega
  have H:96*(k+1)<=140737488355328:=by omega
  by_cases X:o.kd=1
  .have a8:(o.kd==1)=zt:=by simp[X]
   clear X;go_wp2_with(first
    |(go_at_call 4;refine(nS E q H _<|by have:=C.s;unfold E';omega).mono ?_;rintro e w3 ⟨rfl,h⟩;have u:=h;clear h)
    |(go_at_call 7;apply(t _ _ (Ad _) u).mono;rintro e K ⟨rfl,b⟩;have f:=b;clear b))
   go_roundw;exact⟨k+1,by omega,Q,by go_num,f⟩;simp[zm];omega
  have a8:(o.kd==1)=zr:=by simp[X]
  by_cases t7:o.kd=7
  .have b2:(o.kd==7)=zt:=by simp[t7]
   clear t7;go_wp2_with(first
    |(go_at_call 5;apply(kZ E q H o C).mono;rintro e w3 ⟨rfl,h⟩;have u:=h;clear h)
    |(go_at_call 7;apply(t _ _ (Ad _) u).mono;rintro e K ⟨rfl,b⟩;have f:=b;clear b))
   go_roundw;exact⟨k+1,by omega,Q,by go_num,f⟩;simp[zm];omega
  have b2:(o.kd==7)=zr:=by simp[t7]
  by_cases t2:2<=o.kd
  .have a9:zu (2<=o.kd)=zt:=decide_eq_true t2;by_cases t6:o.kd<=6;focus
    have b0:zu (o.kd<=6)=zt:=decide_eq_true t6;have hq:o.kd=2\/o.kd=3\/o.kd=4\/o.kd=5\/o.kd=6:=by show _\/_;omega
    go_wp2_with(first
     |(go_at_call 6;apply(gE E q H o C hq).mono;rintro e w3 ⟨rfl,h⟩;have u:=h;clear h)
     |(go_at_call 7;apply(t _ _ (Ad _) u).mono;rintro e K ⟨rfl,b⟩;have f:=b;clear b))
   rotate_left;focus
    have b0:zu (o.kd<=6)=zr:=decide_eq_false t6;go_wp2_with(go_at_call 7;apply(t k _ (by omega) q).mono;rintro e K ⟨rfl,b⟩;have f:=b;clear b)
   all_goals
    go_roundw;exact⟨k+1,by omega,Q,by go_num,f⟩;simp[zm];omega
  .have a9:zu (2<=o.kd)=zr:=decide_eq_false t2;go_wp2_with(go_at_call 7;apply(t k _ (by omega) q).mono;rintro e K ⟨rfl,b⟩;have f:=b;clear b);go_roundw;exact⟨k+1,by omega,Q,by go_num,f⟩;simp[zm];omega
 .have tk:=Hz (p:=(k:zw)<N) (by omega);go_wp2_with fail;go_ret;exact⟨Q,by rw[hb];exact F.low⟩
theorem Tryz.cellsOp:Tryz.prog.cellsOf 32=8:=by kernel_rfl
theorem Tryz.bytesOp:Tryz.prog.bytesOf 32=96:=by kernel_rfl
theorem Tryz.cellsI1:Tryz.prog.cellsOf 3=1:=by kernel_rfl
theorem Tryz.cellsS1:Tryz.prog.cellsOf 9=1:=by kernel_rfl
def Re:Option TypeDesc->List (TypeId×M)
 |some (.struct a)=>a.toList.map fun f=>(f.type,f.offset)
 |_=>[]
theorem Tryz.structOp:Re (Tryz.prog.underlying 32)=[(3,0),(3,1),(3,2),(3,3),(9,4),(9,5),(9,6),(9,7)]:=by kernel_rfl
theorem qB{w:I'}{a:A'}{v:H'}(h:w a=v):a.spot=Z/\a.block<w:=by unfold K' at h;split at h;rename_i c e f b;split at h;cases h;rename_i d;exact⟨by simpa using d,(Array.getElem?_eq_some_iff.1 b).1⟩;cases h
theorem nO{w:I'}{b o j:M}{v:H'}(h:w (((b,o):A').add j)=v):w (b,o+j)=v:=by grind[Addr.add]
section
variable{H:Type}{r:TypeId×H'->H}{g:I'}
theorem ZY{P:Program}{e:TypeId}{d:C' H}:∀{l:List<|C' H},d∈l->∀n∈d.weights P e,n∈DataW.weightsAll P e l
 |_::_,.head _,_,h=>by grind[DataW.weightsAll]
 |_::_,.tail _ a,n,h=>by simp only[DataW.weightsAll];exact Bs _<|ZY a n h
theorem sO{n:M}{a:Ci}{c:List<|C' H×List MemPlace}{i:M}{f:Field}(b:DataW.trod r zy g 0 (fun _=>zt) zt n f.type ((a.drop f.offset).take<|Tryz.prog.cellsOf f.type)=c[i]?)(j:f.type=3)(h:f.offset=i)(k:i<c)(e:i<a):∃m:zw,a[i]=G A m/\ -9223372036854775808<=m/\m<=9223372036854775807:=by rw[j,h,Tryz.cellsI1,Ag k]at b;have⟨m,d,_,l⟩:=DataW.trod_int underlying3 b;rw[Ap e,AX,List.take_zero]at d;have o:IntKind.i64.min= -9223372036854775808:=Q;have p:IntKind.i64.max=9223372036854775807:=Q;grind[Lit.wf]
theorem sP{n:M}{a:Ci}{b:List<|C' H×List MemPlace}{i:M}{f:Field}(d:DataW.trod r zy g 0 (fun _=>zt) zt n f.type ((a.drop f.offset).take<|Tryz.prog.cellsOf f.type)=b[i]?)(h:f.type=9)(e:f.offset=i)(j:i<b)(c:i<a):∃s:Cd,a[i]=Y' s/\(b.map (·.1))[i]? =T (.lit<|.string s.data.toList):=by grind[Tryz.cellsS1,DataW.trod_string,underlying9,List.drop_eq_getElem_cons]
theorem pF{z:M}{f:Ci}{x:C' H×List MemPlace}(h:DataW.trod r zy g 0 (fun _=>zt) zt z 32 f=x)(C:∀n∈x.1.weights zy 32,n<=140737488355328):∃o:fS,f=(fL o).toList/\o.Ok:=by
 have d:=Tryz.structOp;cases q:Tryz.prog.underlying 32 with
 |none=>rw[q]at d;simp[Re]at d
 |some td=>
  rw[q]at d;cases td<;>simp only[Re]at d<;>try(simp at d;done)
  rename_i a;obtain⟨xs,n,_,rfl,y,a0,v⟩:=DataW.trod_struct q h;rw[Tryz.cellsOp]at y;have a1:a.size=8:=by have:=BG L d;simpa using this
  have w:∀i (b:i<a.size),([(3,0),(3,1),(3,2),(3,3),(9,4),(9,5),(9,6),(9,7)]:List<|TypeId×M)[i]? =T (a[i].type,a[i].offset):=by grind
  have u:∀i (b:i<8),a[i]? =T (a[i]'(by omega)):=fun i b=>Array.getElem?_eq_getElem<|by omega
  have k:∀i,i<4->∀(b:i<8),∃m:zw,f[i]'(by omega)=G A m/\ -9223372036854775808<=m/\m<=9223372036854775807:=by
   intro i B b;have e:=w i (by omega);have c:a[i].type=3/\a[i].offset=i:=by
    have p:i=0\/i=1\/i=2\/i=3:=by omega
    grind
   exact sO (v i _<|u i b) c.1 c.2 (by omega)<|by omega
  have l:∀i,4<=i->∀(b:i<8),∃s:Cd,f[i]'(by omega)=Y' s/\s.size<=140737488355328:=by
   intro i B b;have e:=w i (by omega);have c:a[i].type=9/\a[i].offset=i:=by
    have p:i=4\/i=5\/i=6\/i=7:=by omega
    rcases p with rfl|rfl|rfl|rfl<;>simp at e<;>exact⟨e.1.symm,e.2.symm⟩
   have⟨s,q1,q2⟩:=sP (v i _<|u i b) c.1 c.2 (by omega) (by omega);refine⟨s,q1,C _ ?_⟩;simp only[DataW.weights,q];exact DataW.weights_mem_each (j:=i) (t:=9) (by grind) q2 _<|by simp[DataW.weights]
  have⟨S,e0,_⟩:=k 0 (by omega) (by omega);have⟨U,e1,E⟩:=k 1 (by omega) (by omega);have⟨V,c,F⟩:=k 2 (by omega) (by omega);have⟨X,e3,I⟩:=k 3 (by omega) (by omega);have⟨m4,e4,K⟩:=l 4 (by omega) (by omega);have⟨m5,e5,N⟩:=l 5 (by omega) (by omega);have⟨m6,e6,P⟩:=l 6 (by omega) (by omega);have⟨m7,e7,R⟩:=l 7 (by omega) (by omega);refine⟨⟨S,U,V,X,m4,m5,m6,m7⟩,?_,⟨E,F,I,K,N,P,R⟩⟩;apply A5 (by simp[y]);intro i h1 h2;have p:i=0\/i=1\/i=2\/i=3\/i=4\/i=5\/i=6\/i=7:=by omega
  rcases p with rfl|rfl|rfl|rfl|rfl|rfl|rfl|rfl<;>assumption
theorem jR{w:H'}{d:C' H}{p:List MemPlace}{E:Ch}{c x:M}(V:w=Y E c x)(h:DataW.Trod r zy g 0 (fun _=>zt) zt 22 w d p)(s:∀n∈d.weights zy 22,n<=reachBytes):∃u:List fS,tW w u g/\(∀l∈u,l.Ok)/\96*L u<=140737488351232:=by
 subst V;have⟨a3,R⟩:=h;rcases Go.Deep.open_slice underlying22 R with⟨f,_⟩|⟨a,a9,a1,m,n,C,Pl,f,_,hl,_,a7,hx,P⟩
 simp[Value.cells]at f;obtain⟨rfl,rfl,rfl⟩:=f;exact⟨[],⟨Z,0,Q,Ad _,zo Q⟩,by simp,by simp⟩;simp[Value.cells]at f;obtain⟨rfl,rfl,rfl⟩:=f;obtain⟨rfl,-⟩:=Prod.mk.inj hx;have hw:reachBytes=140737488351232:=Q;rw[hw]at s;simp only[DataW.weights,underlying22,Tryz.bytesOp,AG,List.length_range]at s;have a8:=s _<|A9 ..;have a6:c<=m:=by grind
 have F:∀i:M,∃l:fS,i<c->(l.Ok/\∀j (z:j<8),g ((a.add<|i*8).add j)=(fL l).toList[j]?):=by
  intro i;by_cases t:i<c;have⟨a2,y,I⟩:=P i (by omega);rw[Tryz.cellsOp]at y;have⟨_,a5,a4⟩:=World.cells?_some y;have⟨l,e,ok⟩:=pF I (fun k U=>by have:=s k<|Ax _<|BN _<|ZY (d:=C i) (AS.2 ⟨i,List.mem_range.2 t,Q⟩) k U;omega)
  grind;exact⟨⟨0,0,0,0,ByteArray.empty,ByteArray.empty,ByteArray.empty,ByteArray.empty⟩,fun h=>Bm h t⟩
 have⟨q,B⟩:=Classical.skolem.1 F;refine⟨(List.range c).map q,⟨T a,x,by simp,by grind,?_⟩,?_,by simp;omega⟩;by_cases h0:c=0;grind;right;have X:a.spot=Z/\a.block<g:=by have:=(B 0<|by omega).2 0 (by omega);exact qB (a:=(a.add<|0*8).add 0) (v:=G A (q 0).kd)<|by grind
 have⟨b,o,sp⟩:=a;obtain⟨rfl,N⟩:=X;refine⟨b,o,Q,fun _=>N,fun i t j z=>?_⟩;have S:i<c:=by grind
 simp only[AT,List.getElem_range];have e:=(B i S).2 j z;rw[Go.Deep.add_add]at e;have K:j<(fL<|q i).toList:=by omega
 rw[Ag K]at e|-;have:=nO e;grind;grind
end
theorem uJ:XA:=by intro s d f;have c:=Tryz.stringslite_Clone s;go_in;go_wp2_with fail;apply(c _<|by omega).mono;rintro e g ⟨rfl,a⟩;have b:=Ea a;clear a;go_wp2_with fail;go_ret;exact⟨Q,b⟩
theorem Tryz.agES:Tryz.prog.globalNamed "strconv.ErrSyntax" =T 3:=by kernel_rfl
theorem Tryz.agESType:(Tryz.prog.globals[3]?).map (·.type)=T 319:=by kernel_rfl
theorem Tryz.acES:Tryz.prog.cellsOf 337=1:=by kernel_rfl
theorem Tryz.acStr:Tryz.prog.cellsOf 9=1:=by kernel_rfl
theorem Tryz.astar: "*" ++ "errors.errorString" = "*errors.errorString" :=by decide
theorem Tryz.arES(u)(h:Tryz.prog.typeName? 3 u=T "*errors.errorString"):u=335:=
 typeName_ptr_named (nm:= "errors.errorString") (by rw[Tryz.astar];kernel_rfl) Q nofun u (by rw[Tryz.astar];exact h)
theorem Qn(a:P B=V):B<P:=by grind[K']
theorem bF(a)(b:laidMetH zy Rows.allRow.laid a):EZ a a:=by
 rw[Go.MakeChecks.laidMetH_plain _ _ _ Q]at b;obtain⟨c,g,d,-,-,-⟩:=laid_sentinel b.tail.tail.tail.tail Tryz.agES Tryz.agESType underlying319 Tryz.arES underlying335 underlying337 Q Q underlying9 Tryz.acES Tryz.acStr;have f:a (3,0)=Value.iface 335 (Z' c):=by have e:=World.var?_cell Tryz.agES d 0;grind
 grind[bT,Qn]
theorem Tryz.agP10:Tryz.prog.globalNamed "internal/strconv.uint64pow10" =T 1:=by kernel_rfl
theorem Tryz.agP10Type:(Tryz.prog.globals[1]?).map (·.type)=T 313:=by kernel_rfl
theorem Tryz.acU64:Tryz.prog.cellsOf 249=1:=by kernel_rfl
theorem Tryz.acP10:Tryz.prog.cellsOf 313=20:=by kernel_rfl
theorem Tryz.adP10:(Rows.laid_internal_strconv_uint64pow10:Cm)=Lib.tabData .u64 Lib.pow10Tab:=by kernel_rfl
theorem gC(a)(c:laidMetH zy Rows.allRow.laid a)(V)(d:∀k,k<a.heap.size->V.heap[k]? =a.heap[k]?):Mf V:=by rw[Go.MakeChecks.laidMetH_plain _ _ _ Q]at c;have b:=c.tail.tail;rw[Tryz.adP10]at b;have e:=Lib.tabIs_of_head Tryz.agP10 Tryz.agP10Type underlying313 underlying249 Tryz.acU64 Tryz.acP10 b;grind[uT,Lib.TabIs,World.var?,Tryz.agP10]
def rH:List zw:=Lib.deBruijn64tab.map fun n:M=>(n:zw)
theorem Tryz.agTz:Tryz.prog.globalNamed "math/bits.deBruijn64tab" =T 0:=by kernel_rfl
theorem Tryz.agTzType:(Tryz.prog.globals[0]?).map (·.type)=T 286:=by kernel_rfl
theorem Tryz.acU8:Tryz.prog.cellsOf 5=1:=by kernel_rfl
theorem Tryz.acTz:Tryz.prog.cellsOf 286=64:=by kernel_rfl
theorem Tryz.adTz:(Rows.laid_math_bits_deBruijn64tab:Cm)=Lib.tabData .u8 rH:=by kernel_rfl
theorem Ve(a)(c:laidMetH zy Rows.allRow.laid a):Mz a/\0<a.heap.size:=by
 rw[Go.MakeChecks.laidMetH_plain _ _ _ Q]at c;have b:=c.tail;rw[Tryz.adTz]at b;have e:=Lib.tabIs_of_head Tryz.agTz Tryz.agTzType underlying286 underlying5 Tryz.acU8 Tryz.acTz b;have d:∀j,j<L Lib.deBruijn64tab->a (0,j)=Value.int .u8 (Lib.deBruijn64tab.getD j 0):=fun j g=>by have f:=World.var?_cell Tryz.agTz e j;grind[rH]
 exact⟨d,Qn<|d 0<|by decide⟩
theorem Tryz.aown:ownKnob Tryz.prog.godebug=Z:=by kernel_rfl
theorem Tryz.alaidOut:laidOutB zy=zt:=by kernel_rfl
theorem gB(b a):laidMetH zy Rows.allRow.laid ((World.doorLaid zy 400 b).forCall (fun _ _=>0) ⟨#[],a,[]⟩).memory:=
 laidMetH_of_parts3 (fuel:=8) (laidMet_of_run' 8 (by kernel_rfl)<|by kernel_rfl) (by kernel_rfl) (by kernel_rfl)
theorem XK(d)(a1:d.Started)(H:Type)(c:TypeId×H'->H):
 ReturnsInHanded {} Tryz.checked d 3 .any (fun w b=>(Rows.allSpec.pre c zy Tryz.f3 [] zr w b/\laidMetH zy Rows.allRow.laid w)/\sizedMet c zy Tryz.f3 (OpenSpec.ofChange Rows.allSpec) zr w b)
  (Rows.allSpec.post c zy Tryz.f3 zr zt zr zr):=by
 refine returnsInHanded_of_change_and (C:=Tryz.checked) (X:=fun w _=>laidMetH zy Rows.allRow.laid w) (fun _ _ _ N h=>h.of_heap N) Tryz.aown a1 (by kernel_rfl) func3
  (ChangeSpec.witness_shaped (enc:=c) (C:=Tryz.checked) (os:=d) (X:=fun w _=>laidMetH zy Rows.allRow.laid w) zr (World.doorLaid zy 400 d) #[Y Z 0 0] 8 Q (World.shaped_of_RefB (by kernel_rfl)<|by kernel_rfl) (by kernel_rfl) (by kernel_rfl) (by kernel_rfl) (gB d _)) ?_
 intro a E b F gs a2 B u _ l f _;have z:∀(j:M) t v,Tryz.f3.params[j]? =T t->b[j]? =T v->Value.okWide zy a .any E t v:=B;have i:=u;obtain⟨p,q,s,I,rfl,a4,a5⟩:=u;have r:DataW.TrodAll c zy a 0 (fun _=>zt) zt Tryz.f3.params.toList b.toList F p:=s;rw[Tryz.params3]at r z l;obtain⟨v0,m,rfl,rfl,o⟩:=trodAll_one r;obtain⟨rfl,rfl⟩:=trodVars_none I;obtain⟨a0,a6,a3,rfl⟩:=okWide_slice underlying22<|z 0 22 v0 Q Q;have⟨V,P,S,k⟩:=jR Q o (fun n k=>by have:=List.all_eq_true.1 l n<|DataW.weights_mem_each (j:=0) (t:=22) Q Q n k;grind)
 clear s B l;simp only[AN]at i;have R:∀x∈p,x.block<a:=fun x U=>by simpa using i.lt x U
 refine(nR ⟨bF a f,gC a f,uJ,qC lQ,(Ve a f).1,Ad _⟩ (Ve a f).2 _ V P S k).mono fun e W' ⟨K,y⟩=>?_
 subst K;have g:Rows.allSpec.fn H ([m]++[])={results:=[.lit<|.bool zt],args:=[m]}:=Q;refine⟨_,Q,_,_,_,[],p,[],i,?_,?_,by rw[g];rfl,y.frame _,fun h=>by cases h⟩;rw[g];exact trodAll_mk1<|shut_bool underlying4 zt;rw[g];exact trodAll_mk1<|Below.trod Tryz.alaidOut (by kernel_rfl) (of_decide_eq_true<|by kernel_rfl) o y R
theorem DG{a b:Bool}(h:a=zt)(k:b=zt):(a && b)=zt:=by grind
theorem bE:joinedFacts Tryz.pinned.checked.prog 3 Tryz.f3 Rows.allSpec Rows.allRow=zt:=by
 unfold joinedFacts;exact DG (DG (DG (DG (DG (DG (DG (DG (DG (DG (DG (DG (DG (DG (DG (DG (DG (DG (DG (DG (DG (DG (DG (DG (DG (DG (DG (DG (DG (DG (DG
  (by as_aux_lemma=>kernel_rfl) (by as_aux_lemma=>kernel_rfl))
  (by as_aux_lemma=>kernel_rfl))
  (by as_aux_lemma=>kernel_rfl))
  (by as_aux_lemma=>kernel_rfl))
  (by as_aux_lemma=>kernel_rfl))
  (by as_aux_lemma=>kernel_rfl))
  (by as_aux_lemma=>kernel_rfl))
  (by as_aux_lemma=>kernel_rfl))
  (by as_aux_lemma=>kernel_rfl))
  (by as_aux_lemma=>kernel_rfl))
  (by as_aux_lemma=>kernel_rfl))
  (by as_aux_lemma=>kernel_rfl))
  (by as_aux_lemma=>kernel_rfl))
  (by as_aux_lemma=>kernel_rfl))
  (by as_aux_lemma=>kernel_rfl))
  (by as_aux_lemma=>kernel_rfl))
  (by as_aux_lemma=>kernel_rfl))
  (by as_aux_lemma=>kernel_rfl))
  (by as_aux_lemma=>kernel_rfl))
  (by as_aux_lemma=>kernel_rfl))
  (by as_aux_lemma=>kernel_rfl))
  (by as_aux_lemma=>kernel_rfl))
  (by as_aux_lemma=>kernel_rfl))
  (by as_aux_lemma=>kernel_rfl))
  (by as_aux_lemma=>kernel_rfl))
  (by as_aux_lemma=>kernel_rfl))
  (by as_aux_lemma=>kernel_rfl))
  (by as_aux_lemma=>kernel_rfl))
  (by as_aux_lemma=>kernel_rfl))
  (by as_aux_lemma=>kernel_rfl))
  (by as_aux_lemma=>kernel_rfl)
theorem bG:Rows.AllSaid:=
 OpenClaim.holds_of_wide 3 Tryz.f3 Q Q Q Q Q Q Q ⟨Q,Q,Q,Q,Q⟩ Q Q Q Q Q Q func3 bE
  (of_decide_eq_true Q) (by unfold Func.isWrapper;first|(rw[Bb<|by decide+kernel];kernel_rfl)|(rw[Ba<|by decide+kernel];exact⟨Q,Q⟩))
  (fun b c H a _=>XK b c H a)
theorem all_card_holds:Rows.AllCardSaid:=
 Claim7.holds_tied_plain_at .later [] [.data,.data,.data,.sentinel,.sentinel] zt Rows.allCard.stood.harness zt
  bG (fun _ h=>by cases h) Q (fun _ h=>by cases h) all_row_tie Q ⟨Q,Q⟩ Q Q
  (fun f a b c=>by
    obtain rfl:f=3:=Bo ((show Tryz.prog.funcNamed "pointsman/pointsmanlaw.All" =T 3 by kernel_rfl).symm.trans b)|>.symm
    obtain rfl:a=Tryz.f3:=(Bo<|Tryz.func3.symm.trans c).symm;exact⟨by kernel_rfl,fun j t d=>by
     rw[Tryz.params3]at d;have g:t∈[22]:=by grind
     have e:([22].all fun u=>!Tryz.prog.wantsStandIn u)=zt:=by kernel_rfl
     exact(show Tryz.prog.wantsStandIn t=zr by grind)⟩)
  rfl
#print axioms all_card_holds

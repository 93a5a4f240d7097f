/- Part of the proof: LsO LsQ LsR LtE LuF. -/
import Derived.Test.YtaningfhibkemaaGreatDoorG42
set_option maxRecDepth 100000
set_option maxHeartbeats 4000000
namespace Go.Proofs.YtaningfhibkemaaGreatDoor
open Go.RowKit Go.Proofs.Tryz
theorem UA{P mn pn Q d fs g l rp sb pb Bp B U fv sv nv cv ev s G H w x y z}(C:ZU P mn pn Q d fs g l rp sb pb Bp B U fv sv nv cv ev s G H w x y z):
 Calls prog 6 #[.pointer (some ⟨l,0,none⟩)] g fun e w'=>e=.returned (.bool true)/\O (fun k=>k=l) g w':=by
 have D0:D (WdS g l (CD G H) (CD w x) (CD y z) (4*0) g):=⟨O.refl _ _,_,_,C.bx,gR _ _ _ _⟩;have d7:d.length<=12:=by have:=C.K.len;have:=C.K.hy.ok.cR;omega
 have a2:∀f (h:f<d.length),d[f].t8.length<=12:=fun f h=>by rw[C.hv f h];exact C.K.hy.ok.ok.t8 f
 have d6:=C.K.hy.pn;have d4:=C.K.hy.ok.lc;have b8:=J a2;have A:=J (C.at D0.o);have m:=J C;have y0:=A.o.b0;have y2:=A.o.b2;have y5:=A.o.r2;have m0:=A.o.lb;have m3:=A.o.l2;clear C a2 A;go_enter func6,ntmps6;go_upto_block 0 with fail;clear y0 y2 y5 m0 m3;go_cut[] (fun wx=>∃n:Nat,D (n<=144)/\D (WdS g l (CD G H) (CD w x) (CD y z) (4*n) wx))
 case first=>
  go_wp2_with fail;go_loopw[4] (fun i t=>∃(k n:Nat),k<=d.length/\i=.int .i64 k/\D (n<=12*k)/\D (WdS g l (CD G H) (CD w x) (CD y z) (4*n) t)) (fun i _=>d.length-(intOf i).toNat)
  case atStart=>exact⟨0,0,Z,rfl,J Z,D0⟩
  case round=>
   clear D0;obtain⟨k,n,hk,rfl,b,a⟩:=hrel;have A:=J (m.o.at a.o);have f0:=Ak A.o.ru.pr 0;have lp:=Ae A.o.ru.pr;obtain⟨rs,a1,_⟩:=A.o.ru.fn;obtain⟨ga,gl,gc,rfl⟩:=Ad a1;have d0:=Ag a1;subst d0;simp only[gH,gF]at f0;by_cases L:k<d.length
   .have tk:decide ((k:Int)<(d.length:Int))=true:=jX;obtain⟨Y,rfl⟩:=Ap a1 Z;have lg:=(a1.lt Y rfl).2;obtain⟨tv,bv,vv,b1,b4,a9,a3⟩:=m.o.ru.fn.get L;obtain⟨t1,t2,t3,rfl⟩:=Ad b4;obtain⟨R,S,V,rfl⟩:=Ad a9;obtain⟨v1,v2,I,rfl⟩:=Ad a3;have d2:=Ag a3;subst d2;obtain⟨c0,c8⟩:Y<g.heap.size/\Y≠l:=by obtain⟨d9,b3,_⟩:=m.o.ru.fn;exact⟨(b3.lt Y rfl).2,Am b3 m.o.bx T Y rfl⟩
    have a2:=b8.o k L;have v:∀j,j<7->wr.cell? ⟨Y,k*7+j,none⟩=(EH d[k] (.slice t1 t2 t3) (.slice R S V) (.slice v1 d[k].t8.length I))[j]? :=fun j hj=>(gJ (a.o.o.block Y c0 c8)).trans (b1 j hj)
    have a6:D (∀j (h:j<d[k].t8.length),YV d pn Q 2 0 0 d[k].name.d9 d[k].t8[j]):=fun j h=>.inl ⟨rfl,k,j,L,h,rfl,rfl⟩
    have a0:=J a3;generalize d[k]=F at v a6 a0 a2;have n0:=v 0 T;have n1:=v 1 T;have n2:=v 2 T;have n3:=v 3 T;have n4:=v 4 T;have n5:=v 5 T;have n6:=v 6 T;simp only[EH,gH,gF,gG,gX]at n0 n1 n2 n3 n4 n5 n6;have u:=J (W.new wr (EH F (.slice t1 t2 t3) (.slice R S V) (.slice v1 F.t8.length I)) 53);have c:=J (a.o.s9 ((O.refl kD wr).alloc (.cells (EH F (.slice t1 t2 t3) (.slice R S V) (.slice v1 F.t8.length I)) 53)));have a7:=J (show k+1<=d.length from L);clear b1 b4 a9 a3 v a1 A a;go_upto_block 2 with fail;change Code.wp _ _ _ _ (wr.alloc (.cells (EH F (.slice t1 t2 t3) (.slice R S V) (.slice v1 F.t8.length I)) 53));generalize wr.alloc (.cells (EH F (.slice t1 t2 t3) (.slice R S V) (.slice v1 F.t8.length I)) 53)=W1 at u c⊢;clear n0 n1 n2 n3 n4 n5 n6 f0 lp lg;generalize wr.heap.size=b5 at u⊢;go_wp2_with fail;go_loopw[6] (fun i t=>∃(j n:Nat),j<=F.t8.length/\i=.int .i64 j/\D (n<=12*k+j)/\D (WdS g l (CD G H) (CD w x) (CD y z) (4*n) t)/\D (W b5 (EH F (.slice t1 t2 t3) (.slice R S V) (.slice v1 F.t8.length I)) 53 t)) (fun i _=>F.t8.length-(intOf i).toNat)
    case atStart=>exact⟨0,n,Z,rfl,b,c,u⟩
    case round=>
     clear c u b;obtain⟨j,n,hj,rfl,b,c,u⟩:=hrel;obtain⟨b0,b6⟩:=u.o.e2 0 6;have d8:=Ae u.o;simp only[EH,gH,gF,gG]at b0 b6;by_cases b2:j<F.t8.length
     .have tj:decide ((j:Int)<(F.t8.length:Int))=true:=jX;obtain⟨r,rfl⟩:=Ap a0.o Z;have hX:=a6.o j b2;have HV:D (∀p,O (fun k=>k=l) g p->p.cell? ⟨r,j,none⟩=some (.string F.t8[j])/\r<p.heap.size):=fun p o=>⟨(gJ (o.block r (a0.o.lt r rfl).2 (Am a0.o m.o.bx T r rfl))).trans (Hb a0.o j b2),gY (a0.o.lt r rfl).2 o.size⟩
      generalize F.t8[j]=X at HV hX;obtain⟨c1,c2⟩:=HV.o wr c.o.o;have N:=J (Li m.o (c.o.s9 (O.refl _ wr).drew) (by have:=b.o;omega) 2 0 0 F.name.d9 X hX);have b7:D (∀p,JK wr.drew p->p.cell? ⟨b5,0,none⟩=some (.string F.name.d9)/\p.cell? ⟨b5,6,none⟩=some (.slice (some ⟨r,0,none⟩) F.t8.length I)/\W b5 (EH F (.slice t1 t2 t3) (.slice R S V) (.slice (some ⟨r,0,none⟩) F.t8.length I)) 53 p):=fun p q=>by have h:=q _ _ _ T T T u.o;exact⟨h.cell 0,h.cell 6,h⟩
      have d5:(j:Int)<(F.t8.length:Int):=Z;clear c u hX;go_upto_region 11 with fail;go_region_held3(fun w'=>w'.cell? ⟨b5,0,none⟩=some (.string F.name.d9)/\w'.cell? ⟨b5,6,none⟩=some (.slice (some ⟨r,0,none⟩) F.t8.length I)/\w'.cell? ⟨r,j,none⟩=some (.string X)) (go_keep)
       (first
         |(go_at_call 12;refine N.o.mono ?_;rintro e w2 ⟨rfl,E,n2⟩;have Q2:=J E;obtain⟨c3,c4,c5⟩:=b7.o _ n2;have B2:=J c5;obtain⟨c6,c7⟩:=HV.o _ E.o;clear E n2 c5))
      all_goals
       have M:D (n+1<=12*k+(j+1)):=by have:=b.o;exact J Z
       go_wp2_with fail;go_roundw
       case rel=>exact⟨j+1,n+1,Z,by go_num,M,Q2,B2⟩
       case measure=>simp[intOf];omega
     .have tj:decide ((j:Int)<(F.t8.length:Int))=false:=jX;have M:D (n<=12*(k+1)):=by have:=b.o;exact J Z
      go_wp2_with fail;go_roundw
      case rel=>exact⟨k+1,n,a7.o,by go_num,M,c⟩
      case measure=>have:=a7.o;simp[intOf];omega
   .have tk:decide ((k:Int)<(d.length:Int))=false:=jX;have a5:D (n<=144):=by have:=b.o;exact J Z
    clear a1 A;go_wp2_with fail;go_meet
    case rel=>exact⟨n,a5,a⟩
 case rest=>
 obtain⟨n0,a4,a⟩:=hcut;clear D0;go_upto_block 4 with fail;go_cut[] (fun wx=>∃n:Nat,D (n<=144+6*4002)/\D (WdS g l (CD G H) (CD w x) (CD y z) (4*n) wx))
 case first=>
  go_wp2_with fail;go_loopw[8] (fun i t=>∃(k n:Nat),k<=pn+2/\i=.int .i64 k/\D (n<=144+6*k)/\D (WdS g l (CD G H) (CD w x) (CD y z) (4*n) t)) (fun i _=>pn+2-(intOf i).toNat)
  case atStart=>exact⟨0,n0,Z,rfl,a4,a⟩
  case round=>
   clear a a4;obtain⟨k,n,hk,rfl,b,a⟩:=hrel;have A:=J (m.o.at a.o);have p2:=Ak A.o.ru.pr 2;have lp:=Ae A.o.ru.pr;simp only[gH,gF,gG]at p2;by_cases L:k<=pn+1
   .have tk:decide ((k:Int)<=(pn:Int)+1)=true:=jX;clear A;go_upto_block 6 with fail;clear p2 lp;go_wp2_with fail;go_loopw[9] (fun i t=>∃(K:Int) (n:Nat),-1<=K/\K<=5/\i=.int .i64 K/\D ((n:Int)<=144+6*k+(K+1))/\D (WdS g l (CD G H) (CD w x) (CD y z) (4*n) t)) (fun i _=>(5-intOf i).toNat)
    case atStart=>exact⟨-1,n,Z,Z,rfl,by have:=b.o;exact J Z,a⟩
    case round=>
     clear a b;obtain⟨K,n,c9,d3,rfl,b,a⟩:=hrel;by_cases d1:K<=4
     .have tj:decide (K<=4)=true:=jX;have hw:IntKind.i64.wrap (K+1)=K+1:=by rw[IntKind.wrap_i64];omega
      have N:=J (Li m.o a.o (by have:=b.o;omega) 3 k K ByteArray.empty ByteArray.empty (.inr (.inl ⟨rfl,L,c9,d1⟩)));have M:D (((n+1:Nat):Int)<=144+6*k+(K+1+1)):=by have:=b.o;exact J Z
      clear a;go_wp2_with fail;refine N.o.mono ?_;rintro e w2 ⟨rfl,E,_⟩;have Q2:=J E;clear E N;go_wp2_with fail;go_roundw
      case rel=>exact⟨K+1,n+1,Z,Z,by go_num,M,Q2⟩
      case measure=>simp[intOf];omega
     .have tj:decide (K<=4)=false:=jX;have M:D (n<=144+6*(k+1)):=by have:=b.o;exact J Z
      go_wp2_with fail;go_roundw
      case rel=>exact⟨k+1,n,Z,by go_num,M,a⟩
      case measure=>simp[intOf];omega
   .have tk:decide ((k:Int)<=(pn:Int)+1)=false:=jX;have a5:D (n<=144+6*4002):=by have:=b.o;exact J Z
    clear A;go_wp2_with fail;go_meet
    case rel=>exact⟨n,a5,a⟩
 case rest=>
 obtain⟨n1,a8,c⟩:=hcut;clear a a4;go_upto_block 8 with fail;go_wp2_with fail;go_loopw[11] (fun i t=>∃(k n:Nat),k<=Q+2/\i=.int .i64 k/\D (n<=144+6*4002+k)/\D (WdS g l (CD G H) (CD w x) (CD y z) (4*n) t)) (fun i _=>Q+2-(intOf i).toNat)
 case atStart=>exact⟨0,n1,Z,rfl,a8,c⟩
 case round=>
  clear c a8;obtain⟨k,n,hk,rfl,b,c⟩:=hrel;have A:=J (m.o.at c.o);have p3:=Ak A.o.ru.pr 3;have lp:=Ae A.o.ru.pr;simp only[gH,gF,gG]at p3;by_cases L:k<=Q+1
  .have tk:decide ((k:Int)<=(Q:Int)+1)=true:=jX;have N:=J (Li m.o c.o (by have:=b.o;omega) 4 k 0 ByteArray.empty ByteArray.empty (.inr (.inr ⟨rfl,L⟩)));clear A c;go_wp2_with fail;refine N.o.mono ?_;rintro e w2 ⟨rfl,E,_⟩;have Q2:=J E;clear E N;go_wp2_with fail;go_roundw
   case rel=>exact⟨k+1,n+1,Z,by go_num,by have:=b.o;exact J Z,Q2⟩
   case measure=>simp[intOf];omega
  .have tk:decide ((k:Int)<=(Q:Int)+1)=false:=jX;have b9:=J c.o.o;clear c A;go_wp2_with fail;go_ret;exact⟨rfl,b9.o⟩
theorem Gj.setE{B G F E p r t C s w g}(h:Gj B G F E p (.slice (some ⟨g,0,none⟩) r t) C s w)(i:Nat)(u:Value)(L:List ByteArray)(R:Au B w u L):
 Gj B G F E p (.slice (some ⟨g,0,none⟩) r t) C ⟨s.cells,s.ents.set i L,s.more⟩ (w.setCell ⟨g,i,none⟩ u)/\O (fun k=>k=g) w (w.setCell ⟨g,i,none⟩ u)/\B<=g:=by
 have d:O (fun k=>k=g) w (w.setCell ⟨g,i,none⟩ u):=(O.refl _ w).t9 i u;have x:=h.en;obtain⟨a,c,e⟩:=x.form;cases e;obtain⟨S,H,A,N⟩:=x;obtain⟨M,U,Y,y⟩:=Cu A (k:=g) rfl;have f:∀{v l},Au B w v l->Au B (w.setCell ⟨g,i,none⟩ u) v l:=fun{v l} q=>Ai q d (fun k V X o z=>by subst o;rw[y]at z;cases z)
 refine⟨⟨h.bx.d8 d (fun q=>?_),f h.nr,h.nl,?_,⟨S.set i u,by simp[H],?_,fun j m b=>?_⟩,h.sb,h.ne,h.ln,h.sh⟩,d,M⟩
 .have n:=h.bx;unfold W at n;rw[q,y]at n;cases n
 .obtain⟨K,I,Q,P⟩:=h.cl;exact⟨K,I,Ac Q d (fun k o q=>h.ne k g o rfl q),fun j m b=>f (P j m b)⟩
 .have:=(A.stored i u).1;simpa using this
 .simp only[jL]at m b;rw[List.getElem_set,List.getElem_set];split
  .exact f R
  .exact f (N j Z b)
theorem Tr{P:List PFn}{b c a:Nat}(Y:AnHy P b c a){g:Nat}(d:g<P.length):⟨#[64]⟩++CK P g=BU P (fN g):=by
 have:=Y.ok.cR;have e:QT (fN g)=⟨2,g,0⟩:=by unfold QT Ds fN;rw[jG Z,jH Z];simp only;rw[show 144+g-144=g by omega]
 unfold BU IN CK;rw[e];apply ByteArray.ext;apply Array.ext';simp
theorem QX.eshort{P:List PFn}{j c a:Nat}(Y:AnHy P j c a){s:Ls}(h:QX P c a s){l:List ByteArray}(b:l∈s.ents):l.length<=12:=by
 obtain⟨i,e,rfl⟩:=iF.1 b;have:=Ka _ ((List.range P.length).map (CK P)) (h.es _ b).nodup fun x f=>by obtain⟨g,d,rfl⟩:=h.ei i _ (gL e) x f;exact iT.2 ⟨g,List.mem_range.2 (Hl Y.ok d).2,rfl⟩
 have:=Y.ok.cR;simp only[iJ,List.length_range]at*;omega
structure Vg(P:List PFn)(pn cn B sb pb Bp:Nat)(nv cv ev:Value)(w0 w:World)(b6:Nat)(xa:Array Value)(av:Value)(al:List Tk)(s:Ls)(wr:World):Prop where
 x:KQ P pn cn B sb pb nv cv ev w0 s wr
 o:DY sb cv ev w wr
 b6:W b6 xa 92 wr
 ar:CE Bp wr av al
theorem Vg.next{P g d B c f j e a b q w n r m l s p wr i}(h:Vg P g d B c f j e a b q w n r m l s wr)(k:QY P g d B c f e a b p i)(o:DY c a b wr i):Vg P g d B c f j e a b q w n r m l p i:=
 ⟨h.x.next k o,h.o.trans o,h.x.p.m.bY o h.b6 T T,h.x.p.m.row o h.ar T T⟩
theorem Vg.s9{P k e B l j a i f g m w d p c b s wr n}(h:Vg P k e B l j a i f g m w d p c b s wr)(o:O kD wr n):Vg P k e B l j a i f g m w d p c b s n:=h.next (h.x.p.s9 o) (DY.of o)
def ZY(P:List PFn)(o h B b n p:Nat)(k i j:Value)(v:World):Prop:=
 ∀(s:Ls) (w:World) (u:FS) (r:Rl) (t:Nat) (f g m:Value) (X d Q:ByteArray),KQ P o h B b n k i j v s w->MxR P u r->AR r->(least P).I r.at t->XC 4000 u->CE p w f u.args->(∃a l c,g=.slice a l c)->(∃a l c,m=.slice a l c)->X=BU P t->d=BU P r.tg->Q=BU P r.sr->
  Calls prog 62 #[.pointer (some ⟨b,0,none⟩),.agg (Bo u f g m),.string X,.string d,.string Q] w fun e q=>e=.returned (.tuple #[])/\GG P o h B b n k i j s w q (Dd P r t)
def FH(P:List PFn)(r:Rl)(S:Sy):Prop:=KL P r S/\(AR r->∀t,S.I r.at t->Dd P r t S)
theorem J6{a b:Nat}(h:Du a=Du b):a=b:=by
 unfold Du at h;repeat' split at h
 all_goals omega
theorem aQ{P:List PFn}{mn pn N:Nat}{rf:List RF}{Q:List FS}(K:LsK P mn pn N rf Q){u:FS}{r b:Rl}(M:MxR P u r)(j:MxR P u b){S:Sy}(h:FH P r S):FH P b S:=by
 have hk:b.s.kind=r.s.kind:=J6 (j.kind.symm.trans M.kind);have k:r.s.kind≠0->r.s.kind≠10->b.tg=r.tg:=fun q1 q2=>by have d:=K.tgx M q1 q2;have e:=K.tgx j Z Z;exact Fi K.nm K.hy (.inl e.2) (.inl d.2) (e.1.symm.trans d.1)
 have s:r.s.kind=2\/r.s.kind=3\/r.s.kind=5\/r.s.kind=6\/r.s.kind=8\/r.s.kind=9\/r.s.kind=10->b.sr=r.sr:=fun q=>by have d:=K.srx M q;have e:=K.srx j Z;exact Fi K.nm K.hy (.inl e.2) (.inl d.2) (e.1.symm.trans d.1)
 have B:r.s.kind=4\/r.s.kind=7->b.s.cC=r.s.cC:=fun q=>by have d:=M.g q;have e:=j.g Z;exact K.nm.inj _ _ ((K.st j).func Z) ((K.st M).func q) (e.trans d.symm)
 have y:r.s.kind=7\/r.s.kind=8->b.s.args.length=r.s.args.length/\∀i n,b.s.args[i]? =some n->∃a,r.s.args[i]? =some a/\vN b.f n=vN r.f a:=fun q=>by
  have d:=K.arx M q;have e:=K.arx j Z;refine⟨e.1.symm.trans d.1,fun i n v=>?_⟩;obtain⟨p,rfl⟩:=List.getElem?_eq_some_iff.1 v;have o:i<u.args.length:=by rw[e.1];exact p
  have w:i<r.s.args.length:=by rw[<-d.1];exact o
  have m:=d.2 i o w;have l:=e.2 i o p;exact⟨_,gL w,Fi K.nm K.hy (.inl l.2) (.inl m.2) (l.1.symm.trans m.1)⟩
 have C:r.s.kind=1\/r.s.kind=8->b.s.cA=r.s.cA:=fun q=>(j.pl Z).symm.trans (M.pl q)
 have a1:r.s.kind=3->b.s.field=r.s.field:=fun q=>(j.field Z).symm.trans (M.field q)
 have A:∀g,r.s.kind=7\/r.s.kind=8->Dj P r g S->Dj P b g S:=fun g q c=>⟨fun i n v=>by obtain⟨a,p,o⟩:=(y q).2 i n v;rw[o];exact c.1 i a p,fun x hx=>by rw[k Z Z];exact c.2 x hx⟩
 obtain⟨⟨F,G,H,I,L⟩,f⟩:=h;refine⟨⟨fun q=>?_,fun q=>?_,fun q=>?_,fun q=>?_,fun q=>?_⟩,fun hF t E=>?_⟩
 .rw[k Z Z,C Z];exact F Z
 .rw[k Z Z,s Z];exact G Z
 .rw[k Z Z,B Z];exact H Z
 .rw[k Z Z,s Z];exact I Z
 .rw[B Z];exact A _ Z (L Z)
 .have Y:AR r:=by unfold AR at hF⊢;omega
  have a0:b.at=r.at:=by
   unfold Rl.at;rw[hk];unfold AR at hF;split
   .exact k Z Z
   .exact s Z
  rw[a0]at E;obtain⟨R,U,V,X⟩:=f Y t E;refine⟨fun q m l=>?_,fun q z=>?_,fun q z=>?_,fun q m l=>?_⟩
  .rw[k Z Z,a1 Z];exact R Z m l
  .rw[k Z Z];exact U Z z
  .rw[s Z];exact V Z z
  .rw[(y Z).1]at l;obtain⟨y1,y2⟩:=X Z m l;rw[C Z];exact⟨y1,A _ Z y2⟩
theorem WU{P:List PFn}{mn y cn:Nat}{rf:List RF}{fs:List FS}(K:LsK P mn y cn rf fs){B o C Bp pl ca:Nat}{V F H:Value}{U:Nat->Prop}{fv sv:Value}{w0:World}(G:XB C Bp B U fv sv rf fs pl ca w0)(E:ZY P y cn B o C Bp V F H w0){s:Ls}{w:World}(h:KQ P y cn B o C V F H w0 s w){k:Nat}{u:FS}(p:fs[k]? =some u)(av bv ov:Value)(d0:CE Bp w av u.args)(h6:∃a l c,bv=.slice a l c)(i2:∃a l c,ov=.slice a l c):
 Calls prog 24 #[.pointer (some ⟨o,0,none⟩),.agg (Bo u av bv ov)] w fun e n=>e=.returned (.tuple #[])/\GG P y cn B o C V F H s w n (fun S=>∀r,MxR P u r->FH P r S):=by
 obtain⟨a2,l2,c2,rfl⟩:=h6;obtain⟨a3,l3,c3,rfl⟩:=i2;obtain⟨a1,l1,c1,rfl⟩:=Ad d0;have i0:=Ag d0;subst i0;have f5:=K.cS k u p;have hz:=K.z u (List.mem_of_getElem? p);have AL:=J ((O.refl kD w).alloc (.cells (Bo u (.slice a1 u.args.length c1) (.slice a2 l2 c2) (.slice a3 l3 c3)) 92));have B3:=J (W.new w (Bo u (.slice a1 u.args.length c1) (.slice a2 l2 c2) (.slice a3 l3 c3)) 92);have d5:=J (h.s9 AL.o);have d3:=J (Ac d0 AL.o (fun _ _ q=>q));have A:=J K;have HG:=J G;have HE:=J E;have HZ:=J hz;have h0:=J p;have c6:=J f5;clear h K G E p hz d0 f5;go_enter func24,ntmps24;go_upto_region 1 with fail;generalize w.alloc (.cells (Bo u (.slice a1 u.args.length c1) (.slice a2 l2 c2) (.slice a3 l3 c3)) 92)=d6 at AL B3 d5 d3⊢;generalize w.heap.size=d at B3⊢;have c8:D (Vg P y cn B o C Bp V F H w0 w d (Bo u (.slice a1 u.args.length c1) (.slice a2 l2 c2) (.slice a3 l3 c3)) (.slice a1 u.args.length c1) u.args s d6):=⟨d5.o,DY.of AL.o,B3.o,d3.o⟩;clear d5 AL d3 B3;have HC:D (∀s' W1,Vg P y cn B o C Bp V F H w0 w d (Bo u (.slice a1 u.args.length c1) (.slice a2 l2 c2) (.slice a3 l3 c3)) (.slice a1 u.args.length c1) u.args s' W1->W1.cell? ⟨d,0,none⟩=some (.int .i64 u.kind)/\W1.cell? ⟨d,1,none⟩=some (.string u.p.d9)/\W1.cell? ⟨d,2,none⟩=some (.int .i64 u.p.pos)/\W1.cell? ⟨d,3,none⟩=some (.int .i64 u.p.sort)/\W1.cell? ⟨d,4,none⟩=some (.string u.q.d9)/\W1.cell? ⟨d,5,none⟩=some (.int .i64 u.q.pos)/\W1.cell? ⟨d,6,none⟩=some (.int .i64 u.q.sort)/\W1.cell? ⟨d,7,none⟩=some (.int .i64 u.field)/\W1.cell? ⟨d,8,none⟩=some (.slice a1 u.args.length c1)/\W1.cell? ⟨d,9,none⟩=some (.int .i64 u.l7)/\W1.cell? ⟨d,10,none⟩=some (.slice a2 l2 c2)/\W1.cell? ⟨d,11,none⟩=some (.slice a3 l3 c3)/\W1.cell? ⟨d,12,none⟩=some (.int .i64 u.br)/\W1.cell? ⟨d,13,none⟩=some (.int .i64 u.dG)/\W1.cell? ⟨d,14,none⟩=some (.int .i64 u.cS)/\d<W1.heap.size):=fun s' W1 h=>⟨h.b6.cell 0,h.b6.cell 1,h.b6.cell 2,h.b6.cell 3,h.b6.cell 4,h.b6.cell 5,h.b6.cell 6,h.b6.cell 7,h.b6.cell 8,h.b6.cell 9,h.b6.cell 10,h.b6.cell 11,h.b6.cell 12,h.b6.cell 13,h.b6.cell 14,Ae h.b6⟩
 have e5:D (∀b t,KQ P y cn B o C V F H w0 s b->t.d9.size<=4000->Calls prog 58 #[.pointer (some ⟨o,0,none⟩),.agg (Bo u (.slice a1 u.args.length c1) (.slice a2 l2 c2) (.slice a3 l3 c3)),.agg (XH t)] b fun e n=>e=.returned (.string (Yu rf u t))/\O kD b n):=fun b t N ht=>by have:=Hn HG.o N u (.slice a1 u.args.length c1) (.slice a2 l2 c2) (.slice a3 l3 c3) ⟨_,_,_,rfl⟩ ⟨_,_,_,rfl⟩ ⟨_,_,_,rfl⟩ t c6.o ht;rw[LY]at this;exact this
 obtain⟨x0,x1,x2,x3,x4,x5,x6,x7,x8,x9,b5,b6,b7,b8,b9,lb⟩:=HC.o s d6 c8.o;go_wp2_with fail;refine(e5.o d6 u.p c8.o.x HZ.o.1).mono ?_;rintro e w1 ⟨rfl,o1⟩;have c9:=J (c8.o.s9 o1);clear o1 c8 x0 x1 x2 x3 x4 x5 x6 x7 x8 x9 b5 b6 b7 b8 b9 lb;obtain⟨x0,x1,x2,x3,x4,x5,x6,x7,x8,x9,b5,b6,b7,b8,b9,lb⟩:=HC.o s w1 c9.o;go_wp2_with fail;refine(e5.o w1 u.q c9.o.x HZ.o.2.1).mono ?_;rintro e Q ⟨rfl,o2⟩;have Y:=J (c9.o.s9 o2);clear o2 c9 x0 x1 x2 x3 x4 x5 x6 x7 x8 x9 b5 b6 b7 b8 b9 lb;obtain⟨x0,x1,x2,x3,x4,x5,x6,x7,x8,x9,b5,b6,b7,b8,b9,lb⟩:=HC.o s Q Y.o;have i3:=A.o.rule k u h0.o;have a7:D ((∀r,MxR P u r->r.s.kind=0\/r.s.kind=10)->GG P y cn B o C V F H s w Q (fun S=>∀r,MxR P u r->FH P r S)):=fun hn=>⟨s,Y.o.x.p,(Fq.rf Y.o.x.p.i).to fun _ _ r M=>by have:=hn r M;exact⟨⟨fun q=>Z,fun q=>Z,fun q=>Z,fun q=>Z,fun q=>Z⟩,fun q=>by unfold AR at q;omega⟩,Y.o.o⟩
 rcases i3 with hb|⟨r,M⟩
 .have f9:∀r,MxR P u r->False:=fun r M=>by
   have h1:=M.kind;have h2:=M.cR;unfold Du at h1;split at h1
   .omega
   .split at h1<;>omega
  have R1:=J (a7.o fun r M=>(f9 r M).elim)
  have k2:((u.kind:Int)==2)=false:=jX
  have k3:((u.kind:Int)==3)=false:=jX
  have k6:((u.kind:Int)==6)=false:=jX
  have k7:((u.kind:Int)==7)=false:=jX
  have k8:((u.kind:Int)==8)=false:=jX
  have k4:((u.kind:Int)==4)=false:=jX
  have k5:((u.kind:Int)==5)=false:=jX
  have a6:((u.kind:Int)==10)=false:=jX
  have k9:((u.kind:Int)==9)=false:=jX
  clear hb f9 a7
  go_wp2_with fail
  go_end0
  exact⟨rfl,R1.o⟩
 .have b0:D (∀w3,GG P y cn B o C V F H s Q w3 (FH P r)->GG P y cn B o C V F H s w w3 (fun S=>∀r,MxR P u r->FH P r S)):=fun w3 ⟨s3,q1,q2,q3⟩=>⟨s3,q1,q2.to fun _ q r' M'=>aQ A.o M M' q,Y.o.o.trans q3⟩
  have a9:=A.o.st M;have a5:∀j,j∈[1,2,4,6,7]->r.s.kind=j->¬AR r:=fun j hj q hF=>by unfold AR at hF;simp only[iZ,iH,or_false]at hj;omega
  have a4:=(En P).beg r M.rl;have kd:=M.kind;have h4:=M.cR;obtain⟨Xp,d8⟩:∃x,Yu rf u u.p=x:=⟨_,rfl⟩;obtain⟨Xq,d9⟩:∃x,Yu rf u u.q=x:=⟨_,rfl⟩;rw[d8,d9];have b4:=J d8;have c7:=J d9;have HM:=J M;have h7:r.s.kind=0\/r.s.kind=1\/r.s.kind=2\/r.s.kind=3\/r.s.kind=4\/r.s.kind=5\/r.s.kind=6\/r.s.kind=7\/r.s.kind=8\/r.s.kind=9\/r.s.kind=10:=Z;have b2:∀(R:Sy->Prop) (w3:World),(∀S,R S->FH P r S)->GG P y cn B o C V F H s Q w3 R->GG P y cn B o C V F H s Q w3 (FH P r):=fun R w3 f ⟨s3,q1,q2,q3⟩=>⟨s3,q1,q2.to fun _ q=>f _ q,q3⟩
  have g7:=A.o.hy.pn;clear d8 d9 kd h4;by_cases hF:AR r
  .have b1:r.s.kind=3\/r.s.kind=5\/r.s.kind=8\/r.s.kind=9:=hF;have a0:=A.o.tgx M Z Z;have a8:=A.o.srx M Z;obtain⟨Xo,f1,e9,f0⟩:∃Xo,(Xo=if r.s.kind=9 then Xp else Xq)/\Xo=BU P r.at/\AK P y r.at:=by
    by_cases q9:r.s.kind=9
    .exact⟨Xp,by rw[jH q9],by unfold Rl.at;rw[jH q9];exact b4.o.symm.trans a0.1,by unfold Rl.at;rw[jH q9];exact a0.2⟩
    .exact⟨Xq,by rw[jG q9],by unfold Rl.at;rw[jG q9];exact c7.o.symm.trans a8.1,by unfold Rl.at;rw[jG q9];exact a8.2⟩
   have k2:((u.kind:Int)==2)=false:=by rcases b1 with q|q|q|q<;>(rw[AD M q];rfl)
   have k3:((u.kind:Int)==3)=false:=by rcases b1 with q|q|q|q<;>(rw[AD M q];rfl)
   have k6:((u.kind:Int)==6)=false:=by rcases b1 with q|q|q|q<;>(rw[AD M q];rfl)
   have k7:((u.kind:Int)==7)=false:=by rcases b1 with q|q|q|q<;>(rw[AD M q];rfl)
   have k8:((u.kind:Int)==8)=false:=by rcases b1 with q|q|q|q<;>(rw[AD M q];rfl)
   have HO:=Jr B o C V F H (Ik P y) s Q Y.o.x.p.m Xo;have hL:ZV (Ik P y) s.cells Xo=Ie P y s r.at:=by rw[e9];rfl
   rw[hL]at HO;have HO:=J HO;have c6:D (∀z,z∈Ie P y s r.at->∃t,(least P).I r.at t/\z=BU P t):=fun z hz=>Ra A.o.nm A.o.hy Y.o.x.p.i f0 hz
   have e3:D ((Ie P y s r.at).length<=16400):=by
    unfold Ie;split
    .exact gV _
    .rcases hq:s.cells[(Vh P y r.at).toNat]? with _|q
     .exact gV _
     .exact Y.o.x.p.i.short A.o.hy (List.mem_of_getElem? hq)
   have g3:D (∀s' b t U,(least P).I r.at t->U=BU P t->Vg P y cn B o C Bp V F H w0 w d (Bo u (.slice a1 u.args.length c1) (.slice a2 l2 c2) (.slice a3 l3 c3)) (.slice a1 u.args.length c1) u.args s' b->Calls prog 62 #[.pointer (some ⟨o,0,none⟩),.agg (Bo u (.slice a1 u.args.length c1) (.slice a2 l2 c2) (.slice a3 l3 c3)),.string U,.string Xp,.string Xq] b fun e n=>e=.returned (.tuple #[])/\GG P y cn B o C V F H s' b n (Dd P r t)):=fun s' b t U h1 h2 N=>HE.o s' b u r t _ _ _ U Xp Xq N.x HM.o hF h1 HZ.o N.ar ⟨_,_,_,rfl⟩ ⟨_,_,_,rfl⟩ h2 (b4.o.symm.trans a0.1) (c7.o.symm.trans a8.1)
   have c0:D (∀b,DY o F H Q b->b.cell? ⟨d,0,none⟩=some (.int .i64 u.kind)/\b.cell? ⟨d,1,none⟩=some (.string u.p.d9)/\b.cell? ⟨d,2,none⟩=some (.int .i64 u.p.pos)/\b.cell? ⟨d,3,none⟩=some (.int .i64 u.p.sort)/\b.cell? ⟨d,4,none⟩=some (.string u.q.d9)/\b.cell? ⟨d,5,none⟩=some (.int .i64 u.q.pos)/\b.cell? ⟨d,6,none⟩=some (.int .i64 u.q.sort)/\b.cell? ⟨d,7,none⟩=some (.int .i64 u.field)/\b.cell? ⟨d,8,none⟩=some (.slice a1 u.args.length c1)/\b.cell? ⟨d,9,none⟩=some (.int .i64 u.l7)/\b.cell? ⟨d,10,none⟩=some (.slice a2 l2 c2)/\b.cell? ⟨d,11,none⟩=some (.slice a3 l3 c3)/\b.cell? ⟨d,12,none⟩=some (.int .i64 u.br)/\b.cell? ⟨d,13,none⟩=some (.int .i64 u.dG)/\b.cell? ⟨d,14,none⟩=some (.int .i64 u.cS)):=fun b N=>by have I:=Y.o.x.p.m.bY N Y.o.b6 T T;exact⟨I.cell 0,I.cell 1,I.cell 2,I.cell 3,I.cell 4,I.cell 5,I.cell 6,I.cell 7,I.cell 8,I.cell 9,I.cell 10,I.cell 11,I.cell 12,I.cell 13,I.cell 14⟩
   obtain⟨L,d7⟩:∃L,Ie P y s r.at=L:=⟨_,rfl⟩;rw[d7]at HO c6 e3;have g5:=J d7;have d4:=J b1;have j0:=J hF;have e8:=J f1;clear a9 a5 a4 M a7 b2 a0 a8 f1 e9 f0 hL d7 b1 hF g7;go_upto_if 64 with fail;go_cut[64] (fun v wx=>v=.bool true/\D (wx=Q))
   case first=>
    rcases d4.o with q|q|q|q
    .have k4:((u.kind:Int)==4)=true:=by rw[AD HM.o q];rfl
     clear q;rw[k4];go_wp2_with fail;go_meet
     case rel=>exact⟨by first|rfl|rw[k4],rfl⟩
    .have k4:((u.kind:Int)==4)=false:=by rw[AD HM.o q];rfl
     have k5:((u.kind:Int)==5)=true:=by rw[AD HM.o q];rfl
     clear q;rw[k4];go_wp2_with fail;go_meet
     case rel=>exact⟨by first|rfl|rw[k5],rfl⟩
    .have k4:((u.kind:Int)==4)=false:=by rw[AD HM.o q];rfl
     have k5:((u.kind:Int)==5)=false:=by rw[AD HM.o q];rfl
     have a6:((u.kind:Int)==10)=false:=by rw[AD HM.o q];rfl
     have k9:((u.kind:Int)==9)=true:=by rw[AD HM.o q];rfl
     clear q;rw[k4];go_wp2_with fail;go_meet
     case rel=>exact⟨by first|rfl|rw[k9],rfl⟩
    .have k4:((u.kind:Int)==4)=false:=by rw[AD HM.o q];rfl
     have k5:((u.kind:Int)==5)=false:=by rw[AD HM.o q];rfl
     have a6:((u.kind:Int)==10)=true:=by rw[AD HM.o q];rfl
     clear q;rw[k4];go_wp2_with fail;go_meet
     case rel=>exact⟨by first|rfl|rw[a6],rfl⟩
   case rest=>
   obtain⟨rfl,c4⟩:=hcut;have e0:=c4.o.symm;subst e0;clear c4;go_upto_if 72 with fail;go_cut[6] (fun v wx=>v=.string Xo/\D (wx=Q))
   case first=>
    by_cases q:r.s.kind=9
    .have a6:((u.kind:Int)==10)=true:=by rw[AD HM.o q];rfl
     have e:=e8.o;rw[jH q]at e;clear q;rw[a6];go_wp2_with fail;go_meet
     case rel=>exact⟨by rw[e],rfl⟩
    .have a6:((u.kind:Int)==10)=false:=by
      rcases d4.o with q'|q'|q'|q'
      .rw[AD HM.o q'];rfl
      .rw[AD HM.o q'];rfl
      .rw[AD HM.o q'];rfl
      .exact jO q' q
     have e:=e8.o
     rw[jG q]at e
     clear q
     rw[a6]
     go_wp2_with fail
     go_meet
     case rel=>exact⟨by rw[e],rfl⟩
   case rest=>
   obtain⟨rfl,c4⟩:=hcut;have e0:=c4.o.symm;subst e0;clear c4;go_wp2_with fail;refine HO.o.mono ?_;rintro e n ⟨⟨lv,rfl,d2⟩,hw⟩;have hw:=hw.symm;subst hw;obtain⟨la,ll,lc,rfl⟩:=Ad d2;have i1:=Ag d2;subst i1;have HR:=J d2;clear d2 HO x0 x1 x2 x3 x4 x5 x6 x7 x8 x9 b5 b6 b7 b8 b9 lb;go_wp2_with fail;go_loopw[8] (fun i wr=>∃(j:Nat) (s':Ls),j<=L.length/\i=.int .i64 j/\D (Vg P y cn B o C Bp V F H w0 w d (Bo u (.slice a1 u.args.length c1) (.slice a2 l2 c2) (.slice a3 l3 c3)) (.slice a1 u.args.length c1) u.args s' wr)/\D (Fq P y cn s s' (fun S=>∀t,Er P y t->BU P t∈L.take j->Dd P r t S))/\D (DY o F H Q wr)) (fun i _=>L.length-(intOf i).toNat)
   case atStart=>exact⟨0,s,Z,rfl,Y,(Fq.rf Y.o.x.p.i).to (fun _ _ t _ q=>by rw[List.take_zero]at q;cases q),O.refl _ _⟩
   case round=>
    obtain⟨j,s',hj,rfl,TR,NX,OW⟩:=hrel;have j2:=e3.o;by_cases f6:j<L.length
    .have tk:decide ((j:Int)<(L.length:Int))=true:=jX;have hR:=Y.o.x.p.m.str OW.o HR.o;obtain⟨g,rfl⟩:=Ap hR Z;have lg:=(hR.lt g rfl).2;obtain⟨t,ht,hz⟩:=c6.o L[j] (gQ _);obtain⟨U,hU⟩:∃X,BU P t=X:=⟨_,rfl⟩;have e4:D (L[j]=U):=hz.trans hU;have e6:D (∀b,DY o F H Q b->b.cell? ⟨g,j,none⟩=some (.string U)):=fun b N=>by have:=Hb (Y.o.x.p.m.str N HR.o) j f6;rw[e4.o]at this;exact this
     have c:=e6.o wr OW.o;have e7:=J hU;have HT:=J ht;have g4:D (∀b,O kD wr b->Calls prog 62 #[.pointer (some ⟨o,0,none⟩),.agg (Bo u (.slice a1 u.args.length c1) (.slice a2 l2 c2) (.slice a3 l3 c3)),.string U,.string Xp,.string Xq] b fun e n=>e=.returned (.tuple #[])/\GG P y cn B o C V F H s' wr n (Dd P r t)):=fun b N=>(g3.o s' b t U HT.o e7.o.symm (TR.o.s9 N)).mono fun e n ⟨q0,s3,q1,q2,q3⟩=>⟨q0,s3,q1,q2,(DY.of N).trans q3⟩
     obtain⟨x0,x1,x2,x3,x4,x5,x6,x7,x8,x9,b5,b6,b7,b8,b9⟩:=c0.o wr OW.o;have lb:=Ae TR.o.b6;clear hz hU ht hR;go_upto_region 25 with fail;go_region_held3(fun n=>n.cell? ⟨d,0,none⟩=some (.int .i64 u.kind)/\n.cell? ⟨d,1,none⟩=some (.string u.p.d9)/\n.cell? ⟨d,2,none⟩=some (.int .i64 u.p.pos)/\n.cell? ⟨d,3,none⟩=some (.int .i64 u.p.sort)/\n.cell? ⟨d,4,none⟩=some (.string u.q.d9)/\n.cell? ⟨d,5,none⟩=some (.int .i64 u.q.pos)/\n.cell? ⟨d,6,none⟩=some (.int .i64 u.q.sort)/\n.cell? ⟨d,7,none⟩=some (.int .i64 u.field)/\n.cell? ⟨d,8,none⟩=some (.slice a1 u.args.length c1)/\n.cell? ⟨d,9,none⟩=some (.int .i64 u.l7)/\n.cell? ⟨d,10,none⟩=some (.slice a2 l2 c2)/\n.cell? ⟨d,11,none⟩=some (.slice a3 l3 c3)/\n.cell? ⟨d,12,none⟩=some (.int .i64 u.br)/\n.cell? ⟨d,13,none⟩=some (.int .i64 u.dG)/\n.cell? ⟨d,14,none⟩=some (.int .i64 u.cS)/\n.cell? ⟨g,j,none⟩=some (.string U)) (go_keep)
      (first|(go_at_call 62;refine(g4.o _ jV).mono ?_;rintro e w5 ⟨rfl,s5,p5,x5,o5⟩;have O5:=J o5;have P5:=J p5;have X5:=J x5;clear o5 p5 x5;have c5:=e6.o w5 (OW.o.trans O5.o);obtain⟨z0,z1,z2,z3,z4,z5,z6,z7,z8,z9,i4,i5,i6,i7,i8⟩:=c0.o w5 (OW.o.trans O5.o)))
     all_goals
      have N5:D (Fq P y cn s s5 (fun S=>∀t,Er P y t->BU P t∈L.take (j+1)->Dd P r t S)):=by
       refine(NX.o.then X5.o (fun S j1 h5 q t h1 h2=>(q t h1 h2).up h5)).to fun _ q t' h1 h2=>?_
       rw[iN f6]at h2;rcases iM.1 h2 with z|z
       .exact q.1 t' h1 z
       .rw[iB,e4.o,<-e7.o]at z;rw[Fi A.o.nm A.o.hy h1 (Dl A.o.hy.ok HT.o).2 z];exact q.2
      have T5:=J (TR.o.next P5.o O5.o);have W5:=J (OW.o.trans O5.o);clear P5 X5 O5 TR NX OW;go_wp2_with fail;go_roundw
      case rel=>exact⟨j+1,s5,Z,by go_num,T5,N5,W5⟩
      case measure=>simp[intOf];omega
    .have tk:decide ((j:Int)<(L.length:Int))=false:=jX;have R1:=J (b0.o wr ⟨s',TR.o.x.p,NX.o.to fun h8 q=>by
      have b1:=d4.o;refine⟨⟨fun q=>Z,fun q=>Z,fun q=>Z,fun q=>Z,fun q=>Z⟩,fun _ t ht=>q t ht.1 ?_⟩;have e:Ie P y s' r.at=L:=by rw[<-g5.o];unfold Ie;rw[h8]
      rw[List.take_of_length_le Z,<-e];exact ht.2,OW.o⟩)
     clear TR NX OW;go_wp2_with fail;go_end0;exact⟨rfl,R1.o⟩
  .rcases h7 with p|p|p|p|p|p|p|p|p|p|p
   .have R1:=J (a7.o fun r' M'=>by have:=J6 (M'.kind.symm.trans M.kind);omega)
    obtain⟨k2,k3,k6,k7,k8,k4,k5,a6,k9⟩:=Wf 1 (AD M p)
    clear a9 a5 a4 M b0 a7 b2
    go_wp2_with fail
    go_end0
    exact⟨rfl,R1.o⟩
   .have a0:=A.o.tgx M Z Z;have f8:=(A.o.hy.ok.dF r.f M.rl.1 r.s M.rl.2).1 p;have g0:u.l7=r.s.cA:=M.pl (.inl p);have k2:((u.kind:Int)==2)=true:=by rw[AD M p];rfl
    have HP:D (∀b,O kD Q b->Calls prog 59 #[.pointer (some ⟨o,0,none⟩),.string Xp,.string (K5 r.s.cA++{data:=#[46,48]})] b fun e n=>e=.returned (.tuple #[])/\GG P y cn B o C V F H s Q n (FH P r)):=fun b N=>(K9 A.o.nm A.o.hy B o C V F H s b (Y.o.x.p.s9 N) Xp _ (b4.o.symm.trans a0.1) (Xn P f8.1) a0.2 (a4.1 p)).mono fun e n ⟨q0,s3,q1,q2,q3⟩=>⟨q0,s3,q1,q2.to fun _ z=>⟨⟨fun _=>z,fun q=>Z,fun q=>Z,fun q=>Z,fun q=>Z⟩,fun q=>jO q (a5 1 T p)⟩,(DY.of N).trans q3⟩
    have f2:=E0 r.s.cA Z;have HD:D (∀b,Calls prog 23 #[.int .i64 r.s.cA] b fun e n=>e=.returned (.string (K5 r.s.cA))/\O kD b n):=fun b=>(GW r.s.cA Z b).mono fun _ _ ⟨h1,m,h2⟩=>⟨h1,by rw[h2];exact(O.refl _ _).drewN m⟩
    rw[g0]at x9;clear g0 a9 a5 a4 M a7 b2 a0;generalize r.s.cA=nn at x9 HP HD f2 f8;generalize K5 nn=i9 at HP HD f2;go_wp2_with fail;refine(HD.o _).mono ?_;rintro e w5 ⟨rfl,o5⟩;have O5:=J o5;clear o5;go_wp2_with fail;refine(HP.o _ O5.o).mono ?_;rintro e w3 ⟨rfl,q⟩;have R1:=J (b0.o _ q);clear q;go_wp2_with fail;go_end0;exact⟨rfl,R1.o⟩
   .have a0:=A.o.tgx M Z Z;have a8:=(A.o.srx M Z).1;have k2:((u.kind:Int)==2)=false:=by rw[AD M p];rfl
    have k3:((u.kind:Int)==3)=true:=by rw[AD M p];rfl
    have HP:D (∀b,O kD Q b->Calls prog 59 #[.pointer (some ⟨o,0,none⟩),.string Xp,.string (Xq)] b fun e n=>e=.returned (.tuple #[])/\GG P y cn B o C V F H s Q n (FH P r)):=fun b N=>(K9 A.o.nm A.o.hy B o C V F H s b (Y.o.x.p.s9 N) Xp _ (b4.o.symm.trans a0.1) (c7.o.symm.trans a8) a0.2 (a4.2.1 p)).mono fun e n ⟨q0,s3,q1,q2,q3⟩=>⟨q0,s3,q1,q2.to fun _ z=>⟨⟨fun q=>Z,fun _=>z,fun q=>Z,fun q=>Z,fun q=>Z⟩,fun q=>jO q (a5 2 T p)⟩,(DY.of N).trans q3⟩
    clear a9 a5 a4 M a7 b2 a0 a8;go_wp2_with fail;refine(HP.o _ (O.refl _ _)).mono ?_;rintro e w3 ⟨rfl,q⟩;have R1:=J (b0.o _ q);clear q;go_wp2_with fail;go_end0;exact⟨rfl,R1.o⟩
   .exact jO (show AR r by unfold AR;omega) hF
   .have a0:=A.o.tgx M Z Z;have f4:({data:=#[64]}:ByteArray)++u.q.d9=BU P (fN r.s.cC):=by rw[<-M.g (.inl p)];exact Tr A.o.hy (a9.func (.inl p))
    obtain⟨k2,k3,k6,k7,k8,k4,k5,a6,k9⟩:=Wf 6 (AD M p);have HP:D (∀b,O kD Q b->Calls prog 59 #[.pointer (some ⟨o,0,none⟩),.string Xp,.string ({data:=#[64]}++u.q.d9)] b fun e n=>e=.returned (.tuple #[])/\GG P y cn B o C V F H s Q n (FH P r)):=fun b N=>(K9 A.o.nm A.o.hy B o C V F H s b (Y.o.x.p.s9 N) Xp _ (b4.o.symm.trans a0.1) (f4) a0.2 (a4.2.2.1 p)).mono fun e n ⟨q0,s3,q1,q2,q3⟩=>⟨q0,s3,q1,q2.to fun _ z=>⟨⟨fun q=>Z,fun q=>Z,fun _=>z,fun q=>Z,fun q=>Z⟩,fun q=>jO q (a5 4 T p)⟩,(DY.of N).trans q3⟩
    have j3:=HZ.o.2.1;clear a9 a5 a4 M a7 b2 a0 f4;go_wp2_with fail;refine(HP.o _ (O.refl _ _)).mono ?_;rintro e w3 ⟨rfl,q⟩;have R1:=J (b0.o _ q);clear q;go_wp2_with fail;go_end0;exact⟨rfl,R1.o⟩
   .exact jO (show AR r by unfold AR;omega) hF
   .have a0:=A.o.tgx M Z Z;have a8:=A.o.srx M Z;obtain⟨k2,k3,k6,k7,k8,k4,k5,a6,k9⟩:=Wf 7 (AD M p);have HP:D (Calls prog 60 #[.pointer (some ⟨o,0,none⟩),.string Xq,.string Xp] Q fun e n=>e=.returned (.tuple #[])/\GG P y cn B o C V F H s Q n (FH P r)):=(GJ A.o.nm A.o.hy B o C V F H s Q Y.o.x.p Xq Xp (c7.o.symm.trans a8.1) (b4.o.symm.trans a0.1) (.inl a8.2) (.inl a0.2) (fun _ _=>a4.2.2.2.1 p)).mono fun e n ⟨q0,s3,q1,q2,q3⟩=>⟨q0,s3,q1,q2.to fun _ z'=>have z:=z' a0.2;⟨⟨fun q=>Z,fun q=>Z,fun q=>Z,fun _=>z,fun q=>Z⟩,fun q=>jO q (a5 6 T p)⟩,q3⟩
    clear a9 a5 a4 M a7 b2 a0 a8;go_wp2_with fail;refine HP.o.mono ?_;rintro e w3 ⟨rfl,q⟩;have R1:=J (b0.o _ q);clear q;go_wp2_with fail;go_end0;exact⟨rfl,R1.o⟩
   .have d1:=a9.func (.inr p);have f3:Bz (rf.map fun f=>f.name.d9) u.q.d9 0=((r.s.cC:Nat):Int):=by
     have g2:r.s.cC<rf.length:=by rw[A.o.len];exact d1
     have f7:u.q.d9∈rf.map fun f=>f.name.d9:=by rw[<-M.g (.inr p),<-A.o.name _ g2];exact iT.2 ⟨_,gQ g2,rfl⟩
     obtain⟨z1,z2⟩:=Io f7;have z3:=ME f7 ByteArray.empty;rw[gL z1]at z3;simp only[Option.getD_some,iU]at z3;have z4:vx (rf.map fun f=>f.name.d9) u.q.d9<rf.length:=by simpa using z1
     have z5:=(A.o.name _ z4).symm.trans (z3.trans (M.g (.inr p)).symm);rw[z2,A.o.nm.inj _ _ (by rw[<-A.o.len];exact z4) d1 z5]
    obtain⟨k2,k3,k6,k7,k8,k4,k5,a6,k9⟩:=Wf 8 (AD M p);have e2:D (∀b,O kD Q b->Calls prog 20 #[.pointer (some ⟨C,0,none⟩),.string u.q.d9] b fun e n=>e=.returned (.int .i64 r.s.cC)/\O kD b n):=fun b N=>by have g1:=HG.o.at (Y.o.s9 N).x.low;have:=DI Bp C pl ca fv sv rf u.q.d9 b g1.pr g1.fn HG.o.rn;rw[f3]at this;exact this.mono fun _ _ q=>⟨q.1,by rw[q.2];exact O.refl _ _⟩
    have e1:D (∀b,O kD Q b->Calls prog 61 #[.pointer (some ⟨o,0,none⟩),.agg (Bo u (.slice a1 u.args.length c1) (.slice a2 l2 c2) (.slice a3 l3 c3)),.int .i64 r.s.cC] b fun e n=>e=.returned (.tuple #[])/\GG P y cn B o C V F H s Q n (FH P r)):=fun b N=>(M8 A.o HG.o (Y.o.s9 N).x M (.inl p) d1 (a9.many p) (a4.2.2.2.2 p) HZ.o (.slice a1 u.args.length c1) (.slice a2 l2 c2) (.slice a3 l3 c3) (Y.o.s9 N).ar ⟨_,_,_,rfl⟩ ⟨_,_,_,rfl⟩).mono fun e n ⟨q0,s3,q1,q2,q3⟩=>⟨q0,s3,q1,q2.to fun _ z=>⟨⟨fun q=>Z,fun q=>Z,fun q=>Z,fun q=>Z,fun _=>z⟩,fun q=>jO q (a5 7 T p)⟩,(DY.of N).trans q3⟩
    have g8:D (∀b,O kD Q b->b.cell? ⟨o,0,none⟩=some (.pointer (some ⟨C,0,none⟩))):=fun b N=>(Y.o.s9 N).x.p.m.bx.cell 0
    have g9:D (∀b,GG P y cn B o C V F H s Q b (FH P r)->b.cell? ⟨o,0,none⟩=some (.pointer (some ⟨C,0,none⟩))):=fun b ⟨_,q,_⟩=>q.m.bx.cell 0
    have g6:D (∀b,GG P y cn B o C V F H s Q b (FH P r)->DY o F H Q b):=fun b ⟨_,_,_,q⟩=>q
    have s0:=Y.o.x.p.m.bx.cell 0;have j4:=Ae Y.o.x.p.m.bx;simp only[gH,gF]at s0;have c0:D (∀b,DY o F H Q b->b.cell? ⟨d,0,none⟩=some (.int .i64 u.kind)/\b.cell? ⟨d,1,none⟩=some (.string u.p.d9)/\b.cell? ⟨d,2,none⟩=some (.int .i64 u.p.pos)/\b.cell? ⟨d,3,none⟩=some (.int .i64 u.p.sort)/\b.cell? ⟨d,4,none⟩=some (.string u.q.d9)/\b.cell? ⟨d,5,none⟩=some (.int .i64 u.q.pos)/\b.cell? ⟨d,6,none⟩=some (.int .i64 u.q.sort)/\b.cell? ⟨d,7,none⟩=some (.int .i64 u.field)/\b.cell? ⟨d,8,none⟩=some (.slice a1 u.args.length c1)/\b.cell? ⟨d,9,none⟩=some (.int .i64 u.l7)/\b.cell? ⟨d,10,none⟩=some (.slice a2 l2 c2)/\b.cell? ⟨d,11,none⟩=some (.slice a3 l3 c3)/\b.cell? ⟨d,12,none⟩=some (.int .i64 u.br)/\b.cell? ⟨d,13,none⟩=some (.int .i64 u.dG)/\b.cell? ⟨d,14,none⟩=some (.int .i64 u.cS)):=fun b N=>by have I:=Y.o.x.p.m.bY N Y.o.b6 T T;exact⟨I.cell 0,I.cell 1,I.cell 2,I.cell 3,I.cell 4,I.cell 5,I.cell 6,I.cell 7,I.cell 8,I.cell 9,I.cell 10,I.cell 11,I.cell 12,I.cell 13,I.cell 14⟩
    clear a9 a5 a4 M a7 b2 f3 d1;generalize r.s.cC=gg at e2 e1;go_upto_region 13 with fail;go_region_held3(fun n=>n.cell? ⟨d,0,none⟩=some (.int .i64 u.kind)/\n.cell? ⟨d,1,none⟩=some (.string u.p.d9)/\n.cell? ⟨d,2,none⟩=some (.int .i64 u.p.pos)/\n.cell? ⟨d,3,none⟩=some (.int .i64 u.p.sort)/\n.cell? ⟨d,4,none⟩=some (.string u.q.d9)/\n.cell? ⟨d,5,none⟩=some (.int .i64 u.q.pos)/\n.cell? ⟨d,6,none⟩=some (.int .i64 u.q.sort)/\n.cell? ⟨d,7,none⟩=some (.int .i64 u.field)/\n.cell? ⟨d,8,none⟩=some (.slice a1 u.args.length c1)/\n.cell? ⟨d,9,none⟩=some (.int .i64 u.l7)/\n.cell? ⟨d,10,none⟩=some (.slice a2 l2 c2)/\n.cell? ⟨d,11,none⟩=some (.slice a3 l3 c3)/\n.cell? ⟨d,12,none⟩=some (.int .i64 u.br)/\n.cell? ⟨d,13,none⟩=some (.int .i64 u.dG)/\n.cell? ⟨d,14,none⟩=some (.int .i64 u.cS)/\n.cell? ⟨o,0,none⟩=some (.pointer (some ⟨C,0,none⟩))) (go_keep)
     (first
       |(go_at_call 20;refine(e2.o _ jV).mono ?_;rintro e w3 ⟨rfl,o3⟩;have O3:=J (O.trans (X:=kD) (a:=Q) jV o3);clear o3;have t0:=g8.o w3 O3.o;obtain⟨z0,z1,z2,z3,z4,z5,z6,z7,z8,z9,i4,i5,i6,i7,i8⟩:=c0.o w3 (DY.of O3.o))
       |(go_at_call 61;refine(e1.o _ (O.trans (X:=kD) (a:=Q) O3.o jV)).mono ?_;rintro e w5 ⟨rfl,q⟩;have Q5:=J q;clear q;have t5:=g9.o w5 Q5.o;obtain⟨y0,y1,y2,y3,y4,y5,y6,y7,y8,y9,j5,j6,j7,j8,j9⟩:=c0.o w5 (g6.o w5 Q5.o)))
    all_goals
     have R1:=J (b0.o _ Q5.o);clear Q5;go_wp2_with fail;go_end0;exact⟨rfl,R1.o⟩
   .exact jO (show AR r by unfold AR;omega) hF
   .exact jO (show AR r by unfold AR;omega) hF
   .have R1:=J (a7.o fun r' M'=>by have:=J6 (M'.kind.symm.trans M.kind);omega)
    obtain⟨k2,k3,k6,k7,k8,k4,k5,a6,k9⟩:=Wf 11 (AD M p)
    clear a9 a5 a4 M b0 a7 b2
    go_wp2_with fail
    go_end0
    exact⟨rfl,R1.o⟩
theorem bW{P:Program}{b:Array Oper}{Q:Exit->Act->World->Prop}{S:World->Prop}(i d:Nat){e:Oper}{v:Value}{j:Nat}{f:Array Bool}{t:Array Value}{g:List Deferred}{w:World}(o:b[i]? =some e)(l:S w)(p:∀w,S w->(execOp (Act.mk t g).eval e).run P w=.ok (.value v) w)
 (h:wpAnyH P .any b Q S j (f.setIfInBounds i true) ⟨t.setIfInBounds d v,g⟩ w)(m:e.dst=some d:=by rfl)(s:Region.wanted e (yielded b t)=true:=by rfl)(r:Region.noSelect b=true:=by kernel_rfl)(n:Region.free .any b f i=true:=by kernel_rfl)(q:(Region.ready .any b f).contains i=true:=by kernel_rfl)
 (k:∀c a w,Q (.panic c) (a.put e.dst v) w->Q (.panic c) a w:=by exact fun _ _ _ h=>h):wpAnyH P .any b Q S (j+1) f ⟨t,g⟩ w:=
 wpAnyH_take o r n q k (.inl ⟨s,p⟩) l (by rw[m];exact h)
theorem Fn{P:Program}{b:Array Oper}{Q:Exit->Act->World->Prop}{S C:World->Prop}(i d:Nat){e:Oper}{v:Value}{j:Nat}{f:Array Bool}{t:Array Value}{g:List Deferred}{w:World}(o:b[i]? =some e)(F:∀w,S w->C w)(l:S w)
 (h:wpAnyH P .any b Q S j (f.setIfInBounds i true) ⟨t.setIfInBounds d v,g⟩ w)(p:∀w,C w->(execOp (Act.mk t g).eval e).run P w=.ok (.value v) w:=by (intro w z;go_split_ands;go_simp;try with_reducible rfl))(m:e.dst=some d:=by rfl)(s:Region.wanted e (yielded b t)=true:=by rfl)(r:Region.noSelect b=true:=by kernel_rfl)(n:Region.free .any b f i=true:=by kernel_rfl)(q:(Region.ready .any b f).contains i=true:=by kernel_rfl)
 (k:∀c a w,Q (.panic c) (a.put e.dst v) w->Q (.panic c) a w:=by exact fun _ _ _ h=>h):wpAnyH P .any b Q S (j+1) f ⟨t,g⟩ w:=
 bW i d o l (fun w z=>p w (F w z)) h m s r n q k

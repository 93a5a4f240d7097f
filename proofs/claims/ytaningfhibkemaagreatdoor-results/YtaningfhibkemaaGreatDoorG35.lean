/- Part of the proof: LuF LuG LuH LuI. -/
import Derived.Test.YtaningfhibkemaaGreatDoorG34
import Derived.Test.YtaningfhibkemaaGreatDoorG37
import Derived.Test.YtaningfhibkemaaGreatDoorRows
import Derived.ProofKit
import Derived.Stop.Joined
import Derived.Stop.LaidErr
import Derived.MakeChecks
import Derived.Lib.LaidTab
set_option maxRecDepth 100000
set_option maxHeartbeats 4000000
namespace Go.Proofs.YtaningfhibkemaaGreatDoor
open Go.RowKit Go.Proofs.Tryz
open Option renaming none->Z,some->T
open Value renaming int->G,slice->Y
open IntKind renaming i64->A
theorem UK{P mn pn S g fs l m rp sb pb Bp B U fv sv nv cv ev s I L x y z E}(C:Z7 P mn pn S g fs l m rp sb pb Bp B U fv sv nv cv ev s I L x y z E):
 Calls prog 6 #[.pointer (T ⟨m,0,Z⟩)] l fun e w'=>e=.returned (.bool true)/\O (fun k=>k=m) l w':=by
 have D0:D (WdS l m (CL I L) (CL x y) (CL z E) (4*0) l):=⟨O.refl _ _,_,_,C.bx,iB _ _ _ _⟩;have d7:g.length<=12:=by have:=C.K.len;have:=C.K.hy.ok.dC;omega
 have a2:∀f (h:f<g.length),g[f].t8.length<=12:=fun f h=>by rw[C.hv f h];exact C.K.hy.ok.ok.t8 f
 have d6:=C.K.hy.pn;have d4:=C.K.hy.ok.lc;obtain⟨b8,a,p⟩:=Ax a2 (C.at D0.o) C;have y0:=a.o.b0;have y2:=a.o.b2;have y5:=a.o.r2;have m0:=a.o.lb;have m3:=a.o.l2;clear C a2 a;go_enter func6,ntmps6;go_upto_block 0 with fail;clear y0 y2 y5 m0 m3;go_cut[] (fun wx=>∃n:Nat,D (n<=144)/\D (WdS l m (CL I L) (CL x y) (CL z E) (4*n) wx))
 case first=>
  go_wp2_with fail;go_loopw[4] (fun i u=>∃(k n:Nat),k<=g.length/\i=G A k/\D (n<=12*k)/\D (WdS l m (CL I L) (CL x y) (CL z E) (4*n) u)) (fun i _=>g.length-(intOf i).toNat)
  case atStart=>exact⟨0,0,by omega,rfl,J (by omega),D0⟩
  case round=>
   clear D0;obtain⟨k,n,hk,rfl,c,b⟩:=hrel;have a:=J (p.o.at b.o);have f0:=Ak a.o.ru.pr 0;have lp:=Ae a.o.ru.pr;obtain⟨rs,a1,_⟩:=a.o.ru.fn;obtain⟨ga,gl,gc,rfl⟩:=Ad a1;have d0:=Ag a1;subst d0;simp only[gR,gP]at f0;by_cases N:k<g.length
   .have tk:decide ((k:Int)<(g.length:Int))=true:=by simp;omega
    obtain⟨fg,rfl⟩:=Ap a1 (by omega);have lg:=(a1.lt fg rfl).2;obtain⟨tv,bv,vv,b1,b4,a9,a3⟩:=p.o.ru.fn.get N;obtain⟨t1,t2,t3,rfl⟩:=Ad b4;obtain⟨V,e2,e3,rfl⟩:=Ad a9;obtain⟨v1,v2,M,rfl⟩:=Ad a3;have d2:=Ag a3;subst d2;obtain⟨c0,c8⟩:fg<l.heap.size/\fg≠m:=by obtain⟨d9,b3,_⟩:=p.o.ru.fn;exact⟨(b3.lt fg rfl).2,Am b3 p.o.bx (by decide) fg rfl⟩
    have a2:=b8.o k N;have w:∀j,j<7->wr.cell? ⟨fg,k*7+j,Z⟩=(ER g[k] (Y t1 t2 t3) (Y V e2 e3) (Y v1 g[k].t8.length M))[j]? :=fun j hj=>(gT (b.o.o.block fg c0 c8)).trans (b1 j hj)
    have a6:D (∀j (h:j<g[k].t8.length),Y6 g pn S 2 0 0 g[k].name.d9 g[k].t8[j]):=fun j h=>.inl ⟨rfl,k,j,N,h,rfl,rfl⟩
    have a0:=J a3;generalize g[k]=F at w a6 a0 a2;have n0:=w 0 (by decide);have n1:=w 1 (by decide);have n2:=w 2 (by decide);have n3:=w 3 (by decide);have n4:=w 4 (by decide);have n5:=w 5 (by decide);have n6:=w 6 (by decide);simp only[ER,gR,gP,gQ,iH]at n0 n1 n2 n3 n4 n5 n6;obtain⟨v,d,a7⟩:=Ax (W.new wr (ER F (Y t1 t2 t3) (Y V e2 e3) (Y v1 F.t8.length M)) 53) (b.o.s9 ((O.refl kJ wr).alloc (.cells (ER F (Y t1 t2 t3) (Y V e2 e3) (Y v1 F.t8.length M)) 53))) (show k+1<=g.length from N);clear b1 b4 a9 a3 w a1 a b;go_upto_block 2 with fail;change Code.wp _ _ _ _ (wr.alloc (.cells (ER F (Y t1 t2 t3) (Y V e2 e3) (Y v1 F.t8.length M)) 53));generalize wr.alloc (.cells (ER F (Y t1 t2 t3) (Y V e2 e3) (Y v1 F.t8.length M)) 53)=W1 at v d⊢;clear n0 n1 n2 n3 n4 n5 n6 f0 lp lg;generalize wr.heap.size=b5 at v⊢;go_wp2_with fail;go_loopw[6] (fun i u=>∃(j n:Nat),j<=F.t8.length/\i=G A j/\D (n<=12*k+j)/\D (WdS l m (CL I L) (CL x y) (CL z E) (4*n) u)/\D (W b5 (ER F (Y t1 t2 t3) (Y V e2 e3) (Y v1 F.t8.length M)) 53 u)) (fun i _=>F.t8.length-(intOf i).toNat)
    case atStart=>exact⟨0,n,by omega,rfl,c,d,v⟩
    case round=>
     clear d v c;obtain⟨j,n,hj,rfl,c,d,v⟩:=hrel;obtain⟨b0,b6⟩:=v.o.e2 0 6;have d8:=Ae v.o;simp only[ER,gR,gP,gQ]at b0 b6;by_cases b2:j<F.t8.length
     .have tj:decide ((j:Int)<(F.t8.length:Int))=true:=by simp;omega
      obtain⟨t,rfl⟩:=Ap a0.o (by omega);have hX:=a6.o j b2;have HV:D (∀r,O (fun k=>k=m) l r->r.cell? ⟨t,j,Z⟩=T (.string F.t8[j])/\t<r.heap.size):=fun r o=>⟨(gT (o.block t (a0.o.lt t rfl).2 (Am a0.o p.o.bx (by decide) t rfl))).trans (Hk a0.o j b2),iI (a0.o.lt t rfl).2 o.size⟩
      generalize F.t8[j]=X at HV hX;obtain⟨c1,c2⟩:=HV.o wr d.o.o;have R:=J (Lu p.o (d.o.s9 (O.refl _ wr).drew) (by have:=c.o;omega) 2 0 0 F.name.d9 X hX);have b7:D (∀r,JT wr.drew r->r.cell? ⟨b5,0,Z⟩=T (.string F.name.d9)/\r.cell? ⟨b5,6,Z⟩=T (Y (T ⟨t,0,Z⟩) F.t8.length M)/\W b5 (ER F (Y t1 t2 t3) (Y V e2 e3) (Y (T ⟨t,0,Z⟩) F.t8.length M)) 53 r):=fun r q=>by have h:=q _ _ _ (by decide) (by decide) (by decide) v.o;exact⟨h.cell 0,h.cell 6,h⟩
      have d5:(j:Int)<(F.t8.length:Int):=by omega
      clear d v hX;go_upto_region 11 with fail;go_region_held3(fun w'=>w'.cell? ⟨b5,0,Z⟩=T (.string F.name.d9)/\w'.cell? ⟨b5,6,Z⟩=T (Y (T ⟨t,0,Z⟩) F.t8.length M)/\w'.cell? ⟨t,j,Z⟩=T (.string X)) (go_keep)
       (first
         |(go_at_call 12;refine R.o.mono ?_;rintro e w2 ⟨rfl,H,n2⟩;have Q2:=J H;obtain⟨c3,c4,c5⟩:=b7.o _ n2;have B2:=J c5;obtain⟨c6,c7⟩:=HV.o _ H.o;clear H n2 c5))
      all_goals
       have Q:D (n+1<=12*k+(j+1)):=by have:=c.o;exact J (by omega)
       go_wp2_with fail;go_roundw
       case rel=>exact⟨j+1,n+1,by omega,by go_num,Q,Q2,B2⟩
       case measure=>simp[intOf];omega
     .have tj:decide ((j:Int)<(F.t8.length:Int))=false:=by simp;omega
      have Q:D (n<=12*(k+1)):=by have:=c.o;exact J (by omega)
      go_wp2_with fail;go_roundw
      case rel=>exact⟨k+1,n,a7.o,by go_num,Q,d⟩
      case measure=>have:=a7.o;simp[intOf];omega
   .have tk:decide ((k:Int)<(g.length:Int))=false:=by simp;omega
    have a5:D (n<=144):=by have:=c.o;exact J (by omega)
    clear a1 a;go_wp2_with fail;go_meet
    case rel=>exact⟨n,a5,b⟩
 case rest=>
 obtain⟨n0,a4,b⟩:=hcut;clear D0;go_upto_block 4 with fail;go_cut[] (fun wx=>∃n:Nat,D (n<=144+6*4002)/\D (WdS l m (CL I L) (CL x y) (CL z E) (4*n) wx))
 case first=>
  go_wp2_with fail;go_loopw[8] (fun i u=>∃(k n:Nat),k<=pn+2/\i=G A k/\D (n<=144+6*k)/\D (WdS l m (CL I L) (CL x y) (CL z E) (4*n) u)) (fun i _=>pn+2-(intOf i).toNat)
  case atStart=>exact⟨0,n0,by omega,rfl,a4,b⟩
  case round=>
   clear b a4;obtain⟨k,n,hk,rfl,c,b⟩:=hrel;have a:=J (p.o.at b.o);have p2:=Ak a.o.ru.pr 2;have lp:=Ae a.o.ru.pr;simp only[gR,gP,gQ]at p2;by_cases N:k<=pn+1
   .have tk:decide ((k:Int)<=(pn:Int)+1)=true:=by simp;omega
    clear a;go_upto_block 6 with fail;clear p2 lp;go_wp2_with fail;go_loopw[9] (fun i u=>∃(K:Int) (n:Nat),-1<=K/\K<=5/\i=G A K/\D ((n:Int)<=144+6*k+(K+1))/\D (WdS l m (CL I L) (CL x y) (CL z E) (4*n) u)) (fun i _=>(5-intOf i).toNat)
    case atStart=>exact⟨-1,n,by omega,by omega,rfl,by have:=c.o;exact J (by omega),b⟩
    case round=>
     clear b c;obtain⟨K,n,c9,d3,rfl,c,b⟩:=hrel;by_cases d1:K<=4
     .have tj:decide (K<=4)=true:=by simp;omega
      have hw:IntKind.i64.wrap (K+1)=K+1:=by rw[IntKind.wrap_i64];omega
      have R:=J (Lu p.o b.o (by have:=c.o;omega) 3 k K ByteArray.empty ByteArray.empty (.inr (.inl ⟨rfl,N,c9,d1⟩)));have Q:D (((n+1:Nat):Int)<=144+6*k+(K+1+1)):=by have:=c.o;exact J (by omega)
      clear b;go_wp2_with fail;refine R.o.mono ?_;rintro e w2 ⟨rfl,H,_⟩;have Q2:=J H;clear H R;go_wp2_with fail;go_roundw
      case rel=>exact⟨K+1,n+1,by omega,by omega,by go_num,Q,Q2⟩
      case measure=>simp[intOf];omega
     .have tj:decide (K<=4)=false:=by simp;omega
      have Q:D (n<=144+6*(k+1)):=by have:=c.o;exact J (by omega)
      go_wp2_with fail;go_roundw
      case rel=>exact⟨k+1,n,by omega,by go_num,Q,b⟩
      case measure=>simp[intOf];omega
   .have tk:decide ((k:Int)<=(pn:Int)+1)=false:=by simp;omega
    have a5:D (n<=144+6*4002):=by have:=c.o;exact J (by omega)
    clear a;go_wp2_with fail;go_meet
    case rel=>exact⟨n,a5,b⟩
 case rest=>
 obtain⟨n1,a8,d⟩:=hcut;clear b a4;go_upto_block 8 with fail;go_wp2_with fail;go_loopw[11] (fun i u=>∃(k n:Nat),k<=S+2/\i=G A k/\D (n<=144+6*4002+k)/\D (WdS l m (CL I L) (CL x y) (CL z E) (4*n) u)) (fun i _=>S+2-(intOf i).toNat)
 case atStart=>exact⟨0,n1,by omega,rfl,a8,d⟩
 case round=>
  clear d a8;obtain⟨k,n,hk,rfl,c,d⟩:=hrel;have a:=J (p.o.at d.o);have p3:=Ak a.o.ru.pr 3;have lp:=Ae a.o.ru.pr;simp only[gR,gP,gQ]at p3;by_cases N:k<=S+1
  .have tk:decide ((k:Int)<=(S:Int)+1)=true:=by simp;omega
   have R:=J (Lu p.o d.o (by have:=c.o;omega) 4 k 0 ByteArray.empty ByteArray.empty (.inr (.inr ⟨rfl,N⟩)));clear a d;go_wp2_with fail;refine R.o.mono ?_;rintro e w2 ⟨rfl,H,_⟩;have Q2:=J H;clear H R;go_wp2_with fail;go_roundw
   case rel=>exact⟨k+1,n+1,by omega,by go_num,by have:=c.o;exact J (by omega),Q2⟩
   case measure=>simp[intOf];omega
  .have tk:decide ((k:Int)<=(S:Int)+1)=false:=by simp;omega
   have b9:=J d.o.o;clear d a;go_wp2_with fail;go_ret;exact⟨rfl,b9.o⟩
theorem Tryz.infoPR:(Tryz.prog.info? 34).map (fun i=>(i.zero,i.size,i.bytes))=T (T (.pointer Z),1,8):=by kernel_rfl
theorem Tryz.infoPS:(Tryz.prog.info? 42).map (fun i=>(i.zero,i.size,i.bytes))=T (T (.pointer Z),1,8):=by kernel_rfl
theorem Tryz.infoPP:(Tryz.prog.info? 37).map (fun i=>(i.zero,i.size,i.bytes))=T (T (.pointer Z),1,8):=by kernel_rfl
abbrev Iu:Value:=Y Z 0 0
theorem Pj(s:ByteArray)(f p:Nat)(w:World)(h:Calls prog 13 #[.string s] w fun e b=>e=.returned (.tuple #[Y Z 0 0,Vt,G A f,G A p])/\Below w.heap.size w b)(j:f≠0):
 Calls prog 8 #[.string s] w fun e b=>e=.returned (.tuple #[.pointer Z,G A f,G A p])/\Below w.heap.size w b:=by
 have i:((f:Int) !=0)=true:=by simp;omega
 have c:=J h;clear h;go_enter func8,ntmps8;go_wp2_with fail;refine c.o.mono ?_;rintro e g ⟨rfl,a⟩;have d:=J (a.trans ((Below.refl w.heap.size g).alloc a.size (.cells #[Y Z 0 0,G A 0] 60)));clear a c;go_wp2;refine gZ (v:=.tuple #[.pointer Z,G A f,G A p]) (by simp[results,results8,go_sem]) rfl ⟨rfl,d.o⟩
theorem Un(s:ByteArray)(o f p:Nat)(w:World)(c:f≠0)(g:Calls prog 13 #[.string s] w fun e a=>e=.returned (.tuple #[Y Z 0 0,Vt,G A f,G A p])/\Below w.heap.size w a)
 (h:∀b,Calls prog 9 #[.string s] b fun e a=>e=.returned (.tuple #[.pointer Z,Y Z 0 0,G A f,G A p])/\Below b.heap.size b a):
 Calls prog 5 #[.pointer (T ⟨o,0,Z⟩),.string s] w fun e a=>e=.returned (.bool true)/\O kJ w a:=by
 have r:((f:Int) !=(f:Int))=false:=by simp
 have t:((p:Int) !=(p:Int))=false:=by simp
 have q:((f:Int) !=0)=true:=by simp[c]
 have k:=J (Pj s f p w g c);have l:=J h;clear g h c;go_enter func5,ntmps5;go_wp2_with(first
  |(go_at_call 8;refine k.o.mono ?_;rintro e u ⟨rfl,i⟩;have m:=J (CI i);clear i)
  |(go_at_call 9;refine(l.o _).mono ?_;rintro e v ⟨rfl,j⟩;have n:=J (m.o.trans (CI j));clear j)
  |(go_at_call 10;refine(Lh _ _).mono ?_;rintro e a ⟨rfl,d⟩;have d:=d.symm;subst d))
 go_ret;exact⟨rfl,n.o⟩
theorem RE(hc:Q7)(b8:SrtAll)(s:ByteArray)(b:Nat)(h:List TF)(rf:List RF)(fs:List FS)(c3:Nat)(a3:GoodP h)(hT:∀t,t∈h->∀u,u∈t.cP->OZ 4000 u)(hS:RuS (fnN h) (paN h) (xfR h 0 0) rf fs/\Pc fs rf/\Pb 4000 fs/\bQ rf h)(w:World)(hb:W b #[Iu,Iu,Iu,Iu] 29 w)(tb:JZ w)(tl:0<w.heap.size)(tw:0≠b)(b3:∀C,O (fun k=>k=b) w C->ItOk C)
 (h1:Calls prog 13 #[.string s] w fun e v=>∃(g n a2:Nat) (a:Option Addr) (l c:Nat) (U:Nat->Prop),e=.returned (.tuple #[Y (T ⟨g,0,Z⟩) n a2,.agg #[Y a l c,G A c3],G A 0,G A 0])/\DM 4000 U v (Y a l c) h/\(∀k,U k->k<v.heap.size)/\Below w.heap.size w v)
 (h2:∀w,Calls prog 9 #[.string s] w fun e v=>∃(r B g n a2:Nat) (U:Nat->Prop) (S sv:Value) (p0 c0:Nat),e=.returned (.tuple #[.pointer (T ⟨r,0,Z⟩),Y (T ⟨g,0,Z⟩) n a2,G A 0,G A 0])/\Pe r B U S sv rf fs p0 c0 v/\w.heap.size<=r/\w.heap.size<=B/\B<=v.heap.size/\Below w.heap.size w v/\p0=(h.map fun t=>nL 1 t.cP).sum/\c0=(h.map fun t=>nL 8 t.cP).sum):
 Calls prog 5 #[.pointer (T ⟨b,0,Z⟩),.string s] w fun e v=>∃P mn pn cn rp L r Bp B U S sv V Q R s E F j p H I,e=.returned (.bool true)/\Z7 P mn pn cn rf fs v b rp L r Bp B U S sv V Q R s E F j p H I/\O (fun k=>k=b) w v:=by
 have K:=ZF a3 hS.1 hS.2.1 hS.2.2.1 hS.2.2.2;have hv:=YY a3 hS.1;have hs:=Kl (fn:=fnN h) (par:=paN h) h 0 0 a3.dW.ok;have H1:=J (Og hc s h c3 a3 hT w tb tl h1);have H2:D (∀C,Calls prog 9 #[.string s] C fun e v=>∃(r B g n a2:Nat) (U:Nat->Prop) (S sv:Value),e=.returned (.tuple #[.pointer (T ⟨r,0,Z⟩),Y (T ⟨g,0,Z⟩) n a2,G A 0,G A 0])/\Pe r B U S sv rf fs (BU (fnN h) h 0 0).1 (BU (fnN h) h 0 0).2 v/\O kJ C v):=fun C=>(h2 C).mono fun e v ⟨r,B,g,n,a2,U,S,sv,p0,c0,q1,q2,_,_,_,q3,q4,q5⟩=>⟨r,B,g,n,a2,U,S,sv,q1,by rw[hs];simp only[iY];rw[q4,q5]at q2;exact q2,CI q3⟩
 obtain⟨P,hP⟩:∃P,Bl (fnN h) h 0 0=P:=⟨_,rfl⟩;obtain⟨mn,b5⟩:∃m,vx (fnN h) EN=m:=⟨_,rfl⟩;obtain⟨pn,a6⟩:∃m,(BU (fnN h) h 0 0).1=m:=⟨_,rfl⟩;obtain⟨cn,a4⟩:∃m,(BU (fnN h) h 0 0).2=m:=⟨_,rfl⟩;rw[hP,b5,a6,a4]at K H1;rw[a6,a4]at H2;rw[hP]at hv;obtain⟨HK,HV,c5,c7,HB⟩:=BB K hv b3 b8 hb;obtain⟨i1,u0,u1,u2,u3⟩:=info_parts Tryz.infoPR;obtain⟨i2,x0,x1,x2,x3⟩:=info_parts Tryz.infoPS;obtain⟨i3,y0,y1,y2,y3⟩:=info_parts Tryz.infoPP;clear h1 h2 hS a3 hT hc b8 tb b3 K hv hs hP b5 a6 a4 hb;go_enter func5,ntmps5;go_upto_region 7 with(first
  |(go_at_call 8;refine H1.o.mono ?_;rintro e w2 ⟨rp,rfl,_,b7,o2⟩;have R2:=J b7;have O2:=J o2;clear b7 o2)
  |(go_at_call 9;refine(H2.o _).mono ?_;rintro e w3 ⟨r,Bp,tg,tn,tc,U,S,sv,rfl,b6,o3⟩;have P3:=J b6;have O3:=J o3;clear b6 o3)
  |(go_at_call 10;refine(Lh _ _).mono ?_;rintro e v ⟨rfl,hw⟩;have hw:=hw.symm;subst hw))
 have B3:=J (HB.o.d8 (O2.o.trans O3.o) id);have c0:=B3.o.cell 0;have lb:=Ae B3.o;simp only[gR,gP]at c0;clear H1 H2;go_upto_region 8 with(at_builtin;refine jA _ rfl _ _ 24 rfl 0 34 i1 (.pointer Z) 1 8 underlying24 u0 u1 u2 u3 rfl (by decide) _ _ _ rfl (iB _ _ _ _) _ 1 1 [.pointer (T ⟨rp,0,Z⟩)] rfl rfl (AD (by simp) _ _) (fun x hx=>by simp at hx;subst hx;rfl) (by decide) (by decide) (iF _) ?_;intro v4 d z a1 _;obtain⟨q,l4,F,rfl⟩:=Ad z;have a5:=Ag z;subst a5;obtain⟨E,rfl⟩:=Ap z (by omega);have M:=O.grown (((O.refl kJ w3).alloc _)) a1 (fun k q=>by cases q);have y:=B3.o.d8 M id;have c4:=y.cell 0;have f4:=y.frozen 0;have a7:=Ae y;simp only[gR,gP]at c4;obtain⟨N4,G4,a0⟩:=Ax z M y;clear z a1 M y);have N:O (fun k=>k=b) d (d.setCell ⟨b,0,Z⟩ (CL E F)):=(O.refl _ d).t9 0 _;have R0:D ((d.setCell ⟨b,0,Z⟩ (CL E F)).ownsRow 0 34 1 (CL E F) 1 [.pointer (T ⟨rp,0,Z⟩)]):=Ac N4.o N (Am N4.o a0.o (by decide));have B5:D (W b #[CL E F,Iu,Iu,Iu] 29 (d.setCell ⟨b,0,Z⟩ (CL E F))):=a0.o.set 0 (CL E F);have O5:D (O (fun k=>k=b) w3 (d.setCell ⟨b,0,Z⟩ (CL E F))):=(G4.o.mono fun _ _ q=>q.elim).trans N;change Code.wp _ _ _ _ (d.setCell ⟨b,0,Z⟩ (CL E F));clear c0 c4 f4 a7 lb N N4 G4 a0;generalize d.setCell ⟨b,0,Z⟩ (CL E F)=W5 at R0 B5 O5⊢;have P5:=J (P3.o.cI O5.o B3.o (by decide));have a4:cn<=4001:=HK.o.hy.ok.lc;have b2:D (∀C,O kJ W5 C->Calls prog 11 #[.pointer (T ⟨r,0,Z⟩)] C fun e v=>∃L V Q R s,e=.returned (.pointer (T ⟨L,0,Z⟩))/\K8 P pn cn C.heap.size L r V Q R C s v/\(least P).le (OF P pn s)/\O kJ C v):=fun C o=>Uq HK.o HV.o ⟨P5.o.s9 o,gS _,by have:=HK.o.len;have:=HK.o.hy.ok.dC;omega,HK.o.dC,fun f hf=>by obtain⟨i,hi,rfl⟩:=iP.1 hf;rw[HK.o.name i hi];exact HK.o.hy.nm.name i⟩ a4
 have c1:=B5.o.cell 1;have lb:=Ae B5.o;simp only[gR,gP,gQ]at c1;go_cut[] (fun wx=>∃(L:Nat) (V Q R:Value) (s:Ls) (B j p:Nat),D (W b #[CL E F,CL j p,Iu,Iu] 29 wx)/\D (wx.ownsRow 0 42 1 (CL j p) 1 [.pointer (T ⟨L,0,Z⟩)])/\D (Gt B L r V Q R (Iv P pn) s wx)/\D (Ra P pn cn s)/\D ((least P).le (OF P pn s))/\D (O (fun k=>k=b) W5 wx))
 case first=>
  go_region_law(first
   |(go_simp;go_at_call 11;refine(b2.o _ (by repeat first|exact BI _ _|apply BG|apply BH|apply BE)).mono ?_;rintro e w6 ⟨L,V,Q,R,s6,rfl,x6,e6,o6⟩;obtain⟨X6,E6,O6⟩:=Ax x6 e6 (O.trans (X:=kJ) (a:=W5) (by repeat first|exact BI _ _|apply BG|apply BH|apply BE) o6);have B6:=J (B5.o.d8 O6.o id);have c6:=(gT (O6.o.block b lb id)).trans c1;have l6:=iI lb O6.o.size;clear x6 e6 o6;dsimp only)
   |(refine AC rfl _ _ 25 rfl 0 42 i2 (.pointer Z) 1 8 underlying25 x0 x1 x2 x3 rfl (by decide) _ _ _ rfl (iB _ _ _ _) _ 1 1 [.pointer (T ⟨L,0,Z⟩)] rfl rfl (AD rfl _ _) (fun x hx=>by simp at hx;subst hx;rfl) (by decide) (by decide) (by decide) (iF _) ?_;intro v4 d z a1 _;obtain⟨q,l4,p,rfl⟩:=Ad z;have a5:=Ag z;subst a5;obtain⟨j,rfl⟩:=Ap z (by omega);have M:O kJ w6 d:=O.grown (by repeat(first|exact O.refl _ _|refine O.drew ?_|refine O.alloc ?_ _)) a1 (fun k q=>by cases q);have y:=B6.o.d8 M id;have c4:=y.cell 1;have f4:=y.frozen 1;have a7:=Ae y;simp only[gR,gP,gQ]at c4;obtain⟨N4,G4,a0⟩:=Ax z M y;clear z a1 M y))
  all_goals
   have N:O (fun k=>k=b) d (d.setCell ⟨b,1,Z⟩ (CL j p)):=(O.refl _ d).t9 1 _;have O9:D (O (fun k=>k=b) w6 (d.setCell ⟨b,1,Z⟩ (CL j p))):=(G4.o.mono fun _ _ q=>q.elim).trans N;have R1:D ((d.setCell ⟨b,1,Z⟩ (CL j p)).ownsRow 0 42 1 (CL j p) 1 [.pointer (T ⟨L,0,Z⟩)]):=Ac N4.o N (Am N4.o a0.o (by decide));have B7:D (W b #[CL E F,CL j p,Iu,Iu] 29 (d.setCell ⟨b,1,Z⟩ (CL j p))):=a0.o.set 1 (CL j p);have L7:=J (X6.o.p.m.at_box O9.o B6.o (by decide));have I7:=J X6.o.p.i;have O7:D (O (fun k=>k=b) W5 (d.setCell ⟨b,1,Z⟩ (CL j p))):=(O6.o.mono fun _ _ q=>q.elim).trans O9.o;clear N O9 X6;go_wp2_with fail;go_meet
   case rel=>exact⟨L,V,Q,R,s6,_,j,p,B7,R1,L7,I7,E6,O7⟩
 case rest=>
 obtain⟨L,V,Q,R,s6,B,j,p,B7,R1,L7,I7,E7,O7⟩:=hcut;clear b2 c1 lb;have c2:=B7.o.cell 2;have lb:=Ae B7.o;simp only[gR,gP,gQ]at c2;go_upto_region 10 with(at_builtin;refine jA _ rfl _ _ 26 rfl 0 37 i3 (.pointer Z) 1 8 underlying26 y0 y1 y2 y3 rfl (by decide) _ _ _ rfl (iB _ _ _ _) _ 1 1 [.pointer (T ⟨r,0,Z⟩)] rfl rfl (AD (by simp) _ _) (fun x hx=>by simp at hx;subst hx;rfl) (by decide) (by decide) (iF _) ?_;intro v4 d z a1 _;obtain⟨q,l4,I,rfl⟩:=Ad z;have a5:=Ag z;subst a5;obtain⟨H,rfl⟩:=Ap z (by omega);have M:=O.grown (((O.refl kJ wc).alloc _)) a1 (fun k q=>by cases q);have y:=B7.o.d8 M id;have c4:=y.cell 2;have f4:=y.frozen 2;have a7:=Ae y;simp only[gR,gP,gQ]at c4;obtain⟨N4,G4,a0⟩:=Ax z M y;clear z a1 M y);have N:O (fun k=>k=b) d (d.setCell ⟨b,2,Z⟩ (CL H I)):=(O.refl _ d).t9 2 _;have O9:O (fun k=>k=b) wc (d.setCell ⟨b,2,Z⟩ (CL H I)):=(G4.o.mono fun _ _ q=>q.elim).trans N;have q2:(d.setCell ⟨b,2,Z⟩ (CL H I)).ownsRow 0 37 1 (CL H I) 1 [.pointer (T ⟨r,0,Z⟩)]:=Ac N4.o N (Am N4.o a0.o (by decide));have b9:W b #[CL E F,CL j p,CL H I,Iu] 29 (d.setCell ⟨b,2,Z⟩ (CL H I)):=a0.o.set 2 (CL H I);have q0:=Ac R0.o (O7.o.trans O9) (Am R0.o B5.o (by decide));have q1:=Ac R1.o O9 (Am R1.o B7.o (by decide));have a9:=O5.o.trans (O7.o.trans O9);have a8:O (fun k=>k=b) w2 (d.setCell ⟨b,2,Z⟩ (CL H I)):=(O3.o.mono fun _ _ q=>q.elim).trans a9;have b0:O (fun k=>k=b) w (d.setCell ⟨b,2,Z⟩ (CL H I)):=(O2.o.mono fun _ _ q=>q.elim).trans a8;have b1:D (Z7 P mn pn cn rf fs (d.setCell ⟨b,2,Z⟩ (CL H I)) b rp L r Bp B U S sv V Q R s6 E F j p H I/\O (fun k=>k=b) w (d.setCell ⟨b,2,Z⟩ (CL H I))):=⟨⟨b9,q0,q1,q2,R2.o.cI a8 (HB.o.d8 O2.o id) (by decide) tw,L7.o.at_box O9 B7.o (by decide),I7.o,E7.o,P3.o.cI a9 B3.o (by decide),HK.o,HV.o,tw,fun C oW=>c5.o C (b0.trans oW),c7.o⟩,b0⟩;clear N O9 q2 b9 q0 q1 a9 a8 b0;go_wp2_with fail;go_ret;exact⟨P,mn,pn,cn,rp,L,r,Bp,B,U,S,sv,V,Q,R,s6,E,F,j,p,H,I,rfl,b1.o.1,b1.o.2⟩
theorem UM(b:Nat)(w:World)(a:W b #[Iu,Iu,Iu,Iu] 29 w):Calls prog 6 #[.pointer (T ⟨b,0,Z⟩)] w fun e d=>e=.returned (.bool true)/\d=w:=by have c:=a.cell 0;have f:=Ae a;simp only[gR,gP]at c;go_enter func6,ntmps6;go_wp2_with fail;go_ret;exact⟨rfl,rfl⟩
theorem QE(s:ByteArray)(L:s.size<=maxLen)(w:World)(hF:Cj w.heap.size w)(C:∀j:World,(∀k,k<w.heap.size->j.heap[k]? =w.heap[k]?)->ItOk j)(I:Q7)(M:SrtAll)(Q:JZ w)(tl:0<w.heap.size):
 Calls prog 3 #[.string s] w fun e R=>e=.returned (.bool true)/\Below w.heap.size w R:=by
 obtain⟨y,r,X,V,a0,a1⟩:=EF (Um w.heap.size w hF w (Below.refl _ _) (gS _)) (Ss w.heap.size w hF s L) C I M Q;clear hF C I M Q L;go_enter func3,ntmps3;go_upto_region 3 with(go_at_call 4;refine y.o.mono ?_;rintro e b ⟨rfl,H⟩;have o:=J H;clear H);have v:=o.o.size;have a:D (Below w.heap.size w (b.alloc (.cells #[Iu,Iu,Iu,Iu] 29))):=o.o.trans ((Below.refl w.heap.size b).alloc v _);have h:=J (W.new b #[Iu,Iu,Iu,Iu] 29);have a3:w.heap.size<=b.heap.size:=v;change Code.wp _ _ _ _ (b.alloc (.cells #[Iu,Iu,Iu,Iu] 29));generalize b.alloc (.cells #[Iu,Iu,Iu,Iu] 29)=l at a h⊢;generalize b.heap.size=u at h a3⊢;clear o y v;have m:=a.o.size;rcases r.o with⟨f,p,K,c,d⟩|⟨a2,rf,fs,a4,x,F,E,c,d⟩
 .have n:=J (Un s u f p l K (c l a.o m) d);clear c d r K;go_wp2_with(first
   |(go_at_call 5;refine n.o.mono ?_;rintro e w3 ⟨rfl,g⟩;have i:=J g;clear g)
   |(go_at_call 6;refine(UM u _ (h.o.d8 i.o id)).mono ?_;rintro e R ⟨rfl,t⟩;have t:=t.symm;subst t))
  go_ret;exact⟨rfl,a.o.trans (i.o.dI m (fun _ q=>q.elim))⟩
 .have n:=J (RE V.o a0.o s u a2 rf fs a4 x F E l h.o (a1.o.d8 (CI a.o) id tl) (by omega) (by omega) (fun j oW=>X.o j (fun k hk=>(oW.block k (by omega) (by omega)).trans (a.o.block k hk))) (c l a.o m) d);clear c d r x F E;go_wp2_with(first
   |(go_at_call 5;refine n.o.mono ?_;rintro e w3 ⟨P,mn,pn,cn,rp,sb,pb,Bp,B,U,fv,sv,nv,cv,ev,s6,ra,rc,la,lc,pa,pc,rfl,z,g⟩;have S:=J z;have i:=J g;clear z g)
   |(go_at_call 6;refine(UK S.o).mono ?_;rintro e w4 ⟨rfl,N⟩;have O4:=J (i.o.trans N);clear N))
  go_ret;exact⟨rfl,a.o.trans (O4.o.dI m (fun k q=>by omega))⟩
theorem Tryz.rgES:Tryz.prog.globalNamed "strconv.ErrSyntax" =T 4:=by kernel_rfl
theorem Tryz.rgESType:(Tryz.prog.globals[4]?).map (·.type)=T 183:=by kernel_rfl
theorem Tryz.rcES:Tryz.prog.cellsOf 297=1:=by kernel_rfl
theorem Tryz.rcStr:Tryz.prog.cellsOf 9=1:=by kernel_rfl
theorem Tryz.rstar: "*" ++ "errors.errorString" = "*errors.errorString" :=by decide
theorem Tryz.rrES(u)(h:Tryz.prog.typeName? 3 u=T "*errors.errorString"):u=295:=
 typeName_ptr_named (nm:= "errors.errorString") (by rw[Tryz.rstar];kernel_rfl) (by kernel_rfl) (by decide) u (by rw[Tryz.rstar];exact h)
theorem Nf{a:World}{g:Nat}{v:Value}(b:a.cell? ⟨g,0,Z⟩=T v):g<a.heap.size:=by
 rcases jG g a.heap.size with q|q
 .exact q
 .have:a.heap[g]? =Z:=by simp;exact q
  unfold World.cell? at b;rw[this]at b;cases b
theorem UR(a)(b:laidMetH prog Rows.resultsRow.laid a):Cj a.heap.size a:=by
 rw[Go.MakeChecks.laidMetH_plain _ _ _ (by kernel_rfl)]at b;obtain⟨d,g,f,-,-,-⟩:=laid_sentinel b.tail.tail.tail.tail Tryz.rgES Tryz.rgESType underlying183 Tryz.rrES underlying295 underlying297 rfl rfl underlying9 Tryz.rcES Tryz.rcStr;have c:a.cell? ⟨4,0,Z⟩=T (.iface 295 (.pointer (T d))):=by have e:=World.var?_cell Tryz.rgES f 0;simpa using e
 exact Uf a.heap.size a (Nf c) _ c (.inr ⟨_,_,rfl⟩)
theorem Tryz.rgP10:Tryz.prog.globalNamed "internal/strconv.uint64pow10" =T 2:=by kernel_rfl
theorem Tryz.rgP10Type:(Tryz.prog.globals[2]?).map (·.type)=T 279:=by kernel_rfl
theorem Tryz.rcU64:Tryz.prog.cellsOf 226=1:=by kernel_rfl
theorem Tryz.rcP10:Tryz.prog.cellsOf 279=20:=by kernel_rfl
theorem Tryz.rdP10:(Rows.laid_internal_strconv_uint64pow10:DataW Unit)=Lib.tabData .u64 Lib.pow10Tab:=by kernel_rfl
theorem WZ(b)(d:laidMetH prog Rows.resultsRow.laid b)(V:World)(e:∀k,k<b.heap.size->V.heap[k]? =b.heap[k]?):ItOk V:=by
 rw[Go.MakeChecks.laidMetH_plain _ _ _ (by kernel_rfl)]at d;have c:=d.tail.tail;rw[Tryz.rdP10]at c;have a:=Lib.tabIs_of_head Tryz.rgP10 Tryz.rgP10Type underlying279 underlying226 Tryz.rcU64 Tryz.rcP10 c;refine aT V ?_;unfold Lib.TabIs World.var? at a⊢;rw[Tryz.rgP10]at a⊢;simp only[Option.bind_some]at a⊢;have f:2<b.heap.size:=by
  rcases jG 2 b.heap.size with q|q
  .exact q
  .rw[Array.getElem?_eq_none q]at a;cases a
 rw[e _ f];exact a
def Zk:List Int:=Lib.deBruijn64tab.map fun n:Nat=>(n:Int)
theorem Tryz.rgTz:Tryz.prog.globalNamed "math/bits.deBruijn64tab" =T 0:=by kernel_rfl
theorem Tryz.rgTzType:(Tryz.prog.globals[0]?).map (·.type)=T 248:=by kernel_rfl
theorem Tryz.rcU8:Tryz.prog.cellsOf 5=1:=by kernel_rfl
theorem Tryz.rcTz:Tryz.prog.cellsOf 248=64:=by kernel_rfl
theorem Tryz.rdTz:(Rows.laid_math_bits_deBruijn64tab:DataW Unit)=Lib.tabData .u8 Zk:=by kernel_rfl
theorem QD(a)(c:laidMetH prog Rows.resultsRow.laid a):JZ a/\0<a.heap.size:=by
 rw[Go.MakeChecks.laidMetH_plain _ _ _ (by kernel_rfl)]at c;have b:=c.tail;rw[Tryz.rdTz]at b;have g:=Lib.tabIs_of_head Tryz.rgTz Tryz.rgTzType underlying248 underlying5 Tryz.rcU8 Tryz.rcTz b;have d:∀j,j<Lib.deBruijn64tab.length->a.cell? ⟨0,j,Z⟩=T (.int .u8 (Lib.deBruijn64tab.getD j 0)):=fun j f=>by have e:=World.var?_cell Tryz.rgTz g j;rw[e];simp[Zk,f]
 exact⟨d,Nf (d 0 (by decide))⟩

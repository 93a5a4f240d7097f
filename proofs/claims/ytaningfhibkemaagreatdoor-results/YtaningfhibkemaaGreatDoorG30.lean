/- Part of the proof: AnN AnO AnP. -/
import Derived.Test.YtaningfhibkemaaGreatDoorG29
import Derived.Deep.RegionHeld3
import Derived.Deep.AppendLies
set_option maxRecDepth 100000
set_option maxHeartbeats 4000000
namespace Go.Proofs.YtaningfhibkemaaGreatDoor
open Go.RowKit Go.Maps Go.Proofs.Tryz
def Er(P:List PFn)(a t:Nat):Prop:=AK P a t\/∃g,g<P.length/\t=fN g
theorem AnOk.rl{P g b r}(A:AnOk P g b)(a:LP P r)(c:r.s.kind≠0)(d:r.s.kind≠10)(e:r.s.kind≠11)(f:r.s.kind≠12):XQ P r:=
 have h:=A.ok.ok r.f a.1 r.s a.2
 ⟨a.1,h.tg c d e f,h.args,h.cR⟩
theorem AK.isC{P b c}(h:AK P b c)(j:P.length<=12)(a:∀f,(As P f).t8.length<=12):Py c:=by
 rcases h with⟨f,i,l,m,rfl⟩|⟨n,k,d,e,g,rfl⟩
 .have:=a f;exact .inl (by unfold vN;omega)
 .exact .inr (by unfold pN;omega)
theorem Er.cell{P a t}(h:Er P a t)(c:P.length<=12)(b:Py t):AK P a t:=by
 rcases h with h|⟨g,d,rfl⟩
 .exact h
 .unfold Py fN at b;omega
theorem Er.code{P c t}(h:Er P c t)(a:P.length<=12)(b:∀f,(As P f).t8.length<=12)(e:Y2 t):t-144<P.length:=by
 rcases h with h|⟨g,d,rfl⟩
 .have:=h.isC a b;unfold Py Y2 at*;omega
 .unfold fN;omega
theorem Er.field{P b t}(h:Er P b t)(d:P.length<=12)(c:∀f,(As P f).t8.length<=12)(a:156<=t):∃n k,1<=n/\n<=b/\k<4/\t=pN n k:=by
 rcases h with(⟨f,i,e,l,rfl⟩|h)|⟨g,j,rfl⟩
 .have:=c f;unfold vN at a;omega
 .exact h
 .unfold fN at a;omega
theorem Er.lt{P a b t}(A:AnOk P a b)(h:Er P a t):t<16400:=by
 rcases h with h|⟨g,c,rfl⟩
 .exact h.lt A.cR A.ok.t8 A.lp
 .have:=A.cR;unfold fN;omega
theorem Om{P e p}(A:AnOk P e p):Za P ⟨fun c t=>AK P e c/\Er P e t,fun a b=>AK P e a/\AK P e b,fun n g=>(1<=n/\n<=p)/\g<P.length⟩:=by
 have v:∀r g,XQ P r->g<P.length->(As P g).u9=r.s.args.length->Dj P r g ⟨fun c t=>AK P e c/\Er P e t,fun a b=>AK P e a/\AK P e b,fun n g=>(1<=n/\n<=p)/\g<P.length⟩:=fun r g d j G=>by
  refine⟨fun i a z=>⟨Bj d.f (d.ar a (List.mem_of_getElem? z)),Bj j ?_⟩,fun x C=>?_⟩
  .have w:=(List.getElem?_eq_some_iff.1 z).1;have y:=A.ok.dX g;omega
  .obtain⟨s,B,E,rfl⟩:=C;exact⟨Bj j ((A.ok.ok g j s B).sr Z),Bj d.f d.tg⟩
 refine⟨fun a b t h k=>⟨h.2,k.2⟩,fun r d=>?_,fun r t d o h=>?_⟩
 .have f:=A.ok.ok r.f d.1 r.s d.2;have l:=A.dF r.f d.1 r.s d.2;refine⟨fun q=>?_,fun q=>?_,fun q=>?_,fun q=>?_,fun q=>?_⟩
  .have R:=A.rl d Z Z Z Z;exact⟨Bj R.f R.tg,.inl (.inr ⟨_,0,(l.1 q).1,(l.1 q).2,Z,rfl⟩)⟩
  .have R:=A.rl d Z Z Z Z;exact⟨Bj R.f R.tg,.inl (Bj R.f (f.sr Z))⟩
  .have R:=A.rl d Z Z Z Z;exact⟨Bj R.f R.tg,.inr ⟨_,f.func Z,rfl⟩⟩
  .have R:=A.rl d Z Z Z Z;exact⟨Bj R.f (f.sr Z),Bj R.f R.tg⟩
  .have R:=A.rl d Z Z Z Z;exact v r _ R (f.func Z) (f.many q)
 .have f:=A.ok.ok r.f d.1 r.s d.2;have l:=A.dF r.f d.1 r.s d.2;have R:=A.rl d (by unfold AR at o;omega) (by unfold AR at o;omega) (by unfold AR at o;omega) (by unfold AR at o;omega);refine⟨fun q u m=>?_,fun q u=>?_,fun q u=>?_,fun q u m=>?_⟩
  .obtain⟨n,k,w,y,F,rfl⟩:=h.2.field A.cR A.ok.t8 u;refine⟨Bj R.f R.tg,.inl (.inr ⟨n,r.s.field,w,y,by have:=l.2.2;omega,?_⟩)⟩;unfold pN at m⊢;omega
  .exact⟨h.2.cell A.cR u,Bj R.f R.tg⟩
  .exact⟨Bj R.f (f.sr Z),h.2.cell A.cR u⟩
  .have j:=h.2.code A.cR A.ok.t8 u;exact⟨⟨l.2.1 q,j⟩,v r _ R j m⟩
theorem Dl{P a b c t}(A:AnOk P a b)(h:(least P).I c t):AK P a c/\Er P a t:=h _ (Om A)
theorem Yn{P c d a b}(A:AnOk P c d)(h:(least P).F a b):AK P c a/\AK P c b:=h _ (Om A)
theorem Hl{P b a n g}(A:AnOk P b a)(h:(least P).E n g):(1<=n/\n<=a)/\g<P.length:=h _ (Om A)
theorem Ro(P m E G l C o v w)(A:AnOk P l C)(h:D6 P m E G l C o v w)(r:Rl)(x:Nat)(av:Value)(hi:Ax 0 w av r.s.args)(hr:LP P r)(V:AR r)(hx:(least P).I r.at x):
 Calls prog 126 #[.pointer (some ⟨m,0,none⟩),.agg (KC r av),.int .i64 x] w fun e f=>e=.returned (.tuple #[])/\Nx P m E G l C o v w f (fun u=>Dd P r x u.s):=by
 obtain⟨L,al,M,rfl⟩:=Ad hi;have d2:=Ag hi;subst d2;have o1:O kD w (w.alloc (.cells (KC r (.slice L r.s.args.length M)) 192)):=(O.refl _ w).alloc _;have c1:=W.new w (KC r (.slice L r.s.args.length M)) 192;have hE:=h.s9 o1;have hI:=Ac hi o1 (fun _ _ q=>q);have hR:=A.rl hr (by unfold AR at V;omega) (by unfold AR at V;omega) (by unfold AR at V;omega) (by unfold AR at V;omega);have hT:=(Dl A hx).2;have lx:=hT.lt A;have c3:∀k,o.own m k->k<w.heap.size:=fun k q=>h.r.ownLt q
 have d6:¬o.own m w.heap.size:=fun q=>by have:=c3 _ q;omega
 have B:=J A;have HR:=J hR;have HF:=J ((En P).fol r x hr V hx);have HT:=J hT;have HP:=J hr;clear h hi A hr hR hT;go_enter func126,ntmps126;go_upto_block 0 with(first|(go_at_call 136;refine(JE x _ Z).mono ?_;rintro e w2 ⟨rfl,o2⟩;dsimp only;have a0:=(c1.d8 o2 id).alloc (.cells #[.int .i64 (Ds x).1,.int .i64 (Ds x).2.1,.int .i64 (Ds x).2.2] 238);have b1:=a0.cell 1;have c7:=Ae a0;simp only[gH,gF,gG]at b1));have s:O kD w2 (w2.alloc (.cells #[.int .i64 (Ds x).1,.int .i64 (Ds x).2.1,.int .i64 (Ds x).2.2] 238)):=(O.refl _ w2).alloc _;have a5:=W.new w2 #[.int .i64 (Ds x).1,.int .i64 (Ds x).2.1,.int .i64 (Ds x).2.2] 238;have b9:=hE.s9 (o2.trans s);have c0:=Ac hI (o2.trans s) (fun _ _ q=>q);have O3:=J (o1.trans (o2.trans s));have d7:¬o.own m w2.heap.size:=fun q=>by have:=c3 _ q;have q1:=o1.size;have q2:=o2.size;omega
 clear o1 o2 s hE hI c1 b1 c7;generalize w2.alloc (.cells #[.int .i64 (Ds x).1,.int .i64 (Ds x).2.1,.int .i64 (Ds x).2.2] 238)=y at*;generalize w2.heap.size=tb at*;obtain⟨b0,b1,b2,b3,b4,b5,b6,b7,b8⟩:=a0.e9 0 1 2 3 4 5 6 7 8;have c7:=Ae a0;obtain⟨t0,t1,t2⟩:=a5.e3 0 1 2;have e5:=Ae a5;simp only[gH,gF,gG]at b0 b1 b2 b3 b4 b5 b6 b7 b8 t0 t1 t2;have a4:=B.o.cR;have Y:=HR.o.f;have c6:=HR.o.tg;have e4:=B.o.ok.t8 r.f;have S:=J b9;have HI:=J c0;have HB:=J a0;have c9:=J a5;clear b9 c0 a0 a5 hx;have a8:D (AK P l r.tg):=Bj Y c6;have e1:r.tg<16400:=Gw B.o Y c6;have a7:∀(Q:Sv->Prop) (U f:World),O kD y U->Nx P m E G l C o v U f Q->Nx P m E G l C o v w f Q:=fun Q U f hW hN=>by obtain⟨K,v6,i,I,F,H⟩:=hN;have ow:=O3.o.trans hW;exact⟨K,v6,⟨i.r,fun j hj=>(i.ow j hj).imp id fun q=>gW ow.size q,i.rl,(ow.mono (fun _ _ q=>q.elim)).trans i.on⟩,I,F,H⟩
 have c8:∀U,O kD y U->Dd P r x v.s->Nx P m E G l C o v w U (fun u=>Dd P r x u.s):=fun U hW hq=> a7 _ _ _ hW ⟨o,v,⟨(S.o.s9 hW).r,fun _ q=>.inl q,rfl,O.refl _ _⟩,.rf _,fun _ q=>q,hq⟩
 have a2:=J a7;have a3:=J c8;clear a7 c8;have k0:r.s.kind=3\/r.s.kind=5\/r.s.kind=8\/r.s.kind=9:=V;clear V;rcases k0 with d|d|d|d
 .have k3:(((r.s.kind:Nat):Int)==3)=true:=by rw[d];rfl
  have b:=J d;clear d;by_cases c:156<=x/\(x-156) % 4=0
  .have p:Ds x=(1,(x-156) / 4+1,(x-156) % 4):=by unfold Ds;rw[jG Z,jG Z]
   have N:((((Ds x).1:Nat):Int)==1)=true:=by rw[p];rfl
   have d8:((((Ds x).2.2:Nat):Int)==0)=true:=by rw[p];simp;omega
   have e3:=(B.o.dF r.f Y r.s HP.o.2).2.2;have c4:pN (Ds x).2.1 r.s.field=x+r.s.field:=by rw[p];unfold pN;dsimp only;omega
   have d4:1<=(Ds x).2.1:=by rw[p];dsimp only;omega
   have d5:(Ds x).2.1<=4001:=by obtain⟨n,k,h1,h2,h3,e⟩:=HT.o.field a4 B.o.ok.t8 c.1;have:=B.o.lp;rw[p];dsimp only;unfold pN at e;omega
   have d1:D ((least P).I r.tg (x+r.s.field)):=HF.o.1 b.o c.1 c.2;have R:D (∀z,O (o.own m) y z->z.cell? ⟨tb,1,none⟩=some (.int .i64 (Ds x).2.1)/\z.cell? ⟨w.heap.size,0,none⟩=some (.int .i64 r.f)/\z.cell? ⟨w.heap.size,1,none⟩=some (.int .i64 r.s.kind)/\z.cell? ⟨w.heap.size,2,none⟩=some (.int .i64 r.s.cO)/\z.cell? ⟨w.heap.size,3,none⟩=some (.int .i64 r.s.cC)/\z.cell? ⟨w.heap.size,4,none⟩=some (.int .i64 r.s.field)/\z.cell? ⟨w.heap.size,5,none⟩=some (.int .i64 r.s.cA)/\z.cell? ⟨w.heap.size,6,none⟩=some (.slice L r.s.args.length M)/\z.cell? ⟨w.heap.size,7,none⟩=some (.int .i64 r.s.next)/\z.cell? ⟨w.heap.size,8,none⟩=some (.int .i64 r.s.taken)):=fun z h3=>by have q1:=(c9.o.d8 h3 d7).cell 1;have d3:=HB.o.d8 h3 d6;obtain⟨r0,r1,r2,r3,r4,r5,r6,r7,r8⟩:=d3.e9 0 1 2 3 4 5 6 7 8;simp only[gH,gF,gG]at q1 r0 r1 r2 r3 r4 r5 r6 r7 r8;exact⟨q1,r0,r1,r2,r3,r4,r5,r6,r7,r8⟩
   have d9:pN (Ds x).2.1 r.s.field<19200:=Z;have a9:=J c4;clear c p c4;obtain⟨ka,c2⟩:=(S.o.r.d0 r.tg 0 (.inl rfl)).2 a8.o;go_wp2_with fail;go_region_held3(fun f=>f.cell? ⟨tb,1,none⟩=some (.int .i64 (Ds x).2.1)/\f.cell? ⟨w.heap.size,0,none⟩=some (.int .i64 r.f)/\f.cell? ⟨w.heap.size,1,none⟩=some (.int .i64 r.s.kind)/\f.cell? ⟨w.heap.size,2,none⟩=some (.int .i64 r.s.cO)/\f.cell? ⟨w.heap.size,3,none⟩=some (.int .i64 r.s.cC)/\f.cell? ⟨w.heap.size,4,none⟩=some (.int .i64 r.s.field)/\f.cell? ⟨w.heap.size,5,none⟩=some (.int .i64 r.s.cA)/\f.cell? ⟨w.heap.size,6,none⟩=some (.slice L r.s.args.length M)/\f.cell? ⟨w.heap.size,7,none⟩=some (.int .i64 r.s.next)/\f.cell? ⟨w.heap.size,8,none⟩=some (.int .i64 r.s.taken)) (go_keep)
    (first
      |(go_at_call 121;refine(DB r (.slice L r.s.args.length M) _ Z Z).mono ?_;rintro e w3 ⟨rfl,s⟩;have O4:=J (O.trans (X:=kD) (a:=y) jV s);clear s;obtain⟨q1,r0,r1,r2,r3,r4,r5,r6,r7,r8⟩:=R.o w3 (O4.o.mono fun _ _ q=>q.elim))
      |(go_at_call 85;refine(Jv (Ds x).2.1 r.s.field _ d4 d5 Z).mono ?_;rintro e f ⟨rfl,hw⟩;have hw:=hw.symm;subst hw)
      |(go_at_call 120;refine(Jj P m E G l C o v w5 r.tg ka fb _ (S.o.s9 O5.o).r c2 SF.o Z (fun q=>by have:=(S.o.s9 O4.o).r.ownLt (k:=ka) (.inr (.inr (.inl ⟨0,_,c2⟩)));omega)).mono ?_;rintro e w6 ⟨rfl,K,i⟩;have SS:=J i;clear i;obtain⟨q1,r0,r1,r2,r3,r4,r5,r6,r7,r8⟩:=R.o w6 ((O5.o.mono (fun _ _ q=>q.elim)).trans SS.o.on))
      |(go_at_call 88;refine(Kf (pN (Ds x).2.1 r.s.field) _ d9).mono ?_;rintro e w5 ⟨fb,rfl,e2,sf,o5⟩;have O5:=J (O4.o.trans o5);have SF:=J sf;clear o5 sf;obtain⟨q1,r0,r1,r2,r3,r4,r5,r6,r7,r8⟩:=R.o w5 (O5.o.mono fun _ _ q=>q.elim)))
   all_goals
    have g:D (Nx P m E G l C o v w w6 (fun u=>Dd P r x u.s)):=by refine a2.o (fun u=>Dd P r x u.s) _ _ O5.o ⟨K,_,SS.o,Sv.give_up v _ _,fun X q=>q.give (fun t ht=>by rw[ht,a9.o];exact d1.o),?_⟩;refine⟨fun _ _ _=>?_,fun q=>jO (b.o.symm.trans q) T,fun q=>jO (b.o.symm.trans q) T,fun q=>jO (b.o.symm.trans q) T⟩;rw[<-a9.o];exact .inr ⟨rfl,rfl⟩
    go_wp2_with fail;go_end0;exact⟨rfl,g.o⟩
  .have g:=J (a3.o _ (O.refl _ y) ⟨fun _ h1 h2=>jO ⟨h1,h2⟩ c,fun q=>jO (b.o.symm.trans q) T,fun q=>jO (b.o.symm.trans q) T,fun q=>jO (b.o.symm.trans q) T⟩);by_cases h1:156<=x
   .have p:Ds x=(1,(x-156) / 4+1,(x-156) % 4):=by unfold Ds;rw[jG Z,jG Z]
    have N:((((Ds x).1:Nat):Int)==1)=true:=by rw[p];rfl
    have d8:((((Ds x).2.2:Nat):Int)==0)=false:=by rw[p];simp;omega
    clear c p h1;go_wp2_with fail;go_end0;exact⟨rfl,g.o⟩
   .have N:((((Ds x).1:Nat):Int)==1)=false:=by
     unfold Ds;split
     .rfl
     .rw[jH Z];rfl
    clear c h1
    go_wp2_with fail
    go_end0
    exact⟨rfl,g.o⟩
 .have k3:(((r.s.kind:Nat):Int)==3)=false:=by rw[d];rfl
  have k5:(((r.s.kind:Nat):Int)==5)=true:=by rw[d];rfl
  have b:=J d;clear d;by_cases c:Py x
  .have N:((((Ds x).1:Nat):Int) !=2)=true:=by
    unfold Ds;unfold Py at c;split
    .rfl
    .rw[jG Z];rfl
   have R:D (AK P l x):=HT.o.cell a4 c
   have a6:D ((least P).F x r.tg):=HF.o.2.1 b.o c
   clear c
   go_wp2_with fail
   refine(DB r (.slice L r.s.args.length M) y Z Z).mono ?_
   rintro e w3 ⟨rfl,s⟩
   have a1:=J s
   clear s
   go_wp2_with fail
   refine(GO P m E G l C o v w3 x r.tg (S.o.s9 a1.o).r R.o a8.o lx e1 a6.o).mono ?_
   rintro e w4 ⟨rfl,nx⟩
   obtain⟨K,v6,i,I,F,H⟩:=nx
   have g:=J (a2.o (fun u=>Dd P r x u.s) _ _ a1.o ⟨K,v6,i,I,F,fun q=>jO (b.o.symm.trans q) T,fun _ _=>H,fun q=>jO (b.o.symm.trans q) T,fun q=>jO (b.o.symm.trans q) T⟩)
   clear i I F H
   go_wp2_with fail
   go_end0
   exact⟨rfl,g.o⟩
  .have N:((((Ds x).1:Nat):Int) !=2)=false:=by unfold Ds;unfold Py at c;rw[jG Z,jH Z];rfl
   have g:=J (a3.o _ (O.refl _ y) ⟨fun q=>jO (b.o.symm.trans q) T,fun _ q=>jO q c,fun q=>jO (b.o.symm.trans q) T,fun q=>jO (b.o.symm.trans q) T⟩)
   clear c
   go_wp2_with fail
   go_end0
   exact⟨rfl,g.o⟩
 .have k3:(((r.s.kind:Nat):Int)==3)=false:=by rw[d];rfl
  have k5:(((r.s.kind:Nat):Int)==5)=false:=by rw[d];rfl
  have k9:(((r.s.kind:Nat):Int)==9)=false:=by rw[d];rfl
  have k8:(((r.s.kind:Nat):Int)==8)=true:=by rw[d];rfl
  have b:=J d;clear d;by_cases c:Y2 x
  .have p:Ds x=(2,x-144,0):=by unfold Ds;unfold Y2 at c;rw[jG Z,jH Z]
   have N:((((Ds x).1:Nat):Int) !=2)=false:=by rw[p];rfl
   have hg:=HT.o.code a4 B.o.ok.t8 c;have hn:=(B.o.dF r.f Y r.s HP.o.2).2.1 b.o;have HL:=J (HF.o.2.2.2 b.o c);have ho:(Ds x).2.1=x-144:=by rw[p]
   rw[ho]at t1;have HN:=J hn;clear c p ho hn;go_wp2_with fail;refine(RZ P m E G l C o v y B.o S.o r (x-144) (.slice L r.s.args.length M) HI.o HR.o hg HN.o.1 HN.o.2 HL.o).mono ?_;rintro e w4 ⟨rfl,nx⟩;obtain⟨K,v6,i,I,F,H⟩:=nx;have g:=J (a2.o (fun u=>Dd P r x u.s) _ _ (O.refl _ y) ⟨K,v6,i,I,F,fun q=>jO (b.o.symm.trans q) T,fun q=>jO (b.o.symm.trans q) T,fun q=>jO (b.o.symm.trans q) T,fun _ _=>H⟩);clear i I F H;go_wp2_with fail;go_end0;exact⟨rfl,g.o⟩
  .have N:((((Ds x).1:Nat):Int) !=2)=true:=by
    unfold Ds;unfold Y2 at c;split
    .rfl
    .rw[jG Z];rfl
   have g:=J (a3.o _ (O.refl _ y) ⟨fun q=>jO (b.o.symm.trans q) T,fun q=>jO (b.o.symm.trans q) T,fun q=>jO (b.o.symm.trans q) T,fun _ q=>jO q c⟩)
   clear c
   go_wp2_with fail
   go_end0
   exact⟨rfl,g.o⟩
 .have k3:(((r.s.kind:Nat):Int)==3)=false:=by rw[d];rfl
  have k5:(((r.s.kind:Nat):Int)==5)=false:=by rw[d];rfl
  have k9:(((r.s.kind:Nat):Int)==9)=true:=by rw[d];rfl
  have b:=J d;clear d;by_cases c:Py x
  .have N:((((Ds x).1:Nat):Int) !=2)=true:=by
    unfold Ds;unfold Py at c;split
    .rfl
    .rw[jG Z];rfl
   have R:D (AK P l x):=HT.o.cell a4 c
   have a6:D ((least P).F r.sr x):=HF.o.2.2.1 b.o c
   have c5:=(B.o.ok.ok r.f Y r.s HP.o.2).sr (by have:=b.o;omega)
   have d0:D (AK P l r.sr):=Bj Y c5
   have e0:r.sr<16400:=Gw B.o Y c5
   clear c
   go_wp2_with fail
   refine(EI r (.slice L r.s.args.length M) y Z Z).mono ?_
   rintro e w3 ⟨rfl,s⟩
   have a1:=J s
   clear s
   go_wp2_with fail
   refine(GO P m E G l C o v w3 r.sr x (S.o.s9 a1.o).r d0.o R.o e0 lx a6.o).mono ?_
   rintro e w4 ⟨rfl,nx⟩
   obtain⟨K,v6,i,I,F,H⟩:=nx
   have g:=J (a2.o (fun u=>Dd P r x u.s) _ _ a1.o ⟨K,v6,i,I,F,fun q=>jO (b.o.symm.trans q) T,fun q=>jO (b.o.symm.trans q) T,fun _ _=>H,fun q=>jO (b.o.symm.trans q) T⟩)
   clear i I F H
   go_wp2_with fail
   go_end0
   exact⟨rfl,g.o⟩
  .have N:((((Ds x).1:Nat):Int) !=2)=false:=by unfold Ds;unfold Py at c;rw[jG Z,jH Z];rfl
   have g:=J (a3.o _ (O.refl _ y) ⟨fun q=>jO (b.o.symm.trans q) T,fun q=>jO (b.o.symm.trans q) T,fun _ q=>jO q c,fun q=>jO (b.o.symm.trans q) T⟩)
   clear c
   go_wp2_with fail
   go_end0
   exact⟨rfl,g.o⟩
section
variable{P:List PFn}{a:Nat}{d:Value}{f g b:Nat}{o:So}{v:Sv}{w l:World}
def So.tk(o:So)(c:Nat):So:={o with om:=fun t=>if t=2 then c else o.om t,bk:=fun t i=>if t=2 then none else o.bk t i}
theorem So.tk_bk{o:So}{c t i k:Nat}(h:(o.tk c).bk t i=some k):t≠2/\o.bk t i=some k:=by
 unfold So.tk at h;dsimp only at h;split at h
 .cases h
 .next e=>exact⟨e,h⟩
theorem So.tk_old{o:So}{c t i:Nat}(h:t≠2):(o.tk c).bk t i=o.bk t i:=by unfold So.tk;dsimp only;rw[jG h]
theorem So.tk_om{o:So}{c t:Nat}(h:t≠2):(o.tk c).om t=o.om t:=by unfold So.tk;dsimp only;rw[jG h]
theorem So.tk_2{o:So}{c:Nat}:(o.tk c).om 2=c:=rfl
theorem QI(v:Sv)(t i x:Nat)(h:t≠2):Ca P v.took t i x↔Ca P v t i x:=by simp[Ca,Sv.took,h]
theorem BE.took(h:BE P a d f g b o v w){y}(V:w.heap.size<=y)(Q:BK IK IJ y (fun _=>none) l)(L:W a (G7 (o.tk y) d f g b) 120 l)(A:O (fun k=>k=a) w l):BE P a d f g b (o.tk y) v.took l:=by
 have F:∀t,t<=5->o.om t<w.heap.size:=fun t p=>h.ownLt (.inr (.inl ⟨t,p,rfl⟩))
 have G:∀t,t<=5->o.om t≠a:=fun t p=>by
  by_cases K:t=5
  .subst K;obtain⟨_,_,e⟩:=h.fm.isMap;exact(h.dI e).1
  .obtain⟨_,_,e⟩:=(h.mp t Z).isMap;exact(h.dI e).1
 have S:∀t i k,o.bk t i=some k->k≠a:=fun t i k m=>by obtain⟨_,_,e⟩:=(h.st t i k m).isMap;exact(h.dI e).1
 refine{h with bY:=L,mp:=fun t p=>?_,st:=fun t i k m=>?_,dj:=fun t i s R k m N=>h.dj t i s R k (So.tk_bk m).2 (So.tk_bk N).2,oj:=fun t s p B e=>?_,ne:=fun t i k s m B=>?_,t4:=fun t i k m=>h.t4 t i k (So.tk_bk m).2,d0:=fun c t p=>?_,d1:=fun n=>?_,d4:=fun n=>?_,d2:=fun c k m=>jO rfl (So.tk_bk m).1,ins:=fun t i x p q=>?_,fm:=?_,fr:=fun c t E=>(h.fr c t E).d8 A (fun j M q=>?_) (fun j H U q r=>?_),fvr:=h.fvr}
 .by_cases e:t=2
  .subst e;exact Q
  .rw[So.tk_om e,show(o.tk y).bk t=o.bk t from funext fun i=>So.tk_old e];exact(h.mp t p).d8 A (G t Z)
 .obtain⟨e,m⟩:=So.tk_bk m;exact((h.st t i k m).d8 A (S t i k m)).iff fun x=>(QI v t i x e).symm
 .by_cases z:t=2
  .by_cases u:s=2
   .rw[z,u]
   .rw[z,So.tk_2,So.tk_om u]at e;have:=F s B;omega
  .by_cases u:s=2
   .rw[u,So.tk_2,So.tk_om z]at e;have:=F t p;omega
   .rw[So.tk_om z,So.tk_om u]at e;exact h.oj t s p B e
 .obtain⟨e,m⟩:=So.tk_bk m;by_cases u:s=2
  .rw[u,So.tk_2];have:=h.ownLt (.inr (.inr (.inl ⟨t,i,m⟩)));omega
  .rw[So.tk_om u];exact h.ne t i k s m B
 .rw[<-h.d0 c t p,So.tk_old Z]
 .rw[<-h.d1 n,So.tk_old Z]
 .rw[<-h.d4 n,So.tk_old Z]
 .by_cases e:t=2
  .subst e;simp[Ca,Sv.took]at q
  .rw[So.tk_old e];exact h.ins t i x p ((QI v t i x e).1 q)
 .rw[So.tk_om Z];exact h.fm.d8 A (G 5 Z)
 .obtain⟨H,I,_⟩:=h.fr c t E;exact Am I h.bY T j M q
 .rw[q]at r;have C:=h.bY;unfold W at C;rw[r]at C;cases C
theorem BE.outk(h:BE P a d f g b o v w){x}(C:w.heap.size<=x):(∀c k,o.bk 2 c=some k->¬(o.tk x).own a k)/\¬(o.tk x).own a (o.om 2):=by
 have B:=(h.mp 2 Z).isMap;refine⟨fun c k m q=>?_,fun q=>?_⟩
 .obtain⟨z,y,e⟩:=(h.st 2 c k m).isMap;obtain⟨s,u⟩:=h.dI e;have A:=h.ownLt (.inr (.inr (.inl ⟨2,c,m⟩)));rcases q with q|⟨t,p,q⟩|⟨t,i,q⟩|⟨n,t,q,r⟩
  .exact s q
  .by_cases j:t=2
   .rw[j,So.tk_2]at q;omega
   .rw[So.tk_om j]at q;exact h.ne 2 c k t m p q
  .obtain⟨j,q⟩:=So.tk_bk q;exact j (h.dj t i 2 c k q m).1
  .exact u n t q r
 .obtain⟨z,y,e⟩:=B;obtain⟨s,u⟩:=h.dI e;have A:=h.ownLt (k:=o.om 2) (.inr (.inl ⟨2,Z,rfl⟩));rcases q with q|⟨t,p,q⟩|⟨t,i,q⟩|⟨n,t,q,r⟩
  .exact s q
  .by_cases j:t=2
   .rw[j,So.tk_2]at q;omega
   .rw[So.tk_om j]at q;exact j (h.oj 2 t Z p q).symm
  .obtain⟨j,q⟩:=So.tk_bk q;exact h.ne t i _ 2 q Z rfl
  .exact u n t q r
def So.wt(o:So)(c:Nat)(t:Nat×Nat×Nat)(r:Rl):So:={o with fw:=fun x=>if x=c then some t else o.fw x,rl:=fun x=>if x=c then o.rl c++[r]else o.rl x}
def JM(o:So)(c:Nat):Value:=match o.fw c with|none=>.slice none 0 0|some t=>Ic t
theorem BE.fwAt(h:BE P a d f g b o v w)(c:Nat):IT 0 w (JM o c) (o.rl c):=by
 unfold JM;cases e:o.fw c with
 |none=> rw[h.f0 c e];exact⟨[],⟨rfl,.inl ⟨rfl,rfl⟩⟩,rfl,fun i q=>by simp at q⟩
 |some t=>exact h.fr c t e
theorem BE.wait(h:BE P a d f g b o v w){c:Nat}{t:Nat×Nat×Nat}{r:Rl}{z:World}(B:O (fun k=>(JM o c).ownBlock=some k) w z)(I:(JM o c).ownBlock=some t.1\/w.heap.size<=t.1)(hr:IT 0 z (Ic t) (o.rl c++[r]))
 (hm:BK UO UN (o.om 5) (fun x=>if x=c then some t else o.fw x) l)(C:O (fun k=>k=o.om 5) z l):BE P a d f g b (o.wt c t r) (v.wait c r) l:=by
 have X:∀k,(JM o c).ownBlock=some k->∃u,o.fw c=some u/\k=u.1:=fun k n=>by
  unfold JM at n;cases hc:o.fw c with
  |none=>rw[hc]at n;cases n
  |some u=>rw[hc]at n;unfold Ic at n;cases n;exact⟨u,rfl,rfl⟩
 have H:∀k,(JM o c).ownBlock=some k->∃s,w.heap[k]? =some (.cells s 192 (0,0)):=fun k n=>by obtain⟨u,e,rfl⟩:=X k n;obtain⟨s,U,_⟩:=h.fr c u e;exact Dw U _ rfl
 obtain⟨a7,c5,K⟩:=h.fm.isMap;have l5:=lt_of_block K;have a2:z.heap[o.om 5]? =some (.map a7 c5):=(B.block _ l5 fun q=>by obtain⟨s,e⟩:=H _ q;rw[K]at e;cases e).trans K;obtain⟨n1,n2⟩:=h.dI K;have a5:∀k G F,w.heap[k]? =some (.map G F)->¬((JM o c).ownBlock=some k):=fun k G F n q=>by obtain⟨s,e⟩:=H k q;rw[n]at e;cases e
 have a8:W a (G7 o d f g b) 120 z:=h.bY.d8 B fun q=>by obtain⟨s,e⟩:=H _ q;have:=h.bY;unfold W at this;rw[e]at this;cases this
 have L:∀i m,(o.wt c t r).fw i=some m->(i=c/\m=t)\/(i≠c/\o.fw i=some m):=fun i m p=>by
  unfold So.wt at p;dsimp only at p;split at p
  .next e=>cases p;exact .inl ⟨e,rfl⟩
  .next e=>exact .inr ⟨e,p⟩
 refine{h with bY:=a8.d8 C (fun q=>n1 q.symm),mp:=fun m a3=>?_,st:=fun m Y k' V=>?_,ins:=h.ins,fm:=hm,fr:=fun i m p=>?_,fj:=fun Q E t1 N a9 a1 e=>?_,f0:=fun i p=>?_,fvr:=fun i M=>?_}
 .obtain⟨G,F,e⟩:=(h.mp m a3).isMap;exact((h.mp m a3).d8 B (a5 _ _ _ e)).d8 C (fun q=>jO (h.oj m 5 Z Z q) Z)
 .obtain⟨G,F,e⟩:=(h.st m Y k' V).isMap;exact((h.st m Y k' V).d8 B (a5 _ _ _ e)).d8 C (h.ne m Y k' 5 V Z)
 .have a4:∀k s S,k=o.om 5->z.heap[k]? ≠some (.cells s 3 S):=fun k s S q r=>by rw[q,a2]at r;cases r
  rcases L i m p with⟨rfl,rfl⟩|⟨e,n⟩
  .have e:(o.wt i m r).rl i=o.rl i++[r]:=by unfold So.wt;dsimp only;rw[jH rfl]
   rw[e];refine hr.d8 C (fun j y q=>?_) a4;obtain⟨s,U,_⟩:=hr;obtain⟨a6,e⟩:=Dw U j y;rw[q,a2]at e;cases e
  .have er:(o.wt c t r).rl i=o.rl i:=by unfold So.wt;dsimp only;rw[jG e]
   rw[er];refine((h.fr i m n).d8 B (fun j y q=>?_) (fun j s S q r=>?_)).d8 C (fun j y q=>n2 i m n (by unfold Ic at y;cases y;exact q.symm)) a4
   .obtain⟨u,R,A⟩:=X j q;unfold Ic at y;cases y;exact e (h.fj i c m u n R A)
   .obtain⟨a6,e'⟩:=H j q;rw[r]at e';cases e'
 .have a0:∀i m,i≠c->o.fw i=some m->m.1≠t.1:=fun i m b0 n q=>by
   rcases I with I|I
   .obtain⟨u,R,A⟩:=X _ I;exact b0 (h.fj i c m u n R (q.trans A))
   .have:=h.ownLt (k:=m.1) (.inr (.inr (.inr ⟨i,m,n,rfl⟩)));omega
  rcases L Q t1 a9 with⟨rfl,rfl⟩|⟨A,q1⟩
  .rcases L E N a1 with⟨rfl,rfl⟩|⟨e2,q2⟩
   .rfl
   .exact jO e.symm (a0 E N e2 q2)
  .rcases L E N a1 with⟨rfl,rfl⟩|⟨e2,q2⟩
   .exact jO e (a0 Q t1 A q1)
   .exact h.fj Q E t1 N q1 q2 e
 .unfold So.wt at p⊢;dsimp only at p⊢;split at p
  .cases p
  .next e=>rw[jG e];exact h.f0 i p
 .show(v.W i M\/(i=c/\M=r))↔_;unfold So.wt;dsimp only;by_cases e:i=c
  .subst e;rw[jH rfl,h.fvr i M];simp
  .rw[jG e,h.fvr i M];simp[e]
end
structure bL(P:List PFn)(sb:Nat)(fv:Value)(mn pn cn:Nat)(o o':So)(v v':Sv)(w w':World)(r:Rl):Prop where
 so:BE P sb fv mn pn cn o' v' w'
 ow:∀k,o'.own sb k->o.own sb k\/w.heap.size<=k
 on:O (o.own sb) w w'
 le:v.s.le v'.s
 w1:∀a q,v.W a q->v'.W a q
 w2:∀a q,v'.W a q->v.W a q\/(AR r/\a=r.at/\q=r)
 raw:v.raw->v'.raw
 ok:∀X,v.raw->BH P X v->BH P X v'
 beg:KL P r v'.s
 fol:AR r->v'.W r.at r
 len:∀c,(o'.rl c).length<=(o.rl c).length+1
def Bg(P:List PFn)(f:Nat)(b:Value)(c e a:Nat)(o:So)(v:Sv)(w h:World)(r:Rl):Prop:=∃d g,bL P f b c e a o d v g w h r
theorem Nx.bg{P n f j m d o v w t p r}(g:O kD w t)(h:Nx P n f j m d o v t p (fun b=>KL P r b.s))(x:¬AR r):Bg P n f j m d o v w p r:=by obtain⟨l,b,s,u,i,q⟩:=h;refine⟨l,b,s.r,fun k y=>(s.ow k y).imp id fun q=>gW g.size q,(g.mono (fun _ _ q=>q.elim)).trans s.on,u.le.s,fun a q h=>by rw[u.le.w];exact h,fun a q h=>.inl (by rw[<-u.le.w];exact h),fun h=>h.up u,fun X _ h=>i X h,q,fun h=>jO h x,fun c=>?_⟩;have e:l.rl=o.rl:=congrArg Prod.fst s.rl;rw[e];omega
theorem D6.nxt{P a c d g b o e v j w i}(h:D6 P a c d g b o v w)(r:BE P a c d g b e j i)(l:∀k,e.own a k->o.own a k\/w.heap.size<=k)(f:O (o.own a) w i):D6 P a c d g b e j i:=
 ⟨r,h.pl.d8 f h.r.noPlan,h.tb.d8 f h.tn h.tl,gY h.tl f.size,fun q=>(l _ q).elim h.tn fun q=>by have:=h.tl;omega⟩
theorem BE.waitB{P y B N Q A o v w d f z c t r}{m:List (List Value)}{g:Value}(h:BE P y B N Q A o v w)(U:O kD w d)(n:r.at=c)(G:AR r)(a3:d.ownsRow 0 192 9 (JM o c) (o.rl c).length m.flatten)(F:m.length=(o.rl c).length)
 (a2:∀i (h:i<m.length) (h':i<(o.rl c).length),∃g,m[i]=YD (o.rl c)[i] g/\Ax 0 d g (o.rl c)[i].s.args)(Y:Ax 0 d g r.s.args)(V:d.grownBy f (JM o c).ownBlock)(H:(JM o c).ownBlock=some t.1\/w.heap.size<=t.1)(ho:f.ownsRow 0 192 9 (Ic t) ((o.rl c).length+1) (m.flatten++YD r g))
 (hm:BK UO UN (o.om 5) (fun x=>if x=c then some t else o.fw x) z)(L:O (fun k=>k=o.om 5) f z):Bg P y B N Q A o v w z r:=by
 have C:O (fun k=>(JM o c).ownBlock=some k) d f:=O.grown (O.refl _ _) V (fun j hj=>.inl hj);have E:O (fun k=>(JM o c).ownBlock=some k) w f:=(U.mono (fun _ _ q=>q.elim)).trans C;have M:∀{u:Value} {l:List Nat},Ax 0 d u l->Ax 0 f u l:=fun p=>Ai p C (Gr a3 T)
 have S:IT 0 f (Ic t) (o.rl c++[r]):=by
  refine⟨m++[YD r g],?_,by simp[F],fun i a0 a1=>?_⟩
  .rw[List.flatten_append,gM];simp only[List.flatten_cons,List.flatten_nil,iP,iC];exact ho
  .simp only[gM,iC]at a0 a1;by_cases I:i<(o.rl c).length
   .obtain⟨u,e,p⟩:=a2 i Z I;rw[iG Z,iG I];exact⟨u,e,M p⟩
   .have e:i=(o.rl c).length:=Z;subst e;rw[iE Z,iE Z];simp only[F,Nat.sub_self,iD];exact⟨g,rfl,M Y⟩
 have hw:=h.wait (r:=r) E H S hm L;have K:∀k,(JM o c).ownBlock=some k->o.own y k:=fun k b=>by
  unfold JM at b;cases n:o.fw c with
  |none=>rw[n]at b;cases b
  |some t0=>rw[n]at b;unfold Ic at b;cases b;exact .inr (.inr (.inr ⟨c,t0,n,rfl⟩))
 have s:r.s.kind≠1/\r.s.kind≠2/\r.s.kind≠4/\r.s.kind≠6/\r.s.kind≠7:=by unfold AR at G;omega
 refine⟨_,_,hw,fun k b=>?_,(E.mono fun k _ q=>K k q).thn L fun k _ q=>by rw[q];exact .inr (.inl ⟨5,Z,rfl⟩),.rf _,fun a q h=>.inl h,fun a q h=>h.imp id fun h=>⟨G,n▸h.1,h.2⟩,fun h=>h,fun X p h=>h.wait fun x hx=>p _ x hx,⟨fun q=>jO q s.1,fun q=>jO q s.2.1,fun q=>jO q s.2.2.1,fun q=>jO q s.2.2.2.1,fun q=>jO q s.2.2.2.2⟩,fun _=>.inr ⟨n,rfl⟩,fun x=>?_⟩
 .rcases b with q|q|q|⟨R,t',q,rfl⟩
  .exact .inl (.inl q)
  .exact .inl (.inr (.inl q))
  .exact .inl (.inr (.inr (.inl q)))
  .unfold So.wt at q;dsimp only at q;split at q
   .cases q;exact H.imp (K _) id
   .exact .inl (.inr (.inr (.inr ⟨R,t',q,rfl⟩)))
 .unfold So.wt;dsimp only;split
  .next e=>rw[e];simp
  .omega
abbrev bT:Array Value:=#[.int .i64 0,.int .i64 0,.int .i64 0,.int .i64 0,.int .i64 0,.int .i64 0,.slice none 0 0,.int .i64 0,.int .i64 0]
theorem Tryz.infoRule:(Tryz.prog.info? 192).map (fun i=>(i.zero,i.size,i.bytes))=some (some (.agg bT),9,88):=jW
theorem Pc{w:World}{b:Nat}{a:List Value}{t:TypeId}(h:W b a.toArray t w):∀j u,a[j]? =some u->w.cell? ((⟨b,0,none⟩:Addr).add j)=some u:=fun j u d=>by
 have:=h.cell j;rw[gH,d]at this;by_cases c:j=0
 .subst c;simpa[Addr.add]using this
 .simpa[Addr.add,c]using this
theorem Bg.from{P g c e f b o v w a i r}(d:O kD w a)(h:Bg P g c e f b o v a i r):Bg P g c e f b o v w i r:=by obtain⟨l,m,h⟩:=h;exact⟨l,m,h.so,fun k j=>(h.ow k j).imp id fun q=>gW d.size q,(d.mono (fun _ _ q=>q.elim)).trans h.on,h.le,h.w1,h.w2,h.raw,h.ok,h.beg,h.fol,h.len⟩
theorem TM(P l fv mn y K o v w)(A:AnOk P y K)(h:D6 P l fv mn y K o v w)(r:Rl)(av:Value)(hi:Ax 0 w av r.s.args)(hr:LP P r)(d3:∀c,(o.rl c).length<=100000):
 Calls prog 86 #[.pointer (some ⟨l,0,none⟩),.agg (KC r av)] w fun e f=>e=.returned (.tuple #[])/\Bg P l fv mn y K o v w f r:=by
 obtain⟨i0,f1,f8,f9,g0⟩:=info_parts Tryz.infoRule;obtain⟨n,al,p,rfl⟩:=Ad hi;have e8:=Ag hi;subst e8;have o1:O kD w (w.alloc (.cells (KC r (.slice n r.s.args.length p)) 192)):=(O.refl _ w).alloc _;have a7:=W.new w (KC r (.slice n r.s.args.length p)) 192;have hE:=h.s9 o1;have hI:=Ac hi o1 (fun _ _ q=>q);have f5:∀k,o.own l k->k<w.heap.size:=fun k q=>h.r.ownLt q
 have f4:¬o.own l w.heap.size:=fun q=>by have:=f5 _ q;omega
 have c5:=A.ok.ok r.f hr.1 r.s hr.2;have H:=J A;have HP:=J hr;have a1:=J c5;have a5:=J ((En P).beg r hr);have e6:=J d3;have g4:=A.cR;have a0:=hr.1;have h7:=A.ok.t8 r.f;have g8:=c5.kind;clear h hi A hr c5 d3;go_enter func86,ntmps86;have b1:=a7.cell 1;have h8:=Ae a7;simp only[gH,gF,gG]at b1;go_upto_block 0 with fail;generalize w.alloc (.cells (KC r (.slice n r.s.args.length p)) 192)=s at*;obtain⟨b0,b2,b3,b4,b5,b6,b7,b8⟩:=a7.e8 0 2 3 4 5 6 7 8;simp only[gH,gF,gG]at b0 b2 b3 b4 b5 b6 b7 b8;have B:=J hE;have HI:=J hI;have HB:=J a7;have O1:=J o1;have HC:D (∀d,O (o.own l) s d->d.cell? ⟨w.heap.size,0,none⟩=some (.int .i64 r.f)/\d.cell? ⟨w.heap.size,1,none⟩=some (.int .i64 r.s.kind)/\d.cell? ⟨w.heap.size,2,none⟩=some (.int .i64 r.s.cO)/\d.cell? ⟨w.heap.size,3,none⟩=some (.int .i64 r.s.cC)/\d.cell? ⟨w.heap.size,4,none⟩=some (.int .i64 r.s.field)/\d.cell? ⟨w.heap.size,5,none⟩=some (.int .i64 r.s.cA)/\d.cell? ⟨w.heap.size,6,none⟩=some (.slice n r.s.args.length p)/\d.cell? ⟨w.heap.size,7,none⟩=some (.int .i64 r.s.next)/\d.cell? ⟨w.heap.size,8,none⟩=some (.int .i64 r.s.taken)):=fun d h3=>by have e9:=HB.o.d8 h3 f4;obtain⟨L,M,N,Q,R,U,V,Y,r8⟩:=e9.e9 0 1 2 3 4 5 6 7 8;simp only[gH,gF,gG]at L M N Q R U V Y r8;exact⟨L,M,N,Q,R,U,V,Y,r8⟩
 have c0:D (∀d,O (fun k=>o.own l k/\k≠l) s d->d.cell? ⟨l,8,none⟩=some (.map (some (o.om 5)))/\d.cell? ⟨w.heap.size,0,none⟩=some (.int .i64 r.f)/\d.cell? ⟨w.heap.size,1,none⟩=some (.int .i64 r.s.kind)/\d.cell? ⟨w.heap.size,2,none⟩=some (.int .i64 r.s.cO)/\d.cell? ⟨w.heap.size,3,none⟩=some (.int .i64 r.s.cC)/\d.cell? ⟨w.heap.size,4,none⟩=some (.int .i64 r.s.field)/\d.cell? ⟨w.heap.size,5,none⟩=some (.int .i64 r.s.cA)/\d.cell? ⟨w.heap.size,6,none⟩=some (.slice n r.s.args.length p)/\d.cell? ⟨w.heap.size,7,none⟩=some (.int .i64 r.s.next)/\d.cell? ⟨w.heap.size,8,none⟩=some (.int .i64 r.s.taken)):=fun d h3=>by have q8:=(B.o.r.bY.d8 h3 (fun q=>q.2 rfl)).cell 8;simp only[G7,gH,gF,gG]at q8;exact⟨q8,HC.o d (h3.mono fun _ _ q=>q.1)⟩
 have i1:=Ae hE.r.bY;have p8:=hE.r.bY.cell 8;simp only[G7,gH,gF,gG]at p8;clear hE hI a7 o1;have k0:(r.s.kind=1\/r.s.kind=2\/r.s.kind=4)\/r.s.kind=6\/r.s.kind=7\/(r.s.kind=3\/r.s.kind=5\/r.s.kind=8\/r.s.kind=9)\/(r.s.kind=0\/10<=r.s.kind):=Z;rcases k0 with b|b|b|b|b
 .have a3:=a1.o.tg Z Z Z Z;have c1:D (AK P y r.tg):=Bj a0 a3;have d8:r.tg<16400:=Gw H.o a0 a3;have a6:D (¬AR r):=fun q=>by unfold AR at q;omega
  have h0:=H.o.lp;obtain⟨ka,d2⟩:=(B.o.r.d0 r.tg 0 (.inl rfl)).2 c1.o;have hg:∃X,X<19200/\(least P).I r.tg X/\((r.s.kind=1/\pN r.s.cA 0=X/\1<=r.s.cA/\r.s.cA<=y)\/(r.s.kind=2/\r.sr=X/\r.s.cC<=4001)\/(r.s.kind=4/\fN r.s.cC=X/\r.s.cC<P.length)):=by
   rcases b with b|b|b
   .have f3:=(H.o.dF r.f a0 r.s HP.o.2).1 b;exact⟨_,by unfold pN;omega,a5.o.1 b,.inl ⟨b,rfl,f3⟩⟩
   .have a4:=a1.o.sr Z;exact⟨_,Nat.lt_trans (Gw H.o a0 a4) T,a5.o.2.1 b,.inr (.inl ⟨b,rfl,Z⟩)⟩
   .have c3:=a1.o.func (.inl b);exact⟨_,by unfold fN;omega,a5.o.2.2.1 b,.inr (.inr ⟨b,rfl,c3⟩)⟩
  clear b;obtain⟨X,lX,hI,hX⟩:=hg;have e5:=J hI;have e1:D (∀S:Sy,S.I r.tg X->KL P r S):=fun S hS=>by
   rcases hX with⟨q,e,_⟩|⟨q,e,_⟩|⟨q,e,_⟩<;>subst e
   .exact⟨fun _=>hS,fun z=>Z,fun z=>Z,fun z=>Z,fun z=>Z⟩
   .exact⟨fun z=>Z,fun _=>hS,fun z=>Z,fun z=>Z,fun z=>Z⟩
   .exact⟨fun z=>Z,fun z=>Z,fun _=>hS,fun z=>Z,fun z=>Z⟩
  clear hI;have hg:((((r.s.kind:Nat):Int)==1)=true/\pN r.s.cA 0=X/\1<=r.s.cA/\r.s.cA<=y)\/((((r.s.kind:Nat):Int)==1)=false/\(((r.s.kind:Nat):Int)==2)=true/\r.sr=X/\r.s.cC<=4001)\/((((r.s.kind:Nat):Int)==1)=false/\(((r.s.kind:Nat):Int)==2)=false/\(((r.s.kind:Nat):Int)==4)=true/\fN r.s.cC=X/\r.s.cC<P.length):=by
   rcases hX with⟨q,e⟩|⟨q,e⟩|⟨q,e⟩<;>rw[q]
   .exact .inl ⟨rfl,e⟩
   .exact .inr (.inl ⟨rfl,rfl,e⟩)
   .exact .inr (.inr ⟨rfl,rfl,rfl,e⟩)
  clear hX;rcases hg with⟨k1,hX,d5,h4⟩|⟨k1,k2,hX,d5⟩|⟨k1,k2,k4,hX,d5⟩
  all_goals
   have c2:=J hX;clear hX;go_wp2_with fail;go_region_held3(fun f=>f.cell? ⟨w.heap.size,0,none⟩=some (.int .i64 r.f)/\f.cell? ⟨w.heap.size,1,none⟩=some (.int .i64 r.s.kind)/\f.cell? ⟨w.heap.size,2,none⟩=some (.int .i64 r.s.cO)/\f.cell? ⟨w.heap.size,3,none⟩=some (.int .i64 r.s.cC)/\f.cell? ⟨w.heap.size,4,none⟩=some (.int .i64 r.s.field)/\f.cell? ⟨w.heap.size,5,none⟩=some (.int .i64 r.s.cA)/\f.cell? ⟨w.heap.size,6,none⟩=some (.slice n r.s.args.length p)/\f.cell? ⟨w.heap.size,7,none⟩=some (.int .i64 r.s.next)/\f.cell? ⟨w.heap.size,8,none⟩=some (.int .i64 r.s.taken)) (go_keep)
    (first
      |(go_at_call 121;refine(DB r (.slice n r.s.args.length p) _ Z Z).mono ?_;rintro e w3 ⟨rfl,F⟩;have m:=J (O.trans (X:=kD) (a:=s) jV F);clear F;obtain⟨L,M,N,Q,R,U,V,Y,r8⟩:=HC.o w3 (m.o.mono fun _ _ q=>q.elim))
      |(go_at_call 85;refine(Jv r.s.cA 0 _ Z Z Z).mono ?_;rw[c2.o];rintro e f ⟨rfl,hw⟩;have hw:=hw.symm;subst hw)
      |(go_at_call 122;refine(EI r (.slice n r.s.args.length p) _ Z Z).mono ?_;rw[c2.o];rintro e w4 ⟨rfl,o4⟩;have m:=J (m.o.trans o4);clear o4;obtain⟨L,M,N,Q,R,U,V,Y,r8⟩:=HC.o w4 (m.o.mono fun _ _ q=>q.elim))
      |(go_at_call 123;refine(VY r.s.cC _ Z).mono ?_;rw[c2.o];rintro e f ⟨rfl,hw⟩;have hw:=hw.symm;subst hw)
      |(go_at_call 120;refine(Jj P l fv mn y K o v G r.tg ka fb _ (B.o.s9 O5.o).r d2 SF.o Z (fun q=>by have:=(B.o.s9 m.o).r.ownLt (k:=ka) (.inr (.inr (.inl ⟨0,_,d2⟩)));omega)).mono ?_;rintro e E ⟨rfl,o6,s6⟩;have SS:=J s6;clear s6;obtain⟨L,M,N,Q,R,U,V,Y,r8⟩:=HC.o E ((O5.o.mono (fun _ _ q=>q.elim)).trans SS.o.on))
      |(go_at_call 88;refine(Kf X _ Z).mono ?_;rintro e G ⟨fb,rfl,g7,sf,o5⟩;have O5:=J (m.o.trans o5);have SF:=J sf;clear o5 sf;obtain⟨L,M,N,Q,R,U,V,Y,r8⟩:=HC.o G (O5.o.mono fun _ _ q=>q.elim)))
   all_goals
    have HX:D (Bg P l fv mn y K o v w E r):=Nx.bg (O1.o.trans O5.o) ⟨o6,_,SS.o,Sv.give_up v _ _,fun X' q=>q.give (fun t ht=>by rw[ht];exact e5.o),e1.o _ (.inr ⟨rfl,rfl⟩)⟩ a6.o;go_wp2_with fail;go_end0;exact⟨rfl,HX.o⟩
 .have k1:(((r.s.kind:Nat):Int)==1)=false:=by rw[b];rfl
  have k2:(((r.s.kind:Nat):Int)==2)=false:=by rw[b];rfl
  have k4:(((r.s.kind:Nat):Int)==4)=false:=by rw[b];rfl
  have k6:(((r.s.kind:Nat):Int)==6)=true:=by rw[b];rfl
  have a3:=a1.o.tg (by rw[b];decide) (by rw[b];decide) (by rw[b];decide) (by rw[b];decide);have c1:D (AK P y r.tg):=Bj a0 a3;have d8:r.tg<16400:=Gw H.o a0 a3;have a4:=a1.o.sr Z;have e2:D (AK P y r.sr):=Bj a0 a4;have g1:r.sr<16400:=Gw H.o a0 a4;have a6:D (¬AR r):=fun q=>by unfold AR at q;omega
  have I:=J b;clear b;go_wp2_with fail;go_region_held3(fun f=>f.cell? ⟨w.heap.size,0,none⟩=some (.int .i64 r.f)/\f.cell? ⟨w.heap.size,1,none⟩=some (.int .i64 r.s.kind)/\f.cell? ⟨w.heap.size,2,none⟩=some (.int .i64 r.s.cO)/\f.cell? ⟨w.heap.size,3,none⟩=some (.int .i64 r.s.cC)/\f.cell? ⟨w.heap.size,4,none⟩=some (.int .i64 r.s.field)/\f.cell? ⟨w.heap.size,5,none⟩=some (.int .i64 r.s.cA)/\f.cell? ⟨w.heap.size,6,none⟩=some (.slice n r.s.args.length p)/\f.cell? ⟨w.heap.size,7,none⟩=some (.int .i64 r.s.next)/\f.cell? ⟨w.heap.size,8,none⟩=some (.int .i64 r.s.taken)) (go_keep)
   (first
     |(go_at_call 122;refine(EI r (.slice n r.s.args.length p) _ Z Z).mono ?_;rintro e w3 ⟨rfl,F⟩;have m:=J (O.trans (X:=kD) (a:=s) jV F);clear F;obtain⟨L,M,N,Q,R,U,V,Y,r8⟩:=HC.o w3 (m.o.mono fun _ _ q=>q.elim))
     |(go_at_call 121;refine(DB r (.slice n r.s.args.length p) _ Z Z).mono ?_;rintro e w4 ⟨rfl,o4⟩;have O5:=J (m.o.trans o4);clear o4;obtain⟨L,M,N,Q,R,U,V,Y,r8⟩:=HC.o w4 (O5.o.mono fun _ _ q=>q.elim))
     |(go_at_call 124;refine(GO P l fv mn y K o v w4 r.sr r.tg (B.o.s9 O5.o).r e2.o c1.o g1 d8 (a5.o.2.2.2.1 I.o)).mono ?_;rintro e E ⟨rfl,o6,v6,s6,u6,i6,q6⟩;have SS:=J s6;have UU:=J (And.intro u6 (And.intro i6 q6));clear s6 u6 i6 q6;obtain⟨L,M,N,Q,R,U,V,Y,r8⟩:=HC.o E ((O5.o.mono (fun _ _ q=>q.elim)).trans SS.o.on)))
  all_goals
   have HX:D (Bg P l fv mn y K o v w E r):=Nx.bg (O1.o.trans O5.o) ⟨o6,v6,SS.o,UU.o.1,UU.o.2.1,⟨fun q=>jO (I.o.symm.trans q) T,fun q=>jO (I.o.symm.trans q) T,fun q=>jO (I.o.symm.trans q) T,fun _=>UU.o.2.2,fun q=>jO (I.o.symm.trans q) T⟩⟩ a6.o;go_wp2_with fail;go_end0;exact⟨rfl,HX.o⟩
 .have k1:(((r.s.kind:Nat):Int)==1)=false:=by rw[b];rfl
  have k2:(((r.s.kind:Nat):Int)==2)=false:=by rw[b];rfl
  have k4:(((r.s.kind:Nat):Int)==4)=false:=by rw[b];rfl
  have k6:(((r.s.kind:Nat):Int)==6)=false:=by rw[b];rfl
  have k7:(((r.s.kind:Nat):Int)==7)=true:=by rw[b];rfl
  have hR:=H.o.rl HP.o (by rw[b];decide) (by rw[b];decide) (by rw[b];decide) (by rw[b];decide);have c3:=a1.o.func (.inr b);have h2:=a1.o.many b;have h5:=H.o.ok.dX r.s.cC;have HR:=J hR;clear hR;have a6:D (¬AR r):=fun q=>by unfold AR at q;omega
  have I:=J b;clear b;go_wp2_with fail;refine(Pe P l fv mn y K o v s H.o B.o r r.s.cC (.slice n r.s.args.length p) HI.o HR.o c3 Z (a5.o.2.2.2.2 I.o)).mono ?_;rintro e E ⟨rfl,o6,v6,s6,u6,i6,q6⟩;have HX:D (Bg P l fv mn y K o v w E r):=Nx.bg O1.o ⟨o6,v6,s6,u6,i6,⟨fun q=>jO (I.o.symm.trans q) T,fun q=>jO (I.o.symm.trans q) T,fun q=>jO (I.o.symm.trans q) T,fun q=>jO (I.o.symm.trans q) T,fun _=>q6⟩⟩ a6.o;clear s6 u6 i6 q6;go_wp2_with fail;go_end0;exact⟨rfl,HX.o⟩
 .have k1:(((r.s.kind:Nat):Int)==1)=false:=jX;have k2:(((r.s.kind:Nat):Int)==2)=false:=jX;have k4:(((r.s.kind:Nat):Int)==4)=false:=jX;have k6:(((r.s.kind:Nat):Int)==6)=false:=jX;have k7:(((r.s.kind:Nat):Int)==7)=false:=jX;have c9:AR r:=by unfold AR;omega
  have e3:=J c9;obtain⟨C,hC⟩:∃C,r.at=C:=⟨_,rfl⟩;have hK:(r.s.kind≠9/\r.sr=C/\r.s.cC<=4001/\C<16400)\/(r.s.kind=9/\r.tg=C/\r.s.cO<=4001/\C<16400):=by
   unfold Rl.at at hC;by_cases h9:r.s.kind=9
   .rw[jH h9]at hC;have a3:=a1.o.tg (by rw[h9];decide) (by rw[h9];decide) (by rw[h9];decide) (by rw[h9];decide);exact .inr ⟨h9,hC,Z,by rw[<-hC];exact Gw H.o a0 a3⟩
   .rw[jG h9]at hC;have a4:=a1.o.sr Z;exact .inl ⟨h9,hC,Z,by rw[<-hC];exact Gw H.o a0 a4⟩
  have g6:C<16400:=by rcases hK with q|q;exact q.2.2.2;exact q.2.2.2
  have d9:=J hC;clear c9 hC;have c6:D (∀d,O kD s d->(Instr.lookup 118 (.map (some (o.om 5))) (.int .i64 C) false).run prog d=.ok (JM o C) d):=fun d h3=>by
   have q:=(B.o.s9 h3).r.fm.look W7 underlying118 (QB d) (k:=C) Z false;unfold JM;cases hq:o.fw C with
   |none=>exact q.1 hq
   |some t=>exact q.2 t hq
  obtain⟨cs,a8,f0,c4⟩:=B.o.r.fwAt C;have g9:=e6.o C;have e7:=J a8;have g2:=J c4;have d6:∀k,(JM o C).ownBlock=some k->o.own l k/\k≠l:=fun k b=>by
   refine⟨?_,Am a8 B.o.r.bY T k b⟩;unfold JM at b;cases hc:o.fw C with
   |none=>rw[hc]at b;cases b
   |some t0=>rw[hc]at b;unfold Ic at b;cases b;exact .inr (.inr (.inr ⟨C,t0,hc,rfl⟩))
  have d0:∀(Wc:World) (g a2:Nat) (G:World),O kD s Wc->Wc.grownBy G (JM o C).ownBlock->((JM o C).ownBlock=some g\/g=Wc.heap.size)->G.ownsRow 0 192 9 (.slice (some ⟨g,0,none⟩) ((o.rl C).length+1) a2) ((o.rl C).length+1) (cs.flatten++YD r (.slice n r.s.args.length p))->
   ∃E,(Instr.mapUpdate 118 (.map (some (o.om 5))) (.int .i64 C) (Ic (g,(o.rl C).length+1,a2))).run prog G=.ok () E/\Bg P l fv mn y K o v w E r/\O (fun k=>o.own l k/\k≠l) s G/\O (fun k=>o.own l k/\k≠l) s E:=fun Wc g a2 G hc hg hl b9=>by
   have g5:O (fun k=>(JM o C).ownBlock=some k) s G:=O.grown (hc.mono (fun _ _ q=>q.elim)) hg (fun j hj=>.inl hj);have f2:=B.o.r.fm.d8 g5 (fun q=>by obtain⟨g3,e⟩:=Dw a8 _ q;exact B.o.r.fm.ne e rfl);obtain⟨E,h6,m6,o6⟩:=f2.put W7 underlying118 (k:=C) (a:=(g,(o.rl C).length+1,a2)) Z trivial;have y5:O (fun k=>o.own l k/\k≠l) s G:=g5.mono fun k _ q=>d6 k q
   have n5:o.om 5≠l:=by obtain⟨_,_,e⟩:=B.o.r.fm.isMap;exact(B.o.r.dI e).1
   refine⟨E,h6,Bg.from O1.o (B.o.r.waitB (t:=(g,(o.rl C).length+1,a2)) hc d9.o e3.o (Ac a8 hc (fun _ _ q=>q)) f0 (fun i q q'=>?_) (Ac HI.o hc (fun _ _ q=>q)) hg (hl.imp id fun q=>by have:=hc.size;dsimp only;omega) b9 m6 o6),y5,y5.thn o6 fun k _ q=>by rw[q];exact⟨.inr (.inl ⟨5,Z,rfl⟩),n5⟩⟩;obtain⟨u,e,hr⟩:=c4 i q q';exact⟨u,e,Ac hr hc (fun _ _ q=>q)⟩
  have e4:=J d0;clear a8 c4 d6 d0;have hg:(D (∀d,Calls prog 122 #[.agg (KC r (.slice n r.s.args.length p))] d fun e f=>e=.returned (.int .i64 C)/\O kD d f)/\((((r.s.kind:Nat):Int)==3)=true\/(((r.s.kind:Nat):Int)==3)=false/\(((r.s.kind:Nat):Int)==5)=true\/(((r.s.kind:Nat):Int)==3)=false/\(((r.s.kind:Nat):Int)==5)=false/\(((r.s.kind:Nat):Int)==8)=true))\/(D (∀d,Calls prog 121 #[.agg (KC r (.slice n r.s.args.length p))] d fun e f=>e=.returned (.int .i64 C)/\O kD d f)/\(((r.s.kind:Nat):Int)==3)=false/\(((r.s.kind:Nat):Int)==5)=false/\(((r.s.kind:Nat):Int)==8)=false/\(((r.s.kind:Nat):Int)==9)=true):=by
   rcases hK with⟨h9,hs,hl,_⟩|⟨h9,ht,hl,_⟩
   .exact .inl ⟨fun d=>by rw[<-hs];exact EI r _ d Z hl,jX⟩
   .exact .inr ⟨fun d=>by rw[<-ht];exact DB r _ d Z hl,jX⟩
  clear b hK;rcases hg with⟨c7,k3|⟨k3,k5⟩|⟨k3,k5,k8⟩⟩|⟨c7,k3,k5,k8,k9⟩
  all_goals
   go_wp2_with fail;go_region_held3(fun f=>f.cell? ⟨l,8,none⟩=some (.map (some (o.om 5)))/\f.cell? ⟨w.heap.size,0,none⟩=some (.int .i64 r.f)/\f.cell? ⟨w.heap.size,1,none⟩=some (.int .i64 r.s.kind)/\f.cell? ⟨w.heap.size,2,none⟩=some (.int .i64 r.s.cO)/\f.cell? ⟨w.heap.size,3,none⟩=some (.int .i64 r.s.cC)/\f.cell? ⟨w.heap.size,4,none⟩=some (.int .i64 r.s.field)/\f.cell? ⟨w.heap.size,5,none⟩=some (.int .i64 r.s.cA)/\f.cell? ⟨w.heap.size,6,none⟩=some (.slice n r.s.args.length p)/\f.cell? ⟨w.heap.size,7,none⟩=some (.int .i64 r.s.next)/\f.cell? ⟨w.heap.size,8,none⟩=some (.int .i64 r.s.taken)) (go_keep)
    (first
      |((first|go_at_call 122|go_at_call 121);refine(c7.o _).mono ?_;rintro e w3 ⟨rfl,F⟩;(first|(have m:=J (O.trans ((O.refl kD s).drew) F))|(have m:=J (O.trans ((O.refl kD s).drew.alloc _) F))|(have m:=J (m.o.trans F))|(have m:=J (O.trans (m.o.alloc _) F)));(first|(have a9:D (W s.heap.size (KC r (.slice n r.s.args.length p)) 192 w3):=W.d8 (W.new s.drew _ _) F id)|(have a9:=J (a9.o.d8 F id))|(have a9:=J (W.d8 (W.new _ _ _) F id))|skip);clear F;have L1:=c6.o _ m.o;have L2:=c6.o _ (m.o.alloc (.cells (KC r (.slice n r.s.args.length p)) 192));obtain⟨q8,L,M,N,Q,R,U,V,Y,r8⟩:=c0.o w3 (m.o.mono fun _ _ q=>q.elim))
      |(refine step_append_lies _ rfl _ _ 224 rfl 0 192 i0 (.agg bT) 9 88 underlying224 f1 f8 f9 g0 rfl T (JM o C) (o.rl C).length cs.flatten rfl (Ac e7.o (X:=kD) (by first|exact m.o|exact m.o.alloc _) (fun _ _ q=>q)) _ 1 1 (YD r (.slice n r.s.args.length p)) rfl rfl (by first|exact Pc a9.o|exact Pc (W.new _ _ _)) (fun x hx=>by unfold YD Ki at hx;simp only[iZ,iH,or_false]at hx;rcases hx with rfl|rfl|rfl|rfl|rfl|rfl|rfl|rfl|rfl<;>rfl) T jZ Z (gV _) _ rfl ?_;intro g a2 G b9 d1 d4 h1;have FF:=J (e4.o _ g a2 G (by first|exact m.o|exact m.o.alloc _) d1 d4 b9);obtain⟨E,d7,c8,f6,f7⟩:=FF.o;unfold Ic at d7;dsimp only at d7;have e0:=J c8;clear d1 d4 b9 c8;obtain⟨q8,L,M,N,Q,R,U,V,Y,r8⟩:=c0.o G f6;have S6:=J (c0.o E f7);obtain⟨i2,s0,s1,s2,s3,s4,s5,s6,s7,s8⟩:=S6.o;clear FF S6))
   all_goals
    go_wp2_with fail;go_end0;exact⟨rfl,e0.o⟩
 .have k1:(((r.s.kind:Nat):Int)==1)=false:=jX;have k2:(((r.s.kind:Nat):Int)==2)=false:=jX;have k4:(((r.s.kind:Nat):Int)==4)=false:=jX;have k6:(((r.s.kind:Nat):Int)==6)=false:=jX;have k7:(((r.s.kind:Nat):Int)==7)=false:=jX;have k3:(((r.s.kind:Nat):Int)==3)=false:=jX;have k5:(((r.s.kind:Nat):Int)==5)=false:=jX;have k8:(((r.s.kind:Nat):Int)==8)=false:=jX;have k9:(((r.s.kind:Nat):Int)==9)=false:=jX;have HX:D (Bg P l fv mn y K o v w s r):=Nx.bg O1.o ⟨o,v,⟨B.o.r,fun _ q=>.inl q,rfl,O.refl _ _⟩,.rf _,fun _ q=>q,⟨fun q=>Z,fun q=>Z,fun q=>Z,fun q=>Z,fun q=>Z⟩⟩ (fun q=>by unfold AR at q;omega);clear b;go_wp2_with fail;go_end0;exact⟨rfl,HX.o⟩

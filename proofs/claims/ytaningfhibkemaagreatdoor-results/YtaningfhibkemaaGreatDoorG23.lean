/- Part of the proof: AnI AnJ AnK AnL AnM AnN AnO. -/
import Derived.Test.YtaningfhibkemaaGreatDoorG22
import Derived.Deep.RegionHeld3
set_option maxRecDepth 100000
set_option maxHeartbeats 2000000
namespace Go.Proofs.YtaningfhibkemaaGreatDoor
open Go.RowKit Go.Maps Go.Proofs.Tryz
open Option renaming none->Z,some->T
open Value renaming int->G,slice->Y
open IntKind renaming i64->A
structure Ee(P:List PFn)(sb:Nat)(fv:Value)(mn pn cn:Nat)(o o':So)(v:Sv)(w w':World):Prop where
 r:BN P sb fv mn pn cn o' v w'
 ow:∀k,o'.own sb k->o.own sb k\/w.heap.size<=k
 rl:(o'.rl,o'.fw)=(o.rl,o.fw)
 on:O (o.own sb) w w'
theorem Fl(P:List PFn)(v:Sv)(c:Nat)(a:Nat->Prop)(t i x:Nat):Ch P (v.give c a) t i x↔Ch P v t i x\/(t=0/\i=c/\a x)\/(t=2/\i=c/\a x/\¬v.s.I c x):=by
 by_cases b:t=0
 .subst b;simp[Ch,Sv.give]
 by_cases d:t=2
 .subst d;simp only[Ch,Sv.give,Nat.reduceEqDiff,false_implies,true_and,and_true,forall_const,false_and,false_or];constructor
  .rintro(q|⟨rfl,q⟩)
   .exact .inl q
   .exact .inr ⟨rfl,q⟩
  .rintro(q|⟨rfl,q⟩)
   .exact .inl q
   .exact .inr ⟨rfl,q⟩
 .simp[Ch,Sv.give,b,d]
theorem Js(P d m u z l o v w)(c E S:Nat)(b:Nat->Prop)(h:BN P d m u z l o v w)(p:o.bk 0 c=T E)(ht:Bn S b w)(hc:c<20000)(b3:S≠E):
 Calls prog 120 #[.pointer (T ⟨d,0,Z⟩),G A c,.map (T S)] w fun e w'=>e=.returned (.tuple #[])/\∃o',Ee P d m u z l o o' (v.give c b) w w':=by
 have a7:=(h.st 0 c E p).iff (m':=v.s.I c) fun n=>by simp[Ch]
 obtain⟨p4,p6⟩:=h.cI.e2 4 6;have b8:=Ae h.cI;simp only[Hh,gR,gP,gQ]at p4 p6;have l0:=((h.mp 0 (by omega)).look Eh underlying67 (Cs w) hc false).2 E p;obtain⟨H,HS,HT⟩:=Ax h a7 ht;clear h a7 ht;unfold Hd at l0;go_enter func120,ntmps120;go_wp2_with fail;refine(Hf E S (v.s.I c) b w HS.o HT.o (Ne.symm b3)).mono ?_;rintro e g ⟨f,rfl,hf,sf,s0,o1⟩;obtain⟨M,R⟩:∃M:Sv,M=⟨⟨fun x t=>v.s.I x t\/(x=c/\b t),v.s.F,v.s.E⟩,v.N,v.W⟩:=⟨_,rfl⟩;have Q:∀t i x,Ch P M t i x↔Ch P v t i x\/(t=0/\i=c/\b x):=fun t i x=>by
  rw[R];by_cases h0:t=0
  .subst h0;simp[Ch]
  .simp[Ch,h0]
 have K:BN P d m u z l o M g:=H.o.put (v':=M) p s0 o1 (fun x=>by rw[Q];simp[Ch]) (fun t' i' x q=>by rw[Q];exact⟨fun r=>r.elim id fun r=>jY ⟨r.1,r.2.1⟩ q,.inl⟩) (by rw[R]) (by nofun);have a4:¬o.own d f:=fun q=>by have:=H.o.ownLt q;omega
 have lf:=sf.lt;obtain⟨gf,mf,wf⟩:=sf;obtain⟨n,hn,b6,a3⟩:=mf.len underlying69 3;rw[wf.empty]at a3;have p6:=K.cI.cell 6;have b9:=Ae K.cI;simp only[Hh,gR,gP,gQ]at p6;have L:=(K.mp 2 (by omega)).look Eh underlying67 (Cs g) hc false;have C:=J K;have U:=J a3;have a1:D (Bn f (fun n=>b n/\¬v.s.I c n) g):=⟨gf,mf,wf⟩;have V:D (O (o.own d) w g):=o1.mono fun j _ q=>by rw[q];exact .inr (.inr (.inl ⟨0,c,p⟩))
 have I:=J Q;have a2:=J R;clear K a3 mf wf o1 s0 Q R;by_cases hz:n=0
 .subst hz;have s:BN P d m u z l o (v.give c b) g:=C.o.put (v':=v.give c b) p ((C.o.st 0 c E p).d8 (X:=kJ) (O.refl _ _) id) (O.refl _ _) (fun x=>by
   rw[Fl,I.o];simp[Ch]) (fun t' i' x q=>by
   rw[Fl,I.o];have:=U.o.1 rfl x;constructor
   .rintro(r|r|⟨_,_,r⟩)
    .exact .inl r
    .exact .inr r
    .exact jY r this
   .rintro(r|r)
    .exact .inl r
    .exact .inr (.inl r)) (by rw[a2.o];rfl) (by nofun)
  have HR:=J s;clear s L;go_wp2_with fail;exact gZ (v:=.tuple #[]) (by simp[results,results120,go_sem]) rfl ⟨rfl,o,HR.o,fun _ q=>.inl q,rfl,V.o⟩
 .have b7:((n:Int)==0)=false:=by simp;omega
  have a5:D (∃x,b x/\¬v.s.I c x):=by apply Classical.byContradiction;intro q;exact hz (U.o.2 fun x hx=>q ⟨x,hx⟩)
  clear U hz;cases B:o.bk 2 c with
  |none=>
   have l3:=L.1 B;have b0:(binOp BinOp.eql 69 (.map Z) (.map Z)).run prog g=.ok (.bool true) g:=by rfl
   clear L;obtain⟨N,b4,m2,y⟩:=(C.o.mp 2 (by omega)).put Eh underlying67 (k:=c) (a:=f) hc trivial;unfold Hd at b4;have b1:f≠o.om 2:=fun q=>a4 (.inr (.inl ⟨2,by omega,q⟩))
   have s:BN P d m u z l (o.news c f) (v.give c b) N:=C.o.news (v':=v.give c b) a4 a1.o.isMap (a1.o.d8 y b1) m2 y (fun x=>by
    rw[Fl];simp only[Nat.reduceEqDiff,false_and,false_or,true_and];refine⟨fun q=>q.elim (fun q=>?_) id,.inr⟩;obtain⟨k,a6⟩:=H.o.ins 2 c x (by omega) q;rw[B]at a6;cases a6) (fun t' i' x q=>by
    rw[Fl,I.o];constructor
    .rintro(r|r|⟨r1,r2,_⟩)
     .exact .inl r
     .exact .inr r
     .exact jY ⟨r1,r2⟩ q
    .rintro(r|r)
     .exact .inl r
     .exact .inr (.inl r)) (by rw[a2.o];rfl) a5.o
   have a0:D (Ee P d m u z l o (o.news c f) (v.give c b) w N):=by
    refine⟨s,fun k p=>?_,rfl,V.o.thn y (fun j _ q=>by rw[q];exact .inr (.inl ⟨2,by omega,rfl⟩))⟩;rcases p with q|q|⟨t,i,q⟩|q
    .exact .inl (.inl q)
    .exact .inl (.inr (.inl q))
    .unfold So.news at q;dsimp only at q;split at q
     .split at q
      .cases q;exact .inr hf
      .exact .inl (.inr (.inr (.inl ⟨2,i,q⟩)))
     .exact .inl (.inr (.inr (.inl ⟨t,i,q⟩)))
    .exact .inl (.inr (.inr (.inr q)))
   clear s m2 y;go_wp2_with fail;exact gZ (v:=.tuple #[]) (by simp[results,results120,go_sem]) rfl ⟨rfl,_,a0.o⟩
  |some F=>
   have l3:=L.2 F B;unfold Hd at l3;clear L;have a8:Bn F (v.N c) g:=(C.o.st 2 c F B).iff fun x=>by rw[I.o];simp[Ch]
   have b2:F≠f:=fun q=>a4 (.inr (.inr (.inl ⟨2,c,q▸B⟩)))
   have a0:=J a8;have b0:(binOp BinOp.eql 69 (.map (T F)) (.map Z)).run prog g=.ok (.bool false) g:=by rfl
   clear a8;go_wp2_with fail;refine(Hf F f (v.N c) _ g a0.o a1.o b2).mono ?_;rintro e N ⟨f2,rfl,b5,_,s2,y⟩;have s:BN P d m u z l o (v.give c b) N:=C.o.put (v':=v.give c b) B s2 y (fun x=>by
    rw[Fl];simp[Ch]) (fun t' i' x q=>by
    rw[Fl,I.o];constructor
    .rintro(r|r|⟨r1,r2,_⟩)
     .exact .inl r
     .exact .inr r
     .exact jY ⟨r1,r2⟩ q
    .rintro(r|r)
     .exact .inl r
     .exact .inr (.inl r)) (by rw[a2.o];rfl) (fun _=>by
    obtain⟨x,hx⟩:=a5.o;exact⟨x,.inr hx⟩)
   have a9:D (Ee P d m u z l o o (v.give c b) w N):=⟨s,fun _ q=>.inl q,rfl,V.o.thn y (fun j _ q=>by rw[q];exact .inr (.inr (.inl ⟨2,c,B⟩)))⟩;clear s s2 y;go_wp2_with fail;go_end0;exact⟨rfl,_,a9.o⟩
theorem BN.iff{P l f g j d o v b w}(h:BN P l f g j d o v w)(e:∀t i x,Ch P b t i x↔Ch P v t i x)(m:b.W=v.W):BN P l f g j d o b w:=
 {h with
  st:=fun t i k a=>(h.st t i k a).iff fun n=>(e t i n).symm
  ins:=fun t i x p q=>h.ins t i x p ((e t i x).1 q)
  d2:=fun c k a=>by obtain⟨x,s⟩:=h.d2 c k a;exact⟨x,LJ.1 ((e 2 c x).2 (LJ.2 s))⟩
  fvr:=fun c r=>by rw[m];exact h.fvr c r}
theorem Uh(P b g j l d o v w)(c a:Nat)(h:BN P b g j l d o v w)(m:o.bk 0 c=T a)(E:c<20000):
 Calls prog 120 #[.pointer (T ⟨b,0,Z⟩),G A c,.map (T a)] w fun e Q=>e=.returned (.tuple #[])/\∃K,Ee P b g j l d o K (v.give c (v.s.I c)) w Q:=by
 have s:=(h.st 0 c a m).iff (m':=v.s.I c) fun n=>by simp[Ch]
 have L:=h.cI.cell 4;have a0:=Ae h.cI;simp only[Hh,gR,gP,gQ]at L;have I:=((h.mp 0 (by omega)).look Eh underlying67 (Cs w) E false).2 a m;have H:=J h;have C:=J s;clear h s;unfold Hd at I;go_enter func120,ntmps120;go_wp2_with fail;refine(OD a (v.s.I c) w C.o).mono ?_;rintro e R ⟨f,rfl,U,N,M,k⟩;obtain⟨S,u,y⟩:=N;obtain⟨n,X,V,p⟩:=u.len underlying69 3;have F:n=0:=p.2 (y.empty.2 fun _ q=>q);subst F;have B:D (BN P b g j l d o (v.give c (v.s.I c)) R):=(H.o.s9 k).iff (fun t i x=>by
  rw[Fl];refine⟨?_,.inl⟩;rintro(q|⟨rfl,rfl,q⟩|⟨_,_,q,r⟩)
  .exact q
  .simpa[Ch]using q
  .exact jY q r) rfl
 have z:=J k;clear u y p M k;go_wp2_with fail;exact gZ (v:=.tuple #[]) (by simp[results,results120,go_sem]) rfl ⟨rfl,o,B.o,fun _ q=>.inl q,rfl,z.o.mono fun _ _ q=>q.elim⟩
theorem AM.lt{P a c}(h:AM P a c)(j:P.length<=12)(b:∀f,(As P f).t8.length<=12)(o:a<=4001):c<16400:=by
 rcases h with⟨f,i,l,m,rfl⟩|⟨n,k,d,e,g,rfl⟩
 .have:=b f;unfold vN;omega
 .unfold pN;omega
theorem Ee.trans{P e b c d a o g i p l w m n}(h:Ee P e b c d a o g p w m)(k:Ee P e b c d a g i l m n):Ee P e b c d a o i l w n:=
 ⟨k.r,fun j f=>(k.ow j f).elim (h.ow j) fun q=>.inr (iG h.on.size q),k.rl.trans h.rl,h.on.thn k.on fun j f q=>(h.ow j q).elim id fun r=>jY r (by omega)⟩
def Nx(P:List PFn)(g:Nat)(c:Value)(d f b:Nat)(o:So)(v:Sv)(w h:World)(Q:Sv->Prop):Prop:=
 ∃e a,Ee P g c d f b o e a w h/\v.up a/\(∀X,BQ P X v->BQ P X a)/\Q a
theorem Nx.then{P g c d f b o v w i m}{Q R:Sv->Prop}(h:Nx P g c d f b o v w i Q)(k:∀e a,Ee P g c d f b o e a w i->v.up a->Q a->Nx P g c d f b e a i m R):Nx P g c d f b o v w m R:=by obtain⟨e,a,j,l,n,s⟩:=h;obtain⟨r,y,u,x,p,t⟩:=k e a j l s;exact⟨r,y,j.trans u,l.tr x,fun X q=>p X (n X q),t⟩
theorem Jm(P:List PFn)(v:Sv)(a b t i x:Nat):Ch P (v.edge a b) t i x↔Ch P v t i x\/(t=3/\i=a/\x=b):=by
 by_cases c:t=3
 .subst c;simp[Ch,Sv.edge]
 .simp[Ch,Sv.edge,c]
theorem GY(P c m s d l o v w)(a b:Nat)(h:BN P c m s d l o v w)(N:AM P d a)(hb:AM P d b)(la:a<16400)(lb:b<16400)(hF:(least P).F a b):
 Calls prog 124 #[.pointer (T ⟨c,0,Z⟩),G A a,G A b] w fun e K=>e=.returned (.tuple #[])/\Nx P c m s d l o v w K (fun u=>u.s.F a b):=by
 obtain⟨F,B⟩:=(h.d0 a 3 (.inr rfl)).2 N;obtain⟨p,z⟩:=(h.d0 a 0 (.inl rfl)).2 N;obtain⟨kb,R⟩:=(h.d0 b 0 (.inl rfl)).2 hb;have p7:=h.cI.cell 7;have a1:=Ae h.cI;simp only[Hh,gR,gP,gQ]at p7;have l3:=((h.mp 3 (by omega)).look Eh underlying67 (Cs w) (k:=a) (by omega) false).2 F B;have V:=(h.st 3 a F B).iff (m':=v.s.F a) fun n=>by simp[Ch]
 unfold Hd at l3;obtain⟨H,L,HF⟩:=Ax h V hF;clear h V hF;go_enter func124,ntmps124;go_wp2_with fail;refine(Gp F (v.s.F a) b w L.o (by omega)).mono ?_;rintro e f ⟨r,rfl,S,s1,I⟩;have U:BN P c m s d l o (v.edge a b) f:=H.o.put (v':=v.edge a b) B s1 I (fun x=>by rw[Jm];simp[Ch]) (fun t' i' x q=>by rw[Jm];exact⟨fun r=>r.elim id fun r=>jY ⟨r.1,r.2.1⟩ q,.inl⟩) rfl (by nofun)
 have C:D (O (o.own c) w f):=I.mono fun j _ q=>by rw[q];exact .inr (.inr (.inl ⟨3,a,B⟩))
 have g:=J U;have HR:=J S;clear S U s1 I L;cases r with
 |false=>
  have Q:v.s.F a b:=by apply Classical.byContradiction;intro q;have:=HR.o.2 q;cases this
  have E:D (Nx P c m s d l o v w f (fun u=>u.s.F a b)):=⟨o,v,⟨g.o.iff (fun t i x=>by
   rw[Jm];refine⟨.inl,?_⟩;rintro(q|⟨rfl,rfl,rfl⟩)
   .exact q
   .simpa[Ch]using Q) rfl,fun _ q=>.inl q,rfl,C.o⟩,.rf _,fun _ q=>q,Q⟩
  go_wp2_with fail;go_end0;exact⟨rfl,E.o⟩
 |true=>
  have p4:=g.o.cI.cell 4;have a2:=Ae g.o.cI;simp only[Hh,gR,gP,gQ]at p4;have l4:=((g.o.mp 0 (by omega)).look Eh underlying67 (Cs f) (k:=a) (by omega) false).2 p z;unfold Hd at l4;have sa:Bn p (v.s.I a) f:=(g.o.st 0 a p z).iff fun x=>by rw[Jm];simp[Ch]
  have SA:=J sa;clear sa;have M:Calls prog 120 #[.pointer (T ⟨c,0,Z⟩),G A b,.map (T p)] f fun e K=>e=.returned (.tuple #[])/\∃o',Ee P c m s d l o o' (v.flow a b) f K:=by
   by_cases e:p=kb
   .have a0:a=b:=(g.o.dj 0 a 0 b p z (e▸R)).2;subst a0;exact Uh P c m s d l o (v.edge a a) f a p g.o z (by omega)
   .exact Js P c m s d l o (v.edge a b) f b kb p (v.s.I a) g.o R SA.o (by omega) e
  have GV:=J M;clear M;go_wp2_with fail;refine GV.o.mono ?_;rintro e w2 ⟨rfl,o2,y⟩;have E:D (Nx P c m s d l o v w w2 (fun u=>u.s.F a b)):=⟨o2,v.flow a b,⟨y.r,fun k hk=>(y.ow k hk).imp id fun q=>iG C.o.size q,y.rl,C.o.trans y.on⟩,Sv.flow_up v a b,fun X q=>q.flow HF.o,Sv.flow_F v a b⟩;clear y;go_wp2_with fail;go_end0;exact⟨rfl,E.o⟩
structure AnOk(P:List PFn)(pn cn:Nat):Prop where
 ok:Oa P
 dC:P.length<=12
 lp:pn<=4001
 lc:cn<=4001
 dQ:∀i,i<P.length->∀s,s∈(As P i).r9->(s.kind=1->1<=s.cK/\s.cK<=pn)/\(s.kind=8->1<=s.cK/\s.cK<=cn)/\s.field<=3
structure Ed(P:List PFn)(sb:Nat)(fv:Value)(mn pn cn:Nat)(o:So)(v:Sv)(w:World):Prop where
 r:BN P sb fv mn pn cn o v w
 pl:Bx 0 w fv P
 tb:JZ w
 tl:0<w.heap.size
 tn:¬o.own sb 0
theorem BN.noPlan{P a c e f b o v w}(h:BN P a c e f b o v w):N7 (o.own a) w:=fun k g t i d q=>by refine⟨?_,?_,?_,?_⟩<;>rintro rfl<;>exact h.noCells d (by decide) (by decide) q
theorem Ed.next{P e b c d a o f v g w i}(h:Ed P e b c d a o v w)(k:Ee P e b c d a o f g w i):Ed P e b c d a f g i:=
 ⟨k.r,h.pl.d8 k.on h.r.noPlan,h.tb.d8 k.on h.tn h.tl,iI h.tl k.on.size,fun q=>(k.ow _ q).elim h.tn fun q=>by have:=h.tl;omega⟩
theorem Ed.s9{P e b c d a o v w f}(h:Ed P e b c d a o v w)(k:O kJ w f):Ed P e b c d a o v f:=
 ⟨h.r.s9 k,h.pl.s9 k,h.tb.d8 k id h.tl,iI h.tl k.size,h.tn⟩
theorem Ee.s9{P f b c e a o d g w i w2}(h:Ee P f b c e a o d g w i)(k:O kJ i w2):Ee P f b c e a o d g w w2:=
 ⟨h.r.s9 k,h.ow,h.rl,h.on.dM k⟩
theorem BN.ints{P b e i m d o v w c B a l}(h:BN P b e i m d o v w)(k:Ay B w a l)(g:O (o.own b) w c):Ay B c a l:=
 Ai k g fun j n p f=>h.noCells f (by decide) (by decide)
abbrev KM(r:Rl)(a:Value):Array Value:=#[G A r.f,G A r.s.kind,G A r.s.cY,G A r.s.cM,G A r.s.field,G A r.s.cK,a,G A r.s.next,G A r.s.taken]
structure Ya(P:List PFn)(r:Rl):Prop where
 f:r.f<P.length
 tg:r.s.cY<(As P r.f).t8.length
 ar:∀a,a∈r.s.args->a<(As P r.f).t8.length
 n:r.s.args.length<=4000
theorem Bm{P c f i}(a:f<P.length)(b:i<(As P f).t8.length):AM P c (vN f i):=.inl ⟨f,i,a,b,rfl⟩
theorem GG{P:List PFn}{c b f i}(a:AnOk P c b)(d:f<P.length)(e:i<(As P f).t8.length):vN f i<16400:=by have:=a.dC;have:=a.ok.t8 f;unfold vN;omega
theorem Fu(f i:Nat)(w:World)(b:f<=4001)(c:i<=4001):
 Calls prog 119 #[G A f,G A i] w fun e a=>e=.returned (G A (vN f i))/\a=w:=by
 have e:((vN f i:Nat):Int)=(f:Int)*12+(i:Int):=by unfold vN;omega
 go_enter func119,ntmps119;go_wp2;go_ret;exact⟨by rw[e];rfl,rfl⟩
theorem DI(r:Rl)(c:Value)(w:World)(d:r.f<=4001)(f:r.s.cY<=4001):
 Calls prog 121 #[.agg (KM r c)] w fun e b=>e=.returned (G A r.tg)/\O kJ w b:=by
 go_enter func121,ntmps121;go_wp2_with(first|(go_at_call 119;refine(Fu r.f r.s.cY _ d f).mono ?_;rintro e b ⟨rfl,a⟩;have a:=a.symm;subst a));go_ret;exact⟨rfl,(by repeat first|exact BI _ _|apply BG|apply BH|apply BE)⟩
theorem ES(r:Rl)(c:Value)(w:World)(d:r.f<=4001)(f:r.s.cM<=4001):
 Calls prog 122 #[.agg (KM r c)] w fun e b=>e=.returned (G A r.sr)/\O kJ w b:=by
 go_enter func122,ntmps122;go_wp2_with(first|(go_at_call 119;refine(Fu r.f r.s.cM _ d f).mono ?_;rintro e b ⟨rfl,a⟩;have a:=a.symm;subst a));go_ret;exact⟨rfl,(by repeat first|exact BI _ _|apply BG|apply BH|apply BE)⟩
theorem Pp(P f y B b t o v w)(a3:AnOk P b t)(h:Ed P f y B b t o v w)(r:Rl)(g:Nat)(av:Value)(hi:Ay 0 w av r.s.args)(hr:Ya P r)(M:g<P.length)(hn:r.s.args.length<=(As P g).t8.length)(hL:Ds P r g (least P)):
 Calls prog 125 #[.pointer (T ⟨f,0,Z⟩),.agg (KM r av),G A g] w fun e w'=>e=.returned (.tuple #[])/\Nx P f y B b t o v w w' (fun v'=>Ds P r g v'.s):=by
 obtain⟨V,al,ac,rfl⟩:=Ad hi;have e2:=Ag hi;subst e2;have c:O kJ w (w.alloc (.cells (KM r (Y V r.s.args.length ac)) 192)):=(O.refl _ w).alloc _;have c4:=W.new w (KM r (Y V r.s.args.length ac)) 192;have hE:=h.s9 c;have hI:=Ac hi c (fun _ _ q=>q);have c7:¬o.own f w.heap.size:=fun q=>by have:=h.r.ownLt q;omega
 have f2:(w.alloc (.cells (KM r (Y V r.s.args.length ac)) 192)).heap.size=w.heap.size+1:=by simp
 have e9:=a3.dC;have hf:=hr.f;have f5:=hr.n;obtain⟨F,HL,HR⟩:=Ax a3 hL hr;clear h hi a3 hL hr;go_enter func125,ntmps125;go_wp2_with fail;generalize w.alloc (.cells (KM r (Y V r.s.args.length ac)) 192)=a6 at*;have S0:D (Ee P f y B b t o o v a6 a6):=⟨hE.r,fun _ q=>.inl q,rfl,O.refl _ _⟩;obtain⟨HE,HI,HB,O1⟩:=Ba hE hI c4 c;clear hE hI c4 c;generalize w.heap.size=rb at*;go_loopw[14] (fun i wr=>∃(k:Nat) (c:So) (m:Sv),k<=r.s.args.length/\i=G A k/\D (Ee P f y B b t o c m a6 wr)/\D (v.up m/\(∀X,BQ P X v->BQ P X m)/\∀j a,j<k->r.s.args[j]? =T a->m.s.F (vN r.f a) (vN g j))) (fun i _=>r.s.args.length-(intOf i).toNat)
 case atStart=>exact⟨0,o,v,by omega,rfl,S0,⟨.rf _,fun _ q=>q,fun j a q=>by omega⟩⟩
 case round=>
  clear S0;obtain⟨k,c,m,hk,rfl,C,H⟩:=hrel;have z:=HE.o.next C.o;have e5:¬c.own f rb:=fun q=>(C.o.ow _ q).elim c7 fun q=>by omega
  have S:=HB.o.d8 C.o.on c7;have b0:=S.cell 0;simp only[gR,gP]at b0;have f6:=Ae S;by_cases I:k<r.s.args.length
  .have a0:=HE.o.r.ints HI.o C.o.on;obtain⟨gl,rfl⟩:=Ap a0 (by omega);have U:=a0.cellAt k (by omega);rw[iV,gV I]at U;simp only[Option.map_some]at U;have e6:=(a0.lt gl rfl).2;have c3:=HR.o.ar r.s.args[k] (iA _);have h1:AM P b (vN r.f r.s.args[k]):=Bm hf c3;have h2:AM P b (vN g k):=Bm M (by omega);have h3:=GG F.o hf c3;have h4:vN g k<16400:=GG F.o M (by omega);have R:=HL.o.1 k _ (gV I);have e1:=F.o.ok.t8 r.f;have a8:(k:Int)<(r.s.args.length:Int):=by omega
   have HG:=J (gV I);obtain⟨d3,d4,a4,Q⟩:=Ba h1 h2 R z;clear a0 h1 h2 R z S;generalize r.s.args[k]=x at*;go_wp2_with(first|(go_at_call 119;first|(refine(Fu r.f x _ (by omega) (by omega)).mono ?_;rintro e w' ⟨rfl,K⟩;have K:=K.symm;subst K)|(refine(Fu g k _ (by omega) (by omega)).mono ?_;rintro e w' ⟨rfl,K⟩;have K:=K.symm;subst K)));refine(GY P f y B b t c m wr _ _ Q.o.r d3.o d4.o h3 h4 a4.o).mono ?_;rintro e w2 ⟨rfl,d,n,s2,u2,i2,q2⟩;have E:=J (C.o.trans s2);have p:D (v.up n/\(∀X,BQ P X v->BQ P X n)/\∀j a,j<k+1->r.s.args[j]? =T a->n.s.F (vN r.f a) (vN g j)):=⟨H.o.1.tr u2,fun X q=>i2 X (H.o.2.1 X q),fun j a N u=>by
    by_cases e:j=k
    .subst e;rw[HG.o]at u;cases u;exact q2
    .exact u2.le.s.f _ _ (H.o.2.2 j a (by omega) u)⟩
   clear s2 u2 i2 q2 H C;go_wp2_with fail;go_roundw
   case rel=>exact⟨k+1,d,n,by omega,by go_num,E,p⟩
   case measure=>simp[intOf];omega
  .have e:k=r.s.args.length:=by omega
   subst e;have a8:decide ((r.s.args.length:Int)<(r.s.args.length:Int))=false:=by simp
   have p9:=z.r.cI.cell 9;have f8:=Ae z.r.cI;simp only[Hh,gR,gP,gQ]at p9;obtain⟨kr,c5⟩:=(z.r.d4 g).2 M;have l9:=((z.r.mp 4 (by omega)).look Eh underlying67 (Cs wr) (k:=g) (by omega) false).2 kr c5;unfold Hd at l9;have c8:Bn kr (Fq P g) wr:=(z.r.st 4 g kr c5).iff fun x=>by simp[Ch]
   obtain⟨c0,Q,d1⟩:=Ax c8 z S;clear c8 z S;go_wp2_with fail;refine(DZ kr (Fq P g) wr c0.o Q.o.tb Q.o.tl).mono ?_;rintro e w2 ⟨nv,l,rfl,a2,c6,a9,d⟩;obtain⟨na,nl,nc,rfl⟩:=Ad a2;have e4:=Ag a2;subst e4;obtain⟨a5,d2,d7⟩:=Ax (Q.o.s9 d) (d1.o.d8 d id) (Aq a2 (iF _));have f1:l.length<=19200:=DQ 19200 l c6 fun x L=>by obtain⟨_,_,e8⟩:=c0.o;exact e8.lt ((a9 x).1 L)
   have HM:=J a9;have d8:=J d;have f4:=C.o.on.size;have f3:=d.size;have SW:D (Ee P f y B b t c c m w2 w2):=⟨a5.o.r,fun _ q=>.inl q,rfl,O.refl _ _⟩;have c9:=HR.o.tg;have e1:=F.o.ok.t8 r.f;have d5:D (AM P b r.tg):=Bm hf c9;have e7:r.tg<16400:=GG F.o hf c9;clear a2 c6 a9 d;go_wp2_with fail;go_loopw[37] (fun i wr=>∃(k:Nat) (d:So) (n:Sv),k<=l.length/\i=G A k/\D (Ee P f y B b t c d n w2 wr)/\D (m.up n/\(∀X,BQ P X m->BQ P X n)/\∀j x,j<k->l[j]? =T x->n.s.F x r.tg)) (fun i _=>l.length-(intOf i).toNat)
   case atStart=>exact⟨0,c,m,by omega,rfl,SW,⟨.rf _,fun _ q=>q,fun j a q=>by omega⟩⟩
   case round=>
    clear SW;obtain⟨k,d,n,hk,rfl,E,p⟩:=hrel;have c2:=a5.o.next E.o;have a7:=d2.o.d8 E.o.on e5;by_cases I:k<l.length
    .have a1:=a5.o.r.ints d7.o E.o.on;obtain⟨gl,rfl⟩:=Ap a1 (by omega);have U:=a1.cellAt k (by omega);rw[iV,gV I]at U;simp only[Option.map_some]at U;have e6:=(a1.lt gl rfl).2;have e3:k+1<=l.length:=I;have L:=(HM.o l[k]).1 (iA _);have R:=HL.o.2 _ L;have d0:AM P b l[k]/\l[k]<16400:=by obtain⟨s,hs,f0,e⟩:=L;have:=(F.o.ok.ok g M s hs).sr (by omega);rw[e];exact⟨Bm M this,GG F.o M this⟩
     have a8:(k:Int)<(l.length:Int):=by omega
     have HG:=J (gV I);obtain⟨c1,a4,d6⟩:=Ax d0 R c2;obtain⟨b0,b1,b2,b3,b4,b5,b6,b7,b8⟩:=a7.e9 0 1 2 3 4 5 6 7 8;have f7:=Ae a7;simp only[gR,gP,gQ]at b0 b1 b2 b3 b4 b5 b6 b7 b8;clear a1 R c2 L d0 a7;generalize l[k]=x at*;go_wp2_with fail;refine(DI r _ wr (by omega) (by omega)).mono ?_;rintro e w3 ⟨rfl,o3⟩;have b9:=J o3;clear o3;go_wp2_with fail;refine(GY P f y B b t d n w3 x r.tg (d6.o.s9 b9.o).r c1.o.1 d5.o c1.o.2 e7 a4.o).mono ?_;rintro e w4 ⟨rfl,o4,v4,s4,u4,i4,q4⟩;have e0:=J ((E.o.s9 b9.o).trans s4);have d9:D (m.up v4/\(∀X,BQ P X m->BQ P X v4)/\∀j x,j<k+1->l[j]? =T x->v4.s.F x r.tg):=⟨p.o.1.tr u4,fun X q=>i4 X (p.o.2.1 X q),fun j a N u=>by
      by_cases e:j=k
      .subst e;rw[HG.o]at u;cases u;exact q4
      .exact u4.le.s.f _ _ (p.o.2.2 j a (by omega) u)⟩
     clear s4 u4 i4 q4 p E;go_wp2_with fail;go_roundw
     case rel=>exact⟨k+1,o4,v4,e3,by go_num,e0,d9⟩
     case measure=>simp[intOf];omega
    .have e:k=l.length:=by omega
     subst e;have a8:decide ((l.length:Int)<(l.length:Int))=false:=by simp
     have HX:D (Nx P f y B b t o v w wr (fun v'=>Ds P r g v'.s)):=by have t1:=(C.o.s9 d8.o).trans E.o;refine⟨d,n,⟨t1.r,fun j N=>(t1.ow j N).imp id fun q=>iG O1.o.size q,t1.rl,(O1.o.mono (fun _ _ q=>q.elim)).trans t1.on⟩,H.o.1.tr p.o.1,fun X q=>p.o.2.1 X (H.o.2.1 X q),fun j a u=>p.o.1.le.s.f _ _ (H.o.2.2 j a (List.getElem?_eq_some_iff.1 u).1 u),fun x L=>?_⟩;obtain⟨j,N,e⟩:=iP.1 ((HM.o x).2 L);exact p.o.2.2 j x N (by rw[gV N,e])
     go_wp2_with fail;go_end0;exact⟨rfl,HX.o⟩
theorem JE(n k:Nat)(w:World)(c:1<=n)(d:n<=4001)(b:k<=4):
 Calls prog 85 #[G A n,G A k] w fun e a=>e=.returned (G A (pN n k))/\a=w:=by
 have e:((pN n k:Nat):Int)=156+((n:Int)-1)*4+(k:Int):=by unfold pN;omega
 go_enter func85,ntmps85;go_wp2;go_ret;exact⟨by rw[e];rfl,rfl⟩
theorem Wb(f:Nat)(w:World)(b:f<=4001):
 Calls prog 123 #[G A f] w fun e a=>e=.returned (G A (fN f))/\a=w:=by
 have e:((fN f:Nat):Int)=144+(f:Int):=by unfold fN;omega
 go_enter func123,ntmps123;go_wp2;go_ret;exact⟨by rw[e];rfl,rfl⟩
def Dz(x:Nat):Nat×Nat×Nat:=if x<144 then(0,x / 12,x % 12)else if x<156 then(2,x-144,0)else(1,(x-156) / 4+1,(x-156) % 4)
theorem JN(x:Nat)(w:World)(i:x<19200):
 Calls prog 136 #[G A x] w fun e h=>e=.returned (.agg #[G A (Dz x).1,G A (Dz x).2.1,G A (Dz x).2.2])/\O kJ w h:=by
 by_cases c:x<144
 .have e:Dz x=(0,x / 12,x % 12):=by unfold Dz;rw[jR c]
  rw[e];have d:decide ((x:Int)<144)=true:=by simp;omega
  have a:(((x / 12:Nat):Nat):Int)=(x:Int) / 12:=by omega
  have b:(((x % 12:Nat):Nat):Int)=(x:Int) % 12:=by omega
  go_enter func136,ntmps136;go_wp2;refine gZ (v:=.agg #[G A 0,G A ((x:Int) / 12),G A ((x:Int) % 12)]) (by simp[results,results136,go_sem]) rfl ?_;exact⟨by rw[a,b];rfl,(by repeat first|exact BI _ _|apply BG|apply BH|apply BE)⟩
 by_cases f:x<156
 .have e:Dz x=(2,x-144,0):=by unfold Dz;rw[jQ c,jR f]
  rw[e];have d:decide ((x:Int)<144)=false:=by simp;omega
  have g:decide ((x:Int)<156)=true:=by simp;omega
  have a:(((x-144:Nat):Nat):Int)=(x:Int)-144:=by omega
  go_enter func136,ntmps136;go_wp2;refine gZ (v:=.agg #[G A 2,G A ((x:Int)-144),G A 0]) (by simp[results,results136,go_sem]) rfl ?_;exact⟨by rw[a];rfl,(by repeat first|exact BI _ _|apply BG|apply BH|apply BE)⟩
 .have e:Dz x=(1,(x-156) / 4+1,(x-156) % 4):=by unfold Dz;rw[jQ c,jQ f]
  rw[e];have d:decide ((x:Int)<144)=false:=by simp;omega
  have g:decide ((x:Int)<156)=false:=by simp;omega
  have a:((((x-156) / 4+1:Nat):Nat):Int)=((x:Int)-156) / 4+1:=by omega
  have b:((((x-156) % 4:Nat):Nat):Int)=((x:Int)-156) % 4:=by omega
  go_enter func136,ntmps136;go_wp2;refine gZ (v:=.agg #[G A 1,G A (((x:Int)-156) / 4+1),G A (((x:Int)-156) % 4)]) (by simp[results,results136,go_sem]) rfl ?_;exact⟨by rw[a,b];rfl,(by repeat first|exact BI _ _|apply BG|apply BH|apply BE)⟩
theorem SV(P:List PFn)(v:Sv)(n g t i x:Nat):Ch P (v.eD n g) t i x↔Ch P v t i x\/(t=1/\i=n/\x=g):=by
 by_cases a:t=1
 .subst a;simp[Ch,Sv.eD]
 .simp[Ch,Sv.eD,a]
theorem Sh(P c fv p i b o v w)(s:AnOk P i b)(h:Ed P c fv p i b o v w)(r:Rl)(g:Nat)(av:Value)(N:Ay 0 w av r.s.args)(R:Ya P r)(hg:g<P.length)(h1:1<=r.s.cK)(h2:r.s.cK<=b)
 (hL:(As P g).u9=r.s.args.length->(least P).E r.s.cK g/\Ds P r g (least P)):
 Calls prog 147 #[.pointer (T ⟨c,0,Z⟩),.agg (KM r av),G A g] w fun e w'=>e=.returned (.tuple #[])/\Nx P c fv p i b o v w w' (fun d=>(As P g).u9=r.s.args.length->d.s.E r.s.cK g/\Ds P r g d.s):=by
 obtain⟨aa,al,ac,rfl⟩:=Ad N;have c7:=Ag N;subst c7;have B:O kJ w (w.alloc (.cells (KM r (Y aa r.s.args.length ac)) 192)):=(O.refl _ w).alloc _;have M:=W.new w (KM r (Y aa r.s.args.length ac)) 192;have y:=h.s9 B;have hI:=Ac N B (fun _ _ q=>q);have c8:¬o.own c w.heap.size:=fun q=>by have:=h.r.ownLt q;omega
 have d2:=s.dC;have hf:=R.f;have d6:=R.n;have d8:=s.lc;have d4:=s.ok.eH g;have d5:=s.ok.t8 g;obtain⟨gf,cf,rfl,d1⟩:=h.pl.form (by omega);obtain⟨vv,sv,b9,_,_⟩:=(y.pl).get hg;have c2:=b9 2 (by omega);have a1:As P g=P[g]:=by unfold As;rw[gV hg];rfl
 simp only[OA,gP,gQ]at c2;rw[<-a1]at c2;obtain⟨p0,E⟩:=y.r.cI.e2 0 5;have a3:=Ae y.r.cI;simp only[Hh,gR,gP,gQ]at p0 E;obtain⟨HA,HL,HR,HP⟩:=Ba s hL R a1;clear h N s hL R b9 a1;go_enter func147,ntmps147;go_wp2_with fail;generalize w.alloc (.cells (KM r (Y aa r.s.args.length ac)) 192)=u at*;have K:=M.cell 6;have a2:=Ae M;simp only[gR,gP,gQ]at K;have d3:(g:Int)<(P.length:Int):=by omega
 have d0:=iI d1 B.size;obtain⟨U,HI,HB,V⟩:=Ba y hI M B;clear y hI M B;by_cases Q:(As P g).u9=r.s.args.length
 .have hz:(((As P g).u9:Int) !=(r.s.args.length:Int))=false:=by simp[Q]
  go_region;go_wp2_with fail;have C:O kJ u u.drew:=(O.refl _ u).drew;have m:=U.o.s9 C;have L:=HB.o.d8 C id;have a8:=Ac HI.o C (fun _ _ q=>q);have O2:=J (V.o.trans C);clear p0 E c2 K a3 a2 d0 C U HB HI V;generalize u.drew=l at*;have E:=m.r.cI.cell 5;have a3:=Ae m.r.cI;have b5:=L.cell 5;have a2:=Ae L;simp only[Hh,gR,gP,gQ]at E b5;obtain⟨f,z⟩:=(m.r.d1 r.s.cK).2 ⟨h1,h2⟩;have l5:∀a,O kJ l a->(Instr.lookup 67 (.map (T (o.om 1))) (G A r.s.cK) false).run prog a=.ok (.map (T f)) a:=fun a h3=>(((m.r.mp 1 (by omega)).d8 h3 id).look Eh underlying67 (Cs a) (k:=r.s.cK) (by omega) false).2 f z
  have l6:=l5 _ ((O.refl _ l).drew);obtain⟨F,a4,a5⟩:=Ax m L a8;have c1:∀a,O kJ l a->Bn f (v.s.E r.s.cK) a:=fun a h3=>((m.r.st 1 r.s.cK f z).d8 h3 id).iff fun x=>by simp[Ch]
  have a6:=J c1;clear m L a8 c1 l5;go_cut[] (fun wx=>D (Bn f (fun n=>v.s.E r.s.cK n\/n=g) wx)/\D (O (fun k=>k=f) l wx))
  case first=>
   go_region_law(go_simp;go_at_call 91;refine(Gp f _ g _ (a6.o _ ((O.refl _ l).drew)) (by omega)).mono ?_;rintro e w5 ⟨rr,rfl,_,s5,o5⟩;dsimp only);all_goals
    go_wp2_with fail;go_meet
    case rel=>exact⟨s5,(O.drew (O.refl _ l)).trans o5⟩
  case rest=>
  obtain⟨S5,H⟩:=hcut;have c0:BN P c _ p i b o (v.eD r.s.cK g) wc:=F.o.r.put (v':=v.eD r.s.cK g) z S5.o H.o (fun x=>by rw[SV];simp[Ch]) (fun t' i' x q=>by rw[SV];exact⟨fun r=>r.elim id fun r=>jY ⟨r.1,r.2.1⟩ q,.inl⟩) rfl (by nofun)
  have I:Ee P c _ p i b o o (v.eD r.s.cK g) l wc:=⟨c0,fun _ q=>.inl q,rfl,H.o.mono fun j _ q=>by rw[q];exact .inr (.inr (.inl ⟨1,_,z⟩))⟩;have a7:=F.o.next I;have c9:¬(w.heap.size=f):=fun q=>c8 (q▸.inr (.inr (.inl ⟨1,_,z⟩)))
  have a0:=a4.o.d8 H.o c9;have a9:=F.o.r.ints a5.o I.on;obtain⟨b0,b1,b2,b3,b4,c6,K,b7,b8⟩:=a0.e9 0 1 2 3 4 5 6 7 8;have d7:=Ae a0;simp only[gR,gP,gQ]at b0 b1 b2 b3 b4 c6 K b7 b8;obtain⟨c3,c4,c5⟩:=Ax a7 a9 I;clear c0 I a7 a0 a9 S5 H F a4 a5 a6 E b5 l6 a3 a2;go_wp2_with fail;refine(Pp P c _ p i b o _ wc HA.o c3.o r g _ c4.o HR.o hg (by omega) (HL.o Q).2).mono ?_;rintro e w6 ⟨rfl,o6,v6,s6,u6,i6,q6⟩;have t:D (Nx P c (Y (T ⟨gf,0,Z⟩) P.length cf) p i b o v w w6 (fun d=>(As P g).u9=r.s.args.length->d.s.E r.s.cK g/\Ds P r g d.s)):=by have S:=c5.o.trans s6;exact⟨o6,v6,⟨S.r,fun j hj=>(S.ow j hj).imp id fun q=>iG O2.o.size q,S.rl,(O2.o.mono (fun _ _ q=>q.elim)).trans S.on⟩,(Sv.ent_up v _ _).tr u6,fun X q=>i6 X (q.eD (HL.o Q).1),fun _=>⟨u6.le.s.e _ _ (.inr ⟨rfl,rfl⟩),q6⟩⟩
  clear s6 u6 i6 q6;go_wp2_with fail;go_end0;exact⟨rfl,t.o⟩
 .have hz:(((As P g).u9:Int) !=(r.s.args.length:Int))=true:=by simp;omega
  have t:∀W',O kJ u W'->Nx P c (Y (T ⟨gf,0,Z⟩) P.length cf) p i b o v w W' (fun d=>(As P g).u9=r.s.args.length->d.s.E r.s.cK g/\Ds P r g d.s):=fun W' hW=>⟨o,v,⟨(U.o.s9 hW).r,fun _ q=>.inl q,rfl,(V.o.trans hW).mono fun _ _ q=>q.elim⟩,.rf _,fun _ q=>q,fun q=>jY q Q⟩
  have t:=J t;go_region;go_wp2_with fail;exact gZ (v:=.tuple #[]) (by simp[results,results147,go_sem]) rfl ⟨rfl,t.o _ (by repeat first|exact BI _ _|apply BG|apply BH|apply BE)⟩
def Ez(P:List PFn)(a t:Nat):Prop:=AM P a t\/∃g,g<P.length/\t=fN g
theorem AnOk.rl{P i c r}(b:AnOk P i c)(a:LZ P r)(d:r.s.kind≠0)(e:r.s.kind≠10)(f:r.s.kind≠11)(g:r.s.kind≠12):Ya P r:=
 have h:=b.ok.ok r.f a.1 r.s a.2
 ⟨a.1,h.tg d e f g,h.args,h.dC⟩
theorem AM.isC{P b c}(h:AM P b c)(j:P.length<=12)(a:∀f,(As P f).t8.length<=12):PK c:=by
 rcases h with⟨f,i,l,m,rfl⟩|⟨n,k,d,e,g,rfl⟩
 .have:=a f;exact .inl (by unfold vN;omega)
 .exact .inr (by unfold pN;omega)
theorem Ez.cell{P a t}(h:Ez P a t)(c:P.length<=12)(b:PK t):AM P a t:=by
 rcases h with h|⟨g,d,rfl⟩
 .exact h
 .unfold PK fN at b;omega
theorem Ez.code{P c t}(h:Ez P c t)(a:P.length<=12)(b:∀f,(As P f).t8.length<=12)(e:Zd t):t-144<P.length:=by
 rcases h with h|⟨g,d,rfl⟩
 .have:=h.isC a b;unfold PK Zd at*;omega
 .unfold fN;omega
theorem Ez.field{P b t}(h:Ez P b t)(d:P.length<=12)(c:∀f,(As P f).t8.length<=12)(a:156<=t):∃n k,1<=n/\n<=b/\k<4/\t=pN n k:=by
 rcases h with(⟨f,i,e,l,rfl⟩|h)|⟨g,j,rfl⟩
 .have:=c f;unfold vN at a;omega
 .exact h
 .unfold fN at a;omega
theorem Ez.lt{P b c t}(a:AnOk P b c)(h:Ez P b t):t<16400:=by
 rcases h with h|⟨g,d,rfl⟩
 .exact h.lt a.dC a.ok.t8 a.lp
 .have:=a.dC;unfold fN;omega
theorem Oz{P f v}(e:AnOk P f v):Zl P ⟨fun c t=>AM P f c/\Ez P f t,fun a b=>AM P f a/\AM P f b,fun n g=>(1<=n/\n<=v)/\g<P.length⟩:=by
 have w:∀r g,Ya P r->g<P.length->(As P g).u9=r.s.args.length->Ds P r g ⟨fun c t=>AM P f c/\Ez P f t,fun a b=>AM P f a/\AM P f b,fun n g=>(1<=n/\n<=v)/\g<P.length⟩:=fun r g d l I=>by
  refine⟨fun i a B=>⟨Bm d.f (d.ar a (List.mem_of_getElem? B)),Bm l ?_⟩,fun x E=>?_⟩
  .have y:=(List.getElem?_eq_some_iff.1 B).1;have z:=e.ok.eH g;omega
  .obtain⟨s,C,F,rfl⟩:=E;exact⟨Bm l ((e.ok.ok g l s C).sr (by omega)),Bm d.f d.tg⟩
 refine⟨fun a b t h k=>⟨h.2,k.2⟩,fun r d=>?_,fun r t d p h=>?_⟩
 .have j:=e.ok.ok r.f d.1 r.s d.2;have o:=e.dQ r.f d.1 r.s d.2;refine⟨fun q=>?_,fun q=>?_,fun q=>?_,fun q=>?_,fun q=>?_⟩
  .have R:=e.rl d (by omega) (by omega) (by omega) (by omega);exact⟨Bm R.f R.tg,.inl (.inr ⟨_,0,(o.1 q).1,(o.1 q).2,by omega,rfl⟩)⟩
  .have R:=e.rl d (by omega) (by omega) (by omega) (by omega);exact⟨Bm R.f R.tg,.inl (Bm R.f (j.sr (by omega)))⟩
  .have R:=e.rl d (by omega) (by omega) (by omega) (by omega);exact⟨Bm R.f R.tg,.inr ⟨_,j.func (by omega),rfl⟩⟩
  .have R:=e.rl d (by omega) (by omega) (by omega) (by omega);exact⟨Bm R.f (j.sr (by omega)),Bm R.f R.tg⟩
  .have R:=e.rl d (by omega) (by omega) (by omega) (by omega);exact w r _ R (j.func (by omega)) (j.many q)
 .have j:=e.ok.ok r.f d.1 r.s d.2;have o:=e.dQ r.f d.1 r.s d.2;have R:=e.rl d (by unfold AS at p;omega) (by unfold AS at p;omega) (by unfold AS at p;omega) (by unfold AS at p;omega);refine⟨fun q u m=>?_,fun q u=>?_,fun q u=>?_,fun q u m=>?_⟩
  .obtain⟨n,k,y,z,H,rfl⟩:=h.2.field e.dC e.ok.t8 u;refine⟨Bm R.f R.tg,.inl (.inr ⟨n,r.s.field,y,z,by have:=o.2.2;omega,?_⟩)⟩;unfold pN at m⊢;omega
  .exact⟨h.2.cell e.dC u,Bm R.f R.tg⟩
  .exact⟨Bm R.f (j.sr (by omega)),h.2.cell e.dC u⟩
  .have l:=h.2.code e.dC e.ok.t8 u;exact⟨⟨o.2.1 q,l⟩,w r _ R l m⟩
theorem Du{P a d c t}(b:AnOk P a d)(h:(least P).I c t):AM P a c/\Ez P a t:=h _ (Oz b)
theorem Yy{P c e a b}(d:AnOk P c e)(h:(least P).F a b):AM P c a/\AM P c b:=h _ (Oz d)
theorem Hu{P c a n g}(b:AnOk P c a)(h:(least P).E n g):(1<=n/\n<=a)/\g<P.length:=h _ (Oz b)
theorem Ry(P m E H l C o v w)(a2:AnOk P l C)(h:Ed P m E H l C o v w)(r:Rl)(x:Nat)(av:Value)(hi:Ay 0 w av r.s.args)(hr:LZ P r)(hf:AS r)(hx:(least P).I r.at x):
 Calls prog 126 #[.pointer (T ⟨m,0,Z⟩),.agg (KM r av),G A x] w fun e f=>e=.returned (.tuple #[])/\Nx P m E H l C o v w f (fun u=>Dk P r x u.s):=by
 obtain⟨M,al,N,rfl⟩:=Ad hi;have d4:=Ag hi;subst d4;have o1:O kJ w (w.alloc (.cells (KM r (Y M r.s.args.length N)) 192)):=(O.refl _ w).alloc _;have c3:=W.new w (KM r (Y M r.s.args.length N)) 192;have hE:=h.s9 o1;have hI:=Ac hi o1 (fun _ _ q=>q);have hR:=a2.rl hr (by unfold AS at hf;omega) (by unfold AS at hf;omega) (by unfold AS at hf;omega) (by unfold AS at hf;omega);have hT:=(Du a2 hx).2;have lx:=hT.lt a2;have c5:∀k,o.own m k->k<w.heap.size:=fun k q=>h.r.ownLt q
 have d8:¬o.own m w.heap.size:=fun q=>by have:=c5 _ q;omega
 obtain⟨B,HR,HF,HT,HP⟩:=BB a2 hR ((Ew P).fol r x hr hf hx) hT hr;clear h hi a2 hr hR hT;go_enter func126,ntmps126;go_upto_block 0 with(first|(go_at_call 136;refine(JN x _ (by omega)).mono ?_;rintro e w2 ⟨rfl,o2⟩;dsimp only;have a1:=(c3.d8 o2 id).alloc (.cells #[G A (Dz x).1,G A (Dz x).2.1,G A (Dz x).2.2] 238);have b1:=a1.cell 1;have c9:=Ae a1;simp only[gR,gP,gQ]at b1));have s:O kJ w2 (w2.alloc (.cells #[G A (Dz x).1,G A (Dz x).2.1,G A (Dz x).2.2] 238)):=(O.refl _ w2).alloc _;have a7:=W.new w2 #[G A (Dz x).1,G A (Dz x).2.1,G A (Dz x).2.2] 238;have c1:=hE.s9 (o2.trans s);have c2:=Ac hI (o2.trans s) (fun _ _ q=>q);have O3:=J (o1.trans (o2.trans s));have d9:¬o.own m w2.heap.size:=fun q=>by have:=c5 _ q;have q1:=o1.size;have q2:=o2.size;omega
 clear o1 o2 s hE hI c3 b1 c9;generalize w2.alloc (.cells #[G A (Dz x).1,G A (Dz x).2.1,G A (Dz x).2.2] 238)=y at*;generalize w2.heap.size=tb at*;obtain⟨b0,b1,b2,b3,b4,b5,b6,b7,b8⟩:=a1.e9 0 1 2 3 4 5 6 7 8;have c9:=Ae a1;obtain⟨t0,t1,t2⟩:=a7.e3 0 1 2;have e7:=Ae a7;simp only[gR,gP,gQ]at b0 b1 b2 b3 b4 b5 b6 b7 b8 t0 t1 t2;have a6:=B.o.dC;have a0:=HR.o.f;have c8:=HR.o.tg;have e6:=B.o.ok.t8 r.f;obtain⟨U,HI,HB,d1⟩:=Ba c1 c2 a1 a7;clear c1 c2 a1 a7 hx;have b9:D (AM P l r.tg):=Bm a0 c8;have e3:r.tg<16400:=GG B.o a0 c8;have a9:∀(Q:Sv->Prop) (V f:World),O kJ y V->Nx P m E H l C o v V f Q->Nx P m E H l C o v w f Q:=fun Q V f hW hN=>by obtain⟨L,v6,i,K,F,I⟩:=hN;have ow:=O3.o.trans hW;exact⟨L,v6,⟨i.r,fun j hj=>(i.ow j hj).imp id fun q=>iG ow.size q,i.rl,(ow.mono (fun _ _ q=>q.elim)).trans i.on⟩,K,F,I⟩
 have d0:∀V,O kJ y V->Dk P r x v.s->Nx P m E H l C o v w V (fun u=>Dk P r x u.s):=fun V hW hq=> a9 _ _ _ hW ⟨o,v,⟨(U.o.s9 hW).r,fun _ q=>.inl q,rfl,O.refl _ _⟩,.rf _,fun _ q=>q,hq⟩
 have a4:=J a9;have a5:=J d0;clear a9 d0;have k0:r.s.kind=3\/r.s.kind=5\/r.s.kind=8\/r.s.kind=9:=hf;clear hf;rcases k0 with d|d|d|d
 .have k3:(((r.s.kind:Nat):Int)==3)=true:=by rw[d];rfl
  have b:=J d;clear d;by_cases c:156<=x/\(x-156) % 4=0
  .have p:Dz x=(1,(x-156) / 4+1,(x-156) % 4):=by unfold Dz;rw[jQ (by omega),jQ (by omega)]
   have R:((((Dz x).1:Nat):Int)==1)=true:=by rw[p];rfl
   have e0:((((Dz x).2.2:Nat):Int)==0)=true:=by rw[p];simp;omega
   have e5:=(B.o.dQ r.f a0 r.s HP.o.2).2.2;have c6:pN (Dz x).2.1 r.s.field=x+r.s.field:=by rw[p];unfold pN;dsimp only;omega
   have d6:1<=(Dz x).2.1:=by rw[p];dsimp only;omega
   have d7:(Dz x).2.1<=4001:=by obtain⟨n,k,h1,h2,h3,e⟩:=HT.o.field a6 B.o.ok.t8 c.1;have:=B.o.lp;rw[p];dsimp only;unfold pN at e;omega
   have d3:D ((least P).I r.tg (x+r.s.field)):=HF.o.1 b.o c.1 c.2;have S:D (∀z,O (o.own m) y z->z.cell? ⟨tb,1,Z⟩=T (G A (Dz x).2.1)/\z.cell? ⟨w.heap.size,0,Z⟩=T (G A r.f)/\z.cell? ⟨w.heap.size,1,Z⟩=T (G A r.s.kind)/\z.cell? ⟨w.heap.size,2,Z⟩=T (G A r.s.cY)/\z.cell? ⟨w.heap.size,3,Z⟩=T (G A r.s.cM)/\z.cell? ⟨w.heap.size,4,Z⟩=T (G A r.s.field)/\z.cell? ⟨w.heap.size,5,Z⟩=T (G A r.s.cK)/\z.cell? ⟨w.heap.size,6,Z⟩=T (Y M r.s.args.length N)/\z.cell? ⟨w.heap.size,7,Z⟩=T (G A r.s.next)/\z.cell? ⟨w.heap.size,8,Z⟩=T (G A r.s.taken)):=fun z h3=>by have q1:=(d1.o.d8 h3 d9).cell 1;have d5:=HB.o.d8 h3 d8;obtain⟨r0,r1,r2,r3,r4,r5,r6,r7,r8⟩:=d5.e9 0 1 2 3 4 5 6 7 8;simp only[gR,gP,gQ]at q1 r0 r1 r2 r3 r4 r5 r6 r7 r8;exact⟨q1,r0,r1,r2,r3,r4,r5,r6,r7,r8⟩
   have e1:pN (Dz x).2.1 r.s.field<19200:=by omega
   have c0:=J c6;clear c p c6;obtain⟨ka,c4⟩:=(U.o.r.d0 r.tg 0 (.inl rfl)).2 b9.o;go_wp2_with fail;go_region_held3(fun f=>f.cell? ⟨tb,1,Z⟩=T (G A (Dz x).2.1)/\f.cell? ⟨w.heap.size,0,Z⟩=T (G A r.f)/\f.cell? ⟨w.heap.size,1,Z⟩=T (G A r.s.kind)/\f.cell? ⟨w.heap.size,2,Z⟩=T (G A r.s.cY)/\f.cell? ⟨w.heap.size,3,Z⟩=T (G A r.s.cM)/\f.cell? ⟨w.heap.size,4,Z⟩=T (G A r.s.field)/\f.cell? ⟨w.heap.size,5,Z⟩=T (G A r.s.cK)/\f.cell? ⟨w.heap.size,6,Z⟩=T (Y M r.s.args.length N)/\f.cell? ⟨w.heap.size,7,Z⟩=T (G A r.s.next)/\f.cell? ⟨w.heap.size,8,Z⟩=T (G A r.s.taken)) (go_keep)
    (first
      |(go_at_call 121;refine(DI r (Y M r.s.args.length N) _ (by omega) (by omega)).mono ?_;rintro e w3 ⟨rfl,s⟩;have O4:=J (O.trans (X:=kJ) (a:=y) (by repeat first|exact BI _ _|apply BG|apply BH|apply BE) s);clear s;obtain⟨q1,r0,r1,r2,r3,r4,r5,r6,r7,r8⟩:=S.o w3 (O4.o.mono fun _ _ q=>q.elim))
      |(go_at_call 85;refine(JE (Dz x).2.1 r.s.field _ d6 d7 (by omega)).mono ?_;rintro e f ⟨rfl,hw⟩;have hw:=hw.symm;subst hw)
      |(go_at_call 120;refine(Js P m E H l C o v w5 r.tg ka fb _ (U.o.s9 O5.o).r c4 SF.o (by omega) (fun q=>by have:=(U.o.s9 O4.o).r.ownLt (k:=ka) (.inr (.inr (.inl ⟨0,_,c4⟩)));omega)).mono ?_;rintro e w6 ⟨rfl,L,i⟩;have SS:=J i;clear i;obtain⟨q1,r0,r1,r2,r3,r4,r5,r6,r7,r8⟩:=S.o w6 ((O5.o.mono (fun _ _ q=>q.elim)).trans SS.o.on))
      |(go_at_call 88;refine(Ko (pN (Dz x).2.1 r.s.field) _ e1).mono ?_;rintro e w5 ⟨fb,rfl,e4,sf,o5⟩;have O5:=J (O4.o.trans o5);have SF:=J sf;clear o5 sf;obtain⟨q1,r0,r1,r2,r3,r4,r5,r6,r7,r8⟩:=S.o w5 (O5.o.mono fun _ _ q=>q.elim)))
   all_goals
    have g:D (Nx P m E H l C o v w w6 (fun u=>Dk P r x u.s)):=by refine a4.o (fun u=>Dk P r x u.s) _ _ O5.o ⟨L,_,SS.o,Sv.give_up v _ _,fun X q=>q.give (fun t ht=>by rw[ht,c0.o];exact d3.o),?_⟩;refine⟨fun _ _ _=>?_,fun q=>jY (b.o.symm.trans q) (by decide),fun q=>jY (b.o.symm.trans q) (by decide),fun q=>jY (b.o.symm.trans q) (by decide)⟩;rw[<-c0.o];exact .inr ⟨rfl,rfl⟩
    go_wp2_with fail;go_end0;exact⟨rfl,g.o⟩
  .have g:=J (a5.o _ (O.refl _ y) ⟨fun _ h1 h2=>jY ⟨h1,h2⟩ c,fun q=>jY (b.o.symm.trans q) (by decide),fun q=>jY (b.o.symm.trans q) (by decide),fun q=>jY (b.o.symm.trans q) (by decide)⟩);by_cases h1:156<=x
   .have p:Dz x=(1,(x-156) / 4+1,(x-156) % 4):=by unfold Dz;rw[jQ (by omega),jQ (by omega)]
    have R:((((Dz x).1:Nat):Int)==1)=true:=by rw[p];rfl
    have e0:((((Dz x).2.2:Nat):Int)==0)=false:=by rw[p];simp;omega
    clear c p h1;go_wp2_with fail;go_end0;exact⟨rfl,g.o⟩
   .have R:((((Dz x).1:Nat):Int)==1)=false:=by
     unfold Dz;split
     .rfl
     .rw[jR (by omega)];rfl
    clear c h1
    go_wp2_with fail
    go_end0
    exact⟨rfl,g.o⟩
 .have k3:(((r.s.kind:Nat):Int)==3)=false:=by rw[d];rfl
  have k5:(((r.s.kind:Nat):Int)==5)=true:=by rw[d];rfl
  have b:=J d;clear d;by_cases c:PK x
  .have R:((((Dz x).1:Nat):Int) !=2)=true:=by
    unfold Dz;unfold PK at c;split
    .rfl
    .rw[jQ (by omega)];rfl
   have S:D (AM P l x):=HT.o.cell a6 c
   have a8:D ((least P).F x r.tg):=HF.o.2.1 b.o c
   clear c
   go_wp2_with fail
   refine(DI r (Y M r.s.args.length N) y (by omega) (by omega)).mono ?_
   rintro e w3 ⟨rfl,s⟩
   have a3:=J s
   clear s
   go_wp2_with fail
   refine(GY P m E H l C o v w3 x r.tg (U.o.s9 a3.o).r S.o b9.o lx e3 a8.o).mono ?_
   rintro e w4 ⟨rfl,nx⟩
   obtain⟨L,v6,i,K,F,I⟩:=nx
   have g:=J (a4.o (fun u=>Dk P r x u.s) _ _ a3.o ⟨L,v6,i,K,F,fun q=>jY (b.o.symm.trans q) (by decide),fun _ _=>I,fun q=>jY (b.o.symm.trans q) (by decide),fun q=>jY (b.o.symm.trans q) (by decide)⟩)
   clear i K F I
   go_wp2_with fail
   go_end0
   exact⟨rfl,g.o⟩
  .have R:((((Dz x).1:Nat):Int) !=2)=false:=by unfold Dz;unfold PK at c;rw[jQ (by omega),jR (by omega)];rfl
   have g:=J (a5.o _ (O.refl _ y) ⟨fun q=>jY (b.o.symm.trans q) (by decide),fun _ q=>jY q c,fun q=>jY (b.o.symm.trans q) (by decide),fun q=>jY (b.o.symm.trans q) (by decide)⟩)
   clear c
   go_wp2_with fail
   go_end0
   exact⟨rfl,g.o⟩
 .have k3:(((r.s.kind:Nat):Int)==3)=false:=by rw[d];rfl
  have k5:(((r.s.kind:Nat):Int)==5)=false:=by rw[d];rfl
  have k9:(((r.s.kind:Nat):Int)==9)=false:=by rw[d];rfl
  have k8:(((r.s.kind:Nat):Int)==8)=true:=by rw[d];rfl
  have b:=J d;clear d;by_cases c:Zd x
  .have p:Dz x=(2,x-144,0):=by unfold Dz;unfold Zd at c;rw[jQ (by omega),jR (by omega)]
   have R:((((Dz x).1:Nat):Int) !=2)=false:=by rw[p];rfl
   have hg:=HT.o.code a6 B.o.ok.t8 c;have hn:=(B.o.dQ r.f a0 r.s HP.o.2).2.1 b.o;have HL:=J (HF.o.2.2.2 b.o c);have ho:(Dz x).2.1=x-144:=by rw[p]
   rw[ho]at t1;have HN:=J hn;clear c p ho hn;go_wp2_with fail;refine(Sh P m E H l C o v y B.o U.o r (x-144) (Y M r.s.args.length N) HI.o HR.o hg HN.o.1 HN.o.2 HL.o).mono ?_;rintro e w4 ⟨rfl,nx⟩;obtain⟨L,v6,i,K,F,I⟩:=nx;have g:=J (a4.o (fun u=>Dk P r x u.s) _ _ (O.refl _ y) ⟨L,v6,i,K,F,fun q=>jY (b.o.symm.trans q) (by decide),fun q=>jY (b.o.symm.trans q) (by decide),fun q=>jY (b.o.symm.trans q) (by decide),fun _ _=>I⟩);clear i K F I;go_wp2_with fail;go_end0;exact⟨rfl,g.o⟩
  .have R:((((Dz x).1:Nat):Int) !=2)=true:=by
    unfold Dz;unfold Zd at c;split
    .rfl
    .rw[jQ (by omega)];rfl
   have g:=J (a5.o _ (O.refl _ y) ⟨fun q=>jY (b.o.symm.trans q) (by decide),fun q=>jY (b.o.symm.trans q) (by decide),fun q=>jY (b.o.symm.trans q) (by decide),fun _ q=>jY q c⟩)
   clear c
   go_wp2_with fail
   go_end0
   exact⟨rfl,g.o⟩
 .have k3:(((r.s.kind:Nat):Int)==3)=false:=by rw[d];rfl
  have k5:(((r.s.kind:Nat):Int)==5)=false:=by rw[d];rfl
  have k9:(((r.s.kind:Nat):Int)==9)=true:=by rw[d];rfl
  have b:=J d;clear d;by_cases c:PK x
  .have R:((((Dz x).1:Nat):Int) !=2)=true:=by
    unfold Dz;unfold PK at c;split
    .rfl
    .rw[jQ (by omega)];rfl
   have S:D (AM P l x):=HT.o.cell a6 c
   have a8:D ((least P).F r.sr x):=HF.o.2.2.1 b.o c
   have c7:=(B.o.ok.ok r.f a0 r.s HP.o.2).sr (by have:=b.o;omega)
   have d2:D (AM P l r.sr):=Bm a0 c7
   have e2:r.sr<16400:=GG B.o a0 c7
   clear c
   go_wp2_with fail
   refine(ES r (Y M r.s.args.length N) y (by omega) (by omega)).mono ?_
   rintro e w3 ⟨rfl,s⟩
   have a3:=J s
   clear s
   go_wp2_with fail
   refine(GY P m E H l C o v w3 r.sr x (U.o.s9 a3.o).r d2.o S.o e2 lx a8.o).mono ?_
   rintro e w4 ⟨rfl,nx⟩
   obtain⟨L,v6,i,K,F,I⟩:=nx
   have g:=J (a4.o (fun u=>Dk P r x u.s) _ _ a3.o ⟨L,v6,i,K,F,fun q=>jY (b.o.symm.trans q) (by decide),fun q=>jY (b.o.symm.trans q) (by decide),fun _ _=>I,fun q=>jY (b.o.symm.trans q) (by decide)⟩)
   clear i K F I
   go_wp2_with fail
   go_end0
   exact⟨rfl,g.o⟩
  .have R:((((Dz x).1:Nat):Int) !=2)=false:=by unfold Dz;unfold PK at c;rw[jQ (by omega),jR (by omega)];rfl
   have g:=J (a5.o _ (O.refl _ y) ⟨fun q=>jY (b.o.symm.trans q) (by decide),fun q=>jY (b.o.symm.trans q) (by decide),fun _ q=>jY q c,fun q=>jY (b.o.symm.trans q) (by decide)⟩)
   clear c
   go_wp2_with fail
   go_end0
   exact⟨rfl,g.o⟩
section
variable{P:List PFn}{a:Nat}{d:Value}{f g b:Nat}{o:So}{v:Sv}{w l:World}
def So.tk(o:So)(c:Nat):So:={o with om:=fun t=>if t=2 then c else o.om t,bk:=fun t i=>if t=2 then Z else o.bk t i}
theorem So.tk_bk{o:So}{c t i k:Nat}(h:(o.tk c).bk t i=T k):t≠2/\o.bk t i=T k:=by
 unfold So.tk at h;dsimp only at h;split at h
 .cases h
 .next e=>exact⟨e,h⟩
theorem So.tk_old{o:So}{c t i:Nat}(h:t≠2):(o.tk c).bk t i=o.bk t i:=by unfold So.tk;dsimp only;rw[jQ h]
theorem So.tk_om{o:So}{c t:Nat}(h:t≠2):(o.tk c).om t=o.om t:=by unfold So.tk;dsimp only;rw[jQ h]
theorem So.tk_2{o:So}{c:Nat}:(o.tk c).om 2=c:=rfl
theorem QS(v:Sv)(t i x:Nat)(h:t≠2):Ch P v.took t i x↔Ch P v t i x:=by simp[Ch,Sv.took,h]
theorem BN.took(h:BN P a d f g b o v w){y}(a0:w.heap.size<=y)(S:BW IU IT y (fun _=>Z) l)(N:W a (Hh (o.tk y) d f g b) 120 l)(B:O (fun k=>k=a) w l):BN P a d f g b (o.tk y) v.took l:=by
 have H:∀t,t<=5->o.om t<w.heap.size:=fun t p=>h.ownLt (.inr (.inl ⟨t,p,rfl⟩))
 have I:∀t,t<=5->o.om t≠a:=fun t p=>by
  by_cases M:t=5
  .subst M;obtain⟨_,_,e⟩:=h.fm.isMap;exact(h.dU e).1
  .obtain⟨_,_,e⟩:=(h.mp t (by omega)).isMap;exact(h.dU e).1
 have V:∀t i k,o.bk t i=T k->k≠a:=fun t i k m=>by obtain⟨_,_,e⟩:=(h.st t i k m).isMap;exact(h.dU e).1
 refine{h with cI:=N,mp:=fun t p=>?_,st:=fun t i k m=>?_,dj:=fun t i s U k m R=>h.dj t i s U k (So.tk_bk m).2 (So.tk_bk R).2,oj:=fun t s p C e=>?_,ne:=fun t i k s m C=>?_,t4:=fun t i k m=>h.t4 t i k (So.tk_bk m).2,d0:=fun c t p=>?_,d1:=fun n=>?_,d4:=fun n=>?_,d2:=fun c k m=>jY rfl (So.tk_bk m).1,ins:=fun t i x p q=>?_,fm:=?_,fr:=fun c t F=>(h.fr c t F).d8 B (fun j Q q=>?_) (fun j K X q r=>?_),fvr:=h.fvr}
 .by_cases e:t=2
  .subst e;exact S
  .rw[So.tk_om e,show(o.tk y).bk t=o.bk t from funext fun i=>So.tk_old e];exact(h.mp t p).d8 B (I t (by omega))
 .obtain⟨e,m⟩:=So.tk_bk m;exact((h.st t i k m).d8 B (V t i k m)).iff fun x=>(QS v t i x e).symm
 .by_cases z:t=2
  .by_cases u:s=2
   .rw[z,u]
   .rw[z,So.tk_2,So.tk_om u]at e;have:=H s C;omega
  .by_cases u:s=2
   .rw[u,So.tk_2,So.tk_om z]at e;have:=H t p;omega
   .rw[So.tk_om z,So.tk_om u]at e;exact h.oj t s p C e
 .obtain⟨e,m⟩:=So.tk_bk m;by_cases u:s=2
  .rw[u,So.tk_2];have:=h.ownLt (.inr (.inr (.inl ⟨t,i,m⟩)));omega
  .rw[So.tk_om u];exact h.ne t i k s m C
 .rw[<-h.d0 c t p,So.tk_old (by omega)]
 .rw[<-h.d1 n,So.tk_old (by omega)]
 .rw[<-h.d4 n,So.tk_old (by omega)]
 .by_cases e:t=2
  .subst e;simp[Ch,Sv.took]at q
  .rw[So.tk_old e];exact h.ins t i x p ((QS v t i x e).1 q)
 .rw[So.tk_om (by omega)];exact h.fm.d8 B (I 5 (by omega))
 .obtain⟨K,L,_⟩:=h.fr c t F;exact Am L h.cI (by decide) j Q q
 .rw[q]at r;have E:=h.cI;unfold W at E;rw[r]at E;cases E
theorem BN.outk(h:BN P a d f g b o v w){x}(E:w.heap.size<=x):(∀c k,o.bk 2 c=T k->¬(o.tk x).own a k)/\¬(o.tk x).own a (o.om 2):=by
 have C:=(h.mp 2 (by omega)).isMap;refine⟨fun c k m q=>?_,fun q=>?_⟩
 .obtain⟨z,y,e⟩:=(h.st 2 c k m).isMap;obtain⟨s,u⟩:=h.dU e;have B:=h.ownLt (.inr (.inr (.inl ⟨2,c,m⟩)));rcases q with q|⟨t,p,q⟩|⟨t,i,q⟩|⟨n,t,q,r⟩
  .exact s q
  .by_cases j:t=2
   .rw[j,So.tk_2]at q;omega
   .rw[So.tk_om j]at q;exact h.ne 2 c k t m p q
  .obtain⟨j,q⟩:=So.tk_bk q;exact j (h.dj t i 2 c k q m).1
  .exact u n t q r
 .obtain⟨z,y,e⟩:=C;obtain⟨s,u⟩:=h.dU e;have B:=h.ownLt (k:=o.om 2) (.inr (.inl ⟨2,by omega,rfl⟩));rcases q with q|⟨t,p,q⟩|⟨t,i,q⟩|⟨n,t,q,r⟩
  .exact s q
  .by_cases j:t=2
   .rw[j,So.tk_2]at q;omega
   .rw[So.tk_om j]at q;exact j (h.oj 2 t (by omega) p q).symm
  .obtain⟨j,q⟩:=So.tk_bk q;exact h.ne t i _ 2 q (by omega) rfl
  .exact u n t q r
def So.wt(o:So)(c:Nat)(t:Nat×Nat×Nat)(r:Rl):So:={o with fw:=fun x=>if x=c then T t else o.fw x,rl:=fun x=>if x=c then o.rl c++[r]else o.rl x}
def JV(o:So)(c:Nat):Value:=match o.fw c with|none=>Y Z 0 0|some t=>Io t
theorem BN.fwAt(h:BN P a d f g b o v w)(c:Nat):Jb 0 w (JV o c) (o.rl c):=by
 unfold JV;cases e:o.fw c with
 |none=> rw[h.f0 c e];exact⟨[],⟨rfl,.inl ⟨rfl,rfl⟩⟩,rfl,fun i q=>by simp at q⟩
 |some t=>exact h.fr c t e
theorem BN.wait(h:BN P a d f g b o v w){c:Nat}{t:Nat×Nat×Nat}{r:Rl}{z:World}(C:O (fun k=>(JV o c).ownBlock=T k) w z)(L:(JV o c).ownBlock=T t.1\/w.heap.size<=t.1)(hr:Jb 0 z (Io t) (o.rl c++[r]))
 (hm:BW UY UX (o.om 5) (fun x=>if x=c then T t else o.fw x) l)(E:O (fun k=>k=o.om 5) z l):BN P a d f g b (o.wt c t r) (v.wait c r) l:=by
 have a1:∀k,(JV o c).ownBlock=T k->∃u,o.fw c=T u/\k=u.1:=fun k n=>by
  unfold JV at n;cases hc:o.fw c with
  |none=>rw[hc]at n;cases n
  |some u=>rw[hc]at n;unfold Io at n;cases n;exact⟨u,rfl,rfl⟩
 have K:∀k,(JV o c).ownBlock=T k->∃s,w.heap[k]? =T (.cells s 192 (0,0)):=fun k n=>by obtain⟨u,e,rfl⟩:=a1 k n;obtain⟨s,X,_⟩:=h.fr c u e;exact DD X _ rfl
 obtain⟨a9,c5,M⟩:=h.fm.isMap;have l5:=lt_of_block M;have a4:z.heap[o.om 5]? =T (.map a9 c5):=(C.block _ l5 fun q=>by obtain⟨s,e⟩:=K _ q;rw[M]at e;cases e).trans M;obtain⟨n1,n2⟩:=h.dU M;have a7:∀k I H,w.heap[k]? =T (.map I H)->¬((JV o c).ownBlock=T k):=fun k I H n q=>by obtain⟨s,e⟩:=K k q;rw[n]at e;cases e
 have b0:W a (Hh o d f g b) 120 z:=h.cI.d8 C fun q=>by obtain⟨s,e⟩:=K _ q;have:=h.cI;unfold W at this;rw[e]at this;cases this
 have N:∀i m,(o.wt c t r).fw i=T m->(i=c/\m=t)\/(i≠c/\o.fw i=T m):=fun i m p=>by
  unfold So.wt at p;dsimp only at p;split at p
  .next e=>cases p;exact .inl ⟨e,rfl⟩
  .next e=>exact .inr ⟨e,p⟩
 refine{h with cI:=b0.d8 E (fun q=>n1 q.symm),mp:=fun m a5=>?_,st:=fun m i' k' a0=>?_,ins:=h.ins,fm:=hm,fr:=fun i m p=>?_,fj:=fun S F t1 R b1 a3 e=>?_,f0:=fun i p=>?_,fvr:=fun i Q=>?_}
 .obtain⟨I,H,e⟩:=(h.mp m a5).isMap;exact((h.mp m a5).d8 C (a7 _ _ _ e)).d8 E (fun q=>jY (h.oj m 5 (by omega) (by omega) q) (by omega))
 .obtain⟨I,H,e⟩:=(h.st m i' k' a0).isMap;exact((h.st m i' k' a0).d8 C (a7 _ _ _ e)).d8 E (h.ne m i' k' 5 a0 (by omega))
 .have a6:∀k s V,k=o.om 5->z.heap[k]? ≠T (.cells s 3 V):=fun k s V q r=>by rw[q,a4]at r;cases r
  rcases N i m p with⟨rfl,rfl⟩|⟨e,n⟩
  .have e:(o.wt i m r).rl i=o.rl i++[r]:=by unfold So.wt;dsimp only;rw[jR rfl]
   rw[e];refine hr.d8 E (fun j y q=>?_) a6;obtain⟨s,X,_⟩:=hr;obtain⟨a8,e⟩:=DD X j y;rw[q,a4]at e;cases e
  .have er:(o.wt c t r).rl i=o.rl i:=by unfold So.wt;dsimp only;rw[jQ e]
   rw[er];refine((h.fr i m n).d8 C (fun j y q=>?_) (fun j s V q r=>?_)).d8 E (fun j y q=>n2 i m n (by unfold Io at y;cases y;exact q.symm)) a6
   .obtain⟨u,U,B⟩:=a1 j q;unfold Io at y;cases y;exact e (h.fj i c m u n U B)
   .obtain⟨a8,e'⟩:=K j q;rw[r]at e';cases e'
 .have a2:∀i m,i≠c->o.fw i=T m->m.1≠t.1:=fun i m b2 n q=>by
   rcases L with L|L
   .obtain⟨u,U,B⟩:=a1 _ L;exact b2 (h.fj i c m u n U (q.trans B))
   .have:=h.ownLt (k:=m.1) (.inr (.inr (.inr ⟨i,m,n,rfl⟩)));omega
  rcases N S t1 b1 with⟨rfl,rfl⟩|⟨B,q1⟩
  .rcases N F R a3 with⟨rfl,rfl⟩|⟨e2,q2⟩
   .rfl
   .exact jY e.symm (a2 F R e2 q2)
  .rcases N F R a3 with⟨rfl,rfl⟩|⟨e2,q2⟩
   .exact jY e (a2 S t1 B q1)
   .exact h.fj S F t1 R q1 q2 e
 .unfold So.wt at p⊢;dsimp only at p⊢;split at p
  .cases p
  .next e=>rw[jQ e];exact h.f0 i p
 .show(v.W i Q\/(i=c/\Q=r))↔_;unfold So.wt;dsimp only;by_cases e:i=c
  .subst e;rw[jR rfl,h.fvr i Q];simp
  .rw[jQ e,h.fvr i Q];simp[e]
end

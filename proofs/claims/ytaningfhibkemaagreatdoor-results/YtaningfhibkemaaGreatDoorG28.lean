/- Part of the proof: ArE ArF ArG ArH ArI ArJ ArK ArL ArM ArN ArP. -/
import Derived.Test.YtaningfhibkemaaGreatDoorG27
set_option maxRecDepth 100000
set_option maxHeartbeats 4000000
namespace Go.Proofs.YtaningfhibkemaaGreatDoor
open Go.RowKit Go.Maps Go.Proofs.Tryz
open Option renaming none->Z,some->T
open Value renaming int->G,slice->Y
open IntKind renaming i64->A
abbrev bC:Array Value:=#[Y Z 0 0,G A 0,G A 0,G A 0,.map Z,.map Z,.map Z]
theorem Ed.sets{P r m i a j f o v w l}(h:Ed P r m a j f o v w)(b:v.s.le (least P))(d:(least P).le v.s)(n:Bx 0 w i (P.map CN))(p:Bn l (GJ P v.s a) w):SetsAt P (least P) i a j f (o.om 0) (o.om 1) l w:=
 ⟨n,⟨o.bk 0,h.r.mp 0 (by omega),fun c=>h.r.d0 c 0 (.inl rfl),fun c k q=>(h.r.st 0 c k q).iff fun x=>⟨fun q=>b.i c x (q.1 rfl),fun q=>⟨fun _=>d.i c x q,fun e=>jY e (by decide),fun e=>jY e (by decide),fun e=>jY e (by decide),fun e=>jY e (by decide)⟩⟩⟩,
   ⟨o.bk 1,h.r.mp 1 (by omega),h.r.d1,fun c k q=>(h.r.st 1 c k q).iff fun x=>⟨fun q=>b.e c x (q.2.1 rfl),fun q=>⟨fun e=>jY e (by decide),fun _=>d.e c x q,fun e=>jY e (by decide),fun e=>jY e (by decide),fun e=>jY e (by decide)⟩⟩⟩,
   p.iff fun g=>GJ.iff b d a g,h.tb,h.tl⟩
theorem Bx.base{B b w c P}(h:Bx B w c P)(a:b<=B):Bx b w c P:=by obtain⟨d,f,g,j⟩:=h;refine⟨d,Aq f a,g,fun i q m=>?_⟩;obtain⟨o,n,e,k,l⟩:=j i q m;exact⟨o,n,e,Aq k a,l.base a⟩
theorem SetsAt.other{P S n r v i u l y w C b H t}(h:SetsAt P S n r v i u l y w)(k:O (fun k=>k=b) w C)(a:W b H t w)(Q:t≠3/\t≠9/\t≠189/\t≠134)(N:0≠b):SetsAt P S n r v i u l y C:=by
 have f:∀{x m},Bn x m w->¬x=b:=by rintro x m d rfl;obtain⟨L,c,e⟩:=d.isMap;unfold W at a;rw[a]at e;cases e
 have s:∀{x g},BW IU IT x g w->¬x=b:=by rintro x g d rfl;obtain⟨L,c,e⟩:=d.isMap;unfold W at a;rw[a]at e;cases e
 obtain⟨E,o,I,z⟩:=h.pm;obtain⟨F,p,K,B⟩:=h.em;refine⟨h.pl.d8 k (fun j R V U M q=>?_),⟨E,o.d8 k (s o),I,fun c x q=>(z c x q).d8 k (f (z c x q))⟩,⟨F,p.d8 k (s p),K,fun c x q=>(B c x q).d8 k (f (B c x q))⟩,h.rs.d8 k (f h.rs),h.tb.d8 k N h.tl,iI h.tl k.size⟩;subst M;unfold W at a;rw[a]at q;cases q;exact Q
theorem ZK(hc:Q7)(P:List PFn)(fv:Value)(f g d:Nat)(w:World)(X:AnOk P g d)(hn:PnOk P)(S:Bx 0 w fv P)(hm:f<P.length)(tb:JZ w)(tl:0<w.heap.size):
 Calls prog 15 #[.agg #[fv,G A f,G A g,G A d]] w fun e r=>∃F pb eb z,e=.returned (.agg (DV F f g d pb eb z))/\SetsAt P (least P) F f g d pb eb z r/\O kJ w r:=by
 obtain⟨j,i,rfl,c7⟩:=S.form (by omega);have N:D (O kJ w ((w.alloc (.cells #[Y (T ⟨j,0,Z⟩) P.length i,G A f,G A g,G A d] 66)).alloc (.cells bC 71))):=((O.refl _ w).alloc _).alloc _;have I:D (W w.heap.size #[Y (T ⟨j,0,Z⟩) P.length i,G A f,G A g,G A d] 66 ((w.alloc (.cells #[Y (T ⟨j,0,Z⟩) P.length i,G A f,G A g,G A d] 66)).alloc (.cells bC 71))):=(W.new w _ _).alloc _;have K:D (W (w.heap.size+1) bC 71 ((w.alloc (.cells #[Y (T ⟨j,0,Z⟩) P.length i,G A f,G A g,G A d] 66)).alloc (.cells bC 71))):=by have:=W.new (w.alloc (.cells #[Y (T ⟨j,0,Z⟩) P.length i,G A f,G A g,G A d] 66)) bC 71;rw[show(w.alloc (.cells #[Y (T ⟨j,0,Z⟩) P.length i,G A f,G A g,G A d] 66)).heap.size=w.heap.size+1 by simp]at this;exact this
 obtain⟨u,HN,HP,HT,HC⟩:=BB X hn S tb hc;clear X hn S tb hc;go_enter func15,ntmps15;go_upto_region 1 with fail;generalize World.alloc (World.alloc w _) _=E at*;obtain⟨h,R⟩:∃b,b=w.heap.size+1:=⟨_,rfl⟩;rw[<-R]at K;rw[<-R];have c4:w.heap.size<h:=by omega
 clear R;generalize a7:w.heap.size=n at*;have L:=J a7;clear a7;have s2:h<E.heap.size:=Ae K.o;obtain⟨c0,c1,c2,c3⟩:=I.o.e4 0 1 2 3;have l1:=Ae I.o;simp only[gR,gP,gQ]at c0 c1 c2 c3;have a4:=J (HT.o.d8 N.o id (by have:=L.o;omega));have b9:0<E.heap.size:=by omega
 go_wp2_with fail;refine(MZ P (Y (T ⟨j,0,Z⟩) P.length i) f g d E u.o (HP.o.s9 N.o) a4.o b9).mono ?_;rintro e w2 ⟨t,o,rfl,hE,a9,o2,a6⟩;obtain⟨HE,a2,O2,a3⟩:=Ba hE a9 o2 a6;clear hE a9 o2 a6 c0 c1 c2 c3 a4;go_wp2_with fail;refine(U0 P t (Y (T ⟨j,0,Z⟩) P.length i) f g d o Sv.zero w2 u.o HE.o a3.o).mono ?_;rintro e w3 ⟨rfl,p,v',Q,h1,h2⟩;have O3:D (O kJ E w3):=O2.o.thn Q.on (fun k hk q=>by have:=a2.o k q;omega);obtain⟨M,a1,b4⟩:=Ax Q.e h1 h2;clear Q h1 h2 HE a2 a3 O2;go_wp2_with fail;refine(QA P t (Y (T ⟨j,0,Z⟩) P.length i) f g d p v' w3 u.o M.o hm a1.o).mono ?_;rintro e B ⟨z,rfl,_,s4,V⟩;obtain⟨x,C,S4⟩:=Ax (M.o.s9 V) (O3.o.trans V) s4;clear s4 V M O3;have HW:D (∀s,O kJ B s->s.cell? ⟨n,0,Z⟩=T (Y (T ⟨j,0,Z⟩) P.length i)/\s.cell? ⟨n,1,Z⟩=T (G A f)/\s.cell? ⟨n,2,Z⟩=T (G A g)/\s.cell? ⟨n,3,Z⟩=T (G A d)/\s.cell? ⟨t,4,Z⟩=T (.map (T (p.om 0)))/\s.cell? ⟨t,5,Z⟩=T (.map (T (p.om 1)))):=fun s h'=>by have hb:=I.o.d8 (C.o.trans h') id;have hs:=x.o.r.cI.d8 h' id;obtain⟨q0,q1,q2,q3⟩:=hb.e4 0 1 2 3;obtain⟨q4,q5⟩:=hs.e2 4 5;simp only[Hh,gR,gP,gQ]at q0 q1 q2 q3 q4 q5;exact⟨q0,q1,q2,q3,q4,q5⟩
 have a0:=J (K.o.d8 C.o id);obtain⟨r0,r1,r2,r3,r4,r5⟩:=HW.o B (O.refl _ _);have c5:n<B.heap.size:=iI l1 C.o.size;have c8:=Ae x.o.r.cI;have nb:h≠n:=by omega
 have c9:h≠t:=a0.o.ne x.o.r.cI (by decide);have a5:=u.o.ok;have b8:=u.o.dC;have b6:=J a5;clear a5;go_wp2_with fail;go_region_held3(fun r=>r.cell? ⟨n,0,Z⟩=T (Y (T ⟨j,0,Z⟩) P.length i)/\r.cell? ⟨n,1,Z⟩=T (G A f)/\r.cell? ⟨n,2,Z⟩=T (G A g)/\r.cell? ⟨n,3,Z⟩=T (G A d)/\r.cell? ⟨t,4,Z⟩=T (.map (T (p.om 0)))/\r.cell? ⟨t,5,Z⟩=T (.map (T (p.om 1)))) (go_keep)
  (first
    |(go_at_call 43;refine(VI HC.o P (Y (T ⟨j,0,Z⟩) P.length i) f g d _ (x.o.pl.s9 ((O.refl kJ B).drew)) b6.o HN.o b8 (by omega)).mono ?_;rintro e H ⟨F,rfl,p5,u5⟩;have y:=J (O.trans ((O.refl kJ B).drew) u5);have P5:=J p5;obtain⟨fa,fl,fc,rfl⟩:∃a l c,F=Y a l c:=(match P5.o with|⟨_,q,_⟩=>Ad q);clear u5 p5;obtain⟨m0,m1,m2,m3,m4,m5⟩:=HW.o H y.o;have m:=J (a0.o.d8 y.o id);obtain⟨d0,d1,d2,d3,d4,d5,d6⟩:=m.o.e7 0 1 2 3 4 5 6;have z0:=m.o.frozen 0;have z1:=m.o.frozen 1;have z2:=m.o.frozen 2;have z3:=m.o.frozen 3;have z4:=m.o.frozen 4;have z5:=m.o.frozen 5;have z6:=m.o.frozen 6;have c6:=Ae m.o;simp only[gR,gP,gQ]at d0 d1 d2 d3 d4 d5 d6))
 all_goals
  have U:O (fun k=>k=h) H (((((((H.setCell ⟨h,0,Z⟩ (Y fa fl fc)).setCell ⟨h,1,Z⟩ (G A f)).setCell ⟨h,2,Z⟩ (G A g)).setCell ⟨h,3,Z⟩ (G A d)).setCell ⟨h,4,Z⟩ (.map (T (p.om 0)))).setCell ⟨h,5,Z⟩ (.map (T (p.om 1)))).setCell ⟨h,6,Z⟩ (.map (T z))):=(((((((O.refl _ H).t9 0 _).t9 1 _).t9 2 _).t9 3 _).t9 4 _).t9 5 _).t9 6 _;have b0:=(x.o.s9 y.o).sets a1.o b4.o (P5.o.base (iF _)) (S4.o.d8 y.o id);have b3:=b0.other U m.o (by decide) (by have:=L.o;omega);have a8:O kJ w _:=(N.o.trans (C.o.trans y.o)).thn U (fun k hk q=>by have:=L.o;omega);have b7:=J b3;have b5:=J a8;clear U b0 b3 a8;go_wp2_with fail;refine gZ (v:=.agg (DV (Y fa fl fc) f g d (p.om 0) (p.om 1) z)) (by simp[results,results15,go_sem,d0,d1,d2,d3,d4,d5,d6,DV]) rfl ⟨_,_,_,_,rfl,b7.o,b5.o⟩
def SrtAll:Prop:=∀(B:Nat) (v:Value) (l:List ByteArray) (c:World),Au B c v l->l.length<=1000000->Calls prog 137 #[v] c fun e f=>e=.returned (.tuple #[])/\∃d,Au B f v d/\d.Perm l/\d.Pairwise (fun a b=>GM b a=false)/\O (fun k=>v.ownBlock=T k) c f
theorem RG(w:World):Calls prog 170 #[.int .u64 0] w fun e a=>e=.returned (G A 0)/\a=w:=by go_enter func170,ntmps170;go_wp2_with fail;go_ret;exact⟨by simp[show Lib.len8 0=0 from by decide,wrap64],rfl⟩
theorem Wr(w:World):Calls prog 151 #[.int .u64 0] w fun e b=>e=.returned (G A 0)/\b=w:=by go_enter func151,ntmps151;go_wp2_with fail;refine(RG w).mono ?_;rintro e b ⟨rfl,a⟩;have a:=a.symm;subst a;go_wp2_with fail;go_ret;exact⟨rfl,rfl⟩
theorem PJ(w:World):Calls prog 160 #[Y Z 0 0,G A 0,G A 0] w fun e a=>e=.returned (.tuple #[])/\a=w:=by go_enter func160,ntmps160;go_wp2;refine wp_loop_rounds 1 ?_;rw[rounds_succ];go_wp2;go_end0;exact⟨rfl,rfl⟩
theorem WG(w:World):Calls prog 150 #[Y Z 0 0,G A 0,G A 0,G A 0] w fun e b=>e=.returned (.tuple #[])/\b=w:=by go_enter func150,ntmps150;go_wp2;refine wp_loop_rounds 1 ?_;rw[rounds_succ];go_wp2_with fail;refine(PJ _).mono ?_;rintro e b ⟨rfl,a⟩;have a:=a.symm;subst a;go_wp2_with fail;refine gZ (results_none rfl _ _ _) rfl ?_;exact⟨rfl,rfl⟩
theorem U6(w:World):Calls prog 137 #[Y Z 0 0] w fun e b=>e=.returned (.tuple #[])/\b=w:=by go_enter func137,ntmps137;go_wp2_with fail;refine(Wr _).mono ?_;rintro e b ⟨rfl,a⟩;have a:=a.symm;subst a;go_wp2_with fail;refine(WG _).mono ?_;rintro e b ⟨rfl,a⟩;have a:=a.symm;subst a;go_wp2_with fail;go_end0;exact⟨rfl,rfl⟩
theorem YR(h:Y8):SrtAll:=by
 intro B v l b a m;rcases a.2 with⟨rfl,q⟩|⟨g,f,p,rfl,_⟩
 .have:l=[]:=List.eq_nil_of_length_eq_zero q;subst this;refine(U6 b).mono ?_;rintro e o ⟨rfl,rfl⟩;exact⟨rfl,[],a,List.Perm.refl _,List.Pairwise.nil,O.refl _ _⟩
 .refine(h B g f l b a m).mono ?_;rintro e o ⟨rfl,n,c,d,i,j⟩;exact⟨rfl,n,by have:=d.length_eq;rw[<-this]at c;exact this▸c,d,i,j.mono fun k _ q=>by rw[q];rfl⟩
def XQ(f:Nat->ByteArray)(m:Nat->Prop)(l:List ByteArray):Prop:=l.Pairwise (fun a b=>GM b a=false)/\∃c:List Nat,c.Pairwise (·≠ ·)/\(∀x,x∈c↔m x)/\l.Perm (c.map f)
def CR(P:List PFn)(i:Nat):ByteArray:=(As P i).name
theorem Sk(hS:SrtAll)(P S U o r g p n s w)(h:SetsAt P S U o r g p n s w)(hP:P.length<=12)(sb:Nat)(m:Nat->Prop)(hs:Bn sb m w)(hm:∀x,m x->x<P.length):
 Calls prog 105 #[.agg (DV U o r g p n s),.map (T sb)] w fun e w'=>∃v l,e=.returned v/\Au w.heap.size w' v l/\XQ (CR P) m l/\l.length<=12/\O kJ w w':=by
 obtain⟨i0,c2,c7,c8,c9⟩:=info_parts Tryz.infoStr;obtain⟨y,fl,z,c1,b9⟩:∃a l c,U=Y a l c/\l=P.length:=by obtain⟨cs,q,_⟩:=h.pl;obtain⟨a,l,c,e⟩:=Ad q;subst e;exact⟨a,l,c,rfl,by have:=Ag q;rw[iT]at this;exact this⟩
 subst c1 b9;have H:D (O kJ w (w.alloc (.cells (DV (Y y P.length z) o r g p n s) 71))):=(O.refl _ w).alloc _;obtain⟨N,a8,Q,HH,HM,b7⟩:=EF (W.new w (DV (Y y P.length z) o r g p n s) 71) (hs.d8 H.o id) (h.s9 H.o) h hm hS;clear h hs hm hS;go_enter func105,ntmps105;go_upto_region 2 with fail;change Code.wp _ _ _ _ (w.alloc (.cells (DV (Y y P.length z) o r g p n s) 71));generalize w.alloc (.cells (DV (Y y P.length z) o r g p n s) 71)=W0 at*;obtain⟨b0,X⟩:∃b,b=w.heap.size:=⟨_,rfl⟩;rw[<-X]at N⊢;have d0:=J X;clear X;go_wp2_with fail;refine(DZ sb m W0 a8.o Q.o.tb Q.o.tl).mono ?_;rintro e w2 ⟨nv,d,rfl,I,a4,a3,o2⟩;obtain⟨na,nl,nc,rfl⟩:=Ad I;have c6:=Ag I;subst c6;have c4:d.length<=12:=DQ 12 d a4 fun x f=>iI (HM.o _ ((a3 x).1 f)) hP
 obtain⟨O2,t,b6,a7,B2⟩:=BB (H.o.trans o2) I a4 a3 (N.o.d8 o2 id);have N2:D (Au w.heap.size w2 (Y Z 0 0) ((d.take 0).map (CR P))):=iB _ _ _ _;clear I a4 a3 o2 a8 Q N H;go_wp2_with fail;go_loopw[5,11] (fun v i wr=>∃(j:Nat) (B:Value),B=v/\j<=d.length/\i=G A j/\D (Au w.heap.size wr B ((d.take j).map (CR P)))/\D (Ay 0 wr (Y na d.length nc) d)/\D (W b0 (DV (Y y P.length z) o r g p n s) 71 wr)/\D (O kJ w wr)) (fun _ i _=>d.length-(intOf i).toNat)
 case atStart=>exact⟨0,_,rfl,by omega,rfl,N2,Aq t.o (iF _),B2,O2⟩
 case round=>
  clear N2 t B2 O2;obtain⟨j,v,rfl,hj,rfl,u,t,C,E⟩:=hrel;by_cases a2:j<d.length
  .have K:=t.o;obtain⟨gl,rfl⟩:=Ap K (by omega);have a9:=K.cellAt j (by omega);rw[iV,gV a2]at a9;simp only[Option.map_some]at a9;have d7:=(K.lt gl rfl).2;have c3:(j:Int)<(d.length:Int):=by omega
   have a6:=J (show j+1<=d.length from a2);have f:=HM.o _ ((a7.o d[j]).1 (iA _));have HT:D ((d.take (j+1)).map (CR P)=(d.take j).map (CR P)++[CR P d[j]]):=by show _=_;rw[iX a2,jZ];rfl
   clear K;generalize d[j]=x at*;have a5:=(HH.o.s9 E.o).pl;obtain⟨gf,cf,e1,d6⟩:=a5.form (by rw[iT];omega);rw[iT]at e1;cases e1;obtain⟨vv,sv,a0,_,_⟩:=a5.get (i:=x) (by rw[iT];exact f);have c0:=a0 0 (by omega);simp only[OA,gP,iH]at c0;have b1:((P.map CN)[x]'(by rw[iT];exact f)).name=CR P x:=by rw[jE];unfold CR As;rw[gV f];rfl
   rw[b1]at c0;have b8:=C.o.cell 0;have d5:=Ae C.o;simp only[DV,gR,gP]at b8;have d4:(x:Int)<(P.length:Int):=by omega
   have d2:((d.take j).map (CR P)).length<=12:=by rw[iT,List.length_take];omega
   have d3:=E.o.size;have b4:=J a0;clear a5 a0 b1 b4;generalize CR P x=nm at*;go_wp2_with(at_builtin;refine jA _ rfl _ _ 51 rfl w.heap.size 9 i0 (.string ByteArray.empty) 1 16 underlying51 c2 c7 c8 c9 rfl (by decide) _ _ _ rfl (u.o.alloc _) ⟨wr.heap.size,0,Z⟩ 1 1 [.string nm] rfl rfl (AD (by simp) _ _) (fun x f=>by simp at f;subst f;rfl) (by unfold maxLen;omega) (by omega) (by simp;omega) ?_;intro B M b2 a1 c5);have V:O (fun k=>v.ownBlock=T k) wr M:=O.grown ((O.refl _ wr).alloc _) a1 (fun k L=>.inl L);have O3:D (O kJ w M):=O.grown (E.o.alloc _) a1 (fun j hj=>.inr (u.o.lt j hj).1);have b5:D (Ay 0 M (Y (T ⟨gl,0,Z⟩) d.length nc) d):=Ai t.o V (fun k cs fz L q=>by obtain⟨d1,e⟩:=DD u.o k L;rw[e]at q;cases q)
   have b3:=J (C.o.d8 V (fun q=>Am u.o C.o (by decide) b0 q rfl));have F:D (Au w.heap.size M B ((d.take (j+1)).map (CR P))):=by show Au _ _ _ _;rw[HT.o];unfold Au;rw[gW,jZ];exact b2
   clear a1 c5 b2 V;go_wp2_with fail;go_roundw
   case rel=>exact⟨j+1,B,rfl,a6.o,by go_num,F,b5,b3,O3⟩
   case measure=>have:=a6.o;simp[intOf];omega
  .have e:j=d.length:=by omega
   subst e;have c3:decide ((d.length:Int)<(d.length:Int))=false:=by simp
   have hX:Au w.heap.size wr v (d.map (CR P)):=by have:=u.o;rw[List.take_length]at this;exact this
   have F:=J hX;clear hX;go_wp2_with fail;refine(b7.o w.heap.size v (d.map (CR P)) wr F.o (by rw[iT];omega)).mono ?_;rintro e w5 ⟨rfl,l,s5,p5,q5,o5⟩;have O5:D (O kJ w w5):=E.o.thn o5 (fun k L q=>by have:=(F.o.lt k q).1;omega);have R:D (Au w.heap.size w5 v l/\XQ (CR P) m l/\l.length<=12):=⟨s5,⟨q5,d,b6.o,a7.o,p5⟩,by rw[p5.length_eq,iT];exact c4⟩;clear s5 p5 q5 o5;go_wp2_with fail;go_ret;exact⟨v,l,rfl,R.o.1,R.o.2.1,R.o.2.2,O5.o⟩
theorem KP(hS:SrtAll)(P fv o f g z u B w)(F:AnOk P f g)(e8:f<=4000)(hn:PnOk P)(h:SetsAt P (least P) fv o f g z u B w)(b9:ItOk w)(c:Nat)(hc:AM P f c)(d9:0<P.length):
 Calls prog 103 #[.agg (DV fv o f g z u B),G A c] w fun e C=>∃v l,e=.returned v/\Au w.heap.size C v l/\XQ (Cd P) ((least P).I c) l/\l.length<=16400/\O kJ w C:=by
 obtain⟨i0,e3,f0,f1,f2⟩:=info_parts Tryz.infoStr;have hP:=F.dC;have b1:=F.ok.t8;obtain⟨s,fl,t,e2,e1⟩:∃a l c,fv=Y a l c/\l=P.length:=by obtain⟨cs,q,_⟩:=h.pl;obtain⟨a,l,c,e⟩:=Ad q;subst e;exact⟨a,l,c,rfl,by have:=Ag q;rw[iT]at this;exact this⟩
 subst e2 e1;have O0:D (O kJ w (w.alloc (.cells (DV (Y s P.length t) o f g z u B) 71))):=(O.refl _ w).alloc _;obtain⟨H,N,HH⟩:=Ax (W.new w (DV (Y s P.length t) o f g z u B) 71) (h.s9 O0.o) h;have HM:D (∀x,(least P).I c x->Ez P f x):=fun x q=>(Du F q).2
 obtain⟨Q,HN,c7,HV⟩:=Ba F hn b9 b1;have f6:=hc.lt hP b1 F.lp;have c4:=J hc;have d5:=J hS;clear h hS F hn b9 b1 hc;go_enter func103,ntmps103;go_upto_region 2 with fail;change Code.wp _ _ _ _ (w.alloc (.cells (DV (Y s P.length t) o f g z u B) 71));generalize w.alloc (.cells (DV (Y s P.length t) o f g z u B) 71)=W0 at*;obtain⟨m,a2⟩:∃b,b=w.heap.size:=⟨_,rfl⟩;rw[<-a2]at H⊢;have f4:=J a2;clear a2;obtain⟨bk,m1,d1,t1⟩:=N.o.pm;obtain⟨sb,a8⟩:=(d1 c).2 c4.o;have c0:=(m1.look Eh underlying67 (Cs W0) (k:=c) (by omega) false).2 sb a8;unfold Hd at c0;have b7:=J (t1 c sb a8);have b4:=H.o.cell 4;have c3:=Ae H.o;simp only[DV,gR,gP,gQ]at b4;clear m1 d1 t1 a8;go_wp2_with fail;refine(DZ sb ((least P).I c) W0 b7.o N.o.tb N.o.tl).mono ?_;rintro e w2 ⟨nv,d,rfl,hI,a7,a6,o2⟩;obtain⟨na,nl,nc,rfl⟩:=Ad hI;have e9:=Ag hI;subst e9;have e6:d.length<=16400:=DQ 16400 d a7 fun x y=>Ez.lt Q.o (HM.o _ ((a6 x).1 y))
 obtain⟨O2,I,c9,b5,B2⟩:=BB (O0.o.trans o2) hI a7 a6 (H.o.d8 o2 id);have N2:D (Au w.heap.size w2 (Y Z 0 0) ((d.take 0).map (Cd P))):=iB _ _ _ _;clear hI a7 a6 o2 b7 N H O0 b4 c3 c0;go_wp2_with fail;go_loopw[5,14] (fun v i wr=>∃(j:Nat) (M:Value),M=v/\j<=d.length/\i=G A j/\D (Au w.heap.size wr M ((d.take j).map (Cd P)))/\D (Ay 0 wr (Y na d.length nc) d)/\D (W m (DV (Y s P.length t) o f g z u B) 71 wr)/\D (O kJ w wr)) (fun _ i _=>d.length-(intOf i).toNat)
 case atStart=>exact⟨0,_,rfl,by omega,rfl,N2,Aq I.o (iF _),B2,O2⟩
 case round=>
  clear N2 I B2 O2;obtain⟨j,v,rfl,hj,rfl,HR,I,R,K⟩:=hrel;by_cases a5:j<d.length
  .have a0:=I.o;obtain⟨gl,rfl⟩:=Ap a0 (by omega);have a3:=a0.cellAt j (by omega);rw[iV,gV a5]at a3;simp only[Option.map_some]at a3;have f3:=(a0.lt gl rfl).2;have e4:(j:Int)<(d.length:Int):=by omega
   have b3:=J (show j+1<=d.length from a5);have y:=HM.o _ ((b5.o d[j]).1 (iA _));have HT:D ((d.take (j+1)).map (Cd P)=(d.take j).map (Cd P)++[Cd P d[j]]):=by show _=_;rw[iX a5,jZ];rfl
   clear a0;have g1:=Ez.lt Q.o y;have a9:=Su hP HV.o e8 y;generalize d[j]=x at*;have b8:=HH.o.s9 K.o;have d2:=J b8.pl;have d6:=J a9.bare;have c2:IX (P.map CN) (Q6 x)=IX P (Q6 x):=XC P _;have f8:(Cd P x).size<=20000:=YV Q.o.ok HN.o a9;have f7:((d.take j).map (Cd P)).length<=16400:=by rw[iT,List.length_take];omega
   have g0:=K.o.size;have HW:D (∀r,O kJ wr r->r.cell? ⟨m,0,Z⟩=T (Y s P.length t)/\r.cell? ⟨m,1,Z⟩=T (G A o)/\r.cell? ⟨m,2,Z⟩=T (G A f)/\r.cell? ⟨m,3,Z⟩=T (G A g)):=fun r h'=>by have hb:=R.o.d8 h' id;obtain⟨q0,q1,q2,q3⟩:=hb.e4 0 1 2 3;simp only[DV,gR,gP,gQ]at q0 q1 q2 q3;exact⟨q0,q1,q2,q3⟩
   obtain⟨r0,r1,r2,r3⟩:=HW.o wr (O.refl _ _);have c3:=Ae R.o;have d7:=J c2;have c8:D (∀a1,O kJ wr a1->ItOk a1):=fun a1 hW n r e5 e0=>c7.o n r e5 (K.o.trans (hW.trans e0))
   have d4:=J Q.o.ok.bare;have d3:=J HN.o.bare;have d8:0<(P.map CN).length:=by rw[iT];exact d9
   clear b8 a9 c2;go_upto_region 5 with fail;clear a3 f3;go_region_held3(fun C=>C.cell? ⟨m,0,Z⟩=T (Y s P.length t)/\C.cell? ⟨m,1,Z⟩=T (G A o)/\C.cell? ⟨m,2,Z⟩=T (G A f)/\C.cell? ⟨m,3,Z⟩=T (G A g)) (go_keep)
    (first
      |(go_at_call 136;refine(JN x _ (by omega)).mono ?_;rintro e w4 ⟨rfl,u4⟩;have U:=J (O.trans ((O.refl kJ wr).drew) u4);clear u4;obtain⟨m0,m1,m2,m3⟩:=HW.o w4 U.o)
      |(go_at_call 135;refine(Uy 0 (Y s P.length t) o f g (P.map CN) (Q6 x) w4 (d2.o.s9 U.o) d4.o d3.o d6.o (c8.o w4 U.o) d8).mono ?_;rw[d7.o];rintro e E ⟨rfl,u5⟩;have p:=J (U.o.trans u5);clear u5;obtain⟨m0,m1,m2,m3⟩:=HW.o E p.o;have V:D (Au w.heap.size E v ((d.take j).map (Cd P))):=Ac HR.o p.o (fun _ _ q=>q);have f9:=p.o.size;have d0:=J (Am V.o (R.o.d8 p.o id) (by decide)))
      |(refine AC rfl _ _ 51 rfl w.heap.size 9 i0 (.string ByteArray.empty) 1 16 underlying51 e3 f0 f1 f2 rfl (by decide) _ _ _ rfl (V.o.alloc _) ⟨E.heap.size,0,Z⟩ 1 1 [.string (Cd P x)] rfl rfl (AD rfl _ _) (fun x y=>by simp at y;subst y;rfl) (by decide) (by unfold maxLen;omega) (by omega) (by simp;omega) ?_;intro M w3 c1 a4 e7;have X:=J (O.grown ((O.refl (fun k=>v.ownBlock=T k) E).alloc (.cells #[.string (Cd P x)] 9)) a4 (fun k L=>.inl L));have b2:=J ((R.o.d8 p.o id).d8 X.o (fun q=>d0.o m q rfl));obtain⟨n0,n1,n2,n3⟩:=b2.o.e4 0 1 2 3;simp only[DV,gR,gP,gQ]at n0 n1 n2 n3;have b6:=J c1;have c5:=J a4;clear c1 a4 e7))
   all_goals
    have O3:D (O kJ w w3):=(K.o.trans p.o).thn X.o (fun k L q=>by have:=(V.o.lt k q).1;omega);have c6:D (Ay 0 w3 (Y (T ⟨gl,0,Z⟩) d.length nc) d):=Ai (Ac I.o p.o (fun _ _ q=>q)) X.o (fun k cs fz L q=>by obtain⟨f5,e⟩:=DD V.o k L;rw[e]at q;cases q)
    have S:D (Au w.heap.size w3 M ((d.take (j+1)).map (Cd P))):=by show Au _ _ _ _;rw[HT.o];unfold Au;rw[gW,jZ];exact b6.o
    clear b6 c5 X n0 n1 n2 n3;go_wp2_with fail;go_roundw
    case rel=>exact⟨j+1,M,rfl,b3.o,by go_num,S,c6,b2,O3⟩
    case measure=>have:=b3.o;simp[intOf];omega
  .have e:j=d.length:=by omega
   subst e;have e4:decide ((d.length:Int)<(d.length:Int))=false:=by simp
   have hX:Au w.heap.size wr v (d.map (Cd P)):=by have:=HR.o;rw[List.take_length]at this;exact this
   have S:=J hX;clear hX;go_wp2_with fail;refine(d5.o w.heap.size v (d.map (Cd P)) wr S.o (by rw[iT];omega)).mono ?_;rintro e E ⟨rfl,l,s5,p5,q5,o5⟩;have p:D (O kJ w E):=K.o.thn o5 (fun k L q=>by have:=(S.o.lt k q).1;omega);have HL:D (Au w.heap.size E v l/\XQ (Cd P) ((least P).I c) l/\l.length<=16400):=⟨s5,⟨q5,d,c9.o,b5.o,p5⟩,by rw[p5.length_eq,iT];exact e6⟩;clear s5 p5 q5 o5;go_wp2_with fail;go_ret;exact⟨v,l,rfl,HL.o.1,HL.o.2.1,HL.o.2.2,p.o⟩
theorem Ke(B v l s w)(h:Au B w v l)(E:l.length<=4001):
 Calls prog 134 #[v,.string s] w fun e z=>e=.returned (G A (BC l s 0))/\z=w:=by
 obtain⟨H,K,I,rfl⟩:=Ad h;have y:=Ag h;subst y;generalize p:BC l s 0=V;have o:D (BC (l.drop 0) s 0=V):=p;have j:=J h;clear p h;go_enter func134,ntmps134;go_wp2_with fail;go_loopw[8] (fun i wr=>∃k:Nat,k<=l.length/\i=G A k/\wr=w/\D (BC (l.drop k) s k=V)) (fun i _=>l.length-(intOf i).toNat)
 case atStart=>exact⟨0,by omega,rfl,rfl,o⟩
 case round=>
  obtain⟨k,C,rfl,rfl,d⟩:=hrel;clear o;by_cases m:k<l.length
  .obtain⟨g,rfl⟩:=Ap j.o (by omega);have c:=j.o.cellAt k (by omega);rw[iV,gV m]at c;simp only[Option.map_some]at c;have F:=(j.o.lt g rfl).2;have b:=LT l s k m;have u:(k:Int)<(l.length:Int):=by omega
   have n:=J (show k+1<=l.length from m);generalize l[k]=a at c b;cases r:(s.toList==a.toList)with
   |true=>
    have f:a.toList=s.toList:=by have:s.toList=a.toList:=by simpa using r
                                 exact this.symm
    rw[jR f,d.o]at b;subst b;clear d f;go_wp2_with fail;go_ret;exact⟨rfl,rfl⟩
   |false=>
    have f:¬a.toList=s.toList:=fun q=>by simp[q]at r
    rw[jQ f,d.o]at b;have t:=J b;clear d f b;go_wp2_with fail;go_roundw
    case rel=>exact⟨k+1,n.o,by go_num,by trivial,t.o.symm⟩
    case measure=>have:=n.o;simp[intOf];omega
  .have e:k=l.length:=by omega
   subst e;have u:decide ((l.length:Int)<(l.length:Int))=false:=by simp
   have x:V= -1:=by have:=d.o;rw[jW]at this;exact this.symm
   subst x;clear d;go_wp2_with fail;go_ret;exact⟨rfl,rfl⟩
def GH:List PFn->ByteArray->ByteArray->Nat->Option Nat
 |[],_,_,_=>Z
 |f::l,a,b,k=>if f.name.toList=a.toList/\0<=BC f.t8 b 0 then T (vN k (BC f.t8 b 0).toNat)else GH l a b (k+1)
theorem J3(l:List PFn)(a b:ByteArray)(k:Nat)(h:k<l.length):GH (l.drop k) a b k=if l[k].name.toList=a.toList/\0<=BC l[k].t8 b 0 then T (vN k (BC l[k].t8 b 0).toNat)else GH (l.drop (k+1)) a b (k+1):=by rw[iD h];rfl
theorem Rv:∀(l:List ByteArray) (s:ByteArray) (k:Nat),BC l s k<(k:Int)+l.length\/BC l s k= -1
 |[],_,_=>.inr rfl
 |a::l,s,k=>by
  unfold BC;split
  .simp only[gU];omega
  .have:=Rv l s (k+1);simp only[gU];omega
theorem UV(P S fv r t j s m u w)(h:SetsAt P S fv r t j s m u w)(hP:P.length<=12)(a9:∀i,(As P i).t8.length<=12)(a b:ByteArray):
 Calls prog 102 #[.agg (DV fv r t j s m u),.string a,.string b] w fun e w'=>e=.returned (.tuple #[G A ((GH P a b 0).getD 0:Nat),.bool (GH P a b 0).isSome])/\O kJ w w':=by
 obtain⟨M,fl,N,b5,b4⟩:∃a l c,fv=Y a l c/\l=P.length:=by obtain⟨cs,q,_⟩:=h.pl;obtain⟨a,l,c,e⟩:=Ad q;subst e;exact⟨a,l,c,rfl,by have:=Ag q;rw[iT]at this;exact this⟩
 subst b5 b4;generalize hV:GH P a b 0=V;have HV:D (GH (P.drop 0) a b 0=V):=hV;have O0:D (O kJ w (w.alloc (.cells (DV (Y M P.length N) r t j s m u) 71))):=(O.refl _ w).alloc _;obtain⟨R,HH,b2⟩:=Ax (W.new w (DV (Y M P.length N) r t j s m u) 71) h a9;clear h hV a9;go_enter func102,ntmps102;go_upto_region 1 with fail;change Code.wp _ _ _ _ (w.alloc (.cells (DV (Y M P.length N) r t j s m u) 71));generalize w.alloc (.cells (DV (Y M P.length N) r t j s m u) 71)=W0 at*;have a4:=R.o.cell 0;have c4:=Ae R.o;simp only[DV,gR,gP]at a4;go_wp2_with fail;clear a4 c4 R;go_loopw[15] (fun i wr=>∃k:Nat,k<=P.length/\i=G A k/\D (O kJ w wr)/\D (GH (P.drop k) a b k=V)) (fun i _=>P.length-(intOf i).toNat)
 case atStart=>exact⟨0,by omega,rfl,O0,HV⟩
 case round=>
  clear HV O0;obtain⟨k,hk,rfl,X,o⟩:=hrel;by_cases z:k<P.length
  .have hs:=J3 P a b k z;have a2:=(HH.o.s9 X.o).pl;obtain⟨gf,cf,e1,c8⟩:=a2.form (by rw[iT];omega);rw[iT]at e1;cases e1;obtain⟨vv,sv,y,Q,a8⟩:=a2.get (i:=k) (by rw[iT];exact z);obtain⟨sa,sc,rfl,_⟩:=a8.form;obtain⟨B,E,C,rfl⟩:=Ad Q;have I:=y 0 (by omega);have c1:=y 1 (by omega);have K:=y 2 (by omega);have L:=y 3 (by omega);have a5:(P.map CN)[k]'(by rw[iT];exact z)=CN P[k]:=jE ..;rw[a5]at I c1 K L Q;simp only[OA,gP,gQ,iH]at I c1 K L;have a7:As P k=P[k]:=by unfold As;rw[gV z];rfl
   have b7:=b2.o k;rw[a7]at b7;have b6:(k:Int)<(P.length:Int):=by omega
   have H:=J (show k+1<=P.length from z);have b0:Au 0 wr (Y B E C) P[k].t8:=Q;have L:wr.cell? ⟨gf,k*4+3,Z⟩=T (Y sa 0 sc):=L;have I:wr.cell? ⟨gf,k*4,Z⟩=T (.string P[k].name):=I;have K:wr.cell? ⟨gf,k*4+2,Z⟩=T (G A P[k].u9):=K;have b3:=Rv P[k].t8 b 0;clear a2 y a5 a7 a8 Q;generalize P[k]=f at*;generalize a6:BC f.t8 b 0=x at*;have U:=J a6;have oa:O kJ wr (wr.alloc (.cells #[.string f.name,Y B E C,G A f.u9,Y sa 0 sc] 134)):=(O.refl _ wr).alloc _;obtain⟨a1,a0,F⟩:=Ax (Ac b0 oa (fun _ _ q=>q)) (X.o.trans oa) hs;clear b0 oa hs a6;by_cases p:f.name.toList=a.toList/\0<=x
   .have g:=F.o;rw[jR p,o.o]at g;obtain⟨b1,b9⟩:=p;obtain⟨n,rfl⟩:∃n:Nat,x=(n:Int):=⟨x.toNat,by omega⟩;rw[Int.toNat_natCast]at g;subst g;have he:(f.name.toList==a.toList)=true:=by simpa using b1
    have c6:(0:Int)<=(n:Int):=by omega
    have c7:n<12:=by omega
    clear F o b1 b9 b3;go_wp2_with fail;refine(Ke 0 (Y B E C) f.t8 b _ a1.o (by omega)).mono ?_;rw[U.o];rintro e w5 ⟨rfl,d⟩;have d:=d.symm;subst d;go_wp2_with(go_at_call 119;refine(Fu k n _ (by omega) (by omega)).mono ?_;rintro e w' ⟨rfl,d⟩;have d:=d.symm;subst d);refine gZ (v:=.tuple #[G A (vN k n:Nat),.bool true]) (by simp[results,results102,go_sem]) rfl ⟨rfl,a0.o⟩
   .have g:=F.o;rw[jQ p,o.o]at g;have a3:=J g;clear F o g;cases he:(f.name.toList==a.toList)with
    |true=>
     have c5:¬(0:Int)<=x:=fun q=>p ⟨by simpa using he,q⟩
     have hd:decide ((0:Int)<=x)=false:=by simp;omega
     clear p;go_wp2_with fail;refine(Ke 0 (Y B E C) f.t8 b _ a1.o (by omega)).mono ?_;rw[U.o];rintro e w5 ⟨rfl,d⟩;have d:=d.symm;subst d;go_wp2_with fail;go_roundw
     case rel=>exact⟨k+1,H.o,by go_num,a0,a3.o.symm⟩
     case measure=>have:=H.o;simp[intOf];omega
    |false=>
     clear p;go_wp2_with fail;refine(Ke 0 (Y B E C) f.t8 b _ a1.o (by omega)).mono ?_;rw[U.o];rintro e w5 ⟨rfl,d⟩;have d:=d.symm;subst d;go_wp2_with fail;go_roundw
     case rel=>exact⟨k+1,H.o,by go_num,a0,a3.o.symm⟩
     case measure=>have:=H.o;simp[intOf];omega
  .have e:k=P.length:=by omega
   subst e;have b6:decide ((P.length:Int)<(P.length:Int))=false:=by simp
   have b8:V=Z:=by have:=o.o;rw[jW]at this;exact this.symm
   subst b8;clear o;go_wp2_with fail;refine gZ (v:=.tuple #[G A 0,.bool false]) (by simp[results,results102,go_sem]) rfl ⟨rfl,X.o⟩
theorem SO{a b:ByteArray}:∀(l:List PFn) (k c:Nat),GH l a b k=T c->∃f i,∃h:f<l.length,i<l[f].t8.length/\l[f].name.toList=a.toList/\BC l[f].t8 b 0=(i:Int)/\c=vN (k+f) i
 |[],k,c,h=>by cases h
 |f::l,k,c,h=>by
  unfold GH at h;split at h
  .rename_i q;refine⟨0,(BC f.t8 b 0).toNat,by simp,?_,q.1,?_,?_⟩
   .have:=Rv f.t8 b 0;simp only[iN];omega
   .simp only[iN];omega
   .cases h;rfl
  .obtain⟨g,i,w,e,m,n,v⟩:=SO l (k+1) c h;exact⟨g+1,i,by simp;omega,by simpa using e,by simpa using m,by simpa using n,by rw[v];congr 1;omega⟩
theorem T6{P:List PFn}{a b:ByteArray}{d c:Nat}(h:GH P a b 0=T c):AM P d c:=by obtain⟨f,i,e,g,_,_,k⟩:=SO P 0 c h;refine .inl ⟨f,i,e,?_,by rw[k,iY]⟩;unfold As;rw[gV e];exact g
def TJ(f:Nat->ByteArray)(m:Nat->Prop)(n:Nat)(w:World)(e:Ending)(a:World):Prop:=
 (∃v l,e=.returned (.tuple #[v,.bool true])/\Au w.heap.size a v l/\XQ f m l/\l.length<=n)/\O kJ w a
theorem XQ.len{f:Nat->ByteArray}{m:Nat->Prop}{l}(h:XQ f m l){n:Nat}(e:∀x,m x->x<n):l.length<=n:=by obtain⟨_,i,a,b,c⟩:=h;rw[c.length_eq,iT];exact DQ n i a fun x g=>e x ((b x).1 g)
section
variable(y:SrtAll)(P:List PFn)(t:Value)(p d j r o s:Nat)(w:World)(u:AnOk P d j)(E:d<=4000)(B:PnOk P)(h:SetsAt P (least P) t p d j r o s w)(z:ItOk w)(C:0<P.length)
include y u E B h z C
theorem M8(a b:ByteArray):
 Calls prog 64 #[.agg (DV t p d j r o s),.string a,.string b] w fun e w'=>(∀c,GH P a b 0=T c->TJ (Cd P) ((least P).I c) 16400 w e w')/\(GH P a b 0=Z->e=.returned (.tuple #[Y Z 0 0,.bool false])/\O kJ w w'):=by
 have N:D (O kJ w (w.alloc (.cells (DV t p d j r o s) 71))):=(O.refl _ w).alloc _;obtain⟨B0,M,H,HN,a1,a2⟩:=EF (W.new w (DV t p d j r o s) 71) h u B z y;obtain⟨i,m,k,a4⟩:∃a l c,t=Y a l c:=by obtain⟨cs,q,_⟩:=h.pl;exact Ad q
 subst a4;clear h u B z y;go_enter func64,ntmps64;go_upto_region 1 with fail;change Code.wp _ _ _ _ (w.alloc (.cells (DV (Y i m k) p d j r o s) 71));generalize w.alloc (.cells (DV (Y i m k) p d j r o s) 71)=I at*;have L:D (∀f,O kJ I f->f.cell? ⟨w.heap.size,0,Z⟩=T (Y i m k)/\f.cell? ⟨w.heap.size,1,Z⟩=T (G A p)/\f.cell? ⟨w.heap.size,2,Z⟩=T (G A d)/\f.cell? ⟨w.heap.size,3,Z⟩=T (G A j)/\f.cell? ⟨w.heap.size,4,Z⟩=T (.map (T r))/\f.cell? ⟨w.heap.size,5,Z⟩=T (.map (T o))/\f.cell? ⟨w.heap.size,6,Z⟩=T (.map (T s))/\w.heap.size<f.heap.size):=fun f h'=>by have Q:=B0.o.d8 h' id;obtain⟨U,V,X,q3,q4,q5,q6⟩:=Q.e7 0 1 2 3 4 5 6;simp only[DV,gR,gP,gQ]at U V X q3 q4 q5 q6;exact⟨U,V,X,q3,q4,q5,q6,Ae Q⟩
 obtain⟨c0,c1,c2,c3,c4,c5,c6,lb⟩:=L.o I (O.refl _ _);go_wp2_with fail;refine(UV P (least P) (Y i m k) p d j r o s I (M.o.s9 N.o) H.o.dC H.o.ok.t8 a b).mono ?_;rintro e w2 ⟨rfl,K⟩;obtain⟨m0,m1,m2,m3,m4,m5,m6,a6⟩:=L.o w2 K;have g:=J (N.o.trans K);clear K c0 c1 c2 c3 c4 c5 c6 lb;cases x:GH P a b 0 with
 |none=> have F:=J x;clear x;simp only[Option.getD_none,Option.isSome_none];go_wp2_with fail;refine gZ (v:=.tuple #[Y Z 0 0,.bool false]) (by simp[results,results64,go_sem]) rfl ⟨fun c q=>(by rw[F.o]at q;cases q),fun _=>⟨rfl,g.o⟩⟩
 |some c=> have a0:D (AM P d c):=T6 x;have F:=J x;simp only[Option.getD_some,Option.isSome_some];clear x;go_wp2_with fail;refine(KP a2.o P (Y i m k) p d j r o s w2 H.o E HN.o (M.o.s9 g.o) (fun n f a5 a3=>a1.o n f a5 (g.o.trans a3)) c a0.o C).mono ?_;rintro e w3 ⟨v,l,rfl,s3,t3,R,S⟩;have HX:D (TJ (Cd P) ((least P).I c) 16400 w (.returned (.tuple #[v,.bool true])) w3):=⟨⟨v,l,rfl,Aq s3 g.o.size,t3,R⟩,g.o.trans S⟩;clear s3 t3 R S;go_wp2_with fail;refine gZ (v:=.tuple #[v,.bool true]) (by simp[results,results64,go_sem]) rfl ⟨fun c' q=>?_,fun q=>(by rw[F.o]at q;cases q)⟩;rw[F.o]at q;cases q;exact HX.o
end
theorem UT(y:SrtAll)(P:List PFn)(t:Value)(p d j r o s:Nat)(w:World)(u:AnOk P d j)(h:SetsAt P (least P) t p d j r o s w)(n:Nat)(h1:1<=n)(h2:n<=j):
 Calls prog 68 #[.agg (DV t p d j r o s),G A n] w fun e w'=>TJ (CR P) ((least P).E n) 12 w e w':=by
 have f:D (O kJ w (w.alloc (.cells (DV t p d j r o s) 71))):=(O.refl _ w).alloc _;obtain⟨B0,L,H,a1⟩:=Ba (W.new w (DV t p d j r o s) 71) h u y;obtain⟨i,F,m,a2⟩:∃a l c,t=Y a l c:=by obtain⟨cs,q,_⟩:=h.pl;exact Ad q
 subst a2;clear h u y;go_enter func68,ntmps68;go_upto_region 1 with fail;change Code.wp _ _ _ _ (w.alloc (.cells (DV (Y i F m) p d j r o s) 71));generalize w.alloc (.cells (DV (Y i F m) p d j r o s) 71)=g at*;have HC:D (∀b,O kJ g b->b.cell? ⟨w.heap.size,0,Z⟩=T (Y i F m)/\b.cell? ⟨w.heap.size,1,Z⟩=T (G A p)/\b.cell? ⟨w.heap.size,2,Z⟩=T (G A d)/\b.cell? ⟨w.heap.size,3,Z⟩=T (G A j)/\b.cell? ⟨w.heap.size,4,Z⟩=T (.map (T r))/\b.cell? ⟨w.heap.size,5,Z⟩=T (.map (T o))/\b.cell? ⟨w.heap.size,6,Z⟩=T (.map (T s))/\w.heap.size<b.heap.size):=fun b h'=>by have N:=B0.o.d8 h' id;obtain⟨V,X,q2,q3,q4,q5,q6⟩:=N.e7 0 1 2 3 4 5 6;simp only[DV,gR,gP,gQ]at V X q2 q3 q4 q5 q6;exact⟨V,X,q2,q3,q4,q5,q6,Ae N⟩
 obtain⟨c0,c1,c2,c3,c4,c5,c6,lb⟩:=HC.o g (O.refl _ _);obtain⟨bk,R,M,t1⟩:=(L.o.s9 f.o).em;obtain⟨K,I⟩:=(M n).2 ⟨h1,h2⟩;have a3:=H.o.lc;have Q:=(R.look Eh underlying67 (Cs g) (k:=n) (by omega) true).2 K I;unfold Hd at Q;simp only[if_true]at Q;have a0:=J (t1 n K I);clear R M t1 I;go_wp2_with fail;refine(Sk a1.o P (least P) (Y i F m) p d j r o s g (L.o.s9 f.o) H.o.dC K ((least P).E n) a0.o (fun x q=>(Hu H.o q).2)).mono ?_;rintro e w3 ⟨v,l,rfl,s3,t3,S,U⟩;have HX:D (TJ (CR P) ((least P).E n) 12 w (.returned (.tuple #[v,.bool true])) w3):=⟨⟨v,l,rfl,Aq s3 f.o.size,t3,S⟩,f.o.trans U⟩;clear s3 t3 S U;go_wp2_with fail;refine gZ (v:=.tuple #[v,.bool true]) (by simp[results,results68,go_sem]) rfl HX.o
section
variable(p:SrtAll)(P:List PFn)(m:Value)(g b d i f j:Nat)(w:World)(o:AnOk P b d)(u:b<=4000)(s:PnOk P)(h:SetsAt P (least P) m g b d i f j w)(r:ItOk w)(t:0<P.length)
include p o u s h r t
theorem Sj(n k:Nat)(K:1<=n)(h2:n<=b)(h3:k<4):
 Calls prog 67 #[.agg (DV m g b d i f j),G A n,G A k] w fun e w'=>TJ (Cd P) ((least P).I (pN n k)) 16400 w e w':=by
 have C:D (O kJ w (w.alloc (.cells (DV m g b d i f j) 71))):=(O.refl _ w).alloc _;obtain⟨B0,HH,HA,HN,a1,a2⟩:=EF (W.new w (DV m g b d i f j) 71) h o s r p;obtain⟨y,B,z,a4⟩:∃a l c,m=Y a l c:=by obtain⟨cs,q,_⟩:=h.pl;exact Ad q
 subst a4;clear h o s r p;have g1:decide ((n:Int)<1)=false:=by simp;omega
 have g2:decide ((b:Int)<(n:Int))=false:=by simp;omega
 have g3:decide ((k:Int)<0)=false:=by simp
 have g4:decide ((4:Int)<=(k:Int))=false:=by simp;omega
 go_enter func67,ntmps67;go_upto_region 1 with fail;change Code.wp _ _ _ _ (w.alloc (.cells (DV (Y y B z) g b d i f j) 71));generalize w.alloc (.cells (DV (Y y B z) g b d i f j) 71)=E at*;have I:D (∀x,O kJ E x->x.cell? ⟨w.heap.size,0,Z⟩=T (Y y B z)/\x.cell? ⟨w.heap.size,1,Z⟩=T (G A g)/\x.cell? ⟨w.heap.size,2,Z⟩=T (G A b)/\x.cell? ⟨w.heap.size,3,Z⟩=T (G A d)/\x.cell? ⟨w.heap.size,4,Z⟩=T (.map (T i))/\x.cell? ⟨w.heap.size,5,Z⟩=T (.map (T f))/\x.cell? ⟨w.heap.size,6,Z⟩=T (.map (T j))/\w.heap.size<x.heap.size):=fun x h'=>by have L:=B0.o.d8 h' id;obtain⟨N,Q,R,S,U,V,X⟩:=L.e7 0 1 2 3 4 5 6;simp only[DV,gR,gP,gQ]at N Q R S U V X;exact⟨N,Q,R,S,U,V,X,Ae L⟩
 obtain⟨c0,c1,c2,c3,c4,c5,c6,lb⟩:=I.o E (O.refl _ _);have a0:D (AM P b (pN n k)):=.inr ⟨n,k,K,h2,h3,rfl⟩;go_upto_region 3 with fail;go_region_held3(fun x=>x.cell? ⟨w.heap.size,0,Z⟩=T (Y y B z)/\x.cell? ⟨w.heap.size,1,Z⟩=T (G A g)/\x.cell? ⟨w.heap.size,2,Z⟩=T (G A b)/\x.cell? ⟨w.heap.size,3,Z⟩=T (G A d)/\x.cell? ⟨w.heap.size,4,Z⟩=T (.map (T i))/\x.cell? ⟨w.heap.size,5,Z⟩=T (.map (T f))/\x.cell? ⟨w.heap.size,6,Z⟩=T (.map (T j))) (go_keep)
  (first
    |(go_at_call 85;refine(JE n k _ K (by omega) (by omega)).mono ?_;rintro e w' ⟨rfl,F⟩;have F:=F.symm;subst F)
    |(go_at_call 103;refine(KP a2.o P (Y y B z) g b d i f j E.drew HA.o u HN.o (HH.o.s9 C.o.drew) (fun n x a5 a3=>a1.o n x a5 (C.o.drew.trans a3)) (pN n k) a0.o t).mono ?_;rintro e w3 ⟨v,l,rfl,s3,t3,M,H⟩;have HX:D (TJ (Cd P) ((least P).I (pN n k)) 16400 w (.returned (.tuple #[v,.bool true])) w3):=⟨⟨v,l,rfl,Aq s3 C.o.size,t3,M⟩,C.o.drew.trans H⟩;have OO:=J (O.trans ((O.refl kJ E).drew) H);clear s3 t3 M H;obtain⟨m0,m1,m2,m3,m4,m5,m6,a6⟩:=I.o w3 OO.o))
 all_goals
  go_wp2_with fail;refine gZ (v:=.tuple #[v,.bool true]) (by simp[results,results67,go_sem]) rfl HX.o
end
structure AnHy(P:List PFn)(mn pn cn:Nat):Prop where
 ok:AnOk P pn cn
 pn:pn<=4000
 nm:PnOk P
 mn:mn<P.length
def FH(P:List PFn)(d f a h:Nat)(w:World):Prop:=∃c e b g,W h (DV c d f a e b g) 75 w/\SetsAt P (least P) c d f a e b g w
theorem FH.s9{P b c a d w e}(h:FH P b c a d w)(k:O kJ w e):FH P b c a d e:=by obtain⟨g,l,f,m,i,j⟩:=h;exact⟨g,l,f,m,i.d8 k id,j.s9 k⟩
def TI(f:Nat->ByteArray)(m:Nat->Prop)(n:Nat)(w:World)(e:Ending)(a:World):Prop:=
 (∃v l,e=.returned (.tuple #[v,G A 0])/\Au w.heap.size a v l/\XQ f m l/\l.length<=n)/\O kJ w a
theorem IR(a:Option Addr)(l c:Nat)(w:World):Calls prog 63 #[Y a l c,.bool true] w fun e b=>e=.returned (.tuple #[Y a l c,G A 0])/\b=w:=by go_enter func63,ntmps63;go_wp2_with fail;refine gZ (v:=.tuple #[Y a l c,G A 0]) (by simp[results,results63,go_sem]) rfl ⟨rfl,rfl⟩
theorem ND(a:Option Addr)(l c:Nat)(w:World):Calls prog 63 #[Y a l c,.bool false] w fun e b=>e=.returned (.tuple #[Y Z 0 0,G A 8])/\b=w:=by go_enter func63,ntmps63;go_wp2_with fail;refine gZ (v:=.tuple #[Y Z 0 0,G A 8]) (by simp[results,results63,go_sem]) rfl ⟨rfl,rfl⟩
theorem Sa(x:SrtAll)(P:List PFn)(m d f B:Nat)(w:World)(t:AnHy P m d f)(h:FH P m d f B w)(u:ItOk w)(n k:Nat)(S:1<=n)(U:n<=d)(V:k<4):
 Calls prog 30 #[.pointer (T ⟨B,0,Z⟩),G A n,G A k] w fun e E=>TI (Cd P) ((least P).I (pN n k)) 16400 w e E:=by
 obtain⟨R,pb,L,rb,g,i⟩:=h;obtain⟨M,Q,N,X⟩:∃a l c,R=Y a l c:=by obtain⟨cs,q,_⟩:=i.pl;exact Ad q
 subst X;obtain⟨q0,q1,q2,q3,q4,q5,q6⟩:=g.e7 0 1 2 3 4 5 6;have lb:=Ae g;simp only[DV,gR,gP,gQ]at q0 q1 q2 q3 q4 q5 q6;obtain⟨H,b,I,F⟩:=Ba i t x u;clear i g t x u;go_enter func30,ntmps30;go_wp2_with fail;refine(Sj I.o P (Y M Q N) m d f pb L rb w b.o.ok b.o.pn b.o.nm H.o F.o (Nat.lt_of_le_of_lt (iF _) b.o.mn) n k S U V).mono ?_;rintro e w2 ⟨⟨v,l,rfl,o,C,y⟩,z⟩;obtain⟨p,s,r,rfl⟩:=Ad o;have K:D (TI (Cd P) ((least P).I (pN n k)) 16400 w (.returned (.tuple #[Y p s r,G A 0])) w2):=⟨⟨_,l,rfl,o,C,y⟩,z⟩;clear o C y z;go_wp2_with(go_at_call 63;refine(IR p s r _).mono ?_;rintro e E ⟨rfl,j⟩;have j:=j.symm;subst j);refine gZ (v:=.tuple #[Y p s r,G A 0]) (by simp[results,results30,go_sem]) rfl K.o
theorem QC(s:SrtAll)(P:List PFn)(i j b x:Nat)(w:World)(r:AnHy P i j b)(h:FH P i j b x w)(n:Nat)(N:1<=n)(Q:n<=b):
 Calls prog 31 #[.pointer (T ⟨x,0,Z⟩),G A n] w fun e z=>TI (CR P) ((least P).E n) 12 w e z:=by
 obtain⟨M,S,H,rb,d,f⟩:=h;obtain⟨I,L,K,R⟩:∃a l c,M=Y a l c:=by obtain⟨cs,q,_⟩:=f.pl;exact Ad q
 subst R;obtain⟨U,V,X,q3,q4,q5,q6⟩:=d.e7 0 1 2 3 4 5 6;have lb:=Ae d;simp only[DV,gR,gP,gQ]at U V X q3 q4 q5 q6;obtain⟨B,F,C⟩:=Ax f r s;clear f d r s;go_enter func31,ntmps31;go_wp2_with fail;refine(UT C.o P (Y I L K) i j b S H rb w F.o.ok B.o n N Q).mono ?_;rintro e w2 ⟨⟨v,l,rfl,k,y,t⟩,u⟩;obtain⟨m,p,o,rfl⟩:=Ad k;have E:D (TI (CR P) ((least P).E n) 12 w (.returned (.tuple #[Y m p o,G A 0])) w2):=⟨⟨_,l,rfl,k,y,t⟩,u⟩;clear k y t u;go_wp2_with(go_at_call 63;refine(IR m p o _).mono ?_;rintro e z ⟨rfl,g⟩;have g:=g.symm;subst g);refine gZ (v:=.tuple #[Y m p o,G A 0]) (by simp[results,results31,go_sem]) rfl E.o
theorem QH(u:SrtAll)(P:List PFn)(k m f C:Nat)(w:World)(s:AnHy P k m f)(h:FH P k m f C w)(t:ItOk w)(a b:ByteArray)(c:Nat)(x:GH P a b 0=T c):
 Calls prog 26 #[.pointer (T ⟨C,0,Z⟩),.string a,.string b] w fun e F=>TI (Cd P) ((least P).I c) 16400 w e F:=by
 obtain⟨U,X,N,rb,g,i⟩:=h;obtain⟨Q,S,R,V⟩:∃a l c,U=Y a l c:=by obtain⟨cs,q,_⟩:=i.pl;exact Ad q
 subst V;obtain⟨q0,q1,q2,q3,q4,q5,q6⟩:=g.e7 0 1 2 3 4 5 6;have lb:=Ae g;simp only[DV,gR,gP,gQ]at q0 q1 q2 q3 q4 q5 q6;obtain⟨K,d,L,I,H⟩:=BB i s u t x;clear i g s u t x;go_enter func26,ntmps26;go_wp2_with fail;refine(M8 L.o P (Y Q S R) k m f X N rb w d.o.ok d.o.pn d.o.nm K.o I.o (Nat.lt_of_le_of_lt (iF _) d.o.mn) a b).mono ?_;rintro e w2 ⟨y,_⟩;obtain⟨⟨v,l,rfl,n,E,z⟩,B⟩:=y c H.o;clear y;obtain⟨o,r,p,rfl⟩:=Ad n;have M:D (TI (Cd P) ((least P).I c) 16400 w (.returned (.tuple #[Y o r p,G A 0])) w2):=⟨⟨_,l,rfl,n,E,z⟩,B⟩;clear n E z B;go_wp2_with(go_at_call 63;refine(IR o r p _).mono ?_;rintro e F ⟨rfl,j⟩;have j:=j.symm;subst j);refine gZ (v:=.tuple #[Y o r p,G A 0]) (by simp[results,results26,go_sem]) rfl M.o
def Nu(b:Bd):Prop:=∀s,s∈b.r9->(s.kind=1->1<=s.cK/\s.cK<=b.pl)/\(s.kind=8->1<=s.cK/\s.cK<=b.ca)
def TP(b c:Bd):Prop:=Nu c/\b.pl<=c.pl/\b.ca<=c.ca
theorem TP.tr{a b c:Bd}(h:TP a b)(k:TP b c):TP a c:=⟨k.1,iG h.2.1 k.2.1,iG h.2.2 k.2.2⟩
theorem Qe{l:List Be}{i:Nat}{f:Be->Be}{s:Be}(h:s∈l.modify i f):∃t,t∈l/\(s=t\/s=f t):=by
 obtain⟨j,a,e⟩:=iP.1 h;rw[List.length_modify]at a;rw[List.getElem_modify]at e;refine⟨l[j],iA _,?_⟩;split at e
 .exact .inr e.symm
 .exact .inl e.symm
theorem TP.tk{a b:Bd}(h:TP a b)(i n:Nat):TP a (b.tk i n):=⟨fun s d=>by
 obtain⟨t,c,rfl|rfl⟩:=Qe d
 .exact h.1 _ c
 .exact h.1 t c,h.2⟩
theorem TP.nx{a b:Bd}(h:TP a b)(i n:Nat):TP a (b.nx i n):=⟨fun s d=>by
 obtain⟨t,c,rfl|rfl⟩:=Qe d
 .exact h.1 _ c
 .exact h.1 t c,h.2⟩
theorem Nu.stepA{b:Bd}(h:Nu b)(c:List ByteArray)(s:VS)(a:Nat):TP b (Ar c s a b):=by
 have d:(Proofs.YtaningfhibkemaaGreatDoor.Ar c s a b).pl=if s.kind=1 then b.pl+1 else b.pl:=rfl
 have f:(Proofs.YtaningfhibkemaaGreatDoor.Ar c s a b).ca=if s.kind=8 then b.ca+1 else b.ca:=rfl
 refine⟨fun u g=>?_,by rw[d];split<;>omega,by rw[f];split<;>omega⟩;rcases iW.1 g with q|q
 .have:=h u q;exact⟨fun k=>⟨(this.1 k).1,by have:=(this.1 k).2;rw[d];split<;>omega⟩,fun k=>⟨(this.2 k).1,by have:=(this.2 k).2;rw[f];split<;>omega⟩⟩
 .rw[iL.1 q];refine⟨fun k=>?_,fun k=>?_⟩
  .have k:s.kind=1:=k;have e:({AB c s b with next:=a}:Be).cK=b.pl+1:=by simp[AB,k]
   rw[e,d,jR k];omega
  .have k:s.kind=8:=k;have e:({AB c s b with next:=a}:Be).cK=b.ca+1:=by simp[AB,k]
   rw[e,f,jR k];omega
mutual
theorem Te(fn:List ByteArray):∀(t:TS) (a:Nat) (b:Bd),Nu b->TP b (Dx fn t a b)
 |.mk s [],a,b,h=>by rw[Dx];exact h.stepA fn s a
 |.mk s [(_,ts)],a,b,h=>by
  have hA:=h.stepA fn s a;rw[Dx];split
  .exact(hA.tr (Ht fn ts a _ hA.1)).tk _ _
  .split
   .exact(hA.tr (Ht fn ts _ _ hA.1)).tk _ _
   .exact hA
 |.mk s ((_,ts)::(_,ts2)::r),a,b,h=>by
  have hA:=h.stepA fn s a;rw[Dx];split
  .have h1:=(hA.tr (Ht fn ts a _ hA.1)).tk b.r9.length (AN ts a (Ar fn s a b));exact(h1.tr (Ht fn ts2 a _ h1.1)).nx _ _
  .exact hA
theorem Ht(fn:List ByteArray):∀(ts:List TS) (a:Nat) (b:Bd),Nu b->TP b (AU fn ts a b)
 |[],a,b,h=>by rw[AU];exact⟨h,gS _,gS _⟩
 |[t],a,b,h=>by rw[AU];exact Te fn t a b h
 |t::t2::ts,a,b,h=>by have h1:=Te fn t (b.r9.length+Fb t) b h;rw[AU];exact h1.tr (Ht fn (t2::ts) a _ h1.1)
end
theorem VJ(c:List ByteArray)(t:TF)(b a:Nat):Nu (GK c t b a)/\b<=(GK c t b a).pl/\a<=(GK c t b a).ca:=Ht c t.cP (Dy t.cP) (Rh t b a) (fun s d=>by cases d)
theorem Qs(c:List ByteArray):∀(l:List TF) (b a:Nat),b<=(BU c l b a).1/\a<=(BU c l b a).2
 |[],_,_=>⟨gS _,gS _⟩
 |t::l,b,a=>by have d:=VJ c t b a;have e:=Qs c l (GK c t b a).pl (GK c t b a).ca;rw[BU];exact⟨iG d.2.1 e.1,iG d.2.2 e.2⟩
theorem Qu(a:List ByteArray):∀(l:List TF) (c b:Nat) (f:PFn),f∈Bl a l c b->∀s,s∈f.r9->(s.kind=1->1<=s.cK/\s.cK<=(BU a l c b).1)/\(s.kind=8->1<=s.cK/\s.cK<=(BU a l c b).2)
 |[],_,_,f,h=>by cases h
 |t::l,c,b,f,h=>by
  rw[Bl]at h;rw[BU];rcases jJ.1 h with rfl|q
  .intro s g;have d:=(VJ a t c b).1 s g;have e:=Qs a l (GK a t c b).pl (GK a t c b).ca;exact⟨fun k=>⟨(d.1 k).1,iG (d.1 k).2 e.1⟩,fun k=>⟨(d.2 k).1,iG (d.2 k).2 e.2⟩⟩
  .exact Qu a l _ _ f q
theorem Kl{fn:List ByteArray}{par:List Nat}:∀(l:List TF) (b a:Nat),(∀t,t∈l->ID fn par t.cP (t.u9.map fun p=>p.d9))->BU fn l b a=(b+(l.map fun t=>nL 1 t.cP).sum,a+(l.map fun t=>nL 8 t.cP).sum)
 |[],_,_,_=>rfl
 |t::l,b,a,c=>by obtain⟨_,d,e,_⟩:=Mo (fn:=fn) (par:=par) t b a (c t (jP ..));rw[BU,d,e,Kl l _ _ (fun t f=>c t (iK _ f))];simp only[iU,jC,Nat.add_assoc]
theorem IW{f g:TF->Nat}(h:∀t,f t<=g t):∀(l:List TF),(l.map f).sum<=(l.map g).sum
 |[]=>gS _
 |t::l=>by have a:=h t;have b:=IW h l;simp only[iU,jC];omega
theorem GoodP.anHy{a:List TF}(b:GoodP a):AnHy (Bl (fnN a) a 0 0) (vx (fnN a) EN) (BU (fnN a) a 0 0).1 (BU (fnN a) a 0 0).2:=by
 have e:=Kl (fn:=fnN a) (par:=paN a) a 0 0 b.dW.ok;have n:=IW (f:=fun t=>nL 1 t.cP) (g:=fun t=>Dy t.cP) (fun t=>KF 1 t.cP) a;have o:=IW (f:=fun t=>nL 8 t.cP) (g:=fun t=>Dy t.cP) (fun t=>KF 8 t.cP) a;have p:=b.sum;have j:(BU (fnN a) a 0 0).1<=4000:=by rw[e];simp only;omega
 have m:(BU (fnN a) a 0 0).2<=4000:=by rw[e];simp only;omega
 have d:=D6 (fn:=fnN a) a 0 0;refine⟨⟨b.fS,by rw[d];exact b.dW.dC,by omega,by omega,fun i c s h=>?_⟩,j,b.gA,?_⟩
 .have k:As (Bl (fnN a) a 0 0) i∈Bl (fnN a) a 0 0:=by unfold As;rw[gV c];exact iA _
  have:=Qu (fnN a) a 0 0 _ k s h
  exact⟨this.1,this.2,(b.fS.ok i c s h).field⟩
 .have:=(Iy (l:=fnN a) (s:=EN) b.dW.main).1;rw[d];simpa[fnN]using this
theorem CI{w a}(h:Below (World.heap w).size w a):O kJ w a:=⟨h.os,h.tape,h.output,h.size,fun k b _=>h.block k b⟩
theorem Og(L:Q7)(s:ByteArray)(b:List TF)(y:Nat)(i:GoodP b)(H:∀t,t∈b->∀u,u∈t.cP->OZ 4000 u)(w:World)(V:JZ w)(X:0<w.heap.size)
 (F:Calls prog 13 #[.string s] w fun e d=>∃(g n E:Nat) (a:Option Addr) (l c:Nat) (U:Nat->Prop),e=.returned (.tuple #[Y (T ⟨g,0,Z⟩) n E,.agg #[Y a l c,G A y],G A 0,G A 0])/\DM 4000 U d (Y a l c) b/\(∀k,U k->k<d.heap.size)/\Below w.heap.size w d):
 Calls prog 8 #[.string s] w fun e d=>∃x,e=.returned (.tuple #[.pointer (T ⟨x,0,Z⟩),G A 0,G A 0])/\w.heap.size<=x/\FH (Bl (fnN b) b 0 0) (vx (fnN b) EN) (BU (fnN b) b 0 0).1 (BU (fnN b) b 0 0).2 x d/\O kJ w d:=by
 obtain⟨B,m,a1,HC,HT⟩:=BB F i.anHy (i.gB H) L V;clear F i H L V;go_enter func8,ntmps8;go_wp2_with fail;refine B.o.mono ?_;rintro e w2 ⟨g,n,E,a,l,c,U,rfl,Q,S,K⟩;obtain⟨O2,a2,a3,h⟩:=Ba (CI K) Q S ((O.refl kJ w2).alloc (.cells #[Y a l c,G A y] 60));clear K B Q S;go_wp2_with(first
  |(go_at_call 16;refine(YK 4000 U (Y a l c) b y _ (a2.o.d8 h.o (fun _ _ q=>q)) (fun k hk=>by have:=a3.o k hk;have:=h.o.size;omega) a1.o).mono ?_;rintro e w4 ⟨fv,rfl,P,M⟩;have a0:=J P;have j:=J (O2.o.trans (h.o.trans M));clear P M)
  |(go_at_call 15;refine(ZK HC.o (Bl (fnN b) b 0 0) fv (vx (fnN b) EN) (BU (fnN b) b 0 0).1 (BU (fnN b) b 0 0).2 w4 m.o.ok m.o.nm (a0.o.base (iF _)) m.o.mn (HT.o.d8 j.o id X) (iI X j.o.size)).mono ?_;rintro e f ⟨a4,p,o,r,rfl,R,N⟩;have C:=J R;have z:=J (j.o.trans N);clear R N;obtain⟨xa,xl,xc,rfl⟩:∃a l c,a4=Y a l c:=(match C.o.pl with|⟨_,q,_⟩=>Ad q);unfold DV))
 have a5:=W.new f (DV (Y xa xl xc) (vx (fnN b) EN) (BU (fnN b) b 0 0).1 (BU (fnN b) b 0 0).2 p o r) 75;have I:=(O.refl kJ f).alloc (.cells (DV (Y xa xl xc) (vx (fnN b) EN) (BU (fnN b) b 0 0).1 (BU (fnN b) b 0 0).2 p o r) 75);refine gZ (v:=.tuple #[.pointer (T ⟨f.heap.size,0,Z⟩),G A 0,G A 0]) (by simp[results,results8,go_sem]) rfl ⟨f.heap.size,rfl,z.o.size,⟨_,p,o,r,a5,C.o.s9 I⟩,z.o.trans I⟩
theorem FH.cI{P g i e j w l b m t}(h:FH P g i e j w)(f:O (fun k=>k=b) w l)(c:W b m t w)(a:t≠3/\t≠9/\t≠189/\t≠134/\t≠75)(r:0≠b):FH P g i e j l:=by obtain⟨o,s,n,u,d,p⟩:=h;exact⟨o,s,n,u,d.d8 f (fun q=>by subst q;unfold W at d c;rw[d]at c;cases c;exact a.2.2.2.2 rfl),p.other f c ⟨a.1,a.2.1,a.2.2.1,a.2.2.2.1⟩ r⟩
theorem QJ(o:Value)(F:∃a l c,o=Y a l c)(g b d i f j:Nat)(w:World)(n:Nat)(k:Int)(h:n<1\/b<n\/k<0\/4<=k):
 Calls prog 67 #[.agg (DV o g b d i f j),G A n,G A k] w fun e I=>e=.returned (.tuple #[Y Z 0 0,.bool false])/\O kJ w I:=by
 have s:D (O kJ w (w.alloc (.cells (DV o g b d i f j) 71))):=(O.refl _ w).alloc _;have p:=J (W.new w (DV o g b d i f j) 71);obtain⟨t,x,u,rfl⟩:=F;go_enter func67,ntmps67;go_upto_region 1 with fail;change Code.wp _ _ _ _ (w.alloc (.cells (DV (Y t x u) g b d i f j) 71));generalize w.alloc (.cells (DV (Y t x u) g b d i f j) 71)=K at*;have C:=p.o.cell 2;have M:=Ae p.o;simp only[DV,gR,gP,gQ]at C;have m:=J s.o;clear s p;rcases(by omega:n<1\/(¬n<1/\b<n)\/(¬n<1/\¬b<n/\k<0)\/(¬n<1/\¬b<n/\¬k<0/\4<=k))with q|⟨z,B⟩|⟨z,B,H⟩|⟨z,B,H,N⟩
 .have r:decide ((n:Int)<1)=true:=by simp;omega
  go_wp2_with fail;refine gZ (v:=.tuple #[Y Z 0 0,.bool false]) (by simp[results,results67,go_sem]) rfl ⟨rfl,m.o⟩
 .have r:decide ((n:Int)<1)=false:=by simp;omega
  have y:decide ((b:Int)<(n:Int))=true:=by simp;omega
  go_wp2_with fail;refine gZ (v:=.tuple #[Y Z 0 0,.bool false]) (by simp[results,results67,go_sem]) rfl ⟨rfl,m.o⟩
 .have r:decide ((n:Int)<1)=false:=by simp;omega
  have y:decide ((b:Int)<(n:Int))=false:=by simp;omega
  have E:decide (k<0)=true:=by simp;omega
  go_wp2_with fail;refine gZ (v:=.tuple #[Y Z 0 0,.bool false]) (by simp[results,results67,go_sem]) rfl ⟨rfl,m.o⟩
 .have r:decide ((n:Int)<1)=false:=by simp;omega
  have y:decide ((b:Int)<(n:Int))=false:=by simp;omega
  have E:decide (k<0)=false:=by simp;omega
  have L:decide (4<=k)=true:=by simp;omega
  go_wp2_with fail;refine gZ (v:=.tuple #[Y Z 0 0,.bool false]) (by simp[results,results67,go_sem]) rfl ⟨rfl,m.o⟩
theorem Sd(P:List PFn)(m:Value)(f i b g d j:Nat)(w:World)(h:SetsAt P (least P) m f i b g d j w)(n:Nat)(M:n<1\/b<n)(N:n<20000):
 Calls prog 68 #[.agg (DV m f i b g d j),G A n] w fun e K=>e=.returned (.tuple #[Y Z 0 0,.bool false])/\O kJ w K:=by
 have r:D (O kJ w (w.alloc (.cells (DV m f i b g d j) 71))):=(O.refl _ w).alloc _;have o:=J (W.new w (DV m f i b g d j) 71);have p:=J h;obtain⟨u,y,x,H⟩:∃a l c,m=Y a l c:=by obtain⟨L,q,_⟩:=h.pl;exact Ad q
 subst H;clear h;go_enter func68,ntmps68;go_upto_region 1 with fail;change Code.wp _ _ _ _ (w.alloc (.cells (DV (Y u y x) f i b g d j) 71));generalize w.alloc (.cells (DV (Y u y x) f i b g d j) 71)=E at*;have F:=o.o.cell 5;have Q:=Ae o.o;simp only[DV,gR,gP,gQ]at F;obtain⟨s,C,t,I⟩:=(p.o.s9 r.o).em;have B:s n=Z:=by
  cases q:s n with
  |none=>rfl
  |some k=>exact jY ((t n).1 ⟨k,q⟩) (by omega)
 have z:=(C.look Eh underlying67 (Cs E) (k:=n) (by omega) true).1 B;unfold Hd at z;simp only[if_true]at z;clear C t I B p;go_wp2_with fail;refine gZ (v:=.tuple #[Y Z 0 0,.bool false]) (by simp[results,results68,go_sem]) rfl ⟨rfl,r.o⟩
theorem QF(P:List PFn)(m f g p:Nat)(w:World)(h:FH P m f g p w)(n:Nat)(k:Int)(i:n<1\/f<n\/k<0\/4<=k):
 Calls prog 30 #[.pointer (T ⟨p,0,Z⟩),G A n,G A k] w fun e r=>e=.returned (.tuple #[Y Z 0 0,G A 8])/\O kJ w r:=by
 obtain⟨B,E,u,Q,b,j⟩:=h;obtain⟨x,z,y,C⟩:∃a l c,B=Y a l c:=by obtain⟨R,q,_⟩:=j.pl;exact Ad q
 subst C;obtain⟨F,H,I,K,L,M,N⟩:=b.e7 0 1 2 3 4 5 6;have S:=Ae b;simp only[DV,gR,gP,gQ]at F H I K L M N;have s:=J (QJ (Y x z y) ⟨_,_,_,rfl⟩ m f g E u Q w n k i);clear j b i;go_enter func30,ntmps30;go_wp2_with(first
  |(go_at_call 67;refine s.o.mono ?_;rintro e U ⟨rfl,o⟩;have t:=J o;clear o)
  |(go_at_call 63;refine(ND Z 0 0 _).mono ?_;rintro e r ⟨rfl,d⟩;have d:=d.symm;subst d))
 refine gZ (v:=.tuple #[Y Z 0 0,G A 8]) (by simp[results,results30,go_sem]) rfl ⟨rfl,t.o⟩
theorem OC(P:List PFn)(j m b o:Nat)(w:World)(h:FH P j m b o w)(n:Nat)(i:n<1\/b<n)(B:n<20000):
 Calls prog 31 #[.pointer (T ⟨o,0,Z⟩),G A n] w fun e p=>e=.returned (.tuple #[Y Z 0 0,G A 8])/\O kJ w p:=by
 obtain⟨z,E,t,Q,d,f⟩:=h;obtain⟨u,y,x,C⟩:∃a l c,z=Y a l c:=by obtain⟨R,q,_⟩:=f.pl;exact Ad q
 subst C;obtain⟨F,H,I,K,L,M,N⟩:=d.e7 0 1 2 3 4 5 6;have S:=Ae d;simp only[DV,gR,gP,gQ]at F H I K L M N;have r:=J (Sd P (Y u y x) j m b E t Q w f n i B);clear f d i;go_enter func31,ntmps31;go_wp2_with(first
  |(go_at_call 68;refine r.o.mono ?_;rintro e U ⟨rfl,k⟩;have s:=J k;clear k)
  |(go_at_call 63;refine(ND Z 0 0 _).mono ?_;rintro e p ⟨rfl,g⟩;have g:=g.symm;subst g))
 refine gZ (v:=.tuple #[Y Z 0 0,G A 8]) (by simp[results,results31,go_sem]) rfl ⟨rfl,s.o⟩

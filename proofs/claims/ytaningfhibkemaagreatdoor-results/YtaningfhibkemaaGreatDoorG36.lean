/- Part of the proof: ArE ArF ArG ArH ArI ArJ ArK ArL ArM. -/
import Derived.Test.YtaningfhibkemaaGreatDoorG35
set_option maxRecDepth 100000
set_option maxHeartbeats 4000000
namespace Go.Proofs.YtaningfhibkemaaGreatDoor
open Go.RowKit Go.Maps Go.Proofs.Tryz
abbrev aR:Array Value:=#[.slice none 0 0,.int .i64 0,.int .i64 0,.int .i64 0,.map none,.map none,.map none]
theorem D6.sets{P r m i a j f o v w l}(h:D6 P r m a j f o v w)(b:v.s.le (least P))(d:(least P).le v.s)(n:Bv 0 w i (P.map CG))(p:Bl l (Gz P v.s a) w):SetsAt P (least P) i a j f (o.om 0) (o.om 1) l w:=
 ⟨n,⟨o.bk 0,h.r.mp 0 Z,fun c=>h.r.d0 c 0 (.inl rfl),fun c k q=>(h.r.st 0 c k q).iff fun x=>⟨fun q=>b.i c x (q.1 rfl),fun q=>⟨fun _=>d.i c x q,fun e=>jO e T,fun e=>jO e T,fun e=>jO e T,fun e=>jO e T⟩⟩⟩,
   ⟨o.bk 1,h.r.mp 1 Z,h.r.d1,fun c k q=>(h.r.st 1 c k q).iff fun x=>⟨fun q=>b.e c x (q.2.1 rfl),fun q=>⟨fun e=>jO e T,fun _=>d.e c x q,fun e=>jO e T,fun e=>jO e T,fun e=>jO e T⟩⟩⟩,
   p.iff fun g=>Gz.iff b d a g,h.tb,h.tl⟩
theorem Bv.base{B b w c P}(h:Bv B w c P)(a:b<=B):Bv b w c P:=by obtain⟨d,f,g,j⟩:=h;refine⟨d,Aq f a,g,fun i q m=>?_⟩;obtain⟨o,n,e,k,l⟩:=j i q m;exact⟨o,n,e,Aq k a,l.base a⟩
theorem SetsAt.other{P S n r v i u l y w B b F t}(h:SetsAt P S n r v i u l y w)(k:O (fun k=>k=b) w B)(a:W b F t w)(M:t≠3/\t≠9/\t≠189/\t≠134)(L:0≠b):SetsAt P S n r v i u l y B:=by
 have f:∀{x m},Bl x m w->¬x=b:=by rintro x m d rfl;obtain⟨I,c,e⟩:=d.isMap;unfold W at a;rw[a]at e;cases e
 have s:∀{x g},BK IK IJ x g w->¬x=b:=by rintro x g d rfl;obtain⟨I,c,e⟩:=d.isMap;unfold W at a;rw[a]at e;cases e
 obtain⟨C,o,G,z⟩:=h.pm;obtain⟨E,p,H,A⟩:=h.em;refine⟨h.pl.d8 k (fun j N R Q K q=>?_),⟨C,o.d8 k (s o),G,fun c x q=>(z c x q).d8 k (f (z c x q))⟩,⟨E,p.d8 k (s p),H,fun c x q=>(A c x q).d8 k (f (A c x q))⟩,h.rs.d8 k (f h.rs),h.tb.d8 k L h.tl,gY h.tl k.size⟩;subst K;unfold W at a;rw[a]at q;cases q;exact M
theorem Zz(hc:QU)(P:List PFn)(fv:Value)(f g d:Nat)(w:World)(A:AnOk P g d)(hn:PnOk P)(R:Bv 0 w fv P)(hm:f<P.length)(tb:JQ w)(tl:0<w.heap.size):
 Calls prog 15 #[.agg #[fv,.int .i64 f,.int .i64 g,.int .i64 d]] w fun e r=>∃F pb eb z,e=.returned (.agg (DO F f g d pb eb z))/\SetsAt P (least P) F f g d pb eb z r/\O kD w r:=by
 obtain⟨j,i,rfl,c5⟩:=R.form Z;have M:D (O kD w ((w.alloc (.cells #[.slice (some ⟨j,0,none⟩) P.length i,.int .i64 f,.int .i64 g,.int .i64 d] 66)).alloc (.cells aR 71))):=((O.refl _ w).alloc _).alloc _;have H:D (W w.heap.size #[.slice (some ⟨j,0,none⟩) P.length i,.int .i64 f,.int .i64 g,.int .i64 d] 66 ((w.alloc (.cells #[.slice (some ⟨j,0,none⟩) P.length i,.int .i64 f,.int .i64 g,.int .i64 d] 66)).alloc (.cells aR 71))):=(W.new w _ _).alloc _;have I:D (W (w.heap.size+1) aR 71 ((w.alloc (.cells #[.slice (some ⟨j,0,none⟩) P.length i,.int .i64 f,.int .i64 g,.int .i64 d] 66)).alloc (.cells aR 71))):=by have:=W.new (w.alloc (.cells #[.slice (some ⟨j,0,none⟩) P.length i,.int .i64 f,.int .i64 g,.int .i64 d] 66)) aR 71;rw[show(w.alloc (.cells #[.slice (some ⟨j,0,none⟩) P.length i,.int .i64 f,.int .i64 g,.int .i64 d] 66)).heap.size=w.heap.size+1 by simp]at this;exact this
 have u:=J A;have HN:=J hn;have HP:=J R;have HT:=J tb;have HC:=J hc;clear A hn R tb hc;go_enter func15,ntmps15;go_upto_region 1 with fail;generalize World.alloc (World.alloc w _) _=E at*;obtain⟨h,Q⟩:∃b,b=w.heap.size+1:=⟨_,rfl⟩;rw[<-Q]at I;rw[<-Q];have b8:w.heap.size<h:=Z;clear Q;generalize a5:w.heap.size=n at*;have K:=J a5;clear a5;have s2:h<E.heap.size:=Ae I.o;obtain⟨c0,c1,c2,c3⟩:=H.o.e4 0 1 2 3;have l1:=Ae H.o;simp only[gH,gF,gG]at c0 c1 c2 c3;have a2:=J (HT.o.d8 M.o id (by have:=K.o;omega));have b7:0<E.heap.size:=Z;go_wp2_with fail;refine(MP P (.slice (some ⟨j,0,none⟩) P.length i) f g d E u.o (HP.o.s9 M.o) a2.o b7).mono ?_;rintro e w2 ⟨t,o,rfl,hE,a7,o2,a4⟩;have X:=J hE;have a0:=J a7;have O2:=J o2;have a1:=J a4;clear hE a7 o2 a4 c0 c1 c2 c3 a2;go_wp2_with fail;refine(UQ P t (.slice (some ⟨j,0,none⟩) P.length i) f g d o Sv.zero w2 u.o X.o a1.o).mono ?_;rintro e w3 ⟨rfl,p,v',N,h1,h2⟩;have O3:D (O kD E w3):=O2.o.thn N.on (fun k hk q=>by have:=a0.o k q;omega);have L:=J N.e;have Y:=J h1;have b0:=J h2;clear N h1 h2 X a0 a1 O2;go_wp2_with fail;refine(Qr P t (.slice (some ⟨j,0,none⟩) P.length i) f g d p v' w3 u.o L.o hm Y.o).mono ?_;rintro e B ⟨z,rfl,_,s4,U⟩;have x:=J (L.o.s9 U);have C:=J (O3.o.trans U);have S4:=J s4;clear s4 U L O3;have HW:D (∀s,O kD B s->s.cell? ⟨n,0,none⟩=some (.slice (some ⟨j,0,none⟩) P.length i)/\s.cell? ⟨n,1,none⟩=some (.int .i64 f)/\s.cell? ⟨n,2,none⟩=some (.int .i64 g)/\s.cell? ⟨n,3,none⟩=some (.int .i64 d)/\s.cell? ⟨t,4,none⟩=some (.map (some (p.om 0)))/\s.cell? ⟨t,5,none⟩=some (.map (some (p.om 1)))):=fun s h'=>by have hb:=H.o.d8 (C.o.trans h') id;have hs:=x.o.r.bY.d8 h' id;obtain⟨q0,q1,q2,q3⟩:=hb.e4 0 1 2 3;obtain⟨q4,q5⟩:=hs.e2 4 5;simp only[G7,gH,gF,gG]at q0 q1 q2 q3 q4 q5;exact⟨q0,q1,q2,q3,q4,q5⟩
 have V:=J (I.o.d8 C.o id);obtain⟨r0,r1,r2,r3,r4,r5⟩:=HW.o B (O.refl _ _);have b9:n<B.heap.size:=gY l1 C.o.size;have c6:=Ae x.o.r.bY;have nb:h≠n:=Z;have c7:h≠t:=V.o.ne x.o.r.bY T;have a3:=u.o.ok;have b6:=u.o.cR;have b4:=J a3;clear a3;go_wp2_with fail;go_region_held3(fun r=>r.cell? ⟨n,0,none⟩=some (.slice (some ⟨j,0,none⟩) P.length i)/\r.cell? ⟨n,1,none⟩=some (.int .i64 f)/\r.cell? ⟨n,2,none⟩=some (.int .i64 g)/\r.cell? ⟨n,3,none⟩=some (.int .i64 d)/\r.cell? ⟨t,4,none⟩=some (.map (some (p.om 0)))/\r.cell? ⟨t,5,none⟩=some (.map (some (p.om 1)))) (go_keep)
  (first
    |(go_at_call 43;refine(Vw HC.o P (.slice (some ⟨j,0,none⟩) P.length i) f g d _ (x.o.pl.s9 ((O.refl kD B).drew)) b4.o HN.o b6 Z).mono ?_;rintro e G ⟨F,rfl,p5,u5⟩;have y:=J (O.trans ((O.refl kD B).drew) u5);have P5:=J p5;obtain⟨fa,fl,fc,rfl⟩:∃a l c,F=.slice a l c:=(match P5.o with|⟨_,q,_⟩=>Ad q);clear u5 p5;obtain⟨m0,m1,m2,m3,m4,m5⟩:=HW.o G y.o;have m:=J (V.o.d8 y.o id);obtain⟨d0,d1,d2,d3,d4,d5,d6⟩:=m.o.e7 0 1 2 3 4 5 6;have z0:=m.o.frozen 0;have z1:=m.o.frozen 1;have z2:=m.o.frozen 2;have z3:=m.o.frozen 3;have z4:=m.o.frozen 4;have z5:=m.o.frozen 5;have z6:=m.o.frozen 6;have c4:=Ae m.o;simp only[gH,gF,gG]at d0 d1 d2 d3 d4 d5 d6))
 all_goals
  have S:O (fun k=>k=h) G (((((((G.setCell ⟨h,0,none⟩ (.slice fa fl fc)).setCell ⟨h,1,none⟩ (.int .i64 f)).setCell ⟨h,2,none⟩ (.int .i64 g)).setCell ⟨h,3,none⟩ (.int .i64 d)).setCell ⟨h,4,none⟩ (.map (some (p.om 0)))).setCell ⟨h,5,none⟩ (.map (some (p.om 1)))).setCell ⟨h,6,none⟩ (.map (some z))):=(((((((O.refl _ G).t9 0 _).t9 1 _).t9 2 _).t9 3 _).t9 4 _).t9 5 _).t9 6 _;have a8:=(x.o.s9 y.o).sets Y.o b0.o (P5.o.base (gV _)) (S4.o.d8 y.o id);have a9:=a8.other S m.o T (by have:=K.o;omega);have a6:O kD w _:=(M.o.trans (C.o.trans y.o)).thn S (fun k hk q=>by have:=K.o;omega);have b5:=J a9;have b3:=J a6;clear S a8 a9 a6;go_wp2_with fail;refine gP (v:=.agg (DO (.slice fa fl fc) f g d (p.om 0) (p.om 1) z)) (by simp[results,results15,go_sem,d0,d1,d2,d3,d4,d5,d6,DO]) rfl ⟨_,_,_,_,rfl,b5.o,b3.o⟩
def SrtAll:Prop:=∀(B:Nat) (v:Value) (l:List ByteArray) (c:World),Au B c v l->l.length<=1000000->Calls prog 137 #[v] c fun e f=>e=.returned (.tuple #[])/\∃d,Au B f v d/\d.Perm l/\d.Pairwise (fun a b=>GC b a=false)/\O (fun k=>v.ownBlock=some k) c f
theorem Rv(w:World):Calls prog 170 #[.int .u64 0] w fun e a=>e=.returned (.int .i64 0)/\a=w:=by go_enter func170,ntmps170;go_wp2_with fail;go_ret;exact⟨by simp[show Lib.len8 0=0 from T,wrap64],rfl⟩
theorem Wh(w:World):Calls prog 151 #[.int .u64 0] w fun e b=>e=.returned (.int .i64 0)/\b=w:=by go_enter func151,ntmps151;go_wp2_with fail;refine(Rv w).mono ?_;rintro e b ⟨rfl,a⟩;have a:=a.symm;subst a;go_wp2_with fail;go_ret;exact⟨rfl,rfl⟩
theorem Px(w:World):Calls prog 160 #[.slice none 0 0,.int .i64 0,.int .i64 0] w fun e a=>e=.returned (.tuple #[])/\a=w:=by go_enter func160,ntmps160;go_wp2;refine wp_loop_rounds 1 ?_;rw[rounds_succ];go_wp2;go_end0;exact⟨rfl,rfl⟩
theorem Wv(w:World):Calls prog 150 #[.slice none 0 0,.int .i64 0,.int .i64 0,.int .i64 0] w fun e b=>e=.returned (.tuple #[])/\b=w:=by go_enter func150,ntmps150;go_wp2;refine wp_loop_rounds 1 ?_;rw[rounds_succ];go_wp2_with fail;refine(Px _).mono ?_;rintro e b ⟨rfl,a⟩;have a:=a.symm;subst a;go_wp2_with fail;refine gP (results_none rfl _ _ _) rfl ?_;exact⟨rfl,rfl⟩
theorem UR(w:World):Calls prog 137 #[.slice none 0 0] w fun e b=>e=.returned (.tuple #[])/\b=w:=by go_enter func137,ntmps137;go_wp2_with fail;refine(Wh _).mono ?_;rintro e b ⟨rfl,a⟩;have a:=a.symm;subst a;go_wp2_with fail;refine(Wv _).mono ?_;rintro e b ⟨rfl,a⟩;have a:=a.symm;subst a;go_wp2_with fail;go_end0;exact⟨rfl,rfl⟩
theorem YG(h:YX):SrtAll:=by
 intro B v l b a m;rcases a.2 with⟨rfl,q⟩|⟨g,f,p,rfl,_⟩
 .have:l=[]:=List.eq_nil_of_length_eq_zero q;subst this;refine(UR b).mono ?_;rintro e o ⟨rfl,rfl⟩;exact⟨rfl,[],a,List.Perm.refl _,List.Pairwise.nil,O.refl _ _⟩
 .refine(h B g f l b a m).mono ?_;rintro e o ⟨rfl,n,c,d,i,j⟩;exact⟨rfl,n,by have:=d.length_eq;rw[<-this]at c;exact this▸c,d,i,j.mono fun k _ q=>by rw[q];rfl⟩
def XD(f:Nat->ByteArray)(m:Nat->Prop)(l:List ByteArray):Prop:=l.Pairwise (fun a b=>GC b a=false)/\∃c:List Nat,c.Pairwise (·≠ ·)/\(∀x,x∈c↔m x)/\l.Perm (c.map f)
def CK(P:List PFn)(i:Nat):ByteArray:=(As P i).name
theorem Sa(hS:SrtAll)(P S Q o r g p n s w)(h:SetsAt P S Q o r g p n s w)(hP:P.length<=12)(sb:Nat)(m:Nat->Prop)(hs:Bl sb m w)(hm:∀x,m x->x<P.length):
 Calls prog 105 #[.agg (DO Q o r g p n s),.map (some sb)] w fun e w'=>∃v l,e=.returned v/\Au w.heap.size w' v l/\XD (CK P) m l/\l.length<=12/\O kD w w':=by
 obtain⟨i0,b8,c4,c5,c6⟩:=info_parts Tryz.infoStr;obtain⟨y,fl,z,b7,b6⟩:∃a l c,Q=.slice a l c/\l=P.length:=by obtain⟨cs,q,_⟩:=h.pl;obtain⟨a,l,c,e⟩:=Ad q;subst e;exact⟨a,l,c,rfl,by have:=Ag q;rw[iJ]at this;exact this⟩
 subst b7 b6;have F:D (O kD w (w.alloc (.cells (DO (.slice y P.length z) o r g p n s) 71))):=(O.refl _ w).alloc _;have L:=J (W.new w (DO (.slice y P.length z) o r g p n s) 71);have a5:=J (hs.d8 F.o id);have M:=J (h.s9 F.o);have HH:=J h;have HM:=J hm;have b4:=J hS;clear h hs hm hS;go_enter func105,ntmps105;go_upto_region 2 with fail;change Code.wp _ _ _ _ (w.alloc (.cells (DO (.slice y P.length z) o r g p n s) 71));generalize w.alloc (.cells (DO (.slice y P.length z) o r g p n s) 71)=W0 at*;obtain⟨b0,U⟩:∃b,b=w.heap.size:=⟨_,rfl⟩;rw[<-U]at L⊢;have c7:=J U;clear U;go_wp2_with fail;refine(DS sb m W0 a5.o M.o.tb M.o.tl).mono ?_;rintro e w2 ⟨nv,d,rfl,G,a1,a0,o2⟩;obtain⟨na,nl,nc,rfl⟩:=Ad G;have c3:=Ag G;subst c3;have c1:d.length<=12:=DJ 12 d a1 fun x f=>gY (HM.o _ ((a0 x).1 f)) hP
 have O2:=J (F.o.trans o2);have t:=J G;have b3:=J a1;have a4:=J a0;have B2:=J (L.o.d8 o2 id);have N2:D (Au w.heap.size w2 (.slice none 0 0) ((d.take 0).map (CK P))):=gR _ _ _ _;clear G a1 a0 o2 a5 M L F;go_wp2_with fail;go_loopw[5,11] (fun v i wr=>∃(j:Nat) (A:Value),A=v/\j<=d.length/\i=.int .i64 j/\D (Au w.heap.size wr A ((d.take j).map (CK P)))/\D (Ax 0 wr (.slice na d.length nc) d)/\D (W b0 (DO (.slice y P.length z) o r g p n s) 71 wr)/\D (O kD w wr)) (fun _ i _=>d.length-(intOf i).toNat)
 case atStart=>exact⟨0,_,rfl,Z,rfl,N2,Aq t.o (gV _),B2,O2⟩
 case round=>
  clear N2 t B2 O2;obtain⟨j,v,rfl,hj,rfl,u,t,B,C⟩:=hrel;by_cases Y:j<d.length
  .have H:=t.o;obtain⟨gl,rfl⟩:=Ap H Z;have a6:=H.cellAt j Z;rw[iL,gL Y]at a6;simp only[Option.map_some]at a6;have d4:=(H.lt gl rfl).2;have b9:(j:Int)<(d.length:Int):=Z;have a3:=J (show j+1<=d.length from Y);have f:=HM.o _ ((a4.o d[j]).1 (gQ _));have HT:D ((d.take (j+1)).map (CK P)=(d.take j).map (CK P)++[CK P d[j]]):=by show _=_;rw[iN Y,jP];rfl
   clear H;generalize d[j]=x at*;have a2:=(HH.o.s9 C.o).pl;obtain⟨gf,cf,e1,d3⟩:=a2.form (by rw[iJ];omega);rw[iJ]at e1;cases e1;obtain⟨vv,sv,V,_,_⟩:=a2.get (i:=x) (by rw[iJ];exact f);have c0:=V 0 Z;simp only[Oo,gF,gX]at c0;have a7:((P.map CG)[x]'(by rw[iJ];exact f)).name=CK P x:=by rw[iU];unfold CK As;rw[gL f];rfl
   rw[a7]at c0;have b5:=B.o.cell 0;have d2:=Ae B.o;simp only[DO,gH,gF]at b5;have d1:(x:Int)<(P.length:Int):=Z;have c9:((d.take j).map (CK P)).length<=12:=by rw[iJ,List.length_take];omega
   have d0:=C.o.size;have b1:=J V;clear a2 V a7 b1;generalize CK P x=nm at*;go_wp2_with(at_builtin;refine iQ _ rfl _ _ 51 rfl w.heap.size 9 i0 (.string ByteArray.empty) 1 16 underlying51 b8 c4 c5 c6 rfl T _ _ _ rfl (u.o.alloc _) ⟨wr.heap.size,0,none⟩ 1 1 [.string nm] rfl rfl (AC jY _ _) (fun x f=>by simp at f;subst f;rfl) jZ Z jX ?_;intro A K a8 X c2);have R:O (fun k=>v.ownBlock=some k) wr K:=O.grown ((O.refl _ wr).alloc _) X (fun k I=>.inl I);have O3:D (O kD w K):=O.grown (C.o.alloc _) X (fun j hj=>.inr (u.o.lt j hj).1);have b2:D (Ax 0 K (.slice (some ⟨gl,0,none⟩) d.length nc) d):=Ai t.o R (fun k cs fz I q=>by obtain⟨c8,e⟩:=Dw u.o k I;rw[e]at q;cases q)
   have a9:=J (B.o.d8 R (fun q=>Am u.o B.o T b0 q rfl));have E:D (Au w.heap.size K A ((d.take (j+1)).map (CK P))):=by show Au _ _ _ _;rw[HT.o];unfold Au;rw[gM,jP];exact a8
   clear X c2 a8 R;go_wp2_with fail;go_roundw
   case rel=>exact⟨j+1,A,rfl,a3.o,by go_num,E,b2,a9,O3⟩
   case measure=>have:=a3.o;simp[intOf];omega
  .have e:j=d.length:=Z;subst e;have b9:decide ((d.length:Int)<(d.length:Int))=false:=jY;have hX:Au w.heap.size wr v (d.map (CK P)):=by have:=u.o;rw[List.take_length]at this;exact this
   have E:=J hX;clear hX;go_wp2_with fail;refine(b4.o w.heap.size v (d.map (CK P)) wr E.o (by rw[iJ];omega)).mono ?_;rintro e w5 ⟨rfl,l,s5,p5,q5,o5⟩;have O5:D (O kD w w5):=C.o.thn o5 (fun k I q=>by have:=(E.o.lt k q).1;omega);have N:D (Au w.heap.size w5 v l/\XD (CK P) m l/\l.length<=12):=⟨s5,⟨q5,d,b3.o,a4.o,p5⟩,by rw[p5.length_eq,iJ];exact c1⟩;clear s5 p5 q5 o5;go_wp2_with fail;go_ret;exact⟨v,l,rfl,N.o.1,N.o.2.1,N.o.2.2,O5.o⟩
theorem KF(hS:SrtAll)(P fv o f g z u B w)(A:AnOk P f g)(e7:f<=4000)(hn:PnOk P)(h:SetsAt P (least P) fv o f g z u B w)(b8:ItOk w)(c:Nat)(hc:AK P f c)(d8:0<P.length):
 Calls prog 103 #[.agg (DO fv o f g z u B),.int .i64 c] w fun e C=>∃v l,e=.returned v/\Au w.heap.size C v l/\XD (BU P) ((least P).I c) l/\l.length<=16400/\O kD w C:=by
 obtain⟨i0,e2,e9,f0,f1⟩:=info_parts Tryz.infoStr;have hP:=A.cR;have a9:=A.ok.t8;obtain⟨s,fl,t,e1,e0⟩:∃a l c,fv=.slice a l c/\l=P.length:=by obtain⟨cs,q,_⟩:=h.pl;obtain⟨a,l,c,e⟩:=Ad q;subst e;exact⟨a,l,c,rfl,by have:=Ag q;rw[iJ]at this;exact this⟩
 subst e1 e0;have O0:D (O kD w (w.alloc (.cells (DO (.slice s P.length t) o f g z u B) 71))):=(O.refl _ w).alloc _;have F:=J (W.new w (DO (.slice s P.length t) o f g z u B) 71);have L:=J (h.s9 O0.o);have HH:=J h;have HM:D (∀x,(least P).I c x->Er P f x):=fun x q=>(Dl A q).2
 have M:=J A;have HN:=J hn;have c6:=J b8;have HV:=J a9;have f5:=hc.lt hP a9 A.lp;have c3:=J hc;have d4:=J hS;clear h hS A hn b8 a9 hc;go_enter func103,ntmps103;go_upto_region 2 with fail;change Code.wp _ _ _ _ (w.alloc (.cells (DO (.slice s P.length t) o f g z u B) 71));generalize w.alloc (.cells (DO (.slice s P.length t) o f g z u B) 71)=W0 at*;obtain⟨m,a1⟩:∃b,b=w.heap.size:=⟨_,rfl⟩;rw[<-a1]at F⊢;have f3:=J a1;clear a1;obtain⟨bk,Y,d1,t1⟩:=L.o.pm;obtain⟨sb,a7⟩:=(d1 c).2 c3.o;have b9:=(Y.look Ea underlying67 (Ci W0) (k:=c) Z false).2 sb a7;unfold GY at b9;have b6:=J (t1 c sb a7);have b4:=F.o.cell 4;have c2:=Ae F.o;simp only[DO,gH,gF,gG]at b4;clear Y d1 t1 a7;go_wp2_with fail;refine(DS sb ((least P).I c) W0 b6.o L.o.tb L.o.tl).mono ?_;rintro e w2 ⟨nv,d,rfl,V,a6,a5,o2⟩;obtain⟨na,nl,nc,rfl⟩:=Ad V;have e8:=Ag V;subst e8;have e5:d.length<=16400:=DJ 16400 d a6 fun x y=>Er.lt M.o (HM.o _ ((a5 x).1 y))
 have O2:=J (O0.o.trans o2);have G:=J V;have c8:=J a6;have b3:=J a5;have B2:=J (F.o.d8 o2 id);have N2:D (Au w.heap.size w2 (.slice none 0 0) ((d.take 0).map (BU P))):=gR _ _ _ _;clear V a6 a5 o2 b6 L F O0 b4 c2 b9;go_wp2_with fail;go_loopw[5,14] (fun v i wr=>∃(j:Nat) (K:Value),K=v/\j<=d.length/\i=.int .i64 j/\D (Au w.heap.size wr K ((d.take j).map (BU P)))/\D (Ax 0 wr (.slice na d.length nc) d)/\D (W m (DO (.slice s P.length t) o f g z u B) 71 wr)/\D (O kD w wr)) (fun _ i _=>d.length-(intOf i).toNat)
 case atStart=>exact⟨0,_,rfl,Z,rfl,N2,Aq G.o (gV _),B2,O2⟩
 case round=>
  clear N2 G B2 O2;obtain⟨j,v,rfl,hj,rfl,HR,G,N,H⟩:=hrel;by_cases a4:j<d.length
  .have X:=G.o;obtain⟨gl,rfl⟩:=Ap X Z;have a2:=X.cellAt j Z;rw[iL,gL a4]at a2;simp only[Option.map_some]at a2;have f2:=(X.lt gl rfl).2;have e3:(j:Int)<(d.length:Int):=Z;have b2:=J (show j+1<=d.length from a4);have y:=HM.o _ ((b3.o d[j]).1 (gQ _));have HT:D ((d.take (j+1)).map (BU P)=(d.take j).map (BU P)++[BU P d[j]]):=by show _=_;rw[iN a4,jP];rfl
   clear X;have g0:=Er.lt M.o y;have a8:=Sj hP HV.o e7 y;generalize d[j]=x at*;have b7:=HH.o.s9 H.o;have d0:=J b7.pl;have d5:=J a8.bare;have c1:IN (P.map CG) (QT x)=IN P (QT x):=Xr P _;have f7:(BU P x).size<=20000:=YK M.o.ok HN.o a8;have f6:((d.take j).map (BU P)).length<=16400:=by rw[iJ,List.length_take];omega
   have f9:=H.o.size;have HW:D (∀r,O kD wr r->r.cell? ⟨m,0,none⟩=some (.slice s P.length t)/\r.cell? ⟨m,1,none⟩=some (.int .i64 o)/\r.cell? ⟨m,2,none⟩=some (.int .i64 f)/\r.cell? ⟨m,3,none⟩=some (.int .i64 g)):=fun r h'=>by have hb:=N.o.d8 h' id;obtain⟨q0,q1,q2,q3⟩:=hb.e4 0 1 2 3;simp only[DO,gH,gF,gG]at q0 q1 q2 q3;exact⟨q0,q1,q2,q3⟩
   obtain⟨r0,r1,r2,r3⟩:=HW.o wr (O.refl _ _);have c2:=Ae N.o;have d6:=J c1;have c7:D (∀a0,O kD wr a0->ItOk a0):=fun a0 hW n r e4 d9=>c6.o n r e4 (H.o.trans (hW.trans d9))
   have d3:=J M.o.ok.bare;have d2:=J HN.o.bare;have d7:0<(P.map CG).length:=by rw[iJ];exact d8
   clear b7 a8 c1;go_upto_region 5 with fail;clear a2 f2;go_region_held3(fun C=>C.cell? ⟨m,0,none⟩=some (.slice s P.length t)/\C.cell? ⟨m,1,none⟩=some (.int .i64 o)/\C.cell? ⟨m,2,none⟩=some (.int .i64 f)/\C.cell? ⟨m,3,none⟩=some (.int .i64 g)) (go_keep)
    (first
      |(go_at_call 136;refine(JE x _ Z).mono ?_;rintro e w4 ⟨rfl,u4⟩;have R:=J (O.trans ((O.refl kD wr).drew) u4);clear u4;obtain⟨m0,Y,m2,m3⟩:=HW.o w4 R.o)
      |(go_at_call 135;refine(Up 0 (.slice s P.length t) o f g (P.map CG) (QT x) w4 (d0.o.s9 R.o) d3.o d2.o d5.o (c7.o w4 R.o) d7).mono ?_;rw[d6.o];rintro e E ⟨rfl,u5⟩;have p:=J (R.o.trans u5);clear u5;obtain⟨m0,Y,m2,m3⟩:=HW.o E p.o;have S:D (Au w.heap.size E v ((d.take j).map (BU P))):=Ac HR.o p.o (fun _ _ q=>q);have f8:=p.o.size;have c9:=J (Am S.o (N.o.d8 p.o id) T))
      |(refine AB rfl _ _ 51 rfl w.heap.size 9 i0 (.string ByteArray.empty) 1 16 underlying51 e2 e9 f0 f1 rfl T _ _ _ rfl (S.o.alloc _) ⟨E.heap.size,0,none⟩ 1 1 [.string (BU P x)] rfl rfl (AC rfl _ _) (fun x y=>by simp at y;subst y;rfl) T jZ Z jX ?_;intro K w3 c0 a3 e6;have U:=J (O.grown ((O.refl (fun k=>v.ownBlock=some k) E).alloc (.cells #[.string (BU P x)] 9)) a3 (fun k I=>.inl I));have b1:=J ((N.o.d8 p.o id).d8 U.o (fun q=>c9.o m q rfl));obtain⟨n0,n1,n2,n3⟩:=b1.o.e4 0 1 2 3;simp only[DO,gH,gF,gG]at n0 n1 n2 n3;have b5:=J c0;have c4:=J a3;clear c0 a3 e6))
   all_goals
    have O3:D (O kD w w3):=(H.o.trans p.o).thn U.o (fun k I q=>by have:=(S.o.lt k q).1;omega);have c5:D (Ax 0 w3 (.slice (some ⟨gl,0,none⟩) d.length nc) d):=Ai (Ac G.o p.o (fun _ _ q=>q)) U.o (fun k cs fz I q=>by obtain⟨f4,e⟩:=Dw S.o k I;rw[e]at q;cases q)
    have Q:D (Au w.heap.size w3 K ((d.take (j+1)).map (BU P))):=by show Au _ _ _ _;rw[HT.o];unfold Au;rw[gM,jP];exact b5.o
    clear b5 c4 U n0 n1 n2 n3;go_wp2_with fail;go_roundw
    case rel=>exact⟨j+1,K,rfl,b2.o,by go_num,Q,c5,b1,O3⟩
    case measure=>have:=b2.o;simp[intOf];omega
  .have e:j=d.length:=Z;subst e;have e3:decide ((d.length:Int)<(d.length:Int))=false:=jY;have hX:Au w.heap.size wr v (d.map (BU P)):=by have:=HR.o;rw[List.take_length]at this;exact this
   have Q:=J hX;clear hX;go_wp2_with fail;refine(d4.o w.heap.size v (d.map (BU P)) wr Q.o (by rw[iJ];omega)).mono ?_;rintro e E ⟨rfl,l,s5,p5,q5,o5⟩;have p:D (O kD w E):=H.o.thn o5 (fun k I q=>by have:=(Q.o.lt k q).1;omega);have HL:D (Au w.heap.size E v l/\XD (BU P) ((least P).I c) l/\l.length<=16400):=⟨s5,⟨q5,d,c8.o,b3.o,p5⟩,by rw[p5.length_eq,iJ];exact e5⟩;clear s5 p5 q5 o5;go_wp2_with fail;go_ret;exact⟨v,l,rfl,HL.o.1,HL.o.2.1,HL.o.2.2,p.o⟩
theorem J5(B v l s w)(h:Au B w v l)(C:l.length<=4001):
 Calls prog 134 #[v,.string s] w fun e z=>e=.returned (.int .i64 (Bz l s 0))/\z=w:=by
 obtain⟨F,H,G,rfl⟩:=Ad h;have y:=Ag h;subst y;generalize p:Bz l s 0=V;have o:D (Bz (l.drop 0) s 0=V):=p;have j:=J h;clear p h;go_enter func134,ntmps134;go_wp2_with fail;go_loopw[8] (fun i wr=>∃k:Nat,k<=l.length/\i=.int .i64 k/\wr=w/\D (Bz (l.drop k) s k=V)) (fun i _=>l.length-(intOf i).toNat)
 case atStart=>exact⟨0,Z,rfl,rfl,o⟩
 case round=>
  obtain⟨k,A,rfl,rfl,d⟩:=hrel;clear o;by_cases m:k<l.length
  .obtain⟨g,rfl⟩:=Ap j.o Z;have c:=j.o.cellAt k Z;rw[iL,gL m]at c;simp only[Option.map_some]at c;have E:=(j.o.lt g rfl).2;have b:=LK l s k m;have u:(k:Int)<(l.length:Int):=Z;have n:=J (show k+1<=l.length from m);generalize l[k]=a at c b;cases r:(s.toList==a.toList)with
   |true=>
    have f:a.toList=s.toList:=by have:s.toList=a.toList:=by simpa using r
                                 exact this.symm
    rw[jH f,d.o]at b;subst b;clear d f;go_wp2_with fail;go_ret;exact⟨rfl,rfl⟩
   |false=>
    have f:¬a.toList=s.toList:=fun q=>by simp[q]at r
    rw[jG f,d.o]at b;have t:=J b;clear d f b;go_wp2_with fail;go_roundw
    case rel=>exact⟨k+1,n.o,by go_num,by trivial,t.o.symm⟩
    case measure=>have:=n.o;simp[intOf];omega
  .have e:k=l.length:=Z;subst e;have u:decide ((l.length:Int)<(l.length:Int))=false:=jY;have x:V= -1:=by have:=d.o;rw[jM]at this;exact this.symm
   subst x;clear d;go_wp2_with fail;go_ret;exact⟨rfl,rfl⟩
def Gx:List PFn->ByteArray->ByteArray->Nat->Option Nat
 |[],_,_,_=>none
 |f::l,a,b,k=>if f.name.toList=a.toList/\0<=Bz f.t8 b 0 then some (vN k (Bz f.t8 b 0).toNat)else Gx l a b (k+1)
theorem JS(l:List PFn)(a b:ByteArray)(k:Nat)(h:k<l.length):Gx (l.drop k) a b k=if l[k].name.toList=a.toList/\0<=Bz l[k].t8 b 0 then some (vN k (Bz l[k].t8 b 0).toNat)else Gx (l.drop (k+1)) a b (k+1):=by rw[gT h];rfl
theorem Rk:∀(l:List ByteArray) (s:ByteArray) (k:Nat),Bz l s k<(k:Int)+l.length\/Bz l s k= -1
 |[],_,_=>.inr rfl
 |a::l,s,k=>by
  unfold Bz;split
  .simp only[gK];omega
  .have:=Rk l s (k+1);simp only[gK];omega
theorem UK(P S Y r t j s m u w)(h:SetsAt P S Y r t j s m u w)(hP:P.length<=12)(a7:∀i,(As P i).t8.length<=12)(a b:ByteArray):
 Calls prog 102 #[.agg (DO Y r t j s m u),.string a,.string b] w fun e w'=>e=.returned (.tuple #[.int .i64 ((Gx P a b 0).getD 0:Nat),.bool (Gx P a b 0).isSome])/\O kD w w':=by
 obtain⟨K,fl,L,b3,b2⟩:∃a l c,Y=.slice a l c/\l=P.length:=by obtain⟨cs,q,_⟩:=h.pl;obtain⟨a,l,c,e⟩:=Ad q;subst e;exact⟨a,l,c,rfl,by have:=Ag q;rw[iJ]at this;exact this⟩
 subst b3 b2;generalize hV:Gx P a b 0=V;have HV:D (Gx (P.drop 0) a b 0=V):=hV;have O0:D (O kD w (w.alloc (.cells (DO (.slice K P.length L) r t j s m u) 71))):=(O.refl _ w).alloc _;have N:=J (W.new w (DO (.slice K P.length L) r t j s m u) 71);have HH:=J h;have b0:=J a7;clear h hV a7;go_enter func102,ntmps102;go_upto_region 1 with fail;change Code.wp _ _ _ _ (w.alloc (.cells (DO (.slice K P.length L) r t j s m u) 71));generalize w.alloc (.cells (DO (.slice K P.length L) r t j s m u) 71)=W0 at*;have a2:=N.o.cell 0;have b8:=Ae N.o;simp only[DO,gH,gF]at a2;go_wp2_with fail;clear a2 b8 N;go_loopw[15] (fun i wr=>∃k:Nat,k<=P.length/\i=.int .i64 k/\D (O kD w wr)/\D (Gx (P.drop k) a b k=V)) (fun i _=>P.length-(intOf i).toNat)
 case atStart=>exact⟨0,Z,rfl,O0,HV⟩
 case round=>
  clear HV O0;obtain⟨k,hk,rfl,R,o⟩:=hrel;by_cases z:k<P.length
  .have hs:=JS P a b k z;have a0:=(HH.o.s9 R.o).pl;obtain⟨gf,cf,e1,c6⟩:=a0.form (by rw[iJ];omega);rw[iJ]at e1;cases e1;obtain⟨vv,sv,y,M,a6⟩:=a0.get (i:=k) (by rw[iJ];exact z);obtain⟨sa,sc,rfl,_⟩:=a6.form;obtain⟨A,C,B,rfl⟩:=Ad M;have G:=y 0 Z;have c1:=y 1 Z;have H:=y 2 Z;have I:=y 3 Z;have a3:(P.map CG)[k]'(by rw[iJ];exact z)=CG P[k]:=iU ..;rw[a3]at G c1 H I M;simp only[Oo,gF,gG,gX]at G c1 H I;have a5:As P k=P[k]:=by unfold As;rw[gL z];rfl
   have b5:=b0.o k;rw[a5]at b5;have b4:(k:Int)<(P.length:Int):=Z;have F:=J (show k+1<=P.length from z);have a8:Au 0 wr (.slice A C B) P[k].t8:=M;have I:wr.cell? ⟨gf,k*4+3,none⟩=some (.slice sa 0 sc):=I;have G:wr.cell? ⟨gf,k*4,none⟩=some (.string P[k].name):=G;have H:wr.cell? ⟨gf,k*4+2,none⟩=some (.int .i64 P[k].u9):=H;have b1:=Rk P[k].t8 b 0;clear a0 y a3 a5 a6 M;generalize P[k]=f at*;generalize a4:Bz f.t8 b 0=x at*;have Q:=J a4;have oa:O kD wr (wr.alloc (.cells #[.string f.name,.slice A C B,.int .i64 f.u9,.slice sa 0 sc] 134)):=(O.refl _ wr).alloc _;have X:=J (Ac a8 oa (fun _ _ q=>q));have U:=J (R.o.trans oa);have E:=J hs;clear a8 oa hs a4;by_cases p:f.name.toList=a.toList/\0<=x
   .have g:=E.o;rw[jH p,o.o]at g;obtain⟨a9,b7⟩:=p;obtain⟨n,rfl⟩:∃n:Nat,x=(n:Int):=⟨x.toNat,Z⟩;rw[Int.toNat_natCast]at g;subst g;have he:(f.name.toList==a.toList)=true:=by simpa using a9
    have c4:(0:Int)<=(n:Int):=Z;have c5:n<12:=Z;clear E o a9 b7 b1;go_wp2_with fail;refine(J5 0 (.slice A C B) f.t8 b _ X.o Z).mono ?_;rw[Q.o];rintro e w5 ⟨rfl,d⟩;have d:=d.symm;subst d;go_wp2_with(go_at_call 119;refine(Fj k n _ Z Z).mono ?_;rintro e w' ⟨rfl,d⟩;have d:=d.symm;subst d);refine gP (v:=.tuple #[.int .i64 (vN k n:Nat),.bool true]) (by simp[results,results102,go_sem]) rfl ⟨rfl,U.o⟩
   .have g:=E.o;rw[jG p,o.o]at g;have a1:=J g;clear E o g;cases he:(f.name.toList==a.toList)with
    |true=>
     have b9:¬(0:Int)<=x:=fun q=>p ⟨by simpa using he,q⟩
     have hd:decide ((0:Int)<=x)=false:=jX;clear p;go_wp2_with fail;refine(J5 0 (.slice A C B) f.t8 b _ X.o Z).mono ?_;rw[Q.o];rintro e w5 ⟨rfl,d⟩;have d:=d.symm;subst d;go_wp2_with fail;go_roundw
     case rel=>exact⟨k+1,F.o,by go_num,U,a1.o.symm⟩
     case measure=>have:=F.o;simp[intOf];omega
    |false=>
     clear p;go_wp2_with fail;refine(J5 0 (.slice A C B) f.t8 b _ X.o Z).mono ?_;rw[Q.o];rintro e w5 ⟨rfl,d⟩;have d:=d.symm;subst d;go_wp2_with fail;go_roundw
     case rel=>exact⟨k+1,F.o,by go_num,U,a1.o.symm⟩
     case measure=>have:=F.o;simp[intOf];omega
  .have e:k=P.length:=Z;subst e;have b4:decide ((P.length:Int)<(P.length:Int))=false:=jY;have b6:V=none:=by have:=o.o;rw[jM]at this;exact this.symm
   subst b6;clear o;go_wp2_with fail;refine gP (v:=.tuple #[.int .i64 0,.bool false]) (by simp[results,results102,go_sem]) rfl ⟨rfl,R.o⟩
theorem Sz{a b:ByteArray}:∀(l:List PFn) (k c:Nat),Gx l a b k=some c->∃f i,∃h:f<l.length,i<l[f].t8.length/\l[f].name.toList=a.toList/\Bz l[f].t8 b 0=(i:Int)/\c=vN (k+f) i
 |[],k,c,h=>by cases h
 |f::l,k,c,h=>by
  unfold Gx at h;split at h
  .rename_i q;refine⟨0,(Bz f.t8 b 0).toNat,jY,?_,q.1,?_,?_⟩
   .have:=Rk f.t8 b 0;simp only[iD];omega
   .simp only[iD];omega
   .cases h;rfl
  .obtain⟨g,i,w,e,m,n,v⟩:=Sz l (k+1) c h;exact⟨g+1,i,jX,by simpa using e,by simpa using m,by simpa using n,by rw[v];congr 1;omega⟩
theorem TQ{P:List PFn}{a b:ByteArray}{d c:Nat}(h:Gx P a b 0=some c):AK P d c:=by obtain⟨f,i,e,g,_,_,k⟩:=Sz P 0 c h;refine .inl ⟨f,i,e,?_,by rw[k,iO]⟩;unfold As;rw[gL e];exact g
def Ty(f:Nat->ByteArray)(m:Nat->Prop)(n:Nat)(w:World)(e:Ending)(a:World):Prop:=
 (∃v l,e=.returned (.tuple #[v,.bool true])/\Au w.heap.size a v l/\XD f m l/\l.length<=n)/\O kD w a
theorem XD.len{f:Nat->ByteArray}{m:Nat->Prop}{l}(h:XD f m l){n:Nat}(e:∀x,m x->x<n):l.length<=n:=by obtain⟨_,i,a,b,c⟩:=h;rw[c.length_eq,iJ];exact DJ n i a fun x g=>e x ((b x).1 g)
section
variable(u:SrtAll)(P:List PFn)(t:Value)(p d j r o s:Nat)(w:World)(A:AnOk P d j)(C:d<=4000)(z:PnOk P)(h:SetsAt P (least P) t p d j r o s w)(y:ItOk w)(B:0<P.length)
include u A C z h y B
theorem MU(a b:ByteArray):
 Calls prog 64 #[.agg (DO t p d j r o s),.string a,.string b] w fun e w'=>(∀c,Gx P a b 0=some c->Ty (BU P) ((least P).I c) 16400 w e w')/\(Gx P a b 0=none->e=.returned (.tuple #[.slice none 0 0,.bool false])/\O kD w w'):=by
 have L:D (O kD w (w.alloc (.cells (DO t p d j r o s) 71))):=(O.refl _ w).alloc _;have B0:=J (W.new w (DO t p d j r o s) 71);have K:=J h;have F:=J A;have HN:=J z;have a1:=J y;have a2:=J u;obtain⟨i,m,k,a4⟩:∃a l c,t=.slice a l c:=by obtain⟨cs,q,_⟩:=h.pl;exact Ad q
 subst a4;clear h A z y u;go_enter func64,ntmps64;go_upto_region 1 with fail;change Code.wp _ _ _ _ (w.alloc (.cells (DO (.slice i m k) p d j r o s) 71));generalize w.alloc (.cells (DO (.slice i m k) p d j r o s) 71)=G at*;have I:D (∀f,O kD G f->f.cell? ⟨w.heap.size,0,none⟩=some (.slice i m k)/\f.cell? ⟨w.heap.size,1,none⟩=some (.int .i64 p)/\f.cell? ⟨w.heap.size,2,none⟩=some (.int .i64 d)/\f.cell? ⟨w.heap.size,3,none⟩=some (.int .i64 j)/\f.cell? ⟨w.heap.size,4,none⟩=some (.map (some r))/\f.cell? ⟨w.heap.size,5,none⟩=some (.map (some o))/\f.cell? ⟨w.heap.size,6,none⟩=some (.map (some s))/\w.heap.size<f.heap.size):=fun f h'=>by have M:=B0.o.d8 h' id;obtain⟨R,S,U,V,X,Y,q6⟩:=M.e7 0 1 2 3 4 5 6;simp only[DO,gH,gF,gG]at R S U V X Y q6;exact⟨R,S,U,V,X,Y,q6,Ae M⟩
 obtain⟨c0,c1,c2,c3,c4,c5,c6,lb⟩:=I.o G (O.refl _ _);go_wp2_with fail;refine(UK P (least P) (.slice i m k) p d j r o s G (K.o.s9 L.o) F.o.cR F.o.ok.t8 a b).mono ?_;rintro e w2 ⟨rfl,H⟩;obtain⟨m0,m1,m2,m3,m4,m5,m6,a6⟩:=I.o w2 H;have g:=J (L.o.trans H);clear H c0 c1 c2 c3 c4 c5 c6 lb;cases x:Gx P a b 0 with
 |none=> have E:=J x;clear x;simp only[Option.getD_none,Option.isSome_none];go_wp2_with fail;refine gP (v:=.tuple #[.slice none 0 0,.bool false]) (by simp[results,results64,go_sem]) rfl ⟨fun c q=>(by rw[E.o]at q;cases q),fun _=>⟨rfl,g.o⟩⟩
 |some c=> have a0:D (AK P d c):=TQ x;have E:=J x;simp only[Option.getD_some,Option.isSome_some];clear x;go_wp2_with fail;refine(KF a2.o P (.slice i m k) p d j r o s w2 F.o C HN.o (K.o.s9 g.o) (fun n f a5 a3=>a1.o n f a5 (g.o.trans a3)) c a0.o B).mono ?_;rintro e w3 ⟨v,l,rfl,s3,t3,N,Q⟩;have HX:D (Ty (BU P) ((least P).I c) 16400 w (.returned (.tuple #[v,.bool true])) w3):=⟨⟨v,l,rfl,Aq s3 g.o.size,t3,N⟩,g.o.trans Q⟩;clear s3 t3 N Q;go_wp2_with fail;refine gP (v:=.tuple #[v,.bool true]) (by simp[results,results64,go_sem]) rfl ⟨fun c' q=>?_,fun q=>(by rw[E.o]at q;cases q)⟩;rw[E.o]at q;cases q;exact HX.o
end
theorem UJ(u:SrtAll)(P:List PFn)(t:Value)(p d j r o s:Nat)(w:World)(A:AnOk P d j)(h:SetsAt P (least P) t p d j r o s w)(n:Nat)(h1:1<=n)(h2:n<=j):
 Calls prog 68 #[.agg (DO t p d j r o s),.int .i64 n] w fun e w'=>Ty (CK P) ((least P).E n) 12 w e w':=by
 have f:D (O kD w (w.alloc (.cells (DO t p d j r o s) 71))):=(O.refl _ w).alloc _;have B0:=J (W.new w (DO t p d j r o s) 71);have I:=J h;have F:=J A;have a1:=J u;obtain⟨i,E,m,a2⟩:∃a l c,t=.slice a l c:=by obtain⟨cs,q,_⟩:=h.pl;exact Ad q
 subst a2;clear h A u;go_enter func68,ntmps68;go_upto_region 1 with fail;change Code.wp _ _ _ _ (w.alloc (.cells (DO (.slice i E m) p d j r o s) 71));generalize w.alloc (.cells (DO (.slice i E m) p d j r o s) 71)=g at*;have HC:D (∀b,O kD g b->b.cell? ⟨w.heap.size,0,none⟩=some (.slice i E m)/\b.cell? ⟨w.heap.size,1,none⟩=some (.int .i64 p)/\b.cell? ⟨w.heap.size,2,none⟩=some (.int .i64 d)/\b.cell? ⟨w.heap.size,3,none⟩=some (.int .i64 j)/\b.cell? ⟨w.heap.size,4,none⟩=some (.map (some r))/\b.cell? ⟨w.heap.size,5,none⟩=some (.map (some o))/\b.cell? ⟨w.heap.size,6,none⟩=some (.map (some s))/\w.heap.size<b.heap.size):=fun b h'=>by have L:=B0.o.d8 h' id;obtain⟨S,U,V,X,Y,q5,q6⟩:=L.e7 0 1 2 3 4 5 6;simp only[DO,gH,gF,gG]at S U V X Y q5 q6;exact⟨S,U,V,X,Y,q5,q6,Ae L⟩
 obtain⟨c0,c1,c2,c3,c4,c5,c6,lb⟩:=HC.o g (O.refl _ _);obtain⟨bk,N,K,t1⟩:=(I.o.s9 f.o).em;obtain⟨H,G⟩:=(K n).2 ⟨h1,h2⟩;have a3:=F.o.lc;have M:=(N.look Ea underlying67 (Ci g) (k:=n) Z true).2 H G;unfold GY at M;simp only[if_true]at M;have a0:=J (t1 n H G);clear N K t1 G;go_wp2_with fail;refine(Sa a1.o P (least P) (.slice i E m) p d j r o s g (I.o.s9 f.o) F.o.cR H ((least P).E n) a0.o (fun x q=>(Hl F.o q).2)).mono ?_;rintro e w3 ⟨v,l,rfl,s3,t3,Q,R⟩;have HX:D (Ty (CK P) ((least P).E n) 12 w (.returned (.tuple #[v,.bool true])) w3):=⟨⟨v,l,rfl,Aq s3 f.o.size,t3,Q⟩,f.o.trans R⟩;clear s3 t3 Q R;go_wp2_with fail;refine gP (v:=.tuple #[v,.bool true]) (by simp[results,results68,go_sem]) rfl HX.o
section
variable(o:SrtAll)(P:List PFn)(m:Value)(g b d i f j:Nat)(w:World)(A:AnOk P b d)(t:b<=4000)(r:PnOk P)(h:SetsAt P (least P) m g b d i f j w)(p:ItOk w)(s:0<P.length)
include o A t r h p s
theorem R8(n k:Nat)(H:1<=n)(h2:n<=b)(h3:k<4):
 Calls prog 67 #[.agg (DO m g b d i f j),.int .i64 n,.int .i64 k] w fun e Y=>Ty (BU P) ((least P).I (pN n k)) 16400 w e Y:=by
 have B:D (O kD w (w.alloc (.cells (DO m g b d i f j) 71))):=(O.refl _ w).alloc _;have B0:=J (W.new w (DO m g b d i f j) 71);have HH:=J h;have HA:=J A;have HN:=J r;have a1:=J p;have a2:=J o;obtain⟨x,z,y,a4⟩:∃a l c,m=.slice a l c:=by obtain⟨cs,q,_⟩:=h.pl;exact Ad q
 subst a4;clear h A r p o;have g1:decide ((n:Int)<1)=false:=jX;have g2:decide ((b:Int)<(n:Int))=false:=jX;have g3:decide ((k:Int)<0)=false:=jY;have g4:decide ((4:Int)<=(k:Int))=false:=jX;go_enter func67,ntmps67;go_upto_region 1 with fail;change Code.wp _ _ _ _ (w.alloc (.cells (DO (.slice x z y) g b d i f j) 71));generalize w.alloc (.cells (DO (.slice x z y) g b d i f j) 71)=C at*;have G:D (∀u,O kD C u->u.cell? ⟨w.heap.size,0,none⟩=some (.slice x z y)/\u.cell? ⟨w.heap.size,1,none⟩=some (.int .i64 g)/\u.cell? ⟨w.heap.size,2,none⟩=some (.int .i64 b)/\u.cell? ⟨w.heap.size,3,none⟩=some (.int .i64 d)/\u.cell? ⟨w.heap.size,4,none⟩=some (.map (some i))/\u.cell? ⟨w.heap.size,5,none⟩=some (.map (some f))/\u.cell? ⟨w.heap.size,6,none⟩=some (.map (some j))/\w.heap.size<u.heap.size):=fun u h'=>by have I:=B0.o.d8 h' id;obtain⟨L,M,N,Q,R,S,U⟩:=I.e7 0 1 2 3 4 5 6;simp only[DO,gH,gF,gG]at L M N Q R S U;exact⟨L,M,N,Q,R,S,U,Ae I⟩
 obtain⟨c0,c1,c2,c3,c4,c5,c6,lb⟩:=G.o C (O.refl _ _);have a0:D (AK P b (pN n k)):=.inr ⟨n,k,H,h2,h3,rfl⟩;go_upto_region 3 with fail;go_region_held3(fun u=>u.cell? ⟨w.heap.size,0,none⟩=some (.slice x z y)/\u.cell? ⟨w.heap.size,1,none⟩=some (.int .i64 g)/\u.cell? ⟨w.heap.size,2,none⟩=some (.int .i64 b)/\u.cell? ⟨w.heap.size,3,none⟩=some (.int .i64 d)/\u.cell? ⟨w.heap.size,4,none⟩=some (.map (some i))/\u.cell? ⟨w.heap.size,5,none⟩=some (.map (some f))/\u.cell? ⟨w.heap.size,6,none⟩=some (.map (some j))) (go_keep)
  (first
    |(go_at_call 85;refine(Jv n k _ H Z Z).mono ?_;rintro e Y ⟨rfl,E⟩;have E:=E.symm;subst E)
    |(go_at_call 103;refine(KF a2.o P (.slice x z y) g b d i f j C.drew HA.o t HN.o (HH.o.s9 B.o.drew) (fun n u a5 a3=>a1.o n u a5 (B.o.drew.trans a3)) (pN n k) a0.o s).mono ?_;rintro e w3 ⟨v,l,rfl,V,X,K,F⟩;have HX:D (Ty (BU P) ((least P).I (pN n k)) 16400 w (.returned (.tuple #[v,.bool true])) w3):=⟨⟨v,l,rfl,Aq V B.o.size,X,K⟩,B.o.drew.trans F⟩;have OO:=J (O.trans ((O.refl kD C).drew) F);clear V X K F;obtain⟨m0,m1,m2,m3,m4,m5,m6,a6⟩:=G.o w3 OO.o))
 all_goals
  go_wp2_with fail;refine gP (v:=.tuple #[v,.bool true]) (by simp[results,results67,go_sem]) rfl HX.o
end
structure AnHy(P:List PFn)(mn pn cn:Nat):Prop where
 ok:AnOk P pn cn
 pn:pn<=4000
 nm:PnOk P
 mn:mn<P.length
def Fu(P:List PFn)(d f a h:Nat)(w:World):Prop:=∃c e b g,W h (DO c d f a e b g) 75 w/\SetsAt P (least P) c d f a e b g w
theorem Fu.s9{P b c a d w e}(h:Fu P b c a d w)(k:O kD w e):Fu P b c a d e:=by obtain⟨g,l,f,m,i,j⟩:=h;exact⟨g,l,f,m,i.d8 k id,j.s9 k⟩
def Tx(f:Nat->ByteArray)(m:Nat->Prop)(n:Nat)(w:World)(e:Ending)(a:World):Prop:=
 (∃v l,e=.returned (.tuple #[v,.int .i64 0])/\Au w.heap.size a v l/\XD f m l/\l.length<=n)/\O kD w a
theorem IG(a:Option Addr)(l c:Nat)(w:World):Calls prog 63 #[.slice a l c,.bool true] w fun e b=>e=.returned (.tuple #[.slice a l c,.int .i64 0])/\b=w:=by go_enter func63,ntmps63;go_wp2_with fail;refine gP (v:=.tuple #[.slice a l c,.int .i64 0]) (by simp[results,results63,go_sem]) rfl ⟨rfl,rfl⟩
theorem Nq(a:Option Addr)(l c:Nat)(w:World):Calls prog 63 #[.slice a l c,.bool false] w fun e b=>e=.returned (.tuple #[.slice none 0 0,.int .i64 8])/\b=w:=by go_enter func63,ntmps63;go_wp2_with fail;refine gP (v:=.tuple #[.slice none 0 0,.int .i64 8]) (by simp[results,results63,go_sem]) rfl ⟨rfl,rfl⟩
theorem RQ(u:SrtAll)(P:List PFn)(m d f z:Nat)(w:World)(Y:AnHy P m d f)(h:Fu P m d f z w)(t:ItOk w)(n k:Nat)(N:1<=n)(Q:n<=d)(R:k<4):
 Calls prog 30 #[.pointer (some ⟨z,0,none⟩),.int .i64 n,.int .i64 k] w fun e B=>Tx (BU P) ((least P).I (pN n k)) 16400 w e B:=by
 obtain⟨M,U,H,rb,g,i⟩:=h;obtain⟨I,L,K,S⟩:∃a l c,M=.slice a l c:=by obtain⟨cs,q,_⟩:=i.pl;exact Ad q
 subst S;obtain⟨V,X,q2,q3,q4,q5,q6⟩:=g.e7 0 1 2 3 4 5 6;have lb:=Ae g;simp only[DO,gH,gF,gG]at V X q2 q3 q4 q5 q6;have E:=J i;have b:=J Y;have F:=J u;have C:=J t;clear i g Y u t;go_enter func30,ntmps30;go_wp2_with fail;refine(R8 F.o P (.slice I L K) m d f U H rb w b.o.ok b.o.pn b.o.nm E.o C.o (Nat.lt_of_le_of_lt (gV _) b.o.mn) n k N Q R).mono ?_;rintro e w2 ⟨⟨v,l,rfl,o,A,x⟩,y⟩;obtain⟨p,s,r,rfl⟩:=Ad o;have G:D (Tx (BU P) ((least P).I (pN n k)) 16400 w (.returned (.tuple #[.slice p s r,.int .i64 0])) w2):=⟨⟨_,l,rfl,o,A,x⟩,y⟩;clear o A x y;go_wp2_with(go_at_call 63;refine(IG p s r _).mono ?_;rintro e B ⟨rfl,j⟩;have j:=j.symm;subst j);refine gP (v:=.tuple #[.slice p s r,.int .i64 0]) (by simp[results,results30,go_sem]) rfl G.o
theorem Qt(r:SrtAll)(P:List PFn)(i j b u:Nat)(w:World)(Y:AnHy P i j b)(h:Fu P i j b u w)(n:Nat)(K:1<=n)(L:n<=b):
 Calls prog 31 #[.pointer (some ⟨u,0,none⟩),.int .i64 n] w fun e y=>Tx (CK P) ((least P).E n) 12 w e y:=by
 obtain⟨I,N,E,rb,d,f⟩:=h;obtain⟨F,H,G,M⟩:∃a l c,I=.slice a l c:=by obtain⟨cs,q,_⟩:=f.pl;exact Ad q
 subst M;obtain⟨Q,R,S,U,V,X,q6⟩:=d.e7 0 1 2 3 4 5 6;have lb:=Ae d;simp only[DO,gH,gF,gG]at Q R S U V X q6;have z:=J f;have C:=J Y;have A:=J r;clear f d Y r;go_enter func31,ntmps31;go_wp2_with fail;refine(UJ A.o P (.slice F H G) i j b N E rb w C.o.ok z.o n K L).mono ?_;rintro e w2 ⟨⟨v,l,rfl,k,x,s⟩,t⟩;obtain⟨m,p,o,rfl⟩:=Ad k;have B:D (Tx (CK P) ((least P).E n) 12 w (.returned (.tuple #[.slice m p o,.int .i64 0])) w2):=⟨⟨_,l,rfl,k,x,s⟩,t⟩;clear k x s t;go_wp2_with(go_at_call 63;refine(IG m p o _).mono ?_;rintro e y ⟨rfl,g⟩;have g:=g.symm;subst g);refine gP (v:=.tuple #[.slice m p o,.int .i64 0]) (by simp[results,results31,go_sem]) rfl B.o
theorem Qy(t:SrtAll)(P:List PFn)(k m f A:Nat)(w:World)(Y:AnHy P k m f)(h:Fu P k m f A w)(s:ItOk w)(a b:ByteArray)(c:Nat)(u:Gx P a b 0=some c):
 Calls prog 26 #[.pointer (some ⟨A,0,none⟩),.string a,.string b] w fun e C=>Tx (BU P) ((least P).I c) 16400 w e C:=by
 obtain⟨Q,S,K,rb,g,i⟩:=h;obtain⟨L,N,M,R⟩:∃a l c,Q=.slice a l c:=by obtain⟨cs,q,_⟩:=i.pl;exact Ad q
 subst R;obtain⟨U,V,X,q3,q4,q5,q6⟩:=g.e7 0 1 2 3 4 5 6;have lb:=Ae g;simp only[DO,gH,gF,gG]at U V X q3 q4 q5 q6;have G:=J i;have d:=J Y;have H:=J t;have F:=J s;have E:=J u;clear i g Y t s u;go_enter func26,ntmps26;go_wp2_with fail;refine(MU H.o P (.slice L N M) k m f S K rb w d.o.ok d.o.pn d.o.nm G.o F.o (Nat.lt_of_le_of_lt (gV _) d.o.mn) a b).mono ?_;rintro e w2 ⟨x,_⟩;obtain⟨⟨v,l,rfl,n,B,y⟩,z⟩:=x c E.o;clear x;obtain⟨o,r,p,rfl⟩:=Ad n;have I:D (Tx (BU P) ((least P).I c) 16400 w (.returned (.tuple #[.slice o r p,.int .i64 0])) w2):=⟨⟨_,l,rfl,n,B,y⟩,z⟩;clear n B y z;go_wp2_with(go_at_call 63;refine(IG o r p _).mono ?_;rintro e C ⟨rfl,j⟩;have j:=j.symm;subst j);refine gP (v:=.tuple #[.slice o r p,.int .i64 0]) (by simp[results,results26,go_sem]) rfl I.o
def Nu(b:Bd):Prop:=∀s,s∈b.r9->(s.kind=1->1<=s.cA/\s.cA<=b.pl)/\(s.kind=8->1<=s.cA/\s.cA<=b.ca)
def TD(b c:Bd):Prop:=Nu c/\b.pl<=c.pl/\b.ca<=c.ca
theorem TD.tr{a b c:Bd}(h:TD a b)(k:TD b c):TD a c:=⟨k.1,gW h.2.1 k.2.1,gW h.2.2 k.2.2⟩
theorem PU{l:List Bb}{i:Nat}{f:Bb->Bb}{s:Bb}(h:s∈l.modify i f):∃t,t∈l/\(s=t\/s=f t):=by
 obtain⟨j,a,e⟩:=iF.1 h;rw[List.length_modify]at a;rw[List.getElem_modify]at e;refine⟨l[j],gQ _,?_⟩;split at e
 .exact .inr e.symm
 .exact .inl e.symm
theorem TD.tk{a b:Bd}(h:TD a b)(i n:Nat):TD a (b.tk i n):=⟨fun s d=>by
 obtain⟨t,c,rfl|rfl⟩:=PU d
 .exact h.1 _ c
 .exact h.1 t c,h.2⟩
theorem TD.nx{a b:Bd}(h:TD a b)(i n:Nat):TD a (b.nx i n):=⟨fun s d=>by
 obtain⟨t,c,rfl|rfl⟩:=PU d
 .exact h.1 _ c
 .exact h.1 t c,h.2⟩
theorem Nu.stepA{b:Bd}(h:Nu b)(c:List ByteArray)(s:VS)(a:Nat):TD b (Ar c s a b):=by
 have d:(Proofs.YtaningfhibkemaaGreatDoor.Ar c s a b).pl=if s.kind=1 then b.pl+1 else b.pl:=rfl
 have f:(Proofs.YtaningfhibkemaaGreatDoor.Ar c s a b).ca=if s.kind=8 then b.ca+1 else b.ca:=rfl
 refine⟨fun u g=>?_,by rw[d];split<;>omega,by rw[f];split<;>omega⟩;rcases iM.1 g with q|q
 .have:=h u q;exact⟨fun k=>⟨(this.1 k).1,by have:=(this.1 k).2;rw[d];split<;>omega⟩,fun k=>⟨(this.2 k).1,by have:=(this.2 k).2;rw[f];split<;>omega⟩⟩
 .rw[iB.1 q];refine⟨fun k=>?_,fun k=>?_⟩
  .have k:s.kind=1:=k;have e:({AA c s b with next:=a}:Bb).cA=b.pl+1:=by simp[AA,k]
   rw[e,d,jH k];omega
  .have k:s.kind=8:=k;have e:({AA c s b with next:=a}:Bb).cA=b.ca+1:=by simp[AA,k]
   rw[e,f,jH k];omega
mutual
theorem SX(fn:List ByteArray):∀(t:TS) (a:Nat) (b:Bd),Nu b->TD b (Dq fn t a b)
 |.mk s [],a,b,h=>by rw[Dq];exact h.stepA fn s a
 |.mk s [(_,ts)],a,b,h=>by
  have hA:=h.stepA fn s a;rw[Dq];split
  .exact(hA.tr (Hk fn ts a _ hA.1)).tk _ _
  .split
   .exact(hA.tr (Hk fn ts _ _ hA.1)).tk _ _
   .exact hA
 |.mk s ((_,ts)::(_,ts2)::r),a,b,h=>by
  have hA:=h.stepA fn s a;rw[Dq];split
  .have h1:=(hA.tr (Hk fn ts a _ hA.1)).tk b.r9.length (AM ts a (Ar fn s a b));exact(h1.tr (Hk fn ts2 a _ h1.1)).nx _ _
  .exact hA
theorem Hk(fn:List ByteArray):∀(ts:List TS) (a:Nat) (b:Bd),Nu b->TD b (AT fn ts a b)
 |[],a,b,h=>by rw[AT];exact⟨h,gI _,gI _⟩
 |[t],a,b,h=>by rw[AT];exact SX fn t a b h
 |t::t2::ts,a,b,h=>by have h1:=SX fn t (b.r9.length+EU t) b h;rw[AT];exact h1.tr (Hk fn (t2::ts) a _ h1.1)
end
theorem Vx(c:List ByteArray)(t:TF)(b a:Nat):Nu (GA c t b a)/\b<=(GA c t b a).pl/\a<=(GA c t b a).ca:=Hk c t.cF (Dr t.cF) (Q8 t b a) (fun s d=>by cases d)
theorem Qj(c:List ByteArray):∀(l:List TF) (b a:Nat),b<=(BJ c l b a).1/\a<=(BJ c l b a).2
 |[],_,_=>⟨gI _,gI _⟩
 |t::l,b,a=>by have d:=Vx c t b a;have e:=Qj c l (GA c t b a).pl (GA c t b a).ca;rw[BJ];exact⟨gW d.2.1 e.1,gW d.2.2 e.2⟩
theorem Ql(a:List ByteArray):∀(l:List TF) (c b:Nat) (f:PFn),f∈Bi a l c b->∀s,s∈f.r9->(s.kind=1->1<=s.cA/\s.cA<=(BJ a l c b).1)/\(s.kind=8->1<=s.cA/\s.cA<=(BJ a l c b).2)
 |[],_,_,f,h=>by cases h
 |t::l,c,b,f,h=>by
  rw[Bi]at h;rw[BJ];rcases iZ.1 h with rfl|q
  .intro s g;have d:=(Vx a t c b).1 s g;have e:=Qj a l (GA a t c b).pl (GA a t c b).ca;exact⟨fun k=>⟨(d.1 k).1,gW (d.1 k).2 e.1⟩,fun k=>⟨(d.2 k).1,gW (d.2 k).2 e.2⟩⟩
  .exact Ql a l _ _ f q
theorem Kc{fn:List ByteArray}{par:List Nat}:∀(l:List TF) (b a:Nat),(∀t,t∈l->Iu fn par t.cF (t.u9.map fun p=>p.d9))->BJ fn l b a=(b+(l.map fun t=>nL 1 t.cF).sum,a+(l.map fun t=>nL 8 t.cF).sum)
 |[],_,_,_=>rfl
 |t::l,b,a,c=>by obtain⟨_,d,e,_⟩:=Mf (fn:=fn) (par:=par) t b a (c t (jF ..));rw[BJ,d,e,Kc l _ _ (fun t f=>c t (iA _ f))];simp only[iK,iS,Nat.add_assoc]
theorem IM{f g:TF->Nat}(h:∀t,f t<=g t):∀(l:List TF),(l.map f).sum<=(l.map g).sum
 |[]=>gI _
 |t::l=>by have a:=h t;have b:=IM h l;simp only[iK,iS];omega
theorem GoodP.anHy{a:List TF}(G:GoodP a):AnHy (Bi (fnN a) a 0 0) (vx (fnN a) EC) (BJ (fnN a) a 0 0).1 (BJ (fnN a) a 0 0).2:=by
 have d:=Kc (fn:=fnN a) (par:=paN a) a 0 0 G.dK.ok;have m:=IM (f:=fun t=>nL 1 t.cF) (g:=fun t=>Dr t.cF) (fun t=>Kw 1 t.cF) a;have n:=IM (f:=fun t=>nL 8 t.cF) (g:=fun t=>Dr t.cF) (fun t=>Kw 8 t.cF) a;have o:=G.sum;have h:(BJ (fnN a) a 0 0).1<=4000:=by rw[d];simp only;omega
 have k:(BJ (fnN a) a 0 0).2<=4000:=by rw[d];simp only;omega
 have c:=DU (fn:=fnN a) a 0 0;refine⟨⟨G.fH,by rw[c];exact G.dK.cR,Z,Z,fun i b s e=>?_⟩,h,G.fQ,?_⟩
 .have j:As (Bi (fnN a) a 0 0) i∈Bi (fnN a) a 0 0:=by unfold As;rw[gL b];exact gQ _
  have:=Ql (fnN a) a 0 0 _ j s e
  exact⟨this.1,this.2,(G.fH.ok i b s e).field⟩
 .have:=(Io (l:=fnN a) (s:=EC) G.dK.main).1;rw[c];simpa[fnN]using this

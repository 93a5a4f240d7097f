/- Part of the proof: BuH BuI BuI0. -/
import Derived.Test.YtaningfhibkemaaGreatDoorG17
set_option maxRecDepth 100000
set_option maxHeartbeats 8000000
namespace Go.Proofs.YtaningfhibkemaaGreatDoor
open Go.RowKit Go.Maps Go.Proofs.Tryz
open Option renaming none->Z,some->T
open Value renaming int->G,slice->Y
open IntKind renaming i64->A
structure aC(d:Nat)(fn:List ByteArray)(par:List Nat)(t:TF)(pl ca:Nat):Prop where
 eH:∀p,p∈t.u9->p.d9.size<=4000
 nd:(t.u9.map fun p=>p.d9).Nodup
 dC:t.u9.length<=12
 tok:∀s,s∈t.cP->OZ d s
 ok:ID fn par t.cP (t.u9.map fun p=>p.d9)
 sz:Dy t.cP<=4000
 pl:pl+nL 1 t.cP<=4000
 ca:ca+nL 8 t.cP<=4000
theorem RN{l:List PT}(h:(l.map fun p=>p.d9).Nodup){k:Nat}(a:k<l.length):l[k].d9∉(l.take k).map (fun p=>p.d9):=by
 intro b;have e:(l.map fun p=>p.d9)=((l.take k).map fun p=>p.d9)++l[k].d9::((l.drop (k+1)).map fun p=>p.d9):=by rw[<-iU (f:=fun p:PT=>p.d9),<-jZ];congr 1;rw[<-iD a,List.take_append_drop]
 rw[e]at h;exact(List.nodup_append.1 h).2.2 _ b _ (by simp) rfl
theorem O.eZ{d:Nat}{X:Nat->Prop}{a b c:World}(h:O (fun k=>k=d) a b)(k:O X b c)(g:∀j,X j->j=d\/a.heap.size<=j):O (fun k=>k=d) a c:=
 ⟨k.os.trans h.os,k.tape.trans h.tape,k.output.trans h.output,iG h.size k.size,fun i e f=>by rw[k.block i (iI e h.size) (fun q=>(g i q).elim f (fun q=>by omega)),h.block i e f]⟩
theorem VL(d a m:Nat)(U:Nat->Prop)(c:List ByteArray)(c7:List Nat)(t:TF)(f b:Nat)(m1 c6 b8:Value)(cs:Array Value)(w:World)(hb:W a #[.map (T m),m1,c6,b8,G A f,G A b] 124 w)(hm:Cx m c w)
 (hT:Il d U w t cs.toList)(hU:∀k,U k->k<w.heap.size/\k≠a)(hO:aC d c c7 t f b):
 Calls prog 44 #[.pointer (T ⟨a,0,Z⟩),.agg cs] w fun e l=>∃vv sv,e=.returned (.agg (OA (CV c t f b) vv sv).toArray)/\Au w.heap.size l vv (CV c t f b).t8/\AR w.heap.size l sv (CV c t f b).r9/\
  (∃b5 b6 b7,W a #[.map (T m),b5,b6,b7,G A ((GK c t f b).pl:Nat),G A ((GK c t f b).ca:Nat)] 124 l)/\Cx m c l/\O (fun k=>k=a) w l:=by
 have c9:=hT;obtain⟨av,bv,c3,a2,d9,a9⟩:=hT;obtain⟨E,f1,F,rfl⟩:=Ad a2;have d1:=a9;obtain⟨e6,p1,_⟩:=d1;obtain⟨B,e5,C,rfl⟩:=Ad p1;have b4:=Ag a2;subst b4;have b4:=Ag p1;subst b4;have d0:cs=#[.string t.name.d9,G A t.name.l7,Y E t.u9.length F,G A t.l7,Y B t.cP.length C]:=Array.ext' c3;subst d0;have lb:=Ae hb;have f0:=hm.lt;have d4:=hm.ne hb;obtain⟨HB,HM,a7,b9,M,s⟩:=EF hb hm a2 a9 hU hO;obtain⟨o,R⟩:∃o,((w.alloc (.cells #[.string t.name.d9,G A t.name.l7,Y E t.u9.length F,G A t.l7,Y B t.cP.length C] 132)).alloc (.cells #[.string ⟨#[]⟩,Y Z 0 0,G A 0,Y Z 0 0] 134))=o:=⟨_,rfl⟩;have a6:D (O kJ w o):=by rw[<-R];exact((O.refl _ w).alloc _).alloc _
 have a0:D (W w.heap.size #[.string t.name.d9,G A t.name.l7,Y E t.u9.length F,G A t.l7,Y B t.cP.length C] 132 o):=by rw[<-R];exact(W.new w _ _).alloc _
 have c1:D (W (w.heap.size+1) #[.string ⟨#[]⟩,Y Z 0 0,G A 0,Y Z 0 0] 134 o):=by rw[<-R];have:=W.new (w.alloc (.cells #[.string t.name.d9,G A t.name.l7,Y E t.u9.length F,G A t.l7,Y B t.cP.length C] 132)) #[.string ⟨#[]⟩,Y Z 0 0,G A 0,Y Z 0 0] 134;rw[show(w.alloc (.cells #[.string t.name.d9,G A t.name.l7,Y E t.u9.length F,G A t.l7,Y B t.cP.length C] 132)).heap.size=w.heap.size+1 by simp]at this;exact this
 have c5:o.heap.size=w.heap.size+2:=by rw[<-R];simp
 have L:=J (HB.o.d8 a6.o id);obtain⟨b1,b2,b3⟩:=L.o.e3 1 2 3;have bf:=fun i=>Az L.o i
 have g2:=a0.o.cell 2;have e1:=Ae L.o;have e2:=Ae a0.o;have e8:¬a=w.heap.size:=by omega
 have e9:a<w.heap.size+2:=by omega
 simp only[gR,gP,gQ]at b1 b2 b3 g2;clear hb hm a2 a9 hU hO c9 p1 c3 d9;generalize c4:(fun(e:Ending) (l:World)=>∃vv sv,e=.returned (.agg (OA (CV c t f b) vv sv).toArray)/\Au w.heap.size l vv (CV c t f b).t8/\AR w.heap.size l sv (CV c t f b).r9/\
  (∃b5 b6 b7,W a #[.map (T m),b5,b6,b7,G A ((GK c t f b).pl:Nat),G A ((GK c t f b).ca:Nat)] 124 l)/\Cx m c l/\O (fun k=>k=a) w l)=Po
 have HP:=J c4;clear c4;have d5:=@run_makeMap prog;go_enter func44,ntmps44;go_wp2_with fail;have v1:W a #[.map (T m),.map (T (w.heap.size+2)),c6,b8,G A f,G A b] 124 (o.setCell ⟨a,1,Z⟩ (.map (T (w.heap.size+2)))):=L.o.set 1 _;have v2:W a #[.map (T m),.map (T (w.heap.size+2)),Y Z 0 0,b8,G A f,G A b] 124 ((o.setCell ⟨a,1,Z⟩ (.map (T (w.heap.size+2)))).setCell ⟨a,2,Z⟩ (Y Z 0 0)):=v1.set 2 _;have v3:W a #[.map (T m),.map (T (w.heap.size+2)),Y Z 0 0,Y Z 0 0,G A f,G A b] 124 (((o.setCell ⟨a,1,Z⟩ (.map (T (w.heap.size+2)))).setCell ⟨a,2,Z⟩ (Y Z 0 0)).setCell ⟨a,3,Z⟩ (Y Z 0 0)):=v2.set 3 _;have S:O (fun k=>k=a) o (((o.setCell ⟨a,1,Z⟩ (.map (T (w.heap.size+2)))).setCell ⟨a,2,Z⟩ (Y Z 0 0)).setCell ⟨a,3,Z⟩ (Y Z 0 0)):=(((O.refl _ o).t9 1 _).t9 2 _).t9 3 _;have b0:(((o.setCell ⟨a,1,Z⟩ (.map (T (w.heap.size+2)))).setCell ⟨a,2,Z⟩ (Y Z 0 0)).setCell ⟨a,3,Z⟩ (Y Z 0 0)).heap.size=w.heap.size+2:=by simp[c5]
 obtain⟨V,hV⟩:∃V,(((o.setCell ⟨a,1,Z⟩ (.map (T (w.heap.size+2)))).setCell ⟨a,2,Z⟩ (Y Z 0 0)).setCell ⟨a,3,Z⟩ (Y Z 0 0))=V:=⟨_,rfl⟩;rw[hV]at v3 S b0;have e3:=hV;clear hV;rw[e3];have mz:=Cx.none V;rw[b0]at mz;have oL:=J (((a6.o.mono (fun _ _ q=>q.elim)).trans S).alloc (.map #[] 0));have BL:D (Cv a m (w.heap.size+2) w.heap.size c ⟨(t.u9.take 0).map (fun p=>p.d9),[],f,b⟩ (Y Z 0 0) (Y Z 0 0) (V.alloc (.map #[] 0))):=
  ⟨v3.alloc _,HM.o.d8 oL.o d4,mz,iB _ _ _ _,⟨[],iB _ _ _ _,rfl,fun i h=>by simp at h⟩,by omega⟩
 obtain⟨FL,RL,d8⟩:=Ax ((a0.o.d8 S (by omega)).alloc (.map #[] 0)) ((c1.o.d8 S (by omega)).alloc (.map #[] 0)) (Am a7.o HB.o (by decide));generalize V.alloc _=WL at*;clear v1 v2 v3 S mz e3 b0 b1 b2 b3 bf g2 L a0 c1 a6 c5 R d5 e1 e2;go_loopw[20] (fun i wr=>∃(k:Nat) (a4:Value),k<=t.u9.length/\i=G A k/\D (Cv a m (w.heap.size+2) w.heap.size c ⟨(t.u9.take k).map (fun p=>p.d9),[],f,b⟩ a4 (Y Z 0 0) wr)/\D (O (fun k=>k=a) w wr)/\D (W w.heap.size #[.string t.name.d9,G A t.name.l7,Y E t.u9.length F,G A t.l7,Y B t.cP.length C] 132 wr)/\D (W (w.heap.size+1) #[.string ⟨#[]⟩,Y Z 0 0,G A 0,Y Z 0 0] 134 wr)) (fun i _=>t.u9.length-(intOf i).toNat)
 case atStart=>exact⟨0,_,by omega,rfl,BL,oL,FL,RL⟩
 case round=>
  obtain⟨k,a4,d2,rfl,K,z,F1,R1⟩:=hrel;clear BL oL FL RL;have e7:=s.o.dC;have z1:=z.o.size;by_cases a1:k<t.u9.length
  .obtain⟨g,rfl⟩:=Ap a7.o (by omega);have a3:=Ac a7.o z.o d8.o;have a8:=FK a1;have c0:=a3.cellAt (k*2) (by omega);have c8:=a3.cellAt (k*2+1) (by omega);rw[a8.1]at c0;rw[a8.2]at c8;have lg:=(a3.lt g rfl).2;have d3:=s.o.eH t.u9[k] (iA _);have d6:=J (RN s.o.nd a1);have e0:=J (iX a1);clear a3 a8;generalize t.u9[k]=q at*;have y:=J ((O.refl kJ wr).alloc (.cells #[.string q.d9,G A q.l7] 126));go_wp2_with(go_at_call 94;refine(Nd a m (w.heap.size+2) w.heap.size c ⟨(t.u9.take k).map (fun p=>p.d9),[],f,b⟩ q a4 (Y Z 0 0) _ (K.o.s9 y.o) (by have:=y.o.size;omega) d3 (by simp;omega) d6.o).mono ?_;rintro e I ⟨rfl,⟨a5,N⟩,u⟩);have r:D (Cv a m (w.heap.size+2) w.heap.size c ⟨(t.u9.take (k+1)).map (fun p=>p.d9),[],f,b⟩ a5 (Y Z 0 0) I):=by show Cv _ _ _ _ _ _ _ _ _;rw[e0.o,jZ];exact N
   have F5:=J (u.cI ⟨_,_,K.o.s9 y.o⟩ (F1.o.d8 y.o id) (by decide) (by decide));have x:=J (u.cI ⟨_,_,K.o.s9 y.o⟩ (R1.o.d8 y.o id) (by decide) (by decide));have O5:D (O (fun k=>k=a) w I):=(z.o.dM y.o).eZ u (fun j q=>by
    rcases q with q|q|⟨q,_⟩
    .exact .inl q
    .exact .inr (by omega)
    .exact .inr q)
   clear N u;go_round
   case rel=>exact⟨k+1,a5,by omega,by go_num,r,O5,F5,x⟩
   case measure=>simp[intOf];omega
  .have e:k=t.u9.length:=by omega
   subst e;have B2:D (Cv a m (w.heap.size+2) w.heap.size c (Rh t f b) a4 (Y Z 0 0) wr):=by have h:=K.o;rw[List.take_length]at h;exact h
   clear K a1 d2;go_wp2_with fail;refine DK (WV _ a w.heap.size t.l7 (Dy t.cP) (Y B t.cP.length C) wr (fun l n=>?_) (fun l n=>?_) (fun l n=>?_))
   .have X:=F1.o.d8 n id;exact⟨X.cell 3,X.cell 4⟩
   .exact Nh d (Kq d) U t.l7 t.cP _ l (b9.o.d8 (z.o.dM n) (fun k v q=>(M.o k v).2 q)) s.o.tok (by have:=s.o.sz;omega)
   .refine(Ep d (Ni d) a m (w.heap.size+2) w.heap.size U c c7 (Rh t f b) t.l7 (Dy t.cP) t.cP _ l ⟨_,_,B2.o.s9 n⟩ (by have:=n.size;omega) (fun k v=>⟨(M.o k v).1,(M.o k v).2,by have:=(M.o k v).1;omega⟩) (b9.o.d8 (z.o.dM n) (fun k v q=>(M.o k v).2 q)) s.o.tok s.o.ok (by show((t.u9.map fun p=>p.d9)).length<=12;simp;omega) (by show 0+Dy t.cP<=4001;have:=s.o.sz;omega) s.o.pl s.o.ca (by have:=s.o.sz;omega)).mono ?_;rintro e I ⟨rfl,⟨a5,e4,N⟩,u⟩;refine⟨_,rfl,fun f2 f3 f4 f6 f7 f8 f9=>?_⟩;have Q:Cv a m (w.heap.size+2) w.heap.size c (GK c t f b) a5 e4 I:=N;have F5:=J (u.cI ⟨_,_,B2.o.s9 n⟩ (F1.o.d8 n id) (by decide) (by decide) (by decide));have x:=J (u.cI ⟨_,_,B2.o.s9 n⟩ (R1.o.d8 n id) (by decide) (by decide) (by decide));have O5:D (O (fun k=>k=a) w I):=(z.o.dM n).eZ u (fun j q=>by
     rcases q with q|q|⟨q,_⟩
     .exact .inl q
     .exact .inr (by omega)
     .exact .inr q)
    obtain⟨na,nl,nc,rfl⟩:=Ad Q.cH;have d7:=Ag Q.cH;subst d7;obtain⟨sa,sc,rfl,_⟩:=Q.r9.form;have r:=J Q;clear N Q u n B2 z F1 R1;go_wp2_with fail;refine DK (WX _ a w.heap.size (w.heap.size+1) (GK c t f b).cH.length t.u9.length (GK c t f b).r9.length t.name.d9 na nc E F sa sc _ _ _ _ I (fun l n=>?_) x.o ?_)
    .have q1:=(r.o.s9 n).cI;have X:=F5.o.d8 n id;exact⟨X.cell 0,q1.cell 2,X.cell 2,q1.cell 3⟩
    .intro w9 g0 g1 g3 g4 g5 g6 g7 g8 g9 h0 h1 h2 h3 h4 h6 c2 H;have BX:=J c2;have O9:D (O (fun k=>k=a) w w9):=O5.o.eZ H (fun j q=>.inr (by omega));have N9:D (Au w.heap.size w9 (Y na (GK c t f b).cH.length nc) (GK c t f b).cH):=Ac r.o.cH H (Am r.o.cH x.o (by decide));have S9:D (AR w.heap.size w9 (Y sa (GK c t f b).r9.length sc) (GK c t f b).r9):=r.o.r9.dO H (fun k cs t fz v q=>by subst v;rw[Er x.o q];decide);have X9:=J (r.o.cI.d8 H (r.o.cI.ne x.o (by decide)));have M9:=J (r.o.fns.d8 H (r.o.fns.ne x.o));clear c2 H r x F5 O5;go_wp2_with fail;(try simp only[Exit.inBlock,Exit.then]);refine gZ (results_cell_row (P:=prog) (by rfl) _ _ (w.heap.size+1) 134 _ (0,0) _ (by rfl) BX.o underlying134 (by rfl) (by kernel_rfl)) (by rfl) ?_;have hp:=HP.o;subst hp;exact⟨_,_,rfl,N9.o,S9.o,⟨_,_,_,X9.o⟩,M9.o,O9.o⟩
abbrev bK:Array Value:=#[.string ⟨#[]⟩,Y Z 0 0,G A 0,Y Z 0 0]
theorem Tryz.infoPFn:(Tryz.prog.info? 134).map (fun i=>(i.zero,i.size,i.bytes))=T (T (.agg bK),4,72):=by kernel_rfl
theorem UP(R:Act->World->Prop)(t a C B n N r s z1 z2 z3 X c1 c2 c3 c4 v w)(U:Value->Value->World->Prop)(c){f0 x0 x1 x2 x4 x5 x7 x9 a2 a3 a4 a5 a6 a7 a8 a9 b0 b1 b2 b3 b4 b5 b7 b8 b9 c5 c6 c7 c8 c9 d0 d1 d2 d3 d4 f9 g0 g1 g2 g3 g4 g5 d5 d6 d7 d8 d9 e5 e6 e7}
 (o:W a #[Y r n s,z1,z2,z3] 66 c)(hf:W C #[X,c1,c2,c3,c4] 132 c)(E:W t f0 124 c)(L:c.ownsRow B 134 4 (Y r n s) n N)(hB:B<=c.heap.size)(hn:n<=4000)
 (hC:Calls prog 44 #[.pointer (T ⟨t,0,Z⟩),.agg #[X,c1,c2,c3,c4]] c.drew fun e w'=>∃d g f i m l,e=.returned (.agg #[.string v,Y d g f,G A (w:Nat),Y i m l])/\U (Y d g f) (Y i m l) w'/\O (fun k=>k=t) c w')
 (hQ:∀(d:Option Addr) (g f:Nat) (i:Option Addr) (m l:Nat) (b y:World) (M:Value) (g7 g8 g9 h0 h1 h2 h3:Value),U (Y d g f) (Y i m l) b->O (fun k=>k=t) c b->y.ownsRow B 134 4 M (n+1) (N++[.string v,Y d g f,G A (w:Nat),Y i m l])->W a #[M,z1,z2,z3] 66 y->O (fun k=>k=a\/(Value.slice r n s).ownBlock=T k) b y->R {tmps:=#[x0,x1,x2,.pointer (T ⟨t,0,Z⟩),x4,x5,.pointer (T ⟨a,0,Z⟩),x7,.pointer (T ⟨C,0,Z⟩),x9,a2,a3,a4,a5,a6,a7,a8,a9,b0,b1,b2,b3,b4,b5,b7,b8,b9,c5,c6,c7,c8,c9,d0,d1,d2,d3,d4,g7,g8,g9,h0,h1,h2,h3,d5,d6,d7,d8,d9,e5,e6,e7],defers:=[]} y):
 Code.wp prog (.region 11 #[⟨T 37,.fieldAddr 66 (.tmp 6) 0,0, "build.go:13",#[],Z⟩,⟨T 38,.load 64 (.tmp 37),64, "build.go:13",#[⟨0,.data⟩],Z⟩,⟨T 39,.load 132 (.tmp 8),132, "build.go:13",#[],Z⟩,⟨T 40,.call ⟨.value (.func 44),#[.tmp 3,.tmp 39],#[124,132]⟩,134, "build.go:13",#[⟨2,.data⟩],Z⟩,⟨T 41,.buildSlice 64 1 #[(0,.tmp 40)],64, "build.go:13",#[⟨3,.data⟩],Z⟩,⟨T 42,.call ⟨.builtin .append,#[.tmp 38,.tmp 41],#[64,64]⟩,64, "build.go:13",#[⟨1,.data⟩,⟨4,.data⟩,⟨3,.chain⟩],Z⟩,⟨T 43,.fieldAddr 66 (.tmp 6) 0,0, "build.go:13",#[⟨0,.phase⟩,⟨1,.phase⟩,⟨2,.phase⟩,⟨3,.phase⟩,⟨4,.phase⟩,⟨5,.phase⟩],Z⟩,⟨Z,.store 64 (.tmp 43) (.tmp 42),0, "build.go:13",#[⟨6,.data⟩,⟨5,.data⟩,⟨5,.chain⟩,⟨0,.phase⟩,⟨1,.phase⟩,⟨2,.phase⟩,⟨3,.phase⟩,⟨4,.phase⟩,⟨5,.phase⟩],Z⟩] true) (Mi R) {tmps:=#[x0,x1,x2,.pointer (T ⟨t,0,Z⟩),x4,x5,.pointer (T ⟨a,0,Z⟩),x7,.pointer (T ⟨C,0,Z⟩),x9,a2,a3,a4,a5,a6,a7,a8,a9,b0,b1,b2,b3,b4,b5,b7,b8,b9,c5,c6,c7,c8,c9,d0,d1,d2,d3,d4,f9,g0,g1,g2,g3,g4,g5,d5,d6,d7,d8,d9,e5,e6,e7],defers:=[]} c:=by
 obtain⟨i0,f1,f2,f3,f4⟩:=info_parts Tryz.infoPFn;have lp:=Ae o;have p0:=o.cell 0;have pf:=o.frozen 0;obtain⟨e0,e1,e2,e3,e4⟩:=hf.e5 0 1 2 3 4;simp only[gR,gP,gQ]at p0 e0 e1 e2 e3 e4;obtain⟨z,Q,HC,HQ,e8,H,K⟩:=Wk o L hC hQ E (Am L o (by decide)) (o.ne E (by decide));clear o hf L hC hQ E;go_region_law(first
  |(go_simp;go_at_call 44;refine HC.o.mono ?_;rintro e b ⟨d,g,f,i,m,l,rfl,S,p⟩;have f5:b.cell? ⟨a,0,Z⟩=T (Y r n s):=(z.o.d8 p K.o).cell 0;obtain⟨e9,O5,P⟩:=Ax S p (z.o.d8 p K.o);have a1:=Ae (z.o.d8 p K.o);have R5:D (b.ownsRow B 134 4 (Y r n s) n N):=Ac Q.o p (Am Q.o e8.o (by decide));have h4:=p.size;clear S p)
  |(refine AC rfl _ _ 64 rfl B 134 i0 (.agg bK) 4 72 underlying64 f1 f2 f3 f4 rfl (by decide) _ _ _ rfl (R5.o.alloc _) ⟨b.heap.size,0,Z⟩ 1 1 [.string v,Y d g f,G A (w:Nat),Y i m l] rfl rfl (AD rfl _ _) (fun x hx=>by simp only[jJ,iR,or_false]at hx;rcases hx with rfl|rfl|rfl|rfl<;>rfl) (by decide) (by unfold maxLen;omega) (by omega) (by simp;omega) ?_;intro M u I F h5;have q1:u.cell? ⟨a,0,Z⟩=T (Y r n s):=(gT (F.block a (by simp;omega) (fun h=>H.o a h.symm rfl))).trans (by rw[<-f5];exact gT (iC _ _ _ a1));have q2:u.frozen? ⟨a,0,Z⟩=false:=(gY (F.block a (by simp;omega) (fun h=>H.o a h.symm rfl))).trans (by rw[<-Az P.o 0];exact gY (iC _ _ _ a1));obtain⟨f6,f8,f7,rfl⟩:=Ad I))
 all_goals
  have g6:O (fun k=>(Value.slice r n s).ownBlock=T k) b u:=O.grown ((O.refl _ b).alloc (.cells #[.string v,Y d g f,G A (w:Nat),Y i m l] 134)) F (fun j hj=>.inl hj);have V:=P.o.d8 g6 (fun q=>H.o a q rfl);have a0:O (fun k=>k=a) u (u.setCell ⟨a,0,Z⟩ (Y f6 f8 f7)):=(O.refl _ _).t9 0 _;exact HQ.o d g f i m l b _ _ _ _ _ _ _ _ _ e9.o O5.o (Ac I a0 (Am I V (by decide))) (V.set 0 _) ((g6.mono (fun _ _ q=>.inr q)).trans (a0.mono (fun _ _ q=>.inl q)))
theorem UQ(R:Act->World->Prop)(d a:Nat)(c e:Nat)(g h z2 z3:Value)(b:World){m n z x4 x5 x7 x8 x9 o p q r s t u v x y B C E F H I K L M N P Q S U V X a0 a1 a2 a3 a4 a5 a6 a7 a8 b0 b1 b4 b5 b6 b7 a9:Value}
 (f:W a #[g,h,z2,z3] 66 b)(c4:b.cell? ⟨d,4,Z⟩=T (G A c))(c5:b.cell? ⟨d,5,Z⟩=T (G A e))
 (l:∀(j:World) (b8 b9 c0 c1 c2 c3:Value),W a #[g,h,G A c,G A e] 66 j->O (fun k=>k=a) b j->R {tmps:=#[m,n,z,.pointer (T ⟨d,0,Z⟩),x4,x5,.pointer (T ⟨a,0,Z⟩),x7,x8,x9,o,p,q,r,s,t,u,v,x,y,B,C,E,F,H,I,K,L,M,N,P,Q,S,U,V,X,a0,a1,a2,a3,a4,a5,a6,a7,a8,b8,b9,c0,c1,c2,c3,a9],defers:=[]} j):
 Code.wp prog (.region 13 #[⟨T 45,.fieldAddr 124 (.tmp 3) 4,0, "build.go:15",#[],Z⟩,⟨T 46,.load 3 (.tmp 45),3, "build.go:15",#[⟨0,.data⟩],Z⟩,⟨T 47,.fieldAddr 124 (.tmp 3) 5,0, "build.go:15",#[⟨5,.gcOnly .lateStores⟩],Z⟩,⟨T 48,.load 3 (.tmp 47),3, "build.go:15",#[⟨2,.data⟩,⟨5,.gcOnly .lateStores⟩],Z⟩,⟨T 49,.fieldAddr 66 (.tmp 6) 2,0, "build.go:15",#[⟨0,.phase⟩,⟨1,.phase⟩,⟨2,.textOnly .lateStores⟩,⟨3,.textOnly .lateStores⟩],Z⟩,⟨Z,.store 3 (.tmp 49) (.tmp 46),0, "build.go:15",#[⟨4,.data⟩,⟨1,.data⟩,⟨0,.phase⟩,⟨1,.phase⟩,⟨2,.textOnly .lateStores⟩,⟨3,.textOnly .lateStores⟩],Z⟩,⟨T 50,.fieldAddr 66 (.tmp 6) 3,0, "build.go:15",#[⟨0,.phase⟩,⟨1,.phase⟩,⟨2,.phase⟩,⟨3,.phase⟩,⟨4,.phase⟩,⟨5,.phase⟩],Z⟩,⟨Z,.store 3 (.tmp 50) (.tmp 48),0, "build.go:15",#[⟨6,.data⟩,⟨3,.data⟩,⟨5,.chain⟩,⟨0,.phase⟩,⟨1,.phase⟩,⟨2,.phase⟩,⟨3,.phase⟩,⟨4,.phase⟩,⟨5,.phase⟩],Z⟩] true) (Mi R) {tmps:=#[m,n,z,.pointer (T ⟨d,0,Z⟩),x4,x5,.pointer (T ⟨a,0,Z⟩),x7,x8,x9,o,p,q,r,s,t,u,v,x,y,B,C,E,F,H,I,K,L,M,N,P,Q,S,U,V,X,a0,a1,a2,a3,a4,a5,a6,a7,a8,b0,b1,b4,b5,b6,b7,a9],defers:=[]} b:=by
 obtain⟨p2,p3⟩:=f.e2 2 3;have pf:=fun i=>Az f i
 simp only[gR,gP,gQ]at p2 p3;have HP:=J f;have HQ:=J l;clear f l;go_region;all_goals
  have b2:W a #[g,h,G A c,z3] 66 (b.drew.setCell ⟨a,2,Z⟩ (G A c)):=W.set (w:=b.drew) HP.o 2 _;have b3:W a #[g,h,G A c,G A e] 66 ((b.drew.setCell ⟨a,2,Z⟩ (G A c)).setCell ⟨a,3,Z⟩ (G A e)):=b2.set 3 _;exact HQ.o _ _ _ _ _ _ _ b3 ((((O.refl _ b).drew).t9 2 _).t9 3 _)
theorem RY(a:List ByteArray)(l:List TF)(k:Nat)(h:k<l.length)(c b:Nat):Bl a (l.drop k) c b=CV a l[k] c b::Bl a (l.drop (k+1)) (GK a l[k] c b).pl (GK a l[k] c b).ca:=by rw[iD h];rfl
theorem RX(a:List ByteArray)(l:List TF)(k:Nat)(h:k<l.length)(c b:Nat):BU a (l.drop k) c b=BU a (l.drop (k+1)) (GK a l[k] c b).pl (GK a l[k] c b).ca:=by rw[iD h];rfl
theorem Ug{l:List ByteArray}{s:ByteArray}{k:Nat}(c:k<=l.length)(h:BC l s 0=k):s∉l.take k:=by intro b;have e:l.take k++l.drop k=l:=List.take_append_drop k l;rw[<-e,SX _ _ _ b]at h;obtain⟨_,_,a⟩:=C0 (l.take k) s 0;rw[List.length_take]at a;omega
structure XY(d:Nat)(fns:List TF):Prop where
 dC:fns.length<=12
 first:∀i (h:i<fns.length),BC (fns.map fun f=>f.name.d9) fns[i].name.d9 0=i
 nm:∀t,t∈fns->t.name.d9.size<=4000
 eH:∀t,t∈fns->∀p,p∈t.u9->p.d9.size<=4000
 nd:∀t,t∈fns->(t.u9.map fun p=>p.d9).Nodup
 gJ:∀t,t∈fns->t.u9.length<=12
 tok:∀t,t∈fns->∀s,s∈t.cP->OZ d s
 ok:bY fns
 sz:∀t,t∈fns->Dy t.cP<=4000
 pl:(fns.map fun t=>nL 1 t.cP).sum<=4000
 ca:(fns.map fun t=>nL 8 t.cP).sum<=4000
theorem JY.dO{B w j c f}{X:Nat->Prop}(h:JY B w c f)(i:O X w j)(g:∀k a t b,X k->w.heap[k]? =T (.cells a t b)->t≠3/\t≠189/\t≠9):JY B j c f:=by obtain⟨o,n,e,l,m⟩:=h;exact⟨o,n,e,Ai l i (fun k a b d q=>(g k a _ b d q).2.2 rfl),m.dO i (fun k a t b d q=>⟨(g k a t b d q).1,(g k a t b d q).2.1⟩)⟩
theorem AR.base{B a w c l}(h:AR B w c l)(b:a<=B):AR a w c l:=by obtain⟨f,j,k,m⟩:=h;refine⟨f,Aq j b,k,fun i h g=>?_⟩;obtain⟨d,e,n⟩:=m i h g;exact⟨d,e,Aq n b⟩
structure Z5(d:Nat)(fns:List TF)(k:Nat)(P:List PFn)(pl ca:Nat):Prop where
 len:P.length=k
 is:P++Bl (fns.map fun f=>f.name.d9) (fns.drop k) pl ca=Bl (fns.map fun f=>f.name.d9) fns 0 0
 dQ:BU (fns.map fun f=>f.name.d9) (fns.drop k) pl ca=BU (fns.map fun f=>f.name.d9) fns 0 0
 pl:pl+((fns.drop k).map fun t=>nL 1 t.cP).sum<=4000
 ca:ca+((fns.drop k).map fun t=>nL 8 t.cP).sum<=4000
theorem Ig(f:TF->Nat)(l:List TF)(k:Nat)(h:k<l.length):((l.drop k).map f).sum=f l[k]+((l.drop (k+1)).map f).sum:=by rw[iD h,iU,jC]
theorem Z5.fY{d a k P i e}(h:Z5 d a k P i e)(c:XY d a)(g:k<a.length):aC d (a.map fun f=>f.name.d9) (a.map fun f=>f.u9.length) a[k] i e:=by have b:a[k]∈a:=iA _;have j:=Ig (fun t=>nL 1 t.cP) a k g;have l:=Ig (fun t=>nL 8 t.cP) a k g;have:=h.pl;have:=h.ca;exact⟨c.eH _ b,c.nd _ b,c.gJ _ b,c.tok _ b,c.ok _ b,c.sz _ b,by omega,by omega⟩
theorem Z5.next{d a k P c b}(h:Z5 d a k P c b)(g:XY d a)(e:k<a.length):Z5 d a (k+1) (P++[CV (a.map fun f=>f.name.d9) a[k] c b]) (GK (a.map fun f=>f.name.d9) a[k] c b).pl (GK (a.map fun f=>f.name.d9) a[k] c b).ca:=by
 have L:=DT (fn:=a.map fun f=>f.name.d9) (par:=a.map fun f=>f.u9.length) a[k].cP (Dy a[k].cP) (Rh a[k] c b) (g.ok _ (iA _));have l:=Ig (fun t=>nL 1 t.cP) a k e;have m:=Ig (fun t=>nL 8 t.cP) a k e;have i:(GK (a.map fun f=>f.name.d9) a[k] c b).pl=c+nL 1 a[k].cP:=L.pl;have j:(GK (a.map fun f=>f.name.d9) a[k] c b).ca=b+nL 8 a[k].cP:=L.ca;have:=h.pl;have:=h.ca;refine⟨by simp[h.len],?_,?_,by omega,by omega⟩
 .rw[<-h.is,RY _ a k e];simp
 .rw[<-h.dQ,RX _ a k e]
theorem YK(d:Nat)(U:Nat->Prop)(fs:Value)(a:List TF)(a4:Nat)(w:World)(hp:DM d U w fs a)(hU:∀k,U k->k<w.heap.size)(hy:XY d a):
 Calls prog 16 #[.agg #[fs,G A a4]] w fun e w'=>∃fv,e=.returned (.agg #[fv,G A (vx (a.map fun f=>f.name.d9) EN:Nat),G A ((BU (a.map fun f=>f.name.d9) a 0 0).1:Nat),G A ((BU (a.map fun f=>f.name.d9) a 0 0).2:Nat)])/\
  Bx w.heap.size w' fv (Bl (a.map fun f=>f.name.d9) a 0 0)/\O kJ w w':=by
 have a7:=hp;obtain⟨i3,E,_⟩:=a7;obtain⟨S,vl,X,rfl⟩:=Ad E;have c5:=Ag E;subst c5;obtain⟨d1,HU,HY⟩:=Ax hp hU hy;have i5:=hy.dC;clear hp hU hy E;obtain⟨v,c1⟩:∃v,vx (a.map fun f=>f.name.d9) EN=v:=⟨_,rfl⟩;rw[c1];have g2:=J c1;clear c1;obtain⟨K,a5⟩:∃K,((w.alloc (.cells #[Y S a.length X,G A a4] 60)).alloc (.cells #[Y Z 0 0,G A 0,G A 0,G A 0] 66))=K:=⟨_,rfl⟩;have d0:D (O kJ w K):=by rw[<-a5];exact((O.refl _ w).alloc _).alloc _
 have b7:D (W w.heap.size #[Y S a.length X,G A a4] 60 K):=by rw[<-a5];exact(W.new w _ _).alloc _
 have d2:D (W (w.heap.size+1) #[Y Z 0 0,G A 0,G A 0,G A 0] 66 K):=by rw[<-a5];have:=W.new (w.alloc (.cells #[Y S a.length X,G A a4] 60)) #[Y Z 0 0,G A 0,G A 0,G A 0] 66;rw[show(w.alloc (.cells #[Y S a.length X,G A a4] 60)).heap.size=w.heap.size+1 by simp]at this;exact this
 have c4:K.heap.size=w.heap.size+2:=by rw[<-a5];simp
 have g0:=b7.o.cell 0;simp only[gR,gP]at g0;have h7:=@run_makeMap prog;generalize e6:(fun(e:Ending) (w':World)=>∃fv,e=.returned (.agg #[fv,G A (v:Nat),G A ((BU (a.map fun f=>f.name.d9) a 0 0).1:Nat),G A ((BU (a.map fun f=>f.name.d9) a 0 0).2:Nat)])/\Bx w.heap.size w' fv (Bl (a.map fun f=>f.name.d9) a 0 0)/\O kJ w w')=Po;have HP:=J e6;clear e6;go_enter func16,ntmps16;go_wp2_with fail;have mz:=Cx.none K;rw[c4]at mz;have e9:(K.alloc (.map #[] 0)).heap.size=w.heap.size+2+1:=by simp[c4]
 have bz:=W.new (K.alloc (.map #[] 0)) #[.map (T (w.heap.size+2)),.map Z,Y Z 0 0,Y Z 0 0,G A 0,G A 0] 124;rw[e9]at bz;obtain⟨ML,BL,OL,FL,RL⟩:=BB (mz.d8 ((O.refl kJ _).alloc (.cells #[.map (T (w.heap.size+2)),.map Z,Y Z 0 0,Y Z 0 0,G A 0,G A 0] 124)) id) bz ((d0.o.alloc (.map #[] 0)).alloc (.cells #[.map (T (w.heap.size+2)),.map Z,Y Z 0 0,Y Z 0 0,G A 0,G A 0] 124)) ((b7.o.alloc (.map #[] 0)).alloc (.cells #[.map (T (w.heap.size+2)),.map Z,Y Z 0 0,Y Z 0 0,G A 0,G A 0] 124)) ((d2.o.alloc (.map #[] 0)).alloc (.cells #[.map (T (w.heap.size+2)),.map Z,Y Z 0 0,Y Z 0 0,G A 0,G A 0] 124));generalize (K.alloc _).alloc _=WL at*;clear mz bz e9 c4 a5 d0 b7 d2 g0 h7;go_loopw[14] (fun i wr=>∃(k:Nat),k<=a.length/\i=G A k/\D (Cx (w.heap.size+2) ((a.map fun f=>f.name.d9).take k) wr)/\D (W (w.heap.size+2+1) #[.map (T (w.heap.size+2)),.map Z,Y Z 0 0,Y Z 0 0,G A 0,G A 0] 124 wr)/\D (O kJ w wr)/\D (W w.heap.size #[Y S a.length X,G A a4] 60 wr)/\D (W (w.heap.size+1) #[Y Z 0 0,G A 0,G A 0,G A 0] 66 wr)) (fun i _=>a.length-(intOf i).toNat)
 case atStart=>exact⟨0,by omega,rfl,ML,BL,OL,FL,RL⟩
 case round=>
  obtain⟨k,d6,rfl,H,p,y,F1,I⟩:=hrel;clear ML BL OL FL RL;have z1:=y.o.size;by_cases R:k<a.length
  .have Q:DM d U wr (Y S a.length X) a:=d1.o.d8 y.o (fun _ _ q=>q);have a7:=Q;obtain⟨g6,E,_⟩:=a7;obtain⟨g,rfl⟩:=Ap E (by omega);have lg:=(E.lt g rfl).2;obtain⟨av,sv,x,a2,b4,a9⟩:=Q.get R;obtain⟨c,f7,m,rfl⟩:=Ad a2;obtain⟨_,a6,_⟩:=a9;obtain⟨ba,a0,bc,rfl⟩:=Ad a6;have f0:=x 0 (by omega);have f1:=x 1 (by omega);have f2:=x 2 (by omega);have f3:=x 3 (by omega);have f4:=x 4 (by omega);simp only[MX,gR,gP,gQ,iH]at f0 f1 f2 f3 f4;have e5:=Ug (l:=(a.map fun f=>f.name.d9)) (s:=a[k].name.d9) (k:=k) (by simp;omega) (HY.o.first k R);have i0:=HY.o.nm a[k] (iA _);have f5:(a.map fun f=>f.name.d9).take (k+1)=(a.map fun f=>f.name.d9).take k++[a[k].name.d9]:=by rw[iX (by simp;omega)];simp
   have g4:=J f5;clear x a2 b4 a6 E Q f5;generalize a[k]=t at*;have b:=J ((O.refl kJ wr).alloc (.cells #[.string t.name.d9,G A t.name.l7,Y c f7 m,G A t.l7,Y ba a0 bc] 132));have b0:=p.o.cell 0;have f6:=Ae p.o;simp only[gR,gP]at b0;obtain⟨V,h9,hM,hT⟩:=Cx.add (w:=wr.alloc (.cells #[.string t.name.d9,G A t.name.l7,Y c f7 m,G A t.l7,Y ba a0 bc] 132)) (H.o.d8 b.o id) i0 (by simp;omega) e5;rw[show((a.map fun f=>f.name.d9).take k).length=k by simp;omega]at h9;rw[<-g4.o]at hM;have MV:=J hM;have d8:=H.o.ne p.o;have d9:=H.o.ne F1.o;have e4:=H.o.ne I.o;obtain⟨BV,FV,RV,OV⟩:=Ba ((p.o.d8 b.o id).d8 hT (fun q=>d8 q.symm)) ((F1.o.d8 b.o id).d8 hT (fun q=>d9 q.symm)) ((I.o.d8 b.o id).d8 hT (fun q=>e4 q.symm)) ((y.o.trans b.o).within hT (fun j q=>by omega));clear hM hT e5 d8 d9 e4;go_wp2_with fail;go_round
   case rel=>exact⟨k+1,by omega,by go_num,MV,BV,OV,FV,RV⟩
   case measure=>simp[intOf];omega
  .have e:k=a.length:=by omega
   subst e;have a8:=H.o;rw[show((a.map fun f=>f.name.d9).take a.length)=(a.map fun f=>f.name.d9) from List.take_of_length_le (by simp)]at a8;have hL:(Instr.lookup 121 (.map (T (w.heap.size+2))) (.string ⟨#[109,97,105,110]⟩) false).run prog wr=.ok (G A (v:Nat)) wr:=by rw[<-g2.o];exact a8.look (s:=EN) (by decide)
   have b0:=p.o.cell 0;have g0:=F1.o.cell 0;have f6:=Ae p.o;have i1:=Ae F1.o;simp only[gR,gP]at b0 g0;have b:=J ((O.refl kJ wr).alloc (.cells #[Y Z 0 0,G A (v:Nat),G A 0,G A 0] 66));have PL:=J (W.new wr #[Y Z 0 0,G A (v:Nat),G A 0,G A 0] 66);obtain⟨ML,BL,FL,RL,OL⟩:=BB (a8.d8 b.o id) (p.o.d8 b.o id) (F1.o.d8 b.o id) (I.o.d8 b.o id) (y.o.trans b.o);clear a8 d6 R;go_wp2_with fail;obtain⟨M,c2⟩:∃M,wr.heap.size=M:=⟨_,rfl⟩;have i6:w.heap.size+2+1<M:=by omega
   rw[c2];rw[c2]at PL;generalize wr.alloc _=WP at*;clear hL b0 g0 f6 i1 H p F1 I y b c2 z1;go_loopw[33] (fun i wr=>∃(k:Nat) (P:List PFn) (c:Option Addr) (m:Nat) (n o:Nat) (m1 nv sv:Value),k<=a.length/\i=G A k/\D (Z5 d a k P n o)/\D (Bx w.heap.size wr (Y c P.length m) P)/\D (W M #[Y c P.length m,G A (v:Nat),G A 0,G A 0] 66 wr)/\D (Cx (w.heap.size+2) (a.map fun f=>f.name.d9) wr)/\D (W (w.heap.size+2+1) #[.map (T (w.heap.size+2)),m1,nv,sv,G A n,G A o] 124 wr)/\D (O kJ w wr)/\D (W (w.heap.size+1) #[Y Z 0 0,G A 0,G A 0,G A 0] 66 wr)) (fun i _=>a.length-(intOf i).toNat)
   case atStart=>exact⟨0,[],Z,0,0,0,_,_,_,by omega,rfl,⟨rfl,rfl,rfl,by rw[iY];exact HY.o.pl,by rw[iY];exact HY.o.ca⟩,⟨[],iB _ _ _ _,rfl,fun i h=>by simp at h⟩,PL,ML,BL,OL,RL⟩
   case round=>
    obtain⟨k,P,c,m,n,o,m1,nv,sv,d6,rfl,G1,PA,PB,H,p,y,I⟩:=hrel;clear PL ML BL OL FL RL;have z1:=y.o.size;by_cases R:k<a.length
    .have Q:DM d U wr (Y S a.length X) a:=d1.o.d8 y.o (fun _ _ q=>q);have a7:=Q;obtain⟨g6,E,_⟩:=a7;obtain⟨g,rfl⟩:=Ap E (by omega);have lg:=(E.lt g rfl).2;obtain⟨av,bv,x,a2,b4,a9⟩:=Q.get R;have e7:Il d U wr a[k] (MX a[k] av bv).toList:=⟨av,bv,rfl,a2,b4,a9⟩;obtain⟨ta,c8,tc,rfl⟩:=Ad a2;obtain⟨_,a6,_⟩:=a9;obtain⟨ba,a0,bc,rfl⟩:=Ad a6;have f0:=x 0 (by omega);have f1:=x 1 (by omega);have f2:=x 2 (by omega);have f3:=x 3 (by omega);have f4:=x 4 (by omega);simp only[MX,gR,gP,gQ,iH]at f0 f1 f2 f3 f4;obtain⟨GN,GF,g3⟩:=Ax (G1.o.next HY.o R) (G1.o.fY HY.o R) e7;have h8:D (P.length=k):=G1.o.len;clear x a2 b4 a6 E Q e7;generalize a[k]=t at*;have b:=J ((O.refl kJ wr).alloc (.cells #[.string t.name.d9,G A t.name.l7,Y ta c8 tc,G A t.l7,Y ba a0 bc] 132));have NB:=J (W.new wr #[.string t.name.d9,G A t.name.l7,Y ta c8 tc,G A t.l7,Y ba a0 bc] 132);go_wp2_with fail;generalize wr.alloc _=N at*;obtain⟨u,b5,d4,e8⟩:=PA.o;have D4:O kJ wr N.drew:=b.o.trans ((O.refl _ N).drew);refine DK (UP _ (w.heap.size+2+1) M wr.heap.size w.heap.size P.length u.flatten c m _ _ _ (.string t.name.d9) (G A t.name.l7) (Y ta c8 tc) (G A t.l7) (Y ba a0 bc) t.name.d9 t.u9.length (fun vv sv L=>Au w.heap.size L vv (CV (a.map fun f=>f.name.d9) t n o).t8/\AR w.heap.size L sv (CV (a.map fun f=>f.name.d9) t n o).r9/\(∃c6 c7 b6,W (w.heap.size+2+1) #[.map (T (w.heap.size+2)),c6,c7,b6,G A ((GK (a.map fun f=>f.name.d9) t n o).pl:Nat),G A ((GK (a.map fun f=>f.name.d9) t n o).ca:Nat)] 124 L)/\Cx (w.heap.size+2) (a.map fun f=>f.name.d9) L) N (PB.o.d8 b.o id) NB.o (p.o.d8 b.o id) (Ac b5 b.o (fun _ _ q=>q)) (by have:=b.o.size;omega) (by have:=h8.o;omega) ?_ ?_)
     .refine(VL d (w.heap.size+2+1) (w.heap.size+2) U (a.map fun f=>f.name.d9) (a.map fun f=>f.u9.length) t n o m1 nv sv _ N.drew (p.o.d8 D4 id) (H.o.d8 D4 id) (g3.o.d8 D4 (fun _ _ q=>q)) (fun j r=>⟨by have:=HU.o j r;have:=D4.size;omega,by have:=HU.o j r;omega⟩) GF.o).mono ?_;rintro e L ⟨vv,b6,rfl,h1,h2,h3,h4,h5⟩;obtain⟨na,nl,nc,rfl⟩:=Ad h1;obtain⟨sa,sc,rfl,_⟩:=h2.form;have d3:w.heap.size<=N.drew.heap.size:=by have:=D4.size;omega
      exact⟨na,nl,nc,sa,_,sc,rfl,⟨Aq h1 d3,h2.base d3,h3,h4⟩,(((O.refl _ N).drew).trans h5)⟩
     .intro na nl nc sa sl sc L F v' y37 y38 y39 y40 y41 y42 y43 hPo o5 hr9 a1 B;obtain⟨h1,h2,⟨c6,c7,b6,h3⟩,h4⟩:=hPo;obtain⟨f8,i7,f9,rfl⟩:=Ad hr9;have c5:=Ag hr9;subst c5;have a3:L.ownsRow w.heap.size 134 4 (Y c P.length m) P.length u.flatten:=Ac (Ac b5 b.o (fun _ _ q=>q)) o5 (Am (Ac b5 b.o (fun _ _ q=>q)) (p.o.d8 b.o id) (by decide));have c3:W M #[Y c P.length m,G A (v:Nat),G A 0,G A 0] 66 L:=(PB.o.d8 b.o id).d8 o5 (by omega);have tx:∀j u t C,(j=M\/(Value.slice c P.length m).ownBlock=T j)->L.heap[j]? =T (.cells u t C)->t=66\/t=134:=by
       intro j u t C r z;rcases r with r|r
       .subst r;exact .inl (Er c3 z)
       .obtain⟨_,i2,i4,g9⟩:=CB a3 r;rw[g9]at z;simp only[gX,iE]at z;exact .inr z.2.1.symm
      have c9:∀j u t C,(j=M\/(Value.slice c P.length m).ownBlock=T j)->L.heap[j]? =T (.cells u t C)->t≠3/\t≠189/\t≠9:=by intro j u t C r z;rcases tx j u t C r z with e|e<;>(rw[e];decide)
      have tb:∀j u t C,j=w.heap.size+2+1->N.heap[j]? =T (.cells u t C)->t≠3/\t≠189/\t≠9:=by intro j u t C r z;subst r;rw[Er (p.o.d8 b.o id) z];decide
      obtain⟨g1,M9,B9⟩:=Ax GN.o (h4.d8 B (fun q=>q.elim (fun q=>h4.ne c3 q) (fun q=>JL a3 h4 q))) (h3.d8 B (fun q=>q.elim (fun q=>by omega) (fun q=>Am a3 h3 (by decide) _ q rfl)));have O9:D (O kJ w F):=((y.o.trans b.o).within o5 (fun j q=>by omega)).within B (fun j q=>q.elim (fun q=>by omega) (fun q=>(a3.lt j q).1));have R9:D (W (w.heap.size+1) #[Y Z 0 0,G A 0,G A 0,G A 0] 66 F):=((I.o.d8 b.o id).d8 o5 (by omega)).d8 B (fun q=>q.elim (fun q=>by omega) (fun q=>Am a3 ((I.o.d8 b.o id).d8 o5 (by omega)) (by decide) _ q rfl));have b8:D (Bx w.heap.size F (Y f8 (P.length+1) f9) (P++[CV (a.map fun f=>f.name.d9) t n o])):=by
       refine⟨u++[OA (CV (a.map fun f=>f.name.d9) t n o) (Y na nl nc) (Y sa sl sc)],?_,by simp[d4],fun i h0 h6=>?_⟩
       .rw[List.flatten_append,gW];simp only[List.flatten_cons,List.flatten_nil,iZ,iM];exact hr9
       .simp only[gW,iM]at h0 h6;by_cases d5:i<P.length
        .rw[iQ (by omega),iQ d5];exact(((e8 i (by omega) d5).dO b.o (fun _ _ _ _ q=>q.elim)).dO o5 tb).dO B c9
        .have e:i=P.length:=by omega
         subst e;rw[iO (by omega),iO (by omega)];simp only[d4,Nat.sub_self,iN];exact JY.dO ⟨_,_,rfl,h1,h2⟩ B c9
      have g5:=J a1;have d7:(P++[CV (a.map fun f=>f.name.d9) t n o]).length=P.length+1:=by simp
      clear b5 e8 hr9 a1 B o5 h1 h2 h3 h4 a3 c3 tx c9 tb D4 b NB PA PB H p y I;go_wp2_with fail;go_round
      case rel=>exact⟨k+1,P++[CV (a.map fun f=>f.name.d9) t n o],f8,f9,_,_,c6,c7,b6,by omega,by go_num,g1,by rw[d7];exact b8,by rw[d7];exact g5,M9,B9,O9,R9⟩
      case measure=>simp[intOf];omega
    .have e:k=a.length:=by omega
     subst e;obtain⟨b9,c0⟩:=p.o.e2 4 5;simp only[gR,gP,gQ]at b9 c0;go_wp2_with fail;refine DK (UQ _ (w.heap.size+2+1) M n o _ _ _ _ wr PB.o b9 c0 ?_);intro F i8 i9 j0 j1 j2 j3 a1 B;have hg:=G1.o;have e1:P=Bl (a.map fun f=>f.name.d9) a 0 0:=by have:=hg.is;rw[jW]at this;simpa[Bl]using this
     have e2:(n,o)=BU (a.map fun f=>f.name.d9) a 0 0:=by have:=hg.dQ;rw[jW]at this;simpa[BU]using this
     obtain⟨b8,O9,R9,BX,E1,E2⟩:=EF (PA.o.d8 B (fun j u t C r z=>by subst r;rw[Er PB.o z];decide)) (y.o.within B (fun j q=>by omega)) (I.o.d8 B (by omega)) a1 e1 e2;obtain⟨e0,g7,g8,e3⟩:=a1.e4 0 1 2 3;obtain⟨t0,t1,t2,t3⟩:=R9.o.e4 0 1 2 3;have tf:=fun i=>Az R9.o i
     simp only[gR,gP,gQ]at e0 g7 g8 e3 t0 t1 t2 t3;clear a1 B e1 e2 hg PA PB H p y I G1 b9 c0;go_wp2_with fail;have b0:W (w.heap.size+1) #[Y c P.length m,G A 0,G A 0,G A 0] 66 (F.setCell ⟨w.heap.size+1,0,Z⟩ (Y c P.length m)):=R9.o.set 0 _;have b1:W (w.heap.size+1) #[Y c P.length m,G A (v:Nat),G A 0,G A 0] 66 ((F.setCell ⟨w.heap.size+1,0,Z⟩ (Y c P.length m)).setCell ⟨w.heap.size+1,1,Z⟩ (G A (v:Nat))):=b0.set 1 _;have b2:W (w.heap.size+1) #[Y c P.length m,G A (v:Nat),G A n,G A 0] 66 (((F.setCell ⟨w.heap.size+1,0,Z⟩ (Y c P.length m)).setCell ⟨w.heap.size+1,1,Z⟩ (G A (v:Nat))).setCell ⟨w.heap.size+1,2,Z⟩ (G A n)):=b1.set 2 _;have b3:W (w.heap.size+1) #[Y c P.length m,G A (v:Nat),G A n,G A o] 66 ((((F.setCell ⟨w.heap.size+1,0,Z⟩ (Y c P.length m)).setCell ⟨w.heap.size+1,1,Z⟩ (G A (v:Nat))).setCell ⟨w.heap.size+1,2,Z⟩ (G A n)).setCell ⟨w.heap.size+1,3,Z⟩ (G A o)):=b2.set 3 _;have os:O (fun k=>k=w.heap.size+1) F ((((F.setCell ⟨w.heap.size+1,0,Z⟩ (Y c P.length m)).setCell ⟨w.heap.size+1,1,Z⟩ (G A (v:Nat))).setCell ⟨w.heap.size+1,2,Z⟩ (G A n)).setCell ⟨w.heap.size+1,3,Z⟩ (G A o)):=((((O.refl _ F).t9 0 _).t9 1 _).t9 2 _).t9 3 _;(try simp only[Exit.inBlock,Exit.then]);refine gZ (results_cell_row (P:=prog) (by rfl) _ _ (w.heap.size+1) 66 _ (0,0) _ (by rfl) b3 underlying66 (by rfl) (by kernel_rfl)) (by rfl) ?_;have hp:=HP.o;subst hp;refine⟨_,?_,by rw[<-E1.o];exact b8.o.d8 os (fun j u t C r z=>by subst r;rw[Er R9.o z];decide),O9.o.within os (fun j q=>by omega)⟩;rw[<-E2.o]

/- Part of the proof: ChG CkJ CkK CkL RdS TrN. -/
import Derived.Test.YtaningfhibkemaaGreatDoorG14
import Derived.Maps.Views
set_option maxRecDepth 100000
set_option maxHeartbeats 4000000
namespace Go.Proofs.YtaningfhibkemaaGreatDoor
open Go.RowKit Go.Proofs.Tryz Go.Maps
theorem Jg{a n}(c:(tokAt a (n-1)).sort=0)(f k x b)(h:Iq n x b.length):Iq n (GB a f k x b).2.1 (GB a f k x b).2.2.length/\((GB a f k x b).2.1.cB=none->x.bZ<(GB a f k x b).2.1.bZ)/\x.bZ<=(GB a f k x b).2.1.bZ:=by
 have E:=A8 a;have C:∀(L:List UInt8) (x:St),x.bZ<n->(Aw a L x).bZ<n:=fun L x h=>Cb rfl c h
 unfold GB;simp only;have m:=(E [102,110] x).trans (EN a 1 (Aw a [102,110] x));have j:(Bm a 1 (Aw a [102,110] x)).2.bZ<n:=Ev (q:=(Bm a 1 (Aw a [102,110] x)).1) rfl T c (C _ _ h.1);generalize (Bm a 1 (Aw a [102,110] x)).2=y at*;have o:=m.trans ((E [40] y).trans (Fb a (Aw a [40] y)));have l:(BQ a (Aw a [40] y)).2.bZ<n:=EO (q:=(BQ a (Aw a [40] y)).1) rfl c (C _ _ j);generalize (BQ a (Aw a [40] y)).2=z at*;have d:=o.trans (E [123] z);have p:=h.cY d (C [123] z l);obtain⟨i,t,u⟩:=(DQ c f).1 k _ b [] p;generalize Az a f k (Aw a [123] z) b []=r at*;have g:=E [125] r.2.1;have s:=i.cY g (C [125] _ i.1);refine⟨s,fun e=>?_,?_⟩
 .have:=g.2.2.2 e;have:=d.1;omega
 .have:=g.1;have:=d.1;omega
theorem Xm{U:Nat->Prop}{m f g n q c b B j A p s i C v l r w o}(h:CE j w v l)(x:AI m f g n q c b w)(u:BZ f s i A p w)(z:Bx B U w i r)(t:Fo m f i C w o):CE j o v l:=by
 obtain⟨E,y,_⟩:=z;refine Ai h t.d8 (fun k d e a=>?_);rcases a with a|a|a
 .exact CT x.bY T k d e a
 .exact CT u.bY T k d e a
 .exact Gr y T k d e a
theorem O.new{X:Nat->Prop}{a w b:World}(h:O kD a w)(k:O X w b)(c:∀k,X k->a.heap.size<=k):O kD a b:=((h.mono (fun _ _ q=>q.elim)).trans k).mono (fun i d q=>by have:=c i q;omega)
theorem PF.grow{v e g n o B}{U:Nat->Prop}{z j i y x C H A w f}(h:PF v e g n o B U z j y x C H w)(hF:Cp B f i A)(l:O (fun k=>j.ownBlock=some k) w f)(L:∀k,i.ownBlock=some k->j.ownBlock=some k\/w.heap.size<=k):PF v e g n o B U z i y x C A (f.setCell ⟨e,0,none⟩ i):=by
 have m:=(O.refl (fun k=>k=e) f).t9 0 i;have E:=h.dP;have K:=h.fn;obtain⟨S,s,_⟩:=K;have Q:∀(k:Nat) (b:Array Value) (t:TypeId) (c:Nat×Nat),j.ownBlock=some k->w.heap[k]? =some (.cells b t c)->t=53:=by
  intro k b t c a d;rcases s.2 with⟨P,_⟩|⟨X,R,V,N,_,r,_⟩
  .rw[P]at a;simp[Value.ownBlock]at a
  .rw[N]at a;simp[Value.ownBlock]at a;subst a;rw[d]at r;simp only[gN,gU]at r;exact r.2.1
 have F:BZ e j y x.pl x.ca f:=h.pr.bY.d8 l (fun q=>(h.dI e q).2 rfl);have G:∀(k:Nat) (b:Array Value) (t:TypeId) (c:Nat×Nat),k=e->f.heap[k]? =some (.cells b t c)->t=47:=by intro k b t c a d;subst a;have p:f.heap[k]? =_:=F;rw[d]at p;simp only[gN,gU]at p;exact p.2.1
 have Y:=Ae h.pr;have M:AO g n o z f:=h.tk.d8 l (fun q=>Gq s h.tk.1 T g q rfl);refine⟨(h.rd.d8 l (fun q=>(h.dI v q).1 rfl)).d8 m (fun q=>E.2.1 q.symm),M.d8 m E.2.2,?_,(h.st.d8 l (fun k a q=>?_) (fun k b t c a d=>by rw[Q k b t c a d];decide)).d8 m (fun k a q=>?_) (fun k b t c a d=>by rw[G k b t c a d];decide),hF.d8 m (fun k a q=>?_) (fun k b t c a d=>by rw[G k b t c a d];decide),fun k a=>?_⟩
 .have:=F.bY.set 0 i;simpa[BZ,W]using this
 .obtain⟨I,u,_⟩:=h.st;exact Gq u s T k a q
 .obtain⟨I,u,_⟩:=h.st;exact Am u h.pr T k a q
 .have q:k=e:=q;subst q;rcases L k a with q|q
  .exact(h.dI k q).2 rfl
  .omega
 .have:=h.ul k a;have:=l.size;have:=m.size;omega
def ZB(w:World)(r:List RF×St×List FS)(e:Ending)(a:World):Prop:=
 ∃(b c:Value) (U:Nat->Prop),e=.returned (.tuple #[.pointer (some ⟨w.heap.size,0,none⟩),.int .i64 (F7 r.2.1.cB)])/\BZ w.heap.size b c r.2.1.pl r.2.1.ca a/\Bx w.heap.size U a c r.2.2/\Cp w.heap.size a b r.1/\O kD w a
theorem JA(g n B d w)(ht:AO g n B d w)(f7:0<n)(hz:(tokAt d (n-1)).sort=0):
 Calls prog 18 #[.slice (some ⟨g,0,none⟩) n B] w fun e w'=>ZB w (Ce d (2*n) n ⟨0,none,0,0⟩ [] []) e w':=by
 obtain⟨i0,hi,g6,g7,g8⟩:=info_parts Tryz.infoRF;have hn:=ht.2.2;have lg:g<w.heap.size:=(ht.1.lt g rfl).2;generalize hV:Ce d (2*n) n ⟨0,none,0,0⟩ [] []=V;have HV:=J hV;have X:=J hz;have P0:D (PF (w.heap.size+1) w.heap.size g n B w.heap.size (fun _=>False) d (.slice none 0 0) (.slice none 0 0) ⟨0,none,0,0⟩ [] [] ((w.alloc (.cells #[.slice none 0 0,.slice none 0 0,.int .i64 0,.int .i64 0] 47)).alloc (.cells #[.slice (some ⟨g,0,none⟩) n B,.int .i64 0,.int .i64 (-1),.pointer (some ⟨w.heap.size,0,none⟩)] 143))):=by
  refine⟨?_,ht.d8 (((O.refl kD w).alloc _).alloc _) id,?_,⟨[],gR _ _ _ _,rfl,fun i h=>by simp at h⟩,⟨[],gR _ _ _ _,rfl,fun i h=>by simp at h,fun i j h=>by simp at h⟩,fun _ h=>h.elim⟩
  .have:=W.new (w.alloc (.cells #[.slice none 0 0,.slice none 0 0,.int .i64 0,.int .i64 0] 47)) #[.slice (some ⟨g,0,none⟩) n B,.int .i64 0,.int .i64 (-1),.pointer (some ⟨w.heap.size,0,none⟩)] 143;simpa[AI,W,F7]using this
  .exact(W.new w _ _).alloc _
 have O0:=J (((O.refl kD w).alloc (.cells #[.slice none 0 0,.slice none 0 0,.int .i64 0,.int .i64 0] 47)).alloc (.cells #[.slice (some ⟨g,0,none⟩) n B,.int .i64 0,.int .i64 (-1),.pointer (some ⟨w.heap.size,0,none⟩)] 143));have I0:D (Iq n ⟨0,none,0,0⟩ 0):=⟨f7,gV _,gV _,gV _,fun _=>⟨gI _,gI _,gI _⟩⟩;clear ht hz hV;go_enter func18,ntmps18;go_wp2;go_loopw[] (fun wr=>∃(x:St) (L:List FS) (r:List RF) (fv sv:Value) (U:Nat->Prop) (m:Nat),D (PF (w.heap.size+1) w.heap.size g n B w.heap.size U d fv sv x L r wr)/\D (O kD w wr)/\D (Iq n x L.length)/\D (x.cB=none->n-x.bZ<=m/\r.length<=x.bZ)/\r.length<=n/\D (Ce d (2*n) m x L r=V)) (fun wr=>Oq (w.heap.size+1) n wr)
 case atStart=>exact⟨⟨0,none,0,0⟩,[],[],_,_,_,n,P0,O0,I0,fun _=>⟨jY,jY⟩,jY,HV⟩
 case round=>
  clear P0 O0 I0 HV;obtain⟨x,L,r,fv,sv,U,m,t,HO,HI,HB,h3,HC⟩:=hrel;have hc:=HI.o.1;obtain⟨t0,t1,t2⟩:=t.o.tk.cells hc;obtain⟨r0,r1,S⟩:=t.o.rd.bY.e3 0 1 2;have Q:=t.o.pr.bY.cell 0;simp at r0 r1 S Q;have lr:=Ae t.o.rd;have lp:=Ae t.o.pr;have g9:g<wr.heap.size:=(t.o.tk.1.lt g rfl).2;obtain⟨fa,fl,fc,rfl⟩:∃a l c,fv=.slice a l c:=by obtain⟨_,h,_⟩:=t.o.fn;exact Ad h
  have e8:fl=r.length:=by obtain⟨_,h,_⟩:=t.o.fn;exact Ag h
  subst e8;have HM:=J (Hs t.o.rd);by_cases a4:x.cB=none/\(r=[]\/(tokAt d x.bZ).sort≠0)
  .obtain⟨y,b8⟩:=a4;have h5:=HB.o y;obtain⟨m',e9⟩:∃m',m=m'+1:=⟨m-1,Z⟩;subst e9;obtain⟨f1,x9,b5,h9⟩:∃a b c,GB d (2*n) r.length x L=(a,b,c):=⟨_,_,_,rfl⟩;have e5:D (Ce d (2*n) m' x9 b5 (r++[f1])=V):=by have:=HC.o;rw[Ce,jH ⟨y,b8⟩,h9]at this;exact this
   have c2:=Jg X.o (2*n) r.length x L HI.o;rw[h9]at c2;have a2:=J c2;have H9:=J h9;have e4:=J y;have h0:((r.length:Int)==0)=true\/(((r.length:Int)==0)=false/\(((tokAt d x.bZ).sort:Int) !=0)=true):=by
    cases r with
    |nil=>left;rfl
    |cons a l=>
     right;refine⟨jX,?_⟩;rcases b8 with q|q
     .cases q
     .simp;omega
   rw[y]at S;simp only[F7]at S;clear HC c2 h9 y b8;rcases h0 with h0|⟨h0,h2⟩
   all_goals
    go_wp2_with fail;go_quiet(fail);go_wp2_with fail;have PQ:=J (t.o.s9 ((O.refl kD wr).drewN nq));have OQ:D (O kD w (wr.drewN nq)):=HO.o.drewN nq;clear t0 t1 t2 r0 r1 S Q lr lp g9 t HO;generalize wr.drewN nq=wq at PQ OQ⊢;obtain⟨Y,b2⟩:∃z,Aw d [102,110] x=z:=⟨_,rfl⟩;refine(Jc (w.heap.size+1) w.heap.size g n B x.bZ x.cB d _ [102,110] jY wq PQ.o.rd PQ.o.tk hc).mono ?_;rintro e o ⟨rfl,d3,b7⟩;have P1:=J (PQ.o.dE b2 b7 d3);have O1:=J (O.new OQ.o b7 (fun k s=>Z));have c7:Y.bZ<n:=Cb b2 X.o hc;have X1:=J b2;clear d3 b7 b2 PQ OQ;go_wp2_with fail;have P2:=J (P1.o.s9 ((O.refl kD o).alloc (.cells aP 53)));have B2:=J (W.new o aP 53);have O2:=J (O1.o.alloc (.cells aP 53));have a0:∀k,Value.ownBlock (.slice fa r.length fc)=some k->k≠o.heap.size:=fun k s=>by obtain⟨_,h,_⟩:=P1.o.fn;have:=(h.lt k s).2;omega
    have a7:o.heap.size≠w.heap.size+1:=by have:=Ae P1.o.rd;omega
    have a1:=O1.o.size;obtain⟨p,x2,a5⟩:∃q z,Bm d 1 Y=(q,z):=⟨_,_,rfl⟩;refine(K6 (w.heap.size+1) w.heap.size g n B Y.bZ 1 Y.cB d _ P2.o.rd P2.o.tk c7).mono ?_;rw[show(De d Y.bZ Y.cB 1).1=p from congrArg Prod.fst a5];rintro e w2 ⟨rfl,d4,a9⟩;have P3:=J (P2.o.get a5 a9 d4);have M:=J (B2.o.d8 a9 a7);have O3:=J (O.new O2.o a9 (fun k s=>Z));have c8:x2.bZ<n:=Ev a5 T X.o c7;have X2:=J a5;clear d4 a9 a5 P1 P2 B2 O1 O2;unfold JN;obtain⟨f0,c6,f2⟩:=M.o.e3 0 1 2;have ff:=M.o.frozen;have lf:=Ae M.o;simp only[gH,gF,gG]at f0 c6 f2;go_wp2_with fail;have P4:=J (((P3.o.eE (i:=0) (v:=.string p.d9) M.o a0).eE (i:=1) (v:=.int .i64 p.pos) (M.o.set 0 _) a0).eE (i:=2) (v:=.int .i64 p.sort) ((M.o.set 0 _).set 1 _) a0);have B4:D (W o.heap.size #[.string p.d9,.int .i64 p.pos,.int .i64 p.sort,.slice none 0 0,.slice none 0 0,.int .i64 0,.slice none 0 0] 53 (((w2.setCell ⟨o.heap.size,0,none⟩ (.string p.d9)).setCell ⟨o.heap.size,1,none⟩ (.int .i64 p.pos)).setCell ⟨o.heap.size,2,none⟩ (.int .i64 p.sort))):=by have:=((M.o.set 0 (.string p.d9)).set 1 (.int .i64 p.pos)).set 2 (.int .i64 p.sort);exact J (by simpa using this)
    have O4:=J (((O3.o.cE (b:=o.heap.size) 0 (.string p.d9) a1).cE (b:=o.heap.size) 1 (.int .i64 p.pos) a1).cE (b:=o.heap.size) 2 (.int .i64 p.sort) a1);clear P3 M O3 f0 c6 f2 ff lf;generalize ((w2.setCell ⟨o.heap.size,0,none⟩ (.string p.d9)).setCell ⟨o.heap.size,1,none⟩ (.int .i64 p.pos)).setCell ⟨o.heap.size,2,none⟩ (.int .i64 p.sort)=w3 at P4 B4 O4⊢;obtain⟨x3,b3⟩:∃z,Aw d [40] x2=z:=⟨_,rfl⟩;refine(Jc (w.heap.size+1) w.heap.size g n B x2.bZ x2.cB d _ [40] jY w3 P4.o.rd P4.o.tk c8).mono ?_;rintro e w4 ⟨rfl,d5,b0⟩;have P5:=J (P4.o.dE b3 b0 d5);have B5:=J (B4.o.d8 b0 a7);have O5:=J (O.new O4.o b0 (fun k s=>Z));have c9:x3.bZ<n:=Cb b3 X.o c8;have X3:=J b3;clear d5 b0 b3 P4 B4 O4;go_wp2_with fail;obtain⟨R,x4,a6⟩:∃q z,BQ d x3=(q,z):=⟨_,_,rfl⟩;refine(PK (w.heap.size+1) w.heap.size g n B x3.bZ x3.cB d _ P5.o.rd P5.o.tk c9 X.o).mono ?_;rw[show(CM d x3.bZ x3.cB).1=R from congrArg Prod.fst a6];rintro e w5 ⟨v4,rfl,b9,d6,b1⟩;have T5:=J (Aq b9 (B':=w.heap.size) (by have:=O5.o.size;omega));obtain⟨C,F,E,rfl⟩:=Ad b9;have P6:=J (P5.o.list a6 b1 d6);have N:=J (B5.o.d8 b1 a7);have O6:=J (O.new O5.o b1 (fun k s=>Z));have e6:x4.bZ<n:=EO a6 X.o c9;have X4:=J a6;clear d6 b1 a6 b9 P5 B5 O5;have f3:=N.o.cell 3;have ff:=N.o.frozen;have lf:=Ae N.o;have Q:=P6.o.pr.bY.cell 0;have lp:=Ae P6.o.pr;simp only[gH,gF,gG]at f3 Q;have f9:w.heap.size≠o.heap.size:=P6.o.pr.bY.ne N.o T;go_wp2_with fail;have u:=J (P6.o.eE (i:=3) (v:=.slice C F E) N.o a0);have B7:D (W o.heap.size #[.string p.d9,.int .i64 p.pos,.int .i64 p.sort,.slice C F E,.slice none 0 0,.int .i64 0,.slice none 0 0] 53 (w5.setCell ⟨o.heap.size,3,none⟩ (.slice C F E))):=by have:=N.o.set 3 (.slice C F E);exact J (by simpa using this)
    have O7:=J (O6.o.cE (b:=o.heap.size) 3 (.slice C F E) a1);have T7:D (CE w.heap.size (w5.setCell ⟨o.heap.size,3,none⟩ (.slice C F E)) (.slice C F E) R):=Ai T5.o ((O.refl (fun k=>k=o.heap.size) w5).t9 3 _) (fun k ds fz s=>CT N.o T k ds fz s);clear P6 N O6 T5 f3 ff lf Q lp;generalize w5.setCell ⟨o.heap.size,3,none⟩ (.slice C F E)=w6 at u B7 O7 T7⊢;have G4:FU 4 x x4:=by have q:=(A8 d [102,110] x).trans (EN d 1 (Aw d [102,110] x));rw[X1.o,show(Bm d 1 Y).2=x2 by rw[X2.o]]at q;have p:=q.trans ((A8 d [40] x2).trans (Fb d (Aw d [40] x2)));rw[X3.o,show(BQ d x3).2=x4 by rw[X4.o]]at p;exact p
    have c5:=J (HI.o.cY G4 e6);obtain⟨ro,rx,rf,c3⟩:∃a b c,Az d (2*n) r.length (Aw d [123] x4) L []=(a,b,c):=⟨_,_,_,rfl⟩;obtain⟨x5,c4⟩:∃z,Aw d [125] rx=z:=⟨_,rfl⟩;obtain⟨A,c1⟩:∃z,(tokAt d x4.bZ).pos=z:=⟨_,rfl⟩;have hF:f1=⟨p,R,ro,A,[]⟩/\x9=x5/\b5=rf:=by have:=H9.o;unfold GB at this;simp only[X1.o,X2.o,X3.o,X4.o,c3,c4,c1,iV]at this;exact⟨this.1.symm,this.2.1.symm,this.2.2.symm⟩
    obtain⟨rfl,rfl,rfl⟩:=hF;clear G4 HI H9;refine(M5 (2*n) (fun k _=>Xc k) (w.heap.size+1) w.heap.size g n B w.heap.size r.length U d (.slice fa r.length fc) sv x4 L w6 u.o.rd u.o.tk u.o.pr u.o.st u.o.ul O7.o.size X.o c5.o (fun _=>Z)).mono ?_;rw[c3,c1];simp only[c4];rintro e w7 ⟨h7,bv,U2,g0,g4,g5,rfl,b6,d7,e0,d2,d9,a3⟩;have P8:=J (u.o.block (x':=x9) d7 e0 d2 d9 a3);have T8:=J (Xm T7.o u.o.rd u.o.pr u.o.st a3);have I8:=J (Aq b6 (B':=w.heap.size) O7.o.size);have K:=J (B7.o.d8 a3.d8 (by
     rintro(q|q|q)
     .exact a7 q
     .exact f9 q.symm
     .obtain⟨_,h,_⟩:=u.o.st;exact Am h B7.o T _ q rfl))
    have O8:=J (O.new O7.o a3.d8 (fun k s=>by
     rcases s with q|q|q
     .omega
     .omega
     .obtain⟨_,h,_⟩:=u.o.st;exact(h.lt k q).1))
    obtain⟨G,I,H,rfl⟩:=Ad b6;clear g0 g4 g5 b6 d7 e0 d2 d9 a3 u B7 O7 T7 c3 c4 c1 c5;obtain⟨f4,f5⟩:=K.o.e2 4 5;have ff:=K.o.frozen;have lf:=Ae K.o;simp only[gH,gF,gG]at f4 f5;go_wp2_with fail;have P:=J ((P8.o.eE (i:=5) (v:=.int .i64 A) K.o a0).eE (i:=4) (v:=.slice G I H) (K.o.set 5 _) a0);have B9:D (W o.heap.size #[.string p.d9,.int .i64 p.pos,.int .i64 p.sort,.slice C F E,.slice G I H,.int .i64 A,.slice none 0 0] 53 ((w7.setCell ⟨o.heap.size,5,none⟩ (.int .i64 A)).setCell ⟨o.heap.size,4,none⟩ (.slice G I H))):=by have:=(K.o.set 5 (.int .i64 A)).set 4 (.slice G I H);exact J (by simpa using this)
    have O9:=J ((O8.o.cE (b:=o.heap.size) 5 (.int .i64 A) a1).cE (b:=o.heap.size) 4 (.slice G I H) a1);have T9:D (CE w.heap.size ((w7.setCell ⟨o.heap.size,5,none⟩ (.int .i64 A)).setCell ⟨o.heap.size,4,none⟩ (.slice G I H)) (.slice C F E) R):=Ai T8.o (((O.refl (fun k=>k=o.heap.size) w7).t9 5 _).t9 4 _) (fun k ds fz s=>CT K.o T k ds fz s);have I9:D (Ax w.heap.size ((w7.setCell ⟨o.heap.size,5,none⟩ (.int .i64 A)).setCell ⟨o.heap.size,4,none⟩ (.slice G I H)) (.slice G I H) ro):=Ai I8.o (((O.refl (fun k=>k=o.heap.size) w7).t9 5 _).t9 4 _) (fun k ds fz s=>CT K.o T k ds fz s);clear P8 K O8 T8 I8 f4 f5 ff lf;generalize (w7.setCell ⟨o.heap.size,5,none⟩ (.int .i64 A)).setCell ⟨o.heap.size,4,none⟩ (.slice G I H)=w8 at P B9 O9 T9 I9⊢;have d8:=P.o.fn.choose_spec.1;obtain⟨f0,f1,f2,f3,f4,f5,f6⟩:=B9.o.e7 0 1 2 3 4 5 6;have lf:=Ae B9.o;have Q:=P.o.pr.bY.cell 0;have pf:=P.o.pr.bY.frozen 0;have lp:=Ae P.o.pr;simp only[gH,gF,gG]at f0 f1 f2 f3 f4 f5 f6 Q;have NP:=J (fun k s=>(P.o.dI k s).2);have h6:=O9.o.size;go_region_law(refine AB rfl _ _ 44 rfl w.heap.size 53 i0 (.agg aP) 7 112 underlying44 hi g6 g7 g8 rfl T _ _ _ rfl (d8.alloc _) ⟨w8.heap.size,0,none⟩ 1 1 (EH ⟨p,R,ro,A,[]⟩ (.slice C F E) (.slice G I H) AW).toList rfl rfl (AC rfl _ _) (YB _ _ _ _ _ _ _ _ _ _) T jZ Z jX ?_;intro v' w9 c0 a8 d1;have q1:w9.cell? ⟨w.heap.size,0,none⟩=some (.slice fa r.length fc):=(gJ (a8.block w.heap.size jX (fun h=>NP.o _ h.symm rfl))).trans (by rw[<-Q];exact gJ (gS _ _ _ lp));have qf:w9.frozen? ⟨w.heap.size,0,none⟩=false:=(gO (a8.block w.heap.size jX (fun h=>NP.o _ h.symm rfl))).trans (by rw[<-pf];exact gO (gS _ _ _ lp));obtain⟨e1,e3,e2,rfl⟩:=Ad c0);all_goals
     have d0:(w8.alloc (.cells (EH ⟨p,R,ro,A,[]⟩ (.slice C F E) (.slice G I H) AW) 53)).drew.grownBy w9 (Value.ownBlock (.slice fa r.length fc)):=a8;have f8:∀k,Value.ownBlock (.slice e1 e3 e2)=some k->Value.ownBlock (.slice fa r.length fc)=some k\/w8.heap.size<=k:=fun k s=>(d1 k s).imp id (fun q=>by simp at q;omega)
     have FP:=Cp.push (f:=⟨p,R,ro,A,[]⟩) P.o.fn (((O.refl _ w8).alloc _).drew) T9.o I9.o rfl c0 d0;have PX:=J (P.o.grow FP.1 FP.2 f8);have OX:=J ((O.new O9.o FP.2 (fun k s=>(d8.lt k s).1)).cE (b:=w.heap.size) 0 (.slice e1 e3 e2) (gI _));clear a8 d1 c0 d0 FP;go_wp2_with fail;refine⟨⟨x9,b5,r++[⟨p,R,ro,A,[]⟩],_,_,_,m',PX,OX,a2.o.1,fun e=>?_,?_,e5⟩,?_⟩
     .have:=a2.o.2.1 e;simp only[gM,iC];omega
     .simp only[gM,iC];omega
     .rw[Hs PX.o.rd,HM.o,jH e4.o];have g1:=a2.o.2.2;have g2:=a2.o.2.1;have g3:=a2.o.1.1;split
      .rename_i e;have:=g2 e;omega
      .omega
  .have hv:V=(r,x,L):=by
    rw[<-HC.o];cases m with
    |zero=>rw[Ce]
    |succ m=>rw[Ce,jG a4]
   subst hv
   have e7:(∃b:Nat,x.cB=some b)\/(x.cB=none/\((r.length:Int)==0)=false/\(((tokAt d x.bZ).sort:Int) !=0)=false):=by
    cases hx:x.cB with
    |some b=>exact .inl ⟨b,rfl⟩
    |none=>
     right;refine⟨rfl,?_,?_⟩
     .cases r with
      |nil=>exact jO ⟨hx,.inl rfl⟩ a4
      |cons a l=>simp;omega
     .by_cases hq:(tokAt d x.bZ).sort=0
      .simp[hq]
      .exact jO ⟨hx,.inr hq⟩ a4
   clear HC a4
   rcases e7 with⟨b,y⟩|⟨y,h0,h1⟩
   .have h4:decide ((b:Int)<0)=false:=jY
    rw[y]at S;simp only[F7]at S;have b4:=J y;clear y;go_wp2_with fail;go_quiet(fail);go_wp2_with fail;go_quiet(fail);go_wp2;go_ret2;exact⟨_,_,_,by rw[b4.o];rfl,(t.o.s9 jV).pr,(t.o.s9 jV).st,(t.o.s9 jV).fn,HO.o.dA jV⟩
   .rw[y]at S
    simp only[F7]at S;have b4:=J y;clear y;go_wp2_with fail;go_quiet(fail);go_wp2_with fail;go_quiet(fail);go_wp2;go_ret2;exact⟨_,_,_,by rw[b4.o];rfl,(t.o.s9 jV).pr,(t.o.s9 jV).st,(t.o.s9 jV).fn,HO.o.dA jV⟩
theorem ID(s:ByteArray):∀(f i:Nat) (a l:List Tk),i<=s.size->BA s f i a=.inr l->l.length+i<=a.length+s.size
 |0,i,a,l,c,h=>by simp only[BA,Sum.inr.injEq]at h;subst h;omega
 |f+1,i,a,l,c,h=>by
  simp only[BA]at h;split at h
  .rename_i d;split at h
   .cases h
   .rename_i t j e;have b:=GS d e;have:=ID s f j _ l b.2 h;have g:t.toList.length<=1:=by cases t<;>simp
    simp only[gM]at this;omega
  .simp only[Sum.inr.injEq]at h;subst h;omega
theorem DP.fT{l B f g e i v n m w j}(h:DP l B g w j)(u:w.ownsRow f e i v n m){c}(z:IU l c w){o}(t:Cp B w g o)(p:e≠82)(r:e≠53)(s:e≠9):j.ownsRow f e i v n m:=by
 refine Ai u h ?_;rintro k E I (q|q|⟨_,H,K,q⟩) b
 .subst q;have d:w.heap[k]? =_:=z;rw[b]at d;simp only[gN,gU]at d;exact p d.2.1
 .obtain⟨F,x,_⟩:=t;rcases x.2 with⟨A,_⟩|⟨L,C,G,y,_,a,_⟩
  .rw[A]at q;simp[Value.ownBlock]at q
  .rw[y]at q;simp[Value.ownBlock]at q;subst q;rw[b]at a;simp only[gN,gU]at a;exact r a.2.1
 .rw[b]at q;simp only[gN,gU]at q;exact s q.2.1
structure FR(d:Nat)(fs:List FS)(i:Nat)(f:RF)(t:TF):Prop where
 name:f.name=Ao t.name
 cG:f.cG=t.u9.map Ao
 cJ:CJ (Dp i d fs) f.cJ t.cF
 t8:f.t8=[]
 fY:f.cJ.length<=4001
 fJ:t.u9.length+(t.cF.map (Cs d)).sum<=4001
structure TE(d:Nat)(fns:List RF)(fs:List FS)(tfs:List TF):Prop where
 len:fns.length=tfs.length
 cR:fns.length<=4001
 fP:fs.length<=4001
 gA:∀u,u∈fs->u.args.length<=4001/\u.cJ.length<=4001/\u.other.length<=4001
 fr:∀i (h:i<fns.length) (h':i<tfs.length),FR d fs i fns[i] tfs[i]
 dd:d<=8000
def CI(l:List PT)(x:List ByteArray×CS):List ByteArray×CS:=l.foldl (fun x t=>(x.1++[t.d9],Dk x.1 (Ao t) x.2)) x
def FM(a:List RF)(i:Nat)(t:TF)(c:CS):CS:=
 if Bz (a.map fun f=>f.name.d9) t.name.d9 0=i then(if 12<=i then Be 4 t.name.l7 c else c)else Be 5 t.name.l7 (if 12<=i then Be 4 t.name.l7 c else c)
def Ey(a:List RF)(d i:Nat)(t:TF)(c:CS):List ByteArray×CS:=Gi a d 1 t.cF (CI t.u9 ([],FM a i t c))
def BC(a:List RF)(d:Nat):List TF->Nat->List RF×CS->List RF×CS
 |[],_,x=>x
 |t::l,i,x=>BC a d l (i+1) (wv x.1 i (Ey a d i t x.2).1,(Ey a d i t x.2).2)
def MK(a:List RF)(N:Nat)(c:CS):CS:=
 if 0<=Bz (a.map fun f=>f.name.d9) ⟨#[109,97,105,110]⟩ 0/\((a.map fun f=>f.cG.length)[(Bz (a.map fun f=>f.name.d9) ⟨#[109,97,105,110]⟩ 0).toNat]?).getD 0=0 then c else Be 6 N c
theorem RO(b:List RF)(d:Nat)(a:List TF)(i:Nat)(h:i<a.length)(x:List RF×CS):BC b d (a.drop i) i x=BC b d (a.drop (i+1)) (i+1) (wv x.1 i (Ey b d i a[i] x.2).1,(Ey b d i a[i] x.2).2):=by rw[gT h];rfl
theorem Mo:∀(l:List PT) (x:List ByteArray×CS),(CI l x).1.length=x.1.length+l.length
 |[],x=>rfl
 |t::l,x=>by have:=Mo l (x.1++[t.d9],Dk x.1 (Ao t) x.2);simp only[CI,iR,gM,gK,gZ]at this⊢;omega
theorem RR(l:List PT)(k:Nat)(h:k<l.length)(x:List ByteArray×CS):CI (l.drop k) x=CI (l.drop (k+1)) (x.1++[l[k].d9],Dk x.1 (Ao l[k]) x.2):=by unfold CI;rw[gT h];rfl
structure GH(fns0 fns:List RF)(i:Nat):Prop where
 len:fns.length=fns0.length
 eq:∀j (h:j<fns.length) (h':j<fns0.length),fns[j].name=fns0[j].name/\fns[j].cG=fns0[j].cG/\fns[j].cJ=fns0[j].cJ/\fns[j].br=fns0[j].br/\(i<=j->fns[j].t8=fns0[j].t8)
theorem GH.bX{b a i}(h:GH b a i):a.map (fun f=>f.name.d9)=b.map (fun f=>f.name.d9):=by
 apply jB
 .simp[h.len]
 .intro j c d;simp only[iU,(h.eq j (by simpa using c) (by simpa using d)).1]
theorem GH.cG{b a i}(h:GH b a i):a.map (fun f=>f.cG.length)=b.map (fun f=>f.cG.length):=by
 apply jB
 .simp[h.len]
 .intro j c d;simp only[iU,(h.eq j (by simpa using c) (by simpa using d)).2.1]
theorem GH.fun{b a i}(h:GH b a i)(t m c):Em a t m c=Em b t m c:=by unfold Em;rw[h.bX,h.cG]
theorem GH.sec{b a i}(h:GH b a i)(d s c):Mr a d s c=Mr b d s c:=by unfold Mr;simp only[h.fun]
theorem GH.eJ{c b:List RF}{i:Nat}(h:GH c b i):∀(d a:Nat) (t:TS) (x:List ByteArray×CS),Fy b d a t x=Fy c d a t x
 |0,_,_,x=>rfl
 |d+1,a,.mk s f,x=>by
  have e:(fun(x:List ByteArray×CS) (t:TS)=>Go.Proofs.YtaningfhibkemaaGreatDoor.Fy b d (a+1) t x)=fun x t=>Go.Proofs.YtaningfhibkemaaGreatDoor.Fy c d (a+1) t x:=by funext x t;exact h.eJ d (a+1) t x
  simp only[Go.Proofs.YtaningfhibkemaaGreatDoor.Fy,e,Dg,h.sec]
theorem GH.fS{c b i}(h:GH c b i)(d a f x):Gi b d a f x=Gi c d a f x:=by
 have e:(fun(x:List ByteArray×CS) (t:TS)=>Go.Proofs.YtaningfhibkemaaGreatDoor.Fy b d a t x)=fun x t=>Go.Proofs.YtaningfhibkemaaGreatDoor.Fy c d a t x:=by funext x t;exact h.eJ d a t x
 simp only[Go.Proofs.YtaningfhibkemaaGreatDoor.Gi,e]
theorem GH.next{b a i}(h:GH b a i)(g):GH b (wv a i g) (i+1):=by
 refine⟨by rw[DX,h.len],fun j c f=>?_⟩;have d:j<a.length:=by rw[DX]at c;exact c
 have e:=h.eq j d f;simp only[wv,List.getElem_modify];split
 .rename_i k;exact⟨e.1,e.2.1,e.2.2.1,e.2.2.2.1,fun q=>Z⟩
 .exact⟨e.1,e.2.1,e.2.2.1,e.2.2.2.1,fun q=>e.2.2.2.2 Z⟩
theorem YR{a i}(f:i<a.length){b}(h:a[i].t8=b):wv a i b=a:=by
 subst h;apply jB
 .simp[wv]
 .intro j d e;simp only[wv,List.getElem_modify];split
  .rename_i c;subst c;rfl
  .rfl
structure XN(pb wb B pl ca g n cap:Nat)(U:Nat->Prop)(toks:List Tk)(fv sv:Value)(fns:List RF)(fs:List FS)(c:CS)(w w':World):Prop where
 k:RK pb wb B pl ca U fv sv fns fs c w'
 tk:AO g n cap toks w'
 d8:O kD w w'
theorem XN.call{j b B l f g n r}{U:Nat->Prop}{u d m x s i c p w v o}(h:XN j b B l f g n r U u d m x i c w v)(C:w.heap.size<=B)(E:w.heap.size<=b)(y:RK j b B l f U d m s i p o)(a:DP b B d v o):XN j b B l f g n r U u d m s i p w o:=by
 refine⟨y,⟨a.fT h.tk.1 h.k.wr h.k.fn T T T,h.tk.2⟩,?_⟩;refine⟨a.os.trans h.d8.os,a.tape.trans h.d8.tape,a.output.trans h.d8.output,gW h.d8.size a.size,fun k t A=>?_⟩;have e:=h.d8.block k t A;rw[a.block k (gY t h.d8.size) ?_,e];rintro(q|q|⟨q,_⟩)
 .omega
 .obtain⟨_,z,_⟩:=h.k.fn;have:=(z.lt k q).1;omega
 .omega
theorem Ul{m n N F w s}(h:Bh m n F w)(g:Lf F N)(k:s.size<=4000):
 (Instr.lookup 121 (.map (some m)) (.string s) false).run prog w=.ok (.int .i64 (Cg F s:Nat)) w:=by
 obtain⟨c,l,a,_⟩:=World.ownsMap.lookup_int h LU underlying121 underlying3 (OI w) (Jm k);have i:c=((Cg F s:Nat):Int):=by
  cases d:Maps.has F (Bn s)with
  |true=>
   obtain⟨j,_,f⟩:=g s d;rw[f]at a;have e:(j:Int)=c:=by simpa using a
   rw[<-e];simp[Cg,f]
  |false=>
   have b:=atKey_of_not_has d (.lit (.int .i64 0));rw[b]at a;have e:(0:Int)=c:=by simpa using a
   rw[<-e];simp[Cg,b]
 rw[<-i];exact l
def Rp(F:DataW Unit)(f:List TF)(d b:Nat)(t:TF)(c:CS):CS:=
 let a:=if 12<=b then BO 4 t.name.l7 c else c
 let e:=if Cg F t.name.d9=b then a else BO 5 t.name.l7 a
 (OM F f d 1 (t.l7,t.cF) (Th t.u9 (.map [],e))).2
structure Vn(b d:Nat)(U:Nat->Prop)(fs:Value)(fns:List TF)(stop:Int)(mf nf:Nat)(F:DataW Unit)(mv:Value)(fa:Array Value)(w:World)(c:CS)(Wz:World):Prop where
 cZ:CL b fs stop (.map (some mf)) mv c Wz
 dN:Bh mf nf F Wz
 rows:DF d U Wz fs fns
 bY:W w.heap.size fa 132 Wz
 d8:O (fun k=>k=b) w Wz
theorem Vn.step{b d:Nat}{U:Nat->Prop}{f:Value}{o:List TF}{j:Int}{g p:Nat}{F:DataW Unit}{i:Value}{n:Array Value}{w l e:World}{c m:CS}(h:Vn b d U f o j g p F i n w c l)(t:¬U b)(u:b<w.heap.size)(r:CL b f j (.map (some g)) i m e)(a:O (fun k=>k=b) l e):Vn b d U f o j g p F i n w m e:=
 ⟨r,h.dN.d8 a (h.dN.ne h.cZ),h.rows.d8 a (fun _ s q=>t (q▸s)),W.d8 h.bY a Z,h.d8.trans a⟩
theorem Vn.quiet{b d}{U:Nat->Prop}{j i n k m F l g w e f c}(h:Vn b d U j i n k m F l g w c e)(a:O kD e f):Vn b d U j i n k m F l g w c f:=
 ⟨W.d8 h.cZ a id,h.dN.d8 a id,h.rows.d8 a (fun _ _ q=>q),W.d8 h.bY a id,h.d8.trans (a.mono (fun _ _ q=>q.elim))⟩
theorem Vn.made{b d:Nat}{U:Nat->Prop}{i:Value}{e:List TF}{m:Int}{j l:Nat}{F:DataW Unit}{t:Value}{g:Array Value}{w a:World}{c:CS}(h:Vn b d U i e m j l F t g w c a)(n:¬U b)(x:b<w.heap.size)(r:∀k,U k->k<w.heap.size)(p:Lf F e.length)(o:e.length<=4001):
 Ck b d U i e m j l a.heap.size 0 F (.map []) c ((a.alloc (.map #[] 0)).setCell ⟨b,3,none⟩ (.map (some a.heap.size)))/\W w.heap.size g 132 ((a.alloc (.map #[] 0)).setCell ⟨b,3,none⟩ (.map (some a.heap.size)))/\O (fun k=>k=b) w ((a.alloc (.map #[] 0)).setCell ⟨b,3,none⟩ (.map (some a.heap.size))):=by
 have f:O (fun k=>k=b) a ((a.alloc (.map #[] 0)).setCell ⟨b,3,none⟩ (.map (some a.heap.size))):=((O.refl _ a).alloc _).t9 3 _;have v:=h.d8.size;have u:=World.ownsMap.lt h.dN;refine⟨⟨?_,?_,h.dN.d8 f (h.dN.ne h.cZ),h.rows.d8 f (fun _ s q=>n (q▸s)),p,o,Z,n,fun q=>by have:=r _ q;omega⟩,W.d8 h.bY f Z,h.d8.trans f⟩
 .have:=W.set (W.alloc h.cZ (.map #[] 0)) 3 (.map (some a.heap.size));simpa[CL]using this
 .have:=World.ownsMap_made (H:=Unit) a prog 9 (plainElem prog 3);exact Bh.d8 this ((O.refl (fun k=>k=b) _).t9 3 _) Z
theorem VH(b d f:Nat)(U:Nat->Prop)(fs:Value)(a:List TF)(o:Int)(m G:Nat)(F:DataW Unit)(c:CS)(E:Value)(w:World)(K:CL b fs o (.map (some m)) E c w)(hm:Bh m G F w)(hp:DF d U w fs a)(a9:Lf F a.length)(b9:a.length<=4001)(ub:¬U b)(hU:∀k,U k->k<w.heap.size)(c7:f<a.length)
 (hO:∀t,t∈a[f].cF->OK d t)(c8:a[f].name.d9.size<=4000)(c9:∀t,t∈a[f].u9->t.d9.size<=4000/\t.l7<=4000)(c5:a[f].u9.length+(a[f].cF.map (Cs d)).sum<=4000)(hd:1+d<=4001)(hl:a[f].cF.length<=4000):
 Calls prog 77 #[.pointer (some ⟨b,0,none⟩),.int .i64 f] w fun e w'=>e=.returned (.tuple #[])/\(∃m',CL b fs o (.map (some m)) (.map (some m')) (Rp F a d f a[f] c) w')/\O (fun k=>k=b) w w':=by
 have c6:=hp;obtain⟨d4,S,_⟩:=c6;obtain⟨va,vl,vc,rfl⟩:=Ad S;obtain⟨g,rfl⟩:=Ap S Z;have d2:=Ag S;subst d2;have lg:=(S.lt g rfl).2;obtain⟨av,sv,C,v,b0,a6⟩:=hp.get c7;obtain⟨z,l1,A,rfl⟩:=Ad v;have c3:=Ag v;subst c3;have d1:=a6;obtain⟨d5,p2,_⟩:=d1;obtain⟨r,y,s,rfl⟩:=Ad p2;have f0:=C 0 Z;have f1:=C 1 Z;have f2:=C 2 Z;have f3:=C 3 Z;have f4:=C 4 Z;simp only[MN,gH,gF,gG,gX]at f0 f1 f2 f3 f4;clear S p2 C;have r0:=Ak K 0;have r2:=Ak K 2;simp only[gH,gF,gG]at r0 r2;have lb:=Ae K;have d7:=@run_makeMap prog;generalize a[f]=t at*;have Y:=(O.refl kD w).alloc (.cells #[.string t.name.d9,.int .i64 t.name.l7,.slice z t.u9.length A,.int .i64 t.l7,.slice r y s] 132);have F0:=J (show Vn b d U _ a o m G F E #[.string t.name.d9,.int .i64 t.name.l7,.slice z t.u9.length A,.int .i64 t.l7,.slice r y s] w c (w.alloc (.cells #[.string t.name.d9,.int .i64 t.name.l7,.slice z t.u9.length A,.int .i64 t.l7,.slice r y s] 132)) from⟨W.d8 K Y id,hm.d8 Y id,hp.d8 Y (fun _ _ q=>q),W.new w _ _,Y.mono (fun _ _ q=>q.elim)⟩);have HA:=J v;have HT:=J a6;have HO:=J hO;have b6:=J b0;clear K hm hp v a6 hO b0 Y;go_enter func77,ntmps77;go_upto_if 16 with fail;go_cut[] (fun wx=>∃l,D ((if 12<=f then BO 4 t.name.l7 c else c)=l)/\D (Vn b d U (.slice (some ⟨g,0,none⟩) a.length vc) a o m G F E #[.string t.name.d9,.int .i64 t.name.l7,.slice z t.u9.length A,.int .i64 t.l7,.slice r y s] w l wx))
 case first=>
  by_cases a0:12<=f
  .have c0:(12:Int)<=(f:Int):=Z;have a4:=J a0;clear a0;go_wp2_with(go_at_call 79;refine(Cj b 4 t.name.l7 _ o (.map (some m)) E c _ F0.o.cZ).mono ?_);rintro e b8 ⟨rfl,M,Q⟩;have n:=J (F0.o.step ub lb M Q);clear M Q;go_wp2_with fail;go_meet
   case rel=>exact⟨_,jH a4.o,n⟩
  .have c0:¬(12:Int)<=(f:Int):=Z;have a4:=J a0;clear a0;go_wp2_with fail;go_meet
   case rel=>exact⟨_,jG a4.o,F0⟩
 case rest=>
 obtain⟨l,E1,n⟩:=hcut;clear F0 r0 r2 f0 f1 f2 f3 f4;have i0:=Ak n.o.bY 0;have i1:=Ak n.o.bY 1;simp only[gH,gF,gG]at i0 i1;have b5:=Ak n.o.cZ 2;simp only[gH,gF,gG]at b5;have lw:=n.o.d8.size;have d3:=Ae n.o.bY;have a5:=Ul (w:=wc.drew) (n.o.dN.d8 ((O.refl kD wc).drew) id) a9 c8;go_wp2;go_region;go_upto_if 31 with fail;go_cut[] (fun wx=>∃B,D ((if Cg F t.name.d9=f then l else BO 5 t.name.l7 l)=B)/\D (Vn b d U (.slice (some ⟨g,0,none⟩) a.length vc) a o m G F E #[.string t.name.d9,.int .i64 t.name.l7,.slice z t.u9.length A,.int .i64 t.l7,.slice r y s] w B wx))
 case first=>
  have h:=J (n.o.quiet ((O.refl kD wc).drew));by_cases L:Cg F t.name.d9=f
  .have a8:(((Cg F t.name.d9:Nat):Int) !=(f:Int))=false:=by simp[L]
   have HX:=J L;clear L a5;rw[a8];go_wp2_with fail;go_meet
   case rel=>exact⟨_,jH HX.o,h⟩
  .have a8:(((Cg F t.name.d9:Nat):Int) !=(f:Int))=true:=jX;have HX:=J L;clear L a5;rw[a8];go_wp2_with(go_at_call 79;refine(Cj b 5 t.name.l7 _ o (.map (some m)) E l _ h.o.cZ).mono ?_);rintro e b8 ⟨rfl,M,Q⟩;have FX:=J (h.o.step ub lb M Q);clear M Q;go_wp2_with fail;go_meet
   case rel=>exact⟨_,jG HX.o,FX⟩
 case rest=>
 obtain⟨B,E2,h⟩:=hcut;obtain⟨R,hR⟩:∃R,Th t.u9 (.map [],B)=R:=⟨_,rfl⟩;have HR:D ((t.u9.drop 0).foldl (fun x t=>(Ig x.1 t,EZ x.1 t x.2)) (.map [],B)=R):=hR;have b1:Rp F a d f t c=(OM F a d 1 (t.l7,t.cF) R).2:=by unfold Rp;dsimp only;rw[E1.o,E2.o,hR]
 have b7:=J b1;clear b1 hR a5 n i0 i1 b5 lw d3;generalize hV:wc=V at*;have b3:=Ak h.o.cZ 3;have bf:=fun i=>Ay h.o.cZ i
 have lv:=h.o.d8.size;have d9:=Ae h.o.bY;have j0:=Ak h.o.bY 0;have j1:=Ak h.o.bY 1;have j2:=Ak h.o.bY 2;have j3:=Ak h.o.bY 3;have j4:=Ak h.o.bY 4;simp only[gH,gF,gG]at j0 j1 j2 j3 j4;simp only[gH,gF,gG]at b3;have a3:=h.o.made ub lb hU a9 b9;have KX:=J a3.1;have BX:=J a3.2.1;have OX:=J a3.2.2;clear a3;have xq:∀i,(V.alloc (.map #[] 0)).cell? ⟨b,i,none⟩=V.cell? ⟨b,i,none⟩:=fun i=>gJ (w:=V) (((O.refl kD V).alloc (.map #[] 0)).block b Z id)
 have x3:=xq 3;rw[b3]at x3;have xf:=fun i=>Ay (W.alloc h.o.cZ (.map #[] 0)) i
 have z2:=Ak BX.o 2;simp only[gH,gF,gG]at z2;clear xq;go_wp2;generalize (V.alloc (.map #[] 0)).setCell ⟨b,3,none⟩ (.map (some V.heap.size))=X at*;go_loopw[44] (fun i wr=>∃(k:Nat) (p:DataW Unit) (l:CS),k<=t.u9.length/\i=.int .i64 k/\D (Ck b d U (.slice (some ⟨g,0,none⟩) a.length vc) a o m G V.heap.size k F p l wr)/\D (O (fun k=>k=b\/k=V.heap.size) w wr)/\D (W w.heap.size #[.string t.name.d9,.int .i64 t.name.l7,.slice z t.u9.length A,.int .i64 t.l7,.slice r y s] 132 wr)/\D ((t.u9.drop k).foldl (fun x t=>(Ig x.1 t,EZ x.1 t x.2)) (p,l)=R)) (fun i _=>t.u9.length-(intOf i).toNat)
 case atStart=>exact⟨0,.map [],B,Z,rfl,KX,J (OX.o.mono (fun _ _ q=>.inl q)),BX,HR⟩
 case round=>
  obtain⟨k,p,l,d6,rfl,k1,N,x1,b4⟩:=hrel;clear KX OX BX HR;have v:∀j,U j->¬(j=b\/j=V.heap.size):=fun j hj q=>q.elim (fun e=>ub (e▸hj)) (fun e=>by have:=hU j hj;omega)
  have l0:=N.o.size;by_cases hk:k<t.u9.length
  .have I:=Ac HA.o N.o (fun j hj=>v j (b6.o j hj));obtain⟨ga,rfl⟩:=Ap I Z;have d8:=(I.lt ga rfl).2;have ha:=Fx hk;have n0:=I.cellAt (k*2) Z;have n1:=I.cellAt (k*2+1) Z;rw[ha.1]at n0;rw[ha.2]at n1;have d0:=J (E9 (fun x t=>(Ig x.1 t,EZ x.1 t x.2)) t.u9 k hk (p,l));have b2:=c9 t.u9[k] (gQ _);clear ha I;generalize t.u9[k]=u at*;have H:=J ((O.refl kD wr).alloc (.cells #[.string u.d9,.int .i64 u.l7] 126));go_wp2_with(go_at_call 115;refine(Kp b _ o (.map (some m)) V.heap.size k p l u _ (k1.o.quiet H.o).cZ (k1.o.quiet H.o).t8 b2.1 b2.2 Z).mono ?_;rintro e w2 ⟨rfl,c4,a7,P⟩);go_round
   case rel=>exact⟨k+1,_,_,Z,by go_num,J ((k1.o.quiet H.o).eR c4 a7 P),J (N.o.trans ((H.o.mono (fun _ _ q=>q.elim)).trans P)),J (W.d8 (W.d8 x1.o H.o id) P Z),J (d0.o.symm.trans b4.o)⟩
   case measure=>simp[intOf];omega
  .have e:k=t.u9.length:=Z;subst e;have a7:(p,l)=R:=by have:=b4.o;simpa using this
   subst a7;have y3:=Ak x1.o 3;have y4:=Ak x1.o 4;simp only[gH,gF,gG]at y3 y4;go_wp2_with(go_at_call 116;refine(Ix d (Nf d) b d 1 t.l7 U _ a o m G V.heap.size t.u9.length F p l t.cF (.slice r y s) _ k1.o (CU.d8 HT.o N.o v) HO.o c5 hd hl).mono ?_);rintro e w2 ⟨rfl,⟨n2,_,k2⟩,P⟩;go_wp2;go_end0;exact⟨rfl,⟨V.heap.size,by rw[b7.o];exact k2.cZ⟩,(N.o.trans P).mono (fun _ _ q=>q.elim (fun e=>e) (fun e=>Z))⟩
theorem Gd(s):WideAt.IsKeyLit (Bn s):=by unfold Bn WideAt.IsKeyLit;trivial
theorem Jl{a b}(h:Bn a=Bn b):a=b:=by unfold Bn at h;simp only[Lit.string.injEq]at h;exact ByteArray.ext (Array.toList_inj.1 h)
theorem JY(N:Nat):∀(l:List TF) (k:Nat) (a:DataW Unit),IsMap a->k+l.length<=N->(∀s,has a (Bn s)=true->∃j:Nat,j<N/\a.atKey (Bn s) (.lit (.int .i64 0))=.lit (.int .i64 j))->∀s,has (A7 l k a) (Bn s)=true->∃j:Nat,j<N/\(A7 l k a).atKey (Bn s) (.lit (.int .i64 0))=.lit (.int .i64 j)
 |[],_,_,_,_,h=>h
 |t::l,k,a,c,f,h=>by
  rw[A7];simp only[gK]at f;by_cases d:has a (Bn t.name.d9)=true
  .rw[jH d];exact JY N l (k+1) a c Z h
  .rw[jG d];refine JY N l (k+1) _ (c.put _ _) Z (fun s e=>?_);by_cases b:Bn s=Bn t.name.d9
   .exact⟨k,Z,by rw[b];exact atKey_put_same c (Gd _) _ _⟩
   .rw[has_put_other b]at e;rw[atKey_put_other b];exact h s e
theorem VR(a):Lf (A7 a 0 (.map [])) a.length:=fun s b=>JY a.length a 0 _ isMap_empty Z (fun s b=>by simp[has_eq]at b) s b
def GI(F:DataW Unit)(a:List TF)(d:Nat):List TF->Nat->CS->CS
 |[],_,c=>c
 |t::l,i,c=>GI F a d l (i+1) (Rp F a d i t c)
theorem TL(F:DataW Unit)(a:List TF)(d:Nat)(l:List TF)(i:Nat)(h:i<l.length)(c:CS):GI F a d (l.drop i) i c=GI F a d (l.drop (i+1)) (i+1) (Rp F a d i l[i] c):=by rw[gT h];rfl
def Ib(a:List TF)(d b:Nat):CS:=
 if (has (A7 a 0 (.map [])) (Bn ⟨#[109,97,105,110]⟩) && Ju a (Cg (A7 a 0 (.map [])) ⟨#[109,97,105,110]⟩)==0)=true then GI (A7 a 0 (.map [])) a d a 0 ⟨0,0⟩
 else BO 6 b (GI (A7 a 0 (.map [])) a d a 0 ⟨0,0⟩)
structure TJ(d:Nat)(fns:List TF):Prop where
 cR:fns.length<=4000
 dd:1+d<=4001
 each:∀t,t∈fns->t.name.d9.size<=4000/\(∀s,s∈t.cF->OK d s)/\(∀p,p∈t.u9->p.d9.size<=4000/\p.l7<=4000)/\t.u9.length+(t.cF.map (Cs d)).sum<=4000/\t.cF.length<=4000
abbrev aC:Array Value:=#[.slice none 0 0,.int .i64 0,.map none,.map none,.int .i64 0,.int .i64 0]
theorem Na(d:Nat)(U:Nat->Prop)(fs:Value)(a:List TF)(f:Nat)(w:World)(hp:DF d U w fs a)(hU:∀k,U k->k<w.heap.size)(H:TJ d a):
 Calls prog 38 #[.agg #[fs,.int .i64 f]] w fun e w'=>e=.returned (.tuple #[.int .i64 (Ib a d f).cI,.int .i64 (Ib a d f).l7])/\O kD w w':=by
 have c3:=hp;obtain⟨c7,p1,_⟩:=c3;obtain⟨h,vl,l,rfl⟩:=Ad p1;have c6:=Ag p1;subst c6;have hk:=H.cR;have a0:=VR a;obtain⟨F,hF⟩:∃F,A7 a 0 (.map [])=F:=⟨_,rfl⟩;rw[hF]at a0;have hV:Ib a d f=(if (has F (Bn ⟨#[109,97,105,110]⟩) && Ju a (Cg F ⟨#[109,97,105,110]⟩)==0)=true then GI F a d a 0 ⟨0,0⟩else BO 6 f (GI F a d a 0 ⟨0,0⟩)):=by unfold Ib;rw[hF]
 rw[hV];obtain⟨C,Q⟩:∃C,GI F a d a 0 ⟨0,0⟩=C:=⟨_,rfl⟩;rw[Q];have a4:D (GI F a d (a.drop 0) 0 ⟨0,0⟩=C):=Q;obtain⟨V,Y⟩:∃V,(if (has F (Bn ⟨#[109,97,105,110]⟩) && Ju a (Cg F ⟨#[109,97,105,110]⟩)==0)=true then C else BO 6 f C)=V:=⟨_,rfl⟩;rw[Y];have a6:=J Y;clear Y;have HP:=J hp;have HY:=J H;have HL:D (∀t,t∈a->t.name.d9.size<=4000):=fun t ht=>(H.each t ht).1
 have a5:=J hU;have L:=J a0;have b4:=J hF;have b3:D (W (w.heap.size+1) aC 176 ((w.alloc (.cells #[.slice h a.length l,.int .i64 f] 60)).alloc (.cells aC 176))):=by have:=W.new (w.alloc (.cells #[.slice h a.length l,.int .i64 f] 60)) aC 176;exact J (by simpa using this)
 have a3:D (W w.heap.size #[.slice h a.length l,.int .i64 f] 60 (w.alloc (.cells #[.slice h a.length l,.int .i64 f] 60))):=W.new _ _ _;have b2:D (W w.heap.size #[.slice h a.length l,.int .i64 f] 60 ((w.alloc (.cells #[.slice h a.length l,.int .i64 f] 60)).alloc (.cells aC 176))):=a3.o.alloc _;have b7:D (O kD w (w.alloc (.cells #[.slice h a.length l,.int .i64 f] 60)).drew):=((O.refl _ w).alloc _).drew;have b8:D (O kD w ((w.alloc (.cells #[.slice h a.length l,.int .i64 f] 60)).alloc (.cells aC 176)).drew):=(((O.refl _ w).alloc _).alloc _).drew;clear hp p1 H hV Q a0 hU hF;go_enter func38,ntmps38;go_wp2_with fail;go_cut[4] (fun v I=>∃b M,v=.pointer (some ⟨b,0,none⟩)/\w.heap.size<=b/\b≠w.heap.size/\CL b (.slice h a.length l) f (.map (some M)) (.map none) ⟨0,0⟩ I/\Bh M a.length F I/\W w.heap.size #[.slice h a.length l,.int .i64 f] 60 I/\O kD w I)
 case first=>
  go_region_with(go_at_call 76;refine(IA d U _ a f _ (HP.o.d8 (X:=kD) jV (fun _ _ q=>q)) HL.o hk).mono ?_;rw[b4.o];rintro e m ⟨M,rfl,hM,b0,g⟩;have B:W w.heap.size #[.slice h a.length l,.int .i64 f] 60 m:=(by first|exact W.d8 (X:=kD) (W.d8 (X:=kD) a3.o ((O.refl kD _).drew) id) g id|exact W.d8 (X:=kD) (W.d8 (X:=kD) b2.o ((O.refl kD _).drew) id) g id);obtain⟨K,y1⟩:=B.e2 0 1;have yl:=Ae B;simp only[gH,gF,gG]at K y1;first|(have n:=W.d8 (X:=kD) (W.d8 (X:=kD) b3.o ((O.refl kD _).drew) id) g id;obtain⟨z0,z1,z2,z3,z4,z5⟩:=n.e6 0 1 2 3 4 5;have zf:=n.frozen;have zl:=Ae n;simp only[gH,gF,gG]at z0 z1 z2 z3 z4 z5)|skip);all_goals
   have c4:=g.size;simp at c4;go_wp2_with fail;go_meet
   case rel=>
    first
    |(have c9:=n
      have R:=b8.o.dA g
      have S:O (fun k=>k=w.heap.size+1) m ((((((m.setCell ⟨w.heap.size+1,0,none⟩ (.slice h a.length l)).setCell ⟨w.heap.size+1,1,none⟩ (.int .i64 f)).setCell ⟨w.heap.size+1,2,none⟩ (.map (some M))).setCell ⟨w.heap.size+1,3,none⟩ (.map none)).setCell ⟨w.heap.size+1,4,none⟩ (.int .i64 0)).setCell ⟨w.heap.size+1,5,none⟩ (.int .i64 0)):=(((((((O.refl _ m).t9 0 _).t9 1 _).t9 2 _).t9 3 _).t9 4 _).t9 5 _)
      have hB:=((((((n.set 0 (.slice h a.length l)).set 1 (.int .i64 f)).set 2 (.map (some M))).set 3 (.map none)).set 4 (.int .i64 0)).set 5 (.int .i64 0))
      exact⟨w.heap.size+1,M,rfl,Z,Z,hB,b0.d8 S (by simp at hM;omega),B.d8 S Z,((R.mono (fun _ _ q=>q.elim)).trans S).mono (fun j hj q=>Z)⟩)
    |(have R:=b7.o.dA g
      exact⟨m.heap.size,M,rfl,Z,Z,W.new m _ _,b0.d8 ((O.refl kD m).alloc _) id,B.alloc _,R.alloc _⟩)
 case rest=>
  obtain⟨b,M,rfl,c8,c2,a7,hm,n,ho⟩:=hcut;have K:=n.cell 0;have yl:=Ae n;simp only[gH,gF]at K;have UB:D (¬U b):=fun q=>by have:=a5.o b q;omega
  have K0:=J a7;have M0:=J hm;have X0:=J n;have O0:=J ho;clear a7 hm n ho;go_wp2;go_loopw[13] (fun i wr=>∃(k:Nat) (c:CS) (s:Value),k<=a.length/\i=.int .i64 k/\D (CL b (.slice h a.length l) f (.map (some M)) s c wr)/\D (Bh M a.length F wr)/\D (W w.heap.size #[.slice h a.length l,.int .i64 f] 60 wr)/\D (O kD w wr)/\D (GI F a d (a.drop k) k c=C)) (fun i _=>a.length-(intOf i).toNat)
  case atStart=>exact⟨0,_,_,Z,rfl,K0,M0,X0,O0,a4⟩
  case round=>
   clear K0 M0 X0 O0 a4 K yl;obtain⟨k,c,s,d0,rfl,o,p,z,r,A⟩:=hrel;have P:D (DF d U wr (.slice h a.length l) a):=HP.o.d8 r.o (fun _ _ q=>q);have c0:D (∀k,U k->k<wr.heap.size):=fun k hk=>gY (a5.o k hk) r.o.size
   by_cases a9:k<a.length
   .have a1:=TL F a d a k a9 c;rw[A.o]at a1;have b9:=J a1;have he:=HY.o.each a[k] (gQ _);have u:=J he;clear a1 A he;go_wp2_with fail;refine(VH b d k U _ a f M a.length F c s wr o.o p.o P.o L.o Z UB.o c0.o a9 u.o.2.1 u.o.1 u.o.2.2.1 u.o.2.2.2.1 HY.o.dd u.o.2.2.2.2).mono ?_;rintro e m ⟨rfl,⟨m',a8⟩,g⟩;have N:=J a8;have b5:=J (p.o.d8 g (p.o.ne o.o));have c1:=J (z.o.d8 g (fun q=>c2 q.symm));have y:D (O kD w m):=((r.o.mono (fun _ _ q=>q.elim)).trans g).mono (fun j hj q=>Z);clear a8 g o p z r;go_wp2_with fail;exact⟨⟨k+1,_,_,Z,by go_num,N,b5,c1,y,b9.o.symm⟩,by simp[intOf];omega⟩
   .have e:k=a.length:=Z;have c5:C=c:=by have:=A.o;rw[e,jM]at this;exact this.symm
    subst c5;have d1:decide ((k:Int)<(a.length:Int))=false:=jX;clear A;cases E:(has F (Bn ⟨#[109,97,105,110]⟩) && Ju a (Cg F ⟨#[109,97,105,110]⟩)==0)with
    |true=>
     have x:=J E;clear E;go_wp2_with fail;refine(Ks b d U _ a f s M a.length F C wr o.o p.o P.o L.o Z).mono ?_;rw[x.o];rintro e m ⟨rfl,g⟩;obtain⟨r4,r5⟩:=(W.d8 o.o g id).e2 4 5;have lb:=Ae (W.d8 o.o g id);simp only[gH,gF,gG]at r4 r5;have y:=J (r.o.dA g);clear g;go_wp2_with fail;go_region;go_wp2;go_ret2;have a2:V=C:=by rw[<-a6.o,jH x.o]
     rw[a2];exact⟨rfl,y.o.drew⟩
    |false=>
     have x:=J E;clear E;go_wp2_with fail;refine(Ks b d U _ a f s M a.length F C wr o.o p.o P.o L.o Z).mono ?_;rw[x.o];rintro e m ⟨rfl,g⟩;have N:=J (W.d8 o.o g id);have x1:=(W.d8 z.o g id).cell 1;have xl:=Ae (W.d8 z.o g id);simp only[gH,gF,gG]at x1;have y:=J (r.o.dA g);clear g o p z r;go_wp2_with fail;refine(Cj b 6 f _ f (.map (some M)) s C m N.o).mono ?_;rintro e w3 ⟨rfl,G,b1⟩;have r4:=W.cell G 4;have r5:=W.cell G 5;have lb:=Ae G;simp only[gH,gF,gG]at r4 r5;have b6:D (O kD w w3):=((y.o.mono (fun _ _ q=>q.elim)).trans b1).mono (fun j hj q=>Z);clear b1 G x1 xl;go_wp2_with fail;go_region;go_wp2;go_ret2;have a2:V=BO 6 f C:=by rw[<-a6.o,jG (by rw[x.o];decide)]
     rw[a2];exact⟨rfl,b6.o.drew⟩
def ZA(w:World)(r:List TF×Nat×PS)(e:Ending)(b:World):Prop:=
 (r.2.2.cH=true/\e=.returned (.tuple #[.agg #[.slice none 0 0,.int .i64 0],.int .i64 3,.int .i64 r.2.2.cW])/\Below w.heap.size w b)\/
 (r.2.2.cH=false/\∃(d:Nat) (U:Nat->Prop) (a:Option Addr) (l c:Nat),e=.returned (.tuple #[.agg #[.slice a l c,.int .i64 r.2.1],.int .i64 0,.int .i64 0])/\DF d U b (.slice a l c) r.1/\(∀k,U k->w.heap.size<=k/\k<b.heap.size)/\Below w.heap.size w b)
theorem DF.dJ{d}{U:Nat->Prop}{w i f a}{X:Nat->Prop}(h:DF d U w f a)(c:O X w i)(e:∀k,U k->¬X k):DF d U i f a:=by obtain⟨l,n,o,b,p⟩:=h;exact⟨l,Ac n c (fun k q=>e k (b k q)),o,b,fun j g m=>(p j g m).d8 c e⟩
theorem Kb(m E)(hF:Cc m E)(g n b j w)(S:Below m E w)(R:m<=w.heap.size)(x:AY g n b j w)(V:0<n)(Y:(Aj j (n-1)).kind=0):
 Calls prog 37 #[.slice (some ⟨g,0,none⟩) n b] w fun e w'=>ZA w (Cf j n ⟨0,false,0⟩) e w':=by
 have lg:=x.lt;obtain⟨l1,p1,y,G⟩:∃l p y,Cf j n ⟨0,false,0⟩=(l,p,y):=⟨_,_,_,rfl⟩;rw[G];have Q:=J G;have P:=J Y;have M:=J S;have L:=J hF;clear G Y S hF;cases C:y.cH with
 |true=>
  have o:=J C;clear C;go_enter func37,ntmps37;go_wp2_with fail;have t:AX (w.heap.size+1) g n b ⟨0,false,0⟩ ((w.alloc (.cells #[.slice none 0 0,.int .i64 0] 60)).alloc (.cells #[.slice (some ⟨g,0,none⟩) n b,.int .i64 0,.bool false,.int .i64 0] 172)):=by have s:=W.new (w.alloc (.cells #[.slice none 0 0,.int .i64 0] 60)) #[.slice (some ⟨g,0,none⟩) n b,.int .i64 0,.bool false,.int .i64 0] 172;simp only[World.size_alloc]at s;simpa[AX]using s
  refine(KA m E L.o (w.heap.size+1) g n b ⟨0,false,0⟩ j _ Z ((M.o.alloc R _).alloc jX _) jX t (x.d8 (((O.refl kD _).alloc _).alloc _) id) V P.o).mono ?_;rw[Q.o];rintro e K ⟨d,U,a,l,c,rfl,z,A,i,h⟩;have f:W w.heap.size #[.slice none 0 0,.int .i64 0] 60 K:=((W.new w #[.slice none 0 0,.int .i64 0] 60).alloc _).d8 h Z;have F:=J ((((Below.refl w.heap.size w).alloc (gI _) _).alloc jY _).trans (h.cX (B:=w.heap.size) jX (fun k u=>Z)));obtain⟨q,r⟩:=f.e2 0 1;have bf:=f.frozen;have I:=W.cell i 2;have r3:=W.cell i 3;simp only[gH,gF,gG,o.o]at q r I r3;have H:=Ae f;have lR:=Ae i;clear i h f x t z A;go_wp2;go_region;go_wp2;refine gP (v:=.tuple #[.agg #[.slice none 0 0,.int .i64 0],.int .i64 3,.int .i64 y.cW]) (by simp[results,results37,go_sem,q,r,H]) rfl (.inl ⟨o.o,rfl,?_⟩);exact((((F.o.setCell (p:=⟨w.heap.size,0,none⟩) (gI _) _).setCell (p:=⟨w.heap.size,1,none⟩) (gI _) _).alloc jX _)).trans ⟨rfl,rfl,rfl,gI _,fun _ _=>rfl⟩
 |false=>
  have o:=J C;clear C;go_enter func37,ntmps37;go_wp2_with fail;have t:AX (w.heap.size+1) g n b ⟨0,false,0⟩ ((w.alloc (.cells #[.slice none 0 0,.int .i64 0] 60)).alloc (.cells #[.slice (some ⟨g,0,none⟩) n b,.int .i64 0,.bool false,.int .i64 0] 172)):=by have s:=W.new (w.alloc (.cells #[.slice none 0 0,.int .i64 0] 60)) #[.slice (some ⟨g,0,none⟩) n b,.int .i64 0,.bool false,.int .i64 0] 172;simp only[World.size_alloc]at s;simpa[AX]using s
  refine(KA m E L.o (w.heap.size+1) g n b ⟨0,false,0⟩ j _ Z ((M.o.alloc R _).alloc jX _) jX t (x.d8 (((O.refl kD _).alloc _).alloc _) id) V P.o).mono ?_;rw[Q.o];rintro e K ⟨d,U,a,l,c,rfl,z,A,i,h⟩;have f:W w.heap.size #[.slice none 0 0,.int .i64 0] 60 K:=((W.new w #[.slice none 0 0,.int .i64 0] 60).alloc _).d8 h Z;have F:=J ((((Below.refl w.heap.size w).alloc (gI _) _).alloc jY _).trans (h.cX (B:=w.heap.size) jX (fun k u=>Z)));obtain⟨q,r⟩:=f.e2 0 1;have bf:=f.frozen;have I:=W.cell i 2;simp only[gH,gF,gG,o.o]at q r I;have H:=Ae f;have lR:=Ae i;have HP:=J z;have N:=J A;have a0:=h.size;simp at a0;clear i h f x t z A;go_wp2;refine gP (v:=.tuple #[.agg #[.slice a l c,.int .i64 p1],.int .i64 0,.int .i64 0]) (by simp[results,results37,go_sem,q,r,H]) rfl (.inr ⟨o.o,d,U,a,l,c,rfl,?_,?_,?_⟩)
  .refine HP.o.dJ (X:=fun k=>k=w.heap.size) ?_ (fun k u=>by have:=(N.o k u).1;simp at this;omega);refine O.alloc ?_ _;iterate 2 refine O.t9 ?_ _ _
   exact O.refl _ _
  .intro k u;have:=N.o k u;simp at this⊢;omega
  .exact((F.o.setCell (p:=⟨w.heap.size,0,none⟩) (gI _) _).setCell (p:=⟨w.heap.size,1,none⟩) (gI _) _).alloc jX _

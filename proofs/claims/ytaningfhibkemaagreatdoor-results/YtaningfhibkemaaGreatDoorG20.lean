/- Part of the proof: ChH FdA PrA PrB PrK RtA. -/
import Derived.Test.YtaningfhibkemaaGreatDoorG30
import Derived.Test.YtaningfhibkemaaGreatDoorG10
set_option maxRecDepth 100000
set_option maxHeartbeats 8000000
namespace Go.Proofs.YtaningfhibkemaaGreatDoor
open Go.RowKit Go.Proofs.Tryz
open Option renaming none->Z,some->T
open Value renaming int->G,slice->Y
open IntKind renaming i64->A
theorem Hc(c n)(hF:Cj c n)(s y)(hs:s.size<=4000)(h:AF s s.size 0 x0=.inr y)(X a2 x)(B:Cp (Av s y) (Av s y).length ⟨0,false,0⟩=(X,a2,x))(hx:x.cR=true)(w)(z:Below c n w)(hB:c<=w.heap.size)(j:(Aj (Av s y) ((Av s y).length-1)).kind=0):
 Calls prog 13 #[.string s] w fun e w'=>e=.returned (.tuple #[Y Z 0 0,Vt,G A 3,G A x.dH])/\Below w.heap.size w w':=by
 obtain⟨H,V,P,N,Q⟩:=BB h j z hF B;have F:0<(Av s y).length:=by simp[Av]
 have M:=J (FO h);clear h j z hF B;generalize C:Av s y=k at*;have S:=J C;clear C;go_enter func13,ntmps13;go_wp2_with fail;refine(GD s hs _).mono ?_;rw[H.o];rintro e b ⟨v,rfl,a,I,f⟩;rw[S.o]at a I;have j:=f.size;simp at j;have E:Below w.heap.size w b:=((Below.refl _ _).alloc (gS _) _).trans (f.mono (by simp));have u:W w.heap.size #[Y Z 0 0,G A 0] 60 b:=by show b.heap[w.heap.size]? =_;rw[f.block _ (by simp)];exact heap_alloc_new w _
 obtain⟨va,vl,K,rfl⟩:=Ad a;obtain⟨g,rfl⟩:=Ap a F;have a1:=Ag a;subst a1;have a0:=(a.lt g rfl).1;simp at a0;have m:AZ g k.length K k b:=⟨Aq a (by omega),rfl,I,M.o⟩;obtain⟨R,o,l⟩:=Ax m u E;clear f u E a;go_wp2_with fail;refine(Kk c n N.o g k.length K k b (P.o.trans (l.o.mono hB)) (by omega) m F V.o).mono ?_;rw[Q.o];rintro e L (⟨_,rfl,i⟩|⟨q,_⟩)
 .have a3:=i.size;have d:W w.heap.size #[Y Z 0 0,G A 0] 60 L:=by show L.heap[w.heap.size]? =_;rw[i.block _ (by omega)];exact o.o
  have U:=J (l.o.trans (i.mono (by omega)));obtain⟨r,t⟩:=d.e2 0 1;have bf:=d.frozen;simp only[gR,gP,gQ]at r t;have l3:=Ae d;clear i d o l m R;simp only;go_wp2;refine gZ (v:=.tuple #[Y Z 0 0,Vt,G A 3,G A x.dH]) (by simp[results,results13,go_sem,r,t,l3]) rfl ⟨rfl,?_⟩;exact((U.o.setCell (p:=⟨w.heap.size,0,Z⟩) (gS _) _).setCell (p:=⟨w.heap.size,1,Z⟩) (gS _) _).alloc (by simp;omega) _
 .exact jY (hx.symm.trans q) (by decide)
theorem JI(o P)(hF:Cj o P)(s y)(hs:s.size<=4000)(h:AF s s.size 0 x0=.inr y)(f F x)(hP:Cp (Av s y) (Av s y).length ⟨0,false,0⟩=(f,F,x))(hx:x.cR=false)(w)(X:Below o P w)(hB:o<=w.heap.size)(E:(Aj (Av s y) ((Av s y).length-1)).kind=0)
 (r)(a8:∀d U w v,DM d U w v f->DM r U w v f)(hy:TV r f)(C)(V:Im f r F=C)(hc:C.cS≠0):
 Calls prog 13 #[.string s] w fun e w'=>e=.returned (.tuple #[Y Z 0 0,Vt,G A C.cS,G A C.l7])/\Below w.heap.size w w':=by
 have b2:((C.cS:Int) !=0)=true:=by simp;omega
 have HC:=J V;clear hc V;obtain⟨H,HZ,HG,HF,HP⟩:=BB h E X hF hP;have hl:0<(Av s y).length:=by simp[Av]
 have HD:=J (FO h);clear h E X hF hP;generalize hT:Av s y=I at*;have HT:=J hT;clear hT;go_enter func13,ntmps13;go_wp2_with fail;refine(GD s hs _).mono ?_;rw[H.o];rintro e n ⟨v,rfl,b,a1,u⟩;rw[HT.o]at b a1;have E:=u.size;simp at E;have a0:Below w.heap.size w n:=((Below.refl _ _).alloc (gS _) _).trans (u.mono (by simp));have S:W w.heap.size #[Y Z 0 0,G A 0] 60 n:=by show n.heap[w.heap.size]? =_;rw[u.block _ (by simp)];exact heap_alloc_new w _
 obtain⟨va,vl,vc,rfl⟩:=Ad b;obtain⟨g,rfl⟩:=Ap b hl;have a9:=Ag b;subst a9;have a7:=(b.lt g rfl).1;simp at a7;have N:AZ g I.length vc I n:=⟨Aq b (by omega),rfl,a1,HD.o⟩;obtain⟨a4,Q,L⟩:=Ax N S a0;clear u S a0 b;go_wp2_with fail;refine(Kk o P HF.o g I.length vc I n (HG.o.trans (L.o.mono hB)) (by omega) N hl HZ.o).mono ?_;rw[HP.o];rintro e K (⟨q,_⟩|⟨_,d,U,a,l,c,rfl,M,hu,z⟩)
 .exact jY (hx.symm.trans q) (by decide)
 .simp only at M⊢;have b3:=z.size;have m:W w.heap.size #[Y Z 0 0,G A 0] 60 K:=by show K.heap[w.heap.size]? =_;rw[z.block _ (by omega)];exact Q.o
  have a5:=J (L.o.trans (z.mono (by omega)));obtain⟨i,j⟩:=m.e2 0 1;have R:=m.frozen;simp only[gR,gP,gQ]at i j;have l3:=Ae m;have a2:=a8 d U K (Y a l c) M;have a3:=J (a2.d8 ((O.refl kJ K).alloc (.cells #[Y a l c,G A F] 60)) (fun _ _ q=>q));clear z Q L N a4 M a2;go_wp2_with fail;refine(Nk r U _ f F _ a3.o (fun k hk=>by have:=(hu k hk).2;simp;omega) hy).mono ?_;rw[HC.o];rintro e w4 ⟨rfl,B⟩;have t:=(m.alloc _).d8 B id;have z4:=B.size;simp at z4;have a6:D (Below w.heap.size w w4):=(a5.o.alloc (by omega) _).trans (B.dI (by simp;omega) (fun _ q=>q.elim));clear i j R;obtain⟨i,j⟩:=t.e2 0 1;have R:=t.frozen;have l4:=Ae t;simp only[gR,gP,gQ]at i j;clear B t m;go_wp2;refine gZ (v:=.tuple #[Y Z 0 0,Vt,G A C.cS,G A C.l7]) (by simp[results,results13,go_sem,i,j]) rfl ⟨rfl,?_⟩;exact(a6.o.setCell (p:=⟨w.heap.size,0,Z⟩) (gS _) _).setCell (p:=⟨w.heap.size,1,Z⟩) (gS _) _
theorem KL(I a1)(hF:Cj I a1)(s y)(hs:s.size<=4000)(h:AF s s.size 0 x0=.inr y)(n j x)(hP:Cp (Av s y) (Av s y).length ⟨0,false,0⟩=(n,j,x))(hx:x.cR=false)(w)(hG:Below I a1 w)(hB:I<=w.heap.size)(P:(Aj (Av s y) ((Av s y).length-1)).kind=0)
 (z)(b8:∀d U w v,DM d U w v n->DM z U w v n)(hy:TV z n)(C)(hC:Im n z j=C)(hc:C.cS=0):
 Calls prog 13 #[.string s] w fun e Q=>∃(g a5:Nat) (a:Option Addr) (l c:Nat) (U:Nat->Prop),e=.returned (.tuple #[Y (T ⟨g,0,Z⟩) (Av s y).length a5,.agg #[Y a l c,G A j],G A 0,G A 0])/\AZ g (Av s y).length a5 (Av s y) Q/\w.heap.size<=g/\DM z U Q (Y a l c) n/\(∀k,U k->w.heap.size<=k/\k<Q.heap.size)/\Below w.heap.size w Q:=by
 have c2:((C.cS:Int) !=0)=false:=by simp[hc]
 have HC:=J hC;clear hc hC;obtain⟨H,HZ,HG,HF,HP⟩:=BB h P hG hF hP;have hl:0<(Av s y).length:=by simp[Av]
 have HD:=J (FO h);clear h P hG hF hP;generalize hT:Av s y=f at*;have HT:=J hT;clear hT;go_enter func13,ntmps13;go_wp2_with fail;refine(GD s hs _).mono ?_;rw[H.o];rintro e E ⟨v,rfl,p,a8,M⟩;rw[HT.o]at p a8;have P:=M.size;simp at P;have a7:Below w.heap.size w E:=((Below.refl _ _).alloc (gS _) _).trans (M.mono (by simp));have a6:W w.heap.size #[Y Z 0 0,G A 0] 60 E:=by show E.heap[w.heap.size]? =_;rw[M.block _ (by simp)];exact heap_alloc_new w _
 obtain⟨va,vl,r,rfl⟩:=Ad p;obtain⟨g,rfl⟩:=Ap p hl;have b9:=Ag p;subst b9;have b7:=(p.lt g rfl).1;simp at b7;have a0:AZ g f.length r f E:=⟨Aq p (by omega),rfl,a8,HD.o⟩;obtain⟨a4,a2,R⟩:=Ax a0 a6 a7;clear M a6 a7 p;go_wp2_with fail;refine(Kk I a1 HF.o g f.length r f E (HG.o.trans (R.o.mono hB)) (by omega) a0 hl HZ.o).mono ?_;rw[HP.o];rintro e m (⟨q,_⟩|⟨_,d,U,a,l,c,rfl,V,N,b⟩)
 .exact jY (hx.symm.trans q) (by decide)
 .simp only at V⊢;have c5:=b.size;have B:W w.heap.size #[Y Z 0 0,G A 0] 60 m:=by show m.heap[w.heap.size]? =_;rw[b.block _ (by omega)];exact a2.o
  have b5:=J (R.o.trans (b.mono (by omega)));obtain⟨t,u⟩:=B.e2 0 1;have bf:=B.frozen;simp only[gR,gP,gQ]at t u;have l3:=Ae B;have a9:=b8 d U m (Y a l c) V;have a3:=J (a9.d8 ((O.refl kJ m).alloc (.cells #[Y a l c,G A j] 60)) (fun _ _ q=>q));have b3:D (AZ g f.length r f m):=a4.o.d8 (X:=kJ) ⟨b.os,b.tape,b.output,b.size,fun k i _=>b.block k i⟩ id;have X3:=J (W.new m #[Y a l c,G A j] 60);clear b a2 R a0 a4 V a9;go_wp2_with fail;refine(Nk z U _ n j _ a3.o (fun k i=>by have:=(N k i).2;simp;omega) hy).mono ?_;rw[HC.o];rintro e F ⟨rfl,o⟩;have K:=(B.alloc _).d8 o id;have S:=X3.o.d8 o id;have z4:=o.size;simp at z4;have b6:D (Below w.heap.size w F):=(b5.o.alloc (by omega) _).trans (o.dI (by simp;omega) (fun _ q=>q.elim));have b2:=J (a3.o.d8 o (fun _ _ q=>q));have b4:D (AZ g f.length r f F):=(b3.o.d8 ((O.refl kJ m).alloc _) id).d8 o id;clear t u bf;obtain⟨t,u⟩:=K.e2 0 1;have bf:=K.frozen;obtain⟨c0,c1⟩:=S.e2 0 1;have l4:=Ae K;have l5:=Ae S;simp only[gR,gP,gQ]at t u c0 c1;have c3:m.heap.size≠w.heap.size:=by omega
  clear o K B S;go_wp2;go_region;go_wp2;refine gZ (v:=.tuple #[Y (T ⟨g,0,Z⟩) f.length r,.agg #[Y a l c,G A j],G A 0,G A 0]) (by simp[results,results13,go_sem,t,u]) rfl ?_;have L:O (fun k=>k=w.heap.size) F (((F.setCell ⟨w.heap.size,0,Z⟩ (Y a l c)).setCell ⟨w.heap.size,1,Z⟩ (G A j)).drew):=(((O.refl _ F).t9 0 _).t9 1 _).drew;have c4:=L.size;refine⟨g,r,a,l,c,U,rfl,b4.o.d8 L (by omega),by omega,b2.o.d8 L (fun k i q=>by have:=(N k i).1;omega),fun k i=>⟨by have:=(N k i).1;omega,by have:=(N k i).2;omega⟩,?_⟩;exact b6.o.trans (L.dI (by omega) (fun k q=>by omega))
def FE(s:ByteArray)(l:List Tk):List Tk:=l++[⟨ByteArray.empty,s.size,0⟩]
def K6(s:ByteArray)(l:List Tk):List RF×St×List FS:=Cn (FE s l) (2*(l.length+1)) (l.length+1) ⟨0,Z,0,0⟩ [] []
def UN(s:ByteArray)(l:List Tk)(d:Nat)(a:List TF):List RF×CS:=BK (K6 s l).1 d a 0 ((K6 s l).1,⟨0,0⟩)
def WR(s:ByteArray)(l:List Tk)(d:Nat)(a:List TF):CS:=MW (K6 s l).1 s.size (UN s l d a).2
def Iw(w:World)(s:ByteArray)(l:List Tk)(h:List RF)(i:List FS)(x:St)(C:CS)(e:Ending)(a:World):Prop:=
 if C.cS=0 then
  ∃(b B g c:Nat) (U:Nat->Prop) (d f:Value),e=.returned (.tuple #[.pointer (T ⟨b,0,Z⟩),Y (T ⟨g,0,Z⟩) (l.length+1) c,G A 0,G A 0])/\AP g (l.length+1) c (FE s l) a/\w.heap.size<=g/\Cg b d f x.pl x.ca a/\w.heap.size<=b/\Cw B a d h/\w.heap.size<=B/\BA B U a f i/\Below w.heap.size w a
 else e=.returned (.tuple #[.pointer Z,Y Z 0 0,G A C.cS,G A C.l7])/\Below w.heap.size w a
def Mr(w:World)(s:ByteArray)(d:Nat)(c:List TF)(e:Ending)(a:World):Prop:=
 match BD s s.size 0 []with
 |.inl p=>e=.returned (.tuple #[.pointer Z,Y Z 0 0,G A 2,G A p])/\Below w.heap.size w a
 |.inr l=>match (K6 s l).2.1.cL with
  |some b=>e=.returned (.tuple #[.pointer Z,Y Z 0 0,G A 3,G A b])/\Below w.heap.size w a
  |none=>Iw w s l (UN s l d c).1 (K6 s l).2.2 (K6 s l).2.1 (WR s l d c) e a
structure aF(pb wb B pl ca g n cap:Nat)(U:Nat->Prop)(toks:List Tk)(fv sv:Value)(fns:List RF)(fs:List FS)(fb:Nat)(fc:Array Value)(tv:Value)(takes:List Tk)(bv:Value)(body:List Nat)(c:CS)(w w':World):Prop where
 r:XZ pb wb B pl ca g n cap U toks fv sv fns fs c w w'
 cI:W fb fc 53 w'
 fC:CM B w' tv takes
 eE:Ay B w' bv body
theorem aF.call{j a B k f g n r}{U:Nat->Prop}{v b l z t i d s x u p o c q w y m}(h:aF j a B k f g n r U v b l z i d s x u p o c w y)(F:w.heap.size<=B)(I:w.heap.size<=a)(C:d≠a)(E:b.ownBlock≠T d)(H:RK j a B k f U b l t i q m)(e:DW a B b y m):aF j a B k f g n r U v b l t i d s x u p o q w m:=
 ⟨h.r.call F I H e,e.cI h.cI C E (by decide),e.row h.fC h.r.k.wr h.r.k.fn (by decide) (by decide) (by decide),e.row h.eE h.r.k.wr h.r.k.fn (by decide) (by decide) (by decide)⟩
theorem OM(l:List PT)(i:Nat)(h:i<l.length):tokAt (l.map Ao) i=Ao l[i]:=by unfold tokAt;rw[iV,gV h];rfl
theorem He(s)(hs:s.size<=4000)(w d a2)(a6:∀l,BD s s.size 0 []=.inr l->(K6 s l).2.1.cL=Z->TQ d (K6 s l).1 (K6 s l).2.2 a2):
 Calls prog 9 #[.string s] w fun e w'=>Mr w s d a2 e w':=by
 have h4:decide ((4000:Int)<(s.size:Int))=false:=by simp;omega
 unfold Mr;have h8:=J a6;clear a6;cases hV:BD s s.size 0 []with
 |inl p=> simp only;have HV:=J hV;clear hV;go_enter func9,ntmps9;go_wp2_with fail;refine(Ga s hs _).mono ?_;rw[HV.o];rintro e o ⟨rfl,hb⟩;go_wp2;exact gZ (v:=.tuple #[.pointer Z,Y Z 0 0,G A 2,G A p]) (by simp[results,results9,go_sem]) rfl ⟨rfl,hb⟩
 |inr l=>
  simp only;have a6:=h8.o l hV;have k5:=IN s s.size 0 [] l (by omega) hV;simp only[iJ]at k5;have HV:=J hV;clear hV h8;obtain⟨P,hP⟩:∃P,K6 s l=P:=⟨_,rfl⟩;have f1:Cn (FE s l) (2*(l.length+1)) (l.length+1) ⟨0,Z,0,0⟩ [] []=P:=hP;obtain⟨r,y,fs⟩:=P;obtain⟨n,hn⟩:∃n,l.length+1=n:=⟨_,rfl⟩;obtain⟨AL,f0⟩:∃a,BK r d a2 0 (r,⟨0,0⟩)=a:=⟨_,rfl⟩;have hA:UN s l d a2=AL:=by unfold UN;rw[hP];exact f0
  have hC:WR s l d a2=MW r s.size AL.2:=by unfold WR;rw[hA,hP]
  rw[hP]at a6;rw[hP,hA,hC];rw[hn]at f1;simp only at a6⊢;have h5:=J f1;have g6:D (BK r d (a2.drop 0) 0 (r,⟨0,0⟩)=AL):=f0;clear hP f1 hA hC f0;cases c4:y.cL with
  |some b=>
   have l5:decide ((0:Int)<=(b:Int))=true:=by simp
   have e7:=J c4;clear a6 c4;simp only;go_enter func9,ntmps9;go_wp2_with fail;refine(Ga s hs _).mono ?_;rw[HV.o];rintro e o ⟨v,rfl,L,hb⟩;rw[hn]at L;obtain⟨va,C,F,rfl⟩:=Ad L;have b9:=Ag L;subst b9;obtain⟨g,rfl⟩:=Ap L (by omega);have d2:=(L.lt g rfl).1;have HT:D (AP g C F (FE s l) o):=⟨Aq L (iF _),by simp[FE];omega,by omega⟩;have hz:(tokAt (FE s l) (C-1)).sort=0:=by unfold tokAt FE;rw[show C-1=l.length by omega,jS (gS _)];simp
   have b6:=J hb;have a0:=hb.size;clear L hb;go_wp2_with fail;refine(JJ g C F (FE s l) o HT.o (by omega) hz).mono ?_;rw[h5.o];rintro e w2 ⟨fv,I,U,rfl,hp,a3,a8,ho⟩;simp only at hp a3 a8⊢;have g7:D (Below w.heap.size w w2):=b6.o.trans (ho.dI a0 (fun _ q=>q.elim));simp only[e7.o,Gh];go_wp2;exact gZ (v:=.tuple #[.pointer Z,Y Z 0 0,G A 3,G A b]) (by simp[results,results9,go_sem]) rfl ⟨rfl,g7.o⟩
  |none=>
   have hy:=a6 c4;have k4:=hy.len;have f6:=hy.dC;have HY:=J hy;have e7:=J c4;clear a6 c4 hy;simp only;obtain⟨E,H⟩:∃c,MW r s.size AL.2=c:=⟨_,rfl⟩;rw[H];have d1:=J H;clear H;go_enter func9,ntmps9;go_wp2_with fail;refine(Ga s hs _).mono ?_;rw[HV.o];rintro e o ⟨v,rfl,L,hb⟩;rw[hn]at L;obtain⟨va,C,F,rfl⟩:=Ad L;have b9:=Ag L;subst b9;obtain⟨g,rfl⟩:=Ap L (by omega);have d2:=(L.lt g rfl).1;have HT:D (AP g C F (FE s l) o):=⟨Aq L (iF _),by simp[FE];omega,by omega⟩;have hz:(tokAt (FE s l) (C-1)).sort=0:=by unfold tokAt FE;rw[show C-1=l.length by omega,jS (gS _)];simp
   have b6:=J hb;have a0:=hb.size;clear L hb;go_wp2_with fail;refine(JJ g C F (FE s l) o HT.o (by omega) hz).mono ?_;rw[h5.o];rintro e w2 ⟨fv,I,U,rfl,hp,a3,a8,ho⟩;simp only at hp a3 a8⊢;have g7:D (Below w.heap.size w w2):=b6.o.trans (ho.dI a0 (fun _ q=>q.elim));simp only[e7.o,Gh];have R0:D (XZ o.heap.size w2.heap.size o.heap.size y.pl y.ca g C F U (FE s l) fv I r fs ⟨0,0⟩ o (w2.alloc (.cells #[G A 0,G A 0] 82))):=by have h1:=(O.refl kJ w2).alloc (.cells #[G A 0,G A 0] 82);exact⟨⟨hp.cI.d8 h1 id,a8.s9 h1,a3.s9 h1,W.new _ _ _⟩,(HT.o.d8 ho id).d8 h1 id,ho.dM h1⟩
   have c3:o.heap.size<=w2.heap.size:=ho.size;obtain⟨fa,fl,fc,rfl⟩:∃a l c,fv=Y a l c:=by obtain⟨_,h,_⟩:=a8;exact Ad h
   have k3:fl=r.length:=by obtain⟨_,h,_⟩:=a8;exact Ag h
   subst k3;have S0:D (GR r r 0):=⟨rfl,fun j _ _=>⟨rfl,rfl,rfl,rfl,fun _=>rfl⟩⟩;clear hp a3 a8 ho HT;go_wp2;generalize w2.heap.size=V at*;go_loopw[12] (fun i wr=>∃(k:Nat) (u:List RF) (c:CS),k<=r.length/\i=G A k/\D (XZ o.heap.size V o.heap.size y.pl y.ca g C F U (FE s l) (Y fa r.length fc) I u fs c o wr)/\D (GR r u k)/\D (BK r d (a2.drop k) k (u,c)=AL)) (fun i _=>r.length-(intOf i).toNat)
   case atStart=>exact⟨0,r,_,by omega,rfl,R0,S0,g6⟩
   case round=>
    clear R0 S0 g6;obtain⟨k,u,c,hk,rfl,x,N,HC⟩:=hrel;have p0:=x.o.k.pr.cI.cell 0;simp at p0;have lp:=Ae x.o.k.pr;have lw:=Ae x.o.k.wr;by_cases f9:k<r.length
    .have i8:k<a2.length:=by omega
     have a9:=HY.o.fr k f9 i8;have c7:k<u.length:=by rw[N.o.len];exact f9
     have b8:=N.o.eq k c7 f9;have g2:=R3 r d a2 k i8 (u,c);rw[HC.o]at g2;generalize a2[k]=t at*;obtain⟨Q,rfl⟩:∃Q,fa=T ⟨Q,0,Z⟩:=by obtain⟨_,h,_⟩:=x.o.k.fn;exact Ap h (by rw[N.o.len];omega)
     have l3:Q<wr.heap.size:=by obtain⟨_,h,_⟩:=x.o.k.fn;exact(h.lt Q rfl).2
     obtain⟨tv,bv,vv,hc,a4,c5,c0⟩:=x.o.k.fn.get c7;have f2:u[k].name=Ao t.name:=b8.1.trans a9.name;have f3:u[k].cQ=t.u9.map Ao:=b8.2.1.trans a9.cQ;have f4:CQ (Dw k d fs) u[k].cT t.cP:=by rw[b8.2.2.1];exact a9.cT
     have f5:u[k].t8=[]:=(b8.2.2.2.2 (gS _)).trans a9.t8;have i1:u[k].cT.length<=4001:=by rw[b8.2.2.1];exact a9.gI
     have k0:=J (Y2 c7 f5);have l6:=a9.fU;generalize u[k]=f at hc a4 c5 c0 f2 f3 f4 f5 i1;obtain⟨ta,tl,tc,rfl⟩:=Ad a4;have d6:=Ag a4;subst d6;obtain⟨ba,bl,bc,rfl⟩:=Ad c5;have k2:=Ag c5;subst k2;obtain⟨xa,xl,xc,rfl⟩:=Ad c0;have e0:=hc 0 (by omega);have e1:=hc 1 (by omega);have e2:=hc 2 (by omega);have e3:=hc 3 (by omega);have e4:=hc 4 (by omega);have e5:=hc 5 (by omega);have e6:=hc 6 (by omega);simp only[ER,gR,gP,gQ,iH]at e0 e1 e2 e3 e4 e5 e6;have l9:(k:Int)<(r.length:Int):=by omega
     have d5:wr.heap.size≠V:=by omega
     have d4:Value.ownBlock (Y (T ⟨Q,0,Z⟩) r.length fc)≠T wr.heap.size:=fun q=>by simp[Value.ownBlock]at q;omega
     have X:D (aF o.heap.size V o.heap.size y.pl y.ca g C F U (FE s l) (Y (T ⟨Q,0,Z⟩) r.length fc) I u fs wr.heap.size #[.string f.name.d9,G A f.name.pos,G A f.name.sort,Y ta f.cQ.length tc,Y ba f.cT.length bc,G A f.br,Y xa xl xc] (Y ta f.cQ.length tc) f.cQ (Y ba f.cT.length bc) f.cT c o (wr.alloc (.cells #[.string f.name.d9,G A f.name.pos,G A f.name.sort,Y ta f.cQ.length tc,Y ba f.cT.length bc,G A f.br,Y xa xl xc] 53))):=by have h1:=(O.refl kJ wr).alloc (.cells #[.string f.name.d9,G A f.name.pos,G A f.name.sort,Y ta f.cQ.length tc,Y ba f.cT.length bc,G A f.br,Y xa xl xc] 53);exact⟨⟨x.o.k.s9 h1,x.o.tk.d8 h1 id,x.o.d8.dM h1⟩,W.new _ _ _,Ac a4 h1 (fun _ _ q=>q),Ac c5 h1 (fun _ _ q=>q)⟩
     obtain⟨h6,g9,h0,j6⟩:=Ba g2 f2 f3 f4;have f8:∀d0,k<(wv u k d0).length:=fun d0=>by rw[D9];exact c7
     have k8:∀d0,(wv u k d0).length<=4001:=fun d0=>by rw[D9,N.o.len];exact f6
     have b7:u.length<=4001:=by rw[N.o.len];exact f6
     clear hc a4 c5 c0 g2 HC x a9 b8 f2 f3 f4 f5;have h3:D (((f.name.pos:Nat):Int)=((t.name.l7:Nat):Int)):=by rw[g9.o];rfl
     obtain⟨c1,a7⟩:∃c1,(if 12<=k then Bi 4 t.name.l7 c else c)=c1:=⟨_,rfl⟩;obtain⟨c9,K⟩:∃c9,(if BC (r.map fun f=>f.name.d9) f.name.d9 0=(k:Int)then c1 else Bi 5 t.name.l7 c1)=c9:=⟨_,rfl⟩;have H9:D (Gb r k t c=c9):=by show _=_;unfold Gb;rw[show t.name.d9=f.name.d9 by rw[g9.o];rfl,a7,K]
     have g8:=J K;clear K;by_cases h9:12<=k;focus
      rw[jR h9]at a7;have l2:decide ((12:Int)<=(k:Int))=true:=by simp;omega
      have e8:=J a7;clear a7;go_wp2_with fail;obtain⟨W0,e9⟩:∃W0,wr.alloc (.cells #[.string f.name.d9,G A f.name.pos,G A f.name.sort,Y ta f.cQ.length tc,Y ba f.cT.length bc,G A f.br,Y xa xl xc] 53)=W0:=⟨_,rfl⟩;rw[e9]at X⊢;obtain⟨b0,b1,b3,b4⟩:=X.o.cI.e4 0 1 3 4;have b5:=Ae X.o.cI;simp only[gR,gP,gQ]at b0 b1 b3 b4;have g5:=Ae X.o.r.k.pr;rw[h3.o];refine(Cr V 4 t.name.l7 c _ X.o.r.k.wr).mono ?_;rintro e w3 ⟨rfl,j0,g0⟩;have G1:=J (X.o.call (gS _) c3 d5 d4 (X.o.r.k.add j0 g0) (DW.dG g0));rw[e8.o]at G1;clear j0 g0 b0 b1 b3 b4 b5;obtain⟨b0,b1,b3,b4⟩:=G1.o.cI.e4 0 1 3 4;have b5:=Ae G1.o.cI;simp only[gR,gP,gQ]at b0 b1 b3 b4;have g5:=Ae G1.o.r.k.pr;go_wp2_with fail
     rotate_left;focus
      rw[jQ h9]at a7;have l2:decide ((12:Int)<=(k:Int))=false:=by simp;omega
      have e8:=J a7;clear a7;go_wp2_with fail;obtain⟨W0,e9⟩:∃W0,wr.alloc (.cells #[.string f.name.d9,G A f.name.pos,G A f.name.sort,Y ta f.cQ.length tc,Y ba f.cT.length bc,G A f.br,Y xa xl xc] 53)=W0:=⟨_,rfl⟩;rw[e9]at X⊢;obtain⟨b0,b1,b3,b4⟩:=X.o.cI.e4 0 1 3 4;have b5:=Ae X.o.cI;simp only[gR,gP,gQ]at b0 b1 b3 b4;have g5:=Ae X.o.r.k.pr;have G1:=X;rw[e8.o]at G1
     all_goals
      refine(DP o.heap.size o.heap.size y.pl y.ca _ I u f.name.d9 _ G1.o.r.k.pr G1.o.r.k.fn b7).mono ?_;rw[N.o.cH];rintro e w4 ⟨rfl,S⟩;have S:=S.symm;subst S;have K:=g8.o;clear g8;by_cases d8:BC (r.map fun f=>f.name.d9) f.name.d9 0=(k:Int);focus
       rw[jR d8]at K;have l1:((BC (r.map fun f=>f.name.d9) f.name.d9 0:Int) !=(k:Int))=false:=by simp[d8]
       have G9:=G1;rw[K]at G9;clear K
      rotate_left;focus
       rw[jQ d8]at K;have l1:((BC (r.map fun f=>f.name.d9) f.name.d9 0:Int) !=(k:Int))=true:=by simp[d8]
       have d1:=J K;clear K;go_wp2_with fail;rw[h3.o];refine(Cr V 5 t.name.l7 c1 _ G1.o.r.k.wr).mono ?_;rintro e w5 ⟨rfl,j1,g1⟩;have G9:=J (G1.o.call (gS _) c3 d5 d4 (G1.o.r.k.add j1 g1) (DW.dG g1));rw[d1.o]at G9;clear j1 g1 b0 b1 b3 b4 b5;obtain⟨b0,b1,b3,b4⟩:=G9.o.cI.e4 0 1 3 4;have b5:=Ae G9.o.cI;simp only[gR,gP,gQ]at b0 b1 b3 b4;have g5:=Ae G9.o.r.k.pr
     all_goals
      clear b0 b1 b3 b4 b5;obtain⟨vp,cp,d7⟩:∃a b,CP t.u9 ([],c9)=(a,b):=⟨_,_,rfl⟩;have b9:=Mx t.u9 ([],c9);rw[d7]at b9;simp only[iJ,iY]at b9;have m1:f.cQ.length=t.u9.length:=by rw[h0.o];simp
      have h2:D (CP (t.u9.drop 0) ([],c9)=(vp,cp)):=d7;have d9:=G9;rw[<-k0.o]at d9;have j5:D (BK r d (a2.drop (k+1)) (k+1) (wv u k (Gs r d 1 t.cP (vp,cp)).1,(Gs r d 1 t.cP (vp,cp)).2)=AL):=by have:=h6.o;unfold EI at this;simp only[H9.o,d7]at this;exact this.symm
      clear d7 h6;go_wp2;go_loopw[14] (fun j l4=>∃(m:Nat) (R:List ByteArray) (c2:CS),m<=f.cQ.length/\j=G A m/\D (aF o.heap.size V o.heap.size y.pl y.ca g C F U (FE s l) (Y (T ⟨Q,0,Z⟩) r.length fc) I (wv u k R) fs wr.heap.size #[.string f.name.d9,G A f.name.pos,G A f.name.sort,Y ta f.cQ.length tc,Y ba f.cT.length bc,G A f.br,Y xa xl xc] (Y ta f.cQ.length tc) f.cQ (Y ba f.cT.length bc) f.cT c2 o l4)/\R.length=m/\D (CP (t.u9.drop m) (R,c2)=(vp,cp))) (fun j _=>f.cQ.length-(intOf j).toNat)
      case atStart=>exact⟨0,[],c9,by omega,rfl,d9,rfl,h2⟩
      case round=>
       clear G9 d9 h2;obtain⟨m,R,c2,hm,rfl,M,l0,HQ⟩:=hrel;obtain⟨b3,b4⟩:=M.o.cI.e2 3 4;simp only[gR,gP,gQ]at b3 b4;have b5:=Ae M.o.cI;have m3:=Ae M.o.r.k.pr;have m4:=Ae M.o.r.k.wr;by_cases k7:m<f.cQ.length
       .obtain⟨gt,rfl⟩:=Ap M.o.fC (by omega);obtain⟨t0,t1,t2⟩:=EB M.o.fC k7;have m2:=(M.o.fC.lt gt rfl).2;have i9:m<t.u9.length:=by omega
        have a3:=Sb t.u9 m i9 (R,c2);rw[HQ.o]at a3;have g3:tokAt f.cQ m=Ao t.u9[m]:=by rw[h0.o];exact OM _ _ i9
        generalize tokAt f.cQ m=q at t0 t1 t2 g3;have j9:D (CP (t.u9.drop (m+1)) (R++[q.d9],Dt R q c2)=(vp,cp)):=by rw[g3];exact a3.symm
        have k6:(m:Int)<(f.cQ.length:Int):=by omega
        have c0:((wv u k R)[k]'(f8 R)).t8=R:=TH (f8 R);have h7:=J c0;clear a3 g3 HQ c0;go_wp2_with fail;refine(JH o.heap.size V o.heap.size y.pl y.ca k U _ I (wv u k R) fs c2 q _ M.o.r.k (f8 _) (k8 _) (by rw[h7.o];omega)).mono ?_;rw[TE,h7.o];rintro e w6 ⟨rfl,i6,i2⟩;have j7:=J (M.o.call (gS _) c3 d5 d4 i6 i2);clear i6 i2 M;go_wp2_with fail;exact⟨⟨m+1,_,_,by omega,by go_num,j7,by simp[l0],j9⟩,by simp[intOf];omega⟩
       .have e:m=t.u9.length:=by omega
        have hq:R=vp/\c2=cp:=by have:=HQ.o;rw[e,jW]at this;simpa[CP]using this
        obtain⟨rfl,rfl⟩:=hq;have k6:decide ((m:Int)<(f.cQ.length:Int))=false:=by simp;omega
        clear HQ;go_wp2_with fail;refine(Wu d o.heap.size V o.heap.size y.pl y.ca k 1 U _ I _ u fs f.cT t.cP R c2 _ M.o.r.k M.o.eE j6.o c7 b7 HY.o.fZ (by omega) i1 HY.o.gK (by have:=HY.o.dd;omega)).mono ?_;rw[N.o.gC];rintro e w7 ⟨rfl,i7,i3⟩;have j8:=J (M.o.call (gS _) c3 d5 d4 i7 i3);clear i7 i3 M;go_wp2_with fail;exact⟨⟨k+1,_,_,by omega,by go_num,j8.o.r,N.o.next _,j5⟩,by simp[intOf];omega⟩
    .have e:k=r.length:=by omega
     have k1:AL=(u,c):=by have:=HC.o;rw[e,k4,jW]at this;exact this.symm
     subst k1;have m0:decide ((k:Int)<(r.length:Int))=false:=by simp;omega
     have b7:u.length<=4001:=by rw[N.o.len];exact f6
     have H:=d1.o;unfold MW at H;have d3:=C0 (r.map fun f=>f.name.d9) ⟨#[109,97,105,110]⟩ 0;clear HC d1;simp only at H;by_cases g4:0<=BC (r.map fun f=>f.name.d9) ⟨#[109,97,105,110]⟩ 0
     .obtain⟨i,hi⟩:∃i:Nat,BC (r.map fun f=>f.name.d9) ⟨#[109,97,105,110]⟩ 0=i:=⟨(BC (r.map fun f=>f.name.d9) ⟨#[109,97,105,110]⟩ 0).toNat,by omega⟩;have f7:i<r.length:=by have:=d3.2.2;simp only[iT]at this;omega
      have i5:i<u.length:=by rw[N.o.len];exact f7
      have j2:=N.o.eq i i5 f7;obtain⟨Q,rfl⟩:∃Q,fa=T ⟨Q,0,Z⟩:=by obtain⟨_,h,_⟩:=x.o.k.fn;exact Ap h (by omega)
      have l3:Q<wr.heap.size:=by obtain⟨_,h,_⟩:=x.o.k.fn;exact(h.lt Q rfl).2
      obtain⟨tv,bv,vv,i0,a4,_,_⟩:=x.o.k.fn.get i5;have e3:=i0 3 (by omega);simp only[ER,gR,gP,gQ]at e3;obtain⟨ta,tl,tc,rfl⟩:=Ad a4;have d6:=Ag a4;have i4:(((r.map fun f=>f.cQ.length)[i]?).getD 0:Nat)=tl:=by rw[iV,gV f7,d6,j2.2.1];rfl
      rw[hi]at H;simp only[Int.toNat_natCast,i4]at H;have l8:(i:Int)<(r.length:Int):=by omega
      have l7:decide ((i:Int)<0)=false:=by simp
      clear i0 a4 j2 i4 g4 d3 d6;by_cases j3:tl=0
      .rw[jR ⟨by omega,j3⟩]at H;have k9:decide ((0:Int)<(tl:Int))=false:=by simp;omega
       go_wp2_with fail;refine(DP o.heap.size o.heap.size y.pl y.ca _ I u ⟨#[109,97,105,110]⟩ _ x.o.k.pr x.o.k.fn b7).mono ?_;rw[N.o.cH,hi];rintro e w9 ⟨rfl,S⟩;subst S;have z:D (XZ o.heap.size V o.heap.size y.pl y.ca g C F U (FE s l) (Y (T ⟨Q,0,Z⟩) r.length fc) I u fs E o w9):=by rw[<-H];exact x.o
       clear H;have r0:=W.cell z.o.k.wr 0;have r1:=W.cell z.o.k.wr 1;have j4:=Ae z.o.k.wr;simp only[gR,gP,gQ]at r0 r1;have a5:D (∀W',O kJ w9 W'->Below w.heap.size w W'):=fun W' hW=>b6.o.trans ((z.o.d8.dM hW).dI a0 (fun _ q=>q.elim))
       by_cases B:E.cS=0
       .have c6:((E.cS:Int) !=0)=false:=by simp[B]
        have a1:=J B;clear B;go_wp2_with fail;refine gZ (v:=.tuple #[.pointer (T ⟨o.heap.size,0,Z⟩),Y (T ⟨g,0,Z⟩) C F,G A 0,G A 0]) (by simp[results,results9,go_sem]) rfl ?_;unfold Iw;rw[jR a1.o,hn];exact⟨o.heap.size,o.heap.size,g,F,U,_,I,rfl,z.o.tk,d2,z.o.k.pr,a0,z.o.k.fn,a0,z.o.k.st,a5.o _ (O.refl _ _)⟩
       .have c6:((E.cS:Int) !=0)=true:=by simp[B]
        have a1:=J B;clear B;go_wp2_with fail;go_region;go_wp2;refine gZ (v:=.tuple #[.pointer Z,Y Z 0 0,G A E.cS,G A E.l7]) (by simp[results,results9,go_sem]) rfl ?_;unfold Iw;rw[jQ a1.o];exact⟨rfl,a5.o _ (by repeat first|exact BI _ _|apply BG|apply BH|apply BE)⟩
      .rw[jQ (fun q=>j3 q.2)]at H;have K:=H.symm;have k9:decide ((0:Int)<(tl:Int))=true:=by simp;omega
       clear H;go_wp2_with fail;refine(DP o.heap.size o.heap.size y.pl y.ca _ I u ⟨#[109,97,105,110]⟩ _ x.o.k.pr x.o.k.fn b7).mono ?_;rw[N.o.cH,hi];rintro e w8 ⟨rfl,S⟩;have S:=S.symm;subst S;go_wp2_with fail;refine(Cr V 6 s.size c _ x.o.k.wr).mono ?_;rintro e w9 ⟨rfl,c8,b2⟩;have z:D (XZ o.heap.size V o.heap.size y.pl y.ca g C F U (FE s l) (Y (T ⟨Q,0,Z⟩) r.length fc) I u fs E o w9):=by rw[K];exact x.o.call (gS _) c3 (x.o.k.add c8 b2) (DW.dG b2)
       clear c8 b2 p0 lp lw x K;have r0:=W.cell z.o.k.wr 0;have r1:=W.cell z.o.k.wr 1;have j4:=Ae z.o.k.wr;simp only[gR,gP,gQ]at r0 r1;have a5:D (∀W',O kJ w9 W'->Below w.heap.size w W'):=fun W' hW=>b6.o.trans ((z.o.d8.dM hW).dI a0 (fun _ q=>q.elim))
       by_cases B:E.cS=0
       .have c6:((E.cS:Int) !=0)=false:=by simp[B]
        have a1:=J B;clear B;go_wp2_with fail;refine gZ (v:=.tuple #[.pointer (T ⟨o.heap.size,0,Z⟩),Y (T ⟨g,0,Z⟩) C F,G A 0,G A 0]) (by simp[results,results9,go_sem]) rfl ?_;unfold Iw;rw[jR a1.o,hn];exact⟨o.heap.size,o.heap.size,g,F,U,_,I,rfl,z.o.tk,d2,z.o.k.pr,a0,z.o.k.fn,a0,z.o.k.st,a5.o _ (O.refl _ _)⟩
       .have c6:((E.cS:Int) !=0)=true:=by simp[B]
        have a1:=J B;clear B;go_wp2_with fail;go_region;go_wp2;refine gZ (v:=.tuple #[.pointer Z,Y Z 0 0,G A E.cS,G A E.l7]) (by simp[results,results9,go_sem]) rfl ?_;unfold Iw;rw[jQ a1.o];exact⟨rfl,a5.o _ (by repeat first|exact BI _ _|apply BG|apply BH|apply BE)⟩
     .have hi:BC (r.map fun f=>f.name.d9) ⟨#[109,97,105,110]⟩ 0= -1:=by have:=d3.2.1;omega
      rw[jQ (fun q=>g4 q.1)]at H;have K:=H.symm;clear H g4 d3;go_wp2_with fail;refine(DP o.heap.size o.heap.size y.pl y.ca _ I u ⟨#[109,97,105,110]⟩ _ x.o.k.pr x.o.k.fn b7).mono ?_;rw[N.o.cH,hi];rintro e w8 ⟨rfl,S⟩;have S:=S.symm;subst S;go_wp2_with fail;refine(Cr V 6 s.size c _ x.o.k.wr).mono ?_;rintro e w9 ⟨rfl,c8,b2⟩;have z:D (XZ o.heap.size V o.heap.size y.pl y.ca g C F U (FE s l) (Y fa r.length fc) I u fs E o w9):=by rw[K];exact x.o.call (gS _) c3 (x.o.k.add c8 b2) (DW.dG b2)
      clear c8 b2 p0 lp lw x K;have r0:=W.cell z.o.k.wr 0;have r1:=W.cell z.o.k.wr 1;have j4:=Ae z.o.k.wr;simp only[gR,gP,gQ]at r0 r1;have a5:D (∀W',O kJ w9 W'->Below w.heap.size w W'):=fun W' hW=>b6.o.trans ((z.o.d8.dM hW).dI a0 (fun _ q=>q.elim))
      by_cases B:E.cS=0
      .have c6:((E.cS:Int) !=0)=false:=by simp[B]
       have a1:=J B;clear B;go_wp2_with fail;refine gZ (v:=.tuple #[.pointer (T ⟨o.heap.size,0,Z⟩),Y (T ⟨g,0,Z⟩) C F,G A 0,G A 0]) (by simp[results,results9,go_sem]) rfl ?_;unfold Iw;rw[jR a1.o,hn];exact⟨o.heap.size,o.heap.size,g,F,U,_,I,rfl,z.o.tk,d2,z.o.k.pr,a0,z.o.k.fn,a0,z.o.k.st,a5.o _ (O.refl _ _)⟩
      .have c6:((E.cS:Int) !=0)=true:=by simp[B]
       have a1:=J B;clear B;go_wp2_with fail;go_region;go_wp2;refine gZ (v:=.tuple #[.pointer Z,Y Z 0 0,G A E.cS,G A E.l7]) (by simp[results,results9,go_sem]) rfl ?_;unfold Iw;rw[jQ a1.o];exact⟨rfl,a5.o _ (by repeat first|exact BI _ _|apply BG|apply BH|apply BE)⟩
theorem UO(s y):FE s ((Dj s s.size y).cV.map Ao)=(Av s y).map Ao:=by unfold FE Av;rw[jZ,List.map_singleton,Jn];rfl
structure aE(s:ByteArray)(y:Sc):Prop where
 ok:TksOk s.size (Av s y)
 gF:DigOk (Av s y)
 len:(Av s y).length<=4001
 lex:BD s s.size 0 []=.inr ((Dj s s.size y).cV.map Ao)
 dQ:((Dj s s.size y).cV.map Ao).length+1=(Av s y).length
theorem PR{s y}(d:s.size<=4000)(h:AF s s.size 0 x0=.inr y):aE s y:=by
 have a:BD s s.size 0 []=.inr ((Dj s s.size y).cV.map Ao):=by rw[KD];have b:AF s s.size 0 ⟨[],false,0,0⟩=.inr y:=h;rw[b];rfl
 have c:((Dj s s.size y).cV.map Ao).length+1=(Av s y).length:=by simp[Av]
 have:=IN s s.size 0 [] _ (iF _) a;simp only[iJ]at this;exact⟨Se h,FO h,by omega,a,c⟩
theorem Nt(s)(d:4000<s.size)(c:s.size<=maxLen)(w):Calls prog 13 #[.string s] w fun e j=>e=.returned (.tuple #[Y Z 0 0,Vt,G A 1,G A 0])/\Below w.heap.size w j:=by have g:=J d;have f:=J c;clear d c;go_enter func13,ntmps13;go_wp2_with fail;refine(QR s g.o f.o _).mono ?_;rintro e l ⟨rfl,b⟩;have b:=b.symm;subst b;have a:=W.new w #[Y Z 0 0,G A 0] 60;obtain⟨h,i⟩:=a.e2 0 1;have k:=a.frozen;simp only[gR,gP,gQ]at h i;clear a;go_wp2;refine gZ (v:=.tuple #[Y Z 0 0,Vt,G A 1,G A 0]) (by simp[results,results13,go_sem]) rfl ⟨rfl,?_⟩;exact(Below.refl w.heap.size w).alloc (gS _) _
theorem YL(s)(d:4000<s.size)(a:s.size<=maxLen)(w):
 Calls prog 9 #[.string s] w fun e b=>e=.returned (.tuple #[.pointer Z,Y Z 0 0,G A 1,G A 0])/\b=w:=by
 unfold maxLen at a;have c:decide ((4000:Int)<(s.size:Int))=true:=by simp;omega
 go_enter func9,ntmps9;go_wp2;exact gZ (v:=.tuple #[.pointer Z,Y Z 0 0,G A 1,G A 0]) (by simp[results,results9,go_sem]) rfl ⟨rfl,rfl⟩
theorem Tryz.textOf(a s p w):(Instr.field 112 (.agg #[G A a,.string s,G A p]) 1).run prog w=.ok (.string s) w:=by kernel_rfl
theorem Below.quiet{w a}(h:Below w.heap.size w a):O kJ w a:=⟨h.os,h.tape,h.output,h.size,fun k b _=>h.block k b⟩
theorem VH(t w b)(l:w.cell? ⟨4,0,Z⟩=T b)(i:b=.nilIface\/∃n m,b=.iface n m)
 (k:t=⟨#[]⟩\/t=⟨#[48]⟩\/t=⟨#[49]⟩\/t=⟨#[50]⟩\/t=⟨#[51]⟩):
 Calls prog 195 #[.string t] w fun e a=>∃x,e=.returned (.tuple #[G A (J9 ⟨2,t,0⟩),x])/\O kJ w a:=by
 have c:∀(d:Nat),t.size<=18->Lib.atoi t.data.toList=T (d:Int)->J9 ⟨2,t,0⟩=d->Calls prog 195 #[.string t] w fun e a=>∃x,e=.returned (.tuple #[G A (J9 ⟨2,t,0⟩),x])/\O kJ w a:=by intro d j h f;rw[f];refine(Tryz.strconv_Atoi t d j h w).mono ?_;rintro e a ⟨rfl,u,rfl⟩;exact⟨_,rfl,Below.quiet (Lib.bytesWorld_below _ _ _)⟩
 rcases k with h|h|h|h|h
 .have f:J9 ⟨2,t,0⟩=0:=by subst h;decide+kernel
  rw[f];refine(Tryz.strconv_Atoi_err t (by subst h;decide) (by subst h;decide) b w l i).mono ?_;rintro e a ⟨N,rfl,_,_,g⟩;exact⟨_,rfl,Below.quiet g⟩
 .exact c 0 (by subst h;decide) (by subst h;decide) (by subst h;decide+kernel)
 .exact c 1 (by subst h;decide) (by subst h;decide) (by subst h;decide+kernel)
 .exact c 2 (by subst h;decide) (by subst h;decide) (by subst h;decide+kernel)
 .exact c 3 (by subst h;decide) (by subst h;decide) (by subst h;decide+kernel)
theorem WN{l i}(h:i<l.length):Aj l i∈l:=by unfold Aj;rw[gV h];exact iA h
theorem Vb{a x}(b:DigOk a)(d:x.next<a.length):
 (AH a 2 x).d9=⟨#[]⟩\/(AH a 2 x).d9=⟨#[48]⟩\/(AH a 2 x).d9=⟨#[49]⟩\/(AH a 2 x).d9=⟨#[50]⟩\/(AH a 2 x).d9=⟨#[51]⟩:=by
 unfold AH;split
 .rename_i c;exact .inr (b _ (WN d) c)
 .exact .inl rfl
theorem Uf(l E)(Q:4<l)(a)(C:E.cell? ⟨4,0,Z⟩=T a)(s:a=.nilIface\/∃V U,a=.iface V U):Cj l E:=by
 intro b g n P x c w hb o v d R;have i:=Vb (x:=x) d.2.2.2 (by have:=d.2.1;omega);have r:J9 (AH c 2 x)=J9 ⟨2,(AH c 2 x).d9,0⟩:=rfl;rw[r];obtain⟨t,f⟩:∃t,AH c 2 x=t:=⟨_,rfl⟩;obtain⟨y,k⟩:∃y,Af c n 2 x=y:=⟨_,rfl⟩;rw[f]at i;rw[f,k];have h:w.cell? ⟨4,0,Z⟩=T a:=by rw[o.cell Q];exact C
 obtain⟨M,N,H⟩:=Ax f k i;clear f k i r;go_enter func193,ntmps193;go_wp2_with fail;refine(AI b g n P 2 x c _ v d R).mono ?_;rw[M.o,N.o];rintro e X ⟨rfl,B,j⟩;have p:X.cell? ⟨4,0,Z⟩=T a:=by have S:4<w.heap.size:=Lib.lt_of_cell h;rw[gT (w:=w) (j.block 4 S (by omega))];exact h
 obtain⟨L,K,F,I⟩:=Ba B j p s;clear B j p v d s h C o;unfold WO;have a0:=Tryz.textOf t.kind t.d9 t.l7;go_wp2_with(go_at_call 195;refine(VH t.d9 _ a F.o I.o H.o).mono ?_);rintro e w3 ⟨z,rfl,u⟩;have m:=J u;clear u;go_wp2;go_ret;exact⟨rfl,L.o.d8 m.o id,K.o.trans (m.o.mono (fun _ _ q=>q.elim))⟩
theorem Hz(s:ByteArray)(a p:Nat)(w:World)(h:Calls prog 13 #[.string s] w fun e b=>e=.returned (.tuple #[Y Z 0 0,Vt,G A a,G A p])/\Below w.heap.size w b)(f:a≠0):
 Calls prog 7 #[.string s] w fun e b=>e=.returned (.tuple #[.string {data:=#[]},G A a,G A p])/\Below w.heap.size w b:=by
 have g:((a:Int) !=0)=true:=by simp;omega
 have d:=J h;clear h;go_enter func7,ntmps7;go_wp2_with fail;refine d.o.mono ?_;rintro e j ⟨rfl,c⟩;have i:=c.size;go_wp2;go_ret3;exact⟨rfl,c.alloc (by omega) _⟩
theorem RZ(s:ByteArray)(b:List PT)(w:World)(k:List UInt8)(m:Lib.join ((Gr b).map (fun x=>x.data.toList)) [32]=k)(o:∀t,t∈b->t.d9.size<=4000)
 (h:Calls prog 13 #[.string s] w fun e f=>∃(g d:Nat) (a:Option Addr) (l c j:Nat),e=.returned (.tuple #[Y (T ⟨g,0,Z⟩) b.length d,.agg #[Y a l c,G A j],G A 0,G A 0])/\AZ g b.length d b f/\Below w.heap.size w f):
 Calls prog 7 #[.string s] w fun e f=>(∃u:ByteArray,e=.returned (.tuple #[.string u,G A 0,G A 0])/\u.data.toList=k)/\Below w.heap.size w f:=by
 obtain⟨r,v,z⟩:=Ax h m o;clear h m o;go_enter func7,ntmps7;go_wp2_with fail;refine r.o.mono ?_;rintro e E ⟨g,d,a,l,c,j,rfl,n,i⟩;have F:=i.size;have y:=J (n.d8 ((O.refl kJ E).alloc (.cells #[Y a l c,G A j] 60)) id);have q:=J i;clear n i;go_wp2_with fail;refine(Wo g b.length d b _ y.o z.o).mono ?_;rw[v.o];rintro e H ⟨⟨u,rfl,p⟩,C⟩;have B:=J p;clear p;go_wp2;go_ret3;exact⟨⟨u,rfl,B.o⟩,(q.o.alloc (by omega) _).trans (C.mono (by simp;omega))⟩
def JO(s:ByteArray):Nat×Nat×List UInt8:=
 if 4000<s.size then(1,0,[])else
 match AF s s.size 0 x0 with
 |.inl p=>(2,p,[])
 |.inr y=>
  if (Cp (Av s y) (Av s y).length ⟨0,false,0⟩).2.2.cR=true then(3,(Cp (Av s y) (Av s y).length ⟨0,false,0⟩).2.2.dH,[])
  else if (Im (Cp (Av s y) (Av s y).length ⟨0,false,0⟩).1 4000 (Cp (Av s y) (Av s y).length ⟨0,false,0⟩).2.1).cS=0 then(0,0,Lib.join ((Gr (Av s y)).map (fun x=>x.data.toList)) [32])
  else((Im (Cp (Av s y) (Av s y).length ⟨0,false,0⟩).1 4000 (Cp (Av s y) (Av s y).length ⟨0,false,0⟩).2.1).cS,(Im (Cp (Av s y) (Av s y).length ⟨0,false,0⟩).1 4000 (Cp (Av s y) (Av s y).length ⟨0,false,0⟩).2.1).l7,[])
theorem Qv(i:Nat)(q:World)(hF:Cj i q)(s:ByteArray)(M:s.size<=maxLen)(w:World)(B:Below i q w)(z:i<=w.heap.size):
 Calls prog 7 #[.string s] w fun e h=>(∃u:ByteArray,e=.returned (.tuple #[.string u,G A (JO s).1,G A (JO s).2.1])/\u.data.toList=(JO s).2.2)/\Below w.heap.size w h:=by
 unfold JO;by_cases v:4000<s.size
 .rw[jR v];refine(Hz s 1 0 w (Nt s v M w) (by decide)).mono ?_;rintro e h ⟨rfl,d⟩;exact⟨⟨_,rfl,rfl⟩,d⟩
 rw[jQ v];have f:s.size<=4000:=by omega
 cases n:AF s s.size 0 x0 with
 |inl p=> refine(Hz s 2 p w (JK s p f n w) (by decide)).mono ?_;rintro e h ⟨rfl,d⟩;exact⟨⟨_,rfl,rfl⟩,d⟩
 |inr y=>
  have K:=PR f n;have C:=K.ok.end_;obtain⟨k,j,x,m⟩:∃a b c,Cp (Av s y) (Av s y).length ⟨0,false,0⟩=(a,b,c):=⟨_,_,_,rfl⟩;obtain⟨S,V,I,L⟩:∃a b c,Cn ((Av s y).map Ao) (2*(Av s y).length) (Av s y).length ⟨0,Z,0,0⟩ [] []=(a,b,c):=⟨_,_,_,rfl⟩;obtain⟨X,R⟩:=NJ K.ok K.gF f K.len k j x m S V I L
  simp only[m];cases r:x.cR with
  |true=> simp only[if_true];refine(Hz s 3 x.dH w (Hc i q hF s y f n k j x m r w B z C) (by decide)).mono ?_;rintro e h ⟨rfl,d⟩;exact⟨⟨_,rfl,rfl⟩,d⟩
  |false=>
   obtain⟨q1,q2,E,F,q5⟩:=R r;rw[jQ (by decide)];by_cases o:(Im k 4000 j).cS=0
   .rw[jR o];refine(RZ s (Av s y) w _ rfl (fun t P=>iG (K.ok.len t P).1 f) ((KL i q hF s y f n k j x m r w B z C 4000 F E _ rfl o).mono ?_)).mono ?_
    .rintro e h ⟨g,H,a,l,c,U,rfl,N,_,_,_,d⟩;exact⟨g,H,a,l,c,j,rfl,N,d⟩
    .rintro e h ⟨⟨u,rfl,Q⟩,d⟩;exact⟨⟨u,rfl,Q⟩,d⟩
   .rw[jQ o];refine(Hz s _ _ w (JI i q hF s y f n k j x m r w B z C 4000 F E _ rfl o) o).mono ?_;rintro e h ⟨rfl,d⟩;exact⟨⟨_,rfl,rfl⟩,d⟩

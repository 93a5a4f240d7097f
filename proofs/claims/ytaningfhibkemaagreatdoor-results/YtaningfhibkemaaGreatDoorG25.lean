/- Part of the proof: ChH FdA PaF0 PrK RtA. -/
import Derived.Test.YtaningfhibkemaaGreatDoorG16
import Derived.Test.YtaningfhibkemaaGreatDoorShelf
set_option maxRecDepth 100000
set_option maxHeartbeats 8000000
namespace Go.Proofs.YtaningfhibkemaaGreatDoor
open Go.RowKit Go.Proofs.Tryz
abbrev Vj:Value:=.agg #[.slice none 0 0,.int .i64 0]
def XO(s:ByteArray)(a b:Nat):Prop:=∀w:World,Calls prog 13 #[.string s] w fun e c=>e=.returned (.tuple #[.slice none 0 0,Vj,.int .i64 a,.int .i64 b])/\Below w.heap.size w c
theorem JB(s p)(i:s.size<=4000)(h:AE s s.size 0 x0=.inl p):XO s 2 p:=by
 intro w;have H:=J h;clear h;go_enter func13,ntmps13;go_wp2_with fail;refine(Gu s i _).mono ?_;rw[H.o];rintro e c ⟨rfl,a⟩;have j:=a.size;simp at j;have g:Below w.heap.size w c:=((Below.refl _ _).alloc (gI _) _).trans (a.mono jY);have b:W w.heap.size #[.slice none 0 0,.int .i64 0] 60 c:=by show c.heap[w.heap.size]? =_;rw[a.block _ jY];exact heap_alloc_new w _
 obtain⟨d,f⟩:=b.e2 0 1;have k:=b.frozen;simp only[gH,gF,gG]at d f;clear a b;go_wp2;refine gP (v:=.tuple #[.slice none 0 0,Vj,.int .i64 2,.int .i64 p]) (by simp[results,results13,go_sem,d,f]) rfl ⟨rfl,?_⟩;exact(g.setCell (p:=⟨w.heap.size,0,none⟩) (gI _) _).setCell (p:=⟨w.heap.size,1,none⟩) (gI _) _
theorem GX(c n)(hF:Cc c n)(s y)(Y:s.size<=4000)(h:AE s s.size 0 x0=.inr y)(U a1 x)(A:Cf (Av s y) (Av s y).length ⟨0,false,0⟩=(U,a1,x))(hx:x.cH=true)(w)(z:Below c n w)(V:c<=w.heap.size)(j:(Aj (Av s y) ((Av s y).length-1)).kind=0):
 Calls prog 13 #[.string s] w fun e w'=>e=.returned (.tuple #[.slice none 0 0,Vj,.int .i64 3,.int .i64 x.cW])/\Below w.heap.size w w':=by
 have H:=J h;have S:=J j;have M:=J z;have L:=J hF;have N:=J A;have E:0<(Av s y).length:=by simp[Av]
 have K:=J (Fz h);clear h j z hF A;generalize B:Av s y=k at*;have Q:=J B;clear B;go_enter func13,ntmps13;go_wp2_with fail;refine(Gu s Y _).mono ?_;rw[H.o];rintro e b ⟨v,rfl,a,F,f⟩;rw[Q.o]at a F;have j:=f.size;simp at j;have C:Below w.heap.size w b:=((Below.refl _ _).alloc (gI _) _).trans (f.mono jY);have u:W w.heap.size #[.slice none 0 0,.int .i64 0] 60 b:=by show b.heap[w.heap.size]? =_;rw[f.block _ jY];exact heap_alloc_new w _
 obtain⟨va,vl,G,rfl⟩:=Ad a;obtain⟨g,rfl⟩:=Ap a E;have a0:=Ag a;subst a0;have X:=(a.lt g rfl).1;simp at X;have m:AY g k.length G k b:=⟨Aq a Z,rfl,F,K.o⟩;have P:=J m;have o:=J u;have l:=J C;clear f u C a;go_wp2_with fail;refine(Kb c n L.o g k.length G k b (M.o.trans (l.o.mono V)) Z m E S.o).mono ?_;rw[N.o];rintro e I (⟨_,rfl,i⟩|⟨q,_⟩)
 .have a2:=i.size;have d:W w.heap.size #[.slice none 0 0,.int .i64 0] 60 I:=by show I.heap[w.heap.size]? =_;rw[i.block _ Z];exact o.o
  have R:=J (l.o.trans (i.mono Z));obtain⟨r,t⟩:=d.e2 0 1;have bf:=d.frozen;simp only[gH,gF,gG]at r t;have l3:=Ae d;clear i d o l m P;simp only;go_wp2;refine gP (v:=.tuple #[.slice none 0 0,Vj,.int .i64 3,.int .i64 x.cW]) (by simp[results,results13,go_sem,r,t,l3]) rfl ⟨rfl,?_⟩;exact((R.o.setCell (p:=⟨w.heap.size,0,none⟩) (gI _) _).setCell (p:=⟨w.heap.size,1,none⟩) (gI _) _).alloc jX _
 .exact jO (hx.symm.trans q) T
theorem Jz(o M)(hF:Cc o M)(s y)(hs:s.size<=4000)(h:AE s s.size 0 x0=.inr y)(f E x)(V:Cf (Av s y) (Av s y).length ⟨0,false,0⟩=(f,E,x))(hx:x.cH=false)(w)(S:Below o M w)(hB:o<=w.heap.size)(B:(Aj (Av s y) ((Av s y).length-1)).kind=0)
 (r)(a7:∀d U w v,DF d U w v f->DF r U w v f)(hy:TJ r f)(C)(R:Ib f r E=C)(hc:C.cI≠0):
 Calls prog 13 #[.string s] w fun e w'=>e=.returned (.tuple #[.slice none 0 0,Vj,.int .i64 C.cI,.int .i64 C.l7])/\Below w.heap.size w w':=by
 have a9:((C.cI:Int) !=0)=true:=jX;have HC:=J R;clear hc R;have H:=J h;have HZ:=J B;have HG:=J S;have HF:=J hF;have HP:=J V;have hl:0<(Av s y).length:=by simp[Av]
 have HD:=J (Fz h);clear h B S hF V;generalize X:Av s y=F at*;have HT:=J X;clear X;go_enter func13,ntmps13;go_wp2_with fail;refine(Gu s hs _).mono ?_;rw[H.o];rintro e n ⟨v,rfl,b,a0,u⟩;rw[HT.o]at b a0;have B:=u.size;simp at B;have Y:Below w.heap.size w n:=((Below.refl _ _).alloc (gI _) _).trans (u.mono jY);have Q:W w.heap.size #[.slice none 0 0,.int .i64 0] 60 n:=by show n.heap[w.heap.size]? =_;rw[u.block _ jY];exact heap_alloc_new w _
 obtain⟨va,vl,vc,rfl⟩:=Ad b;obtain⟨g,rfl⟩:=Ap b hl;have a8:=Ag b;subst a8;have a6:=(b.lt g rfl).1;simp at a6;have L:AY g F.length vc F n:=⟨Aq b Z,rfl,a0,HD.o⟩;have a3:=J L;have N:=J Q;have I:=J Y;clear u Q Y b;go_wp2_with fail;refine(Kb o M HF.o g F.length vc F n (HG.o.trans (I.o.mono hB)) Z L hl HZ.o).mono ?_;rw[HP.o];rintro e G (⟨q,_⟩|⟨_,d,U,a,l,c,rfl,K,hu,z⟩)
 .exact jO (hx.symm.trans q) T
 .simp only at K⊢;have b2:=z.size;have m:W w.heap.size #[.slice none 0 0,.int .i64 0] 60 G:=by show G.heap[w.heap.size]? =_;rw[z.block _ Z];exact N.o
  have a4:=J (I.o.trans (z.mono Z));obtain⟨i,j⟩:=m.e2 0 1;have P:=m.frozen;simp only[gH,gF,gG]at i j;have l3:=Ae m;have a1:=a7 d U G (.slice a l c) K;have a2:=J (a1.d8 ((O.refl kD G).alloc (.cells #[.slice a l c,.int .i64 E] 60)) (fun _ _ q=>q));clear z N I L a3 K a1;go_wp2_with fail;refine(Na r U _ f E _ a2.o (fun k hk=>by have:=(hu k hk).2;simp;omega) hy).mono ?_;rw[HC.o];rintro e w4 ⟨rfl,A⟩;have t:=(m.alloc _).d8 A id;have z4:=A.size;simp at z4;have a5:D (Below w.heap.size w w4):=(a4.o.alloc Z _).trans (A.cX jX (fun _ q=>q.elim));clear i j P;obtain⟨i,j⟩:=t.e2 0 1;have P:=t.frozen;have l4:=Ae t;simp only[gH,gF,gG]at i j;clear A t m;go_wp2;refine gP (v:=.tuple #[.slice none 0 0,Vj,.int .i64 C.cI,.int .i64 C.l7]) (by simp[results,results13,go_sem,i,j]) rfl ⟨rfl,?_⟩;exact(a5.o.setCell (p:=⟨w.heap.size,0,none⟩) (gI _) _).setCell (p:=⟨w.heap.size,1,none⟩) (gI _) _
theorem KB(F V)(hF:Cc F V)(s y)(hs:s.size<=4000)(h:AE s s.size 0 x0=.inr y)(n j x)(hP:Cf (Av s y) (Av s y).length ⟨0,false,0⟩=(n,j,x))(hx:x.cH=false)(w)(hG:Below F V w)(hB:F<=w.heap.size)(M:(Aj (Av s y) ((Av s y).length-1)).kind=0)
 (z)(b5:∀d U w v,DF d U w v n->DF z U w v n)(hy:TJ z n)(C)(hC:Ib n z j=C)(hc:C.cI=0):
 Calls prog 13 #[.string s] w fun e N=>∃(g a2:Nat) (a:Option Addr) (l c:Nat) (U:Nat->Prop),e=.returned (.tuple #[.slice (some ⟨g,0,none⟩) (Av s y).length a2,.agg #[.slice a l c,.int .i64 j],.int .i64 0,.int .i64 0])/\AY g (Av s y).length a2 (Av s y) N/\w.heap.size<=g/\DF z U N (.slice a l c) n/\(∀k,U k->w.heap.size<=k/\k<N.heap.size)/\Below w.heap.size w N:=by
 have b9:((C.cI:Int) !=0)=false:=by simp[hc]
 have HC:=J hC;clear hc hC;have H:=J h;have HZ:=J M;have HG:=J hG;have HF:=J hF;have HP:=J hP;have hl:0<(Av s y).length:=by simp[Av]
 have HD:=J (Fz h);clear h M hG hF hP;generalize hT:Av s y=f at*;have HT:=J hT;clear hT;go_enter func13,ntmps13;go_wp2_with fail;refine(Gu s hs _).mono ?_;rw[H.o];rintro e B ⟨v,rfl,p,a5,K⟩;rw[HT.o]at p a5;have M:=K.size;simp at M;have a4:Below w.heap.size w B:=((Below.refl _ _).alloc (gI _) _).trans (K.mono jY);have a3:W w.heap.size #[.slice none 0 0,.int .i64 0] 60 B:=by show B.heap[w.heap.size]? =_;rw[K.block _ jY];exact heap_alloc_new w _
 obtain⟨va,vl,r,rfl⟩:=Ad p;obtain⟨g,rfl⟩:=Ap p hl;have b6:=Ag p;subst b6;have b4:=(p.lt g rfl).1;simp at b4;have S:AY g f.length r f B:=⟨Aq p Z,rfl,a5,HD.o⟩;have a1:=J S;have Y:=J a3;have P:=J a4;clear K a3 a4 p;go_wp2_with fail;refine(Kb F V HF.o g f.length r f B (HG.o.trans (P.o.mono hB)) Z S hl HZ.o).mono ?_;rw[HP.o];rintro e m (⟨q,_⟩|⟨_,d,U,a,l,c,rfl,R,L,b⟩)
 .exact jO (hx.symm.trans q) T
 .simp only at R⊢;have c2:=b.size;have A:W w.heap.size #[.slice none 0 0,.int .i64 0] 60 m:=by show m.heap[w.heap.size]? =_;rw[b.block _ Z];exact Y.o
  have b2:=J (P.o.trans (b.mono Z));obtain⟨t,u⟩:=A.e2 0 1;have bf:=A.frozen;simp only[gH,gF,gG]at t u;have l3:=Ae A;have a6:=b5 d U m (.slice a l c) R;have a0:=J (a6.d8 ((O.refl kD m).alloc (.cells #[.slice a l c,.int .i64 j] 60)) (fun _ _ q=>q));have a8:D (AY g f.length r f m):=a1.o.d8 (X:=kD) ⟨b.os,b.tape,b.output,b.size,fun k i _=>b.block k i⟩ id;have X3:=J (W.new m #[.slice a l c,.int .i64 j] 60);clear b Y P S a1 R a6;go_wp2_with fail;refine(Na z U _ n j _ a0.o (fun k i=>by have:=(L k i).2;simp;omega) hy).mono ?_;rw[HC.o];rintro e E ⟨rfl,o⟩;have G:=(A.alloc _).d8 o id;have Q:=X3.o.d8 o id;have z4:=o.size;simp at z4;have b3:D (Below w.heap.size w E):=(b2.o.alloc Z _).trans (o.cX jX (fun _ q=>q.elim));have a7:=J (a0.o.d8 o (fun _ _ q=>q));have a9:D (AY g f.length r f E):=(a8.o.d8 ((O.refl kD m).alloc _) id).d8 o id;clear t u bf;obtain⟨t,u⟩:=G.e2 0 1;have bf:=G.frozen;obtain⟨b7,b8⟩:=Q.e2 0 1;have l4:=Ae G;have l5:=Ae Q;simp only[gH,gF,gG]at t u b7 b8;have c0:m.heap.size≠w.heap.size:=Z;clear o G A Q;go_wp2;go_region;go_wp2;refine gP (v:=.tuple #[.slice (some ⟨g,0,none⟩) f.length r,.agg #[.slice a l c,.int .i64 j],.int .i64 0,.int .i64 0]) (by simp[results,results13,go_sem,t,u]) rfl ?_;have I:O (fun k=>k=w.heap.size) E (((E.setCell ⟨w.heap.size,0,none⟩ (.slice a l c)).setCell ⟨w.heap.size,1,none⟩ (.int .i64 j)).drew):=(((O.refl _ E).t9 0 _).t9 1 _).drew;have c1:=I.size;refine⟨g,r,a,l,c,U,rfl,a9.o.d8 I Z,Z,a7.o.d8 I (fun k i q=>by have:=(L k i).1;omega),fun k i=>⟨by have:=(L k i).1;omega,by have:=(L k i).2;omega⟩,?_⟩;exact b3.o.trans (I.cX Z (fun k q=>Z))
def Fs(s:ByteArray)(l:List Tk):List Tk:=l++[⟨ByteArray.empty,s.size,0⟩]
def KO(s:ByteArray)(l:List Tk):List RF×St×List FS:=Ce (Fs s l) (2*(l.length+1)) (l.length+1) ⟨0,none,0,0⟩ [] []
def UD(s:ByteArray)(l:List Tk)(d:Nat)(a:List TF):List RF×CS:=BC (KO s l).1 d a 0 ((KO s l).1,⟨0,0⟩)
def WE(s:ByteArray)(l:List Tk)(d:Nat)(a:List TF):CS:=MK (KO s l).1 s.size (UD s l d a).2
def Il(w:World)(s:ByteArray)(l:List Tk)(h:List RF)(i:List FS)(x:St)(C:CS)(e:Ending)(a:World):Prop:=
 if C.cI=0 then
  ∃(b B g c:Nat) (U:Nat->Prop) (d f:Value),e=.returned (.tuple #[.pointer (some ⟨b,0,none⟩),.slice (some ⟨g,0,none⟩) (l.length+1) c,.int .i64 0,.int .i64 0])/\AO g (l.length+1) c (Fs s l) a/\w.heap.size<=g/\BZ b d f x.pl x.ca a/\w.heap.size<=b/\Cp B a d h/\w.heap.size<=B/\Bx B U a f i/\Below w.heap.size w a
 else e=.returned (.tuple #[.pointer none,.slice none 0 0,.int .i64 C.cI,.int .i64 C.l7])/\Below w.heap.size w a
def Mi(w:World)(s:ByteArray)(d:Nat)(c:List TF)(e:Ending)(a:World):Prop:=
 match BA s s.size 0 []with
 |.inl p=>e=.returned (.tuple #[.pointer none,.slice none 0 0,.int .i64 2,.int .i64 p])/\Below w.heap.size w a
 |.inr l=>match (KO s l).2.1.cB with
  |some b=>e=.returned (.tuple #[.pointer none,.slice none 0 0,.int .i64 3,.int .i64 b])/\Below w.heap.size w a
  |none=>Il w s l (UD s l d c).1 (KO s l).2.2 (KO s l).2.1 (WE s l d c) e a
structure Z4(pb wb B pl ca g n cap:Nat)(U:Nat->Prop)(toks:List Tk)(fv sv:Value)(fns:List RF)(fs:List FS)(fb:Nat)(fc:Array Value)(tv:Value)(takes:List Tk)(bv:Value)(body:List Nat)(c:CS)(w w':World):Prop where
 r:XN pb wb B pl ca g n cap U toks fv sv fns fs c w w'
 bY:W fb fc 53 w'
 eS:CE B w' tv takes
 dU:Ax B w' bv body
theorem Z4.call{j a B k f g n r}{U:Nat->Prop}{v b l z t i d s x u p o c q w y m}(h:Z4 j a B k f g n r U v b l z i d s x u p o c w y)(E:w.heap.size<=B)(G:w.heap.size<=a)(A:d≠a)(C:b.ownBlock≠some d)(F:RK j a B k f U b l t i q m)(e:DP a B b y m):Z4 j a B k f g n r U v b l t i d s x u p o q w m:=
 ⟨h.r.call E G F e,e.bY h.bY A C T,e.row h.eS h.r.k.wr h.r.k.fn T T T,e.row h.dU h.r.k.wr h.r.k.fn T T T⟩
theorem OC(l:List PT)(i:Nat)(h:i<l.length):tokAt (l.map Ao) i=Ao l[i]:=by unfold tokAt;rw[iL,gL h];rfl
theorem GZ(s)(hs:s.size<=4000)(w d a2)(a6:∀l,BA s s.size 0 []=.inr l->(KO s l).2.1.cB=none->TE d (KO s l).1 (KO s l).2.2 a2):
 Calls prog 9 #[.string s] w fun e w'=>Mi w s d a2 e w':=by
 have h4:decide ((4000:Int)<(s.size:Int))=false:=jX;unfold Mi;have h8:=J a6;clear a6;cases hV:BA s s.size 0 []with
 |inl p=> simp only;have HV:=J hV;clear hV;go_enter func9,ntmps9;go_wp2_with fail;refine(FK s hs _).mono ?_;rw[HV.o];rintro e o ⟨rfl,hb⟩;go_wp2;exact gP (v:=.tuple #[.pointer none,.slice none 0 0,.int .i64 2,.int .i64 p]) (by simp[results,results9,go_sem]) rfl ⟨rfl,hb⟩
 |inr l=>
  simp only;have a6:=h8.o l hV;have k5:=ID s s.size 0 [] l Z hV;simp only[gZ]at k5;have HV:=J hV;clear hV h8;obtain⟨P,hP⟩:∃P,KO s l=P:=⟨_,rfl⟩;have f1:Ce (Fs s l) (2*(l.length+1)) (l.length+1) ⟨0,none,0,0⟩ [] []=P:=hP;obtain⟨r,y,fs⟩:=P;obtain⟨n,hn⟩:∃n,l.length+1=n:=⟨_,rfl⟩;obtain⟨AL,f0⟩:∃a,BC r d a2 0 (r,⟨0,0⟩)=a:=⟨_,rfl⟩;have hA:UD s l d a2=AL:=by unfold UD;rw[hP];exact f0
  have hC:WE s l d a2=MK r s.size AL.2:=by unfold WE;rw[hA,hP]
  rw[hP]at a6;rw[hP,hA,hC];rw[hn]at f1;simp only at a6⊢;have h5:=J f1;have g6:D (BC r d (a2.drop 0) 0 (r,⟨0,0⟩)=AL):=f0;clear hP f1 hA hC f0;cases c4:y.cB with
  |some b=>
   have l5:decide ((0:Int)<=(b:Int))=true:=jY;have e7:=J c4;clear a6 c4;simp only;go_enter func9,ntmps9;go_wp2_with fail;refine(FK s hs _).mono ?_;rw[HV.o];rintro e o ⟨v,rfl,I,hb⟩;rw[hn]at I;obtain⟨va,B,E,rfl⟩:=Ad I;have b9:=Ag I;subst b9;obtain⟨g,rfl⟩:=Ap I Z;have d2:=(I.lt g rfl).1;have HT:D (AO g B E (Fs s l) o):=⟨Aq I (gV _),by simp[Fs];omega,Z⟩;have hz:(tokAt (Fs s l) (B-1)).sort=0:=by unfold tokAt Fs;rw[show B-1=l.length by omega,jI (gI _)];simp
   have b6:=J hb;have a0:=hb.size;clear I hb;go_wp2_with fail;refine(JA g B E (Fs s l) o HT.o Z hz).mono ?_;rw[h5.o];rintro e w2 ⟨fv,G,U,rfl,hp,a3,a8,ho⟩;simp only at hp a3 a8⊢;have g7:D (Below w.heap.size w w2):=b6.o.trans (ho.cX a0 (fun _ q=>q.elim));simp only[e7.o,F7];go_wp2;exact gP (v:=.tuple #[.pointer none,.slice none 0 0,.int .i64 3,.int .i64 b]) (by simp[results,results9,go_sem]) rfl ⟨rfl,g7.o⟩
  |none=>
   have hy:=a6 c4;have k4:=hy.len;have f6:=hy.cR;have HY:=J hy;have e7:=J c4;clear a6 c4 hy;simp only;obtain⟨C,F⟩:∃c,MK r s.size AL.2=c:=⟨_,rfl⟩;rw[F];have d1:=J F;clear F;go_enter func9,ntmps9;go_wp2_with fail;refine(FK s hs _).mono ?_;rw[HV.o];rintro e o ⟨v,rfl,I,hb⟩;rw[hn]at I;obtain⟨va,B,E,rfl⟩:=Ad I;have b9:=Ag I;subst b9;obtain⟨g,rfl⟩:=Ap I Z;have d2:=(I.lt g rfl).1;have HT:D (AO g B E (Fs s l) o):=⟨Aq I (gV _),by simp[Fs];omega,Z⟩;have hz:(tokAt (Fs s l) (B-1)).sort=0:=by unfold tokAt Fs;rw[show B-1=l.length by omega,jI (gI _)];simp
   have b6:=J hb;have a0:=hb.size;clear I hb;go_wp2_with fail;refine(JA g B E (Fs s l) o HT.o Z hz).mono ?_;rw[h5.o];rintro e w2 ⟨fv,G,U,rfl,hp,a3,a8,ho⟩;simp only at hp a3 a8⊢;have g7:D (Below w.heap.size w w2):=b6.o.trans (ho.cX a0 (fun _ q=>q.elim));simp only[e7.o,F7];have R0:D (XN o.heap.size w2.heap.size o.heap.size y.pl y.ca g B E U (Fs s l) fv G r fs ⟨0,0⟩ o (w2.alloc (.cells #[.int .i64 0,.int .i64 0] 82))):=by have h1:=(O.refl kD w2).alloc (.cells #[.int .i64 0,.int .i64 0] 82);exact⟨⟨hp.bY.d8 h1 id,a8.s9 h1,a3.s9 h1,W.new _ _ _⟩,(HT.o.d8 ho id).d8 h1 id,ho.dA h1⟩
   have c3:o.heap.size<=w2.heap.size:=ho.size;obtain⟨fa,fl,fc,rfl⟩:∃a l c,fv=.slice a l c:=by obtain⟨_,h,_⟩:=a8;exact Ad h
   have k3:fl=r.length:=by obtain⟨_,h,_⟩:=a8;exact Ag h
   subst k3;have S0:D (GH r r 0):=⟨rfl,fun j _ _=>⟨rfl,rfl,rfl,rfl,fun _=>rfl⟩⟩;clear hp a3 a8 ho HT;go_wp2;generalize w2.heap.size=R at*;go_loopw[12] (fun i wr=>∃(k:Nat) (u:List RF) (c:CS),k<=r.length/\i=.int .i64 k/\D (XN o.heap.size R o.heap.size y.pl y.ca g B E U (Fs s l) (.slice fa r.length fc) G u fs c o wr)/\D (GH r u k)/\D (BC r d (a2.drop k) k (u,c)=AL)) (fun i _=>r.length-(intOf i).toNat)
   case atStart=>exact⟨0,r,_,Z,rfl,R0,S0,g6⟩
   case round=>
    clear R0 S0 g6;obtain⟨k,u,c,hk,rfl,x,L,HC⟩:=hrel;have p0:=x.o.k.pr.bY.cell 0;simp at p0;have lp:=Ae x.o.k.pr;have lw:=Ae x.o.k.wr;by_cases f9:k<r.length
    .have i8:k<a2.length:=Z;have a9:=HY.o.fr k f9 i8;have c7:k<u.length:=by rw[L.o.len];exact f9
     have b8:=L.o.eq k c7 f9;have g2:=RO r d a2 k i8 (u,c);rw[HC.o]at g2;generalize a2[k]=t at*;obtain⟨M,rfl⟩:∃M,fa=some ⟨M,0,none⟩:=by obtain⟨_,h,_⟩:=x.o.k.fn;exact Ap h (by rw[L.o.len];omega)
     have l3:M<wr.heap.size:=by obtain⟨_,h,_⟩:=x.o.k.fn;exact(h.lt M rfl).2
     obtain⟨tv,bv,vv,hc,a4,c5,c0⟩:=x.o.k.fn.get c7;have f2:u[k].name=Ao t.name:=b8.1.trans a9.name;have f3:u[k].cG=t.u9.map Ao:=b8.2.1.trans a9.cG;have f4:CJ (Dp k d fs) u[k].cJ t.cF:=by rw[b8.2.2.1];exact a9.cJ
     have f5:u[k].t8=[]:=(b8.2.2.2.2 (gI _)).trans a9.t8;have i1:u[k].cJ.length<=4001:=by rw[b8.2.2.1];exact a9.fY
     have k0:=J (YR c7 f5);have l6:=a9.fJ;generalize u[k]=f at hc a4 c5 c0 f2 f3 f4 f5 i1;obtain⟨ta,tl,tc,rfl⟩:=Ad a4;have d6:=Ag a4;subst d6;obtain⟨ba,bl,bc,rfl⟩:=Ad c5;have k2:=Ag c5;subst k2;obtain⟨xa,xl,xc,rfl⟩:=Ad c0;have e0:=hc 0 Z;have e1:=hc 1 Z;have e2:=hc 2 Z;have e3:=hc 3 Z;have e4:=hc 4 Z;have e5:=hc 5 Z;have e6:=hc 6 Z;simp only[EH,gH,gF,gG,gX]at e0 e1 e2 e3 e4 e5 e6;have l9:(k:Int)<(r.length:Int):=Z;have d5:wr.heap.size≠R:=Z;have d4:Value.ownBlock (.slice (some ⟨M,0,none⟩) r.length fc)≠some wr.heap.size:=fun q=>by simp[Value.ownBlock]at q;omega
     have S:D (Z4 o.heap.size R o.heap.size y.pl y.ca g B E U (Fs s l) (.slice (some ⟨M,0,none⟩) r.length fc) G u fs wr.heap.size #[.string f.name.d9,.int .i64 f.name.pos,.int .i64 f.name.sort,.slice ta f.cG.length tc,.slice ba f.cJ.length bc,.int .i64 f.br,.slice xa xl xc] (.slice ta f.cG.length tc) f.cG (.slice ba f.cJ.length bc) f.cJ c o (wr.alloc (.cells #[.string f.name.d9,.int .i64 f.name.pos,.int .i64 f.name.sort,.slice ta f.cG.length tc,.slice ba f.cJ.length bc,.int .i64 f.br,.slice xa xl xc] 53))):=by have h1:=(O.refl kD wr).alloc (.cells #[.string f.name.d9,.int .i64 f.name.pos,.int .i64 f.name.sort,.slice ta f.cG.length tc,.slice ba f.cJ.length bc,.int .i64 f.br,.slice xa xl xc] 53);exact⟨⟨x.o.k.s9 h1,x.o.tk.d8 h1 id,x.o.d8.dA h1⟩,W.new _ _ _,Ac a4 h1 (fun _ _ q=>q),Ac c5 h1 (fun _ _ q=>q)⟩
     have h6:=J g2;have g9:=J f2;have h0:=J f3;have j6:=J f4;have f8:∀d0,k<(wv u k d0).length:=fun d0=>by rw[DX];exact c7
     have k8:∀d0,(wv u k d0).length<=4001:=fun d0=>by rw[DX,L.o.len];exact f6
     have b7:u.length<=4001:=by rw[L.o.len];exact f6
     clear hc a4 c5 c0 g2 HC x a9 b8 f2 f3 f4 f5;have h3:D (((f.name.pos:Nat):Int)=((t.name.l7:Nat):Int)):=by rw[g9.o];rfl
     obtain⟨c1,a7⟩:∃c1,(if 12<=k then Be 4 t.name.l7 c else c)=c1:=⟨_,rfl⟩;obtain⟨c9,H⟩:∃c9,(if Bz (r.map fun f=>f.name.d9) f.name.d9 0=(k:Int)then c1 else Be 5 t.name.l7 c1)=c9:=⟨_,rfl⟩;have H9:D (FM r k t c=c9):=by show _=_;unfold FM;rw[show t.name.d9=f.name.d9 by rw[g9.o];rfl,a7,H]
     have g8:=J H;clear H;by_cases h9:12<=k;focus
      rw[jH h9]at a7;have l2:decide ((12:Int)<=(k:Int))=true:=jX;have e8:=J a7;clear a7;go_wp2_with fail;obtain⟨W0,e9⟩:∃W0,wr.alloc (.cells #[.string f.name.d9,.int .i64 f.name.pos,.int .i64 f.name.sort,.slice ta f.cG.length tc,.slice ba f.cJ.length bc,.int .i64 f.br,.slice xa xl xc] 53)=W0:=⟨_,rfl⟩;rw[e9]at S⊢;obtain⟨b0,b1,X,Y⟩:=S.o.bY.e4 0 1 3 4;have b5:=Ae S.o.bY;simp only[gH,gF,gG]at b0 b1 X Y;have g5:=Ae S.o.r.k.pr;rw[h3.o];refine(Ch R 4 t.name.l7 c _ S.o.r.k.wr).mono ?_;rintro e w3 ⟨rfl,j0,g0⟩;have V:=J (S.o.call (gI _) c3 d5 d4 (S.o.r.k.add j0 g0) (DP.cV g0));rw[e8.o]at V;clear j0 g0 b0 b1 X Y b5;obtain⟨b0,b1,X,Y⟩:=V.o.bY.e4 0 1 3 4;have b5:=Ae V.o.bY;simp only[gH,gF,gG]at b0 b1 X Y;have g5:=Ae V.o.r.k.pr;go_wp2_with fail
     rotate_left;focus
      rw[jG h9]at a7;have l2:decide ((12:Int)<=(k:Int))=false:=jX;have e8:=J a7;clear a7;go_wp2_with fail;obtain⟨W0,e9⟩:∃W0,wr.alloc (.cells #[.string f.name.d9,.int .i64 f.name.pos,.int .i64 f.name.sort,.slice ta f.cG.length tc,.slice ba f.cJ.length bc,.int .i64 f.br,.slice xa xl xc] 53)=W0:=⟨_,rfl⟩;rw[e9]at S⊢;obtain⟨b0,b1,X,Y⟩:=S.o.bY.e4 0 1 3 4;have b5:=Ae S.o.bY;simp only[gH,gF,gG]at b0 b1 X Y;have g5:=Ae S.o.r.k.pr;have V:=S;rw[e8.o]at V
     all_goals
      refine(DI o.heap.size o.heap.size y.pl y.ca _ G u f.name.d9 _ V.o.r.k.pr V.o.r.k.fn b7).mono ?_;rw[L.o.bX];rintro e w4 ⟨rfl,Q⟩;have Q:=Q.symm;subst Q;have H:=g8.o;clear g8;by_cases d8:Bz (r.map fun f=>f.name.d9) f.name.d9 0=(k:Int);focus
       rw[jH d8]at H;have l1:((Bz (r.map fun f=>f.name.d9) f.name.d9 0:Int) !=(k:Int))=false:=by simp[d8]
       have G9:=V;rw[H]at G9;clear H
      rotate_left;focus
       rw[jG d8]at H;have l1:((Bz (r.map fun f=>f.name.d9) f.name.d9 0:Int) !=(k:Int))=true:=by simp[d8]
       have d1:=J H;clear H;go_wp2_with fail;rw[h3.o];refine(Ch R 5 t.name.l7 c1 _ V.o.r.k.wr).mono ?_;rintro e w5 ⟨rfl,j1,g1⟩;have G9:=J (V.o.call (gI _) c3 d5 d4 (V.o.r.k.add j1 g1) (DP.cV g1));rw[d1.o]at G9;clear j1 g1 b0 b1 X Y b5;obtain⟨b0,b1,X,Y⟩:=G9.o.bY.e4 0 1 3 4;have b5:=Ae G9.o.bY;simp only[gH,gF,gG]at b0 b1 X Y;have g5:=Ae G9.o.r.k.pr
     all_goals
      clear b0 b1 X Y b5;obtain⟨vp,cp,d7⟩:∃a b,CI t.u9 ([],c9)=(a,b):=⟨_,_,rfl⟩;have b9:=Mo t.u9 ([],c9);rw[d7]at b9;simp only[gZ,iO]at b9;have m1:f.cG.length=t.u9.length:=by rw[h0.o];simp
      have h2:D (CI (t.u9.drop 0) ([],c9)=(vp,cp)):=d7;have d9:=G9;rw[<-k0.o]at d9;have j5:D (BC r d (a2.drop (k+1)) (k+1) (wv u k (Gi r d 1 t.cF (vp,cp)).1,(Gi r d 1 t.cF (vp,cp)).2)=AL):=by have:=h6.o;unfold Ey at this;simp only[H9.o,d7]at this;exact this.symm
      clear d7 h6;go_wp2;go_loopw[14] (fun j l4=>∃(m:Nat) (N:List ByteArray) (c2:CS),m<=f.cG.length/\j=.int .i64 m/\D (Z4 o.heap.size R o.heap.size y.pl y.ca g B E U (Fs s l) (.slice (some ⟨M,0,none⟩) r.length fc) G (wv u k N) fs wr.heap.size #[.string f.name.d9,.int .i64 f.name.pos,.int .i64 f.name.sort,.slice ta f.cG.length tc,.slice ba f.cJ.length bc,.int .i64 f.br,.slice xa xl xc] (.slice ta f.cG.length tc) f.cG (.slice ba f.cJ.length bc) f.cJ c2 o l4)/\N.length=m/\D (CI (t.u9.drop m) (N,c2)=(vp,cp))) (fun j _=>f.cG.length-(intOf j).toNat)
      case atStart=>exact⟨0,[],c9,Z,rfl,d9,rfl,h2⟩
      case round=>
       clear G9 d9 h2;obtain⟨m,N,c2,hm,rfl,K,l0,HQ⟩:=hrel;obtain⟨X,Y⟩:=K.o.bY.e2 3 4;simp only[gH,gF,gG]at X Y;have b5:=Ae K.o.bY;have m3:=Ae K.o.r.k.pr;have m4:=Ae K.o.r.k.wr;by_cases k7:m<f.cG.length
       .obtain⟨gt,rfl⟩:=Ap K.o.eS Z;obtain⟨t0,t1,t2⟩:=Et K.o.eS k7;have m2:=(K.o.eS.lt gt rfl).2;have i9:m<t.u9.length:=Z;have a3:=RR t.u9 m i9 (N,c2);rw[HQ.o]at a3;have g3:tokAt f.cG m=Ao t.u9[m]:=by rw[h0.o];exact OC _ _ i9
        generalize tokAt f.cG m=q at t0 t1 t2 g3;have j9:D (CI (t.u9.drop (m+1)) (N++[q.d9],Dk N q c2)=(vp,cp)):=by rw[g3];exact a3.symm
        have k6:(m:Int)<(f.cG.length:Int):=Z;have c0:((wv u k N)[k]'(f8 N)).t8=N:=Tw (f8 N);have h7:=J c0;clear a3 g3 HQ c0;go_wp2_with fail;refine(Jy o.heap.size R o.heap.size y.pl y.ca k U _ G (wv u k N) fs c2 q _ K.o.r.k (f8 _) (k8 _) (by rw[h7.o];omega)).mono ?_;rw[Tv,h7.o];rintro e w6 ⟨rfl,i6,i2⟩;have j7:=J (K.o.call (gI _) c3 d5 d4 i6 i2);clear i6 i2 K;go_wp2_with fail;exact⟨⟨m+1,_,_,Z,by go_num,j7,by simp[l0],j9⟩,by simp[intOf];omega⟩
       .have e:m=t.u9.length:=Z;have hq:N=vp/\c2=cp:=by have:=HQ.o;rw[e,jM]at this;simpa[CI]using this
        obtain⟨rfl,rfl⟩:=hq;have k6:decide ((m:Int)<(f.cG.length:Int))=false:=jX;clear HQ;go_wp2_with fail;refine(Wk d o.heap.size R o.heap.size y.pl y.ca k 1 U _ G _ u fs f.cJ t.cF N c2 _ K.o.r.k K.o.dU j6.o c7 b7 HY.o.fP Z i1 HY.o.gA (by have:=HY.o.dd;omega)).mono ?_;rw[L.o.fS];rintro e w7 ⟨rfl,i7,i3⟩;have j8:=J (K.o.call (gI _) c3 d5 d4 i7 i3);clear i7 i3 K;go_wp2_with fail;exact⟨⟨k+1,_,_,Z,by go_num,j8.o.r,L.o.next _,j5⟩,by simp[intOf];omega⟩
    .have e:k=r.length:=Z;have k1:AL=(u,c):=by have:=HC.o;rw[e,k4,jM]at this;exact this.symm
     subst k1;have m0:decide ((k:Int)<(r.length:Int))=false:=jX;have b7:u.length<=4001:=by rw[L.o.len];exact f6
     have F:=d1.o;unfold MK at F;have d3:=CR (r.map fun f=>f.name.d9) ⟨#[109,97,105,110]⟩ 0;clear HC d1;simp only at F;by_cases g4:0<=Bz (r.map fun f=>f.name.d9) ⟨#[109,97,105,110]⟩ 0
     .obtain⟨i,hi⟩:∃i:Nat,Bz (r.map fun f=>f.name.d9) ⟨#[109,97,105,110]⟩ 0=i:=⟨(Bz (r.map fun f=>f.name.d9) ⟨#[109,97,105,110]⟩ 0).toNat,Z⟩;have f7:i<r.length:=by have:=d3.2.2;simp only[iJ]at this;omega
      have i5:i<u.length:=by rw[L.o.len];exact f7
      have j2:=L.o.eq i i5 f7;obtain⟨M,rfl⟩:∃M,fa=some ⟨M,0,none⟩:=by obtain⟨_,h,_⟩:=x.o.k.fn;exact Ap h Z
      have l3:M<wr.heap.size:=by obtain⟨_,h,_⟩:=x.o.k.fn;exact(h.lt M rfl).2
      obtain⟨tv,bv,vv,i0,a4,_,_⟩:=x.o.k.fn.get i5;have e3:=i0 3 Z;simp only[EH,gH,gF,gG]at e3;obtain⟨ta,tl,tc,rfl⟩:=Ad a4;have d6:=Ag a4;have i4:(((r.map fun f=>f.cG.length)[i]?).getD 0:Nat)=tl:=by rw[iL,gL f7,d6,j2.2.1];rfl
      rw[hi]at F;simp only[Int.toNat_natCast,i4]at F;have l8:(i:Int)<(r.length:Int):=Z;have l7:decide ((i:Int)<0)=false:=jY;clear i0 a4 j2 i4 g4 d3 d6;by_cases j3:tl=0
      .rw[jH ⟨Z,j3⟩]at F;have k9:decide ((0:Int)<(tl:Int))=false:=jX;go_wp2_with fail;refine(DI o.heap.size o.heap.size y.pl y.ca _ G u ⟨#[109,97,105,110]⟩ _ x.o.k.pr x.o.k.fn b7).mono ?_;rw[L.o.bX,hi];rintro e w9 ⟨rfl,Q⟩;subst Q;have z:D (XN o.heap.size R o.heap.size y.pl y.ca g B E U (Fs s l) (.slice (some ⟨M,0,none⟩) r.length fc) G u fs C o w9):=by rw[<-F];exact x.o
       clear F;have r0:=W.cell z.o.k.wr 0;have r1:=W.cell z.o.k.wr 1;have j4:=Ae z.o.k.wr;simp only[gH,gF,gG]at r0 r1;have a5:D (∀W',O kD w9 W'->Below w.heap.size w W'):=fun W' hW=>b6.o.trans ((z.o.d8.dA hW).cX a0 (fun _ q=>q.elim))
       by_cases A:C.cI=0
       .have c6:((C.cI:Int) !=0)=false:=by simp[A]
        have a1:=J A;clear A;go_wp2_with fail;refine gP (v:=.tuple #[.pointer (some ⟨o.heap.size,0,none⟩),.slice (some ⟨g,0,none⟩) B E,.int .i64 0,.int .i64 0]) (by simp[results,results9,go_sem]) rfl ?_;unfold Il;rw[jH a1.o,hn];exact⟨o.heap.size,o.heap.size,g,E,U,_,G,rfl,z.o.tk,d2,z.o.k.pr,a0,z.o.k.fn,a0,z.o.k.st,a5.o _ (O.refl _ _)⟩
       .have c6:((C.cI:Int) !=0)=true:=by simp[A]
        have a1:=J A;clear A;go_wp2_with fail;go_region;go_wp2;refine gP (v:=.tuple #[.pointer none,.slice none 0 0,.int .i64 C.cI,.int .i64 C.l7]) (by simp[results,results9,go_sem]) rfl ?_;unfold Il;rw[jG a1.o];exact⟨rfl,a5.o _ jV⟩
      .rw[jG (fun q=>j3 q.2)]at F;have H:=F.symm;have k9:decide ((0:Int)<(tl:Int))=true:=jX;clear F;go_wp2_with fail;refine(DI o.heap.size o.heap.size y.pl y.ca _ G u ⟨#[109,97,105,110]⟩ _ x.o.k.pr x.o.k.fn b7).mono ?_;rw[L.o.bX,hi];rintro e w8 ⟨rfl,Q⟩;have Q:=Q.symm;subst Q;go_wp2_with fail;refine(Ch R 6 s.size c _ x.o.k.wr).mono ?_;rintro e w9 ⟨rfl,c8,b2⟩;have z:D (XN o.heap.size R o.heap.size y.pl y.ca g B E U (Fs s l) (.slice (some ⟨M,0,none⟩) r.length fc) G u fs C o w9):=by rw[H];exact x.o.call (gI _) c3 (x.o.k.add c8 b2) (DP.cV b2)
       clear c8 b2 p0 lp lw x H;have r0:=W.cell z.o.k.wr 0;have r1:=W.cell z.o.k.wr 1;have j4:=Ae z.o.k.wr;simp only[gH,gF,gG]at r0 r1;have a5:D (∀W',O kD w9 W'->Below w.heap.size w W'):=fun W' hW=>b6.o.trans ((z.o.d8.dA hW).cX a0 (fun _ q=>q.elim))
       by_cases A:C.cI=0
       .have c6:((C.cI:Int) !=0)=false:=by simp[A]
        have a1:=J A;clear A;go_wp2_with fail;refine gP (v:=.tuple #[.pointer (some ⟨o.heap.size,0,none⟩),.slice (some ⟨g,0,none⟩) B E,.int .i64 0,.int .i64 0]) (by simp[results,results9,go_sem]) rfl ?_;unfold Il;rw[jH a1.o,hn];exact⟨o.heap.size,o.heap.size,g,E,U,_,G,rfl,z.o.tk,d2,z.o.k.pr,a0,z.o.k.fn,a0,z.o.k.st,a5.o _ (O.refl _ _)⟩
       .have c6:((C.cI:Int) !=0)=true:=by simp[A]
        have a1:=J A;clear A;go_wp2_with fail;go_region;go_wp2;refine gP (v:=.tuple #[.pointer none,.slice none 0 0,.int .i64 C.cI,.int .i64 C.l7]) (by simp[results,results9,go_sem]) rfl ?_;unfold Il;rw[jG a1.o];exact⟨rfl,a5.o _ jV⟩
     .have hi:Bz (r.map fun f=>f.name.d9) ⟨#[109,97,105,110]⟩ 0= -1:=by have:=d3.2.1;omega
      rw[jG (fun q=>g4 q.1)]at F;have H:=F.symm;clear F g4 d3;go_wp2_with fail;refine(DI o.heap.size o.heap.size y.pl y.ca _ G u ⟨#[109,97,105,110]⟩ _ x.o.k.pr x.o.k.fn b7).mono ?_;rw[L.o.bX,hi];rintro e w8 ⟨rfl,Q⟩;have Q:=Q.symm;subst Q;go_wp2_with fail;refine(Ch R 6 s.size c _ x.o.k.wr).mono ?_;rintro e w9 ⟨rfl,c8,b2⟩;have z:D (XN o.heap.size R o.heap.size y.pl y.ca g B E U (Fs s l) (.slice fa r.length fc) G u fs C o w9):=by rw[H];exact x.o.call (gI _) c3 (x.o.k.add c8 b2) (DP.cV b2)
      clear c8 b2 p0 lp lw x H;have r0:=W.cell z.o.k.wr 0;have r1:=W.cell z.o.k.wr 1;have j4:=Ae z.o.k.wr;simp only[gH,gF,gG]at r0 r1;have a5:D (∀W',O kD w9 W'->Below w.heap.size w W'):=fun W' hW=>b6.o.trans ((z.o.d8.dA hW).cX a0 (fun _ q=>q.elim))
      by_cases A:C.cI=0
      .have c6:((C.cI:Int) !=0)=false:=by simp[A]
       have a1:=J A;clear A;go_wp2_with fail;refine gP (v:=.tuple #[.pointer (some ⟨o.heap.size,0,none⟩),.slice (some ⟨g,0,none⟩) B E,.int .i64 0,.int .i64 0]) (by simp[results,results9,go_sem]) rfl ?_;unfold Il;rw[jH a1.o,hn];exact⟨o.heap.size,o.heap.size,g,E,U,_,G,rfl,z.o.tk,d2,z.o.k.pr,a0,z.o.k.fn,a0,z.o.k.st,a5.o _ (O.refl _ _)⟩
      .have c6:((C.cI:Int) !=0)=true:=by simp[A]
       have a1:=J A;clear A;go_wp2_with fail;go_region;go_wp2;refine gP (v:=.tuple #[.pointer none,.slice none 0 0,.int .i64 C.cI,.int .i64 C.l7]) (by simp[results,results9,go_sem]) rfl ?_;unfold Il;rw[jG a1.o];exact⟨rfl,a5.o _ jV⟩
theorem UE(s y):Fs s ((Dc s s.size y).cL.map Ao)=(Av s y).map Ao:=by unfold Fs Av;rw[jP,List.map_singleton,Je];rfl
structure Z3(s:ByteArray)(y:Sc):Prop where
 ok:TksOk s.size (Av s y)
 fV:DigOk (Av s y)
 len:(Av s y).length<=4001
 lex:BA s s.size 0 []=.inr ((Dc s s.size y).cL.map Ao)
 dF:((Dc s s.size y).cL.map Ao).length+1=(Av s y).length
theorem PG{s y}(d:s.size<=4000)(h:AE s s.size 0 x0=.inr y):Z3 s y:=by
 have a:BA s s.size 0 []=.inr ((Dc s s.size y).cL.map Ao):=by rw[Ku];have b:AE s s.size 0 ⟨[],false,0,0⟩=.inr y:=h;rw[b];rfl
 have c:((Dc s s.size y).cL.map Ao).length+1=(Av s y).length:=by simp[Av]
 have:=ID s s.size 0 [] _ (gV _) a;simp only[gZ]at this;exact⟨RU h,Fz h,Z,a,c⟩
theorem Nk(s)(d:4000<s.size)(c:s.size<=maxLen)(w):Calls prog 13 #[.string s] w fun e j=>e=.returned (.tuple #[.slice none 0 0,Vj,.int .i64 1,.int .i64 0])/\Below w.heap.size w j:=by have g:=J d;have f:=J c;clear d c;go_enter func13,ntmps13;go_wp2_with fail;refine(QH s g.o f.o _).mono ?_;rintro e l ⟨rfl,b⟩;have b:=b.symm;subst b;have a:=W.new w #[.slice none 0 0,.int .i64 0] 60;obtain⟨h,i⟩:=a.e2 0 1;have k:=a.frozen;simp only[gH,gF,gG]at h i;clear a;go_wp2;refine gP (v:=.tuple #[.slice none 0 0,Vj,.int .i64 1,.int .i64 0]) (by simp[results,results13,go_sem]) rfl ⟨rfl,?_⟩;exact(Below.refl w.heap.size w).alloc (gI _) _
theorem YA(s)(d:4000<s.size)(a:s.size<=maxLen)(w):
 Calls prog 9 #[.string s] w fun e b=>e=.returned (.tuple #[.pointer none,.slice none 0 0,.int .i64 1,.int .i64 0])/\b=w:=by
 unfold maxLen at a;have c:decide ((4000:Int)<(s.size:Int))=true:=jX;go_enter func9,ntmps9;go_wp2;exact gP (v:=.tuple #[.pointer none,.slice none 0 0,.int .i64 1,.int .i64 0]) (by simp[results,results9,go_sem]) rfl ⟨rfl,rfl⟩
theorem Tryz.textOf(a s p w):(Instr.field 112 (.agg #[.int .i64 a,.string s,.int .i64 p]) 1).run prog w=.ok (.string s) w:=jW
theorem Below.quiet{w a}(h:Below w.heap.size w a):O kD w a:=⟨h.os,h.tape,h.output,h.size,fun k b _=>h.block k b⟩
theorem Vv(t w b)(l:w.cell? ⟨4,0,none⟩=some b)(i:b=.nilIface\/∃n m,b=.iface n m)
 (k:t=⟨#[]⟩\/t=⟨#[48]⟩\/t=⟨#[49]⟩\/t=⟨#[50]⟩\/t=⟨#[51]⟩):
 Calls prog 195 #[.string t] w fun e a=>∃x,e=.returned (.tuple #[.int .i64 (JX ⟨2,t,0⟩),x])/\O kD w a:=by
 have c:∀(d:Nat),t.size<=18->Lib.atoi t.data.toList=some (d:Int)->JX ⟨2,t,0⟩=d->Calls prog 195 #[.string t] w fun e a=>∃x,e=.returned (.tuple #[.int .i64 (JX ⟨2,t,0⟩),x])/\O kD w a:=by intro d j h f;rw[f];refine(Tryz.strconv_Atoi t d j h w).mono ?_;rintro e a ⟨rfl,u,rfl⟩;exact⟨_,rfl,Below.quiet (Lib.bytesWorld_below _ _ _)⟩
 rcases k with h|h|h|h|h
 .have f:JX ⟨2,t,0⟩=0:=by subst h;decide+kernel
  rw[f];refine(Tryz.strconv_Atoi_err t (by subst h;decide) (by subst h;decide) b w l i).mono ?_;rintro e a ⟨N,rfl,_,_,g⟩;exact⟨_,rfl,Below.quiet g⟩
 .exact c 0 (by subst h;decide) (by subst h;decide) (by subst h;decide+kernel)
 .exact c 1 (by subst h;decide) (by subst h;decide) (by subst h;decide+kernel)
 .exact c 2 (by subst h;decide) (by subst h;decide) (by subst h;decide+kernel)
 .exact c 3 (by subst h;decide) (by subst h;decide) (by subst h;decide+kernel)
theorem WB{l i}(h:i<l.length):Aj l i∈l:=by unfold Aj;rw[gL h];exact gQ h
theorem UW{a x}(b:DigOk a)(d:x.next<a.length):
 (AG a 2 x).d9=⟨#[]⟩\/(AG a 2 x).d9=⟨#[48]⟩\/(AG a 2 x).d9=⟨#[49]⟩\/(AG a 2 x).d9=⟨#[50]⟩\/(AG a 2 x).d9=⟨#[51]⟩:=by
 unfold AG;split
 .rename_i c;exact .inr (b _ (WB d) c)
 .exact .inl rfl
theorem TY(l C)(N:4<l)(a)(B:C.cell? ⟨4,0,none⟩=some a)(s:a=.nilIface\/∃S R,a=.iface S R):Cc l C:=by
 intro b g n M x c w V o v d P;have i:=UW (x:=x) d.2.2.2 (by have:=d.2.1;omega);have r:JX (AG c 2 x)=JX ⟨2,(AG c 2 x).d9,0⟩:=rfl;rw[r];obtain⟨t,f⟩:∃t,AG c 2 x=t:=⟨_,rfl⟩;obtain⟨y,k⟩:∃y,Af c n 2 x=y:=⟨_,rfl⟩;rw[f]at i;rw[f,k];have h:w.cell? ⟨4,0,none⟩=some a:=by rw[o.cell N];exact B
 have K:=J f;have L:=J k;have F:=J i;clear f k i r;go_enter func193,ntmps193;go_wp2_with fail;refine(AH b g n M 2 x c _ v d P).mono ?_;rw[K.o,L.o];rintro e U ⟨rfl,A,j⟩;have p:U.cell? ⟨4,0,none⟩=some a:=by have Q:4<w.heap.size:=Lib.lt_of_cell h;rw[gJ (w:=w) (j.block 4 Q Z)];exact h
 have I:=J A;have H:=J j;have E:=J p;have G:=J s;clear A j p v d s h B o;unfold WC;have X:=Tryz.textOf t.kind t.d9 t.l7;go_wp2_with(go_at_call 195;refine(Vv t.d9 _ a E.o G.o F.o).mono ?_);rintro e Y ⟨z,rfl,u⟩;have m:=J u;clear u;go_wp2;go_ret;exact⟨rfl,I.o.d8 m.o id,H.o.trans (m.o.mono (fun _ _ q=>q.elim))⟩

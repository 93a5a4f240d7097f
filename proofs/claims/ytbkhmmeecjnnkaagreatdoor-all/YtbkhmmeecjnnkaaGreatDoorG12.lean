/- Part of the proof. -/
import Derived.Test.YtbkhmmeecjnnkaaGreatDoorG07
import Derived.Test.YtbkhmmeecjnnkaaGreatDoorG11
set_option maxRecDepth 100000
set_option maxHeartbeats 4000000
namespace Go.Proofs.YtbkhmmeecjnnkaaGreatDoor
open Go.RowKit Go.Maps Go.Proofs.Tryz
open Option renaming none->Z,some->T
open Value renaming int->G,slice->Y,pointer->Z',string->Y',tuple->P',bool->O',agg->N',ownBlock->L'
open IntKind renaming i64->A
open Ending renaming returned->T'
open Obj renaming cells->R'
open List renaming length->L
open World renaming cell?->K',ownsRow->J'
open Go renaming World->I',Value->H',Calls->F',maxLen->E',results->zz
open Go.Proofs.Tryz renaming prog->zy
open Go.RowKit renaming Below->zx,intOf->zm
open _root_ renaming Nat->M,Int->zw,False->zv,rfl->Q,decide->zu
open Bool renaming true->zt,false->zr
open Or renaming inl->zo,inr->zn
variable {q1:Cg}{q3:Bd}{q2:Cf}{U:CQ}{p9:List DX}{y2:Df}{B C R X p0 v0:Nat}{z1:Nat->Prop}{y7:Sv}{q0:TypeId}{V z0:Value}{P y0:World}
def Fx(f:nD):nD:=⟨f.I,f.y,f.m,[]⟩
theorem G7(P i):CO (P.map Fx) i=Fx (CO P i):=by unfold CO;rw[AI];cases P[i]? <;>rfl
theorem mE(P t):Kp (P.map Fx) t=Kp P t:=by unfold Kp K7;rw[G7];rfl
theorem Jd.bare(h:Jd U):Jd<|U.map Fx:=
 ⟨by rw[AG];exact h.xE,λi=>by rw[G7];exact h.y i,λi=>by rw[G7];exact h.yB i,λi=>by rw[G7];exact Ar _,λi _ s a=>by rw[G7]at a;cases a⟩
theorem NZ.bare(h:NZ U):NZ<|U.map Fx:=
 ⟨λi=>by rw[G7];exact h.I i,λi j=>by have:=h.y i j;unfold K7 at this|-;rw[G7];exact this⟩
theorem JW.bare{t}(h:JW U t):JW (U.map Fx) t:=by unfold JW at h|-;rw[AG,G7];exact h
def Xz(x:M):Tg:=⟨(Gr x).1,(Gr x).2.1,(Gr x).2.2⟩
def EC(P:CQ)(x:M):Cd:=⟨(Kp P<|Xz x).toArray⟩
theorem Zd(j:L U<=12)(c:∀f,L (CO U f).y<=12)(l:B<=4000)(h:Ir U B C):JW U<|Xz C:=by
 rcases h with(⟨f,i,a,b,rfl⟩|⟨n,k,a,b,d,rfl⟩)|⟨g,a,rfl⟩
 have:=c f;have e:Gr (vN f i)=(0,f,i):=by grind[Gr,vN]
 unfold Xz;rw[e];exact zo ⟨Q,a,b⟩;have e:Gr (pN n k)=(1,n,k):=by grind[Gr,pN]
 unfold Xz;rw[e];exact zn<|zo ⟨Q,by grind,by grind⟩;have e:Gr (fN g)=(2,g,0):=by grind[Gr,fN]
 unfold Xz;rw[e];exact zn<|zn ⟨Q,a,Q⟩
structure Gg(P:CQ)(S:Sy)(fv:H')(mn pn cn pb eb rb:M)(w:I'):Prop where
 pl:Ds 0 w fv<|P.map Fx
 pm:∃bk,En Mj Mi pb bk w/\(∀c,(∃k,bk c=T k)↔Dh P pn c)/\∀c k,bk c=T k->DV k (S.I c) w
 em:∃bk,En Mj Mi eb bk w/\(∀n,(∃k,bk n=T k)↔1<=n/\n<=cn)/\∀n k,bk n=T k->DV k (S.E n) w
 rs:DV rb (Iz P S mn) w
 tb:Mz w
 tl:0<(w:M)
def Hv(c:H')(d f a e b g:M):Cg:=#[c,d,f,a,.map<|T e,.map<|T b,.map<|T g]
theorem Gg.t8{S}(h:Gg U S V B C R X v0 p0 P)(k:O Cb P y0):Gg U S V B C R X v0 p0 y0:=
 have⟨a,f,d,i⟩:=h.pm
 have⟨b,g,e,j⟩:=h.em
 ⟨h.pl.t8 k,⟨a,f.j k id,d,λc x q=>(i c x q).j k id⟩,⟨b,g.j k id,e,λc x q=>(j c x q).j k id⟩,h.rs.j k id,h.tb.j k id h.tl,Av h.tl k.size⟩
theorem Iz.lt{S:Sy}(a:Ia U B C)(h:S.le<|least U)(c:R<U)(k:Iz U S R X):X<U:=k (λx=>x<L U) c λ_ _ b q=>q.lt a h b
theorem NO.new(B:M)(w:I')(n:M)(a:B<=w):NO B (w.alloc<|R' #[(n:M)] 3) (Y w 1 1) [n]:=
 ⟨w,0,1,_,Q,a,BB w _,Ad _,by simp,by decide,λj b=>by grind⟩
theorem NO.ne(h:NO B P V q2)(k:DV C z1 P):∀x,L' V=T x->x≠C:=by rintro x a rfl;have⟨_,d,e⟩:=h.e x a;have⟨g,c,f⟩:=k.xJ;grind
theorem WF(P sb fv d pn cn o v w)(a8:Ia P pn cn)(h:Hk P sb fv d pn cn o v w)(hm:d<P)(d4:v.s.le<|least P):
 F' zy 54 #[Z' sb] w λe w'=>∃b,e=Value.map (T b)/\w.heap.size<=b/\DV b (Iz P v.s d) w'/\O Cb w w':=by
 have p1:=h.r.p.j1;have b8:=Cz h.r.p;have f6:=a8.xE;have b0:=λg (k:Iz P v.s d g)=>k.lt a8 d4 hm
 have H:=h;clear h d4;go_in;go_wp2_with fail;apply(OH d w<|by omega).mono;rintro e F ⟨fb,rfl,g1,s2,o2⟩;have p2:F (sb,1)=d:=(Ae<|o2.block sb b8 id).trans p1;have g4:sb<F:=Av b8 o2.size;have q3:=NO.new w F d o2.size;have o3:O Cb w<|F.alloc<|R' #[d] 3:=o2.alloc _;have s3:DV fb (λg=>g=d)<|F.alloc<|R' #[d] 3:=s2.j ((CT Cb F).alloc _) id;clear s2 o2 p1 b8;go_wp2_with fail;clear p2 g4;generalize F.alloc (R' #[d] 3)=W3 at*;generalize (F:M)=g3 at*;have⟨mf,d5⟩:=Uq;obtain⟨z,hJ⟩:∃z:M->H'->I'->Prop,z=λn q u=>∃(I:Ce) (l:Cf),NO w u q l/\DV fb I u/\Bf P v.s d I l (λ_=>zv)/\Si I l n/\n<=25/\O Cb w u:=⟨_,Q⟩
 have c4:∃n,z n (Y g3 1 1) W3:=⟨_,by rw[hJ];refine⟨_,[d],q3,s3,Bf.xC P v.s d,Q,?_,o3⟩;show _+[d].length<=25;have:List.countP (λi=>@decide (¬(i=d))<|Classical.propDecidable _) (List.range 12)<=(List.range 12):=List.countP_le_length;rw[List.length_range]at this;simp only[Az];omega⟩
 have HJ:=J hJ;clear q3 s3 o3 hJ;go_loopw[4] (λq u=>∃q',q'=q/\∃n,z n q' u) (λq u=>mf λn=>z n q u);exact⟨_,Q,c4⟩;clear c4;obtain⟨q,rfl,n0,d6⟩:=hrel;have d7:=(d5 (λn=>z n q wr) n0 d6).1;obtain⟨U,b7⟩:∃U,U=mf (λn=>z n q wr):=⟨_,Q⟩;have d8:z U q wr:=by rw[b7];exact d7
 rw[HJ.o]at d8;have⟨I,l,B,C,p,N,b9,E⟩:=d8;have f2:=J b7;clear d6 d7 b7 n0;have⟨g,oo,b2,e,h6,h7,lc,lm⟩:=B.form;subst e;cases l with
 |nil=> have HX:=C.iff p.done;rw[Aw];go_wp2_with fail;go_ret;exact⟨fb,Q,g1,HX,E⟩
 |cons c l=>
  have c0:=B.head;have⟨o5,e5,Q5⟩:=B.tail;rw[Af]at lc|-;have hp:(0:zw)<(L l:zw)+1:=by omega
  have f7:c<P:=b0 c<|p.le c p.pop.2;have hE:=H.t8 E;have c3:=J e5;clear e5;go_upto_region 6 with fail;rw[c3.o];clear c0 c3;go_wp2_with fail;apply(Vm P sb fv d pn cn o v wr a8 hE c f7).mono;rintro e w5 ⟨kb,rfl,h8,s5,a6⟩;have b3:=hE.t8 a6;have d0:=J b3.tb;have d1:=J b3.tl;clear b3;go_wp2_with fail;apply(G6 kb _ w5 s5 d0 d1).mono;rintro e w6 ⟨cv,a,rfl,hI,e0,b6,o6⟩;obtain⟨ca,X,rfl⟩:=CB hI;have g6:L a<=12:=GA 12 a e0 λx hx=>Av (b0 _<|(p.le c p.pop.2).step<|(b6 x).1 hx) f6
  have hO:=a6.trans o6;have h0:=a6.size;have q6:NO w w6 (Y (g,o5) l<|b2-1) l:=Q5.j hO Ed;have s6:DV fb I w6:=C.j hO id;have c8:=E.trans hO;have c6:=J b6;have K:D (∀k s,L' (Y (g,o5) l<|b2-1)=T k->L' (Y ca a X)=T s->k≠s):=λk s R h2=>by cases R;have:=(hI.lt s h2).1;show g≠s;omega
  have c1:=J p.pop;have c7:∀n,Si I l n->n<U:=λn h=>by have R:=N;unfold Si at h R;rw[Af]at R;omega
  clear e0 b6 o6 hO B C p E N Q5 hE d0 d1 s5 a6;go_wp2_with fail;obtain⟨qv,e6⟩:∃qv,qv=Y (g,o5) l (b2-1):=⟨_,Q⟩;rw[<-e6]at q6 K|-;clear e6;generalize (w5:M)=B5 at*;go_loopw[4,33] (λq i u=>∃(j:M) (m:Ce) (r:Cf) (q':H'),q'=q/\j<=a/\i=G A j/\NO w u q' r/\DV fb m u/\D (Bf P v.s d m r (λf=>f=c)/\m c)/\D (∀t x,t<j->a[t]? =T x->m x)/\(∀n,Si m r n->n<U)/\CY B5 u (Y ca a X) a/\D (∀k s,L' q'=T k->L' (Y ca a X)=T s->k≠s)/\O Cb w u) (λ_ i _=>a-(zm i).toNat);exact⟨0,I,l,qv,Q,by omega,Q,q6,s6,c1,λt x ht=>by omega,c7,hI,K,c8⟩;clear q6 s6 c1 c7 hI K c8;obtain⟨j,m,r,q,rfl,hj,rfl,B,C,p,HD,N,HI,K,E⟩:=hrel;by_cases b5:j<a
  .have a3:=HI;obtain⟨gl,rfl⟩:=CH a3 (by omega);have b4:=a3.cellAt j (by omega);rw[AI,Ag b5]at b4;simp only[BA]at b4;have g2:=(a3.lt gl Q).2;have HG:=J<|Ag b5;have d3:=(c6.o a[j]).1<|Am _;have g8:(j:zw)<(L a:zw):=by omega
   have a2:=show j+1<=L a from b5
   have h5:a[j]<P:=b0 _<|(p.1.le c p.2).step d3;have f8:L r<=100000:=by
    have R:=N _ Q;have h2:=b9;have h3:L r<=2*((List.range 12).countP λi=>@decide (¬m i)<|Classical.propDecidable _)+r:=by omega
    omega
   clear a3;generalize a[j]=x at*;go_wp2_with fail;apply(Kl fb m x wr C<|by omega).mono;rintro e V ⟨rb,rfl,e7,s7,o7⟩;have a0:=B.ne C;have a1:=B.j o7 λk S q=>a0 k S q;have a4:CY B5 V (Y gl a X) a:=Cx HI o7 (λk S q=>by have⟨g5,e1⟩:=GB HI k S;have⟨es,c',e2⟩:=C.xJ;rw[<-q,e1]at e2;cases e2)
   have a5:O Cb w V:=E.thn o7 (λk S q=>by omega);have c2:∀t y,t<j+1->a[t]? =T y->(m y\/y=x):=λt y ht hy=>by by_cases e:t=j;subst e;rw[HG.o]at hy;cases hy;exact zn Q;exact zo<|HD t y (by omega) hy
   have c9:=J e7;clear o7 e7 a0 C E HI B HD b4 g2;cases rb
   .have e3:m x:=BC λq=>by have:=c9.o.2 q;cases this
    have a9:=p.1.old e3;have b1:∀n,Si (λy=>m y\/y=x) r n->n<U:=by
     have e:(λy=>m y\/y=x)=m:=funext λy=>propext ⟨λq=>q.elim id λq=>q▸e3,zo⟩
     rw[e];exact N
    go_wp2_with fail;go_roundw;exact⟨j+1,_,r,q,Q,a2,by go_num,a1,s7,⟨a9,zo p.2⟩,c2,b1,a4,K,a5⟩;have:=a2;simp[intOf];omega
   .have g0:¬m x:=c9.o.1 Q;have a9:=p.1.add p.2 d3;have b1:∀n,Si (λy=>m y\/y=x) (r++[x]) n->n<U:=λn h=>by rw[Ah,Az]at h;exact Av (gJ (by omega) g0 Q h)<|Nat.le_of_lt<|N _ Q
    have e4:NO w (V.alloc<|R' #[(x:M)] 3) q r:=a1.j ((CT Cb V).alloc _) Ed;have h4:=a5.size;go_wp2_with(at_builtin;refine ON _ Q _ _ Q Q e4 x V 1 Q (by simp) (Addr.add_lit _ _ _) f8 (by simp;omega) ?_;intro g9 o9 f5 w9 q9 e8 d2);have a7:O (λk=>L' q=T k) V w9:=((CT _ V).alloc _).trans e8;have a0:=a1.ne s7;have f4:=s7.j a7 λq=>a0 _ q Q;have f1:CY B5 w9 (Y gl a X) a:=Cx a4 a7 λk S q=>K.o k k q S Q;have f3:O Cb w w9:=a5.thn a7 (λk S q=>by have:=(a1.e k q).1;omega);have f0:D (∀k s,L' (Y (g9,o9) (L r+1) f5)=T k->L' (Y gl a X)=T s->k≠s):=λk s R h2=>by
     cases R;rcases d2 with h|h
     exact K.o _ _ h h2;have:=(a4.lt s h2).2;simp at h;show g9≠s;omega
    clear e8 d2 a7 a0 e4 a1 s7 a4 a5;go_wp2_with fail;go_roundw;exact⟨j+1,_,r++[x],_,Q,a2,by go_num,q9,f4,⟨a9,zo p.2⟩,c2,b1,f1,f0,f3⟩;have:=a2;simp[intOf];omega
  .have e:j=a:=by omega
   subst e;have g7:zu ((L a:zw)<(L a:zw))=zr:=by simp
   have e9:Bf P v.s d m r λ_=>zv:=p.1.fin λx hx=>by have⟨t,ht,e⟩:=AC.1<|(c6.o x).2 hx;exact HD t x ht<|by rw[Ag ht,e]
   obtain⟨n9,d9⟩:∃n,Si m r n:=⟨_,Q⟩;have f9:=N n9 d9;have c5:z n9 q wr:=by show z n9 q wr;rw[HJ.o];exact⟨m,r,B,C,e9,d9,by have:=b9;show n9<=25;omega,E⟩
   go_wp2_with fail;go_roundw;exact⟨q,Q,n9,c5⟩;refine BM (d5 (λn=>z n q wr) n9 c5).2<|Av f9<|Nat.le_of_eq ?_;exact f2.o
def XA:Prop:=∀(s:Cd) (a:I'),s.size<=4000->F' zy 101 #[s] a λe b=>e=s/\O Cb a b
theorem Ud(hc:XA)(B S l w)(h:CK B w S l)(hl:L l<=4000)(hs:∀s,s∈l->s.size<=4000):
 F' zy 102 #[S] w λe U=>∃v,e=T' v/\CK w U v l/\O Cb w U:=by
 have⟨N,u,H,I,K⟩:=Bx Tryz.infoStr;obtain⟨va,vc,rfl⟩:=CB h;have⟨V,a0,R,r⟩:=run_make_own (P:=zy) w w 47 9 N ByteArray.empty 1 underlying47 u H I .i64 .i64 l (by rw[K];omega) (by unfold E';omega)<|Ad _;have q:CK w V (Y w 0 l)<|l.take 0:=R;have o:O Cb w V:=O.xA (CT _ w) r (λk y=>by cases y);clear R r;go_in;go_wp2_with fail;clear a0;go_loopw[3,11] (λv i wr=>∃(k:M) (a:H'),a=v/\k<=l/\i=G A k/\CK w wr a (l.take k)/\O Cb w wr) (λ_ i _=>l-(zm i).toNat);exact⟨0,_,Q,by omega,Q,q,o⟩;clear q o;obtain⟨k,v,rfl,y,rfl,f,b⟩:=hrel;by_cases d:k<l
 .have c:=Cx h b Ed;obtain⟨gl,rfl⟩:=CH c (by omega);have m:=c.cellAt k (by omega);rw[AI,Ag d]at m;simp only[BA]at m;have a3:=(c.lt gl Q).2;have a5:(k:zw)<(L l:zw):=by omega
  have p:=show k+1<=L l from d
  have a2:=hs _<|Am d;have HT:D<|l.take (k+1)=l.take k++[l[k]]:=AK d;have a6:L (l.take k)<=4000:=by rw[List.length_take];omega
  clear c;generalize l[k]=x at*;go_wp2_with fail;apply(hc x wr a2).mono;rintro e X ⟨rfl,n⟩;have E:CK w X v<|l.take k:=Cx f n Ed;have z:=b.trans n;have a7:=z.size;clear n f b m a3;go_wp2_with(at_builtin;refine AO _ Q _ _ 47 Q w 9 N ByteArray.empty 1 16 underlying47 u H I K Q (by decide) _ _ _ Q (E.alloc _) X 1 1 [Y' x] Q Q (C3 (by simp) _ _) (λx F=>by simp at F;subst F;rfl) (by unfold E';omega) (by omega) (by simp;omega) ?_;intro a w3 C t a1);have O3:O Cb w w3:=O.xA (z.alloc _) t λj hj=>zn (E.lt j hj).1;have g:CK w w3 a<|l.take<|k+1:=by show CK _ _ _ _;rw[HT.o];unfold CK;rw[Ah,Bn];exact C
  clear t a1 C;go_wp2_with fail;go_roundw;exact⟨k+1,a,Q,p,by go_num,g,O3⟩;have:=p;simp[intOf];omega
 .have e:k=l:=by omega
  subst e;have a4:zu ((L l:zw)<(L l:zw))=zr:=by simp
  have g:CK w wr v l:=by have:=f;rw[List.take_length]at this;exact this
  go_wp2_with fail;go_ret;exact⟨v,Q,g,b⟩
theorem Ds.push{Wz d f vv v'}(a:List<|Ci)(v:J' Wz B 153 4 (Y d (L U) C) (L U) a.flatten)(l:L a=L U)(m:∀i (h:i<L a) (n:i<L U),NY B Wz a[i] U[i])(r:CK B Wz vv f.y)(p:f.f=[])
 (o:Wz.grownBy P<|L'<|Y d (L U) C)(x:J' P B 153 4 v' (L U+1)<|a.flatten++Rk f vv (Y Z 0 0)):Ds B P v'<|U++[f]:=by
 have j:O (λk=>L' (Y d U C)=T k) Wz P:=O.xA (CT _ Wz) o λk c=>zo c;have g:∀k a t b,L' (Y d U C)=T k->Wz.heap[k]? =T (R' a t b)->t≠3/\t≠206/\t≠9:=λk a t b c q=>by grind[GB]
 refine⟨a++[Rk f vv<|Y Z 0 0],by grind,by simp[l],λi h n=>?_⟩;by_cases e:i<a;rw[AD e,AD<|by omega];exact(m i e<|by omega).xU j g;have w:i=U:=by grind
 have s:(a++[Rk f vv<|Y Z 0 0])[i]=Rk f vv (Y Z 0 0):=by grind
 have u:(U++[f])[i]=f:=by grind
 rw[s,u];refine⟨vv,Y Z 0 0,Q,CD r j λk a b c q=>(g k a _ b c q).2.2 Q,?_⟩;rw[p];exact⟨[],An _ _ _ _,Q,λi h=>by simp at h⟩
theorem gH(hc:XA)(P:CQ)(fv:H')(g l d:M)(w:I')(hp:Ds 0 w fv P)(hP:Jd P)(hn:NZ P)(hf:L P<=12)(h0:0<L P):
 F' zy 55 #[N' #[fv,g,l,d]] w λe w'=>∃c8,e=N' #[c8,g,l,d]/\Ds w w' c8 (P.map Fx)/\O Cb w w':=by
 obtain⟨i0,d9,e7,e8,e9⟩:=Bx Tryz.infoPFn;obtain⟨n,o,rfl,i2⟩:=hp.form h0;obtain⟨HP,g3,c6,HC⟩:=F8 hp hP hn hc;clear hp hP hn hc;have O0:D<|O Cb w<|((w.alloc<|R' #[Y (T ⟨n,0,Z⟩) (L P) o,G A g,G A l,G A d] 86).alloc<|R' #[Y Z 0 0,G A 0,G A 0,G A 0] 86).alloc<|R' #[Y (T ⟨n,0,Z⟩) (L P) o,G A g,G A l,G A d] 86:=(((CT _ w).alloc _).alloc _).alloc _;have B1:D<|W (w:M) #[Y (T ⟨n,0,Z⟩) (L P) o,G A g,G A l,G A d] 86<|((w.alloc<|R' #[Y (T ⟨n,0,Z⟩) (L P) o,G A g,G A l,G A d] 86).alloc<|R' #[Y Z 0 0,G A 0,G A 0,G A 0] 86).alloc<|R' #[Y (T ⟨n,0,Z⟩) (L P) o,G A g,G A l,G A d] 86:=((W.new w _ _).alloc _).alloc _;have B2:D<|W ((w:M)+1) #[Y Z 0 0,G A 0,G A 0,G A 0] 86<|((w.alloc<|R' #[Y (T ⟨n,0,Z⟩) (L P) o,G A g,G A l,G A d] 86).alloc<|R' #[Y Z 0 0,G A 0,G A 0,G A 0] 86).alloc<|R' #[Y (T ⟨n,0,Z⟩) (L P) o,G A g,G A l,G A d] 86:=by have:=W.new (w.alloc<|R' #[Y (T ⟨n,0,Z⟩) (L P) o,G A g,G A l,G A d] 86) #[Y Z 0 0,G A 0,G A 0,G A 0] 86;rw[show(w.alloc (R' #[Y (T ⟨n,0,Z⟩) (L P) o,G A g,G A l,G A d] 86):M)=(w:M)+1 by simp]at this;exact this.alloc _
 have E:D<|W ((w:M)+1+1) #[Y (T ⟨n,0,Z⟩) (L P) o,G A g,G A l,G A d] 86<|((w.alloc<|R' #[Y (T ⟨n,0,Z⟩) (L P) o,G A g,G A l,G A d] 86).alloc<|R' #[Y Z 0 0,G A 0,G A 0,G A 0] 86).alloc<|R' #[Y (T ⟨n,0,Z⟩) (L P) o,G A g,G A l,G A d] 86:=by have:=W.new ((w.alloc<|R' #[Y (T ⟨n,0,Z⟩) (L P) o,G A g,G A l,G A d] 86).alloc<|R' #[Y Z 0 0,G A 0,G A 0,G A 0] 86) #[Y (T ⟨n,0,Z⟩) (L P) o,G A g,G A l,G A d] 86;rw[show((w.alloc<|R' #[Y (T ⟨n,0,Z⟩) (L P) o,G A g,G A l,G A d] 86).alloc (R' #[Y Z 0 0,G A 0,G A 0,G A 0] 86):M)=(w:M)+1+1 by simp]at this;exact this
 go_enter func55,ntmps55;go_upto_region 2 with fail;generalize World.alloc (World.alloc (World.alloc w _) _) _=p at*;obtain⟨r,N⟩:∃b,b=(w:M)+1:=⟨_,Q⟩;obtain⟨m,F⟩:∃b,b=(w:M)+1+1:=⟨_,Q⟩;rw[<-F]at E;rw[<-N]at B2;rw[<-F,<-N];have i8:r<m:=by omega
 have i7:(w:M)<r:=by omega
 clear N F;have s3:m<(p:M):=Cz E.o;obtain⟨w1,h3,f4,c9⟩:=run_make_own (P:=zy) p (w:M) 84 153 i0 (N' vM) 4 underlying84 d9 e7 e8 .i64 .i64 (L P) (by rw[e9];omega) (by unfold E';omega) (by omega);have u:O Cb p w1:=O.xA (CT _ p) c9 (λk H=>by cases H);have p1:=B1.o.j0;have e1:=(B1.o.j u id).j0;have e3:=(E.o.j u id).j0;have f3:=(E.o.j u id).wV 0;have l1:(w:M)<(p:M):=by omega
 have h9:=Cz<|B1.o.j u id;have i1:=Cz<|E.o.j u id;have i4:(w:M)≠m:=by omega
 obtain⟨N1,O1,K1,K2,K3⟩:=Ix f4 u (B1.o.j u id) (B2.o.j u id)<|E.o.j u id;clear f4 c9 u B1 B2 E;obtain⟨c7,V1,V2,V3⟩:=F8 (Cx N1.o ((CT (λk=>k=m) w1).wS 0<|Y (T ⟨(p:M),0,Z⟩) 0<|L P)<|CL N1.o K3.o<|by decide) ((O0.o.trans O1.o).xB 0 (Y (T ⟨(p:M),0,Z⟩) 0<|L P) (b:=m)<|by omega) (K2.o.xH 0 (Y (T ⟨(p:M),0,Z⟩) 0<|L P) (c:=m)<|by omega)<|K3.o.set 0<|Y (T ⟨(p:M),0,Z⟩) 0<|L P;go_wp2_with fail;clear p1 e1 e3 f3 l1 h9 i1 i4 N1 O1 K1 K2 K3 h3 s3 O0;generalize (p:M)=g0 at*;generalize w1.setCell ⟨m,0,Z⟩ (Y (T ⟨g0,0,Z⟩) 0<|L P)=WL at*;go_loopw[15] (λi wr=>∃(j:M) (B:Ch) (C:M),j<=L P/\i=G A j/\D (Ds (w:M) wr (Y B (L<|(P.map Fx).take j) C)<|(P.map Fx).take j)/\D (W m #[Y B (L<|(P.map Fx).take j) C,G A g,G A l,G A d] 86 wr)/\D (W r #[Y Z 0 0,G A 0,G A 0,G A 0] 86 wr)/\D (O Cb w wr)) (λi _=>L P-(zm i).toNat);exact⟨0,_,_,by omega,Q,⟨[],c7.o,Q,λi h=>by simp at h⟩,V3.o,V2,V1⟩;clear c7 V1 V2 V3;obtain⟨j,B,C,hj,rfl,HA,I,y,HO⟩:=hrel;by_cases a7:j<L P
 .have e2:=HP.o.t8 HO.o;obtain⟨vv,sv,a2,a9,a5⟩:=e2.get a7;obtain⟨sa,sc,rfl,_⟩:=a5.form;obtain⟨xa,xl,xc,rfl⟩:=CA a9;have c0:=a2 0 (by omega);have c1:=a2 1 (by omega);have c2:=a2 2 (by omega);have c3:=a2 3 (by omega);simp only[Rk,Aa,Ab,Au]at c0 c1 c2 c3;have b8:CO P j=P[j]:=by unfold CO;rw[Ag a7];rfl
  have h5:=c6.o.I j;have i6:=g3.o.y j;have e6:∀s,s∈(CO P j).y->s.size<=4000:=λs hs=>by obtain⟨t,ht,e⟩:=AC.1 hs;have:=c6.o.y j t;unfold K7 at this;rw[Ag ht,e]at this;exact this
  have e0:L ((P.map Fx).take j)=j:=by rw[List.length_take,AG];omega
  have HT:D<|(P.map Fx).take (j+1)=(P.map Fx).take j++[Fx<|CO P j]:=by show _=_;rw[AK<|by rw[AG];exact a7,AT,b8]
  rw[<-b8]at c0 c2 c3 a9;have i3:n<(wr:M):=Av i2 HO.o.size;have h2:(j:zw)<(L P:zw):=by omega
  have c5:=J (show j+1<=L P from a7);have g7:=J e6;clear a5 e2 a2 b8 e6;generalize CO P j=f at*;have f9:=J e0;clear e0;generalize (P.map Fx).take j=a1 at*;have R:O Cb wr<|wr.alloc<|R' #[Y' f.I,Y xa xl xc,G A f.m,Y sa (L f.f) sc] 153:=(CT _ wr).alloc _;have d8:=W.new wr #[Y' f.I,Y xa xl xc,G A f.m,Y sa (L f.f) sc] 153;have F:=I.o.j R id;have N:=y.o.j R id;have h6:=HA.o.t8 R;have e5:=Cx a9 R λ_ _ q=>q;have b7:=HO.o.trans R;obtain⟨cs,r1,r2,r3⟩:=h6;have h7:=b7.size;have j3:m≠(wr:M):=λq=>by have:=Cz I.o;omega
  have HW:D (∀K,O Cb (wr.alloc<|R' #[Y' f.I,Y xa xl xc,G A f.m,Y sa (L f.f) sc] 153) K->K' K ⟨m,0,Z⟩=T (Y B (L a1) C)/\K' K ⟨(wr:M),0,Z⟩=T (Y' f.I)/\K' K ⟨(wr:M),1,Z⟩=T (Y xa xl xc)/\K' K ⟨(wr:M),2,Z⟩=T (G A f.m)):=λK h'=>by have q3:=(F.j h' id).j0;obtain⟨q0,q1,q2⟩:=(d8.j h' id).k3;exact⟨q3,q0,q1,q2⟩
  obtain⟨g4,g5,g6,f8,c4,g9,g2⟩:=qU r1 r2 r3 F N e5 b7;have i5:L a1<=12:=by have:=f9.o;omega
  go_upto_region 6 with fail;clear c0 c1 c2 c3 R d8 F N e5 b7 r1 r2 r3 a9 HA I y HO i3;generalize wr.alloc (R' #[Y' f.I,Y xa xl xc,G A f.m,Y sa (L f.f) sc] 153)=W5 at*;generalize (wr:M)=b5 at*;obtain⟨d3,d0,d1,d2⟩:=HW.o W5<|CT _ _;go_region_law(first
   |(refine C7 Q _ _ 84 Q (w:M) 153 i0 (N' vM) 4 72 underlying84 d9 e7 e8 e9 Q (by decide) _ _ _ Q (R7.o.alloc _) ⟨(w7:M),0,Z⟩ 1 1 [Y' f.I,Y ya yl yc,G A (f.m:M),Y Z 0 0] Q Q (C3 Q _ _) (λx hx=>by simp only[AY,AE,or_false]at hx;rcases hx with rfl|rfl|rfl|rfl<;>rfl) (by decide) (by unfold E';omega) (by omega) (by simp;omega) ?_;intro v' V a8 b6 h4;have g8:=J<|O.xA ((CT (λk=>L' (Y B (L a1) C)=T k) w7).alloc<|R' #[Y' f.I,Y ya yl yc,G A (f.m:M),Y Z 0 0] 153) b6 λj hj=>zo hj;have a0:=J<|b0.o.j g8.o λq=>g1.o m q Q;have q1:K' V ⟨m,0,Z⟩=T (Y B (L a1) C):=a0.o.z 0;have q2:=a0.o.wV 0;have j0:=Cz a0.o;obtain⟨S,a6,U,rfl⟩:=CA a8;have h8:=CU a8;have h1:=J a8;have f7:=J b6;clear a8 b6 h4)
   |(go_simp;go_at_call 101;refine(HC.o f.I _ h5).mono ?_;rintro e w6 ⟨rfl,u6⟩;have O6:=J<|O.trans (X:=Cb) (a:=W5) oq u6;clear u6;obtain⟨m3,m0,m1,m2⟩:=HW.o w6 O6.o)
   |(go_simp;go_at_call 102;refine(Ud HC.o 0 (Y xa xl xc) f.y w6 (Cx g9.o O6.o λ_ _ q=>q) (by omega) g7.o).mono ?_;rintro e w7 ⟨vv,rfl,s7,u7⟩;have z:=J<|O6.o.trans u7;have S7:=J<|CN s7 (B':=(w:M))<|As h7 O6.o.size;clear s7 u7;obtain⟨ya,yl,yc,rfl⟩:=CA S7.o;obtain⟨m3,m0,m1,m2⟩:=HW.o w7 z.o;have j1:=z.o.size;have b0:=J<|f8.o.j z.o id;have R7:=J<|Cx g4.o z.o λ_ _ q=>q;have g1:=J (CL R7.o b0.o<|by decide);have i9:=Cz b0.o))
  all_goals
   have e4:Ds (w:M) V (Y S a6 U)<|a1++[Fx f]:=Ds.push (f:=Fx f) (vv:=Y ya yl yc) (Wz:=w7.alloc<|R' #[Y' f.I,Y ya yl yc,G A (f.m:M),Y Z 0 0] 153) cs (R7.o.alloc _) g5.o (λi h h'=>((g6.o i h h').xU z.o λ_ _ _ _ q=>q.elim).xU ((CT Cb w7).alloc _) λ_ _ _ _ q=>q.elim) (S7.o.alloc _) Q f7.o h1.o;have a5:O (λk=>k=m) V<|V.setCell ⟨m,0,Z⟩<|Y S a6 U:=(CT _ V).wS 0 _;have a4:=e4.j a5 (λk cs t fz H q=>by subst H;have:=a0.o;unfold W at this;rw[this]at q;cases q;exact⟨by decide,by decide,by decide,by decide⟩)
   have d7:=a0.o.set 0<|Y S a6 U;have d4:=CL R7.o (c4.o.j z.o id) (by decide);have d6:=((c4.o.j z.o id).j g8.o λq=>d4 r q Q).xH 0 (Y S a6 U) (c:=m) (by omega);have a3:O Cb w<|V.setCell ⟨m,0,Z⟩<|Y S a6 U:=((g2.o.trans z.o).thn g8.o λk H q=>by have:=(R7.o.lt k q).1;omega).xB 0 _ (by omega);subst h8;obtain⟨b4,f6,f5,b1⟩:=F8 a4 d7 d6 a3;clear e4 a5 a4 d7 d4 d6 a3;go_wp2_with fail;go_roundw;exact⟨j+1,S,U,c5.o,by go_num,by rw[HT.o,Ah];exact b4,by rw[HT.o,Ah];exact f6,f5,b1⟩;have:=c5.o;simp[intOf];omega
 .have e:j=L P:=by omega
  subst e;have h2:zu ((L P:zw)<(L P:zw))=zr:=by simp
  have d5:(P.map Fx).take (L P)=P.map Fx:=BJ (by simp);rw[d5,AG]at HA I;obtain⟨c0,c1,c2,c3⟩:=I.o.k4;have f0:=y.o.wV 0;have f1:=y.o.wV 1;have f2:=y.o.wV 2;have f3:=y.o.wV 3;obtain⟨d0,d1,d2,d3⟩:=y.o.k4;have l2:=Cz y.o;have l3:=Cz I.o;have j2:r≠m:=by omega
  have b9:O (λk=>k=r) wr<|(((wr.setCell ⟨r,0,Z⟩<|Y B (L P) C).setCell ⟨r,1,Z⟩<|G A g).setCell ⟨r,2,Z⟩<|G A l).setCell ⟨r,3,Z⟩<|G A d:=((((CT _ wr).wS 0 _).wS 1 _).wS 2 _).wS 3 _;have a4:=HA.o.j b9 (λk cs t fz H q=>by subst H;have:=y.o;unfold W at this;rw[this]at q;cases q;exact⟨by decide,by decide,by decide,by decide⟩)
  have a3:=HO.o.thn b9 (λk H q=>by omega);have b4:=J a4;have b1:=J a3;clear b9 a4 a3 d5;go_wp2_with fail;refine Ak (v:=N' #[Y B (L P) C,G A g,G A l,G A d]) (by simp[zz,results55,go_sem,d0,d1,d2,d3]) Q ⟨_,Q,b4.o,b1.o⟩
abbrev vE:Cg:=#[Y Z 0 0,G A 0,G A 0,G A 0,.map Z,.map Z,.map Z]
theorem Hk.sets{o}(h:Hk U B V C R X o y7 P)(a:y7.s.le<|least U)(b:(least U).le y7.s)(d:Ds 0 P z0<|U.map Fx)(f:DV v0 (Iz U y7.s C) P):Gg U (least U) z0 C R X (o.om 0) (o.om 1) v0 P:=
 ⟨d,⟨o.bk 0,h.r.mp 0<|by omega,λc=>h.r.d0 c 0<|zo Q,λc k q=>(h.r.st 0 c k q).iff λx=>⟨λq=>a.i c x<|q.1 Q,λq=>⟨λ_=>b.i c x q,λe=>Bm e<|by decide,λe=>Bm e<|by decide,λe=>Bm e<|by decide,λe=>Bm e<|by decide⟩⟩⟩,
   ⟨o.bk 1,h.r.mp 1<|by omega,h.r.d1,λc k q=>(h.r.st 1 c k q).iff λx=>⟨λq=>a.e c x<|q.2.1 Q,λq=>⟨λe=>Bm e<|by decide,λ_=>b.e c x q,λe=>Bm e<|by decide,λe=>Bm e<|by decide,λe=>Bm e<|by decide⟩⟩⟩,
   f.iff λg=>Iz.iff a b C g,h.tb,h.tl⟩
theorem Ds.wX(h:Ds B P V U)(a:C<=B):Ds C P V U:=by have⟨b,c,d,f⟩:=h;refine⟨b,CN c a,d,λi q k=>?_⟩;have⟨m,l,e,g,j⟩:=f i q k;exact⟨m,l,e,CN g a,j.wX a⟩
theorem Gg.other{P S l p u g s i v w B b F t}(h:Gg P S l p u g s i v w)(k:O (λk=>k=b) w B)(V:W b F t w)(ht:t≠3/\t≠9/\t≠206/\t≠153)(N:0≠b):Gg P S l p u g s i v B:=by
 have d:∀{x m},DV x m w->¬x=b:=by rintro x m a rfl;have⟨K,c,e⟩:=a.xJ;grind[W]
 have r:∀{x f},En Mj Mi x f w->¬x=b:=by rintro x f a rfl;have⟨K,c,e⟩:=a.xJ;grind[W]
 have⟨C,n,H,y⟩:=h.pm;have⟨E,o,I,z⟩:=h.em;refine⟨h.pl.j k λj R t' U X q=>?_,⟨C,n.j k<|r n,H,λc x q=>(y c x q).j k<|d<|y c x q⟩,⟨E,o.j k<|r o,I,λc x q=>(z c x q).j k<|d<|z c x q⟩,h.rs.j k<|d h.rs,h.tb.j k N h.tl,Av h.tl k.size⟩;grind[W]
theorem sM(hc:XA)(P fv)(f g d:M)(w:I')(u:Ia P g d)(hn:NZ P)(hp:Ds 0 w fv P)(hm:f<P)(tb:Mz w)(tl:0<(w:M)):
 F' zy 30 #[N' #[fv,f,g,d]] w λe r=>∃F pb eb z,e=N' (Hv F f g d pb eb z)/\Gg P (least P) F f g d pb eb z r/\O Cb w r:=by
 obtain⟨j,i,rfl,b6⟩:=hp.form (by omega);have S:O Cb w<|(w.alloc<|R' #[Y j P i,f,g,d] 86).alloc<|R' vE 91:=((CT _ w).alloc _).alloc _;have I:W w #[Y j P i,f,g,d] 86<|(w.alloc<|R' #[Y j P i,f,g,d] 86).alloc<|R' vE 91:=(W.new w _ _).alloc _;have K:W ((w:M)+1) vE 91<|(w.alloc<|R' #[Y j P i,f,g,d] 86).alloc<|R' vE 91:=by have:=W.new (w.alloc<|R' #[Y j P i,f,g,d] 86) vE 91;rw[show(w.alloc (R' #[Y j P i,f,g,d] 86):M)=w+1 by simp]at this;exact this
 go_in;go_upto_region 1 with fail;generalize World.alloc (World.alloc w _) _=E at*;obtain⟨h,V⟩:∃b,b=(w:M)+1:=⟨_,Q⟩;rw[<-V]at K;rw[<-V];have b3:w<h:=by omega
 clear V;generalize a3:(w:M)=n at*;have N:=J a3;clear a3;have s2:h<E:=Cz K;have c0:=I.z;have l1:=Cz I;have a1:=tb.j S id (by have:=N.o;omega);have a8:0<(E:M):=by omega
 go_wp2_with fail;apply(Sn P (Y j P i) f g d E u (hp.t8 S) a1 a8).mono;rintro e w2 ⟨t,o,rfl,hE,a4,o2,a2⟩;clear c0 a1;go_wp2_with fail;apply(eH P t (Y j P i) f g d o Sv.zero w2 u hE a2).mono;rintro e w3 ⟨rfl,p,v',U,h1,h2⟩;have O3:O Cb E w3:=o2.thn U.on (λk hk q=>by have:=a4 k q;omega);have R:=J U.e;clear U hE a4 a2 o2;go_wp2_with fail;apply(WF P t (Y j P i) f g d p v' w3 u R hm h1).mono;rintro e B ⟨z,rfl,_,s4,o4⟩;have x:=R.t8 o4;have C:=O3.trans o4;clear o4 R O3;have HW:D (∀s,O Cb B s->s n=Y j P i/\s (n,1)=f/\s (n,2)=g/\s (n,3)=d/\s (t,4)=Value.map (p.om 0)/\s (t,5)=Value.map (p.om 1)):=λs h'=>by have hb:=I.j (C.trans h') id;have hs:=x.r.p.j h' id;have⟨q0,q1,q2,q3⟩:=hb.k4;obtain⟨-,-,-,-,q4,q5⟩:=hs.k6;exact⟨q0,q1,q2,q3,q4,q5⟩
 have a0:=K.j C id;have⟨r0,r1,r2,r3,r4,r5⟩:=HW.o B oq;have b4:n<B:=Av l1 C.size;have b7:=Cz x.r.p;have nb:h≠n:=by omega
 have b8:h≠t:=a0.ne x.r.p (by decide);have a6:=u.ok;have a7:=u.xE;go_wp2_with fail;go_region_held3(λr=>r n=Y j P i/\r (n,1)=f/\r (n,2)=g/\r (n,3)=d/\r (t,4)=Value.map (p.om 0)/\r (t,5)=Value.map (p.om 1)) (go_keep)
  (first
    |(go_at_call 55;apply(gH hc P (Y j P i) f g d _ (x.pl.t8<|(CT Cb B).drew) a6 hn a7<|by omega).mono;rintro e H ⟨F,rfl,p5,u5⟩;have y:=O.trans ((CT Cb B).drew) u5;obtain⟨fa,fl,fc,rfl⟩:∃a l c,F=Y a l c:=(match p5 with|⟨_,q,_⟩=>CA q);clear u5;have⟨m0,m1,m2,m3,m4,m5⟩:=HW.o H y;have m:=a0.j y id;have⟨d0,d1,d2,d3,d4,d5,d6⟩:=m.k7;have z0:=m.wV 0;have z1:=m.wV 1;have z2:=m.wV 2;have z3:=m.wV 3;have z4:=m.wV 4;have z5:=m.wV 5;have z6:=m.wV 6;have b5:=Cz m))
 all_goals
  have X:O (λk=>k=h) H<|((((((H.setCell h<|Y fa fl fc).setCell (h,1) f).setCell (h,2) g).setCell (h,3) d).setCell (h,4)<|.map<|p.om 0).setCell (h,5)<|.map<|p.om 1).setCell (h,6)<|.map z:=(((((((CT _ H).wS 0 _).wS 1 _).wS 2 _).wS 3 _).wS 4 _).wS 5 _).wS 6 _;have a5:=(x.t8 y).sets h1 h2 (p5.wX<|Ar _)<|s4.j y id;have b0:=a5.other X m (by decide) (by have:=N.o;omega);have a9:O Cb w _:=(S.trans<|C.trans y).thn X (λk hk q=>by have:=N.o;omega);clear X a5;go_wp2_with fail;refine Ak (v:=N'<|Hv (Y fa fl fc) f g d (p.om 0) (p.om 1) z) (by simp[zz,results30,go_sem,d0,d1,d2,d3,d4,d5,d6,Hv]) Q ⟨_,_,_,_,Q,b0,a9⟩
def Hm:Prop:=∀(B:M) (v:H') (l:Cc) (c:I'),CK B c v l->L l<=1000000->F' zy 122 #[v] c λe f=>e=P' #[]/\∃d,CK B f v d/\d.Perm l/\d.Pairwise (λa b=>Kq b a=zr)/\O (λk=>L' v=T k) c f
theorem Yk(w):F' zy 182 #[.int .u64 0] w λe a=>e=G A 0/\a=w:=by go_in;go_wp2_with fail;go_ret;exact⟨by simp[show Lib.len8 0=0 from by decide,wrap64],Q⟩
theorem iZ(w):F' zy 156 #[.int .u64 0] w λe a=>e=G A 0/\a=w:=by go_in;go_wp2_with fail;apply FC<|Yk w;go_wp2_with fail;go_ret;exact⟨Q,Q⟩
theorem VO(w):F' zy 172 #[Y Z 0 0,G A 0,G A 0] w λe a=>e=P' #[]/\a=w:=by go_in;go_wp2;apply wp_loop_rounds 1;rw[rounds_succ];go_wp2;go_end0;exact⟨Q,Q⟩
theorem jV(w):F' zy 155 #[Y Z 0 0,G A 0,G A 0,G A 0] w λe a=>e=P' #[]/\a=w:=by go_in;go_wp2;apply wp_loop_rounds 1;rw[rounds_succ];go_wp2_with fail;apply FC<|VO _;go_wp2_with fail;apply Ak (results_none Q _ _ _) Q;exact⟨Q,Q⟩
theorem eJ(w):F' zy 122 #[Y Z 0 0] w λe a=>e=P' #[]/\a=w:=by go_in;go_wp2_with fail;apply FC<|iZ _;go_wp2_with fail;apply FC<|jV _;go_wp2_with fail;go_end0;exact⟨Q,Q⟩
theorem qC(h:fV):Hm:=by
 intro B v l b a j;rcases a.2 with⟨rfl,q⟩|⟨g,c,o,rfl,_⟩
 have:l=[]:=List.eq_nil_of_length_eq_zero q;subst this;apply(eJ b).mono;rintro e n ⟨rfl,rfl⟩;exact⟨Q,[],a,List.Perm.refl _,List.Pairwise.nil,oq⟩;apply(h B g c l b a j).mono;rintro e n ⟨rfl,m,p,d,f,i⟩;exact⟨Q,m,by omega,d,f,i.mono λk _ q=>by rw[q];rfl⟩
def Zw(f:M->Cd)(m:Ce)(l:Cc):Prop:=l.Pairwise (λa b=>Kq b a=zr)/\∃c:Cf,c.Pairwise (·≠ ·)/\(∀x,x∈c↔m x)/\l.Perm (c.map f)
def DB(P:CQ)(i:M):Cd:=(CO P i).I
theorem RA(hS:Hm)(P S X o r g p n s w)(h:Gg P S X o r g p n s w)(hP:L P<=12)(sb m)(hs:DV sb m w)(hm:∀x,m x->x<L P):
 F' zy 83 #[N'<|Hv X o r g p n s,.map<|T sb] w λe w'=>∃v l,e=T' v/\CK w w' v l/\Zw (DB P) m l/\L l<=12/\O Cb w w':=by
 have⟨i0,b9,c4,c5,c6⟩:=Bx Tryz.infoStr;obtain⟨y,fl,z,b8,b7⟩:∃a l c,X=Y a l c/\l=L P:=by have⟨cs,q,_⟩:=h.pl;have⟨a,l,c,e⟩:=CA q;subst e;exact⟨a,l,c,Q,by have:=CU q;rw[AG]at this;exact this⟩
 subst b8 b7;have H:O Cb w<|w.alloc<|R' (Hv (Y y P z) o r g p n s) 91:=(CT _ w).alloc _;have R:=W.new w (Hv (Y y P z) o r g p n s) 91;have a8:=hs.j H id;have U:=h.t8 H;clear hs;go_in;go_upto_region 2 with fail;change Code.wp _ _ _ _ (w.alloc<|R' (Hv (Y y P z) o r g p n s) 91);generalize w.alloc (R' (Hv (Y y (L P) z) o r g p n s) 91)=W0 at*;obtain⟨b0,a0⟩:∃b,b=(w:M):=⟨_,Q⟩;rw[<-a0]at R|-;have c7:=J a0;clear a0;go_wp2_with fail;refine(G6 sb m W0 a8 U.tb U.tl).mono ?_;rintro e w2 ⟨nv,d,rfl,hI,b2,a4,o2⟩;obtain⟨na,nc,rfl⟩:=CB hI;have c2:L d<=12:=GA 12 d b2 λx f=>Av (hm _<|(a4 x).1 f) hP
 have O2:=H.trans o2;have t:=hI;have a7:=J a4;have B2:=R.j o2 id;have N2:CK w w2 (Y Z 0 0)<|(d.take 0).map<|DB P:=An _ _ _ _;clear hI a4 o2 a8 U R H;go_wp2_with fail;go_loopw[5,11] (λv i wr=>∃(j:M) (B:H'),B=v/\j<=d/\i=G A j/\CK w wr B ((d.take j).map<|DB P)/\CY 0 wr (Y na d nc) d/\W b0 (Hv (Y y P z) o r g p n s) 91 wr/\O Cb w wr) (λ_ i _=>d-(zm i).toNat);exact⟨0,_,Q,by omega,Q,N2,CN t<|Ar _,B2,O2⟩;clear N2 t B2 O2;obtain⟨j,v,rfl,hj,rfl,u,t,C,E⟩:=hrel;by_cases a3:j<d
 .have I:=t;obtain⟨gl,rfl⟩:=CH I (by omega);have a9:=I.cellAt j (by omega);rw[AI,Ag a3]at a9;simp only[BA]at a9;have d5:=(I.lt gl Q).2;have c1:(j:zw)<(L d:zw):=by omega
  have a6:=show j+1<=L d from a3
  have f:=hm _<|(a7.o d[j]).1<|Am _;have HT:D<|(d.take<|j+1).map (DB P)=(d.take j).map (DB P)++[DB P d[j]]:=by show _=_;rw[AK a3,Bn];rfl
  clear I;generalize d[j]=x at*;have a5:=(h.t8 E).pl;have⟨gf,cf,e1,d4⟩:=a5.form (by rw[AG];omega);rw[AG]at e1;cases e1;have⟨vv,sv,a1,_,_⟩:=a5.get (i:=x) (by rw[AG];exact f);have c0:=a1 0 (by omega);simp only[Rk,Aa,Au]at c0;have b1:((P.map Fx)[x]'(by rw[AG];exact f)).I=DB P x:=by rw[AT];unfold DB CO;rw[Ag f];rfl
  rw[b1]at c0;have c8:=C.j0;have d3:=Cz C;have d2:(x:zw)<(L P:zw):=by omega
  have d0:L ((d.take j).map<|DB P)<=12:=by rw[AG,List.length_take];omega
  have d1:=E.size;have b5:=J a1;clear a5 a1 b1 b5;generalize DB P x=nm at*;go_wp2_with(at_builtin;refine AO _ Q _ _ 47 Q w 9 i0 ByteArray.empty 1 16 underlying47 b9 c4 c5 c6 Q (by decide) _ _ _ Q (u.alloc _) wr 1 1 [Y' nm] Q Q (C3 (by simp) _ _) (λx f=>by simp at f;subst f;rfl) (by unfold E';omega) (by omega) (by simp;omega) ?_;intro B N b3 a2 c3);have g3:O (λk=>L' v=T k) wr N:=O.xA ((CT _ wr).alloc _) a2 λk K=>zo K;have O3:O Cb w N:=O.xA (E.alloc _) a2 λj hj=>zn (u.lt j hj).1;have b6:CY 0 N (Y gl d nc) d:=CD t g3 (λk cs fz K q=>by have⟨c9,e⟩:=GB u k K;rw[e]at q;cases q)
  have b4:=C.j g3 λq=>CL u C (by decide) b0 q Q;have F:CK w N B<|(d.take<|j+1).map<|DB P:=by show CK _ _ _ _;rw[HT.o];unfold CK;rw[Ah,Bn];exact b3
  clear a2 c3 b3 g3;go_wp2_with fail;go_roundw;exact⟨j+1,B,Q,a6,by go_num,F,b6,b4,O3⟩;have:=a6;simp[intOf];omega
 .have e:j=d:=by omega
  subst e;have c1:zu ((L d:zw)<(L d:zw))=zr:=by simp
  have hX:CK w wr v<|d.map<|DB P:=by have:=u;rw[List.take_length]at this;exact this
  have F:=hX;clear hX;go_wp2_with fail;refine(hS w v (d.map<|DB P) wr F<|by rw[AG];omega).mono ?_;rintro e w5 ⟨rfl,l,s5,p5,q5,o5⟩;have O5:O Cb w w5:=E.thn o5 (λk K q=>by have:=(F.lt k q).1;omega);have V:CK w w5 v l/\Zw (DB P) m l/\L l<=12:=⟨s5,⟨q5,d,b2,a7.o,p5⟩,by rw[p5.length_eq,AG];exact c2⟩;clear s5 p5 q5 o5;go_wp2_with fail;go_ret;exact⟨v,l,Q,V.1,V.2.1,V.2.2,O5⟩
theorem Pu(hS:Hm)(P fv o f g B y C w)(r:Ia P f g)(e2:f<=4000)(hn:NZ P)(h:Gg P (least P) fv o f g B y C w)(d7:Mf w)(c)(hc:Dh P f c)(d2:0<L P):
 F' zy 81 #[N'<|Hv fv o f g B y C,c] w λe E=>∃v l,e=T' v/\CK w E v l/\Zw (EC P) ((least P).I c) l/\L l<=16400/\O Cb w E:=by
 have⟨i0,d6,e3,e4,e5⟩:=Bx Tryz.infoStr;have hP:=r.xE;have c0:=r.ok.y;obtain⟨t,fl,u,d5,d4⟩:∃a l c,fv=Y a l c/\l=L P:=by have⟨cs,q,_⟩:=h.pl;have⟨a,l,c,e⟩:=CA q;subst e;exact⟨a,l,c,Q,by have:=CU q;rw[AG]at this;exact this⟩
 subst d5 d4;have O0:O Cb w<|w.alloc<|R' (Hv (Y t P u) o f g B y C) 91:=(CT _ w).alloc _;have H:=W.new w (Hv (Y t P u) o f g B y C) 91;have S:=h.t8 O0;have HM:∀x,(least P).I c x->Ir P f x:=λx q=>(Ft r q).2
 have e9:=hc.lt hP c0 r.lp;go_in;go_upto_region 2 with fail;change Code.wp _ _ _ _ (w.alloc<|R' (Hv (Y t P u) o f g B y C) 91);generalize w.alloc (R' (Hv (Y t (L P) u) o f g B y C) 91)=W0 at*;obtain⟨m,a2⟩:∃b,b=(w:M):=⟨_,Q⟩;rw[<-a2]at H|-;have e7:=J a2;clear a2;have⟨bk,m1,d1,t1⟩:=S.pm;have⟨sb,a6⟩:=(d1 c).2 hc;have b6:=(m1.look Ha underlying87 (Ez W0) (k:=c) (by omega) zr).2 sb a6;unfold Ly at b6;have b2:=t1 c sb a6;have b4:=H.j4;have c1:=Cz H;clear m1 d1 t1 a6;go_wp2_with fail;refine(G6 sb ((least P).I c) W0 b2 S.tb S.tl).mono ?_;rintro e w2 ⟨nv,d,rfl,hI,b7,a5,o2⟩;obtain⟨na,nc,rfl⟩:=CB hI;have e0:L d<=16400:=GA 16400 d b7 λx z=>Ir.lt r<|HM _<|(a5 x).1 z
 have O2:=O0.trans o2;have I:=hI;have b1:=J a5;have B2:=H.j o2 id;have N2:CK w w2 (Y Z 0 0)<|(d.take 0).map<|EC P:=An _ _ _ _;clear hI a5 o2 b2 S H O0 b4 c1 b6;go_wp2_with fail;go_loopw[5,14] (λv i wr=>∃(j:M) (R:H'),R=v/\j<=d/\i=G A j/\CK w wr R ((d.take j).map<|EC P)/\CY 0 wr (Y na d nc) d/\W m (Hv (Y t P u) o f g B y C) 91 wr/\O Cb w wr) (λ_ i _=>d-(zm i).toNat);exact⟨0,_,Q,by omega,Q,N2,CN I<|Ar _,B2,O2⟩;clear N2 I B2 O2;obtain⟨j,v,rfl,hj,rfl,HR,I,U,K⟩:=hrel;by_cases a4:j<d
 .have a0:=I;obtain⟨gl,rfl⟩:=CH a0 (by omega);have a3:=a0.cellAt j (by omega);rw[AI,Ag a4]at a3;simp only[BA]at a3;have e6:=(a0.lt gl Q).2;have d8:(j:zw)<(L d:zw):=by omega
  have a9:=show j+1<=L d from a4
  have z:=HM _<|(b1.o d[j]).1<|Am _;have HT:D<|(d.take<|j+1).map (EC P)=(d.take j).map (EC P)++[EC P d[j]]:=by show _=_;rw[AK a4,Bn];rfl
  clear a0;have f4:=Ir.lt r z;have a7:=Zd hP c0 e2 z;generalize d[j]=x at*;have b3:=h.t8 K;have c5:=J b3.pl;have c8:=J a7.bare;have b9:Kp (P.map Fx) (Xz x)=Kp P (Xz x):=mE P _;have f1:(EC P x).size<=20000:=UN r.ok hn a7;have f0:L ((d.take j).map<|EC P)<=16400:=by rw[AG,List.length_take];omega
  have f3:=K.size;have HW:D (∀s,O Cb wr s->s m=Y t P u/\s (m,1)=o/\s (m,2)=f/\s (m,3)=g):=λs h'=>by have hb:=U.j h' id;have⟨q0,q1,q2,q3⟩:=hb.k4;exact⟨q0,q1,q2,q3⟩
  have⟨r0,r1,r2,r3⟩:=HW.o wr<|CT _ _;have c1:=Cz U;have c9:=J b9;have c3:∀a1,O Cb wr a1->Mf a1:=λa1 hW n s d9 d3=>d7 n s d9<|K.trans<|hW.trans d3
  have c7:=J r.ok.bare;have c6:=J hn.bare;have d0:0<L (P.map Fx):=by rw[AG];exact d2
  clear b3 a7 b9;go_upto_region 5 with fail;clear a3 e6;go_region_held3(λE=>E m=Y t P u/\E (m,1)=o/\E (m,2)=f/\E (m,3)=g) (go_keep)
   (first
     |(go_at_call 128;refine(NJ x _<|by omega).mono ?_;rintro e w4 ⟨rfl,u4⟩;have X:=O.trans ((CT Cb wr).drew) u4;clear u4;have⟨m0,m1,m2,m3⟩:=HW.o w4 X)
     |(go_at_call 120;refine(Ow 0 (Y t P u) o f g (P.map Fx) (Xz x) w4 (c5.t8 X) c7 c6 c8 (c3 w4 X) d0).mono ?_;rw[c9.o];rintro e F ⟨rfl,u5⟩;have p:=X.trans u5;clear u5;have⟨m0,m1,m2,m3⟩:=HW.o F p;have R5:CK w F v<|(d.take j).map<|EC P:=Cx HR p λ_ _ q=>q;have f2:=p.size;have c4:=J<|CL R5 (U.j p id)<|by decide)
     |(refine C7 Q _ _ 47 Q w 9 i0 ByteArray.empty 1 16 underlying47 d6 e3 e4 e5 Q (by decide) _ _ _ Q (R5.alloc _) F 1 1 [Y'<|EC P x] Q Q (C3 Q _ _) (λx z=>by simp at z;subst z;rfl) (by decide) (by unfold E';omega) (by omega) (by simp;omega) ?_;intro R w3 b8 b5 e1;have g3:=O.xA ((CT (λk=>L' v=T k) F).alloc<|R' #[(EC P x)] 9) b5 λk N=>zo N;have a8:=(U.j p id).j g3 λq=>c4.o m q Q;have⟨n0,n1,n2,n3⟩:=a8.k4;clear e1))
  all_goals
   have O3:O Cb w w3:=(K.trans p).thn g3 (λk N q=>by have:=(R5.lt k q).1;omega);have c2:CY 0 w3 (Y gl d nc) d:=CD (Cx I p λ_ _ q=>q) g3 (λk cs fz N q=>by have⟨e8,e⟩:=GB R5 k N;rw[e]at q;cases q)
   have V:CK w w3 R<|(d.take<|j+1).map<|EC P:=by show CK _ _ _ _;rw[HT.o];unfold CK;rw[Ah,Bn];exact b8
   clear b8 b5 g3 n0 n1 n2 n3;go_wp2_with fail;go_roundw;exact⟨j+1,R,Q,a9,by go_num,V,c2,a8,O3⟩;have:=a9;simp[intOf];omega
 .have e:j=d:=by omega
  subst e;have d8:zu ((L d:zw)<(L d:zw))=zr:=by simp
  have hX:CK w wr v<|d.map<|EC P:=by have:=HR;rw[List.take_length]at this;exact this
  have V:=hX;clear hX;go_wp2_with fail;refine(hS w v (d.map<|EC P) wr V<|by rw[AG];omega).mono ?_;rintro e F ⟨rfl,l,s5,p5,q5,o5⟩;have p:O Cb w F:=K.thn o5 (λk N q=>by have:=(V.lt k q).1;omega);have HL:CK w F v l/\Zw (EC P) ((least P).I c) l/\L l<=16400:=⟨s5,⟨q5,d,b7,b1.o,p5⟩,by rw[p5.length_eq,AG];exact e0⟩;clear s5 p5 q5 o5;go_wp2_with fail;go_ret;exact⟨v,l,Q,HL.1,HL.2.1,HL.2.2,p⟩
theorem Ot(B v l s w)(h:CK B w v l)(z:L l<=4001):
 F' zy 126 #[v,Y' s] w λe x=>e=T' (G A<|D9 l s 0)/\x=w:=by
 obtain⟨E,F,rfl⟩:=CB h;generalize o:D9 l s 0=V;have n:D<|D9 (l.drop 0) s 0=V:=o;clear o;go_in;go_wp2_with fail;go_loopw[8] (λi wr=>∃k:M,k<=l/\i=G A k/\wr=w/\D (D9 (l.drop k) s k=V)) (λi _=>l-(zm i).toNat);exact⟨0,by omega,Q,Q,n⟩;obtain⟨k,y,rfl,rfl,d⟩:=hrel;clear n;by_cases j:k<l
 .obtain⟨g,rfl⟩:=CH h (by omega);have c:=h.cellAt k (by omega);rw[AI,Ag j]at c;simp only[BA]at c;have C:=(h.lt g Q).2;have b:=QK l s k j;have t:(k:zw)<(L l:zw):=by omega
  have m:=show k+1<=L l from j
  generalize l[k]=a at c b;cases p:(s.toList==a.toList)with
  |true=>
   have f:a.toList=s.toList:=by have:s.toList=a.toList:=by simpa using p
                                exact this.symm
   rw[Bb f,d.o]at b;subst b;clear d f;go_wp2_with fail;go_ret;exact⟨Q,Q⟩
  |false=>
   have f:¬a.toList=s.toList:=λq=>by simp[q]at p
   rw[Ba f,d.o]at b;have r:=J b;clear d f b;go_wp2_with fail;go_roundw;exact⟨k+1,m,by go_num,by trivial,r.o.symm⟩;have:=m;simp[intOf];omega
 .have e:k=l:=by omega
  subst e;have t:zu ((L l:zw)<(L l:zw))=zr:=by simp
  have u:V= -1:=by have:=d.o;rw[Bj]at this;exact this.symm
  subst u;clear d;go_wp2_with fail;go_ret;exact⟨Q,Q⟩
def Gv:CQ->Cd->Cd->M->Option M
 |[],_,_,_=>Z
 |f::l,a,b,k=>if f.I.toList=a.toList/\0<=D9 f.y b 0 then T (vN k (D9 f.y b 0).toNat)else Gv l a b (k+1)
theorem Oc(l:CQ)(a b:Cd)(k:M)(h:k<l):Gv (l.drop k) a b k=if l[k].I.toList=a.toList/\0<=D9 l[k].y b 0 then T (vN k (D9 l[k].y b 0).toNat)else Gv (l.drop<|k+1) a b (k+1):=by rw[Ap h];rfl
theorem X8:∀(l:Cc) (s:Cd) (k:M),D9 l s k<(k:zw)+l\/D9 l s k= -1
 |[],_,_=>zn Q
 |a::l,s,k=>by
  unfold D9;split
  .grind
  .have:=X8 l s<|k+1;grind
theorem OG(P S fv p s g r j t w)(h:Gg P S fv p s g r j t w)(hP:L P<=12)(b7:∀i,L (CO P i).y<=12)(a b:Cd):
 F' zy 80 #[N'<|Hv fv p s g r j t,a,b] w λe w'=>e=P' #[((Gv P a b 0).getD 0:M),(Gv P a b 0).isSome]/\O Cb w w':=by
 obtain⟨R,fl,U,b4,b3⟩:∃a l c,fv=Y a l c/\l=L P:=by have⟨cs,q,_⟩:=h.pl;have⟨a,l,c,e⟩:=CA q;subst e;exact⟨a,l,c,Q,by have:=CU q;rw[AG]at this;exact this⟩
 subst b4 b3;generalize hV:Gv P a b 0=V;have HV:D<|Gv (P.drop 0) a b 0=V:=hV;have O0:O Cb w<|w.alloc<|R' (Hv (Y R P U) p s g r j t) 91:=(CT _ w).alloc _;have B0:=W.new w (Hv (Y R P U) p s g r j t) 91;clear hV;go_in;go_upto_region 1 with fail;change Code.wp _ _ _ _ (w.alloc<|R' (Hv (Y R P U) p s g r j t) 91);generalize w.alloc (R' (Hv (Y R (L P) U) p s g r j t) 91)=W0 at*;have b1:=B0.j0;have c4:=Cz B0;go_wp2_with fail;clear b1 c4 B0;go_loopw[15] (λi wr=>∃k:M,k<=P/\i=G A k/\O Cb w wr/\D (Gv (P.drop k) a b k=V)) (λi _=>P-(zm i).toNat);exact⟨0,by omega,Q,O0,HV⟩;clear HV O0;obtain⟨k,hk,rfl,HO,m⟩:=hrel;by_cases y:k<P
 .have hs:=Oc P a b k y;have a3:=(h.t8 HO).pl;have⟨gf,cf,e1,c8⟩:=a3.form (by rw[AG];omega);rw[AG]at e1;cases e1;have⟨vv,sv,x,X,a8⟩:=a3.get (i:=k) (by rw[AG];exact y);obtain⟨sa,sc,rfl,_⟩:=a8.form;obtain⟨B,E,C,rfl⟩:=CA X;have I:=x 0 (by omega);have c1:=x 1 (by omega);have K:=x 2 (by omega);have N:=x 3 (by omega);have a5:(P.map Fx)[k]'(by rw[AG];exact y)=Fx P[k]:=AT ..;rw[a5]at I c1 K N X;simp only[Rk,Aa,Ab,Au]at I c1 K N;have a7:CO P k=P[k]:=by unfold CO;rw[Ag y];rfl
  have b6:=b7 k;rw[a7]at b6;have b5:(k:zw)<(L P:zw):=by omega
  have H:=show k+1<=L P from y
  have a9:CK 0 wr (Y B E C) P[k].y:=X;have N:wr (gf,k*4+3)=Y sa 0 sc:=N;have I:wr (gf,k*4)=P[k].I:=I;have K:wr (gf,k*4+2)=P[k].m:=K;have b2:=X8 P[k].y b 0;clear a3 x a5 a7 a8 X;generalize P[k]=f at*;generalize a6:D9 f.y b 0=u at*;have a0:=J a6;have oa:O Cb wr<|wr.alloc<|R' #[f.I,Y B E C,f.m,Y sa 0 sc] 153:=(CT _ wr).alloc _;have a2:=Cx a9 oa λ_ _ q=>q;have a1:=HO.trans oa;have F:=J hs;clear a9 oa hs a6;by_cases o:f.I.toList=a.toList/\0<=u
  .have d:=F.o;rw[Bb o,m.o]at d;have⟨b0,b9⟩:=o;obtain⟨n,rfl⟩:∃n:M,u=(n:zw):=⟨u.toNat,by omega⟩;rw[Int.toNat_natCast]at d;subst d;have he:(f.I.toList==a.toList)=zt:=by simpa using b0
   have c6:(0:zw)<=(n:zw):=by omega
   have c7:n<12:=by omega
   clear F m b0 b9 b2;go_wp2_with fail;refine(Ot 0 (Y B E C) f.y b _ a2<|by omega).mono ?_;rw[a0.o];rintro e w5 ⟨rfl,z⟩;cases z.symm;go_wp2_with(go_at_call 127;refine FC (JB k n _ (by omega)<|by omega) ?_);refine Ak (v:=P' #[(vN k n:M),O' zt]) (by simp[zz,results80,go_sem]) Q ⟨Q,a1⟩
  .have d:=F.o;rw[Ba o,m.o]at d;have a4:=J d;clear F m d;cases he:(f.I.toList==a.toList)with
   |true=>
    have c5:¬(0:zw)<=u:=λq=>o ⟨by simpa using he,q⟩
    have hd:zu ((0:zw)<=u)=zr:=by simp;omega
    clear o;go_wp2_with fail;refine(Ot 0 (Y B E C) f.y b _ a2<|by omega).mono ?_;rw[a0.o];rintro e w5 ⟨rfl,z⟩;cases z.symm;go_wp2_with fail;go_roundw;exact⟨k+1,H,by go_num,a1,a4.o.symm⟩;have:=H;simp[intOf];omega
   |false=> clear o;go_wp2_with fail;refine(Ot 0 (Y B E C) f.y b _ a2<|by omega).mono ?_;rw[a0.o];rintro e w5 ⟨rfl,z⟩;cases z.symm;go_wp2_with fail;go_roundw;exact⟨k+1,H,by go_num,a1,a4.o.symm⟩;have:=H;simp[intOf];omega
 .have e:k=P:=by omega
  subst e;have b5:zu ((L P:zw)<(L P:zw))=zr:=by simp
  have b8:V=Z:=by have:=m.o;rw[Bj]at this;exact this.symm
  subst b8;clear m;go_wp2_with fail;refine Ak (v:=P' #[G A 0,O' zr]) (by simp[zz,results80,go_sem]) Q ⟨Q,HO⟩
theorem Uc{a b:Cd}:∀(l:CQ) (k c:M),Gv l a b k=c->∃f i,∃h:f<L l,i<L l[f].y/\l[f].I.toList=a.toList/\D9 l[f].y b 0=(i:zw)/\c=vN (k+f) i
 |[],k,c,h=>by cases h
 |f::l,k,c,h=>by
  unfold Gv at h;split at h
  .rename_i q;refine⟨0,(D9 f.y b 0).toNat,by simp,?_,q.1,?_,?_⟩
   .have:=X8 f.y b 0;grind
   .grind
   grind
  .obtain⟨g,i,d,e,j,m,n⟩:=Uc l (k+1) c h;exact⟨g+1,i,by simp;omega,by grind,by grind,by grind,by grind⟩
theorem LL{P:CQ}{a b:Cd}{o c:M}(h:Gv P a b 0=c):Dh P o c:=by have⟨f,i,d,e,_,_,g⟩:=Uc P 0 c h;refine zo ⟨f,i,d,?_,by grind⟩;grind[CO]
def aO(f:M->Cd)(m:Ce)(n:M)(w:I')(e:Ending)(a:I'):Prop:=
 (∃v l,e=P' #[v,O' zt]/\CK w a v l/\Zw f m l/\l<=n)/\O Cb w a
theorem Zw.len{f:M->Cd}{m:Ce}{l}(h:Zw f m l){n:M}(d:∀x,m x->x<n):l<=n:=by have⟨_,g,a,b,c⟩:=h;rw[c.length_eq,AG];exact GA n g a λx e=>d x<|(b x).1 e
section
variable(F:Hm)(P:CQ)(C:H')(s o r B u t:M)(w:I')(E:Ia P o r)(S:o<=4000)(K:NZ P)(h:Gg P (least P) C s o r B u t w)(H:Mf w)(N:0<L P)
include F E S K h H N
theorem Mu(a b:Cd):
 F' zy 42 #[N'<|Hv C s o r B u t,a,b] w λe w'=>(∀c,Gv P a b 0=T c->aO (EC P) ((least P).I c) 16400 w e w')/\(Gv P a b 0=Z->e=P' #[Y Z 0 0,O' zr]/\O Cb w w'):=by
 have R:O Cb w<|w.alloc<|R' (Hv C s o r B u t) 91:=(CT _ w).alloc _;have B0:=W.new w (Hv C s o r B u t) 91;have I:=h;have p:=E;have HN:=K;have a1:=H;have a2:=F;obtain⟨g,j,i,a4⟩:∃a l c,C=Y a l c:=by have⟨cs,q,_⟩:=h.pl;exact CA q
 subst a4;clear h E K H F;go_in;go_upto_region 1 with fail;change Code.wp _ _ _ _ (w.alloc<|R' (Hv (Y g j i) s o r B u t) 91);generalize w.alloc (R' (Hv (Y g j i) s o r B u t) 91)=x at*;have z:D (∀d,O Cb x d->d w=Y g j i/\d (w,1)=s/\d (w,2)=o/\d (w,3)=r/\d (w,4)=Value.map B/\d (w,5)=Value.map u/\d (w,6)=Value.map t/\(w:M)<d):=λd h'=>by have U:=B0.j h' id;have⟨q0,q1,q2,q3,q4,q5,q6⟩:=U.k7;exact⟨q0,q1,q2,q3,q4,q5,q6,Cz U⟩
 have⟨c0,c1,c2,c3,c4,c5,c6,lb⟩:=z.o x oq;go_wp2_with fail;apply(OG P (least P) (Y g j i) s o r B u t x (I.t8 R) p.xE p.ok.y a b).mono;rintro e w2 ⟨rfl,y⟩;have⟨m0,m1,m2,m3,m4,m5,m6,a6⟩:=z.o w2 y;have f:=R.trans y;clear y c0 c1 c2 c3 c4 c5 c6 lb;cases k:Gv P a b 0 with
 |none=> have m:=J k;clear k;simp only[Option.getD_none,Option.isSome_none];go_wp2_with fail;refine Ak (v:=P' #[Y Z 0 0,O' zr]) (by simp[zz,results42,go_sem]) Q ⟨λc q=>(by rw[m.o]at q;cases q),λ_=>⟨Q,f⟩⟩
 |some c=> have a0:Dh P o c:=LL k;have m:=J k;simp only[BK,Option.isSome_some];clear k;go_wp2_with fail;apply(Pu a2 P (Y g j i) s o r B u t w2 p S HN (I.t8 f) (λn d a5 a3=>a1 n d a5<|f.trans a3) c a0 N).mono;rintro e w3 ⟨v,l,rfl,s3,t3,V,X⟩;have HX:aO (EC P) ((least P).I c) 16400 w (T'<|P' #[v,O' zt]) w3:=⟨⟨v,l,Q,CN s3 f.size,t3,V⟩,f.trans X⟩;clear s3 t3 V X;go_wp2_with fail;refine Ak (v:=P' #[v,O' zt]) (by simp[zz,results42,go_sem]) Q ⟨λc' q=>?_,λq=>(by rw[m.o]at q;cases q)⟩;rw[m.o]at q;cases q;exact HX
end
theorem eB(F:Hm)(P C s o r B u t w)(E:Ia P o r)(h:Gg P (least P) C s o r B u t w)(n)(h1:1<=n)(h2:n<=r):
 F' zy 45 #[N'<|Hv C s o r B u t,n] w λe w'=>aO (DB P) ((least P).E n) 12 w e w':=by
 have d:O Cb w<|w.alloc<|R' (Hv C s o r B u t) 91:=(CT _ w).alloc _;have B0:=W.new w (Hv C s o r B u t) 91;obtain⟨g,j,i,a1⟩:∃a l c,C=Y a l c:=by have⟨cs,q,_⟩:=h.pl;exact CA q
 subst a1;go_in;go_upto_region 1 with fail;change Code.wp _ _ _ _ (w.alloc<|R' (Hv (Y g j i) s o r B u t) 91);generalize w.alloc (R' (Hv (Y g j i) s o r B u t) 91)=f at*;have HC:D (∀b,O Cb f b->b w=Y g j i/\b (w,1)=s/\b (w,2)=o/\b (w,3)=r/\b (w,4)=Value.map B/\b (w,5)=Value.map u/\b (w,6)=Value.map t/\(w:M)<b):=λb h'=>by have z:=B0.j h' id;have⟨q0,q1,q2,q3,q4,q5,q6⟩:=z.k7;exact⟨q0,q1,q2,q3,q4,q5,q6,Cz z⟩
 have⟨c0,c1,c2,c3,c4,c5,c6,lb⟩:=HC.o f oq;have⟨bk,R,y,t1⟩:=(h.t8 d).em;have⟨p,m⟩:=(y n).2 ⟨h1,h2⟩;have a2:=E.lc;have I:=(R.look Ha underlying87 (Ez f) (k:=n) (by omega) zt).2 p m;unfold Ly at I;simp only[BD]at I;have a0:=t1 n p m;clear R y t1 m;go_wp2_with fail;apply(RA F P (least P) (Y g j i) s o r B u t f (h.t8 d) E.xE p ((least P).E n) a0 λx q=>(LR E q).2).mono;rintro e w3 ⟨v,l,rfl,X,t3,U,V⟩;have HX:aO (DB P) ((least P).E n) 12 w (T'<|P' #[v,O' zt]) w3:=⟨⟨v,l,Q,CN X d.size,t3,U⟩,d.trans V⟩;clear X t3 U V;go_wp2_with fail;refine Ak (v:=P' #[v,O' zt]) (by simp[zz,results45,go_sem]) Q HX
theorem Y5(F:Hm)(P C s o r B u t w)(E:Ia P o r)(h:Gg P (least P) C s o r B u t w)(hm:s<P):
 F' zy 46 #[N'<|Hv C s o r B u t] w λe z=>∃v l,e=T' v/\CK w z v l/\Zw (DB P) (Iz P (least P) s) l/\L l<=12/\O Cb w z:=by
 have d:O Cb w<|w.alloc<|R' (Hv C s o r B u t) 91:=(CT _ w).alloc _;have R:=W.new w (Hv C s o r B u t) 91;obtain⟨f,i,g,a0⟩:∃a l c,C=Y a l c:=by have⟨cs,q,_⟩:=h.pl;exact CA q
 subst a0;go_in;go_upto_region 1 with fail;change Code.wp _ _ _ _ (w.alloc<|R' (Hv (Y f i g) s o r B u t) 91);generalize w.alloc (R' (Hv (Y f i g) s o r B u t) 91)=j at*;have U:D (∀b,O Cb j b->b w=Y f i g/\b (w,1)=s/\b (w,2)=o/\b (w,3)=r/\b (w,4)=Value.map B/\b (w,5)=Value.map u/\b (w,6)=Value.map t/\(w:M)<b):=λb X=>by have k:=R.j X id;have⟨q0,q1,q2,q3,q4,q5,q6⟩:=k.k7;exact⟨q0,q1,q2,q3,q4,q5,q6,Cz k⟩
 have⟨c0,c1,c2,c3,c4,c5,c6,lb⟩:=U.o j oq;go_wp2_with fail;apply(RA F P (least P) (Y f i g) s o r B u t j (h.t8 d) E.xE t (Iz P (least P) s) (h.t8 d).rs λx q=>q.lt E (Sy.le.rf _) hm).mono;rintro e I ⟨v,l,rfl,p,y,m,n⟩;have V:CK w I v l/\Zw (DB P) (Iz P (least P) s) l/\L l<=12/\O Cb w I:=⟨CN p d.size,y,m,d.trans n⟩;clear p y m n;go_wp2_with fail;go_ret;exact⟨v,l,Q,V⟩
section
variable(t:Hm)(P:CQ)(r:H')(i b f m g o:M)(w:I')(s:Ia P b f)(F:b<=4000)(x:NZ P)(h:Gg P (least P) r i b f m g o w)(u:Mf w)(E:0<L P)
include t s F x h u E
theorem YZ(n k:M)(K:1<=n)(h2:n<=b)(h3:k<4):
 F' zy 44 #[N'<|Hv r i b f m g o,n,k] w λe w'=>aO (EC P) ((least P).I<|pN n k) 16400 w e w':=by
 have B:O Cb w<|w.alloc<|R' (Hv r i b f m g o) 91:=(CT _ w).alloc _;have X:=W.new w (Hv r i b f m g o) 91;have HH:=h;have HA:=s;have HN:=x;have a1:=u;have a2:=t;obtain⟨j,z,y,a4⟩:∃a l c,r=Y a l c:=by have⟨cs,q,_⟩:=h.pl;exact CA q
 subst a4;clear h s x u t;have g1:=Hz (p:=(n:zw)<1) (by omega);have g2:=Hz (p:=(b:zw)<n) (by omega);have g3:zu ((k:zw)<0)=zr:=by simp
 have g4:=Hz (p:=(4:zw)<=k) (by omega);go_in;go_upto_region 1 with fail;change Code.wp _ _ _ _ (w.alloc<|R' (Hv (Y j z y) i b f m g o) 91);generalize w.alloc (R' (Hv (Y j z y) i b f m g o) 91)=C at*;have I:D (∀d,O Cb C d->d w=Y j z y/\d (w,1)=i/\d (w,2)=b/\d (w,3)=f/\d (w,4)=Value.map m/\d (w,5)=Value.map g/\d (w,6)=Value.map o/\(w:M)<d):=λd h'=>by have N:=X.j h' id;have⟨q0,q1,q2,q3,q4,q5,q6⟩:=N.k7;exact⟨q0,q1,q2,q3,q4,q5,q6,Cz N⟩
 have⟨c0,c1,c2,c3,c4,c5,c6,lb⟩:=I.o C oq;have a0:Dh P b<|pN n k:=zn ⟨n,k,K,h2,h3,Q⟩;go_upto_region 3 with fail;go_region_held3(λd=>d w=Y j z y/\d (w,1)=i/\d (w,2)=b/\d (w,3)=f/\d (w,4)=Value.map m/\d (w,5)=Value.map g/\d (w,6)=Value.map o) (go_keep)
  (first
    |(go_at_call 82;apply FC<|Nt n k _ K (by omega)<|by omega)
    |(go_at_call 81;apply(Pu a2 P (Y j z y) i b f m g o C.drew HA F HN (HH.t8 B.drew) (λn d a5 a3=>a1 n d a5<|B.drew.trans a3) (pN n k) a0 E).mono;rintro e V ⟨v,l,rfl,S,U,R,H⟩;have HX:aO (EC P) ((least P).I<|pN n k) 16400 w (T'<|P' #[v,O' zt]) V:=⟨⟨v,l,Q,CN S B.size,U,R⟩,B.drew.trans H⟩;have OO:=O.trans ((CT Cb C).drew) H;clear S U R H;have⟨m0,m1,m2,m3,m4,m5,m6,a6⟩:=I.o V OO))
 all_goals
  go_wp2_with fail;refine Ak (v:=P' #[v,O' zt]) (by simp[zz,results44,go_sem]) Q HX
end
structure K9(P:CQ)(mn pn cn:M):Prop where
 ok:Ia P pn cn
 pn:pn<=4000
 nm:NZ P
 mn:mn<P
def Hg(P:CQ)(d f a h:M)(w:I'):Prop:=∃c e b g,W h (Hv c d f a e b g) 95 w/\Gg P (least P) c d f a e b g w
theorem Hg.t8(h:Hg U B C R X P)(k:O Cb P y0):Hg U B C R X y0:=by have⟨b,e,a,f,c,d⟩:=h;exact⟨b,e,a,f,c.j k id,d.t8 k⟩
def aN(f:M->Cd)(m:Ce)(n:M)(w:I')(e:Ending)(a:I'):Prop:=
 (∃v l,e=P' #[v,G A 0]/\CK w a v l/\Zw f m l/\l<=n)/\O Cb w a
theorem MN(a l c w):F' zy 41 #[Y a l c,O' zt] w λe b=>e=P' #[Y a l c,G A 0]/\b=w:=by go_in;go_wp2_with fail;refine Ak (v:=P' #[Y a l c,G A 0]) (by simp[zz,results41,go_sem]) Q ⟨Q,Q⟩
theorem OB(a l c w):F' zy 41 #[Y a l c,O' zr] w λe b=>e=P' #[Y Z 0 0,G A 8]/\b=w:=by go_in;go_wp2_with fail;refine Ak (v:=P' #[Y Z 0 0,G A 8]) (by simp[zz,results41,go_sem]) Q ⟨Q,Q⟩
theorem YJ(R:Hm)(P i d f u w)(b:K9 P i d f)(h:Hg P i d f u w)(N:Mf w)(n k:M)(H:1<=n)(I:n<=d)(K:k<4):
 F' zy 21 #[Z' u,n,k] w λe X=>aN (EC P) ((least P).I<|pN n k) 16400 w e X:=by
 have⟨F,U,z,V,g,r⟩:=h;obtain⟨B,E,C,S⟩:∃a l c,F=Y a l c:=by have⟨cs,q,_⟩:=r.pl;exact CA q
 subst S;have⟨q0,q1,q2,q3,q4,q5,q6⟩:=g.k7;have lb:=Cz g;clear g;go_in;go_wp2_with fail;refine(YZ R P (Y B E C) i d f U z V w b.ok b.pn b.nm r N (BM (Ar _) b.mn) n k H I K).mono ?_;rintro e w2 ⟨⟨v,l,rfl,j,x,s⟩,t⟩;obtain⟨m,p,o,rfl⟩:=CA j;have y:aN (EC P) ((least P).I<|pN n k) 16400 w (T'<|P' #[Y m p o,G A 0]) w2:=⟨⟨_,l,Q,j,x,s⟩,t⟩;clear j x s t;go_wp2_with(go_at_call 41;refine FC (MN m p o _) ?_);refine Ak (v:=P' #[Y m p o,G A 0]) (by simp[zz,results21,go_sem]) Q y
theorem WK(I:Hm)(P f g b s w)(x:K9 P f g b)(h:Hg P f g b s w)(n)(F:1<=n)(H:n<=b):
 F' zy 23 #[Z' s,n] w λe S=>aN (DB P) ((least P).E n) 12 w e S:=by
 have⟨E,N,y,R,d,o⟩:=h;obtain⟨z,C,B,K⟩:∃a l c,E=Y a l c:=by have⟨V,q,_⟩:=o.pl;exact CA q
 subst K;have⟨q0,q1,q2,q3,q4,q5,q6⟩:=d.k7;have X:=Cz d;clear d;go_in;go_wp2_with fail;refine(eB I P (Y z C B) f g b N y R w x.ok o n F H).mono ?_;rintro e U ⟨⟨v,l,rfl,i,t,p⟩,r⟩;obtain⟨j,m,k,rfl⟩:=CA i;have u:aN (DB P) ((least P).E n) 12 w (T'<|P' #[Y j m k,G A 0]) U:=⟨⟨_,l,Q,i,t,p⟩,r⟩;clear i t p r;go_wp2_with(go_at_call 41;refine FC (MN j m k _) ?_);refine Ak (v:=P' #[Y j m k,G A 0]) (by simp[zz,results23,go_sem]) Q u
theorem WQ(N:Hm)(P:CQ)(i j f x:M)(w:I')(d:K9 P i j f)(h:Hg P i j f x w)(K:Mf w)(a b:Cd)(c:M)(p:Gv P a b 0=c):
 F' zy 17 #[Z' x,a,b] w λe V=>aN (EC P) ((least P).I c) 16400 w e V:=by
 have⟨I,S,C,U,g,r⟩:=h;obtain⟨E,H,F,R⟩:∃a l c,I=Y a l c:=by have⟨cs,q,_⟩:=r.pl;exact CA q
 subst R;have⟨q0,q1,q2,q3,q4,q5,q6⟩:=g.k7;have lb:=Cz g;have z:=J p;clear g p;go_in;go_wp2_with fail;refine(Mu N P (Y E H F) i j f S C U w d.ok d.pn d.nm r K (BM (Ar _) d.mn) a b).mono ?_;rintro e X ⟨s,_⟩;obtain⟨⟨v,l,rfl,k,y,t⟩,u⟩:=s c z.o;clear s;obtain⟨m,o,n,rfl⟩:=CA k;have B:aN (EC P) ((least P).I c) 16400 w (T'<|P' #[Y m o n,G A 0]) X:=⟨⟨_,l,Q,k,y,t⟩,u⟩;clear k y t u;go_wp2_with(go_at_call 41;refine FC (MN m o n _) ?_);refine Ak (v:=P' #[Y m o n,G A 0]) (by simp[zz,results17,go_sem]) Q B
theorem YN(t:Hm)(P b g d k w)(i:K9 P b g d)(h:Hg P b g d k w):
 F' zy 24 #[Z' k] w λe m=>∃v l,e=T' v/\CK w m v l/\Zw (DB P) (Iz P (least P) b) l/\L l<=12/\O Cb w m:=by
 have⟨s,y,n,z,f,j⟩:=h;obtain⟨o,r,p,x⟩:∃a l c,s=Y a l c:=by have⟨B,q,_⟩:=j.pl;exact CA q
 subst x;have⟨E,F,H,I,K,N,R⟩:=f.k7;have C:=Cz f;clear f;go_in;go_wp2_with fail;refine(Y5 t P (Y o r p) b g d y n z w i.ok j i.mn).mono ?_;rintro e S ⟨v,l,rfl,u⟩;go_wp2_with fail;go_ret;exact⟨v,l,Q,u⟩
def Nu(b:Bd):Prop:=∀s,s∈b.f->(s.e=1->1<=s.t/\s.t<=b.pl)/\(s.e=8->1<=s.t/\s.t<=b.g)
def aU(b c:Bd):Prop:=Nu c/\b.pl<=c.pl/\b.g<=c.g
theorem aU.tr{b c:Bd}(h:aU q3 b)(k:aU b c):aU q3 c:=⟨k.1,As h.2.1 k.2.1,As h.2.2 k.2.2⟩
theorem Wg{f:DX->DX}{s:DX}(h:s∈p9.modify B f):∃t,t∈p9/\(s=t\/s=f t):=by grind[List.mem_iff_getElem]
theorem aU.tk{b:Bd}(h:aU q3 b)(i n):aU q3<|b.tk i n:=⟨λs d=>by
 obtain⟨t,c,rfl|rfl⟩:=Wg d
 .exact h.1 _ c
 .exact h.1 t c,h.2⟩
theorem aU.nx{b:Bd}(h:aU q3 b)(i n):aU q3<|b.nx i n:=⟨λs d=>by
 obtain⟨t,c,rfl|rfl⟩:=Wg d
 .exact h.1 _ c
 .exact h.1 t c,h.2⟩
theorem Nu.stepA(h:Nu q3)(c s a):aU q3<|CV c s a q3:=by
 have e:(Proofs.YtbkhmmeecjnnkaaGreatDoor.CV c s a q3).pl=if s.e=1 then q3.pl+1 else q3.pl:=Q
 have f:(Proofs.YtbkhmmeecjnnkaaGreatDoor.CV c s a q3).g=if s.e=8 then q3.g+1 else q3.g:=Q
 refine⟨λu d=>?_,by grind,by grind⟩;rcases AJ.1 d with q|q
 have:=h u q;grind;grind[Db]
mutual
theorem ZR(fn:Cc):∀(t:TS) (a:M) (b:Bd),Nu b->aU b (Gy fn t a b)
 |.mk s [],a,b,h=>by rw[Gy];exact h.stepA fn s a
 |.mk s [(_,ts)],a,b,h=>by
  have hA:=h.stepA fn s a;rw[Gy];split
  .exact(hA.tr<|LQ fn ts a _ hA.1).tk _ _
  .split
   .exact(hA.tr<|LQ fn ts _ _ hA.1).tk _ _
   .exact hA
 |.mk s ((_,ts)::(_,ts2)::r),a,b,h=>by
  have hA:=h.stepA fn s a;rw[Gy];split
  .have h1:=(hA.tr<|LQ fn ts a _ hA.1).tk b.f<|Dx ts a<|CV fn s a b;exact(h1.tr<|LQ fn ts2 a _ h1.1).nx _ _
  .exact hA
theorem LQ(fn:Cc):∀(ts:Dj) (a:M) (b:Bd),Nu b->aU b (DI fn ts a b)
 |[],a,b,h=>by rw[DI];exact⟨h,Ad _,Ad _⟩
 |[t],a,b,h=>by rw[DI];exact ZR fn t a b h
 |t::t2::ts,a,b,h=>by have h1:=ZR fn t (b.f+IL t) b h;rw[DI];exact h1.tr<|LQ fn (t2::ts) a _ h1.1
end
theorem gI(c t b a):Nu (LK c t b a)/\b<=(LK c t b a).pl/\a<=(LK c t b a).g:=LQ c t.i (FG t.i) (XM t b a) λs d=>by cases d
theorem Wx(c):∀(l:Df) (b a:M),b<=(Ew c l b a).1/\a<=(Ew c l b a).2
 |[],_,_=>⟨Ad _,Ad _⟩
 |t::l,b,a=>by have d:=gI c t b a;have e:=Wx c l (LK c t b a).pl (LK c t b a).g;grind[Ew]
theorem WA(b):∀(l:Df) (c a:M) (f:nD),f∈Du b l c a->∀s,s∈f.f->(s.e=1->1<=s.t/\s.t<=(Ew b l c a).1)/\(s.e=8->1<=s.t/\s.t<=(Ew b l c a).2)
 |[],_,_,f,h=>by cases h
 |t::l,c,a,f,h=>by
  rw[Du]at h;rw[Ew];rcases AY.1 h with rfl|q
  .intro s d;have e:=(gI b t c a).1 s d;grind[Wx]
  .exact WA b l _ _ f q
theorem OE{fn:Cc}{par:Cf}:∀(l:Df) (b a:M),(∀t,t∈l->Mn fn par t.i (t.m.map λp=>p.a))->Ew fn l b a=(b+(l.map λt=>nL 1 t.i).sum,a+(l.map λt=>nL 8 t.i).sum)
 |[],_,_,_=>rfl
 |t::l,b,a,c=>by obtain⟨_,d,e,_⟩:=Ns (fn:=fn) (par:=par) t b a<|c t<|A9 ..;rw[Ew,d,e,OE l _ _ λt f=>c t<|Ax _ f];grind
theorem MQ{f g:TF->M}(h:∀t,f t<=g t):∀(l:Df),(l.map f).sum<=(l.map g).sum
 |[]=>Ad _
 |t::l=>by have a:=h t;have b:=MQ h l;grind
theorem Fi.anHy(a:Fi y2):K9 (Du (DN y2) y2 0 0) (vx (DN y2) DF) (Ew (DN y2) y2 0 0).1 (Ew (DN y2) y2 0 0).2:=by
 have n:=OE (fn:=DN y2) (par:=UX y2) y2 0 0 a.xZ.ok;have k:=MQ (f:=λt=>nL 1 t.i) (g:=λt=>FG t.i) (λt=>Pj 1 t.i) y2;have m:=MQ (f:=λt=>nL 8 t.i) (g:=λt=>FG t.i) (λt=>Pj 8 t.i) y2;have o:=a.sum;have c:(Ew (DN y2) y2 0 0).1<=4000:=by grind
 have j:(Ew (DN y2) y2 0 0).2<=4000:=by grind
 have e:=GH (fn:=DN y2) y2 0 0;refine⟨⟨a.zM,by rw[e];exact a.xZ.xE,by omega,by omega,λi d s b=>?_⟩,c,a.az,?_⟩;have h:CO (Du (DN y2) y2 0 0) i∈Du (DN y2) y2 0 0:=by grind[CO]
 have:=WA (DN y2) y2 0 0 _ h s b;exact⟨this.1,this.2,(a.zM.ok i d s b).wU⟩;have:=(EF (l:=DN y2) (s:=DF) a.xZ.main).1;grind[DN]
theorem Ea(h:zx (World.heap P) P y0):O Cb P y0:=⟨h.os,h.tape,h.output,h.size,λk a _=>h.block k a⟩
theorem T4(hc:XA)(s:Cd)(b:Df)(y:M)(i:Fi b)(E:∀t,t∈b->∀u,u∈t.i->Sx 4000 u)(w:I')(tb:Mz w)(P:0<(w:M))
 (C:F' zy 29 #[s] w λe d=>∃(g n B:M) (a:Ch) (l c:M) (U:Ce),e=P' #[Y g n B,N' #[Y a l c,y],G A 0,G A 0]/\Gt 4000 U d (Y a l c) b/\(∀k,U k->k<(d:M))/\zx w w d):
 F' zy 8 #[s] w λe d=>∃x,e=T' (P' #[Z'<|T ⟨x,0,Z⟩,G A 0,G A 0])/\(w:M)<=x/\Hg (Du (DN b) b 0 0) (vx (DN b) DF) (Ew (DN b) b 0 0).1 (Ew (DN b) b 0 0).2 x d/\O Cb w d:=by
 have m:=J i.anHy;have X:=i.bd E;clear i E;go_in;go_wp2_with fail;apply C.mono;rintro e w2 ⟨g,n,B,a,l,c,U,rfl,a3,hu,H⟩;have O2:=Ea H;have h:=(CT Cb w2).alloc<|R' #[Y a l c,y] 81;clear H C;go_wp2_with(first
  |(go_at_call 31;refine(aB 4000 U (Y a l c) b y _ (a3.j h Ed) (λk hk=>by have:=hu k hk;have:=h.size;omega) X).mono ?_;rintro e w4 ⟨fv,rfl,a2,I⟩;have j:=O2.trans<|h.trans I;clear I)
  |(go_at_call 30;apply(sM hc (Du (DN b) b 0 0) fv (vx (DN b) DF) (Ew (DN b) b 0 0).1 (Ew (DN b) b 0 0).2 w4 m.ok m.nm (a2.wX<|Ar _) m.mn (tb.j j id P)<|Av P j.size).mono;rintro e f ⟨a0,p,o,r,rfl,N,K⟩;have z:=j.trans K;clear K;obtain⟨R,V,S,rfl⟩:∃a l c,a0=Y a l c:=(match N.pl with|⟨_,q,_⟩=>CA q);unfold Hv))
 have a1:=W.new f (Hv (Y R V S) (vx (DN b) DF) (Ew (DN b) b 0 0).1 (Ew (DN b) b 0 0).2 p o r) 95;have F:=(CT Cb f).alloc<|R' (Hv (Y R V S) (vx (DN b) DF) (Ew (DN b) b 0 0).1 (Ew (DN b) b 0 0).2 p o r) 95;refine Ak (v:=P' #[Z' f,G A 0,G A 0]) (by simp[zz,results8,go_sem]) Q ⟨f,Q,z.size,⟨_,p,o,r,a1,N.t8 F⟩,z.trans F⟩
theorem YU(P:CQ)(C:H')(n f j o m p:M)(w:I')(g:Ia P f j)(h:Gg P (least P) C n f j o m p w)(a b t u:Cd):
 F' zy 48 #[N'<|Hv C n f j o m p,a,b,t,u] w λe w'=>((∀c d,Gv P a b 0=T c->Gv P t u 0=T d->∃r:Bool,e=P' #[r,O' zt]/\(r=zt↔∃x,(least P).I c x/\(least P).I d x))/\(Gv P a b 0=Z\/Gv P t u 0=Z->e=P' #[O' zr,O' zr]))/\O Cb w w':=by
 have O0:O Cb w<|w.alloc<|R' (Hv C n f j o m p) 91:=(CT _ w).alloc _;have B0:=W.new w (Hv C n f j o m p) 91;obtain⟨y,B,z,a2⟩:∃a l c,C=Y a l c:=by have⟨cs,q,_⟩:=h.pl;exact CA q
 subst a2;go_in;go_upto_region 1 with fail;change Code.wp _ _ _ _ (w.alloc<|R' (Hv (Y y B z) n f j o m p) 91);generalize w.alloc (R' (Hv (Y y B z) n f j o m p) 91)=R at*;have N:D (∀i,O Cb R i->i w=Y y B z/\i (w,1)=n/\i (w,2)=f/\i (w,3)=j/\i (w,4)=Value.map o/\i (w,5)=Value.map m/\i (w,6)=Value.map p/\(w:M)<i):=λi h'=>by have hb:=B0.j h' id;have⟨q0,q1,q2,q3,q4,q5,q6⟩:=hb.k7;exact⟨q0,q1,q2,q3,q4,q5,q6,Cz hb⟩
 have⟨c0,c1,c2,c3,c4,c5,c6,lb⟩:=N.o R oq;go_wp2_with fail;apply(OG P (least P) (Y y B z) n f j o m p R (h.t8 O0) g.xE g.ok.y a b).mono;rintro e w2 ⟨rfl,o2⟩;have⟨m0,m1,m2,m3,m4,m5,m6,a3⟩:=N.o w2 o2;have O2:=O0.trans o2;clear c0 c1 c2 c3 c4 c5 c6 lb;go_wp2_with fail;apply(OG P (least P) (Y y B z) n f j o m p w2 (h.t8 O2) g.xE g.ok.y t u).mono;rintro e K ⟨rfl,o3⟩;have⟨n0,n1,n2,n3,n4,n5,n6,a4⟩:=N.o K<|o2.trans o3;have I:=O2.trans o3;clear o3 m0 m1 m2 m3 m4 m5 m6 a3;cases s:Gv P a b 0 with
 |none=> have F:=J s;clear s;simp only[Option.getD_none,Option.isSome_none];go_wp2_with fail;refine Ak (v:=P' #[O' zr,O' zr]) (by simp[zz,results48,go_sem]) Q ⟨⟨λc d q=>(by rw[F.o]at q;cases q),λ_=>Q⟩,I⟩
 |some c=>
  cases E:Gv P t u 0 with
  |none=> have H:=J E;clear s E;simp only[Option.getD_none,Option.isSome_none,BK,Option.isSome_some];go_wp2_with fail;refine Ak (v:=P' #[O' zr,O' zr]) (by simp[zz,results48,go_sem]) Q ⟨⟨λc d _ q=>(by rw[H.o]at q;cases q),λ_=>Q⟩,I⟩
  |some d=> have F:=J s;have H:=J E;have k1:Dh P f c:=LL s;have k2:Dh P f d:=LL E;have⟨bk,X,S,t1⟩:=(h.t8 I).pm;have⟨x1,U⟩:=(S c).2 k1;have⟨x2,V⟩:=(S d).2 k2;have lc:=k1.lt g.xE g.ok.y g.lp;have ld:=k2.lt g.xE g.ok.y g.lp;have g1:=(X.look Ha underlying87 (Ez K) (k:=c) (by omega) zr).2 x1 U;have g2:=(X.look Ha underlying87 (Ez K) (k:=d) (by omega) zr).2 x2 V;unfold Ly at g1 g2;have a0:=t1 c x1 U;have a1:=t1 d x2 V;clear s E k1 k2 X S t1 U V;simp only[BK,Option.isSome_some];go_wp2_with fail;apply(cN x1 x2 _ _ K a0 a1).mono;rintro e w4 ⟨r,rfl,hr,o4⟩;have HR:=J hr;have O4:=I.trans o4;clear hr o4;go_wp2_with fail;refine Ak (v:=P' #[r,O' zt]) (by simp[zz,results48,go_sem]) Q ⟨⟨λc' d' q q'=>?_,λq=>?_⟩,O4⟩;rw[F.o]at q;rw[H.o]at q';cases q;cases q';exact⟨r,Q,HR.o⟩;rw[F.o,H.o]at q;rcases q with q|q<;>cases q
theorem YD(P:CQ)(B C p H:M)(w:I')(R:K9 P B C p)(h:Hg P B C p H w)(a b g i:Cd):
 F' zy 26 #[Z' H,a,b,g,i] w λe w'=>((∀c d,Gv P a b 0=T c->Gv P g i 0=T d->∃r:Bool,e=P' #[r,G A 0]/\(r=zt↔∃x,(least P).I c x/\(least P).I d x))/\(Gv P a b 0=Z\/Gv P g i 0=Z->e=P' #[O' zr,G A 8]))/\O Cb w w':=by
 have⟨fv,pb,S,rb,u,F⟩:=h;obtain⟨U,X,V,a0⟩:∃a l c,fv=Y a l c:=by have⟨cs,q,_⟩:=F.pl;exact CA q
 subst a0;have⟨q0,q1,q2,q3,q4,q5,q6⟩:=u.k7;have lb:=Cz u;clear u;go_in;go_wp2_with fail;refine(YU P (Y U X V) B C p pb S rb w R.ok F a b g i).mono ?_;rintro e w2 ⟨⟨s,t⟩,m⟩;by_cases f:Gv P a b 0=Z\/Gv P g i 0=Z
 .cases t f;have n:=f;have o:=m;clear s t f m;go_wp2_with fail;refine Ak (v:=P' #[O' zr,G A 8]) (by simp[zz,results26,go_sem]) Q ⟨⟨λc d q j=>?_,λ_=>Q⟩,o⟩;rcases n with k|k
  rw[k]at q;cases q;rw[k]at j;cases j
 .obtain⟨c,y⟩:∃c,Gv P a b 0=T c:=Option.isSome_iff_exists.1<|Option.isSome_iff_ne_none.2 λq=>f<|zo q;obtain⟨d,z⟩:∃d,Gv P g i 0=T d:=Option.isSome_iff_exists.1<|Option.isSome_iff_ne_none.2 λq=>f<|zn q;obtain⟨r,rfl,E⟩:=s c d y z;obtain⟨I,K,N⟩:=Dq y z E;have n:=f;have o:=m;clear s t f m y z E;go_wp2_with fail;refine Ak (v:=P' #[r,G A 0]) (by simp[zz,results26,go_sem]) Q ⟨⟨λc' d' q j=>?_,λq=>Bm q n⟩,o⟩;rw[I.o]at q;rw[K.o]at j;cases q;cases j;exact⟨r,Q,N.o⟩
theorem Hg.p{w}(h:Hg U B C R X w)(e:O (λk=>k=v0) w P)(c:W v0 q1 q0 w)(a:q0≠3/\q0≠9/\q0≠206/\q0≠153/\q0≠95)(j:0≠v0):Hg U B C R X P:=by have⟨g,l,f,m,d,i⟩:=h;exact⟨g,l,f,m,d.j e λq=>by subst q;unfold W at d c;rw[d]at c;cases c;exact a.2.2.2.2 Q,i.other e c ⟨a.1,a.2.1,a.2.2.1,a.2.2.2.1⟩ j⟩

/- Part of the proof. -/
import Derived.Test.YtbkhmmeecjnnkaaGreatDoorG01
import Derived.Deep.CutBlock
import Derived.Maps.OwnSet
import Derived.StringKeys
set_option maxRecDepth 100000
set_option maxHeartbeats 40000000
namespace Go.Proofs.YtbkhmmeecjnnkaaGreatDoor
open Go.RowKit Go.Proofs.Tryz Go.Maps
open Option renaming none->Z,some->T
open Value renaming int->G,slice->Y,pointer->Z',string->Y',tuple->P',bool->O',agg->N',ownBlock->L'
open IntKind renaming i64->A
open Ending renaming returned->T'
open Obj renaming cells->R'
open List renaming length->L
open World renaming cell?->K',ownsRow->J'
open Go renaming World->I',Value->H',Calls->F',maxLen->E',Addr->A',results->zz
open Go.Proofs.Tryz renaming prog->zy
open Go.RowKit renaming Below->zx,intOf->zm
open _root_ renaming Nat->M,Int->zw,False->zv,rfl->Q,decide->zu
open Bool renaming true->zt,false->zr
open Or renaming inl->zo,inr->zn
variable {q1:Cg}{u0:Cd}{z8:Cm}{t0:FS}{v9:List (Ci)}{x1:C8}{q2:Cf}{y2:Df}{o8:DH}{y1:Ci}{B C R X o1 p0 p4 s2 s3 v0:Nat}{z1:Nat->Prop}{v4:Sc}{q0:TypeId}{V s0 u1 z0:Value}{P v1 y0:World}
theorem Tryz.infoTk:(Tryz.prog.info? 104).map (λi=>(i.zero,i.size,i.bytes))=T (T<|N' #[Y' ByteArray.empty,G A 0,G A 0],3,32):=by kernel_rfl
theorem Qs(w:I')(a b c:H')(t:TypeId):∀j u,[a,b,c][j]? =T u->(w.alloc<|R' #[a,b,c] t) (((w:M):A').add j)=T u:=by
 intro j u h;rcases j with _|_|_|j
 simp at h;subst h;simp[Addr.add];simpa[Addr.add]using h;simpa[Addr.add]using h;simp at h
theorem JX(d:B=P)(a b c t):∀j u,[a,b,c][j]? =T u->(P.alloc<|R' #[a,b,c] t) ((B:A').add j)=T u:=by grind[Qs]
def qE(w:I')(s:Cd)(V:M ⊕ DH)(e:Ending)(a:I'):Prop:=
 match V with
 |.inl p=>e=P' #[Y Z 0 0,p,O' zr]/\zx w w a
 |.inr l=>∃v,e=P' #[v,G A 0,O' zt]/\J' a w 104 3 v (L l+1) (DZ<|l++[⟨ByteArray.empty,s,0⟩])/\zx w w a
theorem uW{p V}(h:D<|Ex u0 B C o8=V)(a:u0-C<=B)(b:C<u0)(c:Dz u0 C=.inl p):V=.inl p:=by rw[<-h.o,Jq a b c]
theorem oX{j a t V}(h:D<|Ex u0 B C a=V)(k:u0-C<=B)(c:C<u0)(d:Dz u0 C=.inr (t,j)):∃b,u0-j<=b/\D (Ex u0 b j (a++t.toList)=V)/\C<j/\j<=u0:=by have⟨b,e,g⟩:=IV (acc:=a) k c d;exact⟨b,e,g▸h,Lr c d⟩
theorem J3(s)(F:s.size<=4000)(w):
 F' zy 32 #[Y' s] w λe w'=>qE w s (Ex s s.size 0 []) e w':=by
 obtain⟨i0,U,a6,a7,a8⟩:=Bx Tryz.infoTk;generalize R:Ex s s.size 0 []=V;have K:D<|Ex s s.size 0 []=V:=R;clear R;go_enter func32,ntmps32;go_wp2;go_loopw[5,6] (λv j wr=>∃(k f:M) (m:DH),k<=s.size/\L m<=k/\j=G A k/\J' wr (w:M) 104 3 v (L m) (DZ m)/\zx (w:M) w wr/\s.size-k<=f/\D (Ex s f k m=V)) (λ_ j _=>s.size-(zm j).toNat)
 case atStart=>exact⟨0,s.size,[],by omega,by simp,Q,An _ _ _ _,Below.refl _ _,by omega,K⟩
 case round=>
  obtain⟨k,f,m,r,b3,rfl,n,c,d,b⟩:=hrel;clear K;by_cases a:k<s.size
  .have b9:=JY s k a;by_cases u:(DR s k).2=0;have b1:(((DR s k).2:zw)==0)=zt:=by simp[u]
   obtain rfl:=uW b d a (p:=k) (by simp[Dz, *]);rotate_left;have b1:(((DR s k).2:zw)==0)=zr:=by simp[u]
   by_cases a1:(DR s k).1=32;have e1:((DR s k).1==(32:zw))=zt:=by simp[a1]
   obtain⟨h,i,g,l⟩:=oX b d a (t:=Z) (j:=k+1) (by simp[Dz, *]);rotate_left;have e1:((DR s k).1==(32:zw))=zr:=by simp;omega
   by_cases a2:(DR s k).1=9;have e2:((DR s k).1==(9:zw))=zt:=by simp[a2]
   obtain⟨h,i,g,l⟩:=oX b d a (t:=Z) (j:=k+1) (by simp[Dz, *]);rotate_left;have e2:((DR s k).1==(9:zw))=zr:=by simp;omega
   by_cases a3:(DR s k).1=10;have e3:((DR s k).1==(10:zw))=zt:=by simp[a3]
   obtain⟨h,i,g,l⟩:=oX b d a (t:=Z) (j:=k+1) (by simp[Dz, *]);rotate_left;have e3:((DR s k).1==(10:zw))=zr:=by simp;omega
   have b4:=Qw s s.size k r;by_cases y:(DR s k).1=35/\(Kw s s.size k).2=zt;have P:((DR s k).1==(35:zw))=zt:=by simp[y]
   have a9:=y.2;obtain⟨h,i,g,l⟩:=oX b d a (t:=Z) (j:=(Kw s s.size k).1) (by simp[Dz, *]);rotate_left;by_cases N:(DR s k).1=35;have P:((DR s k).1==(35:zw))=zt:=by simp[N]
   have a9:(Kw s s.size k).2=zr:=by simpa[N]using y
   obtain rfl:=uW b d a (p:=(Kw s s.size k).1) (by simp[Dz, *]);rotate_left;have P:((DR s k).1==(35:zw))=zr:=by simp;omega
   by_cases X:K5 (DR s k).1=zt;have c2:=MT s s.size k 0 r;have c1:=TK a u X;by_cases b0:iX (s.extract k (Ie s s.size k 0).1).toList=zt;obtain⟨h,i,g,l⟩:=oX b d a (t:=T ⟨s.extract k (Ie s s.size k 0).1,k,2⟩) (j:=(Ie s s.size k 0).1) (by simp[Dz, *]);rotate_left;have b7:iX (s.extract k (Ie s s.size k 0).1).toList=zr:=by simpa using b0
   by_cases c0:8<(Ie s s.size k 0).2;obtain rfl:=uW b d a (p:=k) (by simp[Dz, *]);rotate_left;obtain⟨h,i,g,l⟩:=oX b d a (t:=T ⟨s.extract k (Ie s s.size k 0).1,k,1⟩) (j:=(Ie s s.size k 0).1) (by simp[Dz, *]);rotate_left;have b8:K5 (DR s k).1=zr:=by simpa using X
   by_cases S:48<=(DR s k).1/\(DR s k).1<=51;have b5:=S.1;have b6:=S.2;obtain⟨h,i,g,l⟩:=oX b d a (t:=T ⟨s.extract k<|k+1,k,3⟩) (j:=k+1) (by simp[Dz, *]);rotate_left;have B:(DR s k).1<48\/51<(DR s k).1:=by omega
   rcases B with B|B
   by_cases H:Km (DR s k).1=zt;obtain⟨h,i,g,l⟩:=oX b d a (t:=T ⟨s.extract k<|k+1,k,4⟩) (j:=k+1) (by simp[Dz, *]);rotate_left;have b2:Km (DR s k).1=zr:=by simpa using H
   obtain rfl:=uW b d a (p:=k) (by simp[Dz, *]);rotate_left;by_cases H:Km (DR s k).1=zt;obtain⟨h,i,g,l⟩:=oX b d a (t:=T ⟨s.extract k<|k+1,k,4⟩) (j:=k+1) (by simp[Dz, *]);rotate_left;have b2:Km (DR s k).1=zr:=by simpa using H
   obtain rfl:=uW b d a (p:=k) (by simp[Dz, *]);rotate_left;all_goals
    clear b u;go_wp2_with(first|(go_at_call 57;refine FC (Kh _ _ ?_ ?_ _) ?_;exact a;exact F)|(go_at_call 58;refine FC (Kz _ _) ?_)|(go_at_call 59;refine FC (lL _ _) ?_)|(go_at_call 60;refine FC (Vn s k s.size ?_ ?_ ?_ _) ?_;exact r;exact F;omega)|(go_at_call 61;refine FC (mL s k s.size ?_ ?_ ?_ _) ?_;exact r;exact F;omega)|(go_at_call 62;refine FC (VX _ _) ?_)|(at_builtin;refine AO _ Q _ _ 41 Q (w:M) 104 i0 (N' #[Y' ByteArray.empty,G A 0,G A 0]) 3 32 underlying41 U a6 a7 a8 Q (by decide) _ _ _ Q (by first|exact n.alloc _|exact(n.alloc _).alloc _) _ 1 1 _ Q Q (JX (by simp) _ _ _ _) (λx o=>by simp at o;rcases o with rfl|rfl|rfl<;>rfl) (by unfold E';omega) (by omega) (by have:=c.size;simp;omega) ?_;intro v' I E q a0));first
     |go_ret3
      exact⟨Q,by first|exact c|exact c.alloc c.size _⟩
     |go_roundw
      case rel=>exact⟨_,h,m,by omega,by omega,by go_num,n,c,i,by simpa using g⟩
      case measure=>simp[intOf];omega
     |have z:zx (w:M) w I:=Below.grown (by first|exact c.alloc c.size _|exact(c.alloc c.size _).alloc (by have:=c.size;simp;omega) _) q (by have:=c.size;simp;omega) λj C=>(n.lt j C).1
      clear q a0
      go_wp2
      go_roundw
      case rel=>exact⟨_,h,_,by omega,by simp;omega,by go_num,by simp only[Option.toList_some];rw[J8,Ah];exact E,z,i,g⟩
      case measure=>simp[intOf];omega
  .have hv:V=.inr m:=by rw[<-b.o,QX a]
   subst hv;clear b;go_wp2_with((at_builtin;refine AO _ Q _ _ 41 Q (w:M) 104 i0 (N' #[Y' ByteArray.empty,G A 0,G A 0]) 3 32 underlying41 U a6 a7 a8 Q (by decide) _ _ _ Q (n.alloc _) ⟨(wr:M),0,Z⟩ 1 1 [Y' ByteArray.empty,G A (s.size:zw),G A 0] Q Q (JX (by simp) _ _ _ _) (λx o=>by simp at o;rcases o with rfl|rfl|rfl<;>rfl) (by unfold E';omega) (by omega) (by have:=c.size;simp;omega) ?_;intro v' I E q a0));have z:zx (w:M) w I:=Below.grown (c.alloc c.size _) q (by have:=c.size;simp;omega) λj C=>(n.lt j C).1;go_wp2;go_ret3;exact⟨v',Q,by rw[J8];exact E,z⟩
def GL(d:DH):M->M->Option M->DH->DH×M×Option M
 |0,a,b,c=>(c,a,b)
 |f+1,a,b,c=>if b=Z/\(CI d a).h=1 then GL d f (a+1) b (c++[CI d a])else(c,a,b)
theorem Kk{b a}(h:¬(a=Z/\(CI b C).h=1)):GL b B C a o8=(o8,C,a):=by
 cases B with
 |zero=>rfl
 |succ B=>simp only[GL,Ba h]
theorem ZU{a b acc}(e:R-1-C<=B)(d:C<R)(i:(CI a<|R-1).h=0)(h:b=Z/\(CI a C).h=1):
 C+1<R/\∃c,R-1-(C+1)<=c/\GL a B C b acc=GL a c (C+1) b (acc++[CI a C]):=by
 have g:C≠R-1:=by grind
 refine⟨by omega,?_⟩;cases B with
 |zero=>omega
 |succ B=>exact⟨B,by omega,by grind[GL]⟩
theorem Wa{d:DH}(e:(CI d<|B-1).h=0):∀(f a:M) (b:Option M) (c:DH),a<B->a<=(GL d f a b c).2.1/\(GL d f a b c).2.1<B/\(GL d f a b c).2.2=b
 |0,a,b,c,h=>by grind[GL]
 |f+1,a,b,c,h=>by
  simp only[GL];split
  .rename_i g;have i:a≠B-1:=by grind
   have:=Wa e f (a+1) b (c++[CI d a]) (by omega);grind
  grind
def Tx(a:M)(w:I'):M:=match w (a,1)with|some v=>(zm v).toNat|none=>0
theorem Rn{a}(h:Dl B C R X v0 p0 a P):Tx B P=p0:=by have:=Jh h 1;grind[Tx,intOf]
def FM(a:DH)(c:M)(b:Option M):DH×M×Option M:=
 ((GL a a c b []).1,Jl a (GL a a c b []).2.1 (GL a a c b []).2.2 [41])
theorem V8(c s g n d q o a w)(l:Dl c s g n d q o w)(m:Dt g n d a w)(hc:q<n)(hz:(CI a<|n-1).h=0):
 F' zy 65 #[Z' c] w λe R=>∃v,e=T' v/\J' R w 104 3 v (FM a q o).1 (DZ (FM a q o).1)/\Dl c s g n d (FM a q o).2.1 (FM a q o).2.2 R/\O (λk=>k=c) w R:=by
 have⟨i0,hi,b9,c0,c1⟩:=Bx Tryz.infoTk;have hn:=m.2.2;have a6:=m.2.1;have b6:=m.ne l (by decide);have lr:=Cz l;have lg:g<w:=(m.1.lt g Q).2;unfold FM;generalize hV:GL a (L a) q o []=V;have HV:D<|GL a a q o []=V:=hV;have HZ:D<|(CI a<|n-1).h=0:=hz;have S:D<|Dl c s g n d q o w:=l;have HT:D<|Dt g n d a w:=m;have b0:D<|n=a:=a6;clear hV hz l m a6;go_in;go_wp2;go_loopw[3] (λv wr=>∃(k f:M) (i:DH),k<n/\L i<=k/\D (Dl c s g n d k o wr)/\D (Dt g n d a wr)/\J' wr w 104 3 v i (DZ i)/\O (λk=>k=c) w wr/\n-1-k<=f/\D (GL a f k o i=V)) (λ_ wr=>n-Tx c wr);exact⟨q,a,[],hc,by simp,S,HT,An _ _ _ _,CT _ _,by have:=b0.o;omega,HV⟩;have⟨k,f,i,E,c3,l,m,u,I,hf,z⟩:=hrel;clear HV S HT;have⟨t0,t1,t2⟩:=m.o.cells E;have r0:=W.j0 l.o;have r1:=W.j1 l.o;have P:=W.j2 l.o;have a3:=Rn l.o;have a8:D<|Tx c wr=k:=a3;clear a3;cases o with
 |some b=>
  simp only[Ob]at P;have hb:zu ((b:zw)<0)=zr:=by simp
  have N:V=(i,k,T b):=by rw[<-z.o,Kk<|by simp]
  subst N;clear z;go_wp2_with fail;go_quiet(fail);go_wp2_with fail;refine(Pa c s g n d k b a _ [41] (by simp) (wr.drewN nq) l.o m.o E).mono ?_;rintro e t ⟨rfl,y,r⟩;go_wp2_with fail;go_ret;refine⟨_,Q,?_,y,(I.drewN nq).trans r⟩;exact Cx (w:=wr.drewN nq) u r (λj p=>by have:=(u.lt j p).1;omega)
 |none=>
  simp only[Ob]at P;by_cases C:(CI a k).h=1
  .have a2:(((CI a k).h:zw)==1)=zt:=by simp[C]
   have⟨b5,f',b3,a4⟩:=ZU (acc:=i) hf E HZ.o ⟨Q,C⟩;have HF:D<|GL a f' (k+1) Z (i++[CI a k])=V:=by rw[<-a4];exact z.o
   have HG:D<|Gj a k Z 1=(CI a k,k+1,Z):=by show _=_;simp[Gj,C]
   clear z a4 C;go_wp2_with fail;go_quiet(fail);go_wp2_with fail;refine(PU c s g n d k 1 Z a (wr.drewN nq) l.o m.o E).mono ?_;rw[HG.o];rintro e t ⟨rfl,y,r⟩;have F:=Cx (w:=wr.drewN nq) u r (λj p=>by have:=(u.lt j p).1;omega);have K:=(I.drewN nq).trans r;have U:D<|Dl c s g n d (k+1) Z t:=y;have a1:D<|Dt g n d a t:=Dt.j (w:=wr.drewN nq) m.o r b6;have c4:=K.size;have c2:c<t:=Cz y;clear y r t0 t1 t2 r0 r1 P l m a2;unfold MR;go_wp2_with(at_builtin;refine AO _ Q _ _ 41 Q (w:M) 104 i0 (N' #[Y' ByteArray.empty,G A 0,G A 0]) 3 32 underlying41 hi b9 c0 c1 Q (by decide) _ _ _ Q ((F.alloc _).alloc _) ⟨(t:M)+1,0,Z⟩ 1 1 [Y' (CI a k).a,G A ((CI a k).pos:zw),G A ((CI a k).h:zw)] Q Q (JX (by simp) _ _ _ _) (λx hx=>by simp at hx;rcases hx with rfl|rfl|rfl<;>rfl) (by unfold E';omega) (by omega) (by simp;omega) ?_;intro v' B a7 H b7);have b8:O (λk=>k=c) w B:=O.xA ((K.alloc _).alloc _) H λj p=>zn (F.lt j p).1;have a5:∀j,j<(t:M)->T j≠L' u3->B.heap[j]? =t.heap[j]? :=λj p b4=>(H.block j (by simp;omega) b4).trans<|(Ao _ _ _<|by simp;omega).trans<|Ao _ _ _ p
   have a0:D<|Dl c s g n d (k+1) Z B:=by show _=_;rw[a5 c c2 λh=>by have:=(F.lt _ h.symm).1;omega];exact U.o
   have b2:D<|Dt g n d a B:=by refine Dt.j (w:=t) (X:=λj=>L' u3=T j) a1.o ?_ (λh=>by have:=(F.lt _ h).1;omega);exact O.xA (((CT _ _).alloc _).alloc _) H λj p=>zo p
   have b1:D<|J' B w 104 3 v' (L i+1)<|DZ i++GJ (CI a k):=a7;have a9:D<|Tx c B=k+1:=Rn a0.o;clear H b7 a7 a5 u F U a1 K;go_wp2;go_roundw;exact⟨k+1,f',i++[CI a k],b5,by simp;omega,a0,b2,by rw[J8,Ah];exact b1.o,b8,b3,HF⟩;rw[a9.o,a8.o];omega
  .have a2:(((CI a k).h:zw)==1)=zr:=by simp;omega
   have N:V=(i,k,Z):=by rw[<-z.o,Kk λh=>C h.2]
   subst N;clear z;go_wp2_with fail;go_quiet(fail);go_wp2_with fail;refine(Pa c s g n d k Z a _ [41] (by simp) (wr.drewN nq) l.o m.o E).mono ?_;rintro e t ⟨rfl,y,r⟩;go_wp2_with fail;go_ret;refine⟨_,Q,?_,y,(I.drewN nq).trans r⟩;exact Cx (w:=wr.drewN nq) u r (λj p=>by have:=(u.lt j p).1;omega)
def Dk(t:Tk):Cj:=if t.h=2\/t.h=4 then t.a.toList else[]
structure St where
 b:M
 wY:Option M
 pl:M
 g:M
variable {q9:St}
def CW(f:DH)(l:Cj)(x:St):St:=⟨(Jl f x.b x.wY l).1,(Jl f x.b x.wY l).2,x.pl,x.g⟩
def Ev(f:DH)(a:M)(x:St):Tk×St:=((Gj f x.b x.wY a).1,⟨(Gj f x.b x.wY a).2.1,(Gj f x.b x.wY a).2.2,x.pl,x.g⟩)
def EM(f:DH)(x:St):DH×St:=((FM f x.b x.wY).1,⟨(FM f x.b x.wY).2.1,(FM f x.b x.wY).2.2,x.pl,x.g⟩)
theorem iN{f n a b c}(g:(CI f<|n-1).h=0)(e:b≠0)(d:a<n):a<=(Gj f a c b).2.1/\(Gj f a c b).2.1<n:=by grind[Gj]
theorem cE{f n a b}(c:(CI f<|n-1).h=0)(e:a<n):a<=(FM f a b).2.1/\(FM f a b).2.1<n:=by have d:=Wa c f a b [] e;have g:=Vt (bad:=(GL f f a b []).2.2) (l:=[41]) c d.2.1;grind[FM]
def Vs(l:Cj)(a:M):M->M
 |0=>a
 |k+1=>if l=[UInt8.ofNat<|48+k]then k else Vs l a k
def Gc(f:DH)(x:St)(s:FS):FS×St:=
 if Dk (CI f x.b)=[110,101,119]then
  let b:=CW f [110,101,119] x
  ({s with e:=2,t9:=b.pl+1},{b with pl:=b.pl+1})
 else if Dk (CI f x.b)=[38]then
  let b:=CW f [38] x
  let a:=Ev f 1 b
  if Ei a.2.wY (CI f a.2.b) [46]=zt then
   let k:=CW f [46] a.2
   let i:=Ev f 3 k
   ({s with e:=4,q:=a.1,wU:=Vs i.1.a.toList s.wU 4},i.2)
  else({s with e:=3,q:=a.1},a.2)
 else if Dk (CI f x.b)=[42]then
  let b:=CW f [42] x
  let a:=Ev f 1 b
  ({s with e:=5,q:=a.1},a.2)
 else if Dk (CI f x.b)=[64]then
  let b:=CW f [64] x
  let a:=Ev f 1 b
  ({s with e:=6,q:=a.1},a.2)
 else if Dk (CI f x.b)=[40]then
  let b:=CW f [40] x
  let e:=CW f [42] b
  let d:=Ev f 1 e
  let l:=CW f [41] d.2
  let g:=CW f [40] l
  let h:St:={g with g:=g.g+1}
  let j:=EM f h
  ({s with e:=9,q:=d.1,t9:=h.g,k:=j.1},j.2)
 else
  let c:=Ev f 1 x
  if Ei c.2.wY (CI f c.2.b) [40]=zt then
   let e:=CW f [40] c.2
   let d:=EM f e
   ({s with e:=8,q:=c.1,k:=d.1},d.2)
  else({s with e:=7,q:=c.1},c.2)
def Dc(s:FS)(a b c:H'):Cg:=
 #[s.e,s.p.a,s.p.pos,s.p.h,s.q.a,s.q.pos,s.q.h,s.wU,a,s.t9,b,c,s.br,s.xY,s.l]
def EB(o:M)(E F:H')(b a:M)(w:I'):Prop:=w.heap[o]? =T (R' #[E,F,b,a] 70 (0,0))
theorem EB.p{o E F b a w}(h:EB o E F b a w):W o #[E,F,b,a] 70 w:=h
theorem Dl.p{v o g n B b a w}(h:Dl v o g n B b a w):W v #[Y g n B,b,(Ob a),Z' o] 162 w:=h
structure VF(v o H K g n B:M)(f:DH)(E F:H')(x:St)(P N:Cg)(w:I'):Prop where
 rd:Dl v o g n B x.b x.wY w
 tk:Dt g n B f w
 r:EB o E F x.pl x.g w
 C:W H P 114 w
 ox:W K N 114 w
 ne:H≠K
section
variable{v o H K g n B:M}{f:DH}{E F:H'}{x:St}{P N:Cg}{w R:I'}
theorem VF.yI(h:VF v o H K g n B f E F x P N w):g≠v/\o≠v/\H≠v/\K≠v/\g≠o/\H≠o/\K≠o/\g≠H/\g≠K:=
 ⟨h.tk.ne h.rd nofun,h.r.p.ne h.rd.p nofun,h.C.ne h.rd.p nofun,h.ox.ne h.rd.p nofun,h.tk.ne h.r nofun,h.C.ne h.r.p nofun,h.ox.ne h.r.p nofun,h.tk.ne h.C nofun,h.tk.ne h.ox nofun⟩
theorem VF.call{c b}(h:VF v o H K g n B f E F x P N w)(d:O (λk=>k=v) w R)(e:Dl v o g n B c b R):VF v o H K g n B f E F ⟨c,b,x.pl,x.g⟩ P N R:=
 have a:=h.yI
 ⟨e,h.tk.j d a.1,h.r.p.j d a.2.1,h.C.j d a.2.2.1,h.ox.j d a.2.2.2.1,h.ne⟩
theorem VF.xD(h:VF v o H K g n B f E F x P N w)(a:O Cb w R):VF v o H K g n B f E F x P N R:=
 ⟨h.rd.j a id,h.tk.j a id,h.r.p.j a id,h.C.j a id,h.ox.j a id,h.ne⟩
theorem VF.xF(h:VF v o H K g n B f E F x P N w)(i u):VF v o H K g n B f E F x (P.setIfInBounds i u) N<|w.setCell (H,i) u:=
 have a:=h.yI
 ⟨h.rd.p.xH i u a.2.2.1.symm,h.tk.j ((CT (λk=>k=H) w).wS i u) a.2.2.2.2.2.2.2.1,h.r.p.xH i u a.2.2.2.2.2.1.symm,h.C.set i u,h.ox.xH i u h.ne.symm,h.ne⟩
theorem VF.zH(h:VF v o H K g n B f E F x P N w)(m):VF v o H K g n B f E F ⟨x.b,x.wY,m,x.g⟩ P N<|w.setCell (o,2) m:=
 have a:=h.yI
 ⟨h.rd.p.xH 2 _ a.2.1.symm,h.tk.j ((CT (λk=>k=o) w).wS 2 _) a.2.2.2.2.1,h.r.p.set 2 _,h.C.xH 2 _ a.2.2.2.2.2.1,h.ox.xH 2 _ a.2.2.2.2.2.2.1,h.ne⟩
theorem VF.aq(h:VF v o H K g n B f E F x P N w){u:zw}{m:M}(a:u=m):VF v o H K g n B f E F ⟨x.b,x.wY,m,x.g⟩ P N<|w.setCell (o,2) u:=by subst a;exact h.zH m
theorem VF.zG(h:VF v o H K g n B f E F x P N w)(m):VF v o H K g n B f E F ⟨x.b,x.wY,x.pl,m⟩ P N<|w.setCell (o,3) m:=
 have a:=h.yI
 ⟨h.rd.p.xH 3 _ a.2.1.symm,h.tk.j ((CT (λk=>k=o) w).wS 3 _) a.2.2.2.2.1,h.r.p.set 3 _,h.C.xH 3 _ a.2.2.2.2.2.1,h.ox.xH 3 _ a.2.2.2.2.2.2.1,h.ne⟩
theorem VF.ap(h:VF v o H K g n B f E F x P N w){u:zw}{m:M}(a:u=m):VF v o H K g n B f E F ⟨x.b,x.wY,x.pl,m⟩ P N<|w.setCell (o,3) u:=by subst a;exact h.zG m
theorem VF.xX{a b}(h:VF v o H K g n B f E F x P N w)(e:CW f a x=b)(c:O (λk=>k=v) w R)(d:Dl v o g n B (Jl f x.b x.wY a).1 (Jl f x.b x.wY a).2 R):VF v o H K g n B f E F b P N R:=by subst e;exact h.call c d
theorem VF.get{k q a}(h:VF v o H K g n B f E F x P N w)(d:Ev f k x=(q,a))(b:O (λk=>k=v) w R)(c:Dl v o g n B (Gj f x.b x.wY k).2.1 (Gj f x.b x.wY k).2.2 R):VF v o H K g n B f E F a P N R:=by have e:a=⟨(Gj f x.b x.wY k).2.1,(Gj f x.b x.wY k).2.2,x.pl,x.g⟩:=(BG Prod.snd d).symm;subst e;exact h.call b c
theorem VF.list{q a}(h:VF v o H K g n B f E F x P N w)(d:EM f x=(q,a))(b:O (λk=>k=v) w R)(c:Dl v o g n B (FM f x.b x.wY).2.1 (FM f x.b x.wY).2.2 R):VF v o H K g n B f E F a P N R:=by have e:a=⟨(FM f x.b x.wY).2.1,(FM f x.b x.wY).2.2,x.pl,x.g⟩:=(BG Prod.snd d).symm;subst e;exact h.call b c
end
theorem EK{f n x a b}(d:CW f b x=a)(e:(CI f<|n-1).h=0)(c:x.b<n):a.b<n:=by subst d;exact(Vt e c).2
theorem Iw{f n k x a q}(d:Ev f k x=(q,a))(c:k≠0)(g:(CI f<|n-1).h=0)(b:x.b<n):a.b<n:=by have e:a.b=(Gj f x.b x.wY k).2.1:=BG (λz=>z.2.b) d.symm;rw[e];exact(iN g c b).2
theorem IW{f n x a q}(c:EM f x=(q,a))(d:(CI f<|n-1).h=0)(b:x.b<n):a.b<n:=by have e:a.b=(FM f x.b x.wY).2.1:=BG (λz=>z.2.b) c.symm;rw[e];exact(cE d b).2
theorem O.zU{v o a w}(h:O (λk=>k=v\/k=o) a w)(i u):O (λk=>k=v\/k=o) a<|w.setCell ⟨o,i,Z⟩ u:=h.setCell (zn Q|>zo) u
abbrev DS:Value:=Y Z 0 0
def aK(v o g n B:M)(f:DH)(E F:H')(w:I')(r:FS×St)(e:Ending)(R:I'):Prop:=
 ∃a,e=N' (Dc r.1 a DS DS)/\J' R w 104 3 a r.1.k (DZ r.1.k)/\Dl v o g n B r.2.b r.2.wY R/\Dt g n B f R/\EB o E F r.2.pl r.2.g R/\O (λk=>k=v\/k=o) w R
abbrev zS:Cg:=#[G A 0,Y' {data:=#[]},G A 0,G A 0,Y' {data:=#[]},G A 0,G A 0,G A 0,DS,G A 0,DS,DS,G A 0,G A 0,G A 0]
def Gd(a:M)(b:zw):FS:=⟨0,RM,RM,0,[],0,[],[],b,b,a⟩
abbrev mS:Cj:=[105,102]
abbrev LG:Cj:=[119,104,105,108,101]
abbrev Hp:Cj:=[101,108,115,101]
abbrev tE:Cj:=[118,97,114]
abbrev Uz:Cj:=[114,101,116,117,114,110]
def DW(a:DH)(b:M)(x:St):FS×St:=
 if Dk (CI a x.b)=tE then
  let y:=Ev a 1<|CW a tE x
  ({Gd b (-1)with e:=1,p:=y.1},y.2)
 else if Dk (CI a x.b)=Uz then
  let y:=Ev a 1<|CW a Uz x
  ({Gd b (-1)with e:=11,q:=y.1},y.2)
 else if Dk (CI a x.b)=[42]then
  let y:=Ev a 1<|CW a [42] x
  let z:=Ev a 1<|CW a [61] y.2
  ({Gd b (-1)with e:=10,p:=y.1,q:=z.1},z.2)
 else
  let y:=Ev a 1 x
  Gc a (CW a [61] y.2) {Gd b (-1)with p:=y.1}
mutual
def C6(tZ:DH):M->M->St->C8->Cf->Cf×St×C8
 |0,_,x,fs,out=>(out,x,fs)
 |f+1,inn,x,fs,out=>
  if x.wY≠Z\/Ei x.wY (CI tZ x.b) [125]=zt then(out,x,fs)
  else C6 tZ f inn (Dn tZ f inn x fs).2.1 (Dn tZ f inn x fs).2.2 (out++[(Dn tZ f inn x fs).1])
def Dn(tZ:DH):M->M->St->C8->M×St×C8
 |0,_,x,fs=>(fs,x,fs)
 |f+1,inn,x,fs=>
  if Dk (CI tZ x.b)=mS\/Dk (CI tZ x.b)=LG then
   let x2:=CW tZ [63]<|CW tZ (Dk<|CI tZ x.b) x
   let r:=C6 tZ f inn (CW tZ [123] x2) (fs++[Gd 0 0]) []
   let x3:=CW tZ [125] r.2.1
   let s:FS:={Gd inn (-1)with e:=13,br:=(CI tZ x2.b).pos,body:=r.1}
   if Dk (CI tZ x.b)=mS then
    if Ei x3.wY (CI tZ x3.b) Hp=zt then
     let x4:=CW tZ Hp x3
     let r2:=C6 tZ f inn (CW tZ [123] x4) r.2.2 []
     (fs,CW tZ [125] r2.2.1,r2.2.2.set fs {s with e:=12,xY:=(CI tZ x4.b).pos,other:=r2.1})
    else(fs,x3,r.2.2.set fs {s with e:=12})
   else(fs,x3,r.2.2.set fs s)
  else
   let y:=DW tZ inn x
   (fs,CW tZ [59] y.2,(fs++[Gd 0 0]).set fs y.1)
end
def CY(B:M)(w:I')(v:H')(l:Cf):Prop:=J' w B 3 1 v l<|l.map λi:M=>G A (i:zw)
def Fb(B:M)(w:I')(v:H')(l:DH):Prop:=J' w B 104 3 v l<|DZ l
def Iv(B:M)(U:Ce)(w:I')(c:Ci)(s:FS):Prop:=
 ∃a b d,c=(Dc s a b d).toList/\Fb B w a s.k/\CY B w b s.body/\CY B w d s.other/\∀k,(L' a=T k\/L' b=T k\/L' d=T k)->U k
def Eh(B:M)(U:Ce)(w:I')(c:H')(b:C8):Prop:=
 ∃a:List<|Ci,J' w B 114 15 c b a.flatten/\L a=b/\∀i (h:i<L a) (d:i<L b),Iv B U w a[i] b[i]
theorem Iv.j{U:Ce}{w w':I'}{X:Ce}(h:Iv B U w y1 t0)(e:O X w w')(f:∀k a t b,X k->w.heap[k]? =T (R' a t b)->t≠3/\t≠104):Iv B U w' y1 t0:=
 have⟨g,i,p,m,j,l,n,o⟩:=h
 ⟨g,i,p,m,CD j e λk a b d q=>(f k a _ b d q).2 Q,CD l e λk a b d q=>(f k a _ b d q).1 Q,CD n e λk a b d q=>(f k a _ b d q).1 Q,o⟩
theorem Iv.zE{X:Ce}(h:Iv B z1 P y1 t0)(d:O X P y0)(e:∀k,z1 k->¬X k):Iv B z1 y0 y1 t0:=
 have⟨f,g,n,l,i,j,m,b⟩:=h
 ⟨f,g,n,l,Cx i d λk a=>e k<|b k<|zo a,Cx j d λk a=>e k<|b k<|zn<|zo a,Cx m d λk a=>e k<|b k<|zn<|zn a,b⟩
theorem Iv.more{U':Ce}(h:Iv B z1 P y1 t0)(l:∀k,z1 k->U' k):Iv B U' P y1 t0:=
 have⟨a,b,m,g,e,f,j,d⟩:=h
 ⟨a,b,m,g,e,f,j,λk i=>l k<|d k i⟩
theorem Iv.length(h:Iv B z1 P y1 t0):L y1=15:=by obtain⟨a,b,d,rfl,_⟩:=h;rfl
def Kd(k:M)(x y:St):Prop:=x.b<=y.b/\x.pl<=y.pl/\y.pl<=x.pl+1/\x.g<=y.g/\y.g<=x.g+1/\(y.wY=Z->x.wY=Z/\x.b+k<=y.b)
def Kc(k:M)(x y:St):Prop:=x.b<=y.b/\y.pl=x.pl/\y.g=x.g/\(y.wY=Z->x.wY=Z/\x.b+k<=y.b)
theorem Kc.trans{y z:St}(h:Kc B q9 y)(q:Kc C y z):Kc (B+C) q9 z:=
 ⟨by have:=h.1;have:=q.1;omega,by rw[q.2.1,h.2.1],by rw[q.2.2.1,h.2.2.1],λe=>by have a:=q.2.2.2 e;have b:=h.2.2.2 a.1;grind⟩
theorem Kc.one{x}(h:Kc B x q9):Kd B x q9:=⟨h.1,by rw[h.2.1];omega,by rw[h.2.1];omega,by rw[h.2.2.1];omega,by rw[h.2.2.1];omega,h.2.2.2⟩
theorem Kd.behind{y z:St}(h:Kc B q9 y)(q:Kd C y z):Kd (B+C) q9 z:=
 have⟨a,b,c,d⟩:=h
 have⟨f,g,i,j,m,n⟩:=q
 ⟨by omega,by omega,by omega,by omega,by omega,λe=>by grind⟩
theorem Kd.ahead{y z:St}(h:Kd B q9 y)(q:Kc C y z):Kd (B+C) q9 z:=
 have⟨a,b,c,d,f,g⟩:=h
 have⟨i,j,m,n⟩:=q
 ⟨by omega,by omega,by omega,by omega,by omega,λe=>by grind⟩
theorem Kd.less{y:St}(h:Kd B q9 y)(a:C<=B):Kd C q9 y:=⟨h.1,h.2.1,h.2.2.1,h.2.2.2.1,h.2.2.2.2.1,λe=>by have:=h.2.2.2.2.2 e;grind⟩
theorem QI(a p):JL a p≠Z:=by cases a<;>simp[JL]
theorem DP(b a x):Kc 1 x<|CW b a x:=by unfold CW Jl;split;rename_i h;refine⟨by simp,Q,Q,λe=>⟨e,Ad _⟩⟩;exact⟨Ad _,Q,Q,λe=>Bm e<|QI _ _⟩
theorem IU(a k x):Kc 1 x (Ev a k x).2:=by unfold Ev Gj;split;refine⟨by simp,Q,Q,λe=>⟨e,Ad _⟩⟩;exact⟨Ad _,Q,Q,λe=>Bm e<|QI _ _⟩
theorem Tf(d):∀(f a:M) (b:Option M) (c:DH),a<=(GL d f a b c).2.1/\(GL d f a b c).2.2=b
 |0,a,b,c=>by grind[GL]
 |f+1,a,b,c=>by
  unfold GL;split
  .have:=Tf d f (a+1) b<|c++[CI d a];grind
  grind
theorem Jr(a x):Kc 1 x (EM a x).2:=by have h:=Tf a a x.b x.wY [];have e:=DP a [41] ⟨(GL a a x.b x.wY []).2.1,(GL a a x.b x.wY []).2.2,x.pl,x.g⟩;have⟨b,d,f,c⟩:=e;refine⟨As h.1 b,Q,Q,λq=>?_⟩;have:=c q;exact⟨by grind,by have:=this.2;simp only at this;exact As (by omega) this⟩
theorem eW(a x s):Kd 1 x (Gc a x s).2:=by have E:=DP a;have b:=IU a;have I:=Jr a;unfold Gc;split;have:=E [110,101,119] x;have⟨e,o,p,f⟩:=this;exact⟨e,by grind,by grind,by grind,by grind,f⟩;split;simp only;split;exact((((E _ _).trans<|b _ _).trans<|(E _ _).trans<|b _ _).one).less (by omega);exact(((E _ _).trans<|b _ _).one).less (by omega);split;exact(((E _ _).trans<|b _ _).one).less (by omega);split;exact(((E _ _).trans<|b _ _).one).less (by omega);split;have c:=((E [40] x).trans<|E [42] _).trans<|(b 1<|CW a [42]<|CW a [40] x).trans<|(E [41] _).trans<|E [40] _;have d:=I ⟨(CW a [40]<|CW a [41] (Ev a 1<|CW a [42]<|CW a [40] x).2).b,(CW a [40]<|CW a [41] (Ev a 1<|CW a [42]<|CW a [40] x).2).wY,(CW a [40]<|CW a [41] (Ev a 1<|CW a [42]<|CW a [40] x).2).pl,(CW a [40]<|CW a [41] (Ev a 1<|CW a [42]<|CW a [40] x).2).g+1⟩;have⟨k,l,m,n⟩:=c;have⟨g,h,i,j⟩:=d;simp only at g h i j;refine⟨by grind,by grind,by grind,by grind,by grind,λq=>?_⟩;grind;simp only;split;exact(((b _ _).trans<|(E _ _).trans<|I _).one).less (by omega);exact((b _ _).one).less (by omega)
theorem Ww(b c x):Kd 1 x (DW b c x).2:=by have E:=DP b;have a:=IU b;unfold DW;split;exact(((E _ _).trans<|a _ _).one).less (by omega);split;exact(((E _ _).trans<|a _ _).one).less (by omega);split;exact((((E _ _).trans<|a _ _).trans<|(E _ _).trans<|a _ _).one).less (by omega);exact(Kd.behind ((a _ _).trans<|E _ _)<|eW b _ _).less (by omega)
theorem sA(k)(h:k<4):(({data:=#[48,49,50,51]}:Cd).extract k<|k+1).toList=[UInt8.ofNat<|48+k]:=by
 have:k=0\/k=1\/k=2\/k=3:=by omega
 rcases this with rfl|rfl|rfl|rfl<;>decide+kernel
structure VG(B C P N g n E:M)(f:DH)(F H:H')(x:St)(V U:Cg)(S:H')(R:DH)(K w:I'):Prop where
 v:VF B C P N g n E f F H x V U w
 o:O (λk=>k=B\/k=C) K w
 b:K<=P
 d:K<=N
 c:x.b<n
 z:(CI f<|n-1).h=0
 r:w.ownsRow K 104 3 S R.length<|DZ R
section
variable{B C P N g n E:M}{f:DH}{F H:H'}{x:St}{V U:Cg}{S:H'}{R:DH}{K w w':I'}
theorem VG.xD(h:VG B C P N g n E f F H x V U S R K w)(a:O Cb w w'):VG B C P N g n E f F H x V U S R K w':=
 ⟨h.v.xD a,h.o.xV a,h.b,h.d,h.c,h.z,Cx h.r a Ed⟩
theorem VG.xF(h:VG B C P N g n E f F H x V U S R K w)(i u):VG B C P N g n E f F H x (V.setIfInBounds i u) U S R K<|w.setCell (P,i) u:=
 ⟨h.v.xF i u,h.o.xB i u h.b,h.b,h.d,h.c,h.z,CD h.r ((CT _ _).wS i u)<|Fp h.v.C<|by decide⟩
theorem VG.zH(h:VG B C P N g n E f F H x V U S R K w){u:zw}{m:M}(a:u=m):VG B C P N g n E f F H ⟨x.b,x.wY,m,x.g⟩ V U S R K<|w.setCell (C,2)<|G A u:=
 ⟨h.v.aq a,h.o.zU 2 _,h.b,h.d,h.c,h.z,CD h.r ((CT _ _).wS 2 _)<|Fp h.v.r.p<|by decide⟩
theorem VG.zG(h:VG B C P N g n E f F H x V U S R K w){u:zw}{m:M}(a:u=m):VG B C P N g n E f F H ⟨x.b,x.wY,x.pl,m⟩ V U S R K<|w.setCell (C,3)<|G A u:=
 ⟨h.v.ap a,h.o.zU 3 _,h.b,h.d,h.c,h.z,CD h.r ((CT _ _).wS 3 _)<|Fp h.v.r.p<|by decide⟩
theorem VG.q(h:VG B C P N g n E f F H x V U S R K w)(v l)(a:v.toList=l):
 F' zy 106 #[Z' B,Y' v] w λe w'=>e=(Ei x.wY (CI f x.b) l)/\D (VG B C P N g n E f F H x V U S R K w'):=
 (Ys B C g n E x.b x.wY f v l a w h.v.rd h.v.tk h.c).mono (λ_ _ q=>⟨q.1,h.xD q.2⟩)
theorem VG.xX(h:VG B C P N g n E f F H x V U S R K w)(v l)(b:v.toList=l):
 F' zy 63 #[Z' B,Y' v] w λe w'=>∃a,D (CW f l x=a)/\e=P' #[]/\D (VG B C P N g n E f F H a V U S R K w'):=
 (Pa B C g n E x.b x.wY f v l b w h.v.rd h.v.tk h.c).mono (λ_ _ q=>⟨_,Q,q.1,h.v.xX Q q.2.2 q.2.1,h.o.tr q.2.2,h.b,h.d,EK Q h.z h.c,h.z,CD h.r q.2.2<|Fp h.v.rd.p<|by decide⟩)
theorem VG.get(h:VG B C P N g n E f F H x V U S R K w)(k:M)(b:k≠0):
 F' zy 64 #[Z' B,G A k] w λe w'=>∃q a,D (Ev f k x=(q,a))/\e=T' (MR q)/\D (VG B C P N g n E f F H a V U S R K w'):=
 (PU B C g n E x.b k x.wY f w h.v.rd h.v.tk h.c).mono (λ_ _ q=>⟨_,_,Q,q.1,h.v.get Q q.2.2 q.2.1,h.o.tr q.2.2,h.b,h.d,Iw Q b h.z h.c,h.z,CD h.r q.2.2<|Fp h.v.rd.p<|by decide⟩)
theorem VG.list(h:VG B C P N g n E f F H x V U S R K w):
 F' zy 65 #[Z' B] w λe w'=>∃q i a l c,D (EM f x=(q,i))/\e=Y a l c/\D (VG B C P N g n E f F H i V U (Y a l c) q K w'):=by
 apply(V8 B C g n E x.b x.wY f w h.v.rd h.v.tk h.c h.z).mono;rintro e w' ⟨v,rfl,d,j,b⟩;obtain⟨a,l,c,rfl⟩:=CA d;exact⟨_,_,a,l,c,Q,Q,h.v.list Q b j,h.o.tr b,h.b,h.d,IW Q h.z h.c,h.z,CN d h.o.size⟩
theorem VG.post{y r}(h:VG B C P N g n E f F H x V U S R K w)(e:y.k=R)(j:r=(y,x))(c)(a:O (λk=>k=N) w c):aK B C g n E f F H K r (T'<|N'<|Dc y S DS DS) c:=by subst e j;have b:=h.v.yI;have l:=h.d;refine⟨S,Q,CD h.r a<|Fp h.v.ox<|by decide,h.v.rd.j a<|Ne.symm b.2.2.2.1,h.v.tk.j a b.2.2.2.2.2.2.2.2,h.v.r.p.j a<|Ne.symm b.2.2.2.2.2.2.1,a.os.trans h.o.os,a.tape.trans h.o.tape,a.output.trans h.o.output,As h.o.size a.size,λk d i=>?_⟩;rw[a.block k (Av d h.o.size) λq=>by omega];exact h.o.block k d i
end
theorem eZ(B C g n E f F H x0 s w)(hr:Dl B C g n E x0.b x0.wY w)(ht:Dt g n E f w)(hp:EB C F H x0.pl x0.g w)(c9:x0.b<n)(hz:(CI f<|n-1).h=0)(ha:s.k=[])(f2:x0.pl<=4001)(f0:x0.g<=4001):
 F' zy 151 #[Z' B,N'<|Dc s DS DS DS] w λe w'=>aK B C g n E f F H w (Gc f x0 s) e w':=by
 have hn:=ht.2.2;have lr:=Cz hr;have lp:=Cz hp;have b3:D<|VG B C w ((w:M)+1) g n E f F H x0 (Dc s DS DS DS) zS DS s.k w<|(w.alloc<|R' (Dc s DS DS DS) 114).alloc<|R' zS 114:=
  ⟨⟨(hr.p.alloc _).alloc _,(ht.j (((CT Cb w).alloc _).alloc _) id),(hp.p.alloc _).alloc _,(W.new _ _ _).alloc _,by have:=W.new (w.alloc<|R' (Dc s DS DS DS) 114) zS 114;simpa using this,by omega⟩,((CT _ _).alloc _).alloc _,Ad _,Nat.le_succ _,c9,hz,by rw[ha];exact An _ _ _ _⟩
 have⟨y,hy⟩:=Dv<|Gc f x0 s;rw[hy];have HY:=J hy;obtain⟨t,HT⟩:∃t,D<|CI f x0.b=t:=⟨_,Q⟩;clear hy hr ht hp hz ha;go_in;go_wp2;generalize (w.alloc<|R' (Dc s DS DS DS) 114).alloc (R' zS 114)=W0 at b3|-;have⟨t0,t1,t2⟩:=b3.o.v.tk.cells c9;rw[HT.o]at t0 t1 t2;have r0:=b3.o.v.rd.p.z;have l0:=Cz b3.o.v.rd;have l1:g<W0:=(b3.o.v.tk.1.lt g Q).2;have ls:(w:M)<W0:=Cz b3.o.v.C;have lo:(w:M)+1<(W0:M):=Cz b3.o.v.ox;have i:=b3.o.v.C.wV;have d:=b3.o.v.C.z 0;simp[Dc]at d;go_region;go_upto_region 3 with fail;go_cut[28] (λv wx=>v=O' (zu<|t.h=2\/t.h=4)/\D (W W0 #[t.a,t.pos,t.h] 104 wx)/\D (VG B C w ((w:M)+1) g n E f F H x0 (Dc s DS DS DS) zS DS s.k w wx))
 .have hs:(t.h=2/\((t.h:zw)==2)=zt)\/(t.h=4/\((t.h:zw)==2)=zr/\((t.h:zw)==4)=zt)\/((¬(t.h=2\/t.h=4))/\((t.h:zw)==2)=zr/\((t.h:zw)==4)=zr):=by by_cases h:t.h=2;simp[h];by_cases k:t.h=4;simp[k];simp;omega
  rcases hs with⟨hs,d1⟩|⟨hs,d1,f3⟩|⟨hs,d1,f3⟩
  all_goals
   have HS:=J hs;clear hs;go_wp2_with fail;go_meet;exact⟨by simp[HS.o],W.j (W.new _ _ _) (X:=Cb) oq id,b3.o.xD oq⟩
 obtain⟨rfl,d7,b4⟩:=hcut;have b0:=d7.o.z;go_upto_if 28 with fail;go_cut[6] (λv wx=>∃b:Cd,v=Y' b/\D (b.toList=Dk (CI f x0.b))/\D (VG B C w ((w:M)+1) g n E f F H x0 (Dc s DS DS DS) zS DS s.k w wx))
 .by_cases hc:t.h=2\/t.h=4;all_goals
   have HS:=J hc;simp only[hc,decide_true,decide_false];clear hc;go_wp2_with fail;go_meet;exact⟨_,Q,by show _=_;rw[HT.o];simp[Dk,HS.o],b4.o.xD oq⟩
 obtain⟨b,rfl,HB,b4⟩:=hcut;clear HT;go_upto_block 0 with fail;go_cut[] (λwx=>∃(y1:FS) (x:St) (a:Ch) (l c:M),D (VG B C w ((w:M)+1) g n E f F H x (Dc y1 (Y a l c) DS DS) zS (Y a l c) y1.k w wx)/\D (y=(y1,x)))
 .have hb:=HB.o;clear HB b0;by_cases h0:b.toList=[110,101,119]
  .have e0:(b.toList==[110,101,119])=zt:=beq_iff_eq.2 h0;have HW:=J<|hb.symm.trans h0;clear h0 hb;go_wp2_with fail;apply((b4.o.xD oq).xX _ [110,101,119]<|by simp).mono;rintro e w1 ⟨x,b1,rfl,r⟩;have p0:=r.o.v.rd.p.z;have p1:=r.o.v.r.p.z;have p2:=r.o.v.r.p.wV 2;obtain⟨d,a9⟩:=r.o.v.C.e2 0 9;have i:=r.o.v.C.wV;simp[Dc]at d a9;have⟨n1,n2,n3,n4,n5,n6,n7,n8,n9⟩:=r.o.v.yI;have f5:x.pl<=4001:=by rw[<-b1.o];exact f2
   go_wp2_with fail;go_meet;refine⟨{s with e:=2,t9:=x.pl+1},⟨x.b,x.wY,x.pl+1,x.g⟩,Z,0,0,?_,by show _=_;rw[<-HY.o];simp[Gc,HW.o,b1.o]⟩;exact((r.o.xF 0<|G A 2).zH (u:=(x.pl:zw)+1) (m:=x.pl+1)<|by omega).xF 9 (G A<|(x.pl:zw)+1)
  have e0:(b.toList==[110,101,119])=zr:=beq_eq_false_iff_ne.2 h0;by_cases h1:b.toList=[38]
  .have e1:(b.toList==[38])=zt:=beq_iff_eq.2 h1;have HW:=J<|hb.symm.trans h1;clear h0 h1 hb;go_wp2_with fail;apply((b4.o.xD oq).xX _ [38]<|by simp).mono;rintro e w1 ⟨x,b1,rfl,r⟩;obtain⟨j,o,p,d⟩:=r.o.v.C.e4 4 5 6 0;have i:=r.o.v.C.wV;simp[Dc]at d j o p;go_wp2_with fail;clear d j o p i;apply((r.o.xF 0<|G A 3).get 1<|by decide).mono;rintro e w2 ⟨I,x2,b6,rfl,z⟩;unfold MR;obtain⟨j,o,p,d⟩:=z.o.v.C.e4 4 5 6 0;have i:=z.o.v.C.wV;simp[Dc]at d j o p;go_wp2_with fail;clear d j o p i;apply((((z.o.xF 4 I.a).xF 5 I.pos).xF 6 I.h).q _ [46]<|by simp).mono;rcases hd:Ei x2.wY (CI f x2.b) [46]with _|_
   .rintro e w3 ⟨rfl,b2⟩;go_wp2_with fail;go_meet;exact⟨{s with e:=3,q:=I},_,Z,0,0,b2.o.xD oq,by show _=_;rw[<-HY.o];simp[Gc,HW.o,b1.o,b6.o,hd]⟩
   .rintro e w3 ⟨rfl,b2⟩;go_wp2_with fail;apply(b2.o.xX _ [46]<|by simp).mono;rintro e w4 ⟨x3,c0,rfl,c1⟩;have d:=c1.o.v.C.z 0;have i:=c1.o.v.C.wV;simp[Dc]at d;go_wp2_with fail;clear d i;apply((c1.o.xF 0<|G A 4).get 3<|by decide).mono;rintro e w5 ⟨q4,x4,c2,rfl,b5⟩;unfold MR;have c3:D<|y=({s with e:=4,q:=I,wU:=Vs q4.a.toList s.wU 4},x4):=by show _=_;rw[<-HY.o];simp[Gc,HW.o,b1.o,b6.o,hd,c0.o,c2.o]
    clear hd HY;go_wp2;go_loopw[9] (λkv wr=>∃k:M,k<=4/\kv=G A k/\D (VG B C w ((w:M)+1) g n E f F H x4 (Dc {s with e:=4,q:=I,wU:=Vs q4.a.toList s.wU k} DS DS DS) zS DS s.k w wr)/\D (W w5 #[q4.a,q4.pos,q4.h] 104 wr)) (λkv _=>4-(zm kv).toNat);exact⟨0,by omega,Q,b5.o.xD oq,W.new _ _ _⟩;obtain⟨k,hk,rfl,b7,HB⟩:=hrel;by_cases f1:k=4
    .subst f1;go_wp2_with fail;go_meet;exact⟨_,_,_,_,_,b7.o,c3.o⟩
    .have b0:=HB.o.z;have a7:=b7.o.v.C.z 7;have i:=b7.o.v.C.wV;simp[Dc]at a7;have d0:=sA k (by omega);obtain⟨d9,c6,c7⟩:=Dq (HB.o.ne b7.o.v.C<|by decide) (λ(m:M)=>HB.o.j ((CT Cb _).drewN m) id) λ(m:M)=>b7.o.xD<|(CT _ _).drewN m;by_cases hl:q4.a.toList=[UInt8.ofNat<|48+k];all_goals
      have hq:(q4.a.toList==(({data:=#[48,49,50,51]}:Cd).extract k<|k+1).toList)=zu (q4.a.toList=[UInt8.ofNat<|48+k]):=by rw[d0,Bool.eq_iff_iff];simp
      have c4:Vs q4.a.toList s.wU (k+1)=if q4.a.toList=[UInt8.ofNat<|48+k]then k else Vs q4.a.toList s.wU k:=Q
      first|rw[Bb hl]at c4;rw[decide_eq_true hl]at hq|rw[Ba hl]at c4;rw[decide_eq_false hl]at hq
      have d8:=J c4;clear d0 hl c4;go_wp2_with fail;go_quiet(fail);go_wp2_with fail
     all_goals
      go_roundw;refine⟨k+1,by omega,by simp,?_,?_⟩;rw[d8.o];first|exact(c7.o _).xF 7 k|exact c7.o _
      first|exact(c6.o _).xH 7 k d9.o|exact c6.o _
      simp[intOf];omega
  have e1:(b.toList==[38])=zr:=beq_eq_false_iff_ne.2 h1;by_cases h2:b.toList=[42]
  .have e2:(b.toList==[42])=zt:=beq_iff_eq.2 h2;have HW:=J<|hb.symm.trans h2;clear h0 h1 h2 hb;go_wp2_with fail;apply((b4.o.xD oq).xX _ [42]<|by simp).mono;rintro e w1 ⟨x,b1,rfl,r⟩;obtain⟨j,o,p,d⟩:=r.o.v.C.e4 4 5 6 0;have i:=r.o.v.C.wV;simp[Dc]at d j o p;go_wp2_with fail;clear d j o p i;apply((r.o.xF 0<|G A 5).get 1<|by decide).mono;rintro e w2 ⟨I,x2,b6,rfl,z⟩;unfold MR;obtain⟨j,o,p,d⟩:=z.o.v.C.e4 4 5 6 0;have i:=z.o.v.C.wV;simp[Dc]at d j o p;go_wp2_with fail;clear d j o p i;go_meet;exact⟨{s with e:=5,q:=I},_,Z,0,0,((z.o.xF 4 I.a).xF 5 I.pos).xF 6 I.h,by show _=_;rw[<-HY.o];simp[Gc,HW.o,b1.o,b6.o]⟩
  have e2:(b.toList==[42])=zr:=beq_eq_false_iff_ne.2 h2;by_cases h3:b.toList=[64]
  .have e3:(b.toList==[64])=zt:=beq_iff_eq.2 h3;have HW:=J<|hb.symm.trans h3;clear h0 h1 h2 h3 hb;go_wp2_with fail;apply((b4.o.xD oq).xX _ [64]<|by simp).mono;rintro e w1 ⟨x,b1,rfl,r⟩;obtain⟨j,o,p,d⟩:=r.o.v.C.e4 4 5 6 0;have i:=r.o.v.C.wV;simp[Dc]at d j o p;go_wp2_with fail;clear d j o p i;apply((r.o.xF 0<|G A 6).get 1<|by decide).mono;rintro e w2 ⟨I,x2,b6,rfl,z⟩;unfold MR;obtain⟨j,o,p,d⟩:=z.o.v.C.e4 4 5 6 0;have i:=z.o.v.C.wV;simp[Dc]at d j o p;go_wp2_with fail;clear d j o p i;go_meet;exact⟨{s with e:=6,q:=I},_,Z,0,0,((z.o.xF 4 I.a).xF 5 I.pos).xF 6 I.h,by show _=_;rw[<-HY.o];simp[Gc,HW.o,b1.o,b6.o]⟩
  have e3:(b.toList==[64])=zr:=beq_eq_false_iff_ne.2 h3;by_cases h4:b.toList=[40]
  .have e4:(b.toList==[40])=zt:=beq_iff_eq.2 h4;have HW:=J<|hb.symm.trans h4;clear h0 h1 h2 h3 h4 hb;go_wp2_with fail;apply((b4.o.xD oq).xX _ [40]<|by simp).mono;rintro e w1 ⟨x,b1,rfl,r⟩;obtain⟨j,o,p,d⟩:=r.o.v.C.e4 4 5 6 0;have i:=r.o.v.C.wV;simp[Dc]at d j o p;go_wp2_with fail;clear d j o p i;apply((r.o.xF 0<|G A 9).xX _ [42]<|by simp).mono;rintro e w2 ⟨x2,b6,rfl,z⟩;go_wp2_with fail;apply(z.o.get 1<|by decide).mono;rintro e w3 ⟨q3,x3,c0,rfl,b2⟩;unfold MR;obtain⟨j,o,p,d⟩:=b2.o.v.C.e4 4 5 6 0;have i:=b2.o.v.C.wV;simp[Dc]at d j o p;go_wp2_with fail;clear d j o p i;apply((((b2.o.xF 4 q3.a).xF 5 q3.pos).xF 6 q3.h).xX _ [41]<|by simp).mono;rintro e w4 ⟨x4,c2,rfl,c1⟩;go_wp2_with fail;apply(c1.o.xX _ [40]<|by simp).mono;rintro e w5 ⟨x5,c8,rfl,b5⟩;have f4:x5.g<=4001:=by rw[<-c8.o,<-c2.o,show x3=(Ev f 1 x2).2 from(BG Prod.snd c0.o).symm,<-b6.o,<-b1.o];exact f0
   have⟨n1,n2,n3,n4,n5,n6,n7,n8,n9⟩:=b5.o.v.yI;have p0:=b5.o.v.rd.p.z;have p1:=b5.o.v.r.p.z;have p2:=b5.o.v.r.p.wV 3;have a9:=b5.o.v.C.z 9;have i:=b5.o.v.C.wV;simp[Dc]at a9;go_wp2_with fail;clear p0 p1 p2 a9 i n1 n2 n3 n4 n5 n6 n7 n8 n9;apply((b5.o.zG (u:=(x5.g:zw)+1) (m:=x5.g+1)<|by omega).xF 9<|G A<|(x5.g:zw)+1).list.mono;rintro e w7 ⟨q7,x7,v1,v2,v3,c5,rfl,b8⟩;have a8:=b8.o.v.C.z 8;have i:=b8.o.v.C.wV;simp[Dc]at a8;go_wp2_with fail;go_meet;exact⟨{s with e:=9,q:=q3,t9:=x5.g+1,k:=q7},_,v1,v2,v3,b8.o.xF 8<|Y v1 v2 v3,by show _=_;rw[<-HY.o];simp[Gc,HW.o,b1.o,b6.o,c0.o,c2.o,c8.o,c5.o]⟩
  have e4:(b.toList==[40])=zr:=beq_eq_false_iff_ne.2 h4;rw[hb]at h0 h1 h2 h3 h4;have HW:=J<|And.intro h0<|And.intro h1<|And.intro h2<|And.intro h3 h4;clear h0 h1 h2 h3 h4 hb;have d:=b4.o.v.C.z 0;have i:=b4.o.v.C.wV;simp[Dc]at d;go_wp2_with fail;clear d i;apply(((b4.o.xF 0<|G A 7).xD oq).get 1<|by decide).mono;rintro e w1 ⟨q1,x,b1,rfl,r⟩;unfold MR;obtain⟨j,o,p,d⟩:=r.o.v.C.e4 4 5 6 0;have i:=r.o.v.C.wV;simp[Dc]at d j o p;go_wp2_with fail;clear d j o p i;apply((((r.o.xF 4 q1.a).xF 5 q1.pos).xF 6 q1.h).q _ [40]<|by simp).mono;rcases hd:Ei x.wY (CI f x.b) [40]with _|_
  .rintro e w2 ⟨rfl,z⟩;go_wp2_with fail;go_meet;exact⟨{s with e:=7,q:=q1},_,Z,0,0,z.o.xD oq,by show _=_;rw[<-HY.o];simp[Gc,HW.o,b1.o,hd]⟩
  .rintro e w2 ⟨rfl,z⟩;go_wp2_with fail;apply(z.o.xX _ [40]<|by simp).mono;rintro e w3 ⟨x3,c0,rfl,b2⟩;have d:=b2.o.v.C.z 0;have i:=b2.o.v.C.wV;simp[Dc]at d;go_wp2_with fail;clear d i;apply(b2.o.xF 0<|G A 8).list.mono;rintro e w7 ⟨q7,x7,v1,v2,v3,c5,rfl,b8⟩;have a8:=b8.o.v.C.z 8;have i:=b8.o.v.C.wV;simp[Dc]at a8;go_wp2_with fail;go_meet;exact⟨{s with e:=8,q:=q1,k:=q7},_,v1,v2,v3,b8.o.xF 8<|Y v1 v2 v3,by show _=_;rw[<-HY.o];simp[Gc,HW.o,b1.o,hd,c0.o,c5.o]⟩
 have⟨y1,x,za,zl,zc,b7,c3⟩:=hcut;have HP:=J<|b7.o.post Q c3.o;have b9:=b7.o.v;have⟨n1,n2,n3,n4,n5,n6,n7,n8,n9⟩:=b9.yI;obtain⟨d,a1,a2,a3,j,o,p,a7,a8,a9,e5,e6,e7,e8,e9⟩:=b9.C.e15 0 1 2 3 4 5 6 7 8 9 10 11 12 13 14;obtain⟨o0,o1,o2,o3,o4,o5,o6,o7,o8,o9,d2,d3,d4,d5,d6⟩:=b9.ox.e15 0 1 2 3 4 5 6 7 8 9 10 11 12 13 14;have i:=b9.C.wV;have fo:=b9.ox.wV;simp[Dc]at d a1 a2 a3 j o p a7 a8 a9 e5 e6 e7 e8 e9 o0 o1 o2 o3 o4 o5 o6 o7 o8 o9 d2 d3 d4 d5 d6;clear b9 HY c3;go_wp2;apply Ak (v:=N'<|Dc y1 (Y za zl zc) DS DS) (by simp[zz,results151,go_sem,Dc,o0,o1,o2,o3,o4,o5,o6,o7,o8,o9,d2,d3,d4,d5,d6]) Q;apply HP.o _;iterate 15 refine O.wS ?_ _ _
 exact oq
theorem Tryz.infoSt:(Tryz.prog.info? 114).map (λi=>(i.zero,i.size,i.bytes))=T (T<|N' zS,15,184):=by kernel_rfl
theorem tH:∀u∈zS.toList,u.oneCell'=zt:=by intro u a;simp at a;rcases a with rfl|rfl|rfl|rfl|rfl|rfl|rfl|rfl|rfl<;>rfl
theorem Eh.j{B}{U:Ce}{w w' sv m}{X:Ce}(h:Eh B U w sv m)(b:O X w w')(o:∀k,L' sv=T k->¬X k)(p:∀k a t c,X k->w.heap[k]? =T (R' a t c)->t≠3/\t≠104):Eh B U w' sv m:=
 have⟨a,n,g,j⟩:=h
 ⟨a,Cx n b o,g,λi d e=>(j i d e).j b p⟩
theorem Eh.zE{B}{U:Ce}{w w' sv m}{X:Ce}(h:Eh B U w sv m)(a:O X w w')(n:∀k,L' sv=T k->¬X k)(o:∀k,U k->¬X k):Eh B U w' sv m:=
 have⟨b,j,e,g⟩:=h
 ⟨b,Cx j a n,e,λi c d=>(g i c d).zE a o⟩
theorem Eh.more{B}{U U':Ce}{w sv m}(h:Eh B U w sv m)(j:∀k,U k->U' k):Eh B U' w sv m:=
 have⟨a,g,d,e⟩:=h
 ⟨a,g,d,λi b c=>(e i b c).more j⟩
structure SF(f l s g n E B:M)(U:Ce)(v:DH)(F sv:H')(x:St)(m:C8)(H:Cg)(w:I'):Prop where
 rd:Dl f l g n E x.b x.wY w
 tk:Dt g n E v w
 r:EB l F sv x.pl x.g w
 C:W s H 114 w
 st:Eh B U w sv m
 nb:∀k,sv.ownBlock=T k->k≠s
section
variable{f l s g n E B:M}{U:Ce}{v:DH}{F sv:H'}{x:St}{m:C8}{H:Cg}{w w':I'}
theorem SF.yI(h:SF f l s g n E B U v F sv x m H w):g≠f/\l≠f/\s≠f/\g≠l/\s≠l/\g≠s:=
 ⟨h.tk.ne h.rd nofun,h.r.p.ne h.rd.p nofun,h.C.ne h.rd.p nofun,h.tk.ne h.r nofun,h.C.ne h.r.p nofun,h.tk.ne h.C nofun⟩
theorem SF.yU(h:SF f l s g n E B U v F sv x m H w):∀k,L' sv=T k->k≠f/\k≠l/\k≠s:=by intro k a;have⟨c,b,_⟩:=h.st;exact⟨CL b h.rd nofun k a,CL b h.r nofun k a,h.nb k a⟩
theorem SF.call{c b}(h:SF f l s g n E B U v F sv x m H w)(d:O (λk=>k=f) w w')(i:Dl f l g n E c b w'):SF f l s g n E B U v F sv ⟨c,b,x.pl,x.g⟩ m H w':=by have e:=h.yI;refine⟨i,h.tk.j d e.1,h.r.p.j d e.2.1,h.C.j d e.2.2.1,h.st.j d (λk a=>(h.yU k a).1) ?_,h.nb⟩;intro k j t o a p;have a:k=f:=a;subst a;have q:w.heap[k]? =_:=h.rd;grind
theorem SF.xD(h:SF f l s g n E B U v F sv x m H w)(a:O Cb w w'):SF f l s g n E B U v F sv x m H w':=
 ⟨h.rd.j a id,h.tk.j a id,h.r.p.j a id,h.C.j a id,h.st.j a Ed λ_ _ _ _ q=>q.elim,h.nb⟩
theorem SF.xF(h:SF f l s g n E B U v F sv x m H w)(i u):SF f l s g n E B U v F sv x m (H.setIfInBounds i u)<|w.setCell (s,i) u:=by have b:=h.yI;have c:=(CT (λk=>k=s) w).wS i u;refine⟨h.rd.p.xH i u b.2.2.1.symm,h.tk.j c b.2.2.2.2.2,h.r.p.xH i u b.2.2.2.2.1.symm,h.C.set i u,h.st.j c (λk a=>(h.yU k a).2.2) ?_,h.nb⟩;intro k d t e a j;have a:k=s:=a;subst a;have o:w.heap[k]? =_:=h.C;grind
theorem SF.xX{a b}(h:SF f l s g n E B U v F sv x m H w)(e:CW v a x=b)(c:O (λk=>k=f) w w')(d:Dl f l g n E (Jl v x.b x.wY a).1 (Jl v x.b x.wY a).2 w'):SF f l s g n E B U v F sv b m H w':=by subst e;exact h.call c d
theorem SF.get{k q a}(h:SF f l s g n E B U v F sv x m H w)(d:Ev v k x=(q,a))(b:O (λk=>k=f) w w')(c:Dl f l g n E (Gj v x.b x.wY k).2.1 (Gj v x.b x.wY k).2.2 w'):SF f l s g n E B U v F sv a m H w':=by have e:a=⟨(Gj v x.b x.wY k).2.1,(Gj v x.b x.wY k).2.2,x.pl,x.g⟩:=(BG Prod.snd d).symm;subst e;exact h.call b c
end
structure JI(f l:M)(sv sv':H')(w w':I'):Prop where
 j:O (λk=>k=f\/k=l\/sv.ownBlock=T k) w w'
 own:∀k,sv'.ownBlock=T k->sv.ownBlock=T k\/(w:M)<=k
theorem JI.refl(f l sv w):JI f l sv sv w w:=⟨oq,λ_ h=>zo h⟩
theorem JI.trans{f l:M}{a b c:H'}{w j n:I'}(h:JI f l a b w j)(k:JI f l b c j n):JI f l a c w n:=by
 refine⟨⟨k.j.os.trans h.j.os,k.j.tape.trans h.j.tape,k.j.output.trans h.j.output,As h.j.size k.j.size,λi d e=>?_⟩,λi d=>?_⟩;rw[k.j.block i (Av d h.j.size) ?_,h.j.block i d e];rintro(q|q|q);exact e<|zo q;exact e<|zn<|zo q;rcases h.own i q with g|g
 exact e<|zn<|zn g;omega;rcases k.own i d with q|q
 exact h.own i q;exact zn<|As h.j.size q
theorem JI.xM{f l sv w w'}(h:O (λk=>k=f\/k=l) w w'):JI f l sv sv w w':=
 ⟨h.mono λ_ _ q=>q.elim zo λr=>zn<|zo r,λ_ h=>zo h⟩
theorem JI.xB{f l b sv a w w'}(h:JI f l sv a w w')(i u)(c:w.heap.size<=b):JI f l sv a w<|w'.setCell ⟨b,i,Z⟩ u:=⟨h.j.xB i u c,h.own⟩
theorem JI.alloc{f l sv a w w'}(h:JI f l sv a w w')(o):JI f l sv a w<|w'.alloc o:=⟨h.j.alloc o,h.own⟩
theorem JI.drew{f l sv a w w'}(h:JI f l sv a w w'):JI f l sv a w w'.drew:=⟨h.j.drew,h.own⟩
theorem JI.drewN{f l sv a w w'}(h:JI f l sv a w w')(n):JI f l sv a w<|w'.drewN n:=⟨h.j.drewN n,h.own⟩
theorem JI.tr{f l sv a w w' b}(h:JI f l sv a w w')(k:O (λk=>k=f) w' b):JI f l sv a w b:=h.trans<|JI.xM<|k.mono λ_ _ q=>zo q
abbrev JA(a:M):Cg:=#[G A 0,Y' {data:=#[]},G A 0,G A 0,Y' {data:=#[]},G A 0,G A 0,G A 0,DS,G A 0,DS,DS,G A<|-1,G A<|-1,a]
def tT(h b g n f B:M)(U:Ce)(l:DH)(j k:H')(x:St)(i:C8)(w a:I'):Prop:=
 ∃c e d,Dl h b g n f x.b x.wY a/\Dt g n f l a/\EB b j (Y c e d) x.pl x.g a/\Eh B U a (Y c e d) (i++[Gd 0 0])/\JI h b k (Y c e d) w a
theorem eL{v:DH}{b:Ch}
 (r:Dl B C R X v0 q9.b q9.wY P)(s:Dt R X v0 v P)(m:EB C V z0 q9.pl q9.g P)
 (o:J' P p0 114 15 z0 x1 v9.flatten)(z:L v9=x1)(a7:∀i (h:i<L v9) (h':i<L x1),Iv p0 z1 P v9[i] x1[i])
 (N:O Cb P y0)(F:J' v1 p0 114 15 (Y b o1 s2) (L x1+1)<|v9.flatten++zS.toList)(S:y0.grownBy v1<|L' z0)(a0:∀k,L' (Y b o1 s2)=T k->L' z0=T k\/(P:M)<=k):
 tT B C R X v0 p0 z1 v V z0 q9 x1 P (v1.setCell (C,1)<|Y b o1 s2):=by
 have a2:=CL o r nofun;have a1:=CL o m nofun;have f:O (λk=>L' z0=T k) P v1:=O.xA (N.mono λ_ _ q=>q.elim) S λk a=>zo a;have a5:C≠B:=m.p.ne r.p nofun;have a6:Dl B C R X v0 q9.b q9.wY v1:=r.j f λq=>a2 B q Q;have p:EB C V z0 q9.pl q9.g v1:=m.p.j f λq=>a1 C q Q;have a3:R≠C:=s.ne m nofun;have a8:Dt R X v0 v v1:=by
  refine s.j f λq=>?_;rcases o.2 with⟨j,_⟩|⟨K,H,I,u,_,d,_⟩
  rw[j]at q;simp[L']at q;rw[u]at q;simp[L']at q;subst q;exact s.ne d nofun rfl
 have l:=(CT (λk=>k=C) v1).wS 1<|Y b o1 s2;have a4:∀k,L' (Y b o1 s2)=T k->k≠C:=CL F p nofun;refine⟨b,o1,s2,a6.p.xH 1 _ a5.symm,a8.j l a3,p.p.set 1 _,?_,?_⟩;refine⟨v9++[zS.toList],?_,by simp[z],?_⟩;rw[List.flatten_append,Ah];have:=Cx F l a4;simpa using this;intro i h1 j;have hx:∀(k:M) (v9:Cg) (t:TypeId) (c:M×M),L' z0=T k->P.heap[k]? =T (R' v9 t c)->t≠3/\t≠104:=by
  intro k v9 t c a y;rcases o.2 with⟨j,_⟩|⟨K,H,I,u,_,d,_⟩
  rw[j]at a;simp[L']at a;rw[u]at a;simp[L']at a;subst a;rw[y]at d;simp only[Ai,Aq]at d;rw[d.2.1];decide
 have a9:∀(k:M) (v9:Cg) (t:TypeId) (c:M×M),k=C->v1.heap[k]? =T (R' v9 t c)->t≠3/\t≠104:=by intro k v9 t c a y;subst a;have hq:v1.heap[k]? =_:=p;grind
 by_cases E:i<x1;rw[AD<|by omega,AD E];exact((a7 i (by omega) E).j f hx).j l a9;have e:i=x1:=by grind
 subst e;rw[AB<|by omega,AB<|by omega];simp only[Nat.sub_self,z,AA];exact⟨DS,DS,DS,Q,An _ _ _ _,An _ _ _ _,An _ _ _ _,λk a=>by grind[L']⟩;refine⟨(f.mono λk _ q=>zn<|zn q).trans<|l.mono λk _ q=>zn<|zo q,a0⟩
theorem vF(a B:Ci)(c d:Ci)(f:L c=15)(g:L d=15):∀k,k<=15->(List.range k).foldl (λ(l:Ci) j=>l.set (a+j)<|d[j]?.getD<|O' zr) (a++(c++B))=a++((d.take k++c.drop k)++B):=by
 intro k;induction k with
 |zero=>intro _;simp
 |succ k b=>
  intro h;rw[List.range_succ,List.foldl_append,b<|by omega];simp only[AP,A6];rw[List.set_append_right _ _<|by omega,List.append_cancel_left_eq,Nat.add_sub_cancel_left,List.set_append_left _ _<|by grind,List.append_cancel_right_eq,List.set_append_right _ _<|by grind];have e:(List.take k d)=k:=by grind
  rw[e,Nat.sub_self];grind[List.drop_eq_getElem_cons]
theorem Ya(a:List<|Ci)(g:∀c∈a,L c=15)(i:M)(e:i<a):a.flatten=(a.take i).flatten++(a[i]++(a.drop<|i+1).flatten)/\((a.take i).flatten)=i*15:=by
 refine⟨?_,?_⟩;conv=>lhs;rw[<-List.take_append_drop i a]
 rw[List.flatten_append,Ap e,List.flatten_cons];have:∀l:List<|Ci,(∀c∈l,L c=15)->L l.flatten=l*15:=by
  intro l b;induction l with
  |nil=>rfl
  |cons c l f=>rw[List.flatten_cons,Ah,f λc d=>b c<|Ax _ d,b c<|A9 ..,Af];omega
 grind
theorem iG(a:List<|Ci)(b:∀c∈a,L c=15)(i:M)(h:i<a)(d:Ci)(g:L d=15):(List.range 15).foldl (λ(l:Ci) j=>l.set (i*15+j)<|d[j]?.getD<|O' zr) a.flatten=(a.set i d).flatten:=by have⟨e,f⟩:=Ya a b i h;have:=vF (a.take i).flatten (a.drop<|i+1).flatten a[i] d (b _<|Am _) g 15<|Ad _;rw[f,<-e]at this;grind[List.getElem_mem,List.set_eq_take_append_cons_drop]
def Rm(w:I')(a o:M)(d:Ci):World:=(List.range 15).foldl (λw j=>w.setCell (a,o+j)<|d[j]?.getD<|O' zr) w
theorem dA(h:J' P B 114 15 (Y C R X) R y1)(o d):
 J' (Rm P C o d) B 114 15 (Y C R X) R ((List.range 15).foldl (λ(l:Ci) j=>l.set (o+j)<|d[j]?.getD<|O' zr) y1):=by
 unfold Rm;suffices H:∀(a:Cf) (P:I') (y1:Ci),J' P B 114 15 (Y C R X) R y1->J' (a.foldl (λP j=>P.setCell (C,o+j)<|d[j]?.getD<|O' zr) P) B 114 15 (Y C R X) R (a.foldl (λ(l:Ci) j=>l.set (o+j)<|d[j]?.getD<|O' zr) y1) from H _ _ _ h
 intro a;induction a with
 |nil=>grind
 |cons j a b=>intro P y1 h;exact b _ _ (h.stored (o+j) _).1
theorem Rd(w a o d):O (λk=>k=a) w<|Rm w a o d:=by
 unfold Rm;suffices H:∀(b:Cf) (c:I'),O (λk=>k=a) w c->O (λk=>k=a) w (b.foldl (λw j=>w.setCell (a,o+j)<|d[j]?.getD<|O' zr) c) from H _ _ oq
 intro b;induction b with
 |nil=>grind
 |cons j b e=>intro c h;exact e _<|h.wS _ _
theorem Rf(h:J' P B 114 15 (Y C R X) v0 y1)(i)(b:i<v0)(j)(d:j<15):∃u,P (C,i*15+j)=T u:=by
 cases CU h;have a:i*15+j<R*15:=by omega
 rw[h.cellAt (i*15+j) a];exact⟨_,Ag<|by rw[h.1];exact a⟩
theorem Rg(h:J' P B 114 15 (Y C R X) v0 y1)(j:M):P.frozen? (C,j)=zr:=by cases CU h;exact h.frozenAt j
theorem JI.put(h:JI B C V z0 P y0)(d:L' z0=T R)(a:O (λk=>k=R) y0 v1):JI B C V z0 P v1:=by
 refine⟨⟨a.os.trans h.j.os,a.tape.trans h.j.tape,a.output.trans h.j.output,As h.j.size a.size,λk b c=>?_⟩,h.own⟩;rw[a.block k (Av b h.j.size) ?_];exact h.j.block k b c;intro e;have e:k=R:=e;subst e;rcases h.own k d with q|q
 exact c<|zn<|zn q;omega
theorem Eh.put{w}(h:Eh B z1 w (Y (T ⟨C,0,Z⟩) R X) x1)(I:v0<L x1)(o:Iv B z1 w y1 t0):Eh B z1 (Rm w C (v0*15) y1) (Y (T ⟨C,0,Z⟩) R X)<|x1.set v0 t0:=by
 have⟨a,g,y,q⟩:=h;cases CU g;have v:∀c∈a,L c=15:=by intro c e;obtain⟨j,b,rfl⟩:=AC.1 e;exact Iv.length<|q j b<|by omega
 have p:=Rd w C (v0*15) y1;have u:∀(k:M) (a:Cg) (t:TypeId) (m:M×M),k=C->w.heap[k]? =T (R' a t m)->t≠3/\t≠104:=by
  intro k a t m x e;subst x;rcases g.2 with⟨n,_⟩|⟨F,z,E,r,_,f,_⟩
  simp at n;simp only[BU,Ai,Addr.mk.injEq]at r;rw[<-r.1.1,e]at f;simp only[Ai,Aq]at f;rw[f.2.1];decide
 refine⟨a.set v0 y1,?_,by simp[y],?_⟩;have:=dA g (v0*15) y1;rw[iG a v v0 (by omega) y1<|Iv.length o]at this;grind;intro j H n;by_cases b:v0=j;subst b;simp only[List.getElem_set_self];exact o.j p u;simp only[List.getElem_set_ne b];exact(q j _ _).j p u
def Y8(h c g n f B:M)(U:Ce)(l:DH)(i j:H')(w:I')(r:M×St×C8)(e:Ending)(a:I'):Prop:=
 ∃d b,(∀k,U k->b k)/\(∀k,b k->U k\/(w:M)<=k)/\e=r.1/\Dl h c g n f r.2.1.b r.2.1.wY a/\Dt g n f l a/\EB c i d r.2.1.pl r.2.1.g a/\Eh B b a d r.2.2/\JI h c j d w a
theorem SF.value{d b}(h:SF B C R X v0 p0 o1 z1 d V z0 q9 x1 q1 P)(l:Dl B C X v0 p0 b.b b.wY y0)(m:Dt X v0 p0 d y0)(j:EB C V z0 b.pl b.g y0)(f:O (λk=>k=B\/k=C) P y0):SF B C R X v0 p0 o1 z1 d V z0 b x1 q1 y0:=by
 have e:=h.yI;refine⟨l,m,j,h.C.j f λq=>q.elim e.2.2.1 e.2.2.2.2.1,h.st.j f (λk a q=>q.elim (h.yU k a).1 (h.yU k a).2.1) ?_,h.nb⟩;intro k o t p a i;rcases a with a|a
 subst a;have c:P.heap[k]? =_:=h.rd;rotate_left;subst a;have c:P.heap[k]? =_:=h.r;all_goals
  rw[i]at c;simp only[Ai,Aq]at c;rw[c.2.1];decide
theorem TI(a x s):(Gc a x s).1.body=s.body/\(Gc a x s).1.other=s.other:=by grind[Gc]
theorem Xl{a}(b:(CI a<|B-1).h=0)(x s)(f:x.b<B):(Gc a x s).2.b<B:=by
 have E:∀(c:Cj) (x:St),x.b<B->(CW a c x).b<B:=λc x h=>EK Q b h
 have e:∀(k:M) (x:St),k≠0->x.b<B->(Ev a k x).2.b<B:=λk x d h=>Iw (q:=(Ev a k x).1) Q d b h
 have I:∀(x:St),x.b<B->(EM a x).2.b<B:=λx h=>IW (q:=(EM a x).1) Q b h
 grind[Gc]
def Mw(n:M)(x:St)(m:M):Prop:=x.b<n/\x.pl<=n/\x.g<=n/\m<=n/\(x.wY=Z->x.pl<=x.b/\x.g<=x.b/\m<=x.b)
theorem Mw.xQ{y:St}(h:Mw B q9 C)(q:Kc R q9 y)(b:y.b<B):Mw B y C:=by have⟨c,d,f,a,g⟩:=h;have⟨i,j,l,o⟩:=q;refine⟨b,by omega,by omega,a,λe=>?_⟩;grind
theorem Yv{a}(b:(CI a<|B-1).h=0)(g x)(e:x.b<B):(DW a g x).2.b<B:=by
 have E:∀(c:Cj) (x:St),x.b<B->(CW a c x).b<B:=λc x h=>EK Q b h
 have d:∀(k:M) (x:St),k≠0->x.b<B->(Ev a k x).2.b<B:=λk x f h=>Iw (q:=(Ev a k x).1) Q f b h
 unfold DW;split;grind;split;grind;split;grind;exact Xl b _ _<|E _ _<|d _ _ nofun e
theorem GY{tZ n}(U:(CI tZ<|n-1).h=0):∀f:M,
 (∀(a:M) (x:St) (c:C8) (g:Cf),Mw n x c->Mw n (C6 tZ f a x c g).2.1 (C6 tZ f a x c g).2.2/\x.b<=(C6 tZ f a x c g).2.1.b/\L c<=(C6 tZ f a x c g).2.2)/\
 (∀(a:M) (x:St) (c:C8),Mw n x c->x.wY=Z->Mw n (Dn tZ f a x c).2.1 (Dn tZ f a x c).2.2/\x.b<=(Dn tZ f a x c).2.1.b/\L c<=(Dn tZ f a x c).2.2/\(f≠0->(Dn tZ f a x c).2.1.wY=Z->x.b<(Dn tZ f a x c).2.1.b)):=by
 have E:=DP tZ;have C:∀(H:Cj) (x:St),x.b<n->(CW tZ H x).b<n:=λH x h=>EK Q U h
 intro f;induction f with
 |zero=> grind[C6,Dn]
 |succ f m=>
  refine⟨λa x c g h=>?_,λa x c h z=>?_⟩;rw[C6];split;exact⟨h,Ad _,Ad _⟩;rename_i hc;have z:x.wY=Z:=by
   cases hx:x.wY with
   |none=>rfl
   |some b=>exact Bm (zo<|by simp[hx]) hc
  have⟨j,u,v,_⟩:=m.2 a x c h z;have⟨k,I,K⟩:=m.1 a _ _ (g++[(Dn tZ f a x c).1]) j;exact⟨k,As u I,As v K⟩;have hi:=h;have⟨S,h2,h3,h4,h5⟩:=h;have⟨p1,p2,p3⟩:=h5 z;rw[Dn];split;simp only;have i:=((E (Dk<|CI tZ x.b) x).trans<|E [63] _).trans<|E [123]<|CW tZ [63]<|CW tZ (Dk<|CI tZ x.b) x;have w:=C [63] _<|C (Dk<|CI tZ x.b) x S;have c3:=C [123] _ w;generalize CW tZ [63] (CW tZ (Dk<|CI tZ x.b) x)=x2 at*;generalize CW tZ [123] x2=o at*;have I0:Mw n o<|c++[Gd 0 0]:=by have⟨y,l,g3,P⟩:=i;refine⟨c3,by omega,by omega,by simp;omega,λe=>?_⟩;have:=P e;simp only[Ah,Af,Aw];omega
  have⟨j,u,v⟩:=m.1 a o (c++[Gd 0 0]) [] I0;generalize C6 tZ f a o (c++[Gd 0 0]) []=r at*;have a0:L c+1<=L r.2.2:=by simpa using v
  have p:=E [125] r.2.1;have N:=C [125] r.2.1 j.1;have t:=j.xQ p N;generalize CW tZ [125] r.2.1=d at*;have y:o.b<=d.b:=As u p.1;have l:d.wY=Z->x.b<d.b:=λe=>by have q:=p.2.2.2 e;have:=i.1;omega
  split;split;have F:=(E Hp d).trans<|E [123]<|CW tZ Hp d;have c5:=C [123] _<|C Hp d N;generalize CW tZ Hp d=x4 at*;generalize CW tZ [123] x4=V at*;have I5:=t.xQ F c5;have⟨k,I,K⟩:=m.1 a V r.2.2 [] I5;generalize C6 tZ f a V r.2.2 []=B at*;have s:=E [125] B.2.1;have c6:=C [125] B.2.1 k.1;have I6:=k.xQ s c6;generalize CW tZ [125] B.2.1=x5 at*;have:=i.1;have:=F.1;have:=s.1;refine⟨by simpa using I6,by simp only;omega,by simp only[Bi];omega,λ_ e=>?_⟩;have q:=s.2.2.2 e;simp only;omega;have:=i.1;exact⟨by simpa using t,by simp only;omega,by simp only[Bi];omega,λ_ e=>l e⟩;have:=i.1;exact⟨by simpa using t,by simp only;omega,by simp only[Bi];omega,λ_ e=>l e⟩;simp only;have X:=(Ww tZ a x).ahead<|E [59] (DW tZ a x).2;have w:=C [59] _<|Yv U a x S;generalize CW tZ [59] (DW tZ a x).2=x1 at*;have⟨y,l,g3,P,g5,R⟩:=X;refine⟨⟨w,by omega,by omega,by simp;omega,λe=>?_⟩,y,by simp,λ_ e=>?_⟩;have:=R e;simp only[Bi,Ah,Af,Aw];omega;have:=R e;omega
def N7(f:M):Prop:=∀(h d g n b B k:M) (U:Ce) (a:DH) (j i:H') (x:St) (c:C8) (w:I'),Dl h d g n b x.b x.wY w->Dt g n b a w->EB d j i x.pl x.g w->Eh B U w i c->B<=w->(CI a<|n-1).h=0->Mw n x c->x.wY=Z->2*(n-x.b)<=f->
 F' zy 108 #[Z' h,k] w λe l=>Y8 h d g n b B U a j i w (Dn a f k x c) e l
def nV(i d g n h B:M)(U:Ce)(m:DH)(j l:H')(w:I')(p:M)(r:Cf×St×C8)(e:Ending)(a:I'):Prop:=
 ∃f c b,(∀k,U k->b k)/\(∀k,b k->U k\/(w:M)<=k)/\(∀k,L' c=T k->¬b k)/\e=P' #[p,c]/\CY w a c r.1/\Dl i d g n h r.2.1.b r.2.1.wY a/\Dt g n h m a/\EB d j f r.2.1.pl r.2.1.g a/\Eh B b a f r.2.2/\JI i d l f w a
def Uw(a n:M)(w:I'):M:=2*(n-Tx a w)+(match w (a,2)with|some v=>if zm v<0 then 1 else 0|none=>0)
theorem LZ{a}(h:Dl B C R X v0 p0 a P):Uw B X P=2*(X-p0)+(if a=Z then 1 else 0):=by
 have c:=W.j2 h;unfold Uw;rw[Rn h,c];cases a with
 |none=>rfl
 |some b=>
  have e:¬(zm (G A<|Ob b)<0):=by show¬((b:zw)<0);omega
  simp only;rw[Ba e,Ba<|by simp]
theorem Eh.below{w}(h:Eh B z1 w V x1):Eh B (λk=>z1 k/\k<w.heap.size) w V x1:=by
 have⟨g,p,n,o⟩:=h;refine⟨g,p,n,λi j l=>?_⟩;have⟨e,f,s,m,a,b,d,r⟩:=o i j l;refine⟨e,f,s,m,a,b,d,λk c=>⟨r k c,?_⟩⟩;rcases c with q|q|q
 exact(a.lt k q).2;exact(b.lt k q).2;exact(d.lt k q).2
theorem Eh.rb{b w}(h:Eh o1 z1 w V x1)(e:Dl B C R X v0 p0 b w)(j:O (λk=>k=B) w P):Eh o1 z1 P V x1:=by refine h.j j (λk a=>?_) λk f t m a i=>?_;have⟨f,l,_⟩:=h;exact CL l e (by decide) k a;have a:k=B:=a;subst a;have d:w.heap[k]? =_:=e;rw[i]at d;simp only[Ai,Aq]at d;rw[d.2.1];decide
theorem Eh.t8{w}(h:Eh B z1 w V x1)(a:O Cb w P):Eh B z1 P V x1:=h.j a Ed λ_ _ _ _ q=>q.elim
theorem iT{b}(h:CY s2 P u1 q2)(j:Dl B C R X v0 p0 b P)(i:EB C V z0 p4 s3 P)(m:Eh o1 z1 P z0 x1)(f:JI B C z0 s0 P y0):CY s2 y0 u1 q2:=by
 have⟨o,p,_⟩:=m;refine CD h f.j λk d e a=>?_;rcases a with a|a|a
 exact Fp j.p (by decide) k d e a;exact Fp i.p (by decide) k d e a;grind[Ht]
theorem JI.owned(h:JI B C V z0 P y0)(a:O (λk=>L' s0=T k) y0 v1)(d:∀k,L' s0=T k->(P:M)<=k):JI B C V z0 P v1:=by refine⟨⟨a.os.trans h.j.os,a.tape.trans h.j.tape,a.output.trans h.j.output,As h.j.size a.size,λk b c=>?_⟩,h.own⟩;rw[a.block k (Av b h.j.size) λq=>by grind];exact h.j.block k b c
theorem WC{a}(h:q9.wY≠Z\/Ei q9.wY (CI a q9.b) [125]=zt):C6 a B C q9 x1 q2=(q2,q9,x1):=by
 cases B with
 |zero=>rw[C6]
 |succ B=>rw[C6,Bb h]
theorem SD(f:M)(ih:∀k,k<=f->N7 k)(l j g n r B o:M)(U:Ce)(c:DH)(fv sv:H')(d:St)(u:C8)(w:I')(P:Dl l j g n r d.b d.wY w)(ht:Dt g n r c w)(hp:EB j fv sv d.pl d.g w)(d6:Eh B U w sv u)(hU:∀k,U k->k<(w:M))(hB:B<=w)(hz:(CI c<|n-1).h=0)(b7:Mw n d u)(hf:d.wY=Z->2*(n-d.b)<=f):
 F' zy 66 #[Z' l,o] w λe w'=>nV l j g n r B U c fv sv w (CI c d.b).pos ((C6 c f o (CW c [123] d) u []).1,CW c [125] (C6 c f o (CW c [123] d) u []).2.1,(C6 c f o (CW c [123] d) u []).2.2) e w':=by
 have⟨i0,hi,f7,f8,f9⟩:=Bx Tryz.infoInt;have b6:=b7.1;have hn:=ht.2.2;have⟨t0,t1,t2⟩:=ht.cells b6;have r0:=P.p.z;have lr:=Cz P;have lp:=Cz hp;have⟨V,hV⟩:=Dv<|C6 c f o (CW c [123] d) u [];rw[hV];have HV:=J hV;have p:=P;have C:=ht;have HP:=hp;have HZ:=J hz;clear hV P ht hp hz;generalize f5:(CI c d.b).pos=h1 at*;clear f5;go_in;go_wp2;go_quiet(fail);go_wp2_with fail;apply(Pa l j g n r d.b d.wY c _ [123] (by simp) (w.drewN nq) p C b6).mono;rintro e w1 ⟨rfl,P,ho⟩;have⟨t,a5⟩:=Dv<|CW c [123] d;have e8:=J a5;have hg:=DP c [123] d;have e9:t.b<n:=EK a5 HZ.o b6;rw[a5]at hg;have b9:Mw n t u:=b7.xQ hg e9;have c7:t.wY=Z->2*(n-t.b)+1<=f:=λe=>by have q:=hg.2.2.2 e;have:=hf q.1;omega
 have R:Dl l j g n r t.b t.wY w1:=by subst a5;exact P
 have c2:=R;have d2:=C.ne p (by decide);have d3:j≠l:=HP.p.ne p.p (by decide);have c6:=Dt.j (w:=w.drewN nq) C ho d2;have c1:EB j fv sv t.pl t.g w1:=by have:=EB.p (w:=w.drewN nq) HP;have q:=this.j ho d3;rw[hg.2.1,hg.2.2.1];exact q
 have c4:=Eh.rb (w:=w.drewN nq) d6 p ho;have b4:=(JI.refl l j sv w).drewN nq|>.tr ho
 have c8:D<|C6 c f o t u []=V:=by rw[<-a5];exact HV.o
 clear P ho a5 R hg HV p C HP d6 b7 hf t0 t1 t2 r0;go_wp2_with fail;go_loopw[7] (λv wr=>∃(k:M) (a:St) (F:C8) (z:Cf) (a0:H') (E:Ce),D ((∀k,U k->E k)/\(∀k,E k->U k\/(w:M)<=k)/\(∀k,E k->k<(wr:M))/\∀k,L' v=T k->¬E k)/\Dl l j g n r a.b a.wY wr/\Dt g n r c wr/\EB j fv a0 a.pl a.g wr/\Eh B E wr a0 F/\JI l j sv a0 w wr/\CY w wr v z/\Mw n a F/\D (a.wY=Z->2*(n-a.b)+1<=k/\z<=a.b)/\k<=f/\z<=n/\D (C6 c k o a F z=V)) (λ_ wr=>Uw l n wr);exact⟨f,t,u,[],sv,U,⟨λ_ h=>h,λ_ h=>zo h,λk h=>by have:=hU k h;have:=b4.j.size;omega,λk h=>by simp[L']at h⟩,c2,c6,c1,c4,b4,An _ _ _ _,b9,λe=>⟨c7 e,by simp⟩,Ad _,by simp,c8⟩;have⟨k,a,F,z,a0,E,a2,p,C,HP,HS,HF,HN,HI,HU,g6,g8,HC⟩:=hrel;clear c2 c6 c1 c4 b4 b9 c7 c8 e8;have c9:=HI.1;go_wp2_with fail;apply(Ys l j g n r a.b a.wY c _ [125] (by simp) wr p C c9).mono;rintro e w2 ⟨rfl,N⟩;have K:=p.j N id;have b1:=C.j N id;have a9:EB j fv a0 a.pl a.g w2:=HP.p.j N id;have b0:=HS.t8 N;have a7:=HF.trans<|JI.xM<|N.mono λ_ _ q=>q.elim;have a8:CY w w2 u7 z:=Cx HN N Ed;have HM:=J<|LZ p;clear p C HP HS HF HN N;have r2:=K.p.z 2;simp at r2;by_cases S:a.wY≠Z\/Ei a.wY (CI c a.b) [125]=zt
 .have hv:V=(z,a,F):=by rw[<-HC.o,WC S]
  subst hv;have f0:(∃b:M,a.wY=b/\Ei a.wY (CI c a.b) [125]=zr)\/Ei a.wY (CI c a.b) [125]=zt:=by
   cases X:a.wY with
   |none=>right;rcases S with q|q;exact Bm X q;rw[X]at q;exact q
   |some b=>left;exact⟨b,Q,Q⟩
  clear S HC HU HM;rcases f0 with⟨b,y,s⟩|s
  rw[s];rw[y]at r2;simp only[Ob]at r2;have g5:zu ((0:zw)<=(b:zw))=zt:=by simp
  have e3:=J s;have g4:=J y;clear s y;rotate_left;rw[s];have e3:=J s;clear s;all_goals
   go_wp2_with fail;apply(Pa l j g n r a.b a.wY c _ [125] (by simp) w2 K b1 c9).mono;rintro e I ⟨rfl,a4,a6⟩;have b5:=a4;clear a4;go_wp2_with fail;go_ret2;refine⟨a0,u7,E,a2.1,a2.2.1,a2.2.2.2,Q,?_,b5,b1.j a6 d2,a9.p.j a6 d3,b0.rb K a6,a7.tr a6⟩;exact CD a8 a6 λk ds fz m=>Fp K.p (by decide) k ds fz m
 .have y:a.wY=Z:=by
   cases X:a.wY with
   |none=>rfl
   |some b=>exact Bm (zo<|by simp[X]) S
  have s:Ei a.wY (CI c a.b) [125]=zr:=by
   cases hq:Ei a.wY (CI c a.b) [125]with
   |false=>rfl
   |true=>exact Bm (zn hq) S
  have g7:=HU y
  obtain⟨H,f2⟩:∃H,k=H+1:=⟨k-1,by omega⟩
  subst f2
  obtain⟨ri,rx,rf,R⟩:∃i x f,Dn c H o a F=(i,x,f):=⟨_,_,_,Q⟩
  have a1:=(GY HZ.o H).2 o a F HI y
  rw[R]at a1
  have e0:D<|C6 c H o rx rf (z++[ri])=V:=by have:=HC.o;rw[C6,Ba S,R]at this;exact this
  rw[s]
  rw[y]at r2
  simp only[Ob]at r2
  have HB:=J y
  have e5:=J R
  have h0:(w:M)<=w2:=a7.j.size
  clear s y S HC HU R
  go_wp2_with fail
  apply(ih H (by omega) l j g n r B o E c fv a0 a F w2 K b1 a9 b0 (by omega) HZ.o HI HB.o<|by omega).mono
  rw[e5.o]
  rintro e I ⟨g0,U2,d9,b8,rfl,a4,d8,d5,d7,b3⟩
  have a3:=iT a8 K a9 b0 b3
  have d1:=CL a3 a4<|by decide
  have d4:=CL a3 d5<|by decide
  have g9:(w2:M)<=I:=b3.j.size
  have b5:=a4
  have c5:=J d7.below
  have e1:=a7.trans b3
  have c0:=J<|And.intro d1 d4
  have b2:(∀k,U k->U2 k/\k<(I:M))/\(∀k,U2 k/\k<(I:M)->U k\/(w:M)<=k)/\∀k,L' u7=T k->¬(U2 k/\k<(I:M)):=by
   refine⟨λk h=>⟨d9 k<|a2.1 k h,?_⟩,λk h=>?_,λk h q=>?_⟩;have:=hU k h;omega;rcases b8 k h.1 with q|q
   exact a2.2.1 k q;exact zn (by omega);rcases b8 k q.1 with q'|q'
   exact a2.2.2.2 k h q';have:=(a8.lt k h).2;omega
  clear d9 b8 a4 d7 b3 d1 d4 a8 K b1 a9 b0 a7 r2
  go_wp2_with(at_builtin;refine Dp _ Q _ _ 105 Q w 3 i0 (G A 0) 1 8 underlying105 hi f7 f8 f9 Q (by decide) _ _ _ Q (a3.alloc _) I 1 1 [G A (ri:zw)] Q Q (cell_one_new _ _ _) (λx X=>by simp at X;subst X;rfl) (by decide) (by unfold E';omega) (by omega) (by simp;omega) ?_;intro v' w4 f4 f1 f3)
  have O4:O (λk=>L' u7=T k) I w4:=O.xA oq f1 λk m=>zo m
  have c3:=b5.j O4 λq=>c0.o.1 l q Q
  have e7:=d8.j O4<|GW d8.1 a3 (by decide) g Q
  have e4:=d5.p.j O4 λq=>c0.o.2 j q Q
  have e6:=c5.zE O4 (λk m=>by have⟨cs,f6,_⟩:=c5;exact GW f6 a3 (by decide) k m) λk m q=>b2.2.2 k q m
  have e2:=e1.owned O4 λk m=>(a3.lt k m).1
  have d0:H≠0:=by omega
  refine⟨⟨H,rx,rf,z++[ri],g0,λk=>U2 k/\k<(I:M),⟨b2.1,b2.2.1,λk m=>by have:=O4.size;omega,λk m q=>?_⟩,c3,e7,e4,e6,e2,?_,a1.1,λe=>?_,by omega,by simp;omega,e0⟩,?_⟩
  rcases f3 k m with q'|q'
  exact b2.2.2 k q' q
  simp at q'
  omega
  show J' _ _ _ _ _ _ _
  rw[Ah,Bn]
  exact f4
  have:=a1.2.2.2 d0 e
  simp only[Ah,Af,Aw]
  omega
  rw[LZ c3,HM.o,Bb HB.o]
  have g1:=a1.2.1
  have g2:=a1.2.2.2 d0
  have g3:=a1.1.1
  split
  rename_i e
  have:=g2 e
  omega
  omega
theorem QZ:Keyed zy 9:=string_keyed underlying9
theorem UT(w):(zeroValue 3).run zy w=.ok (G A 0) w:=by kernel_rfl
structure CS where
 E:M
 t9:M
def EU(f p:M)(c:CS):CS:=if c.E=0 then⟨f,p⟩else c
def FJ(b:M)(a:H')(f:zw)(d e:H')(c:CS)(w:I'):Prop:=W b #[a,f,d,e,c.E,c.t9] 202 w
def Eg(s:Cd):Lit:=Lit.string s.data.toList
def D5(b n:M)(a:Cm)(w:I'):Prop:=w.ownsMap zy 9 (plainElem zy 3) b n a
theorem EW(b f p:M)(h:H')(m:zw)(j l:H')(c:CS)(w:I')(g:FJ b h m j l c w):
 F' zy 92 #[Z' b,f,p] w λe n=>e=P' #[]/\FJ b h m j l (EU f p c) n/\O (λk=>k=b) w n:=by
 have s:=W.z g;have q:=λi=>CZ g i
 have r:=Cz g;by_cases a:c.E=0
 .have d:EU f p c=⟨f,p⟩:=by simp[EU,a]
  rw[d];have o:((c.E:zw)==0)=zt:=by simp[a]
  clear d a;go_in;go_wp2;go_end0;refine⟨Q,?_,?_⟩;have:=(W.set (w:=w) g 4 f).set 5 p;simpa[FJ]using this;exact((CT _ _).wS 4 _).wS 5 _
 .have d:EU f p c=c:=by simp[EU,a]
  rw[d];have o:((c.E:zw)==0)=zr:=by simp[a]
  clear d a;go_in;go_wp2;go_end0;exact⟨Q,g,oq⟩
theorem Nk(a:u0.size<=4000):keyOf zy 9 (Y' u0)=T (Eg u0):=WideMaps.keyOf_string_mk underlying9<|by grind[E']
theorem Js{w s}(h:D5 B C z8 w)(b:s.size<=4000):
 ∃z:zw,(Instr.lookup 140 (.map<|T B) (Y' s) zt).run zy w=.ok (P' #[G A z,O'<|Maps.has z8<|Eg s]) w/\z8.atKey (Eg s) (.lit<|.int .i64 0)=.lit (.int .i64 z)/\(Lit.int .i64 z).wf=zt:=by
 have⟨v,e,c,d⟩:=World.ownsMap.look_ok h QZ underlying140 (UT w) (plainElem_int underlying3 (a:=0)<|by decide)<|Nk b;grind[plainElem_int_inv,underlying3]
theorem D5.j{X:Ce}{w w'}(h:D5 B C z8 w)(d:O X w w')(e:¬X B):D5 B C z8 w':=by have⟨c,b,a,r⟩:=h;exact⟨c,b,by rw[d.block B (lt_of_block a) e];exact a,r⟩
theorem D5.ne(h:D5 B C z8 P){a}(f:P.heap[R]? =T (R' q1 q0 a)):B≠R:=by have⟨d,c,e,r⟩:=h;grind
def Fj(a:Cm)(t:PT)(c:CS):CS:=if Maps.has a (Eg t.a)then c else EU 6 t.t9 c
theorem IT(b h j i m n d c t w)(g:FJ b h j i (.map<|T m) c w)(l:D5 m n d w)(q:t.a.size<=4000):
 F' zy 187 #[Z' b,Qa t] w λe p=>e=P' #[]/\FJ b h j i (.map<|T m) (Fj d t c) p/\O (λk=>k=b) w p:=by
 have v:=W.z g;have u:=Cz g;have⟨z,o,_,_⟩:=Js (w:=(w.alloc<|R' #[t.a,t.t9] 145).drew) (l.j (((CT Cb w).alloc _).drew) id) q;clear l;unfold Qa;cases a:Maps.has d (Eg t.a)with
 |true=>
  rw[a]at o;have f:Fj d t c=c:=by simp[Fj,a]
  rw[f];clear f a;go_in;go_wp2;go_region;go_wp2;go_end0;exact⟨Q,g.j (((CT Cb w).alloc _).drew) id,((CT _ w).alloc _).drew⟩
 |false=>
  rw[a]at o;have f:Fj d t c=EU 6 t.t9 c:=by simp[Fj,a]
  rw[f];clear f a;go_in;go_wp2;go_region;go_wp2_with(go_at_call 92;apply(EW b 6 t.t9 h j i (.map m) c _<|g.j (((CT Cb w).alloc _).drew) id).mono);rintro e x ⟨rfl,s,r⟩;go_wp2;go_end0;exact⟨Q,s,(((CT _ w).alloc _).drew).trans r⟩
theorem Oq(b h j i m n d c t w)(g:FJ b h j (.map<|T m) i c w)(l:D5 m n d w)(q:t.a.size<=4000):
 F' zy 188 #[Z' b,Qa t] w λe p=>e=P' #[]/\FJ b h j (.map<|T m) i (Fj d t c) p/\O (λk=>k=b) w p:=by
 have v:=W.z g;have u:=Cz g;have⟨z,o,_,_⟩:=Js (w:=(w.alloc<|R' #[t.a,t.t9] 145).drew) (l.j (((CT Cb w).alloc _).drew) id) q;clear l;unfold Qa;cases a:Maps.has d (Eg t.a)with
 |true=>
  rw[a]at o;have f:Fj d t c=c:=by simp[Fj,a]
  rw[f];clear f a;go_in;go_wp2;go_region;go_wp2;go_end0;exact⟨Q,g.j (((CT Cb w).alloc _).drew) id,((CT _ w).alloc _).drew⟩
 |false=>
  rw[a]at o;have f:Fj d t c=EU 6 t.t9 c:=by simp[Fj,a]
  rw[f];clear f a;go_in;go_wp2;go_region;go_wp2_with(go_at_call 92;apply(EW b 6 t.t9 h j (.map m) i c _<|g.j (((CT Cb w).alloc _).drew) id).mono);rintro e x ⟨rfl,s,r⟩;go_wp2;go_end0;exact⟨Q,s,(((CT _ w).alloc _).drew).trans r⟩
theorem Jb{p:M}{w:I'}(h:D5 B C z8 w)(e:u0.size<=4000)(j:p<=4000)(i:C<=4000):
 ∃a,(Instr.mapUpdate 140 (.map<|T B) u0 p).run zy w=.ok () a/\D5 B (C+1) (z8.put (Eg u0)<|.lit<|.int .i64 p) a/\O (λk=>k=B) w a:=by
 have g:(Lit.int .i64 (p:zw)).wf=zt:=WalkArith.wf_i64 (by omega);have⟨a,f,b,c⟩:=World.ownsMap.store h QZ underlying140 (by grind[E']) (Nk e)<|plainElem_int underlying3 g;exact⟨a,f,b,(CT _ w).xA (World.mapTurned.grown c) λk d=>zo<|by cases d;rfl⟩
def Jj(a:Cm)(t:PT)(c:CS):CS:=
 let b:=if 12<=Maps.size a then EU 4 t.t9 c else c
 if Maps.has a (Eg t.a)then EU 5 t.t9 b else b
def Mo(a:Cm)(t:PT):Cm:=a.put (Eg t.a)<|.lit<|.int .i64 t.t9
theorem OZ(b N a0 X m n g c t w)(hr:FJ b N a0 X (.map<|T m) c w)(hm:D5 m n g w)(H:t.a.size<=4000)(hp:t.t9<=4000)(hn:n<=4000):
 F' zy 137 #[Z' b,Qa t] w λe w'=>e=P' #[]/\FJ b N a0 X (.map<|T m) (Jj g t c) w'/\D5 m (n+1) (Mo g t) w'/\O (λk=>k=b\/k=m) w w':=by
 have r3:=W.z hr;have lr:=Cz hr;unfold Qa;have K0:=hr.j ((CT Cb w).alloc<|R' #[t.a,t.t9] 145) id;have I:=hm.j ((CT Cb w).alloc<|R' #[t.a,t.t9] 145) id;have N0:=W.new w #[t.a,t.t9] 145;have O0:=(CT (λk=>k=b) w).alloc<|R' #[t.a,t.t9] 145;have a2:=λty=>World.ownsMap.len I underlying140 ty
 by_cases hs:12<=Maps.size g
 .have a3:(12:zw)<=(Maps.size g:zw):=by omega
  have⟨E,F⟩:=Dv<|EU 4 t.t9 c;have P:Jj g t c=if Maps.has g (Eg t.a)then EU 5 t.t9 E else E:=by simp[Jj,hs,F]
  rw[P];have C1:=J F;clear P F hs;go_in;go_wp2_with(go_at_call 92;apply(EW b 4 t.t9 N a0 X (.map m) c _ K0).mono);rw[C1.o];rintro e a ⟨rfl,kw,ow⟩;have j:=kw;have l:=D5.j I ow<|D5.ne I K0;have s:=W.j N0 ow (by omega);have K:=O0.trans ow;clear kw ow a2 r3;go_wp2;have S:=W.z j;have R:=W.z s;have⟨z,o,_,_⟩:=Js (w:=a.drew) (D5.j l ((CT Cb a).drew) id) H;cases f:Maps.has g (Eg t.a)with
  |true=> rw[f]at o;have r:=J f;clear f;go_region;go_wp2_with(go_at_call 92;apply(EW b 5 t.t9 N a0 X (.map m) E _<|W.j j ((CT Cb a).drew) id).mono);rintro e V ⟨rfl,U,ov⟩;have p:O (λk=>k=b) a V:=((CT _ a).drew).trans ov;have d:=U;have h:=D5.j l p<|D5.ne l j;have u:=W.j s p (by omega);have v:=K.trans p;clear U ov p o S R;have⟨x,a1,y,B⟩:=Jb (w:=V.drew) (D5.j h ((CT Cb V).drew) id) H hp hn;have q3:=W.z d;have n0:=W.z u;go_wp2;go_region;go_end0;have i:O (λk=>k=m) V x:=((CT _ V).drew).trans B;have C:=h.ne d;rw[Bb r.o];exact⟨Q,W.j d i λq=>C q.symm,y,(v.mono λ_ _ q=>zo q).trans<|i.mono λ_ _ q=>zn q⟩
  |false=> rw[f]at o;have r:=J f;clear f;go_region;have d:=W.j j ((CT Cb a).drew) id;have h:=D5.j l ((CT Cb a).drew) id;have u:=W.j s ((CT Cb a).drew) id;have v:=K.drew;generalize hV:a.drew=V at*;clear o S R hV;have⟨x,a1,y,B⟩:=Jb (w:=V.drew) (D5.j h ((CT Cb V).drew) id) H hp hn;have q3:=W.z d;have n0:=W.z u;go_wp2;go_region;go_end0;have i:O (λk=>k=m) V x:=((CT _ V).drew).trans B;have C:=h.ne d;rw[Ba<|by rw[r.o];decide];exact⟨Q,W.j d i λq=>C q.symm,y,(v.mono λ_ _ q=>zo q).trans<|i.mono λ_ _ q=>zn q⟩
 .have a3:¬(12:zw)<=(Maps.size g:zw):=by omega
  have⟨E,F⟩:=Dv<|c;have P:Jj g t c=if Maps.has g (Eg t.a)then EU 5 t.t9 E else E:=by simp[Jj,hs,F]
  rw[P];clear P hs;subst F;go_in;go_wp2;generalize w.alloc (R' #[t.a,t.t9] 145)=a at*;have j:=K0;have l:=I;have s:=N0;have K:=O0;clear a2 r3 K0 I N0 O0;have S:=W.z j;have R:=W.z s;obtain⟨z,o,_,_⟩:=Js (w:=a.drew) (D5.j l ((CT Cb a).drew) id) H;cases f:Maps.has g (Eg t.a)with
  |true=> rw[f]at o;have r:=J f;clear f;go_region;go_wp2_with(go_at_call 92;apply(EW b 5 t.t9 N a0 X (.map m) c _<|W.j j ((CT Cb a).drew) id).mono);rintro e V ⟨rfl,U,ov⟩;have p:O (λk=>k=b) a V:=((CT _ a).drew).trans ov;have d:=U;have h:=D5.j l p<|D5.ne l j;have u:=W.j s p (by omega);have v:=K.trans p;clear U ov p o S R;obtain⟨x,a1,y,B⟩:=Jb (w:=V.drew) (D5.j h ((CT Cb V).drew) id) H hp hn;have q3:=W.z d;have n0:=W.z u;go_wp2;go_region;go_end0;have i:O (λk=>k=m) V x:=((CT _ V).drew).trans B;have C:=h.ne d;rw[Bb r.o];exact⟨Q,W.j d i λq=>C q.symm,y,(v.mono λ_ _ q=>zo q).trans<|i.mono λ_ _ q=>zn q⟩
  |false=> rw[f]at o;have r:=J f;clear f;go_region;have d:=W.j j ((CT Cb a).drew) id;have h:=D5.j l ((CT Cb a).drew) id;have u:=W.j s ((CT Cb a).drew) id;have v:=K.drew;generalize hV:a.drew=V at*;clear o S R hV;have⟨x,a1,y,B⟩:=Jb (w:=V.drew) (D5.j h ((CT Cb V).drew) id) H hp hn;have q3:=W.z d;have n0:=W.z u;go_wp2;go_region;go_end0;have i:O (λk=>k=m) V x:=((CT _ V).drew).trans B;have C:=h.ne d;rw[Ba<|by rw[r.o];decide];exact⟨Q,W.j d i λq=>C q.symm,y,(v.mono λ_ _ q=>zo q).trans<|i.mono λ_ _ q=>zn q⟩
def J2(a:Cm)(l:Dw)(c:CS):CS:=l.foldl (λc t=>Fj a t c) c
theorem Wj(a:Cm)(l:Dw)(k:M)(h:k<l)(c:CS):J2 a (l.drop k) c=J2 a (l.drop<|k+1) (Fj a l[k] c):=by rw[Ap h];rfl
theorem JN{l i}(h:i<L l):(Ej l)[i*2]? =T (Y' l[i].a)/\(Ej l)[i*2+1]? =T (G A l[i].t9):=by
 induction l generalizing i with
 |nil=>simp at h
 |cons t l a=>
  cases i with
  |zero=>simp[Ej,JM]
  |succ i=>
   have:=a (i:=i) (by simpa using h);simp only[Ej,List.flatMap_cons,AW]at this|-;have e:∀j,(JM t++List.flatMap JM l)[(i+1)*2+j]? =(List.flatMap JM l)[i*2+j]? :=by intro j;rw[Bc<|by simp[JM];omega];congr 1;simp[JM];omega
   exact⟨by rw[show(i+1)*2=(i+1)*2+0 from Q,e];exact this.1,by rw[e];exact this.2⟩
theorem Ke(b j r q m n a c l v w)(h:FJ b j r q (.map<|T m) c w)(z:D5 m n a w)(o:J' w 0 145 2 v (L l)<|Ej l)(K:∀t,t∈l->t.a.size<=4000)(hk:L l<=4000):
 F' zy 190 #[Z' b,v] w λe E=>e=T' (P' #[])/\FJ b j r q (.map<|T m) (J2 a l c) E/\O (λk=>k=b) w E:=by
 obtain⟨va,vc,rfl⟩:=CB o;have lr:=Cz h;have R:=CL o h (by decide);have P:=z.ne h;generalize x:J2 a l c=V;have u:D<|J2 a (l.drop 0) c=V:=x;clear x;go_in;go_wp2;go_loopw[8] (λi wr=>∃(k:M) (d:CS),k<=L l/\i=G A k/\FJ b j r q (.map m) d wr/\D (O (λk=>k=b) w wr)/\D (J2 a (l.drop k) d=V)) (λi _=>l-(zm i).toNat);exact⟨0,c,by omega,Q,h,J oq,u⟩;obtain⟨k,d,a1,rfl,B,f,C⟩:=hrel;clear u h;by_cases y:k<l
 .obtain⟨g,rfl⟩:=CH o (by omega);have p:=Cx o f R;have I:=D5.j z f P;have s:=JN y;have F:=p.cellAt (k*2) (by omega);have H:=p.cellAt (k*2+1) (by omega);rw[s.1]at F;rw[s.2]at H;have lg:=(p.lt g Q).2;have X:=J<|Wj a l k y d;have N:=K l[k]<|Am _;generalize l[k]=t at*;have l1:=f;clear s p;go_wp2_with(go_at_call 187;apply(IT b j r q m n a d t _ (W.j B ((CT Cb _).alloc _) id) (D5.j I ((CT Cb _).alloc _) id) N).mono;rintro e w2 ⟨rfl,U,S⟩);go_round;exact⟨k+1,_,by omega,by go_num,J U,J<|f.trans<|((CT _ _).alloc _).trans S,J<|X.o.symm.trans C.o⟩;simp[intOf];omega
 .have e:k=l:=by omega
  subst e;have a0:d=V:=by have:=C.o;simpa[J2]using this
  subst a0;go_wp2;go_end0;exact⟨Q,B,f⟩
theorem EO:∀{a:List<|Ci} {s:M},(∀c,c∈a->c=s)->∀{j i:M} (b:j<a),i<s->a.flatten[j*s+i]? =a[j][i]?
 |[],_,_,_,_,b,_=>by simp at b
 |c::a,s,d,0,i,_,f=>by grind
 |c::a,s,d,j+1,i,b,f=>by
  have g:=d c (by simp);have h:j<a:=by grind
  have e:(j+1)*s+i=s+(j*s+i):=by grind
  simp only[List.flatten_cons,AW];rw[e,Bc<|by omega,g,Nat.add_sub_cancel_left];exact EO (λx k=>d x<|by simp[k]) h f
theorem Gt.j{d}{U:Ce}{w w' sv}{X:Ce}(h:Gt d U w sv y2)(b:O X w w')(c:∀k,U k->¬X k):Gt d U w' sv y2:=by have⟨e,i,l,a,m⟩:=h;exact⟨e,Cx i b λk n=>c k<|a k n,l,a,λj g f=>(m j g f).j b c⟩
theorem Gt.get(h:Gt B z1 P (Y (T ⟨C,0,Z⟩) R X) y2)(s:v0<L y2):
 ∃(a b:H'),(∀i,i<5->K' P ⟨C,v0*5+i,Z⟩=(Sk y2[v0] a b)[i]?)/\J' P 0 145 2 a (L y2[v0].m) (Ej y2[v0].m)/\(∀k,L' a=T k->z1 k)/\Gq B z1 P b y2[v0].i:=by
 have⟨m,n,E,F,o⟩:=h;cases CU n;have p:v0<m:=by omega
 have⟨a,b,e,v,y,z⟩:=o v0 s p;have t:∀x,x∈m->L x=5:=by intro x u;obtain⟨i,f,rfl⟩:=AC.1 u;have⟨_,_,q,_⟩:=o i (by omega) f;rw[q];rfl
 refine⟨a,b,λi f=>?_,v,y,z⟩;have r:=n.cellAt (v0*5+i) (by omega);rw[r,EO t p f,e];simp
def Qh(F:Cm)(N:M):Prop:=∀s,Maps.has F (Eg s)=zt->∃j:M,j<N/\F.atKey (Eg s) (.lit<|.int .i64 0)=.lit (.int .i64 j)
def Fc(F:Cm)(s:Cd):M:=match F.atKey (Eg s) (.lit<|.int .i64 0)with|.lit (.int _ z)=>z.toNat|_=>0
def OC(a:Df)(j:M):M:=(a[j]?.map λt=>t.m).getD 0
def Iu(F:Cm)(b:Df)(t:PT)(a:M)(c:CS):CS:=
 if Maps.has F (Eg t.a)then(if OC b (Fc F t.a)=a then c else EU 7 t.t9 c)else EU 6 t.t9 c
theorem XR(b d:M)(U:Ce)(r:H')(f:Df)(B:zw)(y:H')(m n:M)(F:Cm)(c:CS)(t:PT)(a:M)(w:I')(o:FJ b r B (.map<|T m) y c w)(P:D5 m n F w)(u:Gt d U w r f)(hN:Qh F f)(hl:t.a.size<=4000)(hk:L f<=4001):
 F' zy 189 #[Z' b,Qa t,a] w λe S=>e=P' #[]/\FJ b r B (.map<|T m) y (Iu F f t a c) S/\O (λk=>k=b) w S:=by
 have r0:=W.j0 o;have r2:=W.j2 o;have lr:=Cz o;have⟨z,R,C,_⟩:=Js (w:=(w.alloc<|R' #[t.a,t.t9] 145).drew) (P.j (((CT Cb w).alloc _).drew) id) hl;clear P;unfold Qa;cases h:Maps.has F (Eg t.a)with
 |false=>
  rw[h]at R;have i:Iu F f t a c=EU 6 t.t9 c:=by simp[Iu,h]
  rw[i];clear i h u r0;go_in;go_wp2;go_region;go_wp2_with(go_at_call 92;refine(EW b 6 t.t9 r B (.map m) y c _<|o.j (((CT Cb w).alloc _).drew) id).mono ?_);rintro e w2 ⟨rfl,I,H⟩;go_wp2;refine Ak (v:=P' #[]) (by simp[zz,results189,go_sem]) Q ⟨Q,I,(((CT _ w).alloc _).drew).trans H⟩
 |true=>
  rw[h]at R;have⟨j,N,E⟩:=hN _ h;have hz:z=(j:zw):=by rw[E]at C;simpa using C.symm
  have s:Fc F t.a=j:=by simp[Fc,E]
  have x:OC f j=f[j].m:=by simp[OC,N]
  subst hz;have a0:=u;have⟨a2,q,_⟩:=a0;obtain⟨va,vl,vc,rfl⟩:=CA q;obtain⟨g,rfl⟩:=CH q (by omega);cases CU q;have lg:=(q.lt g Q).2;have⟨av,sv,l,K,_,_⟩:=u.get N;obtain⟨aa,ac,rfl⟩:=CB K;have f2:=l 2 (by omega);have V:=l 0 (by omega);have X:=l 1 (by omega);have f3:=l 3 (by omega);have f4:=l 4 (by omega);simp only[Sk,Ac,Aa,Ab,Au]at V X f2 f3 f4;clear q K l u C E;by_cases p:f[j].m=a
  .have i:Iu F f t a c=c:=by simp[Iu,h,s,x,p]
   rw[i];have a1:((L f[j].m:zw) !=(a:zw))=zr:=by simp[p]
   clear i h s x p;go_in;go_wp2;go_region;go_wp2;go_end0;exact⟨Q,o.j (((CT Cb w).alloc _).drew) id,((CT _ w).alloc _).drew⟩
  .have i:Iu F f t a c=EU 7 t.t9 c:=by simp[Iu,h,s,x,p]
   rw[i];have a1:((L f[j].m:zw) !=(a:zw))=zt:=by simp;omega
   clear i h s x p;go_in;go_wp2;go_region;go_wp2_with(go_at_call 92;refine(EW b 7 t.t9 _ B (.map m) y c _<|o.j (((CT Cb w).alloc _).drew) id).mono ?_);rintro e w2 ⟨rfl,I,H⟩;go_wp2;go_end0;exact⟨Q,I,(((CT _ w).alloc _).drew).trans H⟩
structure RF where
 I:Tk
 wZ:DH
 body:Cf
 br:M
 y:Cc
abbrev Dd:=List RF
variable {o0:Dd}
def J5(f:RF)(b a c:H'):Cg:=#[f.I.a,f.I.pos,f.I.h,b,a,f.br,c]
def CK(B:M)(w:I')(v:H')(l:Cc):Prop:=J' w B 9 1 v l<|l.map Y'
def Va(B:M)(w:I')(c:Ci)(f:RF):Prop:=∃b a d,c=(J5 f b a d).toList/\Fb B w b f.wZ/\CY B w a f.body/\CK B w d f.y
def Xm(c:Ci):Value:=c[6]?.getD<|O' zr
def Fq(B:M)(w:I')(c:H')(b:Dd):Prop:=
 ∃a:List<|Ci,J' w B 107 7 c (L b) a.flatten/\L a=L b/\(∀i (h:i<L a) (d:i<L b),Va B w a[i] b[i])/\∀i j (e:i<L a) (f:j<L a),i≠j->∀k,L' (Xm a[i])=T k->L' (Xm a[j])≠T k
theorem Va.j{w w' f}{X:Ce}(h:Va B w y1 f)(e:O X w w')(g:∀k a t b,X k->w.heap[k]? =T (R' a t b)->t≠3/\t≠104/\t≠9):Va B w' y1 f:=by have⟨o,i,p,l,m,j,n⟩:=h;exact⟨o,i,p,l,CD m e λk a b d q=>(g k a _ b d q).2.1 Q,CD j e λk a b d q=>(g k a _ b d q).1 Q,CD n e λk a b d q=>(g k a _ b d q).2.2 Q⟩
theorem Fq.j{w w'}{X:Ce}(h:Fq B w V o0)(b:O X w w')(m:∀k,L' V=T k->¬X k)(n:∀k a t c,X k->w.heap[k]? =T (R' a t c)->t≠3/\t≠104/\t≠9):Fq B w' V o0:=by have⟨a,l,g,j,f⟩:=h;exact⟨a,Cx l b m,g,λi d e=>(j i d e).j b n,f⟩
theorem Fq.t8(h:Fq B P V o0)(a:O Cb P y0):Fq B y0 V o0:=h.j a Ed λ_ _ _ _ q=>q.elim
theorem Fq.get(h:Fq B P (Y (T ⟨C,0,Z⟩) R X) o0){i}(u:i<L o0):
 ∃b a d,(∀j,j<7->K' P ⟨C,i*7+j,Z⟩=(J5 o0[i] b a d)[j]?)/\Fb B P b o0[i].wZ/\CY B P a o0[i].body/\CK B P d o0[i].y:=by
 have⟨k,o,z,n,y⟩:=h;cases CU o;have m:i<k:=by omega
 have s:∀x,x∈k->L x=7:=by intro x v;obtain⟨j,f,rfl⟩:=AC.1 v;have⟨_,_,_,e,_⟩:=n j f (by omega);rw[e];rfl
 have⟨b,a,d,e,p,q,r⟩:=n i m u;refine⟨b,a,d,λj f=>?_,p,q,r⟩;have t:=o.cellAt (i*7+j) (by omega);rw[t,EO s m f,e];simp
def D9:Cc->Cd->M->zw
 |[],_,_=> -1
 |a::l,s,k=>if a.toList=s.toList then(k:zw)else D9 l s (k+1)
theorem QK(l:Cc)(s:Cd)(k:M)(h:k<l):D9 (l.drop k) s k=if l[k].toList=s.toList then(k:zw)else D9 (l.drop<|k+1) s (k+1):=by rw[Ap h];rfl
theorem EQ{b:Cd}(h:u0.toList=b.toList):u0=b:=by grind[ByteArray.toList_eq,ByteArray.ext,Array.toList_inj]
theorem Et(l s):∀k,(0<=D9 l s k↔s∈l)/\ -1<=D9 l s k/\D9 l s k<k+l:=by
 induction l with
 |nil=>intro k;simp[D9];omega
 |cons a l d=>
  intro k;rw[D9];split;rename_i h;have:=EQ h;subst this;exact⟨⟨λ_=>A9 ..,λ_=>by omega⟩,by omega,by simp;omega⟩;rename_i h;have⟨b,c,e⟩:=d<|k+1;refine⟨⟨λq=>Ax _<|b.1 q,λq=>?_⟩,c,by simp only[Af];omega⟩;rcases AY.1 q with q|q
  subst q;exact Bm Q h;exact b.2 q
theorem Jn(B v l s w)(h:CK B w v l)(u:L l<=20000):
 F' zy 43 #[v,Y' s] w λe r=>e=T' (G A<|D9 l s 0)/\r=w:=by
 obtain⟨y,z,rfl⟩:=CB h;generalize p:D9 l s 0=V;have o:D<|D9 (l.drop 0) s 0=V:=p;go_in;go_wp2;go_loopw[5] (λi wr=>∃k:M,k<=l/\i=G A k/\wr=w/\D (D9 (l.drop k) s k=V)) (λi _=>l-(zm i).toNat);exact⟨0,by omega,Q,Q,o⟩;obtain⟨k,t,rfl,rfl,f⟩:=hrel;by_cases m:k<l
 .obtain⟨g,rfl⟩:=CH h (by omega);have c:=h.cellAt k (by omega);rw[AI,Ag m]at c;simp only[BA]at c;have x:=(h.lt g Q).2;have b:=QK l s k m;generalize l[k]=a at c b;cases j:(a.toList==s.toList)with
  |true=>
   have d:a.toList=s.toList:=by simpa using j
   rw[Bb d,f.o]at b;subst b;go_wp2;go_ret;exact⟨Q,Q⟩
  |false=>
   have d:¬a.toList=s.toList:=by simpa using j
   rw[Ba d,f.o]at b;have n:=J b;go_wp2;go_round;exact⟨k+1,by omega,by go_num,by trivial,n.o.symm⟩;simp[intOf];omega
 .have e:k=l:=by omega
  subst e;have q:V= -1:=by have:=f.o;rw[Bj]at this;exact this.symm
  subst q;go_wp2;go_ret;exact⟨Q,Q⟩
theorem Jm(B v l s w)(h:CK B w v l)(b:L l<=4001):
 F' zy 43 #[v,Y' s] w λe a=>e=T' (G A<|D9 l s 0)/\a=w:=Jn B v l s w h<|by omega
theorem Fy(B x F z q H b s w)(o:EB x q H F z w)(h:Fq B w q b)(P:L b<=4001):
 F' zy 35 #[Z' x,Y' s] w λe I=>e=T' (G A<|D9 (b.map λf=>f.I.a) s 0)/\I=w:=by
 have n:=h;have⟨C,l,_⟩:=n;obtain⟨va,vc,rfl⟩:=CB l;have U:=o.p.z;have S:=Cz o;generalize r:D9 (b.map λf=>f.I.a) s 0=V;have p:D<|D9 ((b.map λf=>f.I.a).drop 0) s 0=V:=r;clear r l o;go_in;go_wp2;go_loopw[5] (λi wr=>∃k:M,k<=b/\i=G A k/\wr=w/\D (D9 ((b.map λf=>f.I.a).drop k) s k=V)) (λi _=>b-(zm i).toNat);exact⟨0,by omega,Q,Q,p⟩;obtain⟨k,N,rfl,rfl,j⟩:=hrel;clear p;by_cases v:k<b
 .have n:=h;have⟨C,l,_⟩:=n;obtain⟨g,rfl⟩:=CH l (by omega);have R:=(l.lt g Q).2;have⟨X,K,vv,t,_,_,_⟩:=h.get v;have c:=t 0 (by omega);simp only[J5,Ac,Aa,Au]at c;have d:=QK (b.map λf=>f.I.a) s k (by simpa using v);rw[AT]at d;clear t l;generalize b[k].I.a=a at c d;cases u:(a.toList==s.toList)with
  |true=>
   have m:a.toList=s.toList:=by simpa using u
   rw[Bb m,j.o]at d;subst d;clear j m;go_wp2;go_ret;exact⟨Q,Q⟩
  |false=>
   have m:¬a.toList=s.toList:=by simpa using u
   rw[Ba m,j.o]at d;have y:=J d;clear j m d;go_wp2;go_round;exact⟨k+1,by omega,by go_num,by trivial,y.o.symm⟩;simp[intOf];omega
 .have e:k=b:=by omega
  subst e;have E:V= -1:=by have:=j.o;rw[List.drop_of_length_le<|by simp]at this;exact this.symm
  subst E;clear j;go_wp2;go_ret;exact⟨Q,Q⟩
def Em(e p:M)(c:CS):CS:=if c.E=0\/p<c.t9\/(p=c.t9/\e<c.E)then⟨e,p⟩else c
def MY(b:M)(c:CS)(w:I'):Prop:=W b #[c.t9,c.E] 102 w
theorem Fl(b e p:M)(c:CS)(w:I')(h:MY b c w):
 F' zy 34 #[Z' b,e,p] w λr n=>r=P' #[]/\MY b (Em e p c) n/\O (λk=>k=b) w n:=by
 have x:=W.z h;have u:=λi=>CZ h i
 have v:=Cz h;have⟨d,f⟩:=c;by_cases g:d=0
 .have a:Em e p ⟨d,f⟩=⟨e,p⟩:=by simp[Em,g]
  rw[a];have o:((d:zw)==0)=zt:=by simp[g]
  clear a g;go_in;go_wp2;go_end0;refine⟨Q,?_,((CT _ _).wS 1 _).wS 0 _⟩;have:=(W.set (w:=w) h 1 e).set 0 p;simpa[MY]using this
 .have o:((d:zw)==0)=zr:=by simp[g]
  by_cases l:p<f
  .have a:Em e p ⟨d,f⟩=⟨e,p⟩:=by simp[Em,l]
   rw[a];have q:zu ((p:zw)<(f:zw))=zt:=by simp[l]
   clear a g;go_in;go_wp2;go_end0;refine⟨Q,?_,((CT _ _).wS 1 _).wS 0 _⟩;have:=(W.set (w:=w) h 1 e).set 0 p;simpa[MY]using this
  .have q:=Hz (p:=(p:zw)<f) (by omega);by_cases j:p=f
   .have s:((p:zw)==(f:zw))=zt:=by simp[j]
    by_cases m:e<d
    .have a:Em e p ⟨d,f⟩=⟨e,p⟩:=by simp[Em,j,m]
     rw[a];have t:zu ((e:zw)<(d:zw))=zt:=by simp[m]
     clear a g j;go_in;go_wp2;go_end0;refine⟨Q,?_,((CT _ _).wS 1 _).wS 0 _⟩;have:=(W.set (w:=w) h 1 e).set 0 p;simpa[MY]using this
    .have a:Em e p ⟨d,f⟩=⟨d,f⟩:=by unfold Em;rw[Ba<|by simp only;omega]
     rw[a];have t:=Hz (p:=(e:zw)<d) (by omega);clear a g j;go_in;go_wp2;go_end0;exact⟨Q,h,oq⟩
   .have a:Em e p ⟨d,f⟩=⟨d,f⟩:=by unfold Em;rw[Ba<|by simp only;omega]
    rw[a];have s:=Ka p f (by omega);clear a g;go_in;go_wp2;go_end0;exact⟨Q,h,oq⟩
def vx(l:Cc)(s:Cd):M:=(D9 l s 0).toNat
structure DX where
 e:M
 w:M
 n:M
 wU:M
 t:M
 k:Cf
 q:M
 xI:M
structure nD where
 I:Cd
 y:Cc
 m:M
 f:List DX
abbrev CQ:=List nD
structure Bd where
 wT:Cc
 f:List DX
 pl:M
 g:M
def Db(a:Cc)(s:VS)(b:Bd):DX:=
 {e:=s.e,w:=if s.e=0 then b.wT else vx b.wT s.tg.a,n:=if s.e=4\/s.e=7 then vx a s.sr.a else vx b.wT s.sr.a,wU:=s.wU,
  t:=if s.e=1 then b.pl+1 else if s.e=8 then b.g+1 else 0,k:=s.k.map λt=>vx b.wT t.a,q:=0,xI:=0}
def EY(s:VS)(b:Bd):Bd:=
 {b with wT:=if s.e=0 then b.wT++[s.tg.a]else b.wT,pl:=if s.e=1 then b.pl+1 else b.pl,g:=if s.e=8 then b.g+1 else b.g}
def Bd.tk(b:Bd)(i n:M):Bd:={b with f:=b.f.modify i λs=>{s with xI:=n}}
def Bd.nx(b:Bd)(i n:M):Bd:={b with f:=b.f.modify i λs=>{s with q:=n}}
mutual
def IL:TS->M
 |.mk _ bl=>1+Ss bl
def Ss:List (M×Dj)->M
 |[]=>0
 |(_,ts)::r=>FG ts+Ss r
def FG:Dj->M
 |[]=>0
 |t::ts=>IL t+FG ts
end
mutual
def nK(k:M):TS->M
 |.mk s bl=>(if s.e=k then 1 else 0)+nB k bl
def nB(k:M):List (M×Dj)->M
 |[]=>0
 |(_,ts)::r=>nL k ts+nB k r
def nL(k:M):Dj->M
 |[]=>0
 |t::ts=>nK k t+nL k ts
end
def Dx(c:Dj)(a:M)(b:Bd):M:=if L c=0 then a else b.f
def CV(c:Cc)(s:VS)(a:M)(b:Bd):Bd:={EY s b with f:=b.f++[{Db c s b with q:=a}]}
mutual
def Gy(fn:Cc):TS->M->Bd->Bd
 |.mk s [],a,b=>CV fn s a b
 |.mk s [(_,ts)],a,b=>
  if s.e=11 then(DI fn ts a<|CV fn s a b).tk b.f (Dx ts a<|CV fn s a b)
  else if s.e=12 then(DI fn ts b.f<|CV fn s a b).tk b.f (Dx ts b.f<|CV fn s a b)
  else CV fn s a b
 |.mk s ((_,ts)::(_,ts2)::_),a,b=>
  if s.e=11 then
   let b2:=(DI fn ts a<|CV fn s a b).tk b.f<|Dx ts a<|CV fn s a b
   (DI fn ts2 a b2).nx b.f (Dx ts2 a b2)
  else CV fn s a b
def DI(fn:Cc):Dj->M->Bd->Bd
 |[],_,b=>b
 |[t],a,b=>Gy fn t a b
 |t::t2::ts,a,b=>DI fn (t2::ts) a<|Gy fn t (b.f+IL t) b
end
def XM(t:TF)(b a:M):Bd:=⟨t.m.map λp=>p.a,[],b,a⟩
def LK(b:Cc)(t:TF)(c a:M):Bd:=DI b t.i (FG t.i)<|XM t c a
def FO(b:Cc)(t:TF)(c a:M):nD:=⟨t.I.a,(LK b t c a).wT,t.m,(LK b t c a).f⟩
def Du(a:Cc):Df->M->M->CQ
 |[],_,_=>[]
 |t::l,c,b=>FO a t c b::Du a l (LK a t c b).pl (LK a t c b).g
def Ew(c:Cc):Df->M->M->M×M
 |[],b,a=>(b,a)
 |t::l,b,a=>Ew c l (LK c t b a).pl (LK c t b a).g
structure Tg where
 e:M
 B:M
 F:M
structure Vl where
 e:M
 c:M
structure Cl where
 nm:Tg
 v:Vl
def Hd:Vl:=⟨0,0⟩
def CM(m:List Cl)(i:M):Cl:=m[i]?.getD ⟨⟨0,0,0⟩,Hd⟩
structure Co where
 d:List Cl
 N:Cj
 x:List<|Tg×Tg
 xG:List<|M×M
def Co.set(c:Co)(a:M)(v:Vl):Co:=
 {c with d:=c.d.set a ⟨(CM c.d a).nm,v⟩,x:=if v.e=1 then((CM c.d a).nm,⟨2,v.c,0⟩)::c.x else if v.e=2 then((CM c.d a).nm,(CM c.d v.c).nm)::c.x else c.x}
def Co.xK(c:Co)(a:M):Co:={c with d:=c.d++[⟨⟨1,a,0⟩,Hd⟩,⟨⟨1,a,1⟩,Hd⟩,⟨⟨1,a,2⟩,Hd⟩,⟨⟨1,a,3⟩,Hd⟩]}
def Co.y(c:Co)(f n:M):Co:={c with d:=c.d++(List.range n).map λi=>⟨⟨0,f,i⟩,Hd⟩}
def Fw:List Vl->M->Co->Co
 |[],_,c=>c
 |v::l,a,c=>Fw l (a+1)<|c.set a v
def Co.enter(c:Co)(f n:M)(args:List Vl):Co:=Fw args c.d<|c.y f n
def Ii:Cj->Bool×Cj
 |[]=>(zr,[])
 |b::l=>(b==49,l)
def KP(k p q a b g:M)(c:Co):Option Co:=
 if k=1 then T ((c.xK b).set p ⟨2,c.d⟩)
 else if k=2 then T (c.set p ⟨2,q⟩)
 else if k=3 then
  if (CM c.d q).v.e=2/\(CM c.d (CM c.d q).v.c).nm.e=1/\(CM c.d (CM c.d q).v.c).nm.F=0 then T (c.set p ⟨2,(CM c.d q).v.c+a⟩)else Z
 else if k=4 then T (c.set p ⟨1,g⟩)
 else if k=5 then if (CM c.d q).v.e=2 then T (c.set p (CM c.d (CM c.d q).v.c).v)else Z
 else if k=6 then T (c.set p (CM c.d q).v)
 else if k=9 then if (CM c.d p).v.e=2 then T (c.set (CM c.d p).v.c (CM c.d q).v)else Z
 else T c
structure NU where
 fn:M
 wX:M
 q:M
 answer:M
structure Mc where
 c:Co
 v:List NU
 s:M
def CO(P:CQ)(i:M):nD:=P[i]?.getD ⟨⟨#[]⟩,[],0,[]⟩
def PK(l:List DX)(i:M):DX:=l[i]?.getD ⟨0,0,0,0,0,[],0,0⟩
def DL(m:Mc)(v:Vl):Mc:=
 match m.v with
 |[]=>m
 |[_]=>⟨m.c,[],2⟩
 |f::g::r=>⟨m.c.set f.answer v,g::r,m.s⟩
def DQ(P:CQ):M->Mc->Mc
 |0,m=>m
 |n+1,m=>
  if m.s=1 then
   match m.v with
   |[]=>m
   |f::_=>if f.q<(CO P f.fn).f then m else DQ P n (DL m Hd)
  else m
def Ef(P:CQ)(m:Mc)(f:M)(b:List Vl)(a:M):Mc:=
 if 40<=L m.v then{m with s:=4}
 else⟨m.c.enter f (CO P f).y b,⟨f,m.c.d,0,a⟩::m.v,m.s⟩
def EJ(b:List Cl)(a:M)(l:Cf):List Vl:=l.map λi=>(CM b<|a+i).v
def Kn(P:CQ)(m:Mc):Mc:=
 match m.v with
 |[]=>m
 |f::r=>
  let s:=PK (CO P f.fn).f f.q;let a:Mc:={m with v:={f with q:=s.q}::r};if s.e=7 then Ef P a s.n (EJ m.c.d f.wX s.k) (f.wX+s.w)
  else if s.e=8 then
   let h:=(CM m.c.d<|f.wX+s.n).v
   if h.e=1/\(CO P h.c).m=s.k then
    (if 40<=L m.v then{a with s:=4}
     else Ef P {a with c:={m.c with xG:=(s.t,h.c)::m.c.xG}} h.c (EJ m.c.d f.wX s.k) (f.wX+s.w))
   else{a with s:=3}
  else if s.e=10 then DL a (CM m.c.d<|f.wX+s.n).v
  else if s.e=11\/s.e=12 then
   {a with c:={m.c with N:=(Ii m.c.N).2},v:={f with q:=if (Ii m.c.N).1 then s.xI else s.q}::r}
  else
   match KP s.e (f.wX+s.w) (f.wX+s.n) s.wU s.t s.n m.c with
   |some c=>{a with c:=c}
   |none=>{a with s:=3}
def Mh(P:CQ):M->Mc->Mc×M
 |0,m=>(DQ P 41 m,0)
 |n+1,m=>if (DQ P 41 m).s=1 then Mh P n (Kn P<|DQ P 41 m)else(DQ P 41 m,n+1)
structure RS where
 c:Co
 left:M
 f:M
 u:M
 s:M
 xP:Vl
structure XF where
 y:Cc
 m:M
 i:Dj
 pl:M
 g:M
abbrev FZ:=List XF
def CP(X:FZ)(i:M):XF:=X[i]?.getD ⟨[],0,[],0,0⟩
def RS.one(s:RS):RS:={s with left:=s.left-1,f:=s.f+1}
def Hw(a:RS->Bool×RS):M->RS->Bool×RS
 |0,s=>(zt,s)
 |n+1,s=>
  let b:RS:={s with c:={s.c with N:=(Ii s.c.N).2}};if (Ii s.c.N).1=zr then(zr,b)
  else
   let r:=a b
   if r.1 then(zt,r.2)
   else if r.2.left=0 then(zt,{r.2 with s:=1})
   else Hw a n r.2.one
def Fe(X:FZ)(b:M->M->Dj->M->M->RS->Bool×RS)(f:M)(a:List Vl)(s:RS):Bool×RS:=
 if s.u=40 then(zr,{s with s:=4})
 else
  let r:=b f s.c.d (CP X f).i (CP X f).pl (CP X f).g {s with c:=s.c.enter f (CP X f).y a,u:=s.u+1,xP:=Hd}
  (r.2.s==0,{r.2 with u:=r.2.u-1})
def JK(X:FZ)(b:M->M->Dj->M->M->RS->Bool×RS)(f:M)(a:List Vl)(p:M)(s:RS):Bool×RS:=
 let r:=Fe X b f a s
 if r.1=zr then(zt,r.2)else(zr,{r.2 with c:=r.2.c.set p r.2.xP,xP:=Hd})
def Ec(X:FZ)(k:Cc)(b:M->M->Dj->M->M->RS->Bool×RS)(n:M)(f a:M)(t:TS)(g e:M)(s:RS):Bool×RS:=
 match t with
 |.mk v j=>
  let i:=(CP X f).y;let p:=a+vx i v.tg.a;let q:=a+vx i v.sr.a;let d:=(j[0]?.getD (0,[])).2;let l:=(j[1]?.getD (0,[])).2;if v.e=0 then(zr,s)
  else if v.e=11 then
   if (Ii s.c.N).1 then b f a d g e {s with c:={s.c with N:=(Ii s.c.N).2}}
   else b f a l (g+nL 1 d) (e+nL 8 d) {s with c:={s.c with N:=(Ii s.c.N).2}}
  else if v.e=12 then Hw (b f a d g e) n s
  else if v.e=10 then(zt,{s with xP:=(CM s.c.d q).v})
  else if v.e=7 then JK X b (vx k v.sr.a) (EJ s.c.d a<|v.k.map λt=>vx i t.a) p s
  else if v.e=8 then
   let h:=(CM s.c.d q).v
   if h.e=1/\(CP X h.c).m=v.k then
    JK X b h.c (EJ s.c.d a<|v.k.map λt=>vx i t.a) p {s with c:={s.c with xG:=if s.u<40 then(e+1,h.c)::s.c.xG else s.c.xG}}
   else(zt,{s with s:=3})
  else
   match KP v.e p q v.wU (g+1) (vx k v.sr.a) s.c with
   |some c=>(zr,{s with c:=c})
   |none=>(zt,{s with s:=3})
def Da(X:FZ)(a:Cc):M->M->M->Dj->M->M->RS->Bool×RS
 |0,_,_,_,_,_,s=>(zt,s)
 |_+1,_,_,[],_,_,s=>(zr,s)
 |F+1,d,b,t::f,e,c,s=>
  if s.left=0 then(zt,{s with s:=1})
  else
   let r:=Ec X a (Da X a F) F d b t e c s.one
   if r.1=zt\/r.2.s≠0 then(zt,r.2)
   else Da X a F d b f (e+nK 1 t) (c+nK 8 t) r.2
structure Hn(i vars:Cc)(s:VS)(u:DX)(pl ca:M):Prop where
 e:u.e=s.e
 w:s.e≠0->s.e≠10->s.e<11->u.w=vx vars s.tg.a
 func:s.e=4\/s.e=7->u.n=vx i s.sr.a
 n:s.e=2\/s.e=3\/s.e=5\/s.e=6\/s.e=8\/s.e=9\/s.e=10->u.n=vx vars s.sr.a
 wU:u.wU=s.wU
 t9:s.e=1->u.t=pl+1
 call:s.e=8->u.t=ca+1
 k:s.e=7\/s.e=8->u.k=s.k.map λt=>vx vars t.a
mutual
def Zo(i vars:Cc)(st:List DX):TS->M->M->M->M->Prop
 |.mk s [],p,a,pl,ca=>∃u,st[p]? =T u/\Hn i vars s u pl ca/\s.e<11/\u.q=a
 |.mk s [(_,ts)],p,a,pl,ca=>∃u,st[p]? =T u/\Hn i vars s u pl ca/\u.q=a/\((s.e=11/\La i vars st ts u.xI a pl ca)\/(s.e=12/\La i vars st ts u.xI p pl ca))
 |.mk s [(_,ts),(_,ts2)],p,a,pl,ca=>∃u,st[p]? =T u/\Hn i vars s u pl ca/\s.e=11/\La i vars st ts u.xI a pl ca/\La i vars st ts2 u.q a (pl+nL 1 ts) (ca+nL 8 ts)
 |.mk _ (_::_::_::_),_,_,_,_=>zv
def La(i vars:Cc)(st:List DX):Dj->M->M->M->M->Prop
 |[],p,a,_,_=>p=a
 |t::ts,p,a,pl,ca=>∃m,Zo i vars st t p m pl ca/\La i vars st ts m a (pl+nK 1 t) (ca+nK 8 t)
end
structure PX(i:Cc)(P:CQ)(X:FZ):Prop where
 y:∀f,(CO P f).y.length=(CP X f).y
 m:∀f,(CO P f).m=(CP X f).m
 laid:∀f,La i (CP X f).y (CO P f).f (CP X f).i 0 (CO P f).f (CP X f).pl (CP X f).g
section
variable{P:CQ}
theorem Tn(n){m:Mc}(h:m.s≠1):DQ P n m=m:=by
 cases n with
 |zero=>rfl
 |succ n=>grind[DQ]
theorem Rc(n){m:Mc}(h:m.v=[]):DQ P n m=m:=by
 cases n with
 |zero=>rfl
 |succ n=> grind[DQ]
theorem Wm(n){c:Co}{f:NU}{r:List NU}{e:M}(h:f.q<(CO P f.fn).f):DQ P n ⟨c,f::r,e⟩=⟨c,f::r,e⟩:=by
 cases n with
 |zero=>rfl
 |succ n=> grind[DQ]
theorem QW(m v):L (DL m v).v=m.v-1:=by
 have⟨c,a,e⟩:=m;match a with
 |[]=>rfl
 |[_]=>rfl
 |_::_::_=>rfl
theorem Rb:∀(n a:M) (m:Mc),m.v<=n->m.v<=a->DQ P n m=DQ P a m
 |0,a,m,h,_=>by grind[Rc]
 |n+1,0,m,_,h=>by grind[Rc]
 |n+1,a+1,m,h,b=>by
  rw[DQ,DQ];split
  .split
   .rfl
   .split
    .rfl
    .have:=QW m Hd;exact Rb n a _ (by omega)<|by omega
  .rfl
theorem QN(n){c:Co}{f:NU}{r:List NU}(h:f.q<(CO P f.fn).f):Mh P (n+1) ⟨c,f::r,1⟩=Mh P n (Kn P ⟨c,f::r,1⟩):=by grind[Mh,Wm]
theorem VJ{c:Co}{f:NU}{r:List NU}(h:f.q<(CO P f.fn).f):Mh P 0 ⟨c,f::r,1⟩=(⟨c,f::r,1⟩,0):=by grind[Mh,Wm]
theorem PV(n){m:Mc}(h:m.s≠1):Mh P n m=(m,n):=by
 cases n with
 |zero=>grind[Mh,Tn]
 |succ n=>grind[Mh,Tn]
theorem SY(n){c:Co}{f:NU}{r:List NU}(h:¬f.q<(CO P f.fn).f)(a:L r<40):Mh P n ⟨c,f::r,1⟩=Mh P n (DL ⟨c,f::r,1⟩ Hd):=by
 have e:DQ P 41 ⟨c,f::r,1⟩=DQ P 41 (DL ⟨c,f::r,1⟩ Hd):=by grind[DQ,QW,Rb]
 cases n with
 |zero=>grind[Mh]
 |succ n=>grind[Mh]
end
structure TM(P:CQ)(fi base ans a L0:M)(rest:List NU)(m0:Mc)(s:RS)(r:Bool×RS):Prop where
 left:r.2.left<=s.left
 f:r.2.f+r.2.left=s.f+s.left
 o:(r.1=zr/\r.2.s=0/\r.2.u=s.u/\r.2.xP=Hd/\Mh P L0 m0=Mh P r.2.left ⟨r.2.c,⟨fi,base,a,ans⟩::rest,1⟩)\/
  (r.1=zt/\r.2.s=0/\r.2.u=s.u/\Mh P L0 m0=Mh P r.2.left (DL ⟨r.2.c,⟨fi,base,a,ans⟩::rest,1⟩ r.2.xP))\/
  (r.1=zt/\r.2.s≠0/\∃frs,Mh P L0 m0=(⟨r.2.c,frs,r.2.s⟩,r.2.left))
theorem Lp(c h g a b f e d v):DL ⟨c,⟨h,g,a,f⟩::d,e⟩ v=DL ⟨c,⟨h,g,b,f⟩::d,e⟩ v:=by cases d<;>rfl
theorem TM.yF{P:CQ}{j g f a b d e:M}{q:List NU}{o p:Mc}{s c:RS}{r:Bool×RS}(h:TM P j g f a e q p c r)(z:Mh P d o=Mh P e p)(u:c.left<=s.left)(v:c.f+c.left=s.f+s.left)(y:c.u=s.u)(B:r.1=zt\/a=b):TM P j g f b d q o s r:=by
 refine⟨As h.left u,h.f.trans v,?_⟩;rcases h.o with⟨k,m,t,x,n⟩|⟨k,m,t,n⟩|⟨k,m,w,n⟩
 grind;grind[Lp];grind
def fU(i:Cc)(P:CQ)(X:FZ)(F:M):Prop:=∀(b c:M) (h:Dj) (g f:M) (s:RS) (p a e:M) (d:List NU),
 s.left<F->s.s=0->s.xP=Hd->s.u=d+1->s.u<=40->La i (CP X b).y (CO P b).f h p a g f->
 TM P b c e a s.left d ⟨s.c,⟨b,c,p,e⟩::d,1⟩ s (Da X i F b c h g f s)
section
variable{i:Cc}{P:CQ}{X:FZ}(l:PX i P X)
include l
theorem W8{F:M}(C:fU i P X F)(f:M)(k:List Vl)(e d m b q:M)(a:List NU)(s:RS)(B:s.left<F)(z:s.s=0)(H:s.u=a+1)(E:s.u<=40):
 TM P e d b m s.left a (Ef P ⟨s.c,⟨e,d,m,b⟩::a,1⟩ f k q) s (JK X (Da X i F) f k q s):=by
 unfold JK Fe Ef;by_cases h:s.u=40;have p:40<=L (⟨e,d,m,b⟩::a):=by grind
 simp only[Bb h,Bb p,BD];refine⟨Ad _,Q,zn<|zn ⟨Q,by simp,_,PV _<|by simp⟩⟩;have p:¬40<=L (⟨e,d,m,b⟩::a):=by grind
 simp only[Ba h,Ba p,l.y];have I:=C f s.c.d (CP X f).i (CP X f).pl (CP X f).g {s with c:=s.c.enter f (CP X f).y k,u:=s.u+1,xP:=Hd} 0 (CO P f).f q (⟨e,d,m,b⟩::a) B z Q (by grind) (by grind)<|l.laid f;generalize Da X i F f (L s.c.d) (CP X f).i (CP X f).pl (CP X f).g {s with c:=s.c.enter f (L (CP X f).y) k,u:=s.u+1,xP:=Hd}=r at I|-;have⟨n,o,u⟩:=I;simp only at n o u;rcases u with⟨t,g,w,x,j⟩|⟨t,g,w,j⟩|⟨t,g,v,j⟩
 simp only[g,BEq.rfl,Bool.true_eq_false,BE];refine⟨n,o,zo ⟨Q,Q,by grind,Q,?_⟩⟩;rw[j,SY _ (by simp)<|by omega,x];rfl;simp only[g,BEq.rfl,Bool.true_eq_false,BE];refine⟨n,o,zo ⟨Q,Q,by grind,Q,?_⟩⟩;rw[j];rfl;have y:(r.2.s==0)=zr:=by grind
 simp only[y,BD];exact⟨n,o,zn<|zn ⟨Q,g,v,j⟩⟩
omit l in
theorem TC{F:M}(K:fU i P X F)(b d:M)(o:Dj)(m g p a f:M)(e:List NU)(u:DX)(hu:(CO P b).f[p]? =u)(hk:u.e=12)(hn:u.q=a)(y:La i (CP X b).y (CO P b).f o u.xI p m g):
 ∀(n:M) (s:RS),s.left<n->s.left<F->s.s=0->s.xP=Hd->s.u=e+1->s.u<=40->
  TM P b d f a (s.left+1) e ⟨s.c,⟨b,d,p,f⟩::e,1⟩ s (Hw (Da X i F b d o m g) n s)
 |0,s,h,_,_,_,_,_=>by omega
 |n+1,s,h,hF,B,C,hd,U=>by
  have hp:p<(CO P b).f:=by grind
  have a0:PK (CO P b).f p=u:=by grind[PK]
  have w:Mh P (s.left+1) ⟨s.c,⟨b,d,p,f⟩::e,1⟩=Mh P s.left ⟨{s.c with N:=(Ii s.c.N).2},⟨b,d,if (Ii s.c.N).1 then u.xI else a,f⟩::e,1⟩:=by grind[QN,Kn]
  unfold Hw;by_cases z:(Ii s.c.N).1=zr
  .simp only[Bb z];refine⟨Ad _,Q,zo ⟨Q,B,Q,C,?_⟩⟩;grind
  .have V:(Ii s.c.N).1=zt:=by grind
   simp only[Ba z];rw[V]at w;simp only[BD]at w;have I:=K b d o m g {s with c:={s.c with N:=(Ii s.c.N).2}} u.xI p f e hF B C hd U y;generalize Da X i F b d o m g {s with c:={s.c with N:=(Ii s.c.N).2}}=r at I|-;obtain⟨q,t,H⟩:=I;simp only at q t H;rcases H with⟨j,k,x,S,v⟩|⟨j,k,x,v⟩|⟨j,k,R,v⟩
   .simp only[j,Bool.false_eq_true,BE];by_cases E:r.2.left=0
    .simp only[Bb E];refine⟨q,t,zn<|zn ⟨Q,by simp,⟨b,d,p,f⟩::e,?_⟩⟩;grind[VJ]
    .simp only[Ba E];have N:=TC K b d o m g p a f e u hu hk hn y n r.2.one (by grind[RS.one]) (by grind[RS.one]) k S (by grind[RS.one]) (by grind[RS.one]);refine N.yF ?_ (by grind[RS.one]) (by grind[RS.one]) (by grind[RS.one]) (zn Q);grind[RS.one]
   .simp only[j,BD];exact⟨q,t,zn<|zo ⟨Q,k,x,by grind[Lp]⟩⟩
   .simp only[j,BD];exact⟨q,t,zn<|zn ⟨Q,k,R,by rw[w,v]⟩⟩
theorem eD{F b g x B p a n:M}{m:List NU}{v:VS}{U:List<|M×Dj}{u:DX}(S:fU i P X F)(hu:(CO P b).f[p]? =u)(h:Hn i (CP X b).y v u x B)(y:v.e<11)(hn:u.q=a)
 (s:RS)(R:s.left<F)(q:s.s=0)(N:s.xP=Hd)(K:s.u=m+1)(H:s.u<=40):
 TM P b g n a (s.left+1) m ⟨s.c,⟨b,g,p,n⟩::m,1⟩ s (Ec X i (Da X i F) F b g (.mk v U) x B s):=by
 have hp:p<(CO P b).f:=by grind
 have a0:PK (CO P b).f p=u:=by grind[PK]
 have d:=QN (P:=P) s.left (c:=s.c) (f:=⟨b,g,p,n⟩) (r:=m) hp;unfold Kn at d;simp only[a0,h.e,hn]at d;unfold Ec;simp only;by_cases j:v.e=7;rw[Ba<|by omega,Ba<|by omega,Ba<|by omega,Ba<|by omega,Bb j];rw[Bb j,h.func<|zn j,h.k<|zo j,h.w (by omega) (by omega) y]at d;have C:=W8 l S (vx i v.sr.a) (EJ s.c.d g<|v.k.map λt=>vx (CP X b).y t.a) b g a n (g+vx (CP X b).y v.tg.a) m s R q K H;exact C.yF d (Ad _) Q Q<|zn Q;by_cases k:v.e=8;rw[Ba<|by omega,Ba<|by omega,Ba<|by omega,Ba<|by omega,Ba<|by omega,Bb k];rw[Ba<|by omega,Bb k,h.n<|by omega,h.k<|zn k,h.w (by omega) (by omega) y,h.call k]at d;simp only[l.m,AG]at d;by_cases I:(CM s.c.d<|g+vx (CP X b).y v.sr.a).v.e=1/\(CP X (CM s.c.d<|g+vx (CP X b).y v.sr.a).v.c).m=v.k;rw[Bb I]at d|-;have C:=λe=>W8 l S (CM s.c.d<|g+vx (CP X b).y v.sr.a).v.c (EJ s.c.d g<|v.k.map λt=>vx (CP X b).y t.a) b g a n (g+vx (CP X b).y v.tg.a) m {s with c:={s.c with xG:=e}} R q K H
 by_cases E:s.u<40;rw[Ba<|by grind]at d;rw[Bb E];exact(C _).yF d (Ad _) Q Q (zn Q);rw[Bb<|by grind]at d;rw[Ba E];refine(C _).yF (d.trans ?_) (Ad _) Q Q (zn Q);simp_all [Ef];rw[Ba I]at d|-;exact⟨Ad _,Q,zn<|zn ⟨Q,by simp,_,d.trans<|PV _<|by simp⟩⟩;by_cases w:v.e=10;rw[Ba<|by omega,Ba<|by omega,Ba<|by omega,Bb w];rw[Ba<|by omega,Ba<|by omega,Bb w,h.n<|by omega]at d;exact⟨Ad _,Q,zn<|zo ⟨Q,q,Q,d⟩⟩;rw[Ba j,Ba k,Ba w,Ba<|by omega,h.wU]at d;by_cases z:v.e=0;rw[Bb z];refine⟨Ad _,Q,zo ⟨Q,q,Q,N,?_⟩⟩;grind[KP];rw[Ba z,Ba<|by omega,Ba<|by omega,Ba w,Ba j,Ba k];have V:KP v.e (g+u.w) (g+u.n) v.wU u.t u.n s.c=KP v.e (g+vx (CP X b).y v.tg.a) (g+vx (CP X b).y v.sr.a) v.wU (x+1) (vx i v.sr.a) s.c:=by rw[h.w z w y];have e1:=h.t9;have e2:=h.func;have e3:=h.n;unfold KP;grind
 rw[V]at d;generalize KP v.e (g+vx (CP X b).y v.tg.a) (g+vx (CP X b).y v.sr.a) v.wU (x+1) (vx i v.sr.a) s.c=o at d|-;cases o with
 |some c=>exact⟨Ad _,Q,zo ⟨Q,q,Q,N,d⟩⟩
 |none=>exact⟨Ad _,Q,zn<|zn ⟨Q,by simp,_,d.trans<|PV _<|by simp⟩⟩
omit l in
theorem VY{k:Cc}{c:List DX}{t:TS}{p a f e:M}(h:Zo i k c t p a f e):p<c:=by
 have d:∀{u:DX},c[p]? =u->p<c:=fun{u} b=>by grind
 match t,h with
 |.mk v [],h=>have⟨u,b,_⟩:=h;exact d b
 |.mk v [(g,j)],h=>have⟨u,b,_⟩:=h;exact d b
 |.mk v [(g,j),(m,n)],h=>have⟨u,b,_⟩:=h;exact d b
theorem lM{F:M}(E:fU i P X F)(b d:M)(t:TS)(n k p a f:M)(e:List NU)(h:Zo i (CP X b).y (CO P b).f t p a n k)
 (s:RS)(o:s.left<F)(y:s.s=0)(z:s.xP=Hd)(x:s.u=e+1)(q:s.u<=40):
 TM P b d f a (s.left+1) e ⟨s.c,⟨b,d,p,f⟩::e,1⟩ s (Ec X i (Da X i F) F b d t n k s):=by
 have U:=VY h;have I:∀{u:DX},(CO P b).f[p]? =u->u.e=11->Mh P (s.left+1) ⟨s.c,⟨b,d,p,f⟩::e,1⟩=Mh P s.left ⟨{s.c with N:=(Ii s.c.N).2},⟨b,d,if (Ii s.c.N).1 then u.xI else u.q,f⟩::e,1⟩:=by grind[PK,QN,Kn]
 match t,h with
 |.mk v [],h=> have⟨u,C,B,V,H⟩:=h;grind[eD]
 |.mk v [(N,j)],h=>
  obtain⟨u,C,B,H,⟨m,r⟩|⟨m,r⟩⟩:=h;have g:=I C<|B.e.trans m;unfold Ec;simp only;rw[Ba<|by omega,Bb m];cases w:(Ii s.c.N).1 with
  |true=> rw[w]at g;simp only[BD]at g|-;exact(E b d j n k {s with c:={s.c with N:=(Ii s.c.N).2}} u.xI a f e o y z x q r).yF g (Ad _) Q Q (zn Q)
  |false=> rw[w]at g;simp only[Bool.false_eq_true,BE]at g|-;exact(E b d [] (n+nL 1 j) (k+nL 8 j) {s with c:={s.c with N:=(Ii s.c.N).2}} u.q a f e o y z x q H).yF g (Ad _) Q Q (zn Q)
  have S:=TC E b d j n k p a f e u C (B.e.trans m) H r F s o o y z x q;grind[Ec]
 |.mk v [(N,j),(a0,R)],h=>
  have⟨u,C,B,m,r,K⟩:=h;have g:=I C<|B.e.trans m;unfold Ec;simp only;rw[Ba<|by omega,Bb m];cases w:(Ii s.c.N).1 with
  |true=> rw[w]at g;simp only[BD]at g|-;exact(E b d j n k {s with c:={s.c with N:=(Ii s.c.N).2}} u.xI a f e o y z x q r).yF g (Ad _) Q Q (zn Q)
  |false=> rw[w]at g;simp only[Bool.false_eq_true,BE]at g|-;exact(E b d R (n+nL 1 j) (k+nL 8 j) {s with c:={s.c with N:=(Ii s.c.N).2}} u.q a f e o y z x q K).yF g (Ad _) Q Q (zn Q)
theorem Rz:∀F:M,fU i P X F
 |0=>λ_ _ _ _ _ _ _ _ _ _ h=>by omega
 |F+1=>by
  intro c b w v k s p a f j hl y z R K h;match w,h with
  |[],h=> have H:p=a:=h;subst H;exact⟨Ad _,Q,zo ⟨Q,y,Q,z,Q⟩⟩
  |t::w,h=>
   obtain⟨m,x,N⟩:=h;rw[Da];by_cases n:s.left=0
   .rw[Bb n];refine⟨Ad _,Q,zn<|zn ⟨Q,by simp,_,by simp only[n];exact VJ<|VY x⟩⟩
   .rw[Ba n];have S:=lM l (Rz F) c b t v k p m f j x s.one (by grind[RS.one]) y z R K;have C:s.one.left+1=s.left:=by grind[RS.one]
    rw[C]at S;simp only;generalize Ec X i (Da X i F) F c b t v k s.one=r at S|-;have B:TM P c b f m s.left j ⟨s.c,⟨c,b,p,f⟩::j,1⟩ s r:=S.yF Q (by omega) (by grind[RS.one]) Q<|zn Q;obtain⟨q,u,V⟩:=B;rcases V with⟨g,d,o,I,e⟩|⟨g,d,o,e⟩|⟨g,d,E,e⟩
    .rw[Ba<|by grind];have U:r.2.left<F:=by have:=S.left;omega
     exact(Rz F c b w (v+nK 1 t) (k+nK 8 t) r.2 m a f j U d I (by omega) (by omega) N).yF e q u o (zn Q)
    .rw[Bb<|zo g];exact⟨q,u,zn<|zo ⟨Q,d,o,by rw[e,Lp]⟩⟩
    .rw[Bb<|zo g];exact⟨q,u,zn<|zn ⟨Q,d,E,e⟩⟩
def Jz(X:FZ)(i:Cc)(c a:M)(b:Cj):RS:=
 let r:=Fe X (Da X i<|a+1) c [] ⟨⟨[],b,[],[]⟩,a,0,0,0,Hd⟩
 if r.1 then{r.2 with s:=2}else r.2
def WZ(P:CQ)(c b:M)(a:Cj):Mc×M:=Mh P b<|Ef P ⟨⟨[],a,[],[]⟩,[],1⟩ c [] 0
theorem pU(a b c):∃d,WZ P a b c=(⟨(Jz X i a b c).c,d,(Jz X i a b c).s⟩,(Jz X i a b c).left)/\(Jz X i a b c).f+(Jz X i a b c).left=b:=by unfold Jz WZ Fe Ef;have I:=Rz l (b+1) a 0 (CP X a).i (CP X a).pl (CP X a).g ⟨(⟨[],c,[],[]⟩:Co).enter a (CP X a).y [],b,0,1,0,Hd⟩ 0 (CO P a).f 0 [] (Nat.lt_succ_self _) Q Q Q (by simp)<|l.laid a;simp only[Aw,AM,l.y,show¬(0:M)=40 by omega,show¬(40:M)<=0 by omega,BE];generalize Da X i (b+1) a 0 (CP X a).i (CP X a).pl (CP X a).g ⟨(⟨[],c,[],[]⟩:Co).enter a (L (CP X a).y) [],b,0,1,0,Hd⟩=r at I|-;have⟨e,f,g⟩:=I;grind[SY,PV,DL]
end
mutual
def dS:TS->Cc
 |.mk s bl=>(if s.e=0 then[s.tg.a]else[])++dB bl
def dB:List (M×Dj)->Cc
 |[]=>[]
 |(_,ts)::r=>dL ts++dB r
def dL:Dj->Cc
 |[]=>[]
 |t::ts=>dS t++dL ts
end
structure vK(fn:Cc)(par:Cf)(s:VS)(vs:Cc):Prop where
 decl:s.e=0->s.tg.a∉vs/\vs.length<12
 tg:s.e≠0->s.e≠10->s.tg.a∈vs
 func:s.e=4\/s.e=7->s.sr.a∈fn
 many:s.e=7->par[vx fn s.sr.a]?.getD 0=s.k.length
 sr:s.e=2\/s.e=3\/s.e=5\/s.e=6\/s.e=8\/s.e=9\/s.e=10->s.sr.a∈vs
 k:s.e=7\/s.e=8->∀t,t∈s.k->t.a∈vs
mutual
def nC(fn:Cc)(par:Cf):TS->Cc->Prop
 |.mk s [],vs=>s.e<=10/\vK fn par s vs
 |.mk s [(_,ts)],vs=>(s.e=11\/s.e=12)/\Mn fn par ts vs
 |.mk s [(_,ts),(_,ts2)],vs=>s.e=11/\Mn fn par ts vs/\Mn fn par ts2 (vs++dL ts)
 |.mk _ (_::_::_::_),_=>zv
def Mn(fn:Cc)(par:Cf):Dj->Cc->Prop
 |[],_=>True
 |t::ts,vs=>nC fn par t vs/\Mn fn par ts (vs++dS t)
end
theorem ZG(l m s)(h:s∈l):∀k,D9 (l++m) s k=D9 l s k:=by
 induction l with
 |nil=>cases h
 |cons a l c=>
  intro k;simp only[List.cons_append,D9];split;rfl;rename_i b;rcases AY.1 h with q|q
  subst q;exact Bm Q b;exact c q<|k+1
theorem UP{l m:Cc}{s:Cd}(h:s∈l):vx (l++m) s=vx l s:=by grind[vx,ZG]
structure rN(dn:Cc)(n1 n8 sz:M)(b b':Bd)(L:Cc->List DX->Prop):Prop where
 wT:b'.wT=b.wT++dn
 pl:b'.pl=b.pl+n1
 g:b'.g=b.g+n8
 len:b'.f.length=b.f+sz
 pre:∀i,i<b.f.length->b'.f[i]? =b.f[i]?
 laid:∀(more:Cc) (st:List DX),(∀i,b.f.length<=i->i<b'.f.length->st[i]? =b'.f[i]?)->L (b'.wT++more) st
theorem TD{fn:Cc}{par:Cf}{s:VS}{b:Bd}(h:vK fn par s b.wT)(a g):Hn fn (b.wT++g) s {Db fn s b with q:=a} b.pl b.g:=by refine⟨Q,λd e _=>?_,λc=>?_,λc=>?_,Q,λc=>?_,λc=>?_,λc=>?_⟩;simp only[Db,Ba d,UP<|h.tg d e];grind[Db];simp only[Db,Ba<|show¬(s.e=4\/s.e=7) by omega,UP<|h.sr c];grind[Db];grind[Db];simp only[Db];exact List.map_congr_left λt f=>(UP<|h.k c t f).symm
theorem RG{fn:Cc}{s:VS}{b:Bd}(d:s.e=11\/s.e=12)(c a n):Hn fn c s {Db fn s b with q:=a,xI:=n} b.pl b.g:=
 ⟨Q,λ_ _ _=>by omega,λ_=>by omega,λ_=>by omega,Q,λ_=>by omega,λ_=>by omega,λ_=>by omega⟩
theorem DK(fn s a b):(CV fn s a b).f=b.f++[{Db fn s b with q:=a}]:=Q
theorem RE(fn s a b):(CV fn s a b).f[L b.f]? =T {Db fn s b with q:=a}:=by grind[DK]
theorem Hb(fn s a b)(c:s.e=11\/s.e=12):(CV fn s a b).wT=b.wT/\(CV fn s a b).pl=b.pl/\(CV fn s a b).g=b.g:=by grind[CV,EY]
theorem aH(b:Bd)(i n j:M):(b.tk i n).f[j]? =if i=j then(b.f[j]?).map (λs=>{s with xI:=n})else b.f[j]? :=by grind[Bd.tk]
theorem Z9(b:Bd)(i n j:M):(b.nx i n).f[j]? =if i=j then(b.f[j]?).map (λs=>{s with q:=n})else b.f[j]? :=by grind[Bd.nx]
theorem RN(b:Bd)(i n:M):L (b.tk i n).f=b.f:=by simp[Bd.tk]
theorem jQ(b:Bd)(i n:M):L (b.nx i n).f=b.f:=by simp[Bd.nx]
section
variable{fn:Cc}{par:Cf}
mutual
theorem Nn:∀(t:TS) (a:M) (b:Bd),nC fn par t b.wT->rN (dS t) (nK 1 t) (nK 8 t) (IL t) b (Gy fn t a b) (λvars st=>Zo fn vars st t b.f a b.pl b.g)
 |.mk s [],a,b,h=>by
  obtain⟨hk,ho⟩:=h;refine⟨?_,?_,?_,?_,?_,λmore st hst=>?_⟩
  .grind[Gy,CV,EY,dS,dB]
  .grind[Gy,CV,EY,nK,nB]
  .grind[Gy,CV,EY,nK,nB]
  .grind[Gy,DK,IL,Ss]
  .grind[Gy,DK]
  .have e:(Gy fn (.mk s []) a b).wT=b.wT++(if s.e=0 then[s.tg.a]else[]):=by grind[Gy,CV,EY]
   refine⟨_,(hst b.f.length (Ad _)<|by simp[Gy,DK]).trans<|RE fn s a b,?_,by omega,Q⟩
   grind[TD]
 |.mk s [(p,ts)],a,b,h=>by
  obtain⟨hk,ho⟩:=h;obtain⟨e1,e2,e3⟩:=Hb fn s a b hk;have hA:=RE fn s a b;have hAl:(CV fn s a b).f.length=b.f+1:=by simp[DK]
  have go:∀(g:M) (bb:Bd),DI fn ts g (CV fn s a b)=bb->rN (dS<|.mk s [(p,ts)]) (nK 1<|.mk s [(p,ts)]) (nK 8<|.mk s [(p,ts)]) (IL<|.mk s [(p,ts)]) b (bb.tk b.f<|Dx ts g<|CV fn s a b)
   (λvars st=>∃u,st[b.f.length]? =T u/\Hn fn vars s u b.pl b.g/\u.q=a/\La fn vars st ts u.xI g b.pl b.g):=by
   intro g bb hbb;have I:=GV ts g (CV fn s a b) (by grind);rw[hbb]at I;have i4:=I.len;refine⟨?_,?_,?_,?_,?_,λmore st hst=>?_⟩
   .show bb.wT=_;rw[I.wT,e1];grind[dS,dB]
   .show bb.pl=_;rw[I.pl,e2];grind[nK,nB]
   .show bb.g=_;rw[I.g,e3];grind[nK,nB]
   .grind[RN,IL,Ss]
   .intro i hi;rw[aH,Ba<|by omega,I.pre i<|by omega,DK,Be hi]
   .rw[RN]at hst;have c0:=hst b.f (Ad _) (by omega);rw[aH,Bb Q,I.pre _<|by omega,hA]at c0;refine⟨_,c0,RG hk _ _ _,Q,?_⟩;have:=I.laid more st λi hi hi'=>by grind[aH]
    rw[e2,e3]at this;exact this
  rw[Gy];rcases hk with hk|hk
  .rw[Bb hk];obtain⟨g1,g2,g3,g4,g5,g6⟩:=go a _ Q;refine⟨g1,g2,g3,g4,g5,λmore st hst=>?_⟩;obtain⟨u,q1,q2,q3,q4⟩:=g6 more st hst;exact⟨u,q1,q2,q3,zo ⟨hk,q4⟩⟩
  .rw[Ba<|by omega,Bb hk];obtain⟨g1,g2,g3,g4,g5,g6⟩:=go b.f _ Q;refine⟨g1,g2,g3,g4,g5,λmore st hst=>?_⟩;obtain⟨u,q1,q2,q3,q4⟩:=g6 more st hst;exact⟨u,q1,q2,q3,zn ⟨hk,q4⟩⟩
 |.mk s [(p,ts),(p2,ts2)],a,b,h=>by
  obtain⟨hk,ho,ho2⟩:=h;obtain⟨e1,e2,e3⟩:=Hb fn s a b<|zo hk;have hA:=RE fn s a b;have hAl:(CV fn s a b).f.length=b.f+1:=by simp[DK]
  have I:=GV ts a (CV fn s a b) (by grind);rw[Gy,Bb hk];simp only;generalize DI fn ts a (CV fn s a b)=bb at I|-;have i4:=I.len;have J:=GV ts2 a (bb.tk b.f<|Dx ts a<|CV fn s a b) (by show Mn fn par ts2 bb.wT;rw[I.wT,e1];exact ho2)
  have hJl:(bb.tk b.f<|Dx ts a<|CV fn s a b).f.length=bb.f:=RN _ _ _;have hJp:(bb.tk b.f<|Dx ts a<|CV fn s a b).pl=bb.pl:=Q;have hJc:(bb.tk b.f<|Dx ts a<|CV fn s a b).g=bb.g:=Q;have hJn:(bb.tk b.f<|Dx ts a<|CV fn s a b).wT=bb.wT:=Q;have hJa:=λj=>aH bb b.f (Dx ts a<|CV fn s a b) j
  generalize bb.tk b.f.length (Dx ts a<|CV fn s a b)=bt at*;generalize DI fn ts2 a bt=b3 at J|-;have j4:=J.len;refine⟨?_,?_,?_,?_,?_,λmore st hst=>?_⟩
  .show b3.wT=_;rw[J.wT,hJn,I.wT,e1];grind[dS,dB]
  .show b3.pl=_;rw[J.pl,hJp,I.pl,e2];grind[nK,nB]
  .show b3.g=_;rw[J.g,hJc,I.g,e3];grind[nK,nB]
  .grind[jQ,IL,Ss]
  .intro i hi;rw[Z9,Ba<|by omega,J.pre i<|by omega,hJa,Ba<|by omega,I.pre i<|by omega,DK,Be hi]
  .rw[jQ]at hst;have c0:=hst b.f (Ad _) (by omega);rw[Z9,Bb Q,J.pre _<|by omega,hJa,Bb Q,I.pre _<|by omega,hA]at c0;refine⟨_,c0,RG (zo hk) _ _ _,hk,?_,?_⟩
   .have:=I.laid (dL ts2++more) st λi hi hi'=>by rw[hst i (by omega)<|by omega,Z9,Ba<|by omega,J.pre i<|by omega,hJa,Ba<|by omega]
    rw[e2,e3,<-Bh,<-hJn,<-J.wT]at this
    exact this
   .have:=J.laid more st λi hi hi'=>by grind[Z9]
    rw[hJp,hJc,I.pl,I.g,e2,e3]at this
    exact this
theorem GV:∀(ts:Dj) (a:M) (b:Bd),Mn fn par ts b.wT->rN (dL ts) (nL 1 ts) (nL 8 ts) (FG ts) b (DI fn ts a b) (λvars st=>La fn vars st ts (Dx ts a b) a b.pl b.g)
 |[],a,b,_=>⟨by simp[DI,dL],by simp[DI,nL],by simp[DI,nL],by simp[DI,FG],λi _=>by rw[DI],λmore st _=>by simp only[Dx,Aw,BD];rfl⟩
 |[t],a,b,h=>by have I:=Nn t a b h.1;rw[DI];refine⟨by rw[I.wT];simp[dL],by rw[I.pl];simp[nL],by rw[I.g];simp[nL],by rw[I.len];simp[FG],I.pre,λmore st hst=>?_⟩;refine⟨a,?_,Q⟩;have:=I.laid more st hst;grind[Dx]
 |t::t2::ts,a,b,h=>by
  have I:=Nn t (b.f+IL t) b h.1;rw[DI];generalize Gy fn t (b.f.length+IL t) b=b1 at I|-;have J:=GV (t2::ts) a b1 (by rw[I.wT];exact h.2);generalize DI fn (t2::ts) a b1=b2 at J|-;have i4:=I.len;have j4:=J.len;refine⟨by rw[J.wT,I.wT];simp[dL],by rw[J.pl,I.pl];grind[nL],by rw[J.g,I.g];grind[nL],by grind[FG],λi hi=>by rw[J.pre i<|by omega,I.pre i hi],λmore st hst=>?_⟩;refine⟨b.f+IL t,?_,?_⟩
  .have:=I.laid (dL (t2::ts)++more) st (λi hi hi'=>by rw[hst i hi<|by omega,J.pre i hi']);rw[<-Bh,<-J.wT]at this;grind[Dx]
  .have:=J.laid more st λi hi hi'=>hst i (by omega) hi';rw[I.pl,I.g]at this;grind[Dx]
end
end
def KV:Df->M->M->FZ
 |[],_,_=>[]
 |t::l,b,a=>⟨t.m.map (λp=>p.a)++dL t.i,t.m,t.i,b,a⟩::KV l (b+nL 1 t.i) (a+nL 8 t.i)
def wE(a:Df):Prop:=∀t,t∈a->Mn (a.map λf=>f.I.a) (a.map λf=>f.m) t.i (t.m.map λp=>p.a)
theorem Ns{fn:Cc}{par:Cf}(t b a)(h:Mn fn par t.i<|t.m.map λp=>p.a):
 (FO fn t b a).y=t.m.map (λp=>p.a)++dL t.i/\(LK fn t b a).pl=b+nL 1 t.i/\(LK fn t b a).g=a+nL 8 t.i/\(FO fn t b a).f=FG t.i/\La fn (t.m.map (λp=>p.a)++dL t.i) (FO fn t b a).f t.i 0 (FO fn t b a).f b a:=by
 have I:=GV t.i (FG t.i) (XM t b a) h;have c:(FO fn t b a).f=FG t.i:=by show L (DI fn t.i (FG t.i)<|XM t b a).f=_;rw[I.len];simp[XM]
 refine⟨I.wT,I.pl,I.g,c,?_⟩;rw[c];have:=I.laid [] (FO fn t b a).f λ_ _ _=>Q;rw[AN,I.wT]at this;grind[Dx,FG,XM]
theorem aC{fn:Cc}{par:Cf}:∀(l:Df) (b a:M),(∀t,t∈l->Mn fn par t.i (t.m.map λp=>p.a))->PX fn (Du fn l b a) (KV l b a)
 |[],b,a,_=>⟨λf=>by grind[Du,KV,CO,CP],λf=>by grind[Du,KV,CO,CP],λf=>by simp only[Du,KV,CO,CP,List.getElem?_nil,Option.getD_none];rfl⟩
 |t::l,b,a,h=>by
  obtain⟨i,c,d,j,e⟩:=Ns (fn:=fn) (par:=par) t b a<|h t<|A9 ..;have I:=aC (fn:=fn) (par:=par) l (b+nL 1 t.i) (a+nL 8 t.i) λt g=>h t<|Ax _ g;rw[Du,c,d,KV];refine⟨λf=>?_,λf=>?_,λf=>?_⟩
  .cases f with
   |zero=>grind[CO,CP]
   |succ f=>exact I.y f
  .cases f with
   |zero=>rfl
   |succ f=>exact I.m f
  .cases f with
   |zero=>exact e
   |succ f=>exact I.laid f
def fF(b:Cd):Prop:=∀x,x∈b.data.toList->97<=x.toNat
def wG(t:PT):Prop:=t.e=1->fF t.a
def bC(l:Dw):Prop:=∀t,t∈l->wG t
theorem QY:fF ByteArray.empty:=λx a=>Bm a (by show¬x∈([]:Cj);simp)
theorem bC.snoc{l t}(h:bC l)(d:wG t):bC<|l++[t]:=by
 intro u b;rcases AJ.1 b with a|a
 exact h u a;grind
theorem We{s a b}(h:∀k,a<=k->k<b->97<=bt s k):fF<|s.extract a b:=by intro x d;rw[Bq,Array.mem_toList_iff,Array.mem_iff_getElem]at d;obtain⟨i,e,rfl⟩:=d;rw[Array.getElem_extract];have f:i<s.data.extract a b:=e;rw[Array.size_extract]at f;have q:=h (a+i) (by omega) (by omega);grind[bt]
theorem cD{s p}(h:PH (Utf8.decode s p).1=zt):∀k,p<=k->k<p+(Utf8.decode s p).2->97<=bt s k:=by intro k b a;rw[Oj]at h a;grind[PH]
structure Mx(s:Cd)(p:M)(x:Sc):Prop where
 wd:bC x.tZ
 rm:x.rem=zt->x.K=0
 lt:0<x.K->∀k,x.xC<=k->k<p->97<=bt s k
theorem Mx.yA{s p x}(h:Mx s p x):bC (Gh s p x).tZ/\(Gh s p x).K=0:=by unfold Proofs.YtbkhmmeecjnnkaaGreatDoor.Gh;split;rename_i a;exact⟨h.wd.snoc λ_=>We<|h.lt a,Q⟩;exact⟨h.wd,Q⟩
theorem cK(r):Ey r≠1:=by
 unfold Ey;repeat' split
 all_goals decide
theorem eO{s p x}(h:Mx s p x)(a:(DC s p (Utf8.decode s p).1 x).2.2=zt):Mx s (p+(Utf8.decode s p).2) (DC s p (Utf8.decode s p).1 x).1:=by
 unfold DC at a|-;split at a;cases a;rename_i n;rw[Ba n];split at a;rename_i b;rw[Bb b];have q:=h.rm b;exact⟨h.wd,λ_=>q,λr=>by grind⟩;rename_i b;rw[Ba b];split at a;rename_i j;rw[Bb j];split at a;cases a;rename_i m;rw[Ba m];refine⟨h.wd,λq=>Bm q b,λ_ k i o=>?_⟩;rcases AV k p with q|q
 simp only[Fm]at i;split at i;omega;exact h.lt (by omega) k i q;grind[cD];rename_i j;rw[Ba j];have⟨d,e⟩:=h.yA;unfold GQ at a|-;split at a;rename_i f;rw[Bb f];exact⟨d,λ_=>e,λq=>by grind⟩;rename_i f;rw[Ba f];split at a;rename_i g;rw[Bb g];exact⟨d,λ_=>e,λq=>by grind⟩;rename_i g;rw[Ba g];split at a;cases a;rename_i l;rw[Ba l];exact⟨d.snoc λq=>Bm q<|cK _,λ_=>e,λq=>by grind⟩
theorem Pt(s:Cd):∀(f p:M) (x y:Sc),s-p<=f->Mx s p x->Dg s f p x=.inr y->∃q,s.size<=q/\Mx s q y
 |0,p,x,y,a,h,e=>by have:=Sum.inr.inj e;grind
 |f+1,p,x,y,a,h,e=>by
  unfold Dg at e;split at e
  .rename_i d;split at e
   .rename_i b;have:=Kx s p d;exact Pt s f _ _ y (by omega) (eO h b) e
   .cases e
  grind
theorem YW{s y}(h:Dg s s 0 ⟨[],zr,0,0⟩=.inr y):bC<|C2 s y:=
 have⟨q,j,a⟩:=Pt s _ _ _ _ (by omega) ⟨λ_ g=>Bm g<|by simp,λ_=>Q,λq=>by omega⟩ h
 have e:Mx s s y:=⟨a.wd,a.rm,λb k d i=>a.lt b k d<|by omega⟩
 e.yA.1.snoc (λf=>Bm (show(0:M)=1 from f)<|by decide)
section
variable{tZ:Dw}{qp:Cd->Prop}(H:∀t,t∈tZ->t.e=1->qp t.a)(c:qp ByteArray.empty)
include H c
theorem kE{p:M}(h:(CJ tZ p).e=1):qp (CJ tZ p).a:=by
 rcases AV p tZ with q|q
 grind[CJ];unfold CJ;rw[AF q];exact c
theorem Mb(x):qp (Di tZ 1 x).a:=by unfold Di;split;rename_i h;exact kE H c h;exact c
theorem Z7:∀(f:M) (x:PS) (a:Dw),(∀t,t∈a->qp t.a)->∀t,t∈(GM tZ f x a).1->qp t.a
 |0,_,_,h=>h
 |f+1,x,a,h=>by
  rw[GM];split
  .rename_i b;refine Z7 f _ _ λt d=>?_;rcases AJ.1 d with q|q
   .exact h t q
   .rw[Ay.1 q];exact kE H c b
  .exact h
theorem cX(n x):∀t,t∈(D3 tZ n x).1->qp t.a:=by unfold D3;exact Z7 H c _ _ _ λt a=>Bm a AE
theorem dG(n x):qp (DT tZ n x).1.tg.a:=by unfold DT;split;exact Mb H c _;split;exact c;split;exact Mb H c _;exact Mb H c _
omit H c in
theorem gW:∀(a b:Dj),dL (a++b)=dL a++dL b
 |[],b=>by simp[dL]
 |t::a,b=>by simp[dL,gW a b]
theorem Vi(n):∀f:M,(∀(x:PS) (b:Dj),(∀s,s∈dL b->qp s)->∀s,s∈dL (Dr tZ n f x b).1->qp s)/\(∀(x:PS),∀s,s∈dS (Ee tZ n f x).1->qp s)
 |0=>⟨λx b h=>by grind[Dr],λx s a=>by rw[Ee]at a;simp only[dS,dB,IM,BD,AN,Ay]at a;subst a;exact c⟩
 |f+1=>by
  obtain⟨d,e⟩:=Vi n f;have d:=λx=>d x [] λs a=>Bm a<|by simp[dL]
  refine⟨λx b h=>?_,λx s a=>?_⟩
  .grind[Dr,gW,dL]
  .rw[Ee]at a;split at a
   .grind[dS,dB,IM]
   .split at a
    .grind[dS,dB,IM]
    .simp only[dS,dB,AN]at a;split at a
     .rw[Ay]at a;subst a;exact dG H c n x
     grind
def fR(qp:Cd->Prop)(t:TF):Prop:=qp t.I.a/\(∀p,p∈t.m->qp p.a)/\∀s,s∈dL t.i->qp s
theorem iI(n x):fR qp (NQ tZ n x).1:=by unfold NQ;exact⟨Mb H c _,cX H c n _,(Vi H c n _).1 _ [] λs a=>Bm a<|by simp[dL]⟩
theorem ZL(n):∀(f:M) (x:PS) (a:Df),(∀t,t∈a->fR qp t)->∀t,t∈(Ic tZ n f x a).1->fR qp t
 |0,_,_,h=>by grind[Ic]
 |f+1,x,a,h=>by
  rw[Ic];split
  .refine ZL n f _ _ λt b=>?_;grind[iI]
  .exact h
theorem kA(n x):∀t,t∈(FQ tZ n x).1->fR qp t:=by grind[FQ,ZL,iI]
end
def GK(k:M):M:=if k=0 then 0 else if k=1 then 1 else if k=2 then 3 else if k<=9 then 2 else 4
def CR(t:PT):Tk:=⟨t.a,t.t9,GK t.e⟩
def Wq(s:Cd):M ⊕ Sc->M ⊕ DH
 |.inl q=>.inl q
 |.inr x=>.inr<|(Gh s s x).tZ.map CR
theorem Np(r:M):K5 (r:zw)=PH r:=by grind[K5,PH]
theorem OI(r:M):Km (r:zw)=zt↔(r=40\/r=41\/r=123\/r=125\/r=59\/r=61\/r=38\/r=42\/r=64\/r=46\/r=63):=by simp[Km];omega
theorem Ym(h:Km (B:zw)=zt):GK (Ey B)=4/\Ey B≠0:=by rcases(OI B).1 h with h|h|h|h|h|h|h|h|h|h|h<;>subst h<;>decide
theorem Wf(h:48<=B/\B<=51):GK (Ey B)=3/\Ey B≠0:=by
 have:B=48\/B=49\/B=50\/B=51:=by omega
 rcases this with h|h|h|h<;>subst h<;>decide
theorem Yl(a:¬Km (B:zw)=zt)(b:¬(48<=B/\B<=51)):Ey B=0:=by grind[OI,Ey]
theorem Zi(l):GK (Hx l)=if iX l=zt then 2 else 1:=by unfold Hx iX;simp only[Bool.or_eq_true,BQ];by_cases a:l=[102,110];grind[GK];by_cases b:l=[118,97,114];grind[GK];by_cases c:l=[110,101,119];grind[GK];grind[GK]
theorem oR{l}(h:iX l=zt):L l<=6:=by unfold iX at h;simp only[Bool.or_eq_true,BQ]at h;rcases h with(((((h|h)|h)|h)|h)|h)|h<;>subst h<;>decide
theorem G5(h:v4.K=0):Gh u0 B v4=v4:=by unfold Gh;rw[Ba<|by omega];cases v4;grind
theorem IS(h:(DR u0 B).2=0):DC u0 B (Utf8.decode u0 B).1 v4=(v4,B,zr):=by grind[DC,QF]
theorem lE(s):∀(n p f g:M) (x:Sc),s.size-p<=n->s.size-p<=f->s.size-p<=g->x.rem=zt->
 ((Kw s g p).2=zr->Dg s f p x=.inl (Kw s g p).1)/\
 ((Kw s g p).2=zt->∃a,s.size-(Kw s g p).1<=a/\Dg s f p x=Dg s a (Kw s g p).1 x/\((Kw s g p).1<s.size->bt s (Kw s g p).1=10)):=by
 intro n;induction n with
 |zero=> grind[PP]
 |succ n u=>
  intro p f g x r o i j;by_cases b:p<s/\bt s p≠10;by_cases c:(DR s p).2=0;grind[ZB,IB,IS];have⟨l,q,k⟩:=Ue i b.1 b.2 c;have⟨e,d⟩:=GZ c;have m:(DR s p).1≠10:=λh=>by grind[M6]
  have t:DC s p (Utf8.decode s p).1 x=(x,0,zt):=by rw[e];simp only[DC,d,j];cases x;grind
  grind[GD,DR];grind[PP]
theorem lG(s):∀(n p f g:M) (x:Sc),s.size-p<=n->s.size-p<=f->s.size-p<=g->x.rem=zr->0<x.K->x.K<=8->
 (8<(Ie s g p x.K).2->Dg s f p x=.inl x.xC)/\
 ((Ie s g p x.K).2<=8->∃a,s.size-(Ie s g p x.K).1<=a/\Dg s f p x=Dg s a (Ie s g p x.K).1 ⟨x.tZ,zr,x.xC,(Ie s g p x.K).2⟩/\
   ¬((Ie s g p x.K).1<s.size/\(DR s (Ie s g p x.K).1).2≠0/\K5 (DR s (Ie s g p x.K).1).1=zt)):=by
 intro n;induction n with
 |zero=> intro p f g x y b l z u v;rw[NN<|by omega];refine⟨λh=>by omega,λ_=>⟨f,b,?_,λh=>by omega⟩⟩;cases x;grind
 |succ n B=>
  intro p f g x y b l z u v;by_cases c:p<s/\(DR s p).2≠0/\K5 (DR s p).1=zt;have⟨d,q,m⟩:=c;have⟨t,w,r⟩:=US (k:=x.K) l d q m;have⟨i,H⟩:=GZ q;have I:=JY s p d;rw[Np]at m;by_cases F:8<x.K+1;grind[MT,DC,Fm,IB];have o:DC s p (Utf8.decode s p).1 x=(Fm p x,0,zt):=by grind[DC]
  have⟨a,j,e⟩:=GD (x:=x) b d (by rw[o]);rw[o,i]at e;rw[i]at j;have:=B (p+(DR s p).2) a t (Fm p x) (by omega) j w (by grind[Fm]) (by simp[Fm]) (by grind[Fm]);rw[r,e];have C:(Fm p x).K=x.K+1:=Q;have E:(Fm p x).xC=x.xC:=by grind[Fm]
  grind[Fm];rw[NN c];refine⟨λh=>by omega,λ_=>⟨f,b,?_,c⟩⟩;cases x;grind
theorem lF(s e f y)(b:e<=s.size)(c:s.size-e<=f)(g:y.rem=zr)(a:¬(e<s.size/\(DR s e).2≠0/\K5 (DR s e).1=zt)):
 Wq s (Dg s f e y)=Wq s (Dg s f e<|Gh s e y):=by
 by_cases d:e<s;have h:(DC s e (Utf8.decode s e).1 y).2=(DC s e (Utf8.decode s e).1<|Gh s e y).2/\((DC s e (Utf8.decode s e).1 y).2.2=zt->DC s e (Utf8.decode s e).1 y=DC s e (Utf8.decode s e).1 (Gh s e y)):=by grind[DR,IS,GZ,PH,K5,Np,DC,Gh,gY,G5,Hq]
 cases f with
 |zero=>omega
 |succ f=> grind[Dg]
 grind[JS,Wq,G5,Hq]
theorem jA(s):∀(n p f g:M) (x:Sc),s.size-p<=n->s.size-p<=f->s.size-p<=g->x.rem=zr->x.K=0->
 Ex s g p (x.tZ.map CR)=Wq s (Dg s f p x):=by
 intro n;induction n with
 |zero=> grind[QX,JS,Wq,G5]
 |succ n U=>
  intro p f g x hn z e hr hl;by_cases a:p<s
  case neg=> grind
  by_cases i:(DR s p).2=0;rw[Jq (p:=p) e a<|by grind[Dz],IB z a<|by rw[IS i],IS i];rfl;have⟨o,hb⟩:=GZ i;have b8:=JY s p a;by_cases a6:(DR s p).1=32\/(DR s p).1=9\/(DR s p).1=10;have⟨_,l⟩:=M6 i (by omega);have⟨y,r,m⟩:=IV (acc:=x.tZ.map CR) (t:=Z) (j:=p+1) e a (by grind[Dz]);have F:PH (DR s p).1=zr:=by rcases a6 with h|h|h<;>rw[h]<;>decide
  have b:DC s p (Utf8.decode s p).1 x=(x,0,zt):=by grind[DC,G5,GQ]
  grind[GD];by_cases a5:(DR s p).1=35;have⟨b6,l⟩:=M6 i (by omega);have F:PH (DR s p).1=zr:=by rw[a5];decide
  have b:DC s p (Utf8.decode s p).1 x=(⟨x.tZ,zt,x.xC,x.K⟩,0,zt):=by grind[DC,G5,GQ]
  have⟨w,d,c⟩:=GD (x:=x) z a (by rw[b]);rw[b,o,l]at c;rw[o,l]at d;have⟨k,E,B⟩:=Ue (f:=s) (by omega) a (by omega) i;rw[l]at E B;have S:=Qw s k (p+1) (by omega);have⟨u,v⟩:=lE s n (p+1) w k ⟨x.tZ,zt,x.xC,x.K⟩ (by omega) d E Q;by_cases b2:(Kw s k<|p+1).2=zt;have⟨I,C,H,a2⟩:=v b2;have⟨y,r,m⟩:=IV (acc:=x.tZ.map CR) (t:=Z) (j:=(Kw s k<|p+1).1) e a (by grind[Dz]);rw[m,c,H];simp only[Option.toList,AN];generalize (Kw s k<|p+1).1=q at*;by_cases P:q<s;have a2:=a2 P;have V:DR s q=(10,1):=by grind[DR]
  have b3:(DR s q).2≠0:=by grind
  have⟨X,b5⟩:=GZ b3;have a3:DC s q (Utf8.decode s q).1 ⟨x.tZ,zt,x.xC,x.K⟩=(⟨x.tZ,zr,x.xC,x.K⟩,0,zt):=by grind[DC]
  have⟨f3,a0,e3⟩:=GD (x:=⟨x.tZ,zt,x.xC,x.K⟩) C P (by rw[a3]);have⟨g3,a8,a4⟩:=IV (acc:=x.tZ.map CR) (t:=Z) (j:=q+1) r P (by grind[Dz]);rw[a4,e3,a3,X,V];rw[X,V]at a0;simp only[Option.toList,AN];exact U (q+1) f3 g3 ⟨x.tZ,zr,x.xC,x.K⟩ (by omega) a0 a8 Q hl;grind[JS,Wq,G5];have N:(Kw s k<|p+1).2=zr:=by grind
  rw[c,u N,Jq (p:=(Kw s k<|p+1).1) e a<|by grind[Dz]];rfl;by_cases a1:K5 (DR s p).1=zt;have F:=a1;rw[Np]at F;have b:DC s p (Utf8.decode s p).1 x=(⟨x.tZ,zr,p,1⟩,0,zt):=by grind[DC,Fm]
  have⟨w,d,c⟩:=GD (x:=x) z a (by rw[b]);rw[b,o]at c;rw[o]at d;have⟨k,E,B⟩:=US (f:=s) (k:=0) (by omega) a i a1;have S:=MT s k (p+(DR s p).2) (0+1) (by omega);have b9:=MT s s p 0 (by omega);have⟨u,v⟩:=lG s n (p+(DR s p).2) w k ⟨x.tZ,zr,p,1⟩ (by omega) d E Q Nat.one_pos (by simp);rw[<-B]at S;simp only at u v;rw[show(1:M)=0+1 from Q,<-B]at u v;have b7:iX (s.extract p (Ie s s p 0).1).toList=zt->(Ie s s p 0).2<=8:=by intro h;have:=oR h;rw[Br]at this;simp at this;omega
  by_cases h8:8<(Ie s s p 0).2;rw[c,u h8,Jq (p:=p) e a<|by grind[Dz]]
  rfl;have⟨I,C,H,N⟩:=v (by omega);rw[c,H];rw[lF s _ I _ S.2.1 C Q N];have hm:0<(Ie s s p 0).2:=by omega
  have hE:Gh s (Ie s s p 0).1 ⟨x.tZ,zr,p,(Ie s s p 0).2⟩=⟨x.tZ++[⟨Hx (s.extract p (Ie s s p 0).1).toList,s.extract p (Ie s s p 0).1,p⟩],zr,p,0⟩:=by grind[Gh]
  rw[hE];have K:Dz s p=.inr (T<|CR ⟨Hx (s.extract p (Ie s s p 0).1).toList,s.extract p (Ie s s p 0).1,p⟩,(Ie s s p 0).1):=by grind[Dz,CR,Zi]
  have⟨y,r,m⟩:=IV (acc:=x.tZ.map CR) e a K;rw[m];have b1:s-(Ie s s p 0).1<=n:=by grind
  have:=U (Ie s s p 0).1 I y ⟨x.tZ++[⟨Hx (s.extract p (Ie s s p 0).1).toList,s.extract p (Ie s s p 0).1,p⟩],zr,p,0⟩ b1 C r Q Q;grind;have F:PH (DR s p).1=zr:=by grind[Np]
  have b4:Ey (DR s p).1≠0->(DR s p).1<128->Dz s p=.inr (T<|CR ⟨Ey (DR s p).1,s.extract p<|p+1,p⟩,p+1)->Ex s g p (x.tZ.map CR)=Wq s (Dg s f p x):=by
   intro b0 a9 K;have⟨_,l⟩:=M6 i a9;have b:DC s p (Utf8.decode s p).1 x=(⟨x.tZ++[⟨Ey (DR s p).1,s.extract p<|p+1,p⟩],x.rem,x.xC,x.K⟩,0,zt):=by grind[DC,G5,GQ]
   have⟨w,d,c⟩:=GD (x:=x) z a (by rw[b]);rw[b,o,l]at c;rw[o,l]at d;have⟨y,r,m⟩:=IV (acc:=x.tZ.map CR) e a K;rw[m,c];have:=U (p+1) w y ⟨x.tZ++[⟨Ey (DR s p).1,s.extract p<|p+1,p⟩],x.rem,x.xC,x.K⟩ (by omega) d r hr hl;grind
  by_cases a7:48<=(DR s p).1/\(DR s p).1<=51;grind[Wf,Dz,CR];by_cases R:Km (DR s p).1=zt;have⟨m1,m2⟩:=Ym R;exact b4 m2 (by rcases(OI _).1 R with h|h|h|h|h|h|h|h|h|h|h<;>omega) (by grind[Dz,CR]);have b0:=Yl R a7;have b:DC s p (Utf8.decode s p).1 x=(x,p,zr):=by grind[DC,G5,GQ]
  rw[Jq (p:=p) e a<|by grind[Dz],IB z a<|by rw[b],b];rfl
theorem Pg(s):Ex s s 0 []=Wq s (Dg s s 0 ⟨[],zr,0,0⟩):=
 jA s s 0 s s ⟨[],zr,0,0⟩ (by omega) (by omega) (by omega) Q Q
def Ga(k:M):Cj:=
 if k=3 then[102,110]else if k=4 then[118,97,114]else if k=5 then[110,101,119]else if k=6 then[114,101,116,117,114,110]else if k=7 then[105,102]else if k=8 then[101,108,115,101]else if k=9 then[119,104,105,108,101]
 else if k=10 then[40]else if k=11 then[41]else if k=12 then[123]else if k=13 then[125]else if k=14 then[59]else if k=15 then[61]else if k=16 then[38]else if k=17 then[42]else if k=18 then[64]else if k=19 then[46]else if k=20 then[63]else[]
def nA(t:PT):Prop:=t.e<=20/\(3<=t.e->t.a.toList=Ga t.e)
theorem V9:∀a,a<=20->3<=a->∀b,b<=20->3<=b->Ga a=Ga b->a=b:=by
 intro a e c b f d h;have:∀a b:Fin 21,3<=a.val->3<=b.val->Ga a=Ga b->a=b:=by decide+kernel
 have:=this ⟨a,by omega⟩ ⟨b,by omega⟩ c d h;grind
theorem fD(l):Hx l<=20/\Hx l≠0/\(3<=Hx l->l=Ga (Hx l)):=by
 unfold Hx;repeat' split
 all_goals(refine⟨by decide,by decide,λh=>?_⟩)
 all_goals first|(rename_i e;rw[e];rfl)|omega
theorem jG(r):Ey r<=20:=by
 unfold Ey;repeat' split
 all_goals decide
theorem cM(a:B<u0.size)(h:3<=Ey (Utf8.decode u0 B).1):(u0.extract B<|B+1).toList=Ga (Ey (Utf8.decode u0 B).1):=by
 have j:(Utf8.decode u0 B).1<128:=by generalize (Utf8.decode u0 B).1=r at*;by_cases e:r<128;exact e;exfalso;unfold Ey at h;rw[Ba<|by omega,Ba<|by omega,Ba<|by omega,Ba<|by omega,Ba<|by omega,Ba<|by omega,Ba<|by omega,Ba<|by omega,Ba<|by omega,Ba<|by omega,Ba<|by omega,Ba<|by omega]at h;omega
 have g:(u0[B]'a).toNat<128:=by grind[decode_high]
 have d:(u0.extract B<|B+1).toList=[u0[B]'a]:=by
  rw[Br,Bq];have f:B<u0.data:=a;apply List.ext_getElem?;intro i;rcases i with _|i
  have:u0.data[B]? =T (u0[B]'a):=Array.getElem?_eq_getElem f;grind;grind
 have b:(Utf8.decode u0 B).1=(u0[B]'a).toNat:=by grind[decode_ascii]
 rw[b]at h|-;rw[d];generalize u0[B]'a=c at*;have:∀n:Fin 256,3<=Ey n->[UInt8.ofNat n]=Ga (Ey n):=by decide+kernel
 have:=this ⟨c.toNat,c.toNat_lt⟩ h;simpa using this
structure fW(s:Cd)(p:M)(x:Sc):Prop where
 lit:∀t,t∈x.tZ->nA t/\t.e≠0/\t.a.size<=s
 yY:x.tZ.Pairwise λa b=>a.t9<b.t9
 top:∀t,t∈x.tZ->t.t9<(if 0<x.K then x.xC else p)
 st:0<x.K->x.xC<p
theorem fW.more(h:fW u0 B v4)(c:B<=C):fW u0 C v4:=
 ⟨h.lit,h.yY,λt b=>by have:=h.top t b;grind,λa=>by have:=h.st a;omega⟩
theorem QH(s:Cd)(a b:M):(s.extract a b).size<=s:=
 have:(s.extract a b).data.size<=s.data:=by grind[ByteArray.data_extract]
 this
theorem fW.yA{s}(h:fW s B v4):fW s B<|Gh s B v4:=by
 have e:=h.top;unfold Proofs.YtbkhmmeecjnnkaaGreatDoor.Gh;split;rename_i c;have j:=h.st c;simp only[Bb c]at e;have⟨f,g,i⟩:=fD (s.extract v4.xC B).toList;refine⟨λt d=>?_,?_,λt d=>?_,λq=>Bm q<|by simp⟩;rcases AJ.1 d with q|q
 exact h.lit t q;rw[Ay.1 q];exact⟨⟨f,i⟩,g,QH _ _ _⟩;refine List.pairwise_append.2 ⟨h.yY,by simp,λa k b l=>?_⟩;grind;grind;rename_i c;simp only[Ba c]at e;exact⟨h.lit,h.yY,λt d=>by grind,λq=>Bm q<|by simp⟩
theorem lZ(n:B<u0.size)(h:fW u0 B v4)(j:(DC u0 B (Utf8.decode u0 B).1 v4).2.2=zt):fW u0 (B+1) (DC u0 B (Utf8.decode u0 B).1 v4).1:=by
 unfold DC at j|-;split;grind;split;have:=h.more<|Nat.le_succ B;exact⟨this.lit,this.yY,this.top,this.st⟩;split;rename_i d i f;simp only[d,i,f,BD]at j;split;grind;refine⟨h.lit,h.yY,λt e=>?_,λ_=>?_⟩;have:=h.top t e;grind[Fm];simp only[Fm];split;omega;have:=h.st (by omega);omega;rename_i d i f;simp only[d,i,f]at j;have c:=h.yA;have l:=Hq u0 B v4;have k:=c.top;rw[l]at k;simp only[Nat.lt_irrefl,BE]at k;unfold GQ;split;exact c.more (by omega);split;have:=c.more<|Nat.le_succ B;exact⟨this.lit,this.yY,this.top,this.st⟩;split;exact c.more (by omega);rename_i m;refine⟨λt e=>?_,?_,λt e=>?_,λq=>?_⟩;rcases AJ.1 e with q|q
 exact c.lit t q;rw[Ay.1 q];exact⟨⟨jG _,λg=>cM n g⟩,m,QH _ _ _⟩;refine List.pairwise_append.2 ⟨c.yY,by simp,λa o b d=>?_⟩;grind;grind;grind
theorem bO(s p)(a:p<s.size):p+(Utf8.decode s p).2<=s:=by by_cases b:(DR s p).2=0;grind[QF];rw[(GZ b).1];exact(JY s p a).1
theorem Rw(s:Cd):∀(f p:M) (x y:Sc),p<=s->fW s p x->Dg s f p x=.inr y->fW s s y
 |0,p,x,y,b,h,e=>by have:=Sum.inr.inj e;subst this;exact h.more b
 |f+1,p,x,y,b,h,e=>by
  unfold Dg at e;split at e
  .rename_i a;have d:=Kx s p a;split at e
   .rename_i c;exact Rw s f _ _ y (bO s p a) ((lZ a h c).more<|by omega) e
   .cases e
  grind
structure Ig(N:M)(l:Dw):Prop where
 pos:0<l.length
 lit:∀t,t∈l->nA t
 len:∀t,t∈l->t.a<=N/\t.t9<=N
 yY:l.Pairwise λa b=>a.t9<b.t9
 last:∃t,l[l.length-1]? =T t/\t.e=0/\t.a=ByteArray.empty/\t.t9=N
 j:∀i t,i<l.length-1->l[i]? =T t->t.e≠0
theorem Na(s:Cd):s.extract s s=ByteArray.empty:=by apply ByteArray.ext;rw[Bq];have:s.data.size=s:=Q;apply Array.ext;simp;grind
theorem YV(h:Dg u0 u0 0 ⟨[],zr,0,0⟩=.inr v4):Ig u0.size<|C2 u0 v4:=by
 have l:fW u0 u0 v4:=Rw u0 _ 0 _ _ (Ar _) ⟨by simp,by simp,by simp,by simp⟩ h;have c:=l.yA;have k:=Hq u0 u0 v4;have d:=c.top;rw[k]at d;simp only[Nat.lt_irrefl,BE]at d;unfold C2;rw[Na];refine⟨by simp,λt e=>?_,λt e=>?_,?_,?_,λi t j f=>?_⟩;rcases AJ.1 e with q|q
 exact(c.lit t q).1;rw[Ay.1 q];exact⟨Ar _,λg=>Bm (show 3<=0 from g) nofun⟩;rcases AJ.1 e with q|q
 exact⟨(c.lit t q).2.2,Nat.le_of_lt<|d t q⟩;rw[Ay.1 q];exact⟨Ar _,Ad _⟩;refine List.pairwise_append.2 ⟨c.yY,by simp,λa m b n=>?_⟩;grind;exact⟨⟨0,ByteArray.empty,u0⟩,by simp,Q,Q,Q⟩;simp only[Ah,Az,Nat.add_sub_cancel]at j;rw[Be j]at f;exact(c.lit t<|BH f).2.1
theorem D7(l i):CI (l.map CR) i=CR (CJ l i):=by unfold CI CJ;rw[AI];cases l[i]? <;>rfl
theorem Lw{l i}(h:i<L l):CJ l i∈l:=by grind[CJ]
theorem Ig.end_{N l}(h:Ig N l):(CJ l<|L l-1).e=0:=by have⟨t,a,b,_⟩:=h.last;grind[CJ]
theorem L8(k):GK k=1↔k=1:=by grind[GK]
theorem Xb(k):GK k=3↔k=2:=by grind[GK]
theorem Y4(k):GK k=0↔k=0:=by grind[GK]
theorem RC(k):(GK k=2\/GK k=4)↔3<=k:=by grind[GK]
theorem cG:∀k,3<=k->k<=20->Ga k≠[]:=by
 intro k a b;have:∀k:Fin 21,3<=k.val->Ga k≠[]:=by decide+kernel
 exact this ⟨k,by omega⟩ a
theorem VV{t}(h:nA t){k}(b:3<=k)(a:k<=20):VU (CR t) (Ga k)=zt↔t.e=k:=by unfold VU CR;simp only[Bool.and_eq_true,BQ,Bool.or_eq_true];rw[RC];constructor;rintro⟨e,g⟩;exact V9 _ h.1 g _ a b<|(h.2 g).symm.trans e;intro e;exact⟨by rw[<-e];exact h.2<|by omega,by omega⟩
theorem Zj{t}(h:nA t){k}(b:3<=k)(a:k<=20):Dk (CR t)=Ga k↔t.e=k:=by unfold Dk CR;simp only[RC];split;rename_i g;exact⟨λe=>V9 _ h.1 g _ a b<|(h.2 g).symm.trans e,λe=>by rw[<-e];exact h.2 g⟩;grind[cG]
def Qj(n:M)(x:PS)(y:St):Prop:=x.H=zr/\y.wY=Z/\y.b=x.q/\x.q<n
def TU(n:M)(x:PS)(p:M):Prop:=x.H=zt/\x.xN=p/\x.q=n-1
def Al(n:M)(x:PS)(y:St):Prop:=Qj n x y\/∃p,TU n x p/\y.wY=T p
section
variable{N:M}{o:Dw}(H:Ig N o)
include H
theorem Ja{k:M}(c:k≠0){x:PS}{p:M}(h:TU o x p):TU o (CC o o k x) p:=by have⟨d,f,b⟩:=h;have a:=H.end_;unfold CC;rw[b,a,Ba λe=>c e.symm];exact⟨Q,by grind[Mq],Q⟩
theorem Rj{x:PS}{p:M}(h:TU o x p)(f a):GM o f x a=(a,x):=
 LV (by rw[h.2.2,H.end_];decide)
theorem Ri{x:PS}{p:M}(h:TU o x p):TU o (D3 o o x).2 p:=by unfold D3;have a:=Ja H (k:=10) nofun h;grind[Rj,Ja]
theorem jU{x:PS}{p:M}(h:TU o x p):TU o (FI o o x).2 p:=by
 have a:=λ(k:M) (b:k≠0) {x:PS} (h:TU o x p)=>Ja H b h
 unfold FI;split;grind;split;grind[Ld];split;grind;split;grind;split;exact Ri H<|a 11 nofun (a 1 nofun (a 17 nofun (a 10 nofun h)));grind[Ri]
omit H in
theorem Jw(b a){y p}(h:y.wY=T p):(CW b a y).wY=T p:=by grind[CW,Jl,JL]
omit H in
theorem Ny(a k){y p}(h:y.wY=T p):(Ev a k y).2.wY=T p:=by grind[Ev,Gj,JL]
omit H in
theorem WD(c f b p a):GL c f b (T p) a=(a,b,T p):=Kk<|by simp
omit H in
theorem LY(a){y p}(h:y.wY=T p):(EM a y).2.wY=T p:=by unfold EM FM;grind[WD,Jl,JL]
omit H in
theorem WE(a){y p}(s)(h:y.wY=T p):(Gc a y s).2.wY=T p:=by grind[Jw,Ny,LY,Gc]
theorem MA{k:M}(g:3<=k)(f:k<=20){x:PS}{y:St}(h:Al o x y):Al o (CC o o k x)<|CW (o.map CR) (Ga k) y:=by
 rcases h with⟨c,d,i,j⟩|⟨p,l,n⟩
 have m:=H.lit _<|Lw j;have r:=VV m g f;have q:=H.end_;unfold CC CW Jl;rw[i,D7];by_cases b:(CJ o x.q).e=k;have a:Ei y.wY (CR<|CJ o x.q) (Ga k)=zt:=by grind[Ei]
 rw[Bb b,Ba<|by omega,Bb a];have s:x.q≠o-1:=λe=>by grind
 exact zo ⟨c,d,Q,by grind⟩;have a:¬Ei y.wY (CR<|CJ o x.q) (Ga k)=zt:=by grind[Ei]
 rw[Ba b,Ba a];exact zn ⟨(CJ o x.q).t9,⟨Q,by grind[Mq],Q⟩,by grind[JL,CR]⟩;exact zn ⟨p,Ja H (by omega) l,Jw _ _ n⟩
theorem TY{k so:M}(n:(k=1/\so=1)\/(k=2/\so=3)){x:PS}{y:St}(h:Al o x y):Al o (CC o o k x) (Ev (o.map CR) so y).2/\(Ev (o.map CR) so y).1=CR (Di o k x):=by
 rcases h with⟨i,c,j,m⟩|⟨p,d,g⟩
 have f:GK (CJ o x.q).e=so↔(CJ o x.q).e=k:=by grind[L8,Xb]
 have l:=H.end_;unfold CC Ev Gj Di;rw[j,D7];by_cases a:(CJ o x.q).e=k;have b:y.wY.isNone=zt/\(CR<|CJ o x.q).h=so:=⟨by simp[c],f.2 a⟩;simp only[Bb a,Bb b];rw[Ba<|by omega];have q:x.q≠o-1:=λe=>by grind
 exact⟨zo ⟨i,c,Q,by grind⟩,trivial⟩;have b:¬(y.wY.isNone=zt/\(CR<|CJ o x.q).h=so):=λe=>a<|f.1 e.2
 simp only[Ba a,Ba b];exact⟨zn ⟨(CJ o x.q).t9,⟨Q,by grind[Mq],Q⟩,by grind[JL,CR]⟩,Q⟩;refine⟨zn ⟨p,Ja H (by omega) d,Ny _ _ g⟩,?_⟩;unfold Ev Gj Di;rw[Ba<|by simp[g],Ba<|by rw[d.2.2,H.end_];omega];rfl
theorem LJ{k:M}(b:3<=k)(a:k<=20){x:PS}{y:St}(h:Al o x y):Ei y.wY (CI (o.map CR) y.b) (Ga k)=zt↔(CJ o x.q).e=k:=by
 rcases h with⟨f,g,c,d⟩|⟨p,e,i⟩
 rw[c,D7,<-VV (H.lit _<|Lw d) b a];grind[Ei];rw[e.2.2,H.end_];grind[Ei]
theorem LP{k:M}(b:3<=k)(a:k<=20){x:PS}{y:St}(h:Qj o x y):Dk (CI (o.map CR) y.b)=Ga k↔(CJ o x.q).e=k:=by have⟨e,f,c,d⟩:=h;rw[c,D7];exact Zj (H.lit _<|Lw d) b a
theorem iQ:∀(m f g:M) (x:PS) (a:Dw),o-1-x.q<=m->o-1-x.q<=f->o-1-x.q<=g->x.q<o->
 GL (o.map CR) g x.q Z (a.map CR)=((GM o f x a).1.map CR,(GM o f x a).2.q,Z)/\(GM o f x a).2.H=x.H/\(GM o f x a).2.xN=x.xN/\(GM o f x a).2.q<o:=by
 intro m;induction m with
 |zero=>
  intro f g x a r d h c;have e:x.q=o-1:=by omega
  have v:=H.end_;grind[LV,Kk,D7,CR,GK]
 |succ m u=>
  intro f g x a r d h c;by_cases b:(CJ o x.q).e=1;have⟨i,p,j,k⟩:=Z5 (acc:=a) d c H.end_ b;have t:(CI (o.map CR)<|(o)-1).h=0:=by rw[D7];simp[CR,H.end_,GK]
  have s:(CI (o.map CR) x.q).h=1:=by rw[D7];exact(L8 _).2 b
  have⟨_,q,l,n⟩:=ZU (acc:=a.map CR) h c t ⟨Q,s⟩;rw[k,n];have:=u p q ⟨x.q+1,x.H,x.xN⟩ (a++[CJ o x.q]) (by grind) j l i;grind[List.map_singleton,D7];rw[LV b,Kk<|by rw[D7];intro e;exact b<|(L8 _).1 e.2];grind
theorem TZ{x:PS}{y:St}(h:Al o x y):Al o (CC o o 11 (GM o o x []).2) (EM (o.map CR) y).2/\(EM (o.map CR) y).1=(GM o o x []).1.map CR:=by
 rcases h with⟨i,j,l,m⟩|⟨p,f,g⟩
 have⟨a,b,c,d⟩:=iQ H o o o x [] (by omega) (by omega) (by omega) m;have e:=MA H (k:=11) (by decide) (by decide) (x:=(GM o o x []).2) (y:=⟨(GM o o x []).2.q,Z,y.pl,y.g⟩)<|zo ⟨by rw[b,i],Q,Q,d⟩;unfold EM FM;rw[l,j];simp only[AG];rw[List.map_nil]at a;rw[a];exact⟨e,Q⟩;refine⟨zn ⟨p,?_,LY _ g⟩,?_⟩;rw[Rj H f];exact Ja H (by decide) f;rw[Rj H f];unfold EM FM;simp only[g,WD];rfl
end
def FK(k:M):M:=if k=4 then 6 else if k=5 then 5 else k+1
structure VC(v:VS)(u s:FS):Prop where
 e:u.e=FK v.e
 q:u.q=CR v.sr
 k:u.k=v.k.map CR
 wU:v.e=3->u.wU=v.wU
 p:u.p=s.p
 body:u.body=s.body
 other:u.other=s.other
 br:u.br=s.br
 xY:u.xY=s.xY
 l:u.l=s.l
theorem bQ{t}(h:rL t)(d:t.e=2)(a):Vs t.a.toList a 4=M7 t:=by
 have e:∀c:UInt8,(⟨#[c]⟩:Cd).toList=[c]:=λc=>by rw[Br]
 rcases h d with q|q|q|q<;>(unfold M7;rw[q,e];simp[Vs])
section
variable{N:M}{b:Dw}(H:Ig N b)(f:He b)
include H f
omit H f in
theorem Ko{k x}(h:(CC b b k x).H=zr):(CJ b x.q).e=k/\x.H=zr/\Di b k x=CJ b x.q:=by grind[CC,Di,Mq]
theorem rS{x:PS}{y:St}(s)(l:s.k=[])(hq:s.q=RM)(h:Qj b x y):
 Al b (FI b b x).2 (Gc (b.map CR) y s).2/\((FI b b x).2.H=zr->VC (FI b b x).1 (Gc (b.map CR) y s).1 s):=by
 have j:Al b x y:=zo h;have n:=λ(k:M) (F:3<=k) (C:k<=20)=>LP H F C h
 have U:=n 5 (by decide) (by decide);have P:=n 16 (by decide) (by decide);have R:=n 17 (by decide) (by decide);have S:=n 18 (by decide) (by decide);have N:=n 10 (by decide) (by decide);have E:=λ(k:M) (F:3<=k) (C:k<=20) {x:PS} {y:St} (h:Al b x y)=>MA H F C h
 have m:=fun{x:PS} {y:St} (h:Al b x y)=>TY H (k:=1) (so:=1) (by decide) h
 simp only[Ga,Nat.reduceEqDiff,BD,BE]at U P R S N;unfold Gc FI;by_cases w:(CJ b x.q).e=5;rw[Bb<|U.2 w,Bb w];have c:=E 5 (by decide) (by decide) j;refine⟨?_,λ_=>⟨Q,hq,l,λe=>Bm e<|by simp,Q,Q,Q,Q,Q,Q⟩⟩;rcases c with a|a
 exact zo a;exact zn a;rw[Ba λe=>w<|U.1 e,Ba w];by_cases r:(CJ b x.q).e=16;rw[Bb<|P.2 r,Bb r];have c:=E 16 (by decide) (by decide) j;have⟨d,i⟩:=m c;have K:=LJ H (k:=19) (by decide) (by decide) d;simp only[Ga,Nat.reduceEqDiff,BD,BE]at c d i K;unfold Ld;by_cases v:(CJ b (CC b b 1<|CC b b 16 x).q).e=19;simp only[Bb<|K.2 v,Bb v];have g:=E 19 (by decide) (by decide) d;have⟨V,e4⟩:=TY H (k:=2) (so:=3) (by decide) g;simp only[Ga,Nat.reduceEqDiff,BD,BE]at g V e4;refine⟨V,λhg=>⟨Q,i,l,λ_=>?_,Q,Q,Q,Q,Q,Q⟩⟩;have⟨g1,g2,g3⟩:=Ko hg;rw[e4];simp only[CR];have a0:(CC b b 19<|CC b b 1<|CC b b 16 x).q<b:=by
  rcases g with a|⟨p,a,_⟩
  exact a.2.2.2;have:=a.2.2;have:=H.pos;omega
 exact bQ (by rw[g3];exact f _<|Lw a0) (by rw[g3];exact g1) _;simp only[Ba λe=>v<|K.1 e,Ba v];exact⟨d,λ_=>⟨Q,i,l,λe=>Bm e<|by simp,Q,Q,Q,Q,Q,Q⟩⟩;rw[Ba λe=>r<|P.1 e,Ba r];by_cases t:(CJ b x.q).e=17;rw[Bb<|R.2 t,Bb t];have c:=E 17 (by decide) (by decide) j;have⟨d,i⟩:=m c;exact⟨d,λ_=>⟨Q,i,l,λe=>Bm e<|by simp,Q,Q,Q,Q,Q,Q⟩⟩;rw[Ba λe=>t<|R.1 e,Ba t];by_cases u:(CJ b x.q).e=18;rw[Bb<|S.2 u,Bb u];have c:=E 18 (by decide) (by decide) j;have⟨d,i⟩:=m c;exact⟨d,λ_=>⟨Q,i,l,λe=>Bm e<|by simp,Q,Q,Q,Q,Q,Q⟩⟩;rw[Ba λe=>u<|S.1 e,Ba u];by_cases q:(CJ b x.q).e=10;rw[Bb<|N.2 q,Bb q];have d:=E 17 (by decide) (by decide)<|E 10 (by decide) (by decide) j;have⟨g,B⟩:=m d;have X:=E 10 (by decide) (by decide)<|E 11 (by decide) (by decide) g;unfold OY D3;generalize a8:CW (b.map CR) (Ga 10) (CW (b.map CR) (Ga 11) (Ev (b.map CR) 1<|CW (b.map CR) (Ga 17)<|CW (b.map CR) (Ga 10) y).2)=o at X;have a9:CW (b.map CR) [40] (CW (b.map CR) [41] (Ev (b.map CR) 1<|CW (b.map CR) [42]<|CW (b.map CR) [40] y).2)=o:=a8;simp only;rw[a9];have a6:Al b (CC b b 10<|CC b b 11<|CC b b 1<|CC b b 17<|CC b b 10 x) ⟨o.b,o.wY,o.pl,o.g+1⟩:=X;have⟨a7,e7⟩:=TZ H a6;exact⟨a7,λ_=>⟨Q,B,e7,λe=>Bm e<|by simp,Q,Q,Q,Q,Q,Q⟩⟩;rw[Ba λe=>q<|N.1 e,Ba q];have⟨c,e1⟩:=m j;have I:=LJ H (k:=10) (by decide) (by decide) c;simp only[Ga,Nat.reduceEqDiff,BD,BE]at I;by_cases z:(CJ b (CC b b 1 x).q).e=10;simp only[Bb<|I.2 z,Bb z];have d:=E 10 (by decide) (by decide) c;have⟨g,B⟩:=TZ H d;unfold D3;exact⟨g,λ_=>⟨Q,e1,B,λe=>Bm e<|by simp,Q,Q,Q,Q,Q,Q⟩⟩;simp only[Ba λe=>z<|I.1 e,Ba z];exact⟨c,λ_=>⟨Q,e1,l,λe=>Bm e<|by simp,Q,Q,Q,Q,Q,Q⟩⟩
structure SC(v:VS)(u:FS)(inn:M):Prop where
 e:u.e=FK v.e
 xE:v.e<=10
 p:u.p=CR v.tg
 q:u.q=CR v.sr
 k:u.k=v.k.map CR
 wU:v.e=3->u.wU=v.wU
 l:u.l=inn
omit H f in
theorem Xk(b n x):1<=(FI b n x).1.e/\(FI b n x).1.e<=8:=by unfold FI;split;simp;split;unfold Ld;simp only;split<;>simp;split;simp;split;simp;split;simp[OY];split<;>simp
theorem gA{x:PS}{y:St}(j)(h:Qj b x y):
 Al b (DT b b x).2 (DW (b.map CR) j y).2/\((DT b b x).2.H=zr->SC (DT b b x).1 (DW (b.map CR) j y).1 j):=by
 have g:Al b x y:=zo h;have o:=λ(k:M) (r:3<=k) (q:k<=20)=>LP H r q h
 have t:=o 4 (by decide) (by decide);have u:=o 6 (by decide) (by decide);have s:=o 17 (by decide) (by decide);have E:=λ(k:M) (r:3<=k) (q:k<=20) {x:PS} {y:St} (h:Al b x y)=>MA H r q h
 have c:=fun{x:PS} {y:St} (h:Al b x y)=>TY H (k:=1) (so:=1) (by decide) h
 simp only[Ga,Nat.reduceEqDiff,BD,BE]at t u s;unfold DW DT;by_cases m:(CJ b x.q).e=4;rw[Bb<|t.2 m,Bb m];have⟨a,d⟩:=c<|E 4 (by decide) (by decide) g;exact⟨a,λ_=>⟨Q,by simp only;omega,d,Q,Q,λe=>Bm e<|by simp,Q⟩⟩;rw[Ba λe=>m<|t.1 e,Ba m];by_cases n:(CJ b x.q).e=6;rw[Bb<|u.2 n,Bb n];have⟨a,d⟩:=c<|E 6 (by decide) (by decide) g;exact⟨a,λ_=>⟨Q,by simp only;omega,Q,d,Q,λe=>Bm e<|by simp,Q⟩⟩;rw[Ba λe=>n<|u.1 e,Ba n];by_cases l:(CJ b x.q).e=17;rw[Bb<|s.2 l,Bb l];have⟨a,d⟩:=c<|E 17 (by decide) (by decide) g;have⟨C,P⟩:=c<|E 15 (by decide) (by decide) a;exact⟨C,λ_=>⟨Q,by simp only;omega,d,P,Q,λe=>Bm e<|by simp,Q⟩⟩;rw[Ba λe=>l<|s.1 e,Ba l];have⟨z,K⟩:=c g;have a:=E 15 (by decide) (by decide) z;have R:=Xk b b<|CC b b 15<|CC b b 1 x;simp only;rcases a with a|⟨p,F,I⟩
 have⟨B,N⟩:=rS H f {Gd j (-1)with p:=(Ev (b.map CR) 1 y).1} rfl rfl a;refine⟨B,λi=>?_⟩;have v:=N i;exact⟨v.e,by simp only;omega,v.p.trans K,v.q,v.k,v.wU,v.l⟩;have w:=jU H F;refine⟨zn ⟨p,w,WE _ _ I⟩,λi=>?_⟩;rw[w.1]at i;cases i
end

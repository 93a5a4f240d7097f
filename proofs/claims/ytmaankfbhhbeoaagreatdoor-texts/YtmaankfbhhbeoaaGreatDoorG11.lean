/- One of the texts of the proof of texts_card_holds: RdM EqA EqB EqC. -/
import Derived.Test.YtmaankfbhhbeoaaGreatDoorG10
namespace Go.Proofs.YtmaankfbhhbeoaaGreatDoor
open Go.RowKit
def Dt(k:Nat)(x y:St):Prop:=x.i9≤y.i9∧x.pl≤y.pl∧y.pl≤x.pl+1∧x.ca≤y.ca∧y.ca≤x.ca+1∧(y.l6=none→x.l6=none∧x.i9+k≤y.i9)
def Ds(k:Nat)(x y:St):Prop:=x.i9≤y.i9∧y.pl=x.pl∧y.ca=x.ca∧(y.l6=none→x.l6=none∧x.i9+k≤y.i9)
theorem Ds.trans{k l:Nat}{x y z:St}(h:Ds k x y)(q:Ds l y z):Ds (k+l) x z:=
 ⟨by have:=h.1;have:=q.1;omega,by rw [q.2.1,h.2.1],by rw [q.2.2.1,h.2.2.1],fun e=>by have a:=q.2.2.2 e;have b:=h.2.2.2 a.1;exact ⟨b.1,by omega⟩⟩
theorem Ds.one{k x y}(h:Ds k x y):Dt k x y:=⟨h.1,by rw [h.2.1];omega,by rw [h.2.1];omega,by rw [h.2.2.1];omega,by rw [h.2.2.1];omega,h.2.2.2⟩
theorem Dt.behind{k l:Nat}{x y z:St}(h:Ds k x y)(q:Dt l y z):Dt (k+l) x z:=by obtain ⟨f,g,i,c⟩:=h;obtain ⟨j,m,n,o,p,d⟩:=q;exact ⟨by omega,by omega,by omega,by omega,by omega,fun e=>by have a:=d e;have b:=c a.1;exact ⟨b.1,by omega⟩⟩
theorem Dt.ahead{k l:Nat}{x y z:St}(h:Dt k x y)(q:Ds l y z):Dt (k+l) x z:=by obtain ⟨f,g,i,j,m,c⟩:=h;obtain ⟨n,o,p,d⟩:=q;exact ⟨by omega,by omega,by omega,by omega,by omega,fun e=>by have a:=d e;have b:=c a.1;exact ⟨b.1,by omega⟩⟩
theorem Dt.less{k l:Nat}{x y:St}(h:Dt k x y)(a:l≤k):Dt l x y:=⟨h.1,h.2.1,h.2.2.1,h.2.2.2.1,h.2.2.2.2.1,fun e=>by have:=h.2.2.2.2.2 e;exact ⟨this.1,by omega⟩⟩
theorem Gb(a p):Dh a p≠none:=by cases a<;>simp [Dh]
theorem AR(a L x):Ds 1 x (Ao a L x):=by
 unfold Ao C0;split
 ·rename_i h;refine ⟨by simp,rfl,rfl,fun e=>⟨e,Nat.le_refl _⟩⟩
 ·exact ⟨Nat.le_refl _,rfl,rfl,fun e=>absurd e (Gb _ _)⟩
theorem Dz(a k x):Ds 1 x (Bc a k x).2:=by
 unfold Bc BO;split
 ·refine ⟨by simp,rfl,rfl,fun e=>⟨e,Nat.le_refl _⟩⟩
 ·exact ⟨Nat.le_refl _,rfl,rfl,fun e=>absurd e (Gb _ _)⟩
theorem G5(d:List Tk):∀(f a:Nat) (b:Option Nat) (c:List Tk),a≤(Cs d f a b c).2.1∧(Cs d f a b c).2.2=b
 | 0,a,b,c=>by unfold Cs;exact ⟨Nat.le_refl _,rfl⟩
 | f+1,a,b,c=>by
   unfold Cs;split
   ·have:=G5 d f (a+1) b (c++[Ai d a]);exact ⟨by omega,this.2⟩
   ·exact ⟨Nat.le_refl _,rfl⟩
theorem DI(a x):Ds 1 x (Bv a x).2:=by have h:=G5 a a.length x.i9 x.l6 [];have e:=AR a [41] ⟨(Cs a a.length x.i9 x.l6 []).2.1,(Cs a a.length x.i9 x.l6 []).2.2,x.pl,x.ca⟩;obtain ⟨b,d,f,c⟩:=e;refine ⟨Nat.le_trans h.1 b,rfl,rfl,fun q=>?_⟩;have:=c q;exact ⟨by rw [←h.2];exact this.1,by have:=this.2;simp only at this;exact Nat.le_trans (by omega) this⟩
theorem Kl(a x s):Dt 1 x (CM a x s).2:=by
 have E:=AR a;have G:=Dz a;have I:=DI a;unfold CM;split
 ·have:=E [110,101,119] x;obtain ⟨f,n,o,g⟩:=this;exact ⟨f,by simp only;omega,by simp only;omega,by simp only;omega,by simp only;omega,g⟩
 ·split
  ·simp only;split
   ·exact ((((E _ _).trans (G _ _)).trans ((E _ _).trans (G _ _))).one).less (by omega)
   ·exact (((E _ _).trans (G _ _)).one).less (by omega)
  ·split
   ·exact (((E _ _).trans (G _ _)).one).less (by omega)
   ·split
    ·exact (((E _ _).trans (G _ _)).one).less (by omega)
    ·split
     ·have A:=((E [40] x).trans (E [42] _)).trans ((G 1 (Ao a [42] (Ao a [40] x))).trans ((E [41] _).trans (E [40] _)));have Z:=I ⟨(Ao a [40] (Ao a [41] (Bc a 1 (Ao a [42] (Ao a [40] x))).2)).i9,(Ao a [40] (Ao a [41] (Bc a 1 (Ao a [42] (Ao a [40] x))).2)).l6,(Ao a [40] (Ao a [41] (Bc a 1 (Ao a [42] (Ao a [40] x))).2)).pl,(Ao a [40] (Ao a [41] (Bc a 1 (Ao a [42] (Ao a [40] x))).2)).ca+1⟩;obtain ⟨k,l,m,e⟩:=A;obtain ⟨h,i,j,d⟩:=Z;simp only at h i j d;refine ⟨by simp only;omega,by simp only;omega,by simp only;omega,by simp only;omega,by simp only;omega,fun q=>?_⟩;have b:=d q;have c:=e b.1;exact ⟨c.1,by simp only;omega⟩
     ·simp only;split
      ·exact (((G _ _).trans ((E _ _).trans (I _))).one).less (by omega)
      ·exact ((G _ _).one).less (by omega)
theorem IG(a b x):Dt 1 x (Bw a b x).2:=by
 have E:=AR a;have G:=Dz a;unfold Bw;split
 ·exact (((E _ _).trans (G _ _)).one).less (by omega)
 ·split
  ·exact (((E _ _).trans (G _ _)).one).less (by omega)
  ·split
   ·exact ((((E _ _).trans (G _ _)).trans ((E _ _).trans (G _ _))).one).less (by omega)
   ·exact (Dt.behind ((G _ _).trans (E _ _)) (Kl a _ _)).less (by omega)
theorem L4(s k):(s.get! k).toNat=bt s k:=by unfold bt;congr 1;show s.data[k]! =_;rw [getElem!_def];cases s.data[k]? <;>rfl
theorem Hp(s k)(h:s.size≤k):bt s k=0:=by
 unfold bt;have:s.data[k]? =none:=by simp;exact h
 rw [this];rfl
theorem F7(s p k):((decide (p+k<s.size) && (bt s (p+k) / 64==2))=true)↔(128≤bt s (p+k)∧bt s (p+k)≤191):=by
 have b:=Ie s (p+k);simp only [Bool.and_eq_true,decide_eq_true_eq,beq_iff_eq];constructor
 ·rintro ⟨_,h⟩;omega
 ·intro h;refine ⟨?_,by omega⟩;by_cases a:p+k<s.size
  ·exact a
  ·have:=Hp s (p+k) (by omega);omega
theorem Km(c:Nat):Utf8.valid (c:Int)=true↔(c<55296∨(57344≤c∧c≤1114111)):=by unfold Utf8.valid;simp only [Bool.or_eq_true,Bool.and_eq_true,decide_eq_true_eq];omega
theorem GV(s p):Utf8.decode s p=
 (if bt s p<128 then (bt s p,1)
  else if bt s p / 32=6∧(128≤bt s (p+1)∧bt s (p+1)≤191) then
   (if 128≤bt s p % 32*64+bt s (p+1) % 64 then (bt s p % 32*64+bt s (p+1) % 64,2) else (65533,1))
  else if bt s p / 16=14∧(128≤bt s (p+1)∧bt s (p+1)≤191)∧(128≤bt s (p+2)∧bt s (p+2)≤191) then
   (if 2048≤bt s p % 16*4096+bt s (p+1) % 64*64+bt s (p+2) % 64∧(bt s p % 16*4096+bt s (p+1) % 64*64+bt s (p+2) % 64<55296∨(57344≤bt s p % 16*4096+bt s (p+1) % 64*64+bt s (p+2) % 64∧bt s p % 16*4096+bt s (p+1) % 64*64+bt s (p+2) % 64≤1114111))
    then (bt s p % 16*4096+bt s (p+1) % 64*64+bt s (p+2) % 64,3) else (65533,1))
  else if bt s p / 8=30∧(128≤bt s (p+1)∧bt s (p+1)≤191)∧(128≤bt s (p+2)∧bt s (p+2)≤191)∧(128≤bt s (p+3)∧bt s (p+3)≤191) then
   (if 65536≤bt s p % 8*262144+bt s (p+1) % 64*4096+bt s (p+2) % 64*64+bt s (p+3) % 64∧(bt s p % 8*262144+bt s (p+1) % 64*4096+bt s (p+2) % 64*64+bt s (p+3) % 64<55296∨(57344≤bt s p % 8*262144+bt s (p+1) % 64*4096+bt s (p+2) % 64*64+bt s (p+3) % 64∧bt s p % 8*262144+bt s (p+1) % 64*4096+bt s (p+2) % 64*64+bt s (p+3) % 64≤1114111))
    then (bt s p % 8*262144+bt s (p+1) % 64*4096+bt s (p+2) % 64*64+bt s (p+3) % 64,4) else (65533,1))
  else (65533,1)):=by
 have a:=F7 s p 1;have b:=F7 s p 2;have c:=F7 s p 3;unfold Utf8.decode;simp only [L4,Nat.add_zero,Utf8.runeError];generalize d:(decide (p+1<s.size) && (bt s (p+1) / 64==2))=g at*;generalize e:(decide (p+2<s.size) && (bt s (p+2) / 64==2))=h at*;generalize f:(decide (p+3<s.size) && (bt s (p+3) / 64==2))=i at*;clear d e f;simp only [Bool.and_eq_true,beq_iff_eq,decide_eq_true_eq,a,b,c,ge_iff_le,and_assoc,Km]
theorem E0{s i n b a}(h:(CB s i n b a).2≠0):∃c,A5 s i a (n-1)=some c∧b≤c∧c≤1114111∧(c<55296∨57344≤c)∧CB s i n b a=(c,n)∧i+n≤s.size:=by
 unfold CB at h⊢;split at h
 ·exact absurd rfl h
 ·rename_i f;rw [if_neg f];split at h
  ·exact absurd rfl h
  ·rename_i c e;split at h
   ·exact absurd rfl h
   ·rename_i d;exact ⟨c,e,by omega,by omega,by omega,by simp only [if_neg d],by omega⟩
theorem GS{s i a c}(h:A5 s i a 1=some c):128≤bt s (i+1)∧bt s (i+1)≤191∧c=a*64+(bt s (i+1)-128):=by obtain ⟨g,b,d,e,f⟩:=DG (m:=0) h;simp only [A5,Option.some.injEq] at b;subst b;exact ⟨d,e,by rw [f];simp only [Nat.add_zero];simp only [Nat.add_zero] at d;omega⟩
theorem GT{s i a c}(h:A5 s i a 2=some c):128≤bt s (i+1)∧bt s (i+1)≤191∧128≤bt s (i+2)∧bt s (i+2)≤191∧c=(a*64+(bt s (i+1)-128))*64+(bt s (i+2)-128):=by obtain ⟨l,d,b,e,f⟩:=DG (m:=1) h;obtain ⟨g,j,k⟩:=GS d;exact ⟨g,j,b,e,by rw [f,k];simp only [Nat.add_assoc,Nat.reduceAdd] at b⊢;omega⟩
theorem Ig{s i a c}(h:A5 s i a 3=some c):128≤bt s (i+1)∧bt s (i+1)≤191∧128≤bt s (i+2)∧bt s (i+2)≤191∧128≤bt s (i+3)∧bt s (i+3)≤191∧c=((a*64+(bt s (i+1)-128))*64+(bt s (i+2)-128))*64+(bt s (i+3)-128):=by obtain ⟨o,d,b,e,f⟩:=DG (m:=2) h;obtain ⟨g,j,k,l,n⟩:=GT d;exact ⟨g,j,k,l,b,e,by rw [f,n];simp only [Nat.add_assoc,Nat.reduceAdd] at b⊢;omega⟩
theorem FZ{s i a}(b:128≤bt s (i+1)∧bt s (i+1)≤191):A5 s i a 1=some (a*64+(bt s (i+1)-128)):=by rw [CC (m:=0) (c:=a) rfl b.1 b.2];simp only [Nat.add_zero];exact congrArg some (by omega)
theorem Em{s i a}(c:128≤bt s (i+1)∧bt s (i+1)≤191)(b:128≤bt s (i+2)∧bt s (i+2)≤191):A5 s i a 2=some ((a*64+(bt s (i+1)-128))*64+(bt s (i+2)-128)):=by rw [CC (m:=1) (FZ c) b.1 b.2];simp only [Nat.add_assoc,Nat.reduceAdd];exact congrArg some (by omega)
theorem Hs{s i a}(c:128≤bt s (i+1)∧bt s (i+1)≤191)(d:128≤bt s (i+2)∧bt s (i+2)≤191)(b:128≤bt s (i+3)∧bt s (i+3)≤191):A5 s i a 3=some (((a*64+(bt s (i+1)-128))*64+(bt s (i+2)-128))*64+(bt s (i+3)-128)):=by rw [CC (m:=2) (Em c d) b.1 b.2];simp only [Nat.add_assoc,Nat.reduceAdd];exact congrArg some (by omega)
theorem Ee{s p}(h:p+3≤s.size):((s.extract p (p+3)).toList=[239,191,189])↔(bt s p=239∧bt s (p+1)=191∧bt s (p+2)=189):=by
 have j:s.data.size=s.size:=rfl;have d:=CN s p (by omega);have f:=CN s (p+1) (by omega);have g:=CN s (p+2) (by omega);have e:(s.extract p (p+3)).toList=[s[p]'(by omega),s[p+1]'(by omega),s[p+2]'(by omega)]:=by
  rw [ByteArray.toList_eq,ByteArray.data_extract];apply List.ext_getElem?;intro i;have q:∀k,(c:p+k<s.size)→s.data[p+k]? =some (s[p+k]'c):=fun k c=>Array.getElem?_eq_getElem (xs:=s.data) c
  have l:min (p+3) s.size-p=3:=by omega
  rcases i with _ | _ | _ | i
  ·have:=q 0 (by omega);simpa using this
  ·have:=q 1 (by omega);simpa using this
  ·have:=q 2 (by omega);simpa using this
  ·simp;omega
 rw [e,d,f,g];simp only [List.cons.injEq,and_true];have u:∀(a b:UInt8),a=b↔a.toNat=b.toNat:=fun a b=>⟨fun h=>by rw [h],fun h=>UInt8.toNat_inj.mp h⟩
 rw [u,u,u];rfl
theorem Cn{s p}(a:(AM s p).2≠0):Utf8.decode s p=AM s p∧BN s p (AM s p).1=false:=by
 have u:=Ie s p;rw [GV];unfold AM at a⊢;split at a
 ·rename_i h;simp only [if_pos h];exact ⟨trivial,FL s p _ (by omega)⟩
 rename_i h;simp only [if_neg h];split at a
 ·rename_i f;simp only [if_pos f];obtain ⟨c,b,l,m,n,d,e⟩:=E0 a;obtain ⟨i,j,k⟩:=GS b;rw [d,if_pos (by omega),if_pos (by omega)];exact ⟨by simp only [Prod.mk.injEq,and_true];omega,FL s p _ (by simp only;omega)⟩
 rename_i f;simp only [if_neg f];split at a
 ·rename_i g;simp only [if_pos g];obtain ⟨c,b,l,m,n,d,e⟩:=E0 a;obtain ⟨i,j,k,r,t⟩:=GT b;rw [d,if_neg (by omega),if_pos (by omega),if_pos (by omega)];refine ⟨by simp only [Prod.mk.injEq,and_true];omega,?_⟩;simp only;unfold BN;by_cases q:c=65533
  ·have:=(Ee e).2 (by omega);simp [this,e]
  ·simp [q]
 rename_i g;simp only [if_neg g];split at a
 ·rename_i o;simp only [if_pos o];obtain ⟨c,b,l,m,n,d,e⟩:=E0 a;obtain ⟨i,j,k,r,t,v,w⟩:=Ig b;rw [d,if_neg (by omega),if_neg (by omega),if_pos (by omega),if_pos (by omega)];refine ⟨by simp only [Prod.mk.injEq,and_true];omega,?_⟩;simp only;have:(c==65533)=false:=by simp;omega
  simp [BN,this]
 ·exact absurd rfl a
theorem F8{s p}(f:(AM s p).2=0):BN s p (Utf8.decode s p).1=true∧Utf8.decode s p=(65533,1):=by
 have x:=Ie s p;have u:=fun h=>Hp s (p+1) h
 have v:=fun h=>Hp s (p+2) h
 have w:=fun h=>Hp s (p+3) h
 have d:∀n i e c,A5 s p e (n-1)=some c→n≠0→p+n≤s.size→AM s p=CB s p n i e→¬(c<i∨1114111<c∨(55296≤c∧c<57344))→False:=by intro n i e c m o q r t;rw [r,Fy q m t] at f;exact o f
 have j:Utf8.decode s p=(65533,1):=by
  rw [GV];have b:¬bt s p<128:=fun h=>by simp [AM,h] at f
  rw [if_neg b];split
  ·rename_i h;split
   ·exfalso;refine d 2 128 (bt s p-192) _ (FZ h.2) (by decide) ?_ ?_ ?_
    ·by_cases a:p+2≤s.size
     ·exact a
     ·have:=u (by omega);omega
    ·unfold AM;rw [if_neg b,if_pos (by omega)]
    ·omega
   ·rfl
  ·split
   ·rename_i _ h;split
    ·exfalso;refine d 3 2048 (bt s p-224) _ (Em h.2.1 h.2.2) (by decide) ?_ ?_ ?_
     ·by_cases a:p+3≤s.size
      ·exact a
      ·have:=v (by omega);omega
     ·unfold AM;rw [if_neg b,if_neg (by omega),if_pos (by omega)]
     ·omega
    ·rfl
   ·split
    ·rename_i _ h;split
     ·exfalso;refine d 4 65536 (bt s p-240) _ (Hs h.2.1 h.2.2.1 h.2.2.2) (by decide) ?_ ?_ ?_
      ·by_cases a:p+4≤s.size
       ·exact a
       ·have:=w (by omega);omega
      ·unfold AM;rw [if_neg b,if_neg (by omega),if_neg (by omega),if_pos (by omega)]
      ·omega
     ·rfl
    ·rfl
 refine ⟨?_,j⟩;rw [j];unfold BN;by_cases g:p+3≤s.size
 ·by_cases l:(s.extract p (p+3)).toList=[239,191,189]
  ·exfalso;have k:=(Ee g).1 l;refine d 3 2048 (bt s p-224) _ (Em (by omega) (by omega)) (by decide) g ?_ ?_
   ·unfold AM;rw [if_neg (by omega),if_neg (by omega),if_pos (by omega)]
   ·omega
  ·simp [l]
 ·simp [g]
def BI(k:Nat):Nat:=if k=0 then 0 else if k=1 then 1 else if k=2 then 3 else if k≤9 then 2 else 4
def Ak(t:PT):Tk:=⟨t.d9,t.f8,BI t.kind⟩
def Hw(s:ByteArray):Nat ⊕ Sc→Nat ⊕ List Tk
 | .inl q=>.inl q
 | .inr x=>.inr ((Cb s s.size x).p6.map Ak)
theorem EM(r:Nat):DL (r:Int)=GI r:=by
 unfold DL GI;have c:decide ((97:Int)≤r)=decide (97≤r):=decide_eq_decide.mpr (by omega);have d:decide ((r:Int)≤122)=decide (r≤122):=decide_eq_decide.mpr (by omega);have e:decide ((224:Int)≤r)=decide (224≤r):=decide_eq_decide.mpr (by omega);have f:decide ((r:Int)≤255)=decide (r≤255):=decide_eq_decide.mpr (by omega);have g:((r:Int) !=247)=(r !=247):=by
  by_cases h:r=247
  ·subst h;rfl
  ·have a:((r:Int) !=247)=true:=by simp;omega
   have b:(r !=247)=true:=by simp [h]
   rw [a,b]
 rw [c,d,e,f,g]
theorem Fc(r:Nat):DV (r:Int)=true↔(r=40∨r=41∨r=123∨r=125∨r=59∨r=61∨r=38∨r=42∨r=64∨r=46∨r=63):=by unfold DV;simp only [Bool.or_eq_true,beq_iff_eq];omega
theorem Jk{r:Nat}(h:DV (r:Int)=true):BI (Be r)=4∧Be r≠0:=by rcases (Fc r).1 h with h | h | h | h | h | h | h | h | h | h | h<;>subst h<;>decide
theorem Iy{r}(h:48≤r∧r≤51):BI (Be r)=3∧Be r≠0:=by
 have:r=48∨r=49∨r=50∨r=51:=by omega
 rcases this with h | h | h | h<;>subst h<;>decide
theorem Jj{r:Nat}(a:¬DV (r:Int)=true)(b:¬(48≤r∧r≤51)):Be r=0:=by rw [Fc] at a;unfold Be;simp only [not_or] at a;rw [if_neg (by omega)];simp [a]
theorem JB(l):BI (Cx l)=if Ks l=true then 2 else 1:=by
 unfold Cx Ks;simp only [Bool.or_eq_true,beq_iff_eq];by_cases a:l=[102,110]
 ·simp [a,BI]
 by_cases b:l=[118,97,114]
 ·simp [b,BI]
 by_cases c:l=[110,101,119]
 ·simp [c,BI]
 by_cases d:l=[114,101,116,117,114,110]
 ·simp [d,BI]
 by_cases e:l=[105,102]
 ·simp [e,BI]
 by_cases f:l=[101,108,115,101]
 ·simp [f,BI]
 by_cases g:l=[119,104,105,108,101]
 ·simp [g,BI]
 simp [a,b,c,d,e,f,g,BI]
theorem LG{l}(h:Ks l=true):l.length≤6:=by unfold Ks at h;simp only [Bool.or_eq_true,beq_iff_eq] at h;rcases h with (((((h | h) | h) | h) | h) | h) | h<;>subst h<;>decide
theorem Cc{s e x}(h:x.j8=0):Cb s e x=x:=by unfold Cb;rw [if_neg (by omega)];cases x;simp only at h;subst h;rfl
theorem Cd{s p x}(h:(AM s p).2=0):AC s p (Utf8.decode s p).1 x=(x,p,false):=by simp [AC,(F8 h).1]
theorem Lb(s):∀(n p f g:Nat) (x:Sc),s.size-p≤n→s.size-p≤f→s.size-p≤g→x.rem=true→
 ((Dr s g p).2=false→Aw s f p x=.inl (Dr s g p).1)∧
 ((Dr s g p).2=true→∃d,s.size-(Dr s g p).1≤d∧Aw s f p x=Aw s d (Dr s g p).1 x∧((Dr s g p).1<s.size→bt s (Dr s g p).1=10)):=by
 intro n;induction n with
 | zero=> intro p f g x v c k _;rw [Fz (by omega)];exact ⟨fun h=>by simp at h,fun _=>⟨f,c,rfl,fun h=>by omega⟩⟩
 | succ n w=>
   intro p f g x v c k i;by_cases a:p<s.size∧bt s p≠10
   ·by_cases b:(AM s p).2=0
    ·rw [JG k a.1 a.2 b];refine ⟨fun _=>?_,fun h=>by simp at h⟩;rw [CL c a.1 (by rw [Cd b]),Cd b]
    ·obtain ⟨r,u,q⟩:=Hq k a.1 a.2 b;obtain ⟨j,t⟩:=Cn b;have e:(AM s p).1≠10:=fun h=>by have:=EF b (by omega);omega
     have o:AC s p (Utf8.decode s p).1 x=(x,0,true):=by rw [j];simp only [AC,t,i];cases x;simp only at i;subst i;simp [e]
     obtain ⟨d,m,l⟩:=Ca (x:=x) c a.1 (by rw [o]);rw [o,j] at l;rw [j] at m;have:=w (p+(AM s p).2) d r x (by omega) m u i;rw [q,l];exact this
   ·rw [Fz a];exact ⟨fun h=>by simp at h,fun _=>⟨f,c,rfl,fun h=>by
     by_cases e:bt s p=10
     ·exact e
     ·exact absurd ⟨h,e⟩ a⟩⟩
theorem Ld(s):∀(n p f g:Nat) (x:Sc),s.size-p≤n→s.size-p≤f→s.size-p≤g→x.rem=false→0<x.j8→x.j8≤8→
 (8<(BP s g p x.j8).2→Aw s f p x=.inl x.start)∧
 ((BP s g p x.j8).2≤8→∃d,s.size-(BP s g p x.j8).1≤d∧Aw s f p x=Aw s d (BP s g p x.j8).1 ⟨x.p6,false,x.start,(BP s g p x.j8).2⟩∧
   ¬((BP s g p x.j8).1<s.size∧(AM s (BP s g p x.j8).1).2≠0∧DL (AM s (BP s g p x.j8).1).1=true)):=by
 intro n;induction n with
 | zero=> intro p f g x E b v a B C;rw [EV (by omega)];refine ⟨fun h=>by simp only at h;omega,fun _=>⟨f,b,?_,fun h=>by simp only at h;omega⟩⟩;cases x;simp only at a;subst a;rfl
 | succ n F=>
   intro p f g x E b v a B C;by_cases l:p<s.size∧(AM s p).2≠0∧DL (AM s p).1=true
   ·obtain ⟨j,w,i⟩:=l;obtain ⟨q,D,m⟩:=H7 (k:=x.j8) v j w i;obtain ⟨e,t⟩:=Cn w;have G:=CY s p j;rw [EM] at i;by_cases r:8<x.j8+1
    ·have H:=Ex s q (p+(AM s p).2) (x.j8+1) (by omega);rw [m];refine ⟨fun _=>?_,fun h=>by omega⟩;have c:AC s p (Utf8.decode s p).1 x=(Br p x,x.start,false):=by rw [e];simp only [AC,t,a,i,if_pos r];simp only [Br,if_neg (by omega:¬x.j8=0)];simp
     rw [CL b j (by rw [c]),c]
    ·have c:AC s p (Utf8.decode s p).1 x=(Br p x,0,true):=by rw [e];simp only [AC,t,a,i,if_neg r];simp
     obtain ⟨d,u,o⟩:=Ca (x:=x) b j (by rw [c])
     rw [c,e] at o
     rw [e] at u
     have:=F (p+(AM s p).2) d q (Br p x) (by omega) u D (by simp [Br,a]) (by simp [Br]) (by simp only [Br];omega)
     rw [m,o]
     have y:(Br p x).j8=x.j8+1:=rfl
     have z:(Br p x).start=x.start:=by simp only [Br,if_neg (by omega:¬x.j8=0)]
     have A:(Br p x).p6=x.p6:=rfl
     rw [y,z,A] at this
     exact this
   ·rw [EV l];refine ⟨fun h=>by simp only at h;omega,fun _=>⟨f,b,?_,l⟩⟩;cases x;simp only at a;subst a;rfl
theorem Lc(s e f y)(m:e≤s.size)(n:s.size-e≤f)(l:y.rem=false)(i:¬(e<s.size∧(AM s e).2≠0∧DL (AM s e).1=true)):
 Hw s (Aw s f e y)=Hw s (Aw s f e (Cb s e y)):=by
 by_cases a:e<s.size
 ·have d:(AC s e (Utf8.decode s e).1 y).2=(AC s e (Utf8.decode s e).1 (Cb s e y)).2∧((AC s e (Utf8.decode s e).1 y).2.2=true→AC s e (Utf8.decode s e).1 y=AC s e (Utf8.decode s e).1 (Cb s e y)):=by
   by_cases b:(AM s e).2=0
   ·rw [Cd b,Cd b];exact ⟨rfl,fun h=>by simp at h⟩
   ·obtain ⟨j,g⟩:=Cn b;have k:GI (AM s e).1=false:=by
     have:¬DL (AM s e).1=true:=fun h=>i ⟨a,b,h⟩
     rw [EM] at this;simpa using this
    have c:AC s e (Utf8.decode s e).1 y=AC s e (Utf8.decode s e).1 (Cb s e y):=by rw [j];simp only [AC,g,l,k,KH,Cc (Cu s e y)];simp
    exact ⟨by rw [c],fun _=>c⟩
  cases f with
  | zero=>omega
  | succ f=>
    simp only [Aw,if_pos a];rw [←d.1];split
    ·rename_i h;rw [←d.2 h]
    ·rfl
 ·have:e=s.size:=by omega
  subst this;rw [Co a,Co a];simp only [Hw,Cc (Cu s s.size y)]
theorem KV(s):∀(n p f g:Nat) (x:Sc),s.size-p≤n→s.size-p≤f→s.size-p≤g→x.rem=false→x.j8=0→
 AZ s g p (x.p6.map Ak)=Hw s (Aw s f p x):=by
 intro n;induction n with
 | zero=> intro p f g x hn C v A m;rw [DH (by omega),Co (by omega)];simp only [Hw,Cc m]
 | succ n O=>
   intro p f g x hn C v A m;by_cases a:p<s.size
   case neg=> rw [DH a,Co a];simp only [Hw,Cc m]
   by_cases b:(AM s p).2=0
   ·rw [BV (p:=p) v a (by simp [AQ,b]),CL C a (by rw [Cd b]),Cd b];rfl
   obtain ⟨l,J⟩:=Cn b;have b1:=CY s p a;by_cases i:(AM s p).1=32∨(AM s p).1=9∨(AM s p).1=10
   ·obtain ⟨_,u⟩:=EF b (by omega);obtain ⟨I,D,z⟩:=Bu (acc:=x.p6.map Ak) (t:=none) (j:=p+1) v a (by simp only [AQ,if_neg b,if_pos i]);have y:GI (AM s p).1=false:=by rcases i with h | h | h<;>rw [h]<;>decide
    have d:AC s p (Utf8.decode s p).1 x=(x,0,true):=by rw [l];simp only [AC,J,A,y,Cc m,Cp,if_pos i];simp
    obtain ⟨B,r,c⟩:=Ca (x:=x) C a (by rw [d]);rw [d,l,u] at c;rw [l,u] at r;rw [z,c];simp only [Option.toList,List.append_nil];exact O (p+1) B I x (by omega) r D A m
   by_cases o:(AM s p).1=35
   ·obtain ⟨b0,u⟩:=EF b (by omega);have y:GI (AM s p).1=false:=by rw [o];decide
    have d:AC s p (Utf8.decode s p).1 x=(⟨x.p6,true,x.start,x.j8⟩,0,true):=by rw [l];simp only [AC,J,A,y,Cc m,Cp,if_neg i,if_pos o];simp
    obtain ⟨B,r,c⟩:=Ca (x:=x) C a (by rw [d]);rw [d,l,u] at c;rw [l,u] at r;obtain ⟨k,E,H⟩:=Hq (f:=s.size) (by omega) a (by omega) b;rw [u] at E H;have Z:=FU s k (p+1) (by omega);obtain ⟨F,G⟩:=Lb s n (p+1) B k ⟨x.p6,true,x.start,x.j8⟩ (by omega) r E rfl;by_cases T:(Dr s k (p+1)).2=true
    ·obtain ⟨U,Q,P,Y⟩:=G T;obtain ⟨I,D,z⟩:=Bu (acc:=x.p6.map Ak) (t:=none) (j:=(Dr s k (p+1)).1) v a (by simp only [AQ,if_neg b,if_neg i,if_pos o,H,if_pos T]);rw [z,c,P];simp only [Option.toList,List.append_nil];generalize (Dr s k (p+1)).1=q at*;by_cases M:q<s.size
     ·have Y:=Y M;have K:AM s q=(10,1):=by unfold AM;rw [if_pos (by omega),Y]
      have a9:(AM s q).2≠0:=by rw [K];decide
      obtain ⟨W,a4⟩:=Cn a9;have a1:AC s q (Utf8.decode s q).1 ⟨x.p6,true,x.start,x.j8⟩=(⟨x.p6,false,x.start,x.j8⟩,0,true):=by rw [W];simp only [AC,a4];simp [K]
      obtain ⟨f3,a0,e3⟩:=Ca (x:=⟨x.p6,true,x.start,x.j8⟩) Q M (by rw [a1]);obtain ⟨g3,a5,a3⟩:=Bu (acc:=x.p6.map Ak) (t:=none) (j:=q+1) D M (by simp [AQ,K]);rw [a3,e3,a1,W,K];rw [W,K] at a0;simp only [Option.toList,List.append_nil];exact O (q+1) f3 g3 ⟨x.p6,false,x.start,x.j8⟩ (by omega) a0 a5 rfl m
     ·rw [DH M,Co M];simp only [Hw];rw [Cc (by exact m)]
    ·have S:(Dr s k (p+1)).2=false:=by simpa using T
     rw [c,F S,BV (p:=(Dr s k (p+1)).1) v a (by simp only [AQ,if_neg b,if_neg i,if_pos o,H,if_neg T])];rfl
   by_cases w:DL (AM s p).1=true
   ·have y:=w;rw [EM] at y;have d:AC s p (Utf8.decode s p).1 x=(⟨x.p6,false,p,1⟩,0,true):=by rw [l];simp only [AC,J,A,y,Br,m];simp
    obtain ⟨B,r,c⟩:=Ca (x:=x) C a (by rw [d]);rw [d,l] at c;rw [l] at r;obtain ⟨k,E,H⟩:=H7 (f:=s.size) (k:=0) (by omega) a b w;have Z:=Ex s k (p+(AM s p).2) (0+1) (by omega);have b2:=Ex s s.size p 0 (by omega);obtain ⟨F,G⟩:=Ld s n (p+(AM s p).2) B k ⟨x.p6,false,p,1⟩ (by omega) r E rfl Nat.one_pos (by simp only;omega);rw [←H] at Z;simp only at F G;rw [show (1:Nat)=0+1 from rfl,←H] at F G;have a6:Ks (s.extract p (BP s s.size p 0).1).toList=true→(BP s s.size p 0).2≤8:=by intro h;have:=LG h;rw [ByteArray.toList_eq] at this;simp at this;have e:s.data.size=s.size:=rfl;omega
    by_cases V:8<(BP s s.size p 0).2
    ·rw [c,F V,BV (p:=p) v a (by simp only [AQ,if_neg b,if_neg i,if_neg o,if_pos w];rw [if_neg (fun h=>by have:=a6 h;omega),if_pos V])]
     rfl
    ·obtain ⟨U,Q,P,S⟩:=G (by omega);rw [c,P];rw [Lc s _ U _ Z.2.1 Q rfl S];have hm:0<(BP s s.size p 0).2:=by omega
     have hE:Cb s (BP s s.size p 0).1 ⟨x.p6,false,p,(BP s s.size p 0).2⟩=⟨x.p6++[⟨Cx (s.extract p (BP s s.size p 0).1).toList,s.extract p (BP s s.size p 0).1,p⟩],false,p,0⟩:=by simp only [Cb,if_pos hm]
     rw [hE];have R:AQ s p=.inr (some (Ak ⟨Cx (s.extract p (BP s s.size p 0).1).toList,s.extract p (BP s s.size p 0).1,p⟩),(BP s s.size p 0).1):=by
      simp only [AQ,if_neg b,if_neg i,if_neg o,if_pos w,Ak,JB];by_cases E:Ks (s.extract p (BP s s.size p 0).1).toList=true
      ·simp only [if_pos E]
      ·simp only [if_neg E,if_neg V]
     obtain ⟨I,D,z⟩:=Bu (acc:=x.p6.map Ak) v a R;rw [z];have a8:s.size-(BP s s.size p 0).1≤n:=by clear F G O c P S z R;omega
     have:=O (BP s s.size p 0).1 U I ⟨x.p6++[⟨Cx (s.extract p (BP s s.size p 0).1).toList,s.extract p (BP s s.size p 0).1,p⟩],false,p,0⟩ a8 Q D rfl rfl;rw [←this];simp
   have y:GI (AM s p).1=false:=by rw [EM] at w;simpa using w
   have a2:Be (AM s p).1≠0→(AM s p).1<128→AQ s p=.inr (some (Ak ⟨Be (AM s p).1,s.extract p (p+1),p⟩),p+1)→AZ s g p (x.p6.map Ak)=Hw s (Aw s f p x):=by
    intro X a7 R;obtain ⟨_,u⟩:=EF b a7;have d:AC s p (Utf8.decode s p).1 x=(⟨x.p6++[⟨Be (AM s p).1,s.extract p (p+1),p⟩],x.rem,x.start,x.j8⟩,0,true):=by rw [l];simp only [AC,J,A,y,Cc m,Cp,if_neg i,if_neg o,if_neg X];simp
    obtain ⟨B,r,c⟩:=Ca (x:=x) C a (by rw [d]);rw [d,l,u] at c;rw [l,u] at r;obtain ⟨I,D,z⟩:=Bu (acc:=x.p6.map Ak) v a R;rw [z,c];have:=O (p+1) B I ⟨x.p6++[⟨Be (AM s p).1,s.extract p (p+1),p⟩],x.rem,x.start,x.j8⟩ (by omega) r D A m;rw [←this];simp
   by_cases L:48≤(AM s p).1∧(AM s p).1≤51
   ·obtain ⟨m1,m2⟩:=Iy L;exact a2 m2 (by omega) (by simp only [AQ,if_neg b,if_neg i,if_neg o,if_neg w,if_pos L,Ak,m1])
   by_cases N:DV (AM s p).1=true
   ·obtain ⟨m1,m2⟩:=Jk N;exact a2 m2 (by rcases (Fc _).1 N with h | h | h | h | h | h | h | h | h | h | h<;>omega) (by simp only [AQ,if_neg b,if_neg i,if_neg o,if_neg w,if_neg L,if_pos N,Ak,m1])
   ·have X:=Jj N L;have d:AC s p (Utf8.decode s p).1 x=(x,p,false):=by rw [l];simp only [AC,J,A,y,Cc m,Cp,if_neg i,if_neg o,if_pos X];simp
    rw [BV (p:=p) v a (by simp only [AQ,if_neg b,if_neg i,if_neg o,if_neg w,if_neg L,if_neg N]),CL C a (by rw [d]),d];rfl
theorem Fh(s):AZ s s.size 0 []=Hw s (Aw s s.size 0 ⟨[],false,0,0⟩):=
 KV s s.size 0 s.size s.size ⟨[],false,0,0⟩ (by omega) (by omega) (by omega) rfl rfl
def BF(k:Nat):List UInt8:=
 if k=3 then [102,110] else if k=4 then [118,97,114] else if k=5 then [110,101,119] else if k=6 then [114,101,116,117,114,110] else if k=7 then [105,102] else if k=8 then [101,108,115,101] else if k=9 then [119,104,105,108,101]
 else if k=10 then [40] else if k=11 then [41] else if k=12 then [123] else if k=13 then [125] else if k=14 then [59] else if k=15 then [61] else if k=16 then [38] else if k=17 then [42] else if k=18 then [64] else if k=19 then [46] else if k=20 then [63] else []
def Lv(t:PT):Prop:=t.kind≤20∧(3≤t.kind→t.d9.toList=BF t.kind)
theorem Iv:∀a,a≤20→3≤a→∀b,b≤20→3≤b→BF a=BF b→a=b:=by
 intro a e c b f d h;have:∀a b:Fin 21,3≤a.val→3≤b.val→BF a=BF b→a=b:=by decide+kernel
 have:=this ⟨a,by omega⟩ ⟨b,by omega⟩ c d h;exact congrArg Fin.val this
theorem Kr(l):Cx l≤20∧Cx l≠0∧(3≤Cx l→l=BF (Cx l)):=by
 unfold Cx;repeat' split
 all_goals (refine ⟨by decide,by decide,fun h=>?_⟩)
 all_goals first | (rename_i e;rw [e];rfl) | omega
theorem KY(r):Be r≤20:=by
 unfold Be;repeat' split
 all_goals decide
theorem J7{s p}(a:p<s.size)(h:3≤Be (Utf8.decode s p).1):(s.extract p (p+1)).toList=BF (Be (Utf8.decode s p).1):=by
 have k:(Utf8.decode s p).1<128:=by
  generalize (Utf8.decode s p).1=r at*;by_cases f:r<128
  ·exact f
  ·exfalso;unfold Be at h;rw [if_neg (by omega),if_neg (by omega),if_neg (by omega),if_neg (by omega),if_neg (by omega),if_neg (by omega),if_neg (by omega),if_neg (by omega),if_neg (by omega),if_neg (by omega),if_neg (by omega),if_neg (by omega)] at h;omega
 have g:(s[p]'a).toNat<128:=by
  by_cases d:(s[p]'a).toNat<128
  ·exact d
  ·have:=(decode_high s p a (by omega)).1;omega
 have e:(s.extract p (p+1)).toList=[s[p]'a]:=by
  rw [ByteArray.toList_eq,ByteArray.data_extract];have j:p<s.data.size:=a;apply List.ext_getElem?;intro i;rcases i with _ | i
  ·have:s.data[p]? =some (s[p]'a):=Array.getElem?_eq_getElem j;simpa using this
  ·simp;omega
 have b:(Utf8.decode s p).1=(s[p]'a).toNat:=by rw [decode_ascii s p a g]
 rw [b] at h⊢;rw [e];generalize s[p]'a=c at*;have:∀n:Fin 256,3≤Be n→[UInt8.ofNat n]=BF (Be n):=by decide+kernel
 have:=this ⟨c.toNat,c.toNat_lt⟩ h;simpa using this
structure Kv(s:ByteArray)(p:Nat)(x:Sc):Prop where
 lit:∀t,t∈x.p6→Lv t∧t.kind≠0∧t.d9.size≤s.size
 My:x.p6.Pairwise (fun a b=>a.f8<b.f8)
 top:∀t,t∈x.p6→t.f8<(if 0<x.j8 then x.start else p)
 st:0<x.j8→x.start<p
theorem Kv.more{s p q x}(h:Kv s p x)(c:p≤q):Kv s q x:=
 ⟨h.lit,h.My,fun t b=>by have:=h.top t b;split at this<;>split<;>omega,fun a=>by have:=h.st a;omega⟩
theorem Ga(s:ByteArray)(a b:Nat):(s.extract a b).size≤s.size:=by
 have:(s.extract a b).data.size≤s.data.size:=by rw [ByteArray.data_extract];simp;omega
 exact this
theorem Kv.u4{s p x}(h:Kv s p x):Kv s p (Cb s p x):=by
 have d:=h.top;unfold Proofs.YtmaankfbhhbeoaaGreatDoor.Cb;split
 ·rename_i e;have f:=h.st e;simp only [if_pos e] at d;obtain ⟨j,k,l⟩:=Kr (s.extract x.start p).toList;refine ⟨fun t c=>?_,?_,fun t c=>?_,fun q=>absurd q (by simp)⟩
  ·rcases List.mem_append.1 c with q | q
   ·exact h.lit t q
   ·rw [List.mem_singleton.1 q];exact ⟨⟨j,l⟩,k,Ga _ _ _⟩
  ·refine List.pairwise_append.2 ⟨h.My,by simp,fun a g b i=>?_⟩;rw [List.mem_singleton.1 i];exact d a g
  ·simp only [Nat.lt_irrefl,if_false];rcases List.mem_append.1 c with q | q
   ·have:=d t q;omega
   ·rw [List.mem_singleton.1 q];exact f
 ·rename_i e;simp only [if_neg e] at d;exact ⟨h.lit,h.My,fun t c=>by simp only [Nat.lt_irrefl,if_false];exact d t c,fun q=>absurd q (by simp)⟩
theorem Lm{s p x}(u:p<s.size)(h:Kv s p x)(f:(AC s p (Utf8.decode s p).1 x).2.2=true):Kv s (p+1) (AC s p (Utf8.decode s p).1 x).1:=by
 unfold AC at f⊢;split
 ·rename_i c;simp [c] at f
 ·split
  ·have:=h.more (Nat.le_succ p);exact ⟨this.lit,this.My,this.top,this.st⟩
  ·split
   ·rename_i c m l;simp only [c,m,l,if_true] at f;split
    ·rename_i n;simp [n] at f
    ·refine ⟨h.lit,h.My,fun t e=>?_,fun _=>?_⟩
     ·have:=h.top t e;simp only [Br,Nat.zero_lt_succ,if_true];by_cases k:x.j8=0
      ·simp only [k,if_true];rw [k] at this;exact this
      ·simp only [if_neg k];rwa [if_pos (by omega)] at this
     ·simp only [Br];split
      ·omega
      ·have:=h.st (by omega);omega
   ·rename_i c m l;simp only [c,m,l] at f;have d:=h.u4;have j:=Cu s p x;have i:=d.top;rw [j] at i;simp only [Nat.lt_irrefl,if_false] at i;unfold Cp;split
    ·exact d.more (by omega)
    ·split
     ·have:=d.more (Nat.le_succ p);exact ⟨this.lit,this.My,this.top,this.st⟩
     ·split
      ·exact d.more (by omega)
      ·rename_i r;refine ⟨fun t e=>?_,?_,fun t e=>?_,fun q=>?_⟩
       ·rcases List.mem_append.1 e with q | q
        ·exact d.lit t q
        ·rw [List.mem_singleton.1 q];exact ⟨⟨KY _,fun g=>J7 u g⟩,r,Ga _ _ _⟩
       ·refine List.pairwise_append.2 ⟨d.My,by simp,fun a o b c=>?_⟩;rw [List.mem_singleton.1 c];exact i a o
       ·simp only [j,Nat.lt_irrefl,if_false];rcases List.mem_append.1 e with q | q
        ·have:=i t q;omega
        ·rw [List.mem_singleton.1 q];exact Nat.lt_succ_self p
       ·simp only [j] at q;omega
theorem JY(s p)(a:p<s.size):p+(Utf8.decode s p).2≤s.size:=by
 by_cases b:(AM s p).2=0
 ·rw [(F8 b).2];exact a
 ·rw [(Cn b).1];exact (CY s p a).1
theorem Gz(s:ByteArray):∀(f p:Nat) (x y:Sc),p≤s.size→Kv s p x→Aw s f p x=.inr y→Kv s s.size y
 | 0,p,x,y,b,h,e=>by have:=Sum.inr.inj e;subst this;exact h.more b
 | f+1,p,x,y,b,h,e=>by
   unfold Aw at e;split at e
   ·rename_i a;have d:=En s p a;split at e
    ·rename_i c;exact Gz s f _ _ y (JY s p a) ((Lm a h c).more (by omega)) e
    ·cases e
   ·have:=Sum.inr.inj e;subst this;exact h.more b
structure TksOk(N:Nat)(l:List PT):Prop where
 pos:0<l.length
 lit:∀t,t∈l→Lv t
 len:∀t,t∈l→t.d9.size≤N∧t.f8≤N
 My:l.Pairwise (fun a b=>a.f8<b.f8)
 last:∃t,l[l.length-1]? =some t∧t.kind=0∧t.d9=ByteArray.empty∧t.f8=N
 d7:∀i t,i<l.length-1→l[i]? =some t→t.kind≠0
theorem EH(s:ByteArray):s.extract s.size s.size=ByteArray.empty:=by
 apply ByteArray.ext;rw [ByteArray.data_extract];have:s.data.size=s.size:=rfl;apply Array.ext
 ·simp
 ·intro i a b;simp at a
theorem Jv{s y}(h:Aw s s.size 0 ⟨[],false,0,0⟩=.inr y):TksOk s.size (An s y):=by
 have n:Kv s s.size y:=Gz s _ 0 _ _ (Nat.zero_le _) ⟨by simp,by simp,by simp,by simp⟩ h;have c:=n.u4;have k:=Cu s s.size y;have d:=c.top;rw [k] at d;simp only [Nat.lt_irrefl,if_false] at d;unfold An;rw [EH];refine ⟨by simp,fun t e=>?_,fun t e=>?_,?_,?_,fun i t j f=>?_⟩
 ·rcases List.mem_append.1 e with q | q
  ·exact (c.lit t q).1
  ·rw [List.mem_singleton.1 q];exact ⟨Nat.zero_le _,fun g=>absurd (show 3≤0 from g) (by decide)⟩
 ·rcases List.mem_append.1 e with q | q
  ·exact ⟨(c.lit t q).2.2,Nat.le_of_lt (d t q)⟩
  ·rw [List.mem_singleton.1 q];exact ⟨Nat.zero_le _,Nat.le_refl _⟩
 ·refine List.pairwise_append.2 ⟨c.My,by simp,fun a l b m=>?_⟩;rw [List.mem_singleton.1 m];exact d a l
 ·exact ⟨⟨0,ByteArray.empty,s.size⟩,by simp,rfl,rfl,rfl⟩
 ·simp only [List.length_append,List.length_singleton,Nat.add_sub_cancel] at j;rw [List.getElem?_append_left j] at f;exact (c.lit t (List.mem_of_getElem? f)).2.1
end Go.Proofs.YtmaankfbhhbeoaaGreatDoor

/- One of the texts of the proof of runs_card_holds: Plain CtP ScA EqA ScC Mem ScD. -/
import Derived.Test.YthppbgndiplgnaaGreatDoorG00
import Derived.Below
import Derived.Laws.RangeAny
import Derived.Laws.Strings
import Derived.Test.YthppbgndiplgnaaGreatDoorProg
import Derived.WalkKit
import Derived.WalkSpells
import Derived.WalkLawsBesides
import Derived.RegionTactic
import Derived.ChangeAlike
import Derived.BigRegion
import Derived.Deep.QuietTactic
import Derived.BigQuiet
import Derived.Deep.RegionLaw
import Derived.Deep.DeepCutAuto
set_option maxHeartbeats 400000
namespace Go.Proofs.YthppbgndiplgnaaGreatDoor
open Go.RowKit
def bt(s:ByteArray)(i:Nat):Nat:=(s.data[i]?.getD 0).toNat
theorem Nl(s i):bt s i<256:=by unfold bt;exact UInt8.toNat_lt _
theorem El(s i)(h:i<s.size):bt s i=(s[i]'h).toNat:=by unfold bt;have a:i<s.data.size:=h;rw [Array.getElem?_eq_getElem a];rfl
def BD(s:ByteArray)(i:Nat)(a:Nat):Nat→Option Nat
 | 0=>some a
 | m+1=>match BD s i a m with
   | none=>none
   | some c=>if bt s (i+1+m)<128∨191<bt s (i+1+m) then none else some (c*64+bt s (i+1+m)-128)
theorem Kj{s:ByteArray}{i a m:Nat}(h:BD s i a m=none):∀k,BD s i a (m+k)=none
 | 0=>h
 | k+1=>by show BD s i a ((m+k)+1)=none;simp only [BD,Kj h k]
theorem Fi{s i a m n}(h:BD s i a m=none)(b:m≤n):BD s i a n=none:=by have:=Kj h (n-m);rwa [show m+(n-m)=n from by omega] at this
theorem IV{s i a m c}(h:BD s i a m=some c)(b:bt s (i+1+m)<128∨191<bt s (i+1+m)):BD s i a (m+1)=none:=by simp only [BD,h,cU b]
theorem D9{s i a m c}(h:BD s i a m=some c)(b:128≤bt s (i+1+m))(d:bt s (i+1+m)≤191):BD s i a (m+1)=some (c*64+bt s (i+1+m)-128):=by simp only [BD,h];rw [cT (by omega)]
theorem FM{s i b m c}(h:BD s i b (m+1)=some c):∃a,BD s i b m=some a∧128≤bt s (i+1+m)∧bt s (i+1+m)≤191∧c=a*64+bt s (i+1+m)-128:=by
 simp only [BD] at h;split at h
 ·cases h
 ·rename_i a d;split at h
  ·cases h
  ·rename_i e;simp only [bA] at h;exact ⟨a,d,by omega,by omega,h.symm⟩
theorem LK{s:ByteArray}{i a:Nat}:∀{m c:Nat},BD s i a m=some c→c+1≤(a+1)*64 ^ m
 | 0,c,h=>by simp only [BD,bA] at h;simp [h]
 | m+1,c,h=>by obtain ⟨b,d,f,g,j⟩:=FM h;have e:=LK d;have:(b+1)*64≤(a+1)*64 ^ m*64:=Nat.mul_le_mul_right 64 e;rw [Nat.pow_succ,←Nat.mul_assoc];omega
def Ke:Nat:=8388607
theorem Ki{s i a m c}(f:a≤31)(e:m≤3)(h:BD s i a m=some c):c≤Ke:=by have g:=LK h;have b:64 ^ m≤64 ^ 3:=Nat.pow_le_pow_right (by omega) e;have d:(a+1)*64 ^ m≤32*64 ^ 3:=Nat.mul_le_mul (by omega) b;unfold Ke;simp only [Nat.reducePow,Nat.reduceMul] at d;omega
def D8(s:ByteArray)(i n b a:Nat):Nat×Nat:=
 if s.size<i+n then (0,0) else
 match BD s i a (n-1) with
 | none=>(0,0)
 | some c=>if c<b∨1114111<c∨(55296≤c∧c<57344) then (0,0) else (c,n)
theorem Ho{s i n b a}(h:s.size<i+n):D8 s i n b a=(0,0):=by simp only [D8,cU h]
theorem IS{s i n b a}(h:BD s i a (n-1)=none):D8 s i n b a=(0,0):=by simp only [D8,h];split<;>rfl
theorem Kd{s i n b a c}(h:BD s i a (n-1)=some c)(d:c<b∨1114111<c∨(55296≤c∧c<57344)):D8 s i n b a=(0,0):=by simp only [D8,h,cU d];split<;>rfl
theorem JO{s i n b a c}(e:i+n≤s.size)(h:BD s i a (n-1)=some c)(d:¬(c<b∨1114111<c∨(55296≤c∧c<57344))):D8 s i n b a=(c,n):=by simp only [D8,h];rw [cT (by omega),cT d]
def A8(s:ByteArray)(i:Nat):Nat×Nat:=
 if bt s i<128 then (bt s i,1)
 else if 194≤bt s i∧bt s i<224 then D8 s i 2 128 (bt s i-192)
 else if 224≤bt s i∧bt s i<240 then D8 s i 3 2048 (bt s i-224)
 else if 240≤bt s i∧bt s i<245 then D8 s i 4 65536 (bt s i-240)
 else (0,0)
theorem GM(s i n a b):D8 s i n a b=(0,0)∨∃c,D8 s i n a b=(c,n)∧i+n≤s.size∧a≤c∧c≤1114111:=by
 unfold D8;split
 ·exact .inl rfl
 ·split
  ·exact .inl rfl
  ·split
   ·exact .inl rfl
   ·exact .inr ⟨_,rfl,by omega,by omega,by omega⟩
theorem EK(s i)(a:i<s.size):i+(A8 s i).2≤s.size∧(A8 s i).2≤4∧(A8 s i).1≤1114111:=by
 unfold A8;split
 ·have:=Nl s i;simp only;omega
 ·split
  ·rcases GM s i 2 128 (bt s i-192) with h | ⟨c,h,_⟩<;>rw [h]<;>simp only<;>omega
  ·split
   ·rcases GM s i 3 2048 (bt s i-224) with h | ⟨c,h,_⟩<;>rw [h]<;>simp only<;>omega
   ·split
    ·rcases GM s i 4 65536 (bt s i-240) with h | ⟨c,h,_⟩<;>rw [h]<;>simp only<;>omega
    ·simp only;omega
structure PT where
 kind:Nat
 i6:ByteArray
 i9:Nat
structure Sc where
 Yq:List PT
 rem:Bool
 start:Nat
 Yb:Nat
def DX(l:List UInt8):Nat:=
 if l=[102,110] then 3 else if l=[118,97,114] then 4 else if l=[110,101,119] then 5 else if l=[114,101,116,117,114,110] then 6 else if l=[105,102] then 7 else if l=[101,108,115,101] then 8 else if l=[119,104,105,108,101] then 9 else 1
def BI(r:Nat):Nat:=
 if r=48∨r=49∨r=50∨r=51 then 2 else if r=40 then 10 else if r=41 then 11 else if r=123 then 12 else if r=125 then 13 else if r=59 then 14 else if r=61 then 15 else if r=38 then 16 else if r=42 then 17 else if r=64 then 18 else if r=46 then 19 else if r=63 then 20 else 0
def Ja(r:Nat):Bool:=(decide (97≤r) && decide (r≤122)) || (decide (224≤r) && decide (r≤255) && (r !=247))
def Dd(s:ByteArray)(p r:Nat):Bool:=r==65533 && !(decide (p+3≤s.size) && (s.extract p (p+3)).toList==[239,191,189])
def Da(s:ByteArray)(e:Nat)(x:Sc):Sc:=
 if 0<x.Yb then ⟨x.Yq++[⟨DX (s.extract x.start e).toList,s.extract x.start e,x.start⟩],x.rem,x.start,0⟩ else ⟨x.Yq,x.rem,x.start,0⟩
def Cs(p:Nat)(x:Sc):Sc:=⟨x.Yq,x.rem,if x.Yb=0 then p else x.start,x.Yb+1⟩
def Dz(s:ByteArray)(p r:Nat)(x:Sc):Sc×Nat×Bool:=
 if r=32∨r=9∨r=10 then (x,0,true)
 else if r=35 then (⟨x.Yq,true,x.start,x.Yb⟩,0,true)
 else if BI r=0 then (x,p,false)
 else (⟨x.Yq++[⟨BI r,s.extract p (p+1),p⟩],x.rem,x.start,x.Yb⟩,0,true)
def AU(s:ByteArray)(p r:Nat)(x:Sc):Sc×Nat×Bool:=
 if Dd s p r then (x,p,false)
 else if x.rem then (⟨x.Yq,r !=10,x.start,x.Yb⟩,0,true)
 else if Ja r then (if 8<x.Yb+1 then (Cs p x,(Cs p x).start,false) else (Cs p x,0,true))
 else Dz s p r (Da s p x)
def AK(s:ByteArray):Nat→Nat→Sc→Nat ⊕ Sc
 | 0,_,x=>.inr x
 | f+1,p,x=>if p<s.size then
    (if (AU s p (Utf8.decode s p).1 x).2.2 then AK s f (p+(Utf8.decode s p).2) (AU s p (Utf8.decode s p).1 x).1
     else .inl (AU s p (Utf8.decode s p).1 x).2.1)
   else .inr x
def AC(s:ByteArray)(x:Sc):List PT:=(Da s s.size x).Yq++[⟨0,s.extract s.size s.size,s.size⟩]
theorem DI{s f p x}(h:¬p<s.size):AK s f p x=.inr x:=by
 cases f with
 | zero=>rfl
 | succ f=>simp only [AK,cT h]
theorem Ej{s f p x}(b:s.size-p≤f)(h:p<s.size)(a:(AU s p (Utf8.decode s p).1 x).2.2=false):AK s f p x=.inl (AU s p (Utf8.decode s p).1 x).2.1:=by
 cases f with
 | zero=>omega
 | succ f=>simp [AK,cU h,a]
theorem FO(s p)(h:p<s.size):1≤(Utf8.decode s p).2:=by
 by_cases a:(s[p]'h).toNat<128
 ·rw [decode_ascii s p h a];exact aV _
 ·exact (decode_high s p h (by omega)).2
theorem Dr{s f p x}(d:s.size-p≤f)(h:p<s.size)(b:(AU s p (Utf8.decode s p).1 x).2.2=true):
 ∃a,s.size-(p+(Utf8.decode s p).2)≤a∧AK s f p x=AK s a (p+(Utf8.decode s p).2) (AU s p (Utf8.decode s p).1 x).1:=by
 have c:=FO s p h;cases f with
 | zero=>omega
 | succ f=>exact ⟨f,by omega,by simp [AK,cU h,b]⟩
structure JI(p:Nat)(x:Sc):Prop where
 start:x.start≤p
 Yb:x.Yb≤8
 many:x.Yq.length+x.Yb≤p
theorem JI.more{p q x}(h:JI p x)(a:p≤q):JI q x:=⟨bJ h.start a,h.Yb,bJ h.many a⟩
theorem JI.YG{s p x}(h:JI p x):JI p (Da s p x):=by
 have a:=h.start;have b:=h.many;unfold Proofs.YthppbgndiplgnaaGreatDoor.Da;split
 ·exact ⟨a,by simp,by simp;omega⟩
 ·exact ⟨a,by simp,by simp;omega⟩
theorem DR(s p x):(Da s p x).Yb=0:=by unfold Da;split<;>rfl
theorem TH(s p x):(Da s p x).rem=x.rem:=by unfold Da;split<;>rfl
theorem Vc{s p r x}(h:JI p x)(a:(AU s p r x).2.2=true):JI (p+1) (AU s p r x).1:=by
 have k:=h.start;have l:=h.many;have m:=h.Yb;unfold AU at a⊢;split
 ·rename_i c;simp [c] at a
 ·rename_i c;simp only [c] at a;split
  ·exact ⟨by simp;omega,by simp;omega,by simp;omega⟩
  ·rename_i g;simp only [g] at a;split
   ·rename_i f;simp only [f,if_true] at a;split
    ·rename_i e;simp [e] at a
    ·exact ⟨by simp only [Cs];split<;>omega,by simp only [Cs];omega,by simp only [Cs];omega⟩
   ·have b:=h.YG (s:=s);have i:=b.start;have j:=b.many;have d:=DR s p x;unfold Dz;split
    ·exact b.more (by omega)
    ·split
     ·exact ⟨by simp;omega,by simp [d],by simp;omega⟩
     ·split
      ·exact b.more (by omega)
      ·exact ⟨by simp;omega,by simp [d],by simp;omega⟩
theorem Ka(s p r)(h:r<65533):Dd s p r=false:=by
 have:(r==65533)=false:=by simp;omega
 simp [Dd,this]
theorem WS(s k):(s.get! k).toNat=bt s k:=by unfold bt;congr 1;show s.data[k]! =_;rw [getElem!_def];cases s.data[k]? <;>rfl
theorem MC(s k)(h:s.size≤k):bt s k=0:=by
 unfold bt;have:s.data[k]? =none:=by simp;exact h
 rw [this];rfl
theorem Kl(s p k):((decide (p+k<s.size) && (bt s (p+k) / 64==2))=true)↔(128≤bt s (p+k)∧bt s (p+k)≤191):=by
 have b:=Nl s (p+k);simp only [Bool.and_eq_true,cQ,beq_iff_eq];constructor
 ·rintro ⟨_,h⟩;omega
 ·intro h;refine ⟨?_,by omega⟩;by_cases a:p+k<s.size
  ·exact a
  ·have:=MC s (p+k) (by omega);omega
theorem SV(c:Nat):Utf8.valid (c:Int)=true↔(c<55296∨(57344≤c∧c≤1114111)):=by unfold Utf8.valid;simp only [Bool.or_eq_true,Bool.and_eq_true,cQ];omega
theorem IW(s p):Utf8.decode s p=
 (if bt s p<128 then (bt s p,1)
  else if bt s p / 32=6∧(128≤bt s (p+1)∧bt s (p+1)≤191) then
   (if 128≤bt s p % 32*64+bt s (p+1) % 64 then (bt s p % 32*64+bt s (p+1) % 64,2) else (65533,1))
  else if bt s p / 16=14∧(128≤bt s (p+1)∧bt s (p+1)≤191)∧(128≤bt s (p+2)∧bt s (p+2)≤191) then
   (if 2048≤bt s p % 16*4096+bt s (p+1) % 64*64+bt s (p+2) % 64∧(bt s p % 16*4096+bt s (p+1) % 64*64+bt s (p+2) % 64<55296∨(57344≤bt s p % 16*4096+bt s (p+1) % 64*64+bt s (p+2) % 64∧bt s p % 16*4096+bt s (p+1) % 64*64+bt s (p+2) % 64≤1114111))
    then (bt s p % 16*4096+bt s (p+1) % 64*64+bt s (p+2) % 64,3) else (65533,1))
  else if bt s p / 8=30∧(128≤bt s (p+1)∧bt s (p+1)≤191)∧(128≤bt s (p+2)∧bt s (p+2)≤191)∧(128≤bt s (p+3)∧bt s (p+3)≤191) then
   (if 65536≤bt s p % 8*262144+bt s (p+1) % 64*4096+bt s (p+2) % 64*64+bt s (p+3) % 64∧(bt s p % 8*262144+bt s (p+1) % 64*4096+bt s (p+2) % 64*64+bt s (p+3) % 64<55296∨(57344≤bt s p % 8*262144+bt s (p+1) % 64*4096+bt s (p+2) % 64*64+bt s (p+3) % 64∧bt s p % 8*262144+bt s (p+1) % 64*4096+bt s (p+2) % 64*64+bt s (p+3) % 64≤1114111))
    then (bt s p % 8*262144+bt s (p+1) % 64*4096+bt s (p+2) % 64*64+bt s (p+3) % 64,4) else (65533,1))
  else (65533,1)):=by
 have a:=Kl s p 1;have b:=Kl s p 2;have c:=Kl s p 3;unfold Utf8.decode;simp only [WS,bK,Utf8.runeError];generalize d:(decide (p+1<s.size) && (bt s (p+1) / 64==2))=g at*;generalize e:(decide (p+2<s.size) && (bt s (p+2) / 64==2))=h at*;generalize f:(decide (p+3<s.size) && (bt s (p+3) / 64==2))=i at*;clear d e f;simp only [Bool.and_eq_true,beq_iff_eq,cQ,a,b,c,ge_iff_le,and_assoc,SV]
theorem IT{s i n b a}(h:(D8 s i n b a).2≠0):∃c,BD s i a (n-1)=some c∧b≤c∧c≤1114111∧(c<55296∨57344≤c)∧D8 s i n b a=(c,n)∧i+n≤s.size:=by
 unfold D8 at h⊢;split at h
 ·exact dC rfl h
 ·rename_i f;rw [cT f];split at h
  ·exact dC rfl h
  ·rename_i c e;split at h
   ·exact dC rfl h
   ·rename_i d;exact ⟨c,e,by omega,by omega,by omega,by simp only [cT d],by omega⟩
theorem LL{s i a c}(h:BD s i a 1=some c):128≤bt s (i+1)∧bt s (i+1)≤191∧c=a*64+(bt s (i+1)-128):=by obtain ⟨g,b,d,e,f⟩:=FM (m:=0) h;simp only [BD,bA] at b;subst b;exact ⟨d,e,by rw [f];simp only [bK];simp only [bK] at d;omega⟩
theorem LM{s i a c}(h:BD s i a 2=some c):128≤bt s (i+1)∧bt s (i+1)≤191∧128≤bt s (i+2)∧bt s (i+2)≤191∧c=(a*64+(bt s (i+1)-128))*64+(bt s (i+2)-128):=by obtain ⟨l,d,b,e,f⟩:=FM (m:=1) h;obtain ⟨g,j,k⟩:=LL d;exact ⟨g,j,b,e,by rw [f,k];simp only [Nat.add_assoc,Nat.reduceAdd] at b⊢;omega⟩
theorem Nm{s i a c}(h:BD s i a 3=some c):128≤bt s (i+1)∧bt s (i+1)≤191∧128≤bt s (i+2)∧bt s (i+2)≤191∧128≤bt s (i+3)∧bt s (i+3)≤191∧c=((a*64+(bt s (i+1)-128))*64+(bt s (i+2)-128))*64+(bt s (i+3)-128):=by obtain ⟨o,d,b,e,f⟩:=FM (m:=2) h;obtain ⟨g,j,k,l,n⟩:=LM d;exact ⟨g,j,k,l,b,e,by rw [f,n];simp only [Nat.add_assoc,Nat.reduceAdd] at b⊢;omega⟩
theorem Kk{s i a}(b:128≤bt s (i+1)∧bt s (i+1)≤191):BD s i a 1=some (a*64+(bt s (i+1)-128)):=by rw [D9 (m:=0) (c:=a) rfl b.1 b.2];simp only [bK];exact congrArg some (by omega)
theorem Hp{s i a}(c:128≤bt s (i+1)∧bt s (i+1)≤191)(b:128≤bt s (i+2)∧bt s (i+2)≤191):BD s i a 2=some ((a*64+(bt s (i+1)-128))*64+(bt s (i+2)-128)):=by rw [D9 (m:=1) (Kk c) b.1 b.2];simp only [Nat.add_assoc,Nat.reduceAdd];exact congrArg some (by omega)
theorem MG{s i a}(c:128≤bt s (i+1)∧bt s (i+1)≤191)(d:128≤bt s (i+2)∧bt s (i+2)≤191)(b:128≤bt s (i+3)∧bt s (i+3)≤191):BD s i a 3=some (((a*64+(bt s (i+1)-128))*64+(bt s (i+2)-128))*64+(bt s (i+3)-128)):=by rw [D9 (m:=2) (Hp c d) b.1 b.2];simp only [Nat.add_assoc,Nat.reduceAdd];exact congrArg some (by omega)
theorem Ha{s p}(h:p+3≤s.size):((s.extract p (p+3)).toList=[239,191,189])↔(bt s p=239∧bt s (p+1)=191∧bt s (p+2)=189):=by
 have j:s.data.size=s.size:=rfl;have d:=El s p (by omega);have f:=El s (p+1) (by omega);have g:=El s (p+2) (by omega);have e:(s.extract p (p+3)).toList=[s[p]'(by omega),s[p+1]'(by omega),s[p+2]'(by omega)]:=by
  rw [dG,dF];apply List.ext_getElem?;intro i;have q:∀k,(c:p+k<s.size)→s.data[p+k]? =some (s[p+k]'c):=fun k c=>Array.getElem?_eq_getElem (xs:=s.data) c
  have l:min (p+3) s.size-p=3:=by omega
  rcases i with _ | _ | _ | i
  ·have:=q 0 (by omega);simpa using this
  ·have:=q 1 (by omega);simpa using this
  ·have:=q 2 (by omega);simpa using this
  ·simp;omega
 rw [e,d,f,g];simp only [List.cons.injEq,and_true];have u:∀(a b:UInt8),a=b↔a.toNat=b.toNat:=fun a b=>⟨fun h=>by rw [h],fun h=>UInt8.toNat_inj.mp h⟩
 rw [u,u,u];rfl
theorem DH{s p}(a:(A8 s p).2≠0):Utf8.decode s p=A8 s p∧Dd s p (A8 s p).1=false:=by
 have u:=Nl s p;rw [IW];unfold A8 at a⊢;split at a
 ·rename_i h;simp only [cU h];exact ⟨trivial,Ka s p _ (by omega)⟩
 rename_i h;simp only [cT h];split at a
 ·rename_i f;simp only [cU f];obtain ⟨c,b,l,m,n,d,e⟩:=IT a;obtain ⟨i,j,k⟩:=LL b;rw [d,cU (by omega),cU (by omega)];exact ⟨by simp only [cI,and_true];omega,Ka s p _ (by simp only;omega)⟩
 rename_i f;simp only [cT f];split at a
 ·rename_i g;simp only [cU g];obtain ⟨c,b,l,m,n,d,e⟩:=IT a;obtain ⟨i,j,k,r,t⟩:=LM b;rw [d,cT (by omega),cU (by omega),cU (by omega)];refine ⟨by simp only [cI,and_true];omega,?_⟩;simp only;unfold Dd;by_cases q:c=65533
  ·have:=(Ha e).2 (by omega);simp [this,e]
  ·simp [q]
 rename_i g;simp only [cT g];split at a
 ·rename_i o;simp only [cU o];obtain ⟨c,b,l,m,n,d,e⟩:=IT a;obtain ⟨i,j,k,r,t,v,w⟩:=Nm b;rw [d,cT (by omega),cT (by omega),cU (by omega),cU (by omega)];refine ⟨by simp only [cI,and_true];omega,?_⟩;simp only;have:(c==65533)=false:=by simp;omega
  simp [Dd,this]
 ·exact dC rfl a
theorem Kn{s p}(f:(A8 s p).2=0):Dd s p (Utf8.decode s p).1=true∧Utf8.decode s p=(65533,1):=by
 have x:=Nl s p;have u:=fun h=>MC s (p+1) h
 have v:=fun h=>MC s (p+2) h
 have w:=fun h=>MC s (p+3) h
 have d:∀n i e c,BD s p e (n-1)=some c→n≠0→p+n≤s.size→A8 s p=D8 s p n i e→¬(c<i∨1114111<c∨(55296≤c∧c<57344))→False:=by intro n i e c m o q r t;rw [r,JO q m t] at f;exact o f
 have j:Utf8.decode s p=(65533,1):=by
  rw [IW];have b:¬bt s p<128:=fun h=>by simp [A8,h] at f
  rw [cT b];split
  ·rename_i h;split
   ·exfalso;refine d 2 128 (bt s p-192) _ (Kk h.2) (by decide) ?_ ?_ ?_
    ·by_cases a:p+2≤s.size
     ·exact a
     ·have:=u (by omega);omega
    ·unfold A8;rw [cT b,cU (by omega)]
    ·omega
   ·rfl
  ·split
   ·rename_i _ h;split
    ·exfalso;refine d 3 2048 (bt s p-224) _ (Hp h.2.1 h.2.2) (by decide) ?_ ?_ ?_
     ·by_cases a:p+3≤s.size
      ·exact a
      ·have:=v (by omega);omega
     ·unfold A8;rw [cT b,cT (by omega),cU (by omega)]
     ·omega
    ·rfl
   ·split
    ·rename_i _ h;split
     ·exfalso;refine d 4 65536 (bt s p-240) _ (MG h.2.1 h.2.2.1 h.2.2.2) (by decide) ?_ ?_ ?_
      ·by_cases a:p+4≤s.size
       ·exact a
       ·have:=w (by omega);omega
      ·unfold A8;rw [cT b,cT (by omega),cT (by omega),cU (by omega)]
      ·omega
     ·rfl
    ·rfl
 refine ⟨?_,j⟩;rw [j];unfold Dd;by_cases g:p+3≤s.size
 ·by_cases l:(s.extract p (p+3)).toList=[239,191,189]
  ·exfalso;have k:=(Ha g).1 l;refine d 3 2048 (bt s p-224) _ (Hp (by omega) (by omega)) (by decide) g ?_ ?_
   ·unfold A8;rw [cT (by omega),cT (by omega),cU (by omega)]
   ·omega
  ·simp [l]
 ·simp [g]
theorem Ed{a b}(h:a=b):Ending.returned (.bool a)=.returned (.bool b):=by rw [h]
theorem U0{k a b}(h:a=b):Ending.returned (.int k a)=.returned (.int k b):=by rw [h]
theorem Ir(r:Nat)(w:World):
 Calls Tryz.prog 74 #[.int .i32 r] w fun e b=>e=.returned (.bool (Ja r))∧b=w:=by
 by_cases h:(r:Int)=247
 ·have a:r=247:=by omega
  subst a;go_enter Tryz.func74,Tryz.ntmps74;go_wp2;go_ret;exact ⟨rfl,rfl⟩
 ·have a:(((r:Nat):Int)==247)=false:=by simpa using h
  go_enter Tryz.func74,Tryz.ntmps74;go_wp2;all_goals
   go_ret;exact ⟨Ed (by rw [Bool.eq_iff_iff];simp [Ja];omega),rfl⟩
theorem Py{r}(a:r≠48)(h:r≠49)(i:r≠50)(j:r≠51)(k:r≠40)(l:r≠41)(m:r≠123)(n:r≠125)(o:r≠59)(b:r≠61)(c:r≠38)(d:r≠42)(e:r≠64)(f:r≠46)(g:r≠63):BI r=0:=by simp [BI, *]
theorem Ix(r:Nat)(w:World):
 Calls Tryz.prog 97 #[.int .i32 r] w fun e d=>e=.returned (.tuple #[.int .i64 (BI r),.bool (BI r !=0)])∧d=w:=by
 generalize b:BI r=m;have c:dJ (BI r=m):=b;clear b;go_enter Tryz.func97,Tryz.ntmps97;go_wp2;all_goals
  go_ret2;refine ⟨?_,rfl⟩;have b:=c.o;simp only [beq_iff_eq,cN,ne_eq] at*;first
   | (have a:r=48:=by omega
      subst a;subst b;rfl)
   | (have a:r=49:=by omega
      subst a;subst b;rfl)
   | (have a:r=50:=by omega
      subst a;subst b;rfl)
   | (have a:r=51:=by omega
      subst a;subst b;rfl)
   | (have a:r=40:=by omega
      subst a;subst b;rfl)
   | (have a:r=41:=by omega
      subst a;subst b;rfl)
   | (have a:r=123:=by omega
      subst a;subst b;rfl)
   | (have a:r=125:=by omega
      subst a;subst b;rfl)
   | (have a:r=59:=by omega
      subst a;subst b;rfl)
   | (have a:r=61:=by omega
      subst a;subst b;rfl)
   | (have a:r=38:=by omega
      subst a;subst b;rfl)
   | (have a:r=42:=by omega
      subst a;subst b;rfl)
   | (have a:r=64:=by omega
      subst a;subst b;rfl)
   | (have a:r=46:=by omega
      subst a;subst b;rfl)
   | (have a:r=63:=by omega
      subst a;subst b;rfl)
   | (have e:m=0:=by rw [←b];exact Py (by omega) (by omega) (by omega) (by omega) (by omega) (by omega) (by omega) (by omega) (by omega) (by omega) (by omega) (by omega) (by omega) (by omega) (by omega)
      subst e;rfl)
theorem M5(s w):
 Calls Tryz.prog 77 #[.string s] w fun e a=>e=.returned (.int .i64 (DX s.toList))∧a=w:=by
 go_enter Tryz.func77,Tryz.ntmps77;go_wp2;all_goals
  go_ret;refine ⟨U0 ?_,rfl⟩;first
   | (simp [DX, *];done)
   | (simp_all [DX];done)
structure Ab(X:Nat→Prop)(w w':World):Prop where
 os:w'.os=w.os
 tape:w'.tape=w.tape
 output:w'.output=w.output
 size:w.heap.size≤w'.heap.size
 block:∀k,k<w.heap.size→¬X k→w'.heap[k]? =w.heap[k]?
theorem Ab.refl(X:Nat→Prop)(w):Ab X w w:=⟨rfl,rfl,rfl,aV _,fun _ _ _=>rfl⟩
theorem Ab.trans{X:Nat→Prop}{a b c:World}(h:Ab X a b)(k:Ab X b c):Ab X a c:=
 ⟨k.os.trans h.os,k.tape.trans h.tape,k.output.trans h.output,bJ h.size k.size,fun i d e=>(k.block i (bL d h.size) e).trans (h.block i d e)⟩
theorem Ab.mono{X Y:Nat→Prop}{a b}(h:Ab X a b)(d:∀k,k<a.heap.size→X k→Y k):Ab Y a b:=
 ⟨h.os,h.tape,h.output,h.size,fun k c e=>h.block k c (fun q=>e (d k c q))⟩
theorem Ab.drew{X:Nat→Prop}{a w}(h:Ab X a w):Ab X a w.drew:=⟨h.os,h.tape,h.output,h.size,h.block⟩
theorem Ab.drewN{X:Nat→Prop}{a w}(h:Ab X a w)(n):Ab X a (w.drewN n):=h.trans ⟨rfl,rfl,rfl,aV _,fun _ _ _=>rfl⟩
theorem Ab.alloc{X:Nat→Prop}{a w}(h:Ab X a w)(o):Ab X a (w.alloc o):=
 h.trans ⟨rfl,rfl,rfl,by simp,fun k b _=>bF _ _ _ b⟩
theorem Ab.setCell{X:Nat→Prop}{a w}(h:Ab X a w){p}(b:X p.block∨a.heap.size≤p.block)(u):Ab X a (w.setCell p u):=by
 refine ⟨h.os,h.tape,h.output,by have:=h.size;simpa [World.setCell] using this,fun k d c=>?_⟩;rw [Below.heap_setCell _ _ _ _ ?_]
 ·exact h.block k d c
 ·intro e;subst e;rcases b with b | b
  ·exact c b
  ·omega
theorem Ab.p7{b a w}(h:Ab (fun k=>k=b) a w)(i u):Ab (fun k=>k=b) a (w.setCell ⟨b,i,none⟩ u):=h.setCell (.inl rfl) u
theorem Ab.Yc{X:Nat→Prop}{b a w}(h:Ab X a w)(i u)(c:a.heap.size≤b):Ab X a (w.setCell ⟨b,i,none⟩ u):=h.setCell (.inr c) u
theorem Ab.below{X:Nat→Prop}{a b}(h:Ab X a b)(d:∀k,X k→a.heap.size≤k):Below a.heap.size a b:=
 ⟨h.os,h.tape,h.output,h.size,fun k c=>h.block k c (fun q=>by have:=d k q;omega)⟩
theorem Ab.Yv{X:Nat→Prop}{B a b}(h:Ab X a b)(d:B≤a.heap.size)(c:∀k,X k→B≤k):Below B a b:=
 ⟨h.os,h.tape,h.output,h.size,fun k e=>h.block k (by omega) (fun q=>by have:=c k q;omega)⟩
theorem Ab.grown{X:Nat→Prop}{a w g f}(h:Ab X a w)(b:w.grownBy g f)(i:∀k,f=some k→X k∨a.heap.size≤k):Ab X a g:=by
 refine ⟨b.os.trans h.os,b.tape.trans h.tape,b.output.trans h.output,bJ h.size b.size,fun k c d=>?_⟩;rw [b.block k (bL c h.size) ?_]
 ·exact h.block k c d
 ·intro e;rcases i k e.symm with q | q
  ·exact d q
  ·omega
theorem Ao{w:World}{b:Nat}{a:Array Value}{t:TypeId}{c:Nat×Nat}(h:w.heap[b]? =some (.cells a t c))(i:Nat):w.cell? ⟨b,i,none⟩=a[i]? :=by simp [World.cell?,h]
theorem Aw{w:World}{b:Nat}{a:Array Value}{t:TypeId}(h:w.heap[b]? =some (.cells a t (0,0)))(i:Nat):w.frozen? ⟨b,i,none⟩=false:=by simp [World.frozen?,h]
theorem Ae{w:World}{b:Nat}{o:Obj}(h:w.heap[b]? =some o):b<w.heap.size:=(Array.getElem?_eq_some_iff.1 h).1
theorem Fg{w:World}{b:Nat}{a:Array Value}{t:TypeId}{c:Nat×Nat}(h:w.heap[b]? =some (.cells a t c))(i:Nat)(u:Value):(w.setCell ⟨b,i,none⟩ u).heap[b]? =some (.cells (a.setIfInBounds i u) t c):=by simp [World.setCell,Array.getElem?_modify,h]
theorem Ac{w d B e c v n f}{X:Nat→Prop}(h:w.ownsRow B e c v n f)(o:Ab X w d)(p:∀k,v.ownBlock=some k→¬X k):d.ownsRow B e c v n f:=by
 refine ⟨h.1,?_⟩;rcases h.2 with l | ⟨g,i,j,b,m,a,r⟩
 ·exact .inl l
 ·refine .inr ⟨g,i,j,b,m,?_,r⟩;rw [o.block g (Ae a) (p g (by rw [b];rfl))];exact a
def Ar(b:Nat)(a:Array Value)(t:TypeId)(w:World):Prop:=w.heap[b]? =some (.cells a t (0,0))
theorem Ar.f8{b a t}{X:Nat→Prop}{w w'}(h:Ar b a t w)(c:Ab X w w')(d:¬X b):Ar b a t w':=by unfold Ar at h⊢;rw [c.block b (Ae h) d];exact h
theorem Ar.set{b a t w}(h:Ar b a t w)(i u):Ar b (a.setIfInBounds i u) t (w.setCell ⟨b,i,none⟩ u):=Fg h i u
theorem Ar.Yt{b c a t w}(h:Ar b a t w)(i u)(d:b≠c):Ar b a t (w.setCell ⟨c,i,none⟩ u):=by unfold Ar at h⊢;rw [Below.heap_setCell _ _ _ _ d];exact h
theorem Ar.alloc{b a t w}(h:Ar b a t w)(o):Ar b a t (w.alloc o):=by have:=Ae h;unfold Ar at h⊢;rw [bF _ _ _ this];exact h
theorem Ar.new(w:World)(a:Array Value)(t:TypeId):Ar w.heap.size a t (w.alloc (.cells a t)):=heap_alloc_new w _
theorem Ar.cell{b a t w}(h:Ar b a t w)(i):w.cell? ⟨b,i,none⟩=a[i]? :=Ao h i
theorem Ar.frozen{b a t w}(h:Ar b a t w)(i):w.frozen? ⟨b,i,none⟩=false:=Aw h i
theorem Ar.ne{a b:Nat}{c d:Array Value}{t u:TypeId}{w:World}(h:Ar a c t w)(k:Ar b d u w)(e:t≠u):a≠b:=by rintro rfl;unfold Ar at h k;rw [h] at k;simp only [bA,bH] at k;exact e k.2.1
theorem Ad{w:World}{B:Nat}{e:TypeId}{f:Nat}{v:Value}{n:Nat}{i:List Value}(h:w.ownsRow B e f v n i):∃a l c,v=.slice a l c:=by
 rcases h.2 with ⟨b,_⟩ | ⟨g,j,k,d,_⟩
 ·exact ⟨_,_,_,b⟩
 ·exact ⟨_,_,_,d⟩
theorem Ax{w:World}{B B':Nat}{e:TypeId}{a:Nat}{v:Value}{n:Nat}{b:List Value}(h:w.ownsRow B e a v n b)(i:B'≤B):w.ownsRow B' e a v n b:=by
 refine ⟨h.1,?_⟩;rcases h.2 with f | ⟨g,c,d,k,j,r⟩
 ·exact .inl f
 ·exact .inr ⟨g,c,d,k,bJ i j,r⟩
theorem Aa{p}(h:p):dJ p:=h
theorem Ab.tr{b c a w d}(h:Ab (fun k=>k=b∨k=c) a w)(k:Ab (fun k=>k=b) w d):Ab (fun k=>k=b∨k=c) a d:=h.trans (k.mono (fun _ _ q=>.inl q))
theorem Ab.YF{X:Nat→Prop}{a w b}(h:Ab X a w)(k:Ab (fun _=>False) w b):Ab X a b:=h.trans (k.mono (fun _ _ q=>q.elim))
theorem Am{w c B e b v n d}{X:Nat→Prop}(h:w.ownsRow B e b v n d)(p:Ab X w c)(t:∀k i l,X k→w.heap[k]? ≠some (.cells i e l)):c.ownsRow B e b v n d:=by
 refine ⟨h.1,?_⟩;rcases h.2 with m | ⟨g,f,j,s,o,a,r⟩
 ·exact .inl m
 ·refine .inr ⟨g,f,j,s,o,?_,r⟩;rw [p.block g (Ae a) (fun q=>t g _ _ q a)];exact a
theorem Ic{P:Program}{w:World}(F:Nat)(t l e:TypeId)(i:TypeInfo)(z:Value)(x:P.underlying t=some (.slice e))(p:P.info? e=some i)(D:i.zero=some z)
 (v:Value)(n:Nat)(y:List Value)(r:w.ownsRow F e i.size v n y)
 (a:Addr)(m c:Nat)(d:List Value)(h:d.length=m*i.size)(q:∀j u,d[j]? =some u→w.cell? (a.add j)=some u)(G:∀u∈d,u.oneCell'=true)
 (L:0<m)(H:n+m≤maxLen)(B:(n+m)*i.bytes≤140737488355328){E:Value}{N:World}(s:(Builtin.append_ #[t,t] l #[v,.slice (some a) m c]).run P w=.ok E N):
 ∀k,E.ownBlock=some k→v.ownBlock=some k∨w.heap.size≤k:=by
 intro k f;have O:n+m≤9223372036854775807:=by simp only [maxLen] at H;omega
 rcases r.2 with ⟨rfl,rfl⟩ | ⟨g,o,A,rfl,_,K,R,Q,I,S⟩
 ·have b:=run_append_nil (P:=P) w t l e i z x p D a m c d h q L (by omega) (by simp only [cB] at B;omega);rw [s] at b;simp only [Result.ok.injEq] at b;rw [b.1] at f;simp [Value.ownBlock] at f;exact .inr (by omega)
 ·by_cases C:n+m≤o
  ·have J:n*i.size+d.length≤A.size:=by rw [h,I,←Nat.add_mul];exact Nat.mul_le_mul_right _ C
   have b:=run_append_room (P:=P) w t l e i x p g n o A K a m c d h q G C J;rw [s] at b;simp only [Result.ok.injEq] at b;rw [b.1] at f;exact .inl (by simpa [Value.ownBlock] using f)
  ·have M:∀j u,y[j]? =some u→w.cell? ((⟨g,0,none⟩:Addr).add j)=some u:=r.cells (g:=g) rfl;have b:=run_append_grow (P:=P) w t l e i z x p D ⟨g,0,none⟩ n o y r.1 M a m c d h q (by omega) (by omega) (growslice_fits (by omega) B);rw [s] at b;simp only [Result.ok.injEq] at b;rw [b.1] at f;simp [Value.ownBlock] at f;exact .inr (by omega)
theorem Ay{P:Program}{M:Array Oper}{o:Oper}{a:Act}{w:World}{K:Act→World→Prop}{Q:Exit→Act→World→Prop}{E:Prop}
 (T:o.guard=none)(s x:Operand)(t:TypeId)(V:o.op=Op.call {callee:=Callee.builtin Builtin.append,args:=#[s,x],argTypes:=#[t,t]})
 (g:Nat)(e:TypeId)(i:TypeInfo)(z:Value)(b q:Nat)(A:P.underlying t=some (.slice e))(C:P.info? e=some i)(D:i.zero=some z)(F:i.size=b)(G:i.bytes=q)(N:z.cells.size=b)(O:0<b)
 (v:Value)(n:Nat)(p:List Value)(W:a.eval s=v)(J:w.ownsRow g e b v n p)
 (l:Addr)(m c:Nat)(d:List Value)(Y:a.eval x=.slice (some l) m c)(I:d.length=m*b)(H:∀j u,d[j]? =some u→w.cell? (l.add j)=some u)(B:∀u∈d,u.oneCell'=true)
 (U:0<m)(r:n+m≤maxLen)(y:(n+m)*q≤140737488355328)(S:g≤w.heap.size)
 (R:∀f h,h.ownsRow g e b f (n+m) (p++d)→w.grownBy h v.ownBlock→(∀k,f.ownBlock=some k→v.ownBlock=some k∨w.heap.size≤k)→K (a.put o.dst f) h):
 if Region.wanted o (yielded M a.tmps)=true then Oper.wp P o a w K Q else E:=by
 have X:Region.wanted o (yielded M a.tmps)=true:=by simp [Region.wanted,T]
 rw [cU X];obtain ⟨f,h,L,Z,r2,_⟩:=run_append_own (P:=P) w g t o.type e i z b q A C D F G N O v n p J l m c d I H B r y S;have r3:∀k,f.ownBlock=some k→v.ownBlock=some k∨w.heap.size≤k:=by subst F;subst G;exact Ic g t o.type e i z A C D v n p J l m c d I H B U r y L
 unfold Oper.wp;simp [execOp,V,resolve,invoke,builtin,W,Y,L,Result.andThen];exact R f h Z r2 r3
theorem AN{w:World}{g:Nat}(e:g=w.heap.size)(a:Array Value)(t:TypeId):∀j u,a.toList[j]? =some u→(w.alloc (.cells a t)).cell? ((⟨g,0,none⟩:Addr).add j)=some u:=by
 intro j u h;subst e;have d:=(Ar.new w a t).cell j;have c:(⟨w.heap.size,0,none⟩:Addr).add j=⟨w.heap.size,j,none⟩:=by
  simp only [Addr.add];split
  ·rename_i b;subst b;rfl
  ·simp
 rw [c,d];simpa using h
theorem Ap{w:World}{B:Nat}{e:TypeId}{m:Nat}{v:Value}{n:Nat}{o:List Value}(h:w.ownsRow B e m v n o){b:Nat}{d:Array Value}{t:TypeId}{f:Nat×Nat}(i:w.heap[b]? =some (.cells d t f))(j:t≠e):∀k,v.ownBlock=some k→k≠b:=by
 intro k a e;subst e;rcases h.2 with ⟨g,_⟩ | ⟨r,p,q,l,_,c,_⟩
 ·rw [g] at a;simp [Value.ownBlock] at a
 ·rw [l] at a;simp [Value.ownBlock] at a;subst a;rw [i] at c;simp only [bA,bH] at c;exact j c.2.1
theorem Ah{w:World}{B:Nat}{e:TypeId}{d:Nat}{a:Option Addr}{l c n:Nat}{f:List Value}(h:w.ownsRow B e d (.slice a l c) n f):l=n:=by
 rcases h.2 with ⟨b,g⟩ | ⟨_,_,_,b,_⟩
 ·simp at b;omega
 ·simp at b;omega
theorem As{w:World}{B:Nat}{e:TypeId}{f:Nat}{a:Option Addr}{l c n:Nat}{g:List Value}(h:w.ownsRow B e f (.slice a l c) n g)(j:0<n):∃b,a=some ⟨b,0,none⟩:=by
 rcases h.2 with ⟨_,i⟩ | ⟨b,_,_,d,_⟩
 ·omega
 ·simp only [Value.slice.injEq] at d;exact ⟨b,d.1⟩
theorem BO{w:World}{B:Nat}{e:TypeId}{g:Nat}{d l c n:Nat}{i:List Value}(h:w.ownsRow B e g (.slice (some ⟨d,0,none⟩) l c) n i):∃b,w.heap[d]? =some (.cells b e (0,0)):=by
 rcases h.2 with ⟨a,_⟩ | ⟨j,_,b,a,_,f,_⟩
 ·simp at a
 ·simp only [Value.slice.injEq,bA,Addr.mk.injEq] at a;rw [a.1.1];exact ⟨b,f⟩
theorem Tryz.infoInt:(Tryz.prog.info? 3).map (fun i=>(i.zero,i.size,i.bytes))=some (some (.int .i64 0),1,8):=by kernel_rfl
theorem Df{P}(w){M N o a}{Q:Exit→Act→World→Prop}(S:o.guard=none)(s x t)
 (U:o.op=.call {callee:=.builtin .append,args:=#[s,x],argTypes:=#[t,t]})
 (g e i z b r)(J:P.underlying t=some (.slice e))(D:P.info? e=some i)(L:i.zero=some z)
 (I:i.size=b)(B:i.bytes=r)(Y:z.cells.size=b)(W:0<b)
 (v n q)(V:a.eval s=v)(G:w.ownsRow g e b v n q)
 (p m c d)(X:a.eval x=.slice (some p) m c)(E:d.length=m*b)(F:∀j u,d[j]? =some u→w.cell? (p.add j)=some u)(y:∀u∈d,u.oneCell'=true)
 (T:0<m)(A:n+m≤maxLen)(C:(n+m)*r≤140737488355328)(R:g≤w.heap.size)
 (h:∀f l,l.ownsRow g e b f (n+m) (q++d)→w.grownBy l v.ownBlock→(∀k,f.ownBlock=some k→v.ownBlock=some k∨w.heap.size≤k)→wpList P M Q N (a.put o.dst f) l):wpList P M Q (o::N) a w:=
 wpList_plain S fun K O=>by
  obtain ⟨f,l,H,Z,r2,_⟩:=run_append_own (P:=P) w g t o.type e i z b r J D L I B Y W v n q G p m c d E F y A C R;have r3:∀k,f.ownBlock=some k→v.ownBlock=some k∨w.heap.size≤k:=by subst I;subst B;exact Ic g t o.type e i z J D L v n q G p m c d E F y T A C H
  unfold Oper.wp;simp [execOp,U,resolve,invoke,builtin,V,X,H,Result.andThen];exact O _ _ (h f l Z r2 r3)
theorem CR{w b d t e}(h:Ar b d t w)(g:t≠e):∀k a c,k=b→w.heap[k]? ≠some (.cells a e c):=by intro k a c f q;subst f;unfold Ar at h;rw [h] at q;simp only [bA,bH] at q;exact g q.2.1
theorem GS{w:World}{B:Nat}{t e:TypeId}{j:Nat}{v:Value}{n:Nat}{l:List Value}(h:w.ownsRow B t j v n l)(g:t≠e):∀k b c,v.ownBlock=some k→w.heap[k]? ≠some (.cells b e c):=by
 intro k b c a q;rcases h.2 with ⟨d,_⟩ | ⟨p,m,o,i,_,f,_⟩
 ·rw [d] at a;simp [Value.ownBlock] at a
 ·rw [i] at a;simp [Value.ownBlock] at a;subst a;rw [f] at q;simp only [bA,bH] at q;exact g q.2.1
theorem IA{w:World}{B a:Nat}{t e:TypeId}{j l n m:Nat}{v u:Value}{o p:List Value}(h:w.ownsRow B t j v n o)(b:w.ownsRow a e l u m p)(g:t≠e):∀k,v.ownBlock=some k→¬u.ownBlock=some k:=by
 intro k f q;rcases b.2 with ⟨c,_⟩ | ⟨x,r,s,i,_,d,_⟩
 ·rw [c] at q;simp [Value.ownBlock] at q
 ·rw [i] at q;simp [Value.ownBlock] at q;subst q;exact GS h g _ _ _ f d
def Gk(R:Act→World→Prop):Exit→Act→World→Prop
 | .normal,a,w=>R a w
 | _,_,_=>False
theorem Cj{P c}{Q:Exit→Act→World→Prop}{a w}(h:Code.wp P c (Gk (fun a w=>Q .normal a w)) a w):Code.wp P c Q a w:=
 Code.wp_mono (fun e a w h=>by cases e<;>first | exact h | exact h.elim) h
def VY(s p:ByteArray):Bool:=decide (p.size≤s.size) && ((s.extract 0 p.size).toList==p.toList)
theorem Kv(s p:ByteArray)(_hs:s.size≤4001)(_hp:p.size≤4001)(w:World):
 Calls Tryz.prog 117 #[.string s,.string p] w fun e d=>e=.returned (.bool (VY s p))∧d=w:=by
 generalize c:VY s p=v;have a:dJ (VY s p=v):=c;clear c;by_cases h:p.size≤s.size
 ·cases b:((s.extract 0 p.size).toList==p.toList) with
  | true=> go_enter Tryz.func117,Tryz.ntmps117;go_wp2;go_ret;exact ⟨Ed (by rw [←a.o];simp only [VY,b];simp [h]),rfl⟩
  | false=> go_enter Tryz.func117,Tryz.ntmps117;go_wp2;go_ret;exact ⟨Ed (by rw [←a.o];simp only [VY,b];simp),rfl⟩
 ·have f:s.size<p.size:=by omega
  go_enter Tryz.func117,Tryz.ntmps117;go_wp2;go_ret;exact ⟨Ed (by rw [←a.o];simp [VY,h]),rfl⟩
theorem Ly(s p)(d:s.size≤4001)(c:p.size≤4001)(w):
 Calls Tryz.prog 96 #[.string s,.string p] w fun e b=>e=.returned (.bool (VY s p))∧b=w:=by
 go_enter Tryz.func96,Tryz.ntmps96;go_wp2_with (go_at_call 117;refine (Kv _ _ d c _).mono ?_;rintro e b ⟨rfl,a⟩;have a:=a.symm;subst a);go_ret;exact ⟨rfl,rfl⟩
theorem TY(s:ByteArray)(p:Nat)(f:p≤s.size):VY (s.extract p s.size) {data:=#[239,191,189]}=(decide (p+3≤s.size) && (s.extract p (p+3)).toList==[239,191,189]):=by
 have b:(s.extract p s.size).size=s.size-p:=by simp
 have c:ByteArray.size {data:=#[239,191,189]}=3:=rfl;have d:ByteArray.toList {data:=#[239,191,189]}=[239,191,189]:=by rw [dG]
 unfold VY;rw [b,c,d];by_cases h:p+3≤s.size
 ·have a:3≤s.size-p:=by omega
  have e:(s.extract p s.size).extract 0 3=s.extract p (p+3):=by rw [ByteArray.extract_extract];congr 1;omega
  rw [e];simp [h,a]
 ·have a:¬3≤s.size-p:=by omega
  simp [h,a]
theorem Er(s:ByteArray)(p r:Nat)(j:s.size≤4000)(i:p≤s.size)(w:World):
 Calls Tryz.prog 73 #[.string s,.int .i64 p,.int .i32 r] w fun e d=>e=.returned (.bool (Dd s p r))∧d=w:=by
 have f:=Aa (TY s p i);generalize c:Dd s p r=v;have b:dJ (Dd s p r=v):=c;clear c;by_cases h:r=65533
 ·have g:(((r:Nat):Int)==65533)=true:=by simp;omega
  go_enter Tryz.func73,Tryz.ntmps73;go_wp2_with (go_at_call 96;refine (Ly _ _ (by simp;omega) (by decide) _).mono ?_;rintro e d ⟨rfl,a⟩;have a:=a.symm;subst a);go_ret;exact ⟨Ed (by rw [←b.o,f.o];simp [Dd,h]),rfl⟩
 ·have g:(((r:Nat):Int)==65533)=false:=by simp;omega
  go_enter Tryz.func73,Tryz.ntmps73;go_wp2;go_ret;exact ⟨Ed (by rw [←b.o];simp [Dd,h]),rfl⟩
end Go.Proofs.YthppbgndiplgnaaGreatDoor

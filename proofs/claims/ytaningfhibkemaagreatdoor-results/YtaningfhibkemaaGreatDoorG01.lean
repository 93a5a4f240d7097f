/- Part of the proof: Plain. -/
import Derived.Test.YtaningfhibkemaaGreatDoorG00
import Derived.Below
namespace Go.Proofs.YtaningfhibkemaaGreatDoor
open Go.Proofs.Tryz
def bt(s:ByteArray)(i:Nat):Nat:=(s.data[i]?.getD 0).toNat
theorem Pd(s i):bt s i<256:=by unfold bt;exact UInt8.toNat_lt _
theorem EB(s i)(h:i<s.size):bt s i=(s[i]'h).toNat:=by unfold bt;have a:i<s.data.size:=h;rw[Array.getElem?_eq_getElem a];rfl
def BB(s:ByteArray)(i:Nat)(a:Nat):Nat->Option Nat
 |0=>some a
 |m+1=>match BB s i a m with
  |none=>none
  |some c=>if bt s (i+1+m)<128\/191<bt s (i+1+m)then none else some (c*64+bt s (i+1+m)-128)
theorem LA{s:ByteArray}{i a m:Nat}(h:BB s i a m=none):∀k,BB s i a (m+k)=none
 |0=>h
 |k+1=>by show BB s i a ((m+k)+1)=none;simp only[BB,LA h k]
theorem FI{s i a m n}(h:BB s i a m=none)(b:m<=n):BB s i a n=none:=by have:=LA h (n-m);rwa [show m+(n-m)=n from Z]at this
theorem JV{s i a m c}(h:BB s i a m=some c)(b:bt s (i+1+m)<128\/191<bt s (i+1+m)):BB s i a (m+1)=none:=by simp only[BB,h,jH b]
theorem El{s i a m c}(h:BB s i a m=some c)(b:128<=bt s (i+1+m))(d:bt s (i+1+m)<=191):BB s i a (m+1)=some (c*64+bt s (i+1+m)-128):=by simp only[BB,h];rw[jG Z]
theorem Gm{s i b m c}(h:BB s i b (m+1)=some c):∃a,BB s i b m=some a/\128<=bt s (i+1+m)/\bt s (i+1+m)<=191/\c=a*64+bt s (i+1+m)-128:=by
 simp only[BB]at h;split at h
 .cases h
 .rename_i a d;split at h
  .cases h
  .rename_i e;simp only[gN]at h;exact⟨a,d,Z,Z,h.symm⟩
theorem Nb{s:ByteArray}{i a:Nat}:∀{m c:Nat},BB s i a m=some c->c+1<=(a+1)*64 ^ m
 |0,c,h=>by simp only[BB,gN]at h;simp[h]
 |m+1,c,h=>by obtain⟨b,d,f,g,j⟩:=Gm h;have e:=Nb d;have:(b+1)*64<=(a+1)*64 ^ m*64:=Nat.mul_le_mul_right 64 e;rw[Nat.pow_succ,<-Nat.mul_assoc];omega
def Lv:Nat:=8388607
theorem Lz{s i a m c}(f:a<=31)(e:m<=3)(h:BB s i a m=some c):c<=Lv:=by have g:=Nb h;have b:64 ^ m<=64 ^ 3:=Nat.pow_le_pow_right Z e;have d:(a+1)*64 ^ m<=32*64 ^ 3:=Nat.mul_le_mul Z b;unfold Lv;simp only[Nat.reducePow,Nat.reduceMul]at d;omega
def Ej(s:ByteArray)(i n b a:Nat):Nat×Nat:=
 if s.size<i+n then(0,0)else
 match BB s i a (n-1)with
 |none=>(0,0)
 |some c=>if c<b\/1114111<c\/(55296<=c/\c<57344)then(0,0)else(c,n)
theorem Iy{s i n b a}(h:s.size<i+n):Ej s i n b a=(0,0):=by simp only[Ej,jH h]
theorem JT{s i n b a}(h:BB s i a (n-1)=none):Ej s i n b a=(0,0):=by simp only[Ej,h];split<;>rfl
theorem Lu{s i n b a c}(h:BB s i a (n-1)=some c)(d:c<b\/1114111<c\/(55296<=c/\c<57344)):Ej s i n b a=(0,0):=by simp only[Ej,h,jH d];split<;>rfl
theorem KY{s i n b a c}(e:i+n<=s.size)(h:BB s i a (n-1)=some c)(d:¬(c<b\/1114111<c\/(55296<=c/\c<57344))):Ej s i n b a=(c,n):=by simp only[Ej,h];rw[jG Z,jG d]
def A6(s:ByteArray)(i:Nat):Nat×Nat:=
 if bt s i<128 then(bt s i,1)
 else if 194<=bt s i/\bt s i<224 then Ej s i 2 128 (bt s i-192)
 else if 224<=bt s i/\bt s i<240 then Ej s i 3 2048 (bt s i-224)
 else if 240<=bt s i/\bt s i<245 then Ej s i 4 65536 (bt s i-240)
 else(0,0)
theorem Hg(s i n a b):Ej s i n a b=(0,0)\/∃c,Ej s i n a b=(c,n)/\i+n<=s.size/\a<=c/\c<=1114111:=by
 unfold Ej;split
 .exact .inl rfl
 .split
  .exact .inl rfl
  .split
   .exact .inl rfl
   .exact .inr ⟨_,rfl,Z,Z,Z⟩
theorem EY(s i)(a:i<s.size):i+(A6 s i).2<=s.size/\(A6 s i).2<=4/\(A6 s i).1<=1114111:=by
 unfold A6;split
 .have:=Pd s i;simp only;omega
 .split
  .rcases Hg s i 2 128 (bt s i-192)with h|⟨c,h,_⟩<;>rw[h]<;>simp only<;>omega
  .split
   .rcases Hg s i 3 2048 (bt s i-224)with h|⟨c,h,_⟩<;>rw[h]<;>simp only<;>omega
   .split
    .rcases Hg s i 4 65536 (bt s i-240)with h|⟨c,h,_⟩<;>rw[h]<;>simp only<;>omega
    .simp only;omega

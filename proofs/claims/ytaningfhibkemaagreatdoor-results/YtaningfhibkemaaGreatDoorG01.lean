/- Part of the proof: Plain. -/
import Derived.Test.YtaningfhibkemaaGreatDoorG00
import Derived.Below
namespace Go.Proofs.YtaningfhibkemaaGreatDoor
open Go.Proofs.Tryz
open Option renaming none->Z,some->T
open Value renaming int->G,slice->Y
open IntKind renaming i64->A
def bt(s:ByteArray)(i:Nat):Nat:=(s.data[i]?.getD 0).toNat
theorem Pn(s i):bt s i<256:=by unfold bt;exact UInt8.toNat_lt _
theorem EM(s i)(h:i<s.size):bt s i=(s[i]'h).toNat:=by unfold bt;have a:i<s.data.size:=h;rw[Array.getElem?_eq_getElem a];rfl
def BJ(s:ByteArray)(i:Nat)(a:Nat):Nat->Option Nat
 |0=>T a
 |m+1=>match BJ s i a m with
  |none=>Z
  |some c=>if bt s (i+1+m)<128\/191<bt s (i+1+m)then Z else T (c*64+bt s (i+1+m)-128)
theorem LL{s:ByteArray}{i a m:Nat}(h:BJ s i a m=Z):∀k,BJ s i a (m+k)=Z
 |0=>h
 |k+1=>by show BJ s i a ((m+k)+1)=Z;simp only[BJ,LL h k]
theorem F7{s i a m n}(h:BJ s i a m=Z)(b:m<=n):BJ s i a n=Z:=by have:=LL h (n-m);rwa [show m+(n-m)=n from by omega]at this
theorem J7{s i a m c}(h:BJ s i a m=T c)(b:bt s (i+1+m)<128\/191<bt s (i+1+m)):BJ s i a (m+1)=Z:=by simp only[BJ,h,jR b]
theorem Eu{s i a m c}(h:BJ s i a m=T c)(b:128<=bt s (i+1+m))(d:bt s (i+1+m)<=191):BJ s i a (m+1)=T (c*64+bt s (i+1+m)-128):=by simp only[BJ,h];rw[jQ (by omega)]
theorem Gw{s i b m c}(h:BJ s i b (m+1)=T c):∃a,BJ s i b m=T a/\128<=bt s (i+1+m)/\bt s (i+1+m)<=191/\c=a*64+bt s (i+1+m)-128:=by
 simp only[BJ]at h;split at h
 .cases h
 .rename_i a d;split at h
  .cases h
  .rename_i e;simp only[gX]at h;exact⟨a,d,by omega,by omega,h.symm⟩
theorem Nl{s:ByteArray}{i a:Nat}:∀{m c:Nat},BJ s i a m=T c->c+1<=(a+1)*64 ^ m
 |0,c,h=>by simp only[BJ,gX]at h;simp[h]
 |m+1,c,h=>by obtain⟨b,d,f,g,j⟩:=Gw h;have e:=Nl d;have:(b+1)*64<=(a+1)*64 ^ m*64:=Nat.mul_le_mul_right 64 e;rw[Nat.pow_succ,<-Nat.mul_assoc];omega
def LG:Nat:=8388607
theorem LK{s i a m c}(f:a<=31)(e:m<=3)(h:BJ s i a m=T c):c<=LG:=by have g:=Nl h;have b:64 ^ m<=64 ^ 3:=Nat.pow_le_pow_right (by omega) e;have d:(a+1)*64 ^ m<=32*64 ^ 3:=Nat.mul_le_mul (by omega) b;unfold LG;simp only[Nat.reducePow,Nat.reduceMul]at d;omega
def Es(s:ByteArray)(i n b a:Nat):Nat×Nat:=
 if s.size<i+n then(0,0)else
 match BJ s i a (n-1)with
 |none=>(0,0)
 |some c=>if c<b\/1114111<c\/(55296<=c/\c<57344)then(0,0)else(c,n)
theorem II{s i n b a}(h:s.size<i+n):Es s i n b a=(0,0):=by simp only[Es,jR h]
theorem J5{s i n b a}(h:BJ s i a (n-1)=Z):Es s i n b a=(0,0):=by simp only[Es,h];split<;>rfl
theorem LF{s i n b a c}(h:BJ s i a (n-1)=T c)(d:c<b\/1114111<c\/(55296<=c/\c<57344)):Es s i n b a=(0,0):=by simp only[Es,h,jR d];split<;>rfl
theorem Lc{s i n b a c}(e:i+n<=s.size)(h:BJ s i a (n-1)=T c)(d:¬(c<b\/1114111<c\/(55296<=c/\c<57344))):Es s i n b a=(c,n):=by simp only[Es,h];rw[jQ (by omega),jQ d]
def A7(s:ByteArray)(i:Nat):Nat×Nat:=
 if bt s i<128 then(bt s i,1)
 else if 194<=bt s i/\bt s i<224 then Es s i 2 128 (bt s i-192)
 else if 224<=bt s i/\bt s i<240 then Es s i 3 2048 (bt s i-224)
 else if 240<=bt s i/\bt s i<245 then Es s i 4 65536 (bt s i-240)
 else(0,0)
theorem Hp(s i n a b):Es s i n a b=(0,0)\/∃c,Es s i n a b=(c,n)/\i+n<=s.size/\a<=c/\c<=1114111:=by
 unfold Es;split
 .exact .inl rfl
 .split
  .exact .inl rfl
  .split
   .exact .inl rfl
   .exact .inr ⟨_,rfl,by omega,by omega,by omega⟩
theorem Ff(s i)(a:i<s.size):i+(A7 s i).2<=s.size/\(A7 s i).2<=4/\(A7 s i).1<=1114111:=by
 unfold A7;split
 .have:=Pn s i;simp only;omega
 .split
  .rcases Hp s i 2 128 (bt s i-192)with h|⟨c,h,_⟩<;>rw[h]<;>simp only<;>omega
  .split
   .rcases Hp s i 3 2048 (bt s i-224)with h|⟨c,h,_⟩<;>rw[h]<;>simp only<;>omega
   .split
    .rcases Hp s i 4 65536 (bt s i-240)with h|⟨c,h,_⟩<;>rw[h]<;>simp only<;>omega
    .simp only;omega

/- One of the texts of the proof: Plain. -/
import Derived.Test.YtegmjgjkcdbmkaaGreatDoorS00
import Derived.Below
namespace Go.Proofs.YtegmjgjkcdbmkaaGreatDoor
def bt(s:ByteArray)(i:Nat):Nat:=(s.data[i]?.getD 0).toNat
theorem QW(s i):bt s i<256:=by unfold bt;exact UInt8.toNat_lt _
theorem Ps(s i)(h:i<s.size):bt s i=(s[i]'h).toNat:=by unfold bt;have a:i<s.data.size:=h;rw [Array.getElem?_eq_getElem a];rfl
def Dv(s:ByteArray)(i:Nat)(a:Nat):Nat→Option Nat
 | 0=>some a
 | m+1=>match Dv s i a m with
   | none=>none
   | some c=>if bt s (i+1+m)<128∨191<bt s (i+1+m) then none else some (c*64+bt s (i+1+m)-128)
theorem GU{s i a m c}(h:Dv s i a m=some c)(b:128≤bt s (i+1+m))(d:bt s (i+1+m)≤191):Dv s i a (m+1)=some (c*64+bt s (i+1+m)-128):=by simp only [Dv,h];rw [if_neg (by omega)]
theorem GW{s i b m c}(h:Dv s i b (m+1)=some c):∃a,Dv s i b m=some a∧128≤bt s (i+1+m)∧bt s (i+1+m)≤191∧c=a*64+bt s (i+1+m)-128:=by
 simp only [Dv] at h;split at h
 ·cases h
 ·rename_i a d;split at h
  ·cases h
  ·rename_i e;simp only [Option.some.injEq] at h;exact ⟨a,d,by omega,by omega,h.symm⟩
def JP(s:ByteArray)(i n b a:Nat):Nat×Nat:=
 if s.size<i+n then (0,0) else
 match Dv s i a (n-1) with
 | none=>(0,0)
 | some c=>if c<b∨1114111<c∨(55296≤c∧c<57344) then (0,0) else (c,n)
theorem WK{s i n b a c}(e:i+n≤s.size)(h:Dv s i a (n-1)=some c)(d:¬(c<b∨1114111<c∨(55296≤c∧c<57344))):JP s i n b a=(c,n):=by simp only [JP,h];rw [if_neg (by omega),if_neg d]
def BW(s:ByteArray)(i:Nat):Nat×Nat:=
 if bt s i<128 then (bt s i,1)
 else if 194≤bt s i∧bt s i<224 then JP s i 2 128 (bt s i-192)
 else if 224≤bt s i∧bt s i<240 then JP s i 3 2048 (bt s i-224)
 else if 240≤bt s i∧bt s i<245 then JP s i 4 65536 (bt s i-240)
 else (0,0)
theorem Gj(s i n a b):JP s i n a b=(0,0)∨∃c,JP s i n a b=(c,n)∧i+n≤s.size∧a≤c∧c≤1114111:=by
 unfold JP;split
 ·exact .inl rfl
 ·split
  ·exact .inl rfl
  ·split
   ·exact .inl rfl
   ·exact .inr ⟨_,rfl,by omega,by omega,by omega⟩
theorem FO(s i)(a:i<s.size):i+(BW s i).2≤s.size∧(BW s i).2≤4∧(BW s i).1≤1114111:=by
 unfold BW;split
 ·have:=QW s i;simp only;omega
 ·split
  ·rcases Gj s i 2 128 (bt s i-192) with h | ⟨c,h,_⟩<;>rw [h]<;>simp only<;>omega
  ·split
   ·rcases Gj s i 3 2048 (bt s i-224) with h | ⟨c,h,_⟩<;>rw [h]<;>simp only<;>omega
   ·split
    ·rcases Gj s i 4 65536 (bt s i-240) with h | ⟨c,h,_⟩<;>rw [h]<;>simp only<;>omega
    ·simp only;omega
end Go.Proofs.YtegmjgjkcdbmkaaGreatDoor

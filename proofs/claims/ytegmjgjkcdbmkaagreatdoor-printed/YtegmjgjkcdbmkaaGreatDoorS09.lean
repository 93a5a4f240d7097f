/- One of the texts of the proof: EqA EqB EqC EqD EqE EqF EqG. -/
import Derived.Test.YtegmjgjkcdbmkaaGreatDoorS05
namespace Go.Proofs.YtegmjgjkcdbmkaaGreatDoor
theorem YE(s k):(s.get! k).toNat=bt s k:=by unfold bt;congr 1;show s.data[k]! =_;rw [getElem!_def];cases s.data[k]? <;>rfl
theorem MA(s k)(h:s.size≤k):bt s k=0:=by
 unfold bt;have:s.data[k]? =none:=by simp;exact h
 rw [this];rfl
theorem Ks(s p k):((decide (p+k<s.size) && (bt s (p+k) / 64==2))=true)↔(128≤bt s (p+k)∧bt s (p+k)≤191):=by
 have b:=QW s (p+k);simp only [Bool.and_eq_true,decide_eq_true_eq,beq_iff_eq];constructor
 ·rintro ⟨_,h⟩;omega
 ·intro h;refine ⟨?_,by omega⟩;by_cases a:p+k<s.size
  ·exact a
  ·have:=MA s (p+k) (by omega);omega
theorem TY(c:Nat):Utf8.valid (c:Int)=true↔(c<55296∨(57344≤c∧c≤1114111)):=by unfold Utf8.valid;simp only [Bool.or_eq_true,Bool.and_eq_true,decide_eq_true_eq];omega
theorem IW(s p):Utf8.decode s p=
 (if bt s p<128 then (bt s p,1)
  else if bt s p / 32=6∧(128≤bt s (p+1)∧bt s (p+1)≤191) then
   (if 128≤bt s p % 32*64+bt s (p+1) % 64 then (bt s p % 32*64+bt s (p+1) % 64,2) else (65533,1))
  else if bt s p / 16=14∧(128≤bt s (p+1)∧bt s (p+1)≤191)∧(128≤bt s (p+2)∧bt s (p+2)≤191) then
   (if 2048≤bt s p % 16*4096+bt s (p+1) % 64*64+bt s (p+2) % 64∧(bt s p % 16*4096+bt s (p+1) % 64*64+bt s (p+2) % 64<55296∨(57344≤bt s p % 16*4096+bt s (p+1) % 64*64+bt s (p+2) % 64∧bt s p % 16*4096+bt s (p+1) % 64*64+bt s (p+2) % 64≤1114111))
    then (bt s p % 16*4096+bt s (p+1) % 64*64+bt s (p+2) % 64,3) else (65533,1))
  else if bt s p / 8=30∧(128≤bt s (p+1)∧bt s (p+1)≤191)∧(128≤bt s (p+2)∧bt s (p+2)≤191)∧(128≤bt s (p+3)∧bt s (p+3)≤191) then
   (if 65536≤bt s p % 8*262144+bt s (p+1) % 64*4096+bt s (p+2) % 64*64+bt s (p+3) % 64∧(bt s p % 8*262144+bt s (p+1) % 64*4096+bt s (p+2) % 64*64+bt s (p+3) % 64<55296∨(57344≤bt s p % 8*262144+bt s (p+1) % 64*4096+bt s (p+2) % 64*64+bt s (p+3) % 64∧bt s p % 8*262144+bt s (p+1) % 64*4096+bt s (p+2) % 64*64+bt s (p+3) % 64≤1114111))
    then (bt s p % 8*262144+bt s (p+1) % 64*4096+bt s (p+2) % 64*64+bt s (p+3) % 64,4) else (65533,1))
  else (65533,1)):=by
 have a:=Ks s p 1;have b:=Ks s p 2;have c:=Ks s p 3;unfold Utf8.decode;simp only [YE,Nat.add_zero,Utf8.runeError];generalize d:(decide (p+1<s.size) && (bt s (p+1) / 64==2))=g at*;generalize e:(decide (p+2<s.size) && (bt s (p+2) / 64==2))=h at*;generalize f:(decide (p+3<s.size) && (bt s (p+3) / 64==2))=i at*;clear d e f;simp only [Bool.and_eq_true,beq_iff_eq,decide_eq_true_eq,a,b,c,ge_iff_le,and_assoc,TY]
theorem IU{s i n b a}(h:(JP s i n b a).2≠0):∃c,Dv s i a (n-1)=some c∧b≤c∧c≤1114111∧(c<55296∨57344≤c)∧JP s i n b a=(c,n)∧i+n≤s.size:=by
 unfold JP at h⊢;split at h
 ·exact absurd rfl h
 ·rename_i f;rw [if_neg f];split at h
  ·exact absurd rfl h
  ·rename_i c e;split at h
   ·exact absurd rfl h
   ·rename_i d;exact ⟨c,e,by omega,by omega,by omega,by simp only [if_neg d],by omega⟩
theorem LO{s i a c}(h:Dv s i a 1=some c):128≤bt s (i+1)∧bt s (i+1)≤191∧c=a*64+(bt s (i+1)-128):=by obtain ⟨g,b,d,e,f⟩:=GW (m:=0) h;simp only [Dv,Option.some.injEq] at b;subst b;exact ⟨d,e,by rw [f];simp only [Nat.add_zero];simp only [Nat.add_zero] at d;omega⟩
theorem LP{s i a c}(h:Dv s i a 2=some c):128≤bt s (i+1)∧bt s (i+1)≤191∧128≤bt s (i+2)∧bt s (i+2)≤191∧c=(a*64+(bt s (i+1)-128))*64+(bt s (i+2)-128):=by obtain ⟨l,d,b,e,f⟩:=GW (m:=1) h;obtain ⟨g,j,k⟩:=LO d;exact ⟨g,j,b,e,by rw [f,k];simp only [Nat.add_assoc,Nat.reduceAdd] at b⊢;omega⟩
theorem Nt{s i a c}(h:Dv s i a 3=some c):128≤bt s (i+1)∧bt s (i+1)≤191∧128≤bt s (i+2)∧bt s (i+2)≤191∧128≤bt s (i+3)∧bt s (i+3)≤191∧c=((a*64+(bt s (i+1)-128))*64+(bt s (i+2)-128))*64+(bt s (i+3)-128):=by obtain ⟨o,d,b,e,f⟩:=GW (m:=2) h;obtain ⟨g,j,k,l,n⟩:=LP d;exact ⟨g,j,k,l,b,e,by rw [f,n];simp only [Nat.add_assoc,Nat.reduceAdd] at b⊢;omega⟩
theorem Kr{s i a}(b:128≤bt s (i+1)∧bt s (i+1)≤191):Dv s i a 1=some (a*64+(bt s (i+1)-128)):=by rw [GU (m:=0) (c:=a) rfl b.1 b.2];simp only [Nat.add_zero];exact congrArg some (by omega)
theorem GX{s i a}(c:128≤bt s (i+1)∧bt s (i+1)≤191)(b:128≤bt s (i+2)∧bt s (i+2)≤191):Dv s i a 2=some ((a*64+(bt s (i+1)-128))*64+(bt s (i+2)-128)):=by rw [GU (m:=1) (Kr c) b.1 b.2];simp only [Nat.add_assoc,Nat.reduceAdd];exact congrArg some (by omega)
theorem MG{s i a}(c:128≤bt s (i+1)∧bt s (i+1)≤191)(d:128≤bt s (i+2)∧bt s (i+2)≤191)(b:128≤bt s (i+3)∧bt s (i+3)≤191):Dv s i a 3=some (((a*64+(bt s (i+1)-128))*64+(bt s (i+2)-128))*64+(bt s (i+3)-128)):=by rw [GU (m:=2) (GX c d) b.1 b.2];simp only [Nat.add_assoc,Nat.reduceAdd];exact congrArg some (by omega)
theorem GL{s p}(h:p+3≤s.size):((s.extract p (p+3)).toList=[239,191,189])↔(bt s p=239∧bt s (p+1)=191∧bt s (p+2)=189):=by
 have j:s.data.size=s.size:=rfl;have d:=Ps s p (by omega);have f:=Ps s (p+1) (by omega);have g:=Ps s (p+2) (by omega);have e:(s.extract p (p+3)).toList=[s[p]'(by omega),s[p+1]'(by omega),s[p+2]'(by omega)]:=by
  rw [ByteArray.toList_eq,ByteArray.data_extract];apply List.ext_getElem?;intro i;have q:∀k,(c:p+k<s.size)→s.data[p+k]? =some (s[p+k]'c):=fun k c=>Array.getElem?_eq_getElem (xs:=s.data) c
  have l:min (p+3) s.size-p=3:=by omega
  rcases i with _ | _ | _ | i
  ·have:=q 0 (by omega);simpa using this
  ·have:=q 1 (by omega);simpa using this
  ·have:=q 2 (by omega);simpa using this
  ·simp;omega
 rw [e,d,f,g];simp only [List.cons.injEq,and_true];have u:∀(a b:UInt8),a=b↔a.toNat=b.toNat:=fun a b=>⟨fun h=>by rw [h],fun h=>UInt8.toNat_inj.mp h⟩
 rw [u,u,u];rfl
theorem De{s p}(a:(BW s p).2≠0):Utf8.decode s p=BW s p∧Cy s p (BW s p).1=false:=by
 have u:=QW s p;rw [IW];unfold BW at a⊢;split at a
 ·rename_i h;simp only [if_pos h];exact ⟨trivial,Fo s p _ (by omega)⟩
 rename_i h;simp only [if_neg h];split at a
 ·rename_i f;simp only [if_pos f];obtain ⟨c,b,l,m,n,d,e⟩:=IU a;obtain ⟨i,j,k⟩:=LO b;rw [d,if_pos (by omega),if_pos (by omega)];exact ⟨by simp only [Prod.mk.injEq,and_true];omega,Fo s p _ (by simp only;omega)⟩
 rename_i f;simp only [if_neg f];split at a
 ·rename_i g;simp only [if_pos g];obtain ⟨c,b,l,m,n,d,e⟩:=IU a;obtain ⟨i,j,k,r,t⟩:=LP b;rw [d,if_neg (by omega),if_pos (by omega),if_pos (by omega)];refine ⟨by simp only [Prod.mk.injEq,and_true];omega,?_⟩;simp only;unfold Cy;by_cases q:c=65533
  ·have:=(GL e).2 (by omega);simp [this,e]
  ·simp [q]
 rename_i g;simp only [if_neg g];split at a
 ·rename_i o;simp only [if_pos o];obtain ⟨c,b,l,m,n,d,e⟩:=IU a;obtain ⟨i,j,k,r,t,v,w⟩:=Nt b;rw [d,if_neg (by omega),if_neg (by omega),if_pos (by omega),if_pos (by omega)];refine ⟨by simp only [Prod.mk.injEq,and_true];omega,?_⟩;simp only;have:(c==65533)=false:=by simp;omega
  simp [Cy,this]
 ·exact absurd rfl a
theorem Kw{s p}(f:(BW s p).2=0):Cy s p (Utf8.decode s p).1=true∧Utf8.decode s p=(65533,1):=by
 have x:=QW s p;have u:=fun h=>MA s (p+1) h
 have v:=fun h=>MA s (p+2) h
 have w:=fun h=>MA s (p+3) h
 have d:∀n i e c,Dv s p e (n-1)=some c→n≠0→p+n≤s.size→BW s p=JP s p n i e→¬(c<i∨1114111<c∨(55296≤c∧c<57344))→False:=by intro n i e c m o q r t;rw [r,WK q m t] at f;exact o f
 have j:Utf8.decode s p=(65533,1):=by
  rw [IW];have b:¬bt s p<128:=fun h=>by simp [BW,h] at f
  rw [if_neg b];split
  ·rename_i h;split
   ·exfalso;refine d 2 128 (bt s p-192) _ (Kr h.2) (by decide) ?_ ?_ ?_
    ·by_cases a:p+2≤s.size
     ·exact a
     ·have:=u (by omega);omega
    ·unfold BW;rw [if_neg b,if_pos (by omega)]
    ·omega
   ·rfl
  ·split
   ·rename_i _ h;split
    ·exfalso;refine d 3 2048 (bt s p-224) _ (GX h.2.1 h.2.2) (by decide) ?_ ?_ ?_
     ·by_cases a:p+3≤s.size
      ·exact a
      ·have:=v (by omega);omega
     ·unfold BW;rw [if_neg b,if_neg (by omega),if_pos (by omega)]
     ·omega
    ·rfl
   ·split
    ·rename_i _ h;split
     ·exfalso;refine d 4 65536 (bt s p-240) _ (MG h.2.1 h.2.2.1 h.2.2.2) (by decide) ?_ ?_ ?_
      ·by_cases a:p+4≤s.size
       ·exact a
       ·have:=w (by omega);omega
      ·unfold BW;rw [if_neg b,if_neg (by omega),if_neg (by omega),if_pos (by omega)]
      ·omega
     ·rfl
    ·rfl
 refine ⟨?_,j⟩;rw [j];unfold Cy;by_cases g:p+3≤s.size
 ·by_cases l:(s.extract p (p+3)).toList=[239,191,189]
  ·exfalso;have k:=(GL g).1 l;refine d 3 2048 (bt s p-224) _ (GX (by omega) (by omega)) (by decide) g ?_ ?_
   ·unfold BW;rw [if_neg (by omega),if_neg (by omega),if_pos (by omega)]
   ·omega
  ·simp [l]
 ·simp [g]
def Cs(k:Nat):Nat:=if k=0 then 0 else if k=1 then 1 else if k=2 then 3 else if k≤9 then 2 else 4
def Ai(t:PT):Tk:=⟨t.a9,t.c9,Cs t.kind⟩
def Cq(k:Nat):List UInt8:=
 if k=3 then [102,110] else if k=4 then [118,97,114] else if k=5 then [110,101,119] else if k=6 then [114,101,116,117,114,110] else if k=7 then [105,102] else if k=8 then [101,108,115,101] else if k=9 then [119,104,105,108,101]
 else if k=10 then [40] else if k=11 then [41] else if k=12 then [123] else if k=13 then [125] else if k=14 then [59] else if k=15 then [61] else if k=16 then [38] else if k=17 then [42] else if k=18 then [64] else if k=19 then [46] else if k=20 then [63] else []
def Wx(t:PT):Prop:=t.kind≤20∧(3≤t.kind→t.a9.toList=Cq t.kind)
theorem NT:∀a,a≤20→3≤a→∀b,b≤20→3≤b→Cq a=Cq b→a=b:=by
 intro a e c b f d h;have:∀a b:Fin 21,3≤a.val→3≤b.val→Cq a=Cq b→a=b:=by decide+kernel
 have:=this ⟨a,by omega⟩ ⟨b,by omega⟩ c d h;exact congrArg Fin.val this
theorem T9(l):CA l≤20∧CA l≠0∧(3≤CA l→l=Cq (CA l)):=by
 unfold CA;repeat' split
 all_goals (refine ⟨by decide,by decide,fun h=>?_⟩)
 all_goals first | (rename_i e;rw [e];rfl) | omega
theorem Vk(r):Bc r≤20:=by
 unfold Bc;repeat' split
 all_goals decide
theorem SX{s p}(a:p<s.size)(h:3≤Bc (Utf8.decode s p).1):(s.extract p (p+1)).toList=Cq (Bc (Utf8.decode s p).1):=by
 have k:(Utf8.decode s p).1<128:=by
  generalize (Utf8.decode s p).1=r at*;by_cases f:r<128
  ·exact f
  ·exfalso;unfold Bc at h;rw [if_neg (by omega),if_neg (by omega),if_neg (by omega),if_neg (by omega),if_neg (by omega),if_neg (by omega),if_neg (by omega),if_neg (by omega),if_neg (by omega),if_neg (by omega),if_neg (by omega),if_neg (by omega)] at h;omega
 have g:(s[p]'a).toNat<128:=by
  by_cases d:(s[p]'a).toNat<128
  ·exact d
  ·have:=(decode_high s p a (by omega)).1;omega
 have e:(s.extract p (p+1)).toList=[s[p]'a]:=by
  rw [ByteArray.toList_eq,ByteArray.data_extract];have j:p<s.data.size:=a;apply List.ext_getElem?;intro i;rcases i with _ | i
  ·have:s.data[p]? =some (s[p]'a):=Array.getElem?_eq_getElem j;simpa using this
  ·simp;omega
 have b:(Utf8.decode s p).1=(s[p]'a).toNat:=by rw [decode_ascii s p a g]
 rw [b] at h⊢;rw [e];generalize s[p]'a=c at*;have:∀n:Fin 256,3≤Bc n→[UInt8.ofNat n]=Cq (Bc n):=by decide+kernel
 have:=this ⟨c.toNat,c.toNat_lt⟩ h;simpa using this
structure Uq(s:ByteArray)(p:Nat)(x:Sc):Prop where
 lit:∀t,t∈x.aU→Wx t∧t.kind≠0∧t.a9.size≤s.size
 bZ:x.aU.Pairwise (fun a b=>a.c9<b.c9)
 top:∀t,t∈x.aU→t.c9<(if 0<x.n6 then x.start else p)
 st:0<x.n6→x.start<p
theorem Uq.more{s p q x}(h:Uq s p x)(c:p≤q):Uq s q x:=
 ⟨h.lit,h.bZ,fun t b=>by have:=h.top t b;split at this<;>split<;>omega,fun a=>by have:=h.st a;omega⟩
theorem Kx(s:ByteArray)(a b:Nat):(s.extract a b).size≤s.size:=by
 have:(s.extract a b).data.size≤s.data.size:=by rw [ByteArray.data_extract];simp;omega
 exact this
theorem Uq.bH{s p x}(h:Uq s p x):Uq s p (CC s p x):=by
 have d:=h.top;unfold Proofs.YtegmjgjkcdbmkaaGreatDoor.CC;split
 ·rename_i e;have f:=h.st e;simp only [if_pos e] at d;obtain ⟨j,k,l⟩:=T9 (s.extract x.start p).toList;refine ⟨fun t c=>?_,?_,fun t c=>?_,fun q=>absurd q (by simp)⟩
  ·rcases List.mem_append.1 c with q | q
   ·exact h.lit t q
   ·rw [List.mem_singleton.1 q];exact ⟨⟨j,l⟩,k,Kx _ _ _⟩
  ·refine List.pairwise_append.2 ⟨h.bZ,by simp,fun a g b i=>?_⟩;rw [List.mem_singleton.1 i];exact d a g
  ·simp only [Nat.lt_irrefl,if_false];rcases List.mem_append.1 c with q | q
   ·have:=d t q;omega
   ·rw [List.mem_singleton.1 q];exact f
 ·rename_i e;simp only [if_neg e] at d;exact ⟨h.lit,h.bZ,fun t c=>by simp only [Nat.lt_irrefl,if_false];exact d t c,fun q=>absurd q (by simp)⟩
theorem V9{s p x}(u:p<s.size)(h:Uq s p x)(f:(AI s p (Utf8.decode s p).1 x).2.2=true):Uq s (p+1) (AI s p (Utf8.decode s p).1 x).1:=by
 unfold AI at f⊢;split
 ·rename_i c;simp [c] at f
 ·split
  ·have:=h.more (Nat.le_succ p);exact ⟨this.lit,this.bZ,this.top,this.st⟩
  ·split
   ·rename_i c m l;simp only [c,m,l,if_true] at f;split
    ·rename_i n;simp [n] at f
    ·refine ⟨h.lit,h.bZ,fun t e=>?_,fun _=>?_⟩
     ·have:=h.top t e;simp only [BG,Nat.zero_lt_succ,if_true];by_cases k:x.n6=0
      ·simp only [k,if_true];rw [k] at this;exact this
      ·simp only [if_neg k];rwa [if_pos (by omega)] at this
     ·simp only [BG];split
      ·omega
      ·have:=h.st (by omega);omega
   ·rename_i c m l;simp only [c,m,l] at f;have d:=h.bH;have j:=Dq s p x;have i:=d.top;rw [j] at i;simp only [Nat.lt_irrefl,if_false] at i;unfold CR;split
    ·exact d.more (by omega)
    ·split
     ·have:=d.more (Nat.le_succ p);exact ⟨this.lit,this.bZ,this.top,this.st⟩
     ·split
      ·exact d.more (by omega)
      ·rename_i r;refine ⟨fun t e=>?_,?_,fun t e=>?_,fun q=>?_⟩
       ·rcases List.mem_append.1 e with q | q
        ·exact d.lit t q
        ·rw [List.mem_singleton.1 q];exact ⟨⟨Vk _,fun g=>SX u g⟩,r,Kx _ _ _⟩
       ·refine List.pairwise_append.2 ⟨d.bZ,by simp,fun a o b c=>?_⟩;rw [List.mem_singleton.1 c];exact i a o
       ·simp only [j,Nat.lt_irrefl,if_false];rcases List.mem_append.1 e with q | q
        ·have:=i t q;omega
        ·rw [List.mem_singleton.1 q];exact Nat.lt_succ_self p
       ·simp only [j] at q;omega
theorem Ss(s p)(a:p<s.size):p+(Utf8.decode s p).2≤s.size:=by
 by_cases b:(BW s p).2=0
 ·rw [(Kw b).2];exact a
 ·rw [(De b).1];exact (FO s p a).1
theorem KZ(s:ByteArray):∀(f p:Nat) (x y:Sc),p≤s.size→Uq s p x→Aw s f p x=.inr y→Uq s s.size y
 | 0,p,x,y,b,h,e=>by have:=Sum.inr.inj e;subst this;exact h.more b
 | f+1,p,x,y,b,h,e=>by
   unfold Aw at e;split at e
   ·rename_i a;have d:=Fp s p a;split at e
    ·rename_i c;exact KZ s f _ _ y (Ss s p a) ((V9 a h c).more (by omega)) e
    ·cases e
   ·have:=Sum.inr.inj e;subst this;exact h.more b
structure TksOk(N:Nat)(l:List PT):Prop where
 pos:0<l.length
 lit:∀t,t∈l→Wx t
 len:∀t,t∈l→t.a9.size≤N∧t.c9≤N
 bZ:l.Pairwise (fun a b=>a.c9<b.c9)
 last:∃t,l[l.length-1]? =some t∧t.kind=0∧t.a9=ByteArray.empty∧t.c9=N
 O:∀i t,i<l.length-1→l[i]? =some t→t.kind≠0
theorem MI(s:ByteArray):s.extract s.size s.size=ByteArray.empty:=by
 apply ByteArray.ext;rw [ByteArray.data_extract];have:s.data.size=s.size:=rfl;apply Array.ext
 ·simp
 ·intro i a b;simp at a
theorem Qo{s y}(h:Aw s s.size 0 ⟨[],false,0,0⟩=.inr y):TksOk s.size (AH s y):=by
 have n:Uq s s.size y:=KZ s _ 0 _ _ (rR _) ⟨by simp,by simp,by simp,by simp⟩ h;have c:=n.bH;have k:=Dq s s.size y;have d:=c.top;rw [k] at d;simp only [Nat.lt_irrefl,if_false] at d;unfold AH;rw [MI];refine ⟨by simp,fun t e=>?_,fun t e=>?_,?_,?_,fun i t j f=>?_⟩
 ·rcases List.mem_append.1 e with q | q
  ·exact (c.lit t q).1
  ·rw [List.mem_singleton.1 q];exact ⟨rR _,fun g=>absurd (show 3≤0 from g) (by decide)⟩
 ·rcases List.mem_append.1 e with q | q
  ·exact ⟨(c.lit t q).2.2,Nat.le_of_lt (d t q)⟩
  ·rw [List.mem_singleton.1 q];exact ⟨rR _,rN _⟩
 ·refine List.pairwise_append.2 ⟨c.bZ,by simp,fun a l b m=>?_⟩;rw [List.mem_singleton.1 m];exact d a l
 ·exact ⟨⟨0,ByteArray.empty,s.size⟩,by simp,rfl,rfl,rfl⟩
 ·simp only [rV,List.length_singleton,Nat.add_sub_cancel] at j;rw [List.getElem?_append_left j] at f;exact (c.lit t (List.mem_of_getElem? f)).2.1
theorem Bn(l i):AC (l.map Ai) i=Ai (Ag l i):=by unfold AC Ag;rw [List.getElem?_map];cases l[i]? <;>rfl
theorem Gb{l i}(h:i<l.length):Ag l i∈l:=by unfold Ag;rw [rU h];exact rQ h
theorem TksOk.end_{N l}(h:TksOk N l):(Ag l (l.length-1)).kind=0:=by obtain ⟨t,b,c,_⟩:=h.last;unfold Ag;rw [b];exact c
theorem K7(k):(Cs k=2∨Cs k=4)↔3≤k:=by
 unfold Cs;repeat' split
 all_goals omega
theorem NM{t}(h:Wx t){k}(c:3≤k)(b:k≤20):Xb (Ai t) (Cq k)=true↔t.kind=k:=by
 unfold Xb Ai;simp only [Bool.and_eq_true,beq_iff_eq,Bool.or_eq_true];rw [K7];constructor
 ·rintro ⟨e,g⟩;exact NT _ h.1 g _ b c ((h.2 g).symm.trans e)
 ·intro e;exact ⟨by rw [←e];exact h.2 (by omega),by omega⟩
def Kg(n:Nat)(x:PS)(y:St):Prop:=x.m8=false∧y.aT=none∧y.v9=x.next∧x.next<n
def Mr(n:Nat)(x:PS)(p:Nat):Prop:=x.m8=true∧x.aS=p∧x.next=n-1
def Al(n:Nat)(x:PS)(y:St):Prop:=Kg n x y∨∃p,Mr n x p∧y.aT=some p
section
variable {N : Nat} {a : List PT} (H : TksOk N a)
include H
theorem Ee{k:Nat}(g:k≠0){x:PS}{p:Nat}(h:Mr a.length x p):Mr a.length (Af a a.length k x) p:=by obtain ⟨c,d,f⟩:=h;have b:=H.end_;unfold Af;rw [f,b,if_neg (fun e=>g e.symm)];exact ⟨rfl,by simp [GM,c,d],rfl⟩
omit H in
theorem CN(T L){y p}(h:y.aT=some p):(Ay T L y).aT=some p:=by unfold Ay JS;simp [DQ,h,Hz]
omit H in
theorem Iy(T k){y p}(h:y.aT=some p):(Ce T k y).2.aT=some p:=by unfold Ce JU;simp [h,Hz]
omit H in
theorem Ot(T f c p b):DO T f c (some p) b=(b,c,some p):=Jc (by simp)
omit H in
theorem Gs(T){y p}(h:y.aT=some p):(CY T y).2.aT=some p:=by unfold CY F8;simp only [h,Ot];simp [JS,DQ,Hz]
omit H in
theorem Ou(T){y p}(s)(h:y.aT=some p):(Hg T y s).2.aT=some p:=by
 have E:=fun (L:List UInt8) {y:St} (h:y.aT=some p)=>CN T L h
 have G:=fun (k:Nat) {y:St} (h:y.aT=some p)=>Iy T k h
 have I:=fun {y:St} (h:y.aT=some p)=>Gs T h
 unfold Hg;split
 ·exact E _ h
 ·split
  ·simp only;split
   ·exact G _ (E _ (G _ (E _ h)))
   ·exact G _ (E _ h)
  ·split
   ·exact G _ (E _ h)
   ·split
    ·exact G _ (E _ h)
    ·split
     ·exact I (y:=⟨_,_,_,_⟩) (E _ (E _ (G _ (E _ (E _ h)))))
     ·simp only;split
      ·exact I (E _ (G _ h))
      ·exact G _ h
theorem GS{k:Nat}(l:3≤k)(j:k≤20){x:PS}{y:St}(h:Al a.length x y):Al a.length (Af a a.length k x) (Ay (a.map Ai) (Cq k) y):=by
 rcases h with ⟨f,c,m,n⟩ | ⟨p,o,r⟩
 ·have q:=H.lit _ (Gb n);have g:=NM q l j;have i:=H.end_;unfold Af Ay JS;rw [m,Bn];by_cases b:(Ag a x.next).kind=k
  ·have d:DQ y.aT (Ai (Ag a x.next)) (Cq k)=true:=by simp [DQ,c,g.2 b]
   rw [if_pos b,if_neg (by omega),if_pos d];have s:x.next≠a.length-1:=fun e=>by rw [e,i] at b;omega
   exact .inl ⟨f,c,rfl,by simp only;omega⟩
  ·have d:¬DQ y.aT (Ai (Ag a x.next)) (Cq k)=true:=by simp only [DQ,Bool.and_eq_true,not_and];intro _ e;exact b (g.1 e)
   rw [if_neg b,if_neg d]
   exact .inr ⟨(Ag a x.next).c9,⟨rfl,by simp [GM,f],rfl⟩,by simp [Hz,c,Ai]⟩
 ·exact .inr ⟨p,Ee H (by omega) o,CN _ _ r⟩
end
def Yb(k:Nat):Nat:=if k=4 then 6 else if k=5 then 5 else k+1
section
variable {N : Nat} {a : List PT} (H : TksOk N a) (b : DigOk a)
include H b
omit H b in
theorem Fi{k x}(h:(Af a a.length k x).m8=false):(Ag a x.next).kind=k∧x.m8=false∧Ax a k x=Ag a x.next:=by
 unfold Af at h;split at h
 ·rename_i c;refine ⟨c,?_,by unfold Ax;rw [if_pos c]⟩;split at h<;>exact h
 ·simp [GM] at h
structure SC(v:VS)(u:FS)(inn:Nat):Prop where
 kind:u.kind=Yb v.kind
 bA:v.kind≤10
 p:u.p=Ai v.tg
 q:u.q=Ai v.sr
 args:u.args=v.args.map Ai
 field:v.kind=3→u.field=v.field
 aW:u.aW=inn
omit H b in
theorem OU(a n x):1≤(Bw a n x).1.kind∧(Bw a n x).1.kind≤8:=by
 unfold Bw;split
 ·simp
 ·split
  ·unfold DM;simp only;split<;>simp
  ·split
   ·simp
   ·split
    ·simp
    ·split
     ·simp [GI]
     ·split<;>simp
end
inductive CG {A B:Type} (R:A→B→Prop):List A→List B→Prop
 | nil:CG R [] []
 | cons {a:A} {b:B} {l:List A} {m:List B} (h:R a b) (t:CG R l m):CG R (a::l) (b::m)
theorem CG.mono{A B}{R S:A→B→Prop}{l m}(h:CG R l m)(k:∀a b,R a b→S a b):CG S l m:=by
 induction h with
 | nil=>exact .nil
 | cons h _ c=>exact .cons (k _ _ h) c
theorem CG.append{A B:Type}{R:A→B→Prop}{l a:List A}{m b:List B}(h:CG R l m)(r:CG R a b):CG R (l++a) (m++b):=by
 induction h with
 | nil=>exact r
 | cons h _ c=>exact .cons h c
theorem CG.length{A B}{R:A→B→Prop}{l m}(h:CG R l m):l.length=m.length:=by
 induction h with
 | nil=>rfl
 | cons _ _ a=>simp [a]
theorem CG.get{A B}{R:A→B→Prop}{l m}(h:CG R l m):∀(i:Nat) (a:i<l.length) (b:i<m.length),R l[i] m[i]:=by
 induction h with
 | nil=>intro i a;simp at a
 | cons h _ c=>
   intro i a b;cases i with
   | zero=>exact h
   | succ i=>exact c i (by simpa using a) (by simpa using b)
def Dc(a:Nat):Nat→List FS→Nat→TS→Prop
 | 0,_,_,_=>False
 | d+1,c,i,.mk s e=>∃u,c[i]? =some u∧
    ((e=[]∧SC s u a)∨
     (∃p b,e=[(p,b)]∧s=Dh 12∧u.kind=13∧u.aW=a∧u.br=((p:Nat):Int)∧u.cG= -1∧u.other=[]∧CG (fun j t=>i<j∧Dc a d c j t) u.bD b)∨
     (∃p b,e=[(p,b)]∧s=Dh 11∧u.kind=12∧u.aW=a∧u.br=((p:Nat):Int)∧u.cG= -1∧u.other=[]∧CG (fun j t=>i<j∧Dc a d c j t) u.bD b)∨
     (∃p b f g,e=[(p,b),(f,g)]∧s=Dh 11∧u.kind=12∧u.aW=a∧u.br=((p:Nat):Int)∧u.cG=((f:Nat):Int)∧CG (fun j t=>i<j∧Dc a d c j t) u.bD b∧CG (fun j t=>i<j∧Dc a d c j t) u.other g))
theorem Dc.up{A:Nat}:∀{d:Nat} {c:List FS} {i:Nat} {t:TS},Dc A d c i t→Dc A (d+1) c i t
 | 0,_,_,_,h=>h.elim
 | d+1,c,i,.mk s E,h=>by
   obtain ⟨u,B,h⟩:=h;refine ⟨u,B,?_⟩;have M:∀(l:List Nat) (m:List TS),CG (fun j t=>i<j∧Dc A d c j t) l m→CG (fun j t=>i<j∧Dc A (d+1) c j t) l m:=fun l m q=>q.mono (fun a b r=>⟨r.1,r.2.up⟩)
   rcases h with h | ⟨p,z,e,f,g,k,n,w,x,y⟩ | ⟨p,z,e,f,g,k,n,w,x,y⟩ | ⟨p,z,C,D,e,f,g,k,n,w,x,y⟩
   ·exact .inl h
   ·exact .inr (.inl ⟨p,z,e,f,g,k,n,w,x,M _ _ y⟩)
   ·exact .inr (.inr (.inl ⟨p,z,e,f,g,k,n,w,x,M _ _ y⟩))
   ·exact .inr (.inr (.inr ⟨p,z,C,D,e,f,g,k,n,w,M _ _ x,M _ _ y⟩))
def Pb(a b:List FS):Prop:=a.length≤b.length∧∀i,i<a.length→b[i]? =a[i]?
theorem Pb.refl(a):Pb a a:=⟨rN _,fun _ _=>rfl⟩
theorem Pb.trans{a b c:List FS}(h:Pb a b)(k:Pb b c):Pb a c:=⟨rO h.1 k.1,fun i d=>(k.2 i (rP d h.1)).trans (h.2 i d)⟩
theorem Dc.bW{C k:Nat}:∀{d:Nat} {c B:List FS} {i:Nat} {t:TS},Dc C d c i t→k≤i→(∀j,k≤j→j<c.length→B[j]? =c[j]?)→Dc C d B i t
 | 0,_,_,_,_,h,_,_=>h.elim
 | d+1,c,B,i,.mk s J,h,G,E=>by
   obtain ⟨u,D,h⟩:=h;have F:i<c.length:=by
    rcases Nat.lt_or_ge i c.length with q | q
    ·exact q
    ·rw [List.getElem?_eq_none q] at D;cases D
   refine ⟨u,by rw [E i G F];exact D,?_⟩;have M:∀(l:List Nat) (m:List TS),CG (fun j t=>i<j∧Dc C d c j t) l m→CG (fun j t=>i<j∧Dc C d B j t) l m:=fun l m q=>q.mono (fun a b r=>⟨r.1,r.2.bW (by have:=r.1;omega) E⟩)
   rcases h with h | ⟨p,A,e,f,g,n,w,x,y,z⟩ | ⟨p,A,e,f,g,n,w,x,y,z⟩ | ⟨p,A,H,I,e,f,g,n,w,x,y,z⟩
   ·exact .inl h
   ·exact .inr (.inl ⟨p,A,e,f,g,n,w,x,y,M _ _ z⟩)
   ·exact .inr (.inr (.inl ⟨p,A,e,f,g,n,w,x,y,M _ _ z⟩))
   ·exact .inr (.inr (.inr ⟨p,A,H,I,e,f,g,n,w,x,M _ _ y,M _ _ z⟩))
theorem Dc.pre{c d:Nat}{a b:List FS}{i:Nat}{t:TS}(h:Dc c d a i t)(f:Pb a b):Dc c d b i t:=h.bW (k:=0) (rR _) (fun j _ e=>f.2 j e)
def Z9(o:List PT)(x:PS)(y:St):Prop:=Al o.length x y∨(x.m8=false∧x.next<o.length∧(Ag o x.next).kind≠13∧y.aT=some (Ag o x.next).c9)
section
variable {N : Nat} {o : List PT} (H : TksOk N o) (v : DigOk o)
include H v
omit v in
theorem Us{x:PS}{y:St}(h:Z9 o x y):Al o.length (Af o o.length 13 x) (Ay (o.map Ai) [125] y):=by
 rcases h with h | ⟨a,d,b,c⟩
 ·exact GS H (k:=13) (by decide) (by decide) h
 ·refine .inr ⟨_,?_,CN _ _ c⟩;unfold Af;rw [if_neg b];exact ⟨rfl,by simp [GM,a],rfl⟩
omit H v in
theorem Cu{k}(d:k≠0){x}(h:(Af o o.length k x).m8=false):x.m8=false∧(Af o o.length k x).next=x.next+1∧(Ax o k x)=Ag o x.next∧(Ag o x.next).kind=k:=by obtain ⟨a,b,c⟩:=Fi h;exact ⟨b,BE a d,c,a⟩
omit H v in
theorem IQ{n x y}(h:Al n x y)(a:y.aT=none):Kg n x y:=by
 rcases h with h | ⟨p,_,h⟩
 ·exact h
 ·rw [a] at h;cases h
omit H v in
theorem Ut{n x y}(h:Al n x y)(a:x.m8=false):Kg n x y:=by
 rcases h with h | ⟨p,h,_⟩
 ·exact h
 ·rw [h.1] at a;cases a
omit H v in
theorem CO(T f c){y p}(a b)(h:y.aT=some p):AQ T f c y a b=(b,y,a):=by
 cases f with
 | zero=>rw [AQ]
 | succ f=>rw [AQ,if_pos (.inl (by simp [h]))]
def QP(o:List PT)(e:Nat):Prop:=∀(b:Nat) (x:PS) (y:St) (c:Nat) (a:List FS) (f:List TS) (d:List Nat),Al o.length x y→(x.m8=false→2*(o.length-x.next)+1≤e∧2*(o.length-x.next)+1≤b)→
 Z9 o (AB o o.length e x f).2 (AQ (o.map Ai) b c y a d).2.1∧
 ((AQ (o.map Ai) b c y a d).2.1.aT=none→∃h g,(AB o o.length e x f).1=f++h∧(AQ (o.map Ai) b c y a d).1=d++g∧CG (fun j t=>a.length≤j∧Dc c e (AQ (o.map Ai) b c y a d).2.2 j t) g h∧Pb a (AQ (o.map Ai) b c y a d).2.2)
omit v in
theorem Ho{d b:Nat}(D:QP o d){x:PS}{y:St}(c:Nat)(a:List FS)(A:Al o.length x y)(C:x.m8=false→2*(o.length-x.next)≤d+1∧2*(o.length-x.next)≤b+1):
 Al o.length (Af o o.length 13 (AB o o.length d (Af o o.length 12 x) []).2) (Ay (o.map Ai) [125] (AQ (o.map Ai) b c (Ay (o.map Ai) [123] y) a []).2.1)∧
 ((Ay (o.map Ai) [125] (AQ (o.map Ai) b c (Ay (o.map Ai) [123] y) a []).2.1).aT=none→
   CG (fun j t=>a.length≤j∧Dc c d (AQ (o.map Ai) b c (Ay (o.map Ai) [123] y) a []).2.2 j t) (AQ (o.map Ai) b c (Ay (o.map Ai) [123] y) a []).1 (AB o o.length d (Af o o.length 12 x) []).1∧Pb a (AQ (o.map Ai) b c (Ay (o.map Ai) [123] y) a []).2.2∧(AC (o.map Ai) y.v9).pos=(Ax o 12 x).c9∧y.aT=none):=by
 have f:=GS H (k:=12) (by decide) (by decide) A;simp only [Cq,Nat.reduceEqDiff,if_true,if_false] at f;obtain ⟨s,u⟩:=D b (Af o o.length 12 x) (Ay (o.map Ai) [123] y) c a [] [] f (fun e=>by have q:=Cu (k:=12) (by decide) e;have:=C q.1;have:=(Ut f e).2.2.2;omega)
 refine ⟨Us H s,fun e=>?_⟩;have h:=((Ct (o.map Ai) [125] _).2.2.2 e).1;have n:(Ay (o.map Ai) [123] y).aT=none:=by
  cases m:(Ay (o.map Ai) [123] y).aT with
  | none=>rfl
  | some p=>rw [CO _ _ _ _ _ m] at h;simp only [m] at h;cases h
 have r:=((Ct (o.map Ai) [123] y).2.2.2 n).1;obtain ⟨F,E,i,l,w,z⟩:=u h;simp only [List.nil_append] at i l;rw [i,l];refine ⟨w,z,?_,r⟩;have B:=IQ f n;have g:=IQ A r;rw [(Cu (k:=12) (by decide) B.1).2.2.1,g.2.2.1,Bn];rfl
end
def Lp:Nat→Nat→List Nat→Prop
 | i,j,[]=>i≤j
 | i,j,p::a=>i≤p∧Lp (p+1) j a
theorem Lp.left:∀{c:List Nat} {i b j:Nat},Lp i j c→b≤i→Lp b j c
 | [],_,_,_,h,a=>rO a h
 | _::_,_,_,_,h,a=>⟨rO a h.1,h.2⟩
theorem Lp.right:∀{c:List Nat} {i j b:Nat},Lp i j c→j≤b→Lp i b c
 | [],_,_,_,h,a=>rO h a
 | _::_,_,_,_,h,a=>⟨h.1,h.2.right a⟩
theorem Lp.le:∀{a:List Nat} {i j:Nat},Lp i j a→i+a.length≤j
 | [],_,_,h=>h
 | p::a,i,j,h=>by have:=h.2.le;have:=h.1;simp only [rW];omega
theorem Lp.snoc:∀{a:List Nat} {i j:Nat},Lp i j a→Lp i (j+1) (a++[j])
 | [],_,_,h=>⟨h,rN _⟩
 | _::_,_,_,h=>⟨h.1,h.2.snoc⟩
inductive CH {A:Type} (R:Nat→Nat→A→Prop):Nat→Nat→List A→Prop
 | nil {i j:Nat} (h:i≤j):CH R i j []
 | cons {i m j:Nat} {a:A} {l:List A} (h:R i m a) (t:CH R m j l):CH R i j (a::l)
theorem CH.snoc{A:Type}{R:Nat→Nat→A→Prop}{i m j:Nat}{l:List A}{a:A}(h:CH R i m l)(d:∀b i j a,R i j a→b≤i→R b j a)(r:R m j a)(c:m≤j):CH R i j (l++[a]):=by
 induction h with
 | nil h=>exact .cons (d _ _ _ _ r h) (.nil (rN _))
 | cons h _ e=>exact .cons h (e r c)
theorem CH.mono{A}{R S:Nat→Nat→A→Prop}{i j l}(h:CH R i j l)(k:∀i j a,R i j a→S i j a):CH S i j l:=by
 induction h with
 | nil h=>exact .nil h
 | cons h _ b=>exact .cons (k _ _ _ h) b
theorem CH.le{A}{R:Nat→Nat→A→Prop}{i j l}(h:CH R i j l)(k:∀i j a,R i j a→i<j):i+l.length≤j:=by
 induction h with
 | nil h=>exact h
 | cons h _ b=>have:=k _ _ _ h;simp only [rW];omega
theorem CH.low{A}{R S:Nat→Nat→A→Prop}{i j i0 j0 l}(h:CH R i j l)(c:∀i j a,R i j a→i<j)(k:∀a b x,i0≤a→b≤j0→R a b x→S a b x)(d:i0≤i)(e:j≤j0):CH S i j l:=by
 induction h with
 | nil h=>exact .nil h
 | cons h t f=> have q:=c _ _ _ h;have g:=t.le c;exact .cons (k _ _ _ d (by omega) h) (f (by omega) e)
def XL(v:VS):List PT:=if v.kind=1 then [] else if v.kind=7∨v.kind=8 then v.sr::v.args else [v.sr]
def Yd(s:VS):List PT:=if s.kind=0∨s.kind=1 then [s.tg] else if s.kind=10 then [s.sr] else if s.kind=7∨s.kind=8 then s.tg::s.sr::s.args else [s.tg,s.sr]
def BS(toks:List PT):Nat→Nat→Nat→TS→Prop
 | 0,_,_,_=>False
 | d+1,i,j,.mk s b=>i<j∧j<toks.length∧
   ((b=[]∧s.kind≤10∧Y5 s∧(s.kind≠7→s.kind≠8→s.args=[])∧∃f,Yd s=f.map (Ag toks)∧Lp i j f)∨
    (∃k a m,b=[((Ag toks k).c9,a)]∧(s=Dh 11∨s=Dh 12)∧i<k∧CH (BS toks d) (k+1) m a∧m<j)∨
    (∃k a m c g e,b=[((Ag toks k).c9,a),((Ag toks c).c9,g)]∧s=Dh 11∧i<k∧CH (BS toks d) (k+1) m a∧m<c∧CH (BS toks d) (c+1) e g∧e<j))
theorem BS.lt{toks d i j t}(h:BS toks d i j t):i<j:=by
 match d,t,h with
 | d+1,.mk s a,h=>exact h.1
theorem BS.left{toks d i n j t}(h:BS toks d i j t)(r:n≤i):BS toks d n j t:=by
 match d,t,h with
 | d+1,.mk s z,h=>
   obtain ⟨A,p,q⟩:=h;refine ⟨by omega,p,?_⟩;rcases q with ⟨a,b,c,g,x,e,f⟩ | ⟨k,l,m,a,b,c,e⟩ | ⟨k,l,m,v,y,w,a,b,c,e⟩
   ·exact .inl ⟨a,b,c,g,x,e,f.left r⟩
   ·exact .inr (.inl ⟨k,l,m,a,b,by omega,e⟩)
   ·exact .inr (.inr ⟨k,l,m,v,y,w,a,b,by omega,e⟩)
theorem BS.up{toks:List PT}:∀{d i j:Nat} {t:TS},BS toks d i j t→BS toks (d+1) i j t
 | 0,_,_,_,h=>h.elim
 | d+1,i,j,.mk s y,h=>by
   obtain ⟨n,p,q⟩:=h;refine ⟨n,p,?_⟩;rcases q with h | ⟨k,l,m,a,b,c,e,f⟩ | ⟨k,l,m,v,x,w,a,b,c,e,f,g,h⟩
   ·exact .inl h
   ·exact .inr (.inl ⟨k,l,m,a,b,c,e.mono (fun _ _ _ r=>r.up),f⟩)
   ·exact .inr (.inr ⟨k,l,m,v,x,w,a,b,c,e.mono (fun _ _ _ r=>r.up),f,g.mono (fun _ _ _ r=>r.up),h⟩)
theorem BS.lower{toks:List PT}:∀{d i j:Nat} {t:TS} (e:Nat),BS toks d i j t→j-i≤e→BS toks e i j t
 | 0,_,_,_,_,h,_=>h.elim
 | d+1,i,j,.mk s n,0,h,A=>by have:=h.1;omega
 | d+1,i,j,.mk s n,e+1,h,A=>by
   obtain ⟨p,v,w⟩:=h;refine ⟨p,v,?_⟩;have L:∀(a b:Nat) (l:List TS),i+1≤a→b≤j→CH (BS toks d) a b l→CH (BS toks e) a b l:=fun a b l y z r=> r.low (i0:=i+1) (j0:=j) (fun _ _ _ q=>q.lt) (fun E F x G H q=>BS.lower e q (by omega)) y z
   rcases w with h | ⟨k,l,m,a,b,c,q,f⟩ | ⟨k,l,m,B,D,C,a,b,c,q,f,g,h⟩
   ·exact .inl h
   ·exact .inr (.inl ⟨k,l,m,a,b,c,L _ _ _ (by omega) (by omega) q,f⟩)
   ·have:=g.le (fun _ _ _ q=>q.lt);have:=q.le (fun _ _ _ q=>q.lt);exact .inr (.inr ⟨k,l,m,B,D,C,a,b,c,L _ _ _ (by omega) (by omega) q,f,L _ _ _ (by omega) (by omega) g,h⟩)
theorem TV(toks n x):(Bw toks n x).1.kind≠7→(Bw toks n x).1.kind≠8→(Bw toks n x).1.args=[]:=by
 unfold Bw;split
 ·intro _ _;rfl
 ·split
  ·unfold DM;simp only;split<;>(intro _ _;rfl)
  ·split
   ·intro _ _;rfl
   ·split
    ·intro _ _;rfl
    ·split
     ·intro _ h;exact absurd rfl h
     ·split
      ·intro h;exact absurd rfl h
      ·intro _ _;rfl
theorem Oe(toks n x):(AF toks n x).1.kind≠7→(AF toks n x).1.kind≠8→(AF toks n x).1.args=[]:=by
 unfold AF;split
 ·intro _ _;rfl
 ·split
  ·intro _ _;rfl
  ·split
   ·intro _ _;rfl
   ·exact TV _ _ _
section
variable {N : Nat} {toks : List PT} (H : TksOk N toks) (o : N ≤ 4000) (u : toks.length ≤ 4001)
include H
theorem KV(p:Nat):(Ag toks p).a9.size≤N∧(Ag toks p).c9≤N:=by
 rcases Nat.lt_or_ge p toks.length with q | q
 ·exact H.len _ (Gb q)
 ·unfold Ag;rw [List.getElem?_eq_none q];exact ⟨rR _,rR _⟩
theorem Du(k:Nat)(x:PS):(Ax toks k x).a9.size≤N∧(Ax toks k x).c9≤N:=by
 unfold Ax;split
 ·exact KV H _
 ·exact ⟨rR _,rR _⟩
omit H in
theorem MO:∀(f:Nat) (x:PS) (a:List PT),∃b,(CJ toks f x a).1=a++b.map (Ag toks)∧Lp x.next (CJ toks f x a).2.next b∧(CJ toks f x a).2.m8=x.m8
 | 0,x,a=>⟨[],by simp [CJ],rN _,rfl⟩
 | f+1,x,a=>by
   rw [CJ];split
   ·obtain ⟨b,c,d,e⟩:=MO f ⟨x.next+1,x.m8,x.aS⟩ (a++[Ag toks x.next]);exact ⟨x.next::b,by rw [c];simp,⟨rN _,d⟩,e⟩
   ·exact ⟨[],by simp,rN _,rfl⟩
omit H in
theorem G7{x}(h:(A6 toks toks.length x).2.m8=false):x.m8=false∧∃a,(A6 toks toks.length x).1=a.map (Ag toks)∧Lp (x.next+1) (A6 toks toks.length x).2.next a∧x.next+2≤(A6 toks toks.length x).2.next:=by unfold A6 at h⊢;simp only at h⊢;obtain ⟨a,e,c,f⟩:=MO (toks:=toks) toks.length (Af toks toks.length 10 x) [];have b:=Cu (k:=11) (by decide) h;rw [f] at b;have d:=Cu (k:=10) (by decide) b.1;have:=c.le;rw [d.2.1] at c this;exact ⟨d.1,a,by simpa using e,c.right (by rw [b.2.1];omega),by rw [b.2.1];omega⟩
theorem N7{x:PS}:∀t,t∈(A6 toks toks.length x).1→t.a9.size≤N∧t.c9≤N:=by
 intro t a;obtain ⟨c,b,_,_⟩:=MO (toks:=toks) toks.length (Af toks toks.length 10 x) [];have e:(A6 toks toks.length x).1=c.map (Ag toks):=by unfold A6;simpa using b
 rw [e] at a;obtain ⟨p,_,rfl⟩:=List.mem_map.1 a;exact KV H p
theorem Wm{x:PS}(h:(Bw toks toks.length x).2.m8=false):x.m8=false∧x.next<(Bw toks toks.length x).2.next∧(∃d,XL (Bw toks toks.length x).1=d.map (Ag toks)∧Lp x.next (Bw toks toks.length x).2.next d)∧(Bw toks toks.length x).1.sr.a9.size≤N∧(∀t,t∈(Bw toks toks.length x).1.args→t.a9.size≤N)∧x.next+(Bw toks toks.length x).1.args.length≤(Bw toks toks.length x).2.next:=by
 have T:=fun (k:Nat) (b:k≠0) {x:PS} (h:(Af toks toks.length k x).m8=false)=>Cu b h
 have Z:(Bj:PT).a9.size≤N:=rR _;unfold Bw at h⊢;split at h
 ·rename_i b;rw [if_pos b];have t:=T 5 (by decide) h;simp only at t⊢;exact ⟨t.1,by omega,⟨[],rfl,show x.next≤_ by omega⟩,Z,by simp,by simp;omega⟩
 rename_i v;rw [if_neg v];split at h
 ·rename_i b;rw [if_pos b];unfold DM at h⊢;simp only at h⊢;split at h
  ·rename_i j;rw [if_pos j];have m:=T 2 (by decide) h;have g:=T 19 (by decide) m.1;have c:=T 1 (by decide) g.1;have a:=T 16 (by decide) c.1;simp only;refine ⟨a.1,by omega,⟨[(Af toks toks.length 16 x).next],by simp [XL,c.2.2.1],⟨by omega,show _≤_ by omega⟩⟩,(Du H _ _).1,by simp,by simp;omega⟩
  ·rename_i j;rw [if_neg j];have c:=T 1 (by decide) h;have a:=T 16 (by decide) c.1;simp only;refine ⟨a.1,by omega,⟨[(Af toks toks.length 16 x).next],by simp [XL,c.2.2.1],⟨by omega,show _≤_ by omega⟩⟩,(Du H _ _).1,by simp,by simp;omega⟩
 rename_i p;rw [if_neg p];split at h
 ·rename_i b;rw [if_pos b];have c:=T 1 (by decide) h;have a:=T 17 (by decide) c.1;simp only at c⊢;refine ⟨a.1,by omega,⟨[(Af toks toks.length 17 x).next],by simp [XL,c.2.2.1],⟨by omega,show _≤_ by omega⟩⟩,(Du H _ _).1,by simp,by simp;omega⟩
 rename_i r;rw [if_neg r];split at h
 ·rename_i b;rw [if_pos b];have c:=T 1 (by decide) h;have a:=T 18 (by decide) c.1;simp only at c⊢;refine ⟨a.1,by omega,⟨[(Af toks toks.length 18 x).next],by simp [XL,c.2.2.1],⟨by omega,show _≤_ by omega⟩⟩,(Du H _ _).1,by simp,by simp;omega⟩
 rename_i s;rw [if_neg s];split at h
 ·rename_i b;rw [if_pos b];unfold GI at h⊢;simp only at h⊢;obtain ⟨l,d,e,f,w⟩:=G7 h;have m:=T 11 (by decide) l;have g:=T 1 (by decide) m.1;have c:=T 17 (by decide) g.1;have a:=T 10 (by decide) c.1;have q:=f.le;have y:(A6 toks toks.length (Af toks toks.length 11 (Af toks toks.length 1 (Af toks toks.length 17 (Af toks toks.length 10 x))))).1.length=d.length:=by rw [e];simp
  refine ⟨a.1,by omega,⟨(Af toks toks.length 17 (Af toks toks.length 10 x)).next::d,by simp [XL,g.2.2.1,e],⟨by omega,f.left (by omega)⟩⟩,(Du H _ _).1,fun t i=>(N7 H t i).1,by omega⟩
 rename_i n;rw [if_neg n];split at h
 ·rename_i b;rw [if_pos b];simp only at h⊢;obtain ⟨l,d,e,f,w⟩:=G7 h;have a:=T 1 (by decide) l;have q:=f.le;have y:(A6 toks toks.length (Af toks toks.length 1 x)).1.length=d.length:=by rw [e];simp
  refine ⟨a.1,by omega,⟨x.next::d,by simp [XL,a.2.2.1,e],⟨by omega,f.left (by omega)⟩⟩,(Du H _ _).1,fun t i=>(N7 H t i).1,by omega⟩
 ·rename_i b;rw [if_neg b];have a:=T 1 (by decide) h;simp only at a⊢;refine ⟨a.1,by omega,⟨[x.next],by simp [XL,a.2.2.1],⟨by omega,show _≤_ by omega⟩⟩,(Du H _ _).1,by simp,by simp;omega⟩
include o u
theorem Qh{x:PS}(h:(AF toks toks.length x).2.m8=false)(e:(AF toks toks.length x).2.next<toks.length):x.m8=false∧x.next<(AF toks toks.length x).2.next∧(AF toks toks.length x).1.kind≤10∧Y5 (AF toks toks.length x).1∧∃g,Yd (AF toks toks.length x).1=g.map (Ag toks)∧Lp x.next (AF toks toks.length x).2.next g:=by
 have T:=fun (k:Nat) (c:k≠0) {x:PS} (h:(Af toks toks.length k x).m8=false)=>Cu c h
 have l:(Bj:PT).a9.size≤4000:=rR _;have n:(Bj:PT).c9≤4000:=rR _;have d:=fun (k:Nat) (x:PS)=>rO (Du H k x).1 o
 have i:=fun (k:Nat) (x:PS)=>rO (Du H k x).2 o
 unfold AF at h e⊢;split at h
 ·rename_i c;rw [if_pos c];have a:=T 1 (by decide) h;have b:=T 4 (by decide) a.1;simp only at a⊢;exact ⟨b.1,by omega,by omega,⟨d _ _,i _ _,l,by simp,by simp⟩,[(Af toks toks.length 4 x).next],by simp [Yd,a.2.2.1],⟨by omega,show _≤_ by omega⟩⟩
 rename_i r;rw [if_neg r] at e⊢;split at h
 ·rename_i c;rw [if_pos c];have a:=T 1 (by decide) h;have b:=T 6 (by decide) a.1;simp only at a⊢;exact ⟨b.1,by omega,by omega,⟨l,n,d _ _,by simp,by simp⟩,[(Af toks toks.length 6 x).next],by simp [Yd,a.2.2.1],⟨by omega,show _≤_ by omega⟩⟩
 rename_i s;rw [if_neg s] at e⊢;split at h
 ·rename_i c;rw [if_pos c];have j:=T 1 (by decide) h;have w:=T 15 (by decide) j.1;have a:=T 1 (by decide) w.1;have b:=T 17 (by decide) a.1;simp only at j⊢;exact ⟨b.1,by omega,by omega,⟨d _ _,i _ _,d _ _,by simp,by simp⟩,[(Af toks toks.length 17 x).next,(Af toks toks.length 15 (Af toks toks.length 1 (Af toks toks.length 17 x))).next],by simp [Yd,a.2.2.1,j.2.2.1],⟨by omega,by omega,show _≤_ by omega⟩⟩
 ·rename_i q;rw [if_neg q] at e⊢;simp only at h e⊢;have D:=OU toks toks.length (Af toks toks.length 15 (Af toks toks.length 1 x));obtain ⟨y,E,⟨g,z,A⟩,B,C,F⟩:=Wm H h;have a:=T 15 (by decide) y;have b:=T 1 (by decide) a.1;generalize (Bw toks toks.length (Af toks toks.length 15 (Af toks toks.length 1 x))).1=v at*;refine ⟨b.1,by omega,by omega,⟨d _ _,i _ _,rO B o,fun t p=>rO (C t p) o,by simp only;omega⟩,x.next::g,?_,⟨by omega,A.left (by omega)⟩⟩;rw [List.map_cons,←z,b.2.2.1];unfold Yd XL;simp only;by_cases m:v.kind=1
  ·simp [m]
  ·rw [if_neg (by omega),if_neg (by omega),if_neg m];by_cases f:v.kind=7∨v.kind=8
   ·rw [if_pos f,if_pos f]
   ·rw [if_neg f,if_neg f]
omit H o u in
theorem Zf{p}(h:Bb (Ag toks p).kind):p<toks.length:=by
 rcases Nat.lt_or_ge p toks.length with q | q
 ·exact q
 ·unfold Ag at h;rw [List.getElem?_eq_none q] at h;simp [Bb,Bj] at h
theorem Sg:∀f:Nat,
 (∀(x:PS) (l:List TS),x.next<toks.length→2*(toks.length-x.next)+1≤f→(AB toks toks.length f x l).2.m8=false→x.m8=false∧∃j,(AB toks toks.length f x l).1=l++j∧CH (BS toks f) x.next (AB toks toks.length f x l).2.next j)∧
 (∀(x:PS),x.next<toks.length→2*(toks.length-x.next)≤f→(AV toks toks.length f x).2.m8=false→x.m8=false∧BS toks f x.next (AV toks toks.length f x).2.next (AV toks toks.length f x).1):=by
 have T:=fun (k:Nat) (hk:k≠0) {x:PS} (h:(Af toks toks.length k x).m8=false)=>Cu hk h
 have c:=fun (k:Nat) {x:PS} (hc:x.next<toks.length)=>Ah (n:=toks.length) H.end_ k hc
 intro f;induction f with
 | zero=>exact ⟨fun x l d G=>by omega,fun x d G=>by omega⟩
 | succ f s=>
   refine ⟨fun x l d G h=>?_,fun x d G h=>?_⟩
   ·rw [AB] at h⊢;split at h
    ·rename_i w;rw [if_pos w];obtain ⟨C,a0⟩:∃C,f=C+1:=⟨f-1,by omega⟩;have hm:x.next+1≤(AV toks toks.length f x).2.next:=by subst a0;exact He H.end_ C d w
     have hg:=Fx H.end_ f x d;obtain ⟨A,j,O,B⟩:=s.1 _ _ hg.2 (by omega) h;obtain ⟨X,Y⟩:=s.2 x d (by omega) A;exact ⟨X,(AV toks toks.length f x).1::j,by rw [O];simp,.cons Y.up (B.mono (fun _ _ _ q=>q.up))⟩
    ·rename_i w;rw [if_neg w];exact ⟨h,[],by simp,.nil (rN _)⟩
   ·have a:=(Fx H.end_ (f+1) x d).2;rw [AV] at h a⊢;split at h
    ·rename_i y;rw [if_pos y] at a⊢;simp only at h a⊢;have m1:=BE (n:=toks.length) y (by decide);have F:=c 7 d;have m:=c 20 F.2;have g:=c 12 m.2;have P:=Bo H.end_ f _ [] g.2;have Q:=c 13 P.2;have i1:=s.1 (Af toks toks.length 12 (Af toks toks.length 20 (Af toks toks.length 7 x))) [] g.2 (by have:=m.1;have:=g.1;omega);have N:(Af toks toks.length 13 (AB toks toks.length f (Af toks toks.length 12 (Af toks toks.length 20 (Af toks toks.length 7 x))) []).2).m8=false→x.m8=false∧x.next+2=(Af toks toks.length 20 (Af toks toks.length 7 x)).next∧(Ax toks 12 (Af toks toks.length 20 (Af toks toks.length 7 x)))=Ag toks (Af toks toks.length 20 (Af toks toks.length 7 x)).next∧CH (BS toks f) ((Af toks toks.length 20 (Af toks toks.length 7 x)).next+1) (AB toks toks.length f (Af toks toks.length 12 (Af toks toks.length 20 (Af toks toks.length 7 x))) []).2.next (AB toks toks.length f (Af toks toks.length 12 (Af toks toks.length 20 (Af toks toks.length 7 x))) []).1∧(AB toks toks.length f (Af toks toks.length 12 (Af toks toks.length 20 (Af toks toks.length 7 x))) []).2.next+1=(Af toks toks.length 13 (AB toks toks.length f (Af toks toks.length 12 (Af toks toks.length 20 (Af toks toks.length 7 x))) []).2).next:=by intro h;have K:=T 13 (by decide) h;obtain ⟨t,j,e,b⟩:=i1 K.1;have i:=T 12 (by decide) t;have J:=T 20 (by decide) i.1;have v:=T 7 (by decide) J.1;simp only [List.nil_append] at e;rw [e];rw [i.2.1] at b;exact ⟨v.1,by omega,i.2.2.1,b,by omega⟩
     have a8:x.next+1≤(Af toks toks.length 13 (AB toks toks.length f (Af toks toks.length 12 (Af toks toks.length 20 (Af toks toks.length 7 x))) []).2).next:=by have:=m.1;have:=g.1;have:=P.1;have:=Q.1;omega
     generalize Af toks toks.length 20 (Af toks toks.length 7 x)=M at*;generalize AB toks toks.length f (Af toks toks.length 12 M) []=r at*;split at h
     ·rename_i I;rw [if_pos I] at a⊢;simp only at h a⊢;have R:=c 8 Q.2;have S:=c 12 R.2;have i2:=s.1 (Af toks toks.length 12 (Af toks toks.length 8 (Af toks toks.length 13 r.2))) [] S.2 (by have:=R.1;have:=S.1;omega);have w5:=T 13 (by decide) h;obtain ⟨t,a7,e,b⟩:=i2 w5.1;have L:=T 12 (by decide) t;have w2:=T 8 (by decide) L.1;obtain ⟨D,Z,E,p,f5⟩:=N w2.1;simp only [List.nil_append] at e;rw [L.2.1] at b;have l1:=p.le (fun _ _ _ q=>q.lt);have l2:=b.le (fun _ _ _ q=>q.lt);refine ⟨D,by omega,a,.inr (.inr ⟨M.next,r.1,r.2.next,(Af toks toks.length 8 (Af toks toks.length 13 r.2)).next,a7,_,?_,rfl,by omega,p,by omega,b,by omega⟩)⟩;rw [E,L.2.2.1,e]
     ·rename_i I;rw [if_neg I] at a⊢;simp only at h a⊢;obtain ⟨D,Z,E,p,f5⟩:=N h;have l1:=p.le (fun _ _ _ q=>q.lt);refine ⟨D,by omega,a,.inr (.inl ⟨M.next,r.1,r.2.next,?_,.inl rfl,by omega,p,by omega⟩)⟩;rw [E]
    ·rename_i y;rw [if_neg y] at a⊢;split at h
     ·rename_i z;rw [if_pos z] at a⊢;simp only at h a⊢;have m1:=BE (n:=toks.length) z (by decide);have F:=c 9 d;have m:=c 20 F.2;have g:=c 12 m.2;have K:=T 13 (by decide) h;obtain ⟨t,j,e,b⟩:=s.1 _ [] g.2 (by have:=m.1;have:=g.1;omega) K.1;have i:=T 12 (by decide) t;have J:=T 20 (by decide) i.1;have v:=T 9 (by decide) J.1;have l2:=b.le (fun _ _ _ q=>q.lt);simp only [List.nil_append] at e;rw [i.2.1] at b;refine ⟨v.1,by omega,a,.inr (.inl ⟨(Af toks toks.length 20 (Af toks toks.length 9 x)).next,j,_,?_,.inr rfl,by omega,b,by omega⟩)⟩;rw [i.2.2.1,e]
     ·rename_i z;rw [if_neg z] at a⊢;simp only at h a⊢;have v:=T 14 (by decide) h;obtain ⟨A,O,B,U,ps,V,W⟩:=Qh H o u v.1 (by omega);exact ⟨A,by omega,a,.inl ⟨rfl,B,U,Oe _ _ _,ps,V,W.right (by omega)⟩⟩
end
end Go.Proofs.YtegmjgjkcdbmkaaGreatDoor

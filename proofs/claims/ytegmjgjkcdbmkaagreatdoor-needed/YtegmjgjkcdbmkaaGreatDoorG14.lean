/- One of the texts of the proof: EqA EqB EqC EqD EqE. -/
import Derived.Test.YtegmjgjkcdbmkaaGreatDoorG10
namespace Go.Proofs.YtegmjgjkcdbmkaaGreatDoor
theorem YE(s k):(s.get! k).toNat=bt s k:=by unfold bt;congr 1;show s.data[k]! =_;rw [getElem!_def];cases s.data[k]? <;>rfl
theorem MA(s k)(h:s.size≤k):bt s k=0:=by
 unfold bt;have:s.data[k]? =none:=by simp;exact h
 rw [this];rfl
theorem Ks(s p k):((decide (p+k<s.size) && (bt s (p+k) / 64==2))=true)↔(128≤bt s (p+k)∧bt s (p+k)≤191):=by
 have b:=QW s (p+k);simp only [Bool.and_eq_true,decide_eq_true_eq,beq_iff_eq];constructor
 ·rintro ⟨_,h⟩;omega
 ·intro h;refine ⟨?_,by omega⟩;by_cases a:p+k<s.size
  ·exact a
  ·have:=MA s (p+k) (by omega);omega
theorem TY(c:Nat):Utf8.valid (c:Int)=true↔(c<55296∨(57344≤c∧c≤1114111)):=by unfold Utf8.valid;simp only [Bool.or_eq_true,Bool.and_eq_true,decide_eq_true_eq];omega
theorem IW(s p):Utf8.decode s p=
 (if bt s p<128 then (bt s p,1)
  else if bt s p / 32=6∧(128≤bt s (p+1)∧bt s (p+1)≤191) then
   (if 128≤bt s p % 32*64+bt s (p+1) % 64 then (bt s p % 32*64+bt s (p+1) % 64,2) else (65533,1))
  else if bt s p / 16=14∧(128≤bt s (p+1)∧bt s (p+1)≤191)∧(128≤bt s (p+2)∧bt s (p+2)≤191) then
   (if 2048≤bt s p % 16*4096+bt s (p+1) % 64*64+bt s (p+2) % 64∧(bt s p % 16*4096+bt s (p+1) % 64*64+bt s (p+2) % 64<55296∨(57344≤bt s p % 16*4096+bt s (p+1) % 64*64+bt s (p+2) % 64∧bt s p % 16*4096+bt s (p+1) % 64*64+bt s (p+2) % 64≤1114111))
    then (bt s p % 16*4096+bt s (p+1) % 64*64+bt s (p+2) % 64,3) else (65533,1))
  else if bt s p / 8=30∧(128≤bt s (p+1)∧bt s (p+1)≤191)∧(128≤bt s (p+2)∧bt s (p+2)≤191)∧(128≤bt s (p+3)∧bt s (p+3)≤191) then
   (if 65536≤bt s p % 8*262144+bt s (p+1) % 64*4096+bt s (p+2) % 64*64+bt s (p+3) % 64∧(bt s p % 8*262144+bt s (p+1) % 64*4096+bt s (p+2) % 64*64+bt s (p+3) % 64<55296∨(57344≤bt s p % 8*262144+bt s (p+1) % 64*4096+bt s (p+2) % 64*64+bt s (p+3) % 64∧bt s p % 8*262144+bt s (p+1) % 64*4096+bt s (p+2) % 64*64+bt s (p+3) % 64≤1114111))
    then (bt s p % 8*262144+bt s (p+1) % 64*4096+bt s (p+2) % 64*64+bt s (p+3) % 64,4) else (65533,1))
  else (65533,1)):=by
 have a:=Ks s p 1;have b:=Ks s p 2;have c:=Ks s p 3;unfold Utf8.decode;simp only [YE,Nat.add_zero,Utf8.runeError];generalize d:(decide (p+1<s.size) && (bt s (p+1) / 64==2))=g at*;generalize e:(decide (p+2<s.size) && (bt s (p+2) / 64==2))=h at*;generalize f:(decide (p+3<s.size) && (bt s (p+3) / 64==2))=i at*;clear d e f;simp only [Bool.and_eq_true,beq_iff_eq,decide_eq_true_eq,a,b,c,ge_iff_le,and_assoc,TY]
theorem IU{s i n b a}(h:(JP s i n b a).2≠0):∃c,Dv s i a (n-1)=some c∧b≤c∧c≤1114111∧(c<55296∨57344≤c)∧JP s i n b a=(c,n)∧i+n≤s.size:=by
 unfold JP at h⊢;split at h
 ·exact absurd rfl h
 ·rename_i f;rw [if_neg f];split at h
  ·exact absurd rfl h
  ·rename_i c e;split at h
   ·exact absurd rfl h
   ·rename_i d;exact ⟨c,e,by omega,by omega,by omega,by simp only [if_neg d],by omega⟩
theorem LO{s i a c}(h:Dv s i a 1=some c):128≤bt s (i+1)∧bt s (i+1)≤191∧c=a*64+(bt s (i+1)-128):=by obtain ⟨g,b,d,e,f⟩:=GW (m:=0) h;simp only [Dv,Option.some.injEq] at b;subst b;exact ⟨d,e,by rw [f];simp only [Nat.add_zero];simp only [Nat.add_zero] at d;omega⟩
theorem LP{s i a c}(h:Dv s i a 2=some c):128≤bt s (i+1)∧bt s (i+1)≤191∧128≤bt s (i+2)∧bt s (i+2)≤191∧c=(a*64+(bt s (i+1)-128))*64+(bt s (i+2)-128):=by obtain ⟨l,d,b,e,f⟩:=GW (m:=1) h;obtain ⟨g,j,k⟩:=LO d;exact ⟨g,j,b,e,by rw [f,k];simp only [Nat.add_assoc,Nat.reduceAdd] at b⊢;omega⟩
theorem Nt{s i a c}(h:Dv s i a 3=some c):128≤bt s (i+1)∧bt s (i+1)≤191∧128≤bt s (i+2)∧bt s (i+2)≤191∧128≤bt s (i+3)∧bt s (i+3)≤191∧c=((a*64+(bt s (i+1)-128))*64+(bt s (i+2)-128))*64+(bt s (i+3)-128):=by obtain ⟨o,d,b,e,f⟩:=GW (m:=2) h;obtain ⟨g,j,k,l,n⟩:=LP d;exact ⟨g,j,k,l,b,e,by rw [f,n];simp only [Nat.add_assoc,Nat.reduceAdd] at b⊢;omega⟩
theorem Kr{s i a}(b:128≤bt s (i+1)∧bt s (i+1)≤191):Dv s i a 1=some (a*64+(bt s (i+1)-128)):=by rw [GU (m:=0) (c:=a) rfl b.1 b.2];simp only [Nat.add_zero];exact congrArg some (by omega)
theorem GX{s i a}(c:128≤bt s (i+1)∧bt s (i+1)≤191)(b:128≤bt s (i+2)∧bt s (i+2)≤191):Dv s i a 2=some ((a*64+(bt s (i+1)-128))*64+(bt s (i+2)-128)):=by rw [GU (m:=1) (Kr c) b.1 b.2];simp only [Nat.add_assoc,Nat.reduceAdd];exact congrArg some (by omega)
theorem MG{s i a}(c:128≤bt s (i+1)∧bt s (i+1)≤191)(d:128≤bt s (i+2)∧bt s (i+2)≤191)(b:128≤bt s (i+3)∧bt s (i+3)≤191):Dv s i a 3=some (((a*64+(bt s (i+1)-128))*64+(bt s (i+2)-128))*64+(bt s (i+3)-128)):=by rw [GU (m:=2) (GX c d) b.1 b.2];simp only [Nat.add_assoc,Nat.reduceAdd];exact congrArg some (by omega)
theorem GL{s p}(h:p+3≤s.size):((s.extract p (p+3)).toList=[239,191,189])↔(bt s p=239∧bt s (p+1)=191∧bt s (p+2)=189):=by
 have j:s.data.size=s.size:=rfl;have d:=Ps s p (by omega);have f:=Ps s (p+1) (by omega);have g:=Ps s (p+2) (by omega);have e:(s.extract p (p+3)).toList=[s[p]'(by omega),s[p+1]'(by omega),s[p+2]'(by omega)]:=by
  rw [ByteArray.toList_eq,ByteArray.data_extract];apply List.ext_getElem?;intro i;have q:∀k,(c:p+k<s.size)→s.data[p+k]? =some (s[p+k]'c):=fun k c=>Array.getElem?_eq_getElem (xs:=s.data) c
  have l:min (p+3) s.size-p=3:=by omega
  rcases i with _ | _ | _ | i
  ·have:=q 0 (by omega);simpa using this
  ·have:=q 1 (by omega);simpa using this
  ·have:=q 2 (by omega);simpa using this
  ·simp;omega
 rw [e,d,f,g];simp only [List.cons.injEq,and_true];have u:∀(a b:UInt8),a=b↔a.toNat=b.toNat:=fun a b=>⟨fun h=>by rw [h],fun h=>UInt8.toNat_inj.mp h⟩
 rw [u,u,u];rfl
theorem De{s p}(a:(BW s p).2≠0):Utf8.decode s p=BW s p∧Cy s p (BW s p).1=false:=by
 have u:=QW s p;rw [IW];unfold BW at a⊢;split at a
 ·rename_i h;simp only [if_pos h];exact ⟨trivial,Fo s p _ (by omega)⟩
 rename_i h;simp only [if_neg h];split at a
 ·rename_i f;simp only [if_pos f];obtain ⟨c,b,l,m,n,d,e⟩:=IU a;obtain ⟨i,j,k⟩:=LO b;rw [d,if_pos (by omega),if_pos (by omega)];exact ⟨by simp only [Prod.mk.injEq,and_true];omega,Fo s p _ (by simp only;omega)⟩
 rename_i f;simp only [if_neg f];split at a
 ·rename_i g;simp only [if_pos g];obtain ⟨c,b,l,m,n,d,e⟩:=IU a;obtain ⟨i,j,k,r,t⟩:=LP b;rw [d,if_neg (by omega),if_pos (by omega),if_pos (by omega)];refine ⟨by simp only [Prod.mk.injEq,and_true];omega,?_⟩;simp only;unfold Cy;by_cases q:c=65533
  ·have:=(GL e).2 (by omega);simp [this,e]
  ·simp [q]
 rename_i g;simp only [if_neg g];split at a
 ·rename_i o;simp only [if_pos o];obtain ⟨c,b,l,m,n,d,e⟩:=IU a;obtain ⟨i,j,k,r,t,v,w⟩:=Nt b;rw [d,if_neg (by omega),if_neg (by omega),if_pos (by omega),if_pos (by omega)];refine ⟨by simp only [Prod.mk.injEq,and_true];omega,?_⟩;simp only;have:(c==65533)=false:=by simp;omega
  simp [Cy,this]
 ·exact absurd rfl a
theorem Kw{s p}(f:(BW s p).2=0):Cy s p (Utf8.decode s p).1=true∧Utf8.decode s p=(65533,1):=by
 have x:=QW s p;have u:=fun h=>MA s (p+1) h
 have v:=fun h=>MA s (p+2) h
 have w:=fun h=>MA s (p+3) h
 have d:∀n i e c,Dv s p e (n-1)=some c→n≠0→p+n≤s.size→BW s p=JP s p n i e→¬(c<i∨1114111<c∨(55296≤c∧c<57344))→False:=by intro n i e c m o q r t;rw [r,WK q m t] at f;exact o f
 have j:Utf8.decode s p=(65533,1):=by
  rw [IW];have b:¬bt s p<128:=fun h=>by simp [BW,h] at f
  rw [if_neg b];split
  ·rename_i h;split
   ·exfalso;refine d 2 128 (bt s p-192) _ (Kr h.2) (by decide) ?_ ?_ ?_
    ·by_cases a:p+2≤s.size
     ·exact a
     ·have:=u (by omega);omega
    ·unfold BW;rw [if_neg b,if_pos (by omega)]
    ·omega
   ·rfl
  ·split
   ·rename_i _ h;split
    ·exfalso;refine d 3 2048 (bt s p-224) _ (GX h.2.1 h.2.2) (by decide) ?_ ?_ ?_
     ·by_cases a:p+3≤s.size
      ·exact a
      ·have:=v (by omega);omega
     ·unfold BW;rw [if_neg b,if_neg (by omega),if_pos (by omega)]
     ·omega
    ·rfl
   ·split
    ·rename_i _ h;split
     ·exfalso;refine d 4 65536 (bt s p-240) _ (MG h.2.1 h.2.2.1 h.2.2.2) (by decide) ?_ ?_ ?_
      ·by_cases a:p+4≤s.size
       ·exact a
       ·have:=w (by omega);omega
      ·unfold BW;rw [if_neg b,if_neg (by omega),if_neg (by omega),if_pos (by omega)]
      ·omega
     ·rfl
    ·rfl
 refine ⟨?_,j⟩;rw [j];unfold Cy;by_cases g:p+3≤s.size
 ·by_cases l:(s.extract p (p+3)).toList=[239,191,189]
  ·exfalso;have k:=(GL g).1 l;refine d 3 2048 (bt s p-224) _ (GX (by omega) (by omega)) (by decide) g ?_ ?_
   ·unfold BW;rw [if_neg (by omega),if_neg (by omega),if_pos (by omega)]
   ·omega
  ·simp [l]
 ·simp [g]
def Cs(k:Nat):Nat:=if k=0 then 0 else if k=1 then 1 else if k=2 then 3 else if k≤9 then 2 else 4
def Ai(t:PT):Tk:=⟨t.a9,t.c9,Cs t.kind⟩
def MP(s:ByteArray):Nat ⊕ Sc→Nat ⊕ List Tk
 | .inl q=>.inl q
 | .inr x=>.inr ((CC s s.size x).aU.map Ai)
theorem Io(r:Nat):JV (r:Int)=F7 r:=by
 unfold JV F7;have c:decide ((97:Int)≤r)=decide (97≤r):=decide_eq_decide.mpr (by omega);have d:decide ((r:Int)≤122)=decide (r≤122):=decide_eq_decide.mpr (by omega);have e:decide ((224:Int)≤r)=decide (224≤r):=decide_eq_decide.mpr (by omega);have f:decide ((r:Int)≤255)=decide (r≤255):=decide_eq_decide.mpr (by omega);have g:((r:Int) !=247)=(r !=247):=by
  by_cases h:r=247
  ·subst h;rfl
  ·have a:((r:Int) !=247)=true:=by simp;omega
   have b:(r !=247)=true:=by simp [h]
   rw [a,b]
 rw [c,d,e,f,g]
theorem Jf(r:Nat):Mi (r:Int)=true↔(r=40∨r=41∨r=123∨r=125∨r=59∨r=61∨r=38∨r=42∨r=64∨r=46∨r=63):=by unfold Mi;simp only [Bool.or_eq_true,beq_iff_eq];omega
theorem P6{r:Nat}(h:Mi (r:Int)=true):Cs (Bc r)=4∧Bc r≠0:=by rcases (Jf r).1 h with h | h | h | h | h | h | h | h | h | h | h<;>subst h<;>decide
theorem N3{r}(h:48≤r∧r≤51):Cs (Bc r)=3∧Bc r≠0:=by
 have:r=48∨r=49∨r=50∨r=51:=by omega
 rcases this with h | h | h | h<;>subst h<;>decide
theorem PZ{r:Nat}(a:¬Mi (r:Int)=true)(b:¬(48≤r∧r≤51)):Bc r=0:=by rw [Jf] at a;unfold Bc;simp only [not_or] at a;rw [if_neg (by omega)];simp [a]
theorem QI(l):Cs (CA l)=if YH l=true then 2 else 1:=by
 unfold CA YH;simp only [Bool.or_eq_true,beq_iff_eq];by_cases a:l=[102,110]
 ·simp [a,Cs]
 by_cases b:l=[118,97,114]
 ·simp [b,Cs]
 by_cases c:l=[110,101,119]
 ·simp [c,Cs]
 by_cases d:l=[114,101,116,117,114,110]
 ·simp [d,Cs]
 by_cases e:l=[105,102]
 ·simp [e,Cs]
 by_cases f:l=[101,108,115,101]
 ·simp [f,Cs]
 by_cases g:l=[119,104,105,108,101]
 ·simp [g,Cs]
 simp [a,b,c,d,e,f,g,Cs]
theorem Xe{l}(h:YH l=true):l.length≤6:=by unfold YH at h;simp only [Bool.or_eq_true,beq_iff_eq] at h;rcases h with (((((h | h) | h) | h) | h) | h) | h<;>subst h<;>decide
theorem CT{s e x}(h:x.n6=0):CC s e x=x:=by unfold CC;rw [if_neg (by omega)];cases x;simp only at h;subst h;rfl
theorem CW{s p x}(h:(BW s p).2=0):AI s p (Utf8.decode s p).1 x=(x,p,false):=by simp [AI,(Kw h).1]
theorem VQ(s):∀(n p f g:Nat) (x:Sc),s.size-p≤n→s.size-p≤f→s.size-p≤g→x.rem=true→
 ((IG s g p).2=false→Aw s f p x=.inl (IG s g p).1)∧
 ((IG s g p).2=true→∃d,s.size-(IG s g p).1≤d∧Aw s f p x=Aw s d (IG s g p).1 x∧((IG s g p).1<s.size→bt s (IG s g p).1=10)):=by
 intro n;induction n with
 | zero=> intro p f g x v c k _;rw [QY (by omega)];exact ⟨fun h=>by simp at h,fun _=>⟨f,c,rfl,fun h=>by omega⟩⟩
 | succ n w=>
   intro p f g x v c k i;by_cases a:p<s.size∧bt s p≠10
   ·by_cases b:(BW s p).2=0
    ·rw [WN k a.1 a.2 b];refine ⟨fun _=>?_,fun h=>by simp at h⟩;rw [DR c a.1 (by rw [CW b]),CW b]
    ·obtain ⟨r,u,q⟩:=Py k a.1 a.2 b;obtain ⟨j,t⟩:=De b;have e:(BW s p).1≠10:=fun h=>by have:=Hv b (by omega);omega
     have o:AI s p (Utf8.decode s p).1 x=(x,0,true):=by rw [j];simp only [AI,t,i];cases x;simp only at i;subst i;simp [e]
     obtain ⟨d,m,l⟩:=Cm (x:=x) c a.1 (by rw [o]);rw [o,j] at l;rw [j] at m;have:=w (p+(BW s p).2) d r x (by omega) m u i;rw [q,l];exact this
   ·rw [QY a];exact ⟨fun h=>by simp at h,fun _=>⟨f,c,rfl,fun h=>by
     by_cases e:bt s p=10
     ·exact e
     ·exact absurd ⟨h,e⟩ a⟩⟩
theorem VU(s):∀(n p f g:Nat) (x:Sc),s.size-p≤n→s.size-p≤f→s.size-p≤g→x.rem=false→0<x.n6→x.n6≤8→
 (8<(EH s g p x.n6).2→Aw s f p x=.inl x.start)∧
 ((EH s g p x.n6).2≤8→∃d,s.size-(EH s g p x.n6).1≤d∧Aw s f p x=Aw s d (EH s g p x.n6).1 ⟨x.aU,false,x.start,(EH s g p x.n6).2⟩∧
   ¬((EH s g p x.n6).1<s.size∧(BW s (EH s g p x.n6).1).2≠0∧JV (BW s (EH s g p x.n6).1).1=true)):=by
 intro n;induction n with
 | zero=> intro p f g x E b v a B C;rw [RT (by omega)];refine ⟨fun h=>by simp only at h;omega,fun _=>⟨f,b,?_,fun h=>by simp only at h;omega⟩⟩;cases x;simp only at a;subst a;rfl
 | succ n F=>
   intro p f g x E b v a B C;by_cases l:p<s.size∧(BW s p).2≠0∧JV (BW s p).1=true
   ·obtain ⟨j,w,i⟩:=l;obtain ⟨q,D,m⟩:=QL (k:=x.n6) v j w i;obtain ⟨e,t⟩:=De w;have G:=FO s p j;rw [Io] at i;by_cases r:8<x.n6+1
    ·have H:=Jm s q (p+(BW s p).2) (x.n6+1) (by omega);rw [m];refine ⟨fun _=>?_,fun h=>by omega⟩;have c:AI s p (Utf8.decode s p).1 x=(BG p x,x.start,false):=by rw [e];simp only [AI,t,a,i,if_pos r];simp only [BG,if_neg (by omega:¬x.n6=0)];simp
     rw [DR b j (by rw [c]),c]
    ·have c:AI s p (Utf8.decode s p).1 x=(BG p x,0,true):=by rw [e];simp only [AI,t,a,i,if_neg r];simp
     obtain ⟨d,u,o⟩:=Cm (x:=x) b j (by rw [c])
     rw [c,e] at o
     rw [e] at u
     have:=F (p+(BW s p).2) d q (BG p x) (by omega) u D (by simp [BG,a]) (by simp [BG]) (by simp only [BG];omega)
     rw [m,o]
     have y:(BG p x).n6=x.n6+1:=rfl
     have z:(BG p x).start=x.start:=by simp only [BG,if_neg (by omega:¬x.n6=0)]
     have A:(BG p x).aU=x.aU:=rfl
     rw [y,z,A] at this
     exact this
   ·rw [RT l];refine ⟨fun h=>by simp only at h;omega,fun _=>⟨f,b,?_,l⟩⟩;cases x;simp only at a;subst a;rfl
theorem VR(s e f y)(m:e≤s.size)(n:s.size-e≤f)(l:y.rem=false)(i:¬(e<s.size∧(BW s e).2≠0∧JV (BW s e).1=true)):
 MP s (Aw s f e y)=MP s (Aw s f e (CC s e y)):=by
 by_cases a:e<s.size
 ·have d:(AI s e (Utf8.decode s e).1 y).2=(AI s e (Utf8.decode s e).1 (CC s e y)).2∧((AI s e (Utf8.decode s e).1 y).2.2=true→AI s e (Utf8.decode s e).1 y=AI s e (Utf8.decode s e).1 (CC s e y)):=by
   by_cases b:(BW s e).2=0
   ·rw [CW b,CW b];exact ⟨rfl,fun h=>by simp at h⟩
   ·obtain ⟨j,g⟩:=De b;have k:F7 (BW s e).1=false:=by
     have:¬JV (BW s e).1=true:=fun h=>i ⟨a,b,h⟩
     rw [Io] at this;simpa using this
    have c:AI s e (Utf8.decode s e).1 y=AI s e (Utf8.decode s e).1 (CC s e y):=by rw [j];simp only [AI,g,l,k,UQ,CT (Dq s e y)];simp
    exact ⟨by rw [c],fun _=>c⟩
  cases f with
  | zero=>omega
  | succ f=>
    simp only [Aw,if_pos a];rw [←d.1];split
    ·rename_i h;rw [←d.2 h]
    ·rfl
 ·have:e=s.size:=by omega
  subst this;rw [CP a,CP a];simp only [MP,CT (Dq s s.size y)]
theorem Vi(s):∀(n p f g:Nat) (x:Sc),s.size-p≤n→s.size-p≤f→s.size-p≤g→x.rem=false→x.n6=0→
 C0 s g p (x.aU.map Ai)=MP s (Aw s f p x):=by
 intro n;induction n with
 | zero=> intro p f g x hn C v A m;rw [G5 (by omega),CP (by omega)];simp only [MP,CT m]
 | succ n O=>
   intro p f g x hn C v A m;by_cases a:p<s.size
   case neg=> rw [G5 a,CP a];simp only [MP,CT m]
   by_cases b:(BW s p).2=0
   ·rw [Ft (p:=p) v a (by simp [BZ,b]),DR C a (by rw [CW b]),CW b];rfl
   obtain ⟨l,J⟩:=De b;have b1:=FO s p a;by_cases i:(BW s p).1=32∨(BW s p).1=9∨(BW s p).1=10
   ·obtain ⟨_,u⟩:=Hv b (by omega);obtain ⟨I,D,z⟩:=E9 (acc:=x.aU.map Ai) (t:=none) (j:=p+1) v a (by simp only [BZ,if_neg b,if_pos i]);have y:F7 (BW s p).1=false:=by rcases i with h | h | h<;>rw [h]<;>decide
    have d:AI s p (Utf8.decode s p).1 x=(x,0,true):=by rw [l];simp only [AI,J,A,y,CT m,CR,if_pos i];simp
    obtain ⟨B,r,c⟩:=Cm (x:=x) C a (by rw [d]);rw [d,l,u] at c;rw [l,u] at r;rw [z,c];simp only [Option.toList,List.append_nil];exact O (p+1) B I x (by omega) r D A m
   by_cases o:(BW s p).1=35
   ·obtain ⟨b0,u⟩:=Hv b (by omega);have y:F7 (BW s p).1=false:=by rw [o];decide
    have d:AI s p (Utf8.decode s p).1 x=(⟨x.aU,true,x.start,x.n6⟩,0,true):=by rw [l];simp only [AI,J,A,y,CT m,CR,if_neg i,if_pos o];simp
    obtain ⟨B,r,c⟩:=Cm (x:=x) C a (by rw [d]);rw [d,l,u] at c;rw [l,u] at r;obtain ⟨k,E,H⟩:=Py (f:=s.size) (by omega) a (by omega) b;rw [u] at E H;have Z:=ME s k (p+1) (by omega);obtain ⟨F,G⟩:=VQ s n (p+1) B k ⟨x.aU,true,x.start,x.n6⟩ (by omega) r E rfl;by_cases T:(IG s k (p+1)).2=true
    ·obtain ⟨U,Q,P,Y⟩:=G T;obtain ⟨I,D,z⟩:=E9 (acc:=x.aU.map Ai) (t:=none) (j:=(IG s k (p+1)).1) v a (by simp only [BZ,if_neg b,if_neg i,if_pos o,H,if_pos T]);rw [z,c,P];simp only [Option.toList,List.append_nil];generalize (IG s k (p+1)).1=q at*;by_cases M:q<s.size
     ·have Y:=Y M;have K:BW s q=(10,1):=by unfold BW;rw [if_pos (by omega),Y]
      have a9:(BW s q).2≠0:=by rw [K];decide
      obtain ⟨W,a4⟩:=De a9;have a1:AI s q (Utf8.decode s q).1 ⟨x.aU,true,x.start,x.n6⟩=(⟨x.aU,false,x.start,x.n6⟩,0,true):=by rw [W];simp only [AI,a4];simp [K]
      obtain ⟨f3,a0,e3⟩:=Cm (x:=⟨x.aU,true,x.start,x.n6⟩) Q M (by rw [a1]);obtain ⟨g3,a5,a3⟩:=E9 (acc:=x.aU.map Ai) (t:=none) (j:=q+1) D M (by simp [BZ,K]);rw [a3,e3,a1,W,K];rw [W,K] at a0;simp only [Option.toList,List.append_nil];exact O (q+1) f3 g3 ⟨x.aU,false,x.start,x.n6⟩ (by omega) a0 a5 rfl m
     ·rw [G5 M,CP M];simp only [MP];rw [CT (by exact m)]
    ·have S:(IG s k (p+1)).2=false:=by simpa using T
     rw [c,F S,Ft (p:=(IG s k (p+1)).1) v a (by simp only [BZ,if_neg b,if_neg i,if_pos o,H,if_neg T])];rfl
   by_cases w:JV (BW s p).1=true
   ·have y:=w;rw [Io] at y;have d:AI s p (Utf8.decode s p).1 x=(⟨x.aU,false,p,1⟩,0,true):=by rw [l];simp only [AI,J,A,y,BG,m];simp
    obtain ⟨B,r,c⟩:=Cm (x:=x) C a (by rw [d]);rw [d,l] at c;rw [l] at r;obtain ⟨k,E,H⟩:=QL (f:=s.size) (k:=0) (by omega) a b w;have Z:=Jm s k (p+(BW s p).2) (0+1) (by omega);have b2:=Jm s s.size p 0 (by omega);obtain ⟨F,G⟩:=VU s n (p+(BW s p).2) B k ⟨x.aU,false,p,1⟩ (by omega) r E rfl Nat.one_pos (by simp only;omega);rw [←H] at Z;simp only at F G;rw [show (1:Nat)=0+1 from rfl,←H] at F G;have a6:YH (s.extract p (EH s s.size p 0).1).toList=true→(EH s s.size p 0).2≤8:=by intro h;have:=Xe h;rw [ByteArray.toList_eq] at this;simp at this;have e:s.data.size=s.size:=rfl;omega
    by_cases V:8<(EH s s.size p 0).2
    ·rw [c,F V,Ft (p:=p) v a (by simp only [BZ,if_neg b,if_neg i,if_neg o,if_pos w];rw [if_neg (fun h=>by have:=a6 h;omega),if_pos V])]
     rfl
    ·obtain ⟨U,Q,P,S⟩:=G (by omega);rw [c,P];rw [VR s _ U _ Z.2.1 Q rfl S];have hm:0<(EH s s.size p 0).2:=by omega
     have hE:CC s (EH s s.size p 0).1 ⟨x.aU,false,p,(EH s s.size p 0).2⟩=⟨x.aU++[⟨CA (s.extract p (EH s s.size p 0).1).toList,s.extract p (EH s s.size p 0).1,p⟩],false,p,0⟩:=by simp only [CC,if_pos hm]
     rw [hE];have R:BZ s p=.inr (some (Ai ⟨CA (s.extract p (EH s s.size p 0).1).toList,s.extract p (EH s s.size p 0).1,p⟩),(EH s s.size p 0).1):=by
      simp only [BZ,if_neg b,if_neg i,if_neg o,if_pos w,Ai,QI];by_cases E:YH (s.extract p (EH s s.size p 0).1).toList=true
      ·simp only [if_pos E]
      ·simp only [if_neg E,if_neg V]
     obtain ⟨I,D,z⟩:=E9 (acc:=x.aU.map Ai) v a R;rw [z];have a8:s.size-(EH s s.size p 0).1≤n:=by clear F G O c P S z R;omega
     have:=O (EH s s.size p 0).1 U I ⟨x.aU++[⟨CA (s.extract p (EH s s.size p 0).1).toList,s.extract p (EH s s.size p 0).1,p⟩],false,p,0⟩ a8 Q D rfl rfl;rw [←this];simp
   have y:F7 (BW s p).1=false:=by rw [Io] at w;simpa using w
   have a2:Bc (BW s p).1≠0→(BW s p).1<128→BZ s p=.inr (some (Ai ⟨Bc (BW s p).1,s.extract p (p+1),p⟩),p+1)→C0 s g p (x.aU.map Ai)=MP s (Aw s f p x):=by
    intro X a7 R;obtain ⟨_,u⟩:=Hv b a7;have d:AI s p (Utf8.decode s p).1 x=(⟨x.aU++[⟨Bc (BW s p).1,s.extract p (p+1),p⟩],x.rem,x.start,x.n6⟩,0,true):=by rw [l];simp only [AI,J,A,y,CT m,CR,if_neg i,if_neg o,if_neg X];simp
    obtain ⟨B,r,c⟩:=Cm (x:=x) C a (by rw [d]);rw [d,l,u] at c;rw [l,u] at r;obtain ⟨I,D,z⟩:=E9 (acc:=x.aU.map Ai) v a R;rw [z,c];have:=O (p+1) B I ⟨x.aU++[⟨Bc (BW s p).1,s.extract p (p+1),p⟩],x.rem,x.start,x.n6⟩ (by omega) r D A m;rw [←this];simp
   by_cases L:48≤(BW s p).1∧(BW s p).1≤51
   ·obtain ⟨m1,m2⟩:=N3 L;exact a2 m2 (by omega) (by simp only [BZ,if_neg b,if_neg i,if_neg o,if_neg w,if_pos L,Ai,m1])
   by_cases N:Mi (BW s p).1=true
   ·obtain ⟨m1,m2⟩:=P6 N;exact a2 m2 (by rcases (Jf _).1 N with h | h | h | h | h | h | h | h | h | h | h<;>omega) (by simp only [BZ,if_neg b,if_neg i,if_neg o,if_neg w,if_neg L,if_pos N,Ai,m1])
   ·have X:=PZ N L;have d:AI s p (Utf8.decode s p).1 x=(x,p,false):=by rw [l];simp only [AI,J,A,y,CT m,CR,if_neg i,if_neg o,if_pos X];simp
    rw [Ft (p:=p) v a (by simp only [BZ,if_neg b,if_neg i,if_neg o,if_neg w,if_neg L,if_neg N]),DR C a (by rw [d]),d];rfl
theorem NS(s):C0 s s.size 0 []=MP s (Aw s s.size 0 ⟨[],false,0,0⟩):=
 Vi s s.size 0 s.size s.size ⟨[],false,0,0⟩ (by omega) (by omega) (by omega) rfl rfl
def Cq(k:Nat):List UInt8:=
 if k=3 then [102,110] else if k=4 then [118,97,114] else if k=5 then [110,101,119] else if k=6 then [114,101,116,117,114,110] else if k=7 then [105,102] else if k=8 then [101,108,115,101] else if k=9 then [119,104,105,108,101]
 else if k=10 then [40] else if k=11 then [41] else if k=12 then [123] else if k=13 then [125] else if k=14 then [59] else if k=15 then [61] else if k=16 then [38] else if k=17 then [42] else if k=18 then [64] else if k=19 then [46] else if k=20 then [63] else []
def Wx(t:PT):Prop:=t.kind≤20∧(3≤t.kind→t.a9.toList=Cq t.kind)
theorem NT:∀a,a≤20→3≤a→∀b,b≤20→3≤b→Cq a=Cq b→a=b:=by
 intro a e c b f d h;have:∀a b:Fin 21,3≤a.val→3≤b.val→Cq a=Cq b→a=b:=by decide+kernel
 have:=this ⟨a,by omega⟩ ⟨b,by omega⟩ c d h;exact congrArg Fin.val this
theorem T9(l):CA l≤20∧CA l≠0∧(3≤CA l→l=Cq (CA l)):=by
 unfold CA;repeat' split
 all_goals (refine ⟨by decide,by decide,fun h=>?_⟩)
 all_goals first | (rename_i e;rw [e];rfl) | omega
theorem Vk(r):Bc r≤20:=by
 unfold Bc;repeat' split
 all_goals decide
theorem SX{s p}(a:p<s.size)(h:3≤Bc (Utf8.decode s p).1):(s.extract p (p+1)).toList=Cq (Bc (Utf8.decode s p).1):=by
 have k:(Utf8.decode s p).1<128:=by
  generalize (Utf8.decode s p).1=r at*;by_cases f:r<128
  ·exact f
  ·exfalso;unfold Bc at h;rw [if_neg (by omega),if_neg (by omega),if_neg (by omega),if_neg (by omega),if_neg (by omega),if_neg (by omega),if_neg (by omega),if_neg (by omega),if_neg (by omega),if_neg (by omega),if_neg (by omega),if_neg (by omega)] at h;omega
 have g:(s[p]'a).toNat<128:=by
  by_cases d:(s[p]'a).toNat<128
  ·exact d
  ·have:=(decode_high s p a (by omega)).1;omega
 have e:(s.extract p (p+1)).toList=[s[p]'a]:=by
  rw [ByteArray.toList_eq,ByteArray.data_extract];have j:p<s.data.size:=a;apply List.ext_getElem?;intro i;rcases i with _ | i
  ·have:s.data[p]? =some (s[p]'a):=Array.getElem?_eq_getElem j;simpa using this
  ·simp;omega
 have b:(Utf8.decode s p).1=(s[p]'a).toNat:=by rw [decode_ascii s p a g]
 rw [b] at h⊢;rw [e];generalize s[p]'a=c at*;have:∀n:Fin 256,3≤Bc n→[UInt8.ofNat n]=Cq (Bc n):=by decide+kernel
 have:=this ⟨c.toNat,c.toNat_lt⟩ h;simpa using this
structure Uq(s:ByteArray)(p:Nat)(x:Sc):Prop where
 lit:∀t,t∈x.aU→Wx t∧t.kind≠0∧t.a9.size≤s.size
 bZ:x.aU.Pairwise (fun a b=>a.c9<b.c9)
 top:∀t,t∈x.aU→t.c9<(if 0<x.n6 then x.start else p)
 st:0<x.n6→x.start<p
theorem Uq.more{s p q x}(h:Uq s p x)(c:p≤q):Uq s q x:=
 ⟨h.lit,h.bZ,fun t b=>by have:=h.top t b;split at this<;>split<;>omega,fun a=>by have:=h.st a;omega⟩
theorem Kx(s:ByteArray)(a b:Nat):(s.extract a b).size≤s.size:=by
 have:(s.extract a b).data.size≤s.data.size:=by rw [ByteArray.data_extract];simp;omega
 exact this
theorem Uq.bH{s p x}(h:Uq s p x):Uq s p (CC s p x):=by
 have d:=h.top;unfold Proofs.YtegmjgjkcdbmkaaGreatDoor.CC;split
 ·rename_i e;have f:=h.st e;simp only [if_pos e] at d;obtain ⟨j,k,l⟩:=T9 (s.extract x.start p).toList;refine ⟨fun t c=>?_,?_,fun t c=>?_,fun q=>absurd q (by simp)⟩
  ·rcases List.mem_append.1 c with q | q
   ·exact h.lit t q
   ·rw [List.mem_singleton.1 q];exact ⟨⟨j,l⟩,k,Kx _ _ _⟩
  ·refine List.pairwise_append.2 ⟨h.bZ,by simp,fun a g b i=>?_⟩;rw [List.mem_singleton.1 i];exact d a g
  ·simp only [Nat.lt_irrefl,if_false];rcases List.mem_append.1 c with q | q
   ·have:=d t q;omega
   ·rw [List.mem_singleton.1 q];exact f
 ·rename_i e;simp only [if_neg e] at d;exact ⟨h.lit,h.bZ,fun t c=>by simp only [Nat.lt_irrefl,if_false];exact d t c,fun q=>absurd q (by simp)⟩
theorem V9{s p x}(u:p<s.size)(h:Uq s p x)(f:(AI s p (Utf8.decode s p).1 x).2.2=true):Uq s (p+1) (AI s p (Utf8.decode s p).1 x).1:=by
 unfold AI at f⊢;split
 ·rename_i c;simp [c] at f
 ·split
  ·have:=h.more (Nat.le_succ p);exact ⟨this.lit,this.bZ,this.top,this.st⟩
  ·split
   ·rename_i c m l;simp only [c,m,l,if_true] at f;split
    ·rename_i n;simp [n] at f
    ·refine ⟨h.lit,h.bZ,fun t e=>?_,fun _=>?_⟩
     ·have:=h.top t e;simp only [BG,Nat.zero_lt_succ,if_true];by_cases k:x.n6=0
      ·simp only [k,if_true];rw [k] at this;exact this
      ·simp only [if_neg k];rwa [if_pos (by omega)] at this
     ·simp only [BG];split
      ·omega
      ·have:=h.st (by omega);omega
   ·rename_i c m l;simp only [c,m,l] at f;have d:=h.bH;have j:=Dq s p x;have i:=d.top;rw [j] at i;simp only [Nat.lt_irrefl,if_false] at i;unfold CR;split
    ·exact d.more (by omega)
    ·split
     ·have:=d.more (Nat.le_succ p);exact ⟨this.lit,this.bZ,this.top,this.st⟩
     ·split
      ·exact d.more (by omega)
      ·rename_i r;refine ⟨fun t e=>?_,?_,fun t e=>?_,fun q=>?_⟩
       ·rcases List.mem_append.1 e with q | q
        ·exact d.lit t q
        ·rw [List.mem_singleton.1 q];exact ⟨⟨Vk _,fun g=>SX u g⟩,r,Kx _ _ _⟩
       ·refine List.pairwise_append.2 ⟨d.bZ,by simp,fun a o b c=>?_⟩;rw [List.mem_singleton.1 c];exact i a o
       ·simp only [j,Nat.lt_irrefl,if_false];rcases List.mem_append.1 e with q | q
        ·have:=i t q;omega
        ·rw [List.mem_singleton.1 q];exact Nat.lt_succ_self p
       ·simp only [j] at q;omega
theorem Ss(s p)(a:p<s.size):p+(Utf8.decode s p).2≤s.size:=by
 by_cases b:(BW s p).2=0
 ·rw [(Kw b).2];exact a
 ·rw [(De b).1];exact (FO s p a).1
theorem KZ(s:ByteArray):∀(f p:Nat) (x y:Sc),p≤s.size→Uq s p x→Aw s f p x=.inr y→Uq s s.size y
 | 0,p,x,y,b,h,e=>by have:=Sum.inr.inj e;subst this;exact h.more b
 | f+1,p,x,y,b,h,e=>by
   unfold Aw at e;split at e
   ·rename_i a;have d:=Fp s p a;split at e
    ·rename_i c;exact KZ s f _ _ y (Ss s p a) ((V9 a h c).more (by omega)) e
    ·cases e
   ·have:=Sum.inr.inj e;subst this;exact h.more b
structure TksOk(N:Nat)(l:List PT):Prop where
 pos:0<l.length
 lit:∀t,t∈l→Wx t
 len:∀t,t∈l→t.a9.size≤N∧t.c9≤N
 bZ:l.Pairwise (fun a b=>a.c9<b.c9)
 last:∃t,l[l.length-1]? =some t∧t.kind=0∧t.a9=ByteArray.empty∧t.c9=N
 O:∀i t,i<l.length-1→l[i]? =some t→t.kind≠0
theorem MI(s:ByteArray):s.extract s.size s.size=ByteArray.empty:=by
 apply ByteArray.ext;rw [ByteArray.data_extract];have:s.data.size=s.size:=rfl;apply Array.ext
 ·simp
 ·intro i a b;simp at a
theorem Qo{s y}(h:Aw s s.size 0 ⟨[],false,0,0⟩=.inr y):TksOk s.size (AH s y):=by
 have n:Uq s s.size y:=KZ s _ 0 _ _ (Nat.zero_le _) ⟨by simp,by simp,by simp,by simp⟩ h;have c:=n.bH;have k:=Dq s s.size y;have d:=c.top;rw [k] at d;simp only [Nat.lt_irrefl,if_false] at d;unfold AH;rw [MI];refine ⟨by simp,fun t e=>?_,fun t e=>?_,?_,?_,fun i t j f=>?_⟩
 ·rcases List.mem_append.1 e with q | q
  ·exact (c.lit t q).1
  ·rw [List.mem_singleton.1 q];exact ⟨Nat.zero_le _,fun g=>absurd (show 3≤0 from g) (by decide)⟩
 ·rcases List.mem_append.1 e with q | q
  ·exact ⟨(c.lit t q).2.2,Nat.le_of_lt (d t q)⟩
  ·rw [List.mem_singleton.1 q];exact ⟨Nat.zero_le _,Nat.le_refl _⟩
 ·refine List.pairwise_append.2 ⟨c.bZ,by simp,fun a l b m=>?_⟩;rw [List.mem_singleton.1 m];exact d a l
 ·exact ⟨⟨0,ByteArray.empty,s.size⟩,by simp,rfl,rfl,rfl⟩
 ·simp only [List.length_append,List.length_singleton,Nat.add_sub_cancel] at j;rw [List.getElem?_append_left j] at f;exact (c.lit t (List.mem_of_getElem? f)).2.1
theorem Bn(l i):AC (l.map Ai) i=Ai (Ag l i):=by unfold AC Ag;rw [List.getElem?_map];cases l[i]? <;>rfl
theorem Gb{l i}(h:i<l.length):Ag l i∈l:=by unfold Ag;rw [List.getElem?_eq_getElem h];exact List.getElem_mem h
theorem TksOk.end_{N l}(h:TksOk N l):(Ag l (l.length-1)).kind=0:=by obtain ⟨t,a,b,_⟩:=h.last;unfold Ag;rw [a];exact b
theorem Gu(k):Cs k=1↔k=1:=by
 unfold Cs;repeat' split
 all_goals omega
theorem OJ(k):Cs k=3↔k=2:=by
 unfold Cs;repeat' split
 all_goals omega
theorem Qw(k):Cs k=0↔k=0:=by
 unfold Cs;repeat' split
 all_goals omega
theorem K7(k):(Cs k=2∨Cs k=4)↔3≤k:=by
 unfold Cs;repeat' split
 all_goals omega
theorem SQ:∀k,3≤k→k≤20→Cq k≠[]:=by
 intro k a b;have:∀k:Fin 21,3≤k.val→Cq k≠[]:=by decide+kernel
 exact this ⟨k,by omega⟩ a
theorem NM{t}(h:Wx t){k}(b:3≤k)(a:k≤20):Xb (Ai t) (Cq k)=true↔t.kind=k:=by
 unfold Xb Ai;simp only [Bool.and_eq_true,beq_iff_eq,Bool.or_eq_true];rw [K7];constructor
 ·rintro ⟨e,g⟩;exact NT _ h.1 g _ a b ((h.2 g).symm.trans e)
 ·intro e;exact ⟨by rw [←e];exact h.2 (by omega),by omega⟩
theorem QJ{t}(h:Wx t){k}(b:3≤k)(a:k≤20):Bq (Ai t)=Cq k↔t.kind=k:=by
 unfold Bq Ai;simp only [K7];split
 ·rename_i g;exact ⟨fun e=>NT _ h.1 g _ a b ((h.2 g).symm.trans e),fun e=>by rw [←e];exact h.2 g⟩
 ·rename_i g;exact ⟨fun e=>absurd e.symm (SQ k b a),fun e=>by omega⟩
def Kg(n:Nat)(x:PS)(y:St):Prop:=x.m8=false∧y.aT=none∧y.v9=x.next∧x.next<n
def Mr(n:Nat)(x:PS)(p:Nat):Prop:=x.m8=true∧x.aS=p∧x.next=n-1
def Al(n:Nat)(x:PS)(y:St):Prop:=Kg n x y∨∃p,Mr n x p∧y.aT=some p
section
variable {N : Nat} {j : List PT} (H : TksOk N j)
include H
theorem Ee{k:Nat}(f:k≠0){x:PS}{p:Nat}(h:Mr j.length x p):Mr j.length (Af j j.length k x) p:=by obtain ⟨b,c,d⟩:=h;have a:=H.end_;unfold Af;rw [d,a,if_neg (fun e=>f e.symm)];exact ⟨rfl,by simp [GM,b,c],rfl⟩
theorem KR{x:PS}{p:Nat}(h:Mr j.length x p)(f:Nat)(a:List PT):CJ j f x a=(a,x):=
 Fc (by rw [h.2.2,H.end_];decide)
theorem KQ{x:PS}{p:Nat}(h:Mr j.length x p):Mr j.length (A6 j j.length x).2 p:=by unfold A6;have a:=Ee H (k:=10) (by decide) h;simp only [KR H a];exact Ee H (by decide) a
theorem Vp{x:PS}{p:Nat}(h:Mr j.length x p):Mr j.length (Bw j j.length x).2 p:=by
 have T:=fun (k:Nat) (a:k≠0) {x:PS} (h:Mr j.length x p)=>Ee H a h
 unfold Bw;split
 ·exact T 5 (by decide) h
 ·split
  ·unfold DM;simp only;split
   ·exact T 2 (by decide) (T 19 (by decide) (T 1 (by decide) (T 16 (by decide) h)))
   ·exact T 1 (by decide) (T 16 (by decide) h)
  ·split
   ·exact T 1 (by decide) (T 17 (by decide) h)
   ·split
    ·exact T 1 (by decide) (T 18 (by decide) h)
    ·split
     ·exact KQ H (T 11 (by decide) (T 1 (by decide) (T 17 (by decide) (T 10 (by decide) h))))
     ·split
      ·exact KQ H (T 1 (by decide) h)
      ·exact T 1 (by decide) h
omit H in
theorem CN(T L){y p}(h:y.aT=some p):(Ay T L y).aT=some p:=by unfold Ay JS;simp [DQ,h,Hz]
omit H in
theorem Iy(T k){y p}(h:y.aT=some p):(Ce T k y).2.aT=some p:=by unfold Ce JU;simp [h,Hz]
omit H in
theorem Ot(T f b p a):DO T f b (some p) a=(a,b,some p):=Jc (by simp)
omit H in
theorem Gs(T){y p}(h:y.aT=some p):(CY T y).2.aT=some p:=by unfold CY F8;simp only [h,Ot];simp [JS,DQ,Hz]
omit H in
theorem Ou(T){y p}(s)(h:y.aT=some p):(Hg T y s).2.aT=some p:=by
 have E:=fun (L:List UInt8) {y:St} (h:y.aT=some p)=>CN T L h
 have G:=fun (k:Nat) {y:St} (h:y.aT=some p)=>Iy T k h
 have I:=fun {y:St} (h:y.aT=some p)=>Gs T h
 unfold Hg;split
 ·exact E _ h
 ·split
  ·simp only;split
   ·exact G _ (E _ (G _ (E _ h)))
   ·exact G _ (E _ h)
  ·split
   ·exact G _ (E _ h)
   ·split
    ·exact G _ (E _ h)
    ·split
     ·exact I (y:=⟨_,_,_,_⟩) (E _ (E _ (G _ (E _ (E _ h)))))
     ·simp only;split
      ·exact I (E _ (G _ h))
      ·exact G _ h
theorem GS{k:Nat}(l:3≤k)(i:k≤20){x:PS}{y:St}(h:Al j.length x y):Al j.length (Af j j.length k x) (Ay (j.map Ai) (Cq k) y):=by
 rcases h with ⟨d,b,m,n⟩ | ⟨p,o,r⟩
 ·have q:=H.lit _ (Gb n);have f:=NM q l i;have g:=H.end_;unfold Af Ay JS;rw [m,Bn];by_cases a:(Ag j x.next).kind=k
  ·have c:DQ y.aT (Ai (Ag j x.next)) (Cq k)=true:=by simp [DQ,b,f.2 a]
   rw [if_pos a,if_neg (by omega),if_pos c];have s:x.next≠j.length-1:=fun e=>by rw [e,g] at a;omega
   exact .inl ⟨d,b,rfl,by simp only;omega⟩
  ·have c:¬DQ y.aT (Ai (Ag j x.next)) (Cq k)=true:=by simp only [DQ,Bool.and_eq_true,not_and];intro _ e;exact a (f.1 e)
   rw [if_neg a,if_neg c]
   exact .inr ⟨(Ag j x.next).c9,⟨rfl,by simp [GM,d],rfl⟩,by simp [Hz,b,Ai]⟩
 ·exact .inr ⟨p,Ee H (by omega) o,CN _ _ r⟩
theorem Mv{k so:Nat}(n:(k=1∧so=1)∨(k=2∧so=3)){x:PS}{y:St}(h:Al j.length x y):Al j.length (Af j j.length k x) (Ce (j.map Ai) so y).2∧(Ce (j.map Ai) so y).1=Ai (Ax j k x):=by
 rcases h with ⟨d,b,m,o⟩ | ⟨p,f,i⟩
 ·have g:Cs (Ag j x.next).kind=so↔(Ag j x.next).kind=k:=by
   rcases n with ⟨rfl,rfl⟩ | ⟨rfl,rfl⟩
   ·exact Gu _
   ·exact OJ _
  have l:=H.end_
  unfold Af Ce JU Ax
  rw [m,Bn]
  by_cases a:(Ag j x.next).kind=k
  ·have c:y.aT.isNone=true∧(Ai (Ag j x.next)).sort=so:=⟨by simp [b],g.2 a⟩
   simp only [if_pos a,if_pos c];rw [if_neg (by omega)];have q:x.next≠j.length-1:=fun e=>by rw [e,l] at a;omega
   exact ⟨.inl ⟨d,b,rfl,by simp only;omega⟩,trivial⟩
  ·have c:¬(y.aT.isNone=true∧(Ai (Ag j x.next)).sort=so):=fun e=>a (g.1 e.2)
   simp only [if_neg a,if_neg c];exact ⟨.inr ⟨(Ag j x.next).c9,⟨rfl,by simp [GM,d],rfl⟩,by simp [Hz,b,Ai]⟩,rfl⟩
 ·refine ⟨.inr ⟨p,Ee H (by omega) f,Iy _ _ i⟩,?_⟩;unfold Ce JU Ax;rw [if_neg (by simp [i]),if_neg (by rw [f.2.2,H.end_];omega)];rfl
theorem Gi{k:Nat}(c:3≤k)(b:k≤20){x:PS}{y:St}(h:Al j.length x y):DQ y.aT (AC (j.map Ai) y.v9) (Cq k)=true↔(Ag j x.next).kind=k:=by
 rcases h with ⟨i,a,d,e⟩ | ⟨p,f,g⟩
 ·rw [d,Bn,←NM (H.lit _ (Gb e)) c b];simp [DQ,a]
 ·rw [f.2.2,H.end_];simp [DQ,g];omega
theorem Gp{k:Nat}(b:3≤k)(a:k≤20){x:PS}{y:St}(h:Kg j.length x y):Bq (AC (j.map Ai) y.v9)=Cq k↔(Ag j x.next).kind=k:=by obtain ⟨e,f,c,d⟩:=h;rw [c,Bn];exact QJ (H.lit _ (Gb d)) b a
theorem Va:∀(m f g:Nat) (x:PS) (a:List PT),j.length-1-x.next≤m→j.length-1-x.next≤f→j.length-1-x.next≤g→x.next<j.length→
 DO (j.map Ai) g x.next none (a.map Ai)=((CJ j f x a).1.map Ai,(CJ j f x a).2.next,none)∧(CJ j f x a).2.m8=x.m8∧(CJ j f x a).2.aS=x.aS∧(CJ j f x a).2.next<j.length:=by
 intro m;induction m with
 | zero=>
   intro f g x a s h i b;have e:x.next=j.length-1:=by omega
   have d:=H.end_;rw [←e] at d;rw [Fc (by rw [d];decide),Jc (by rw [Bn];simp [Ai,d,Cs])];exact ⟨rfl,rfl,rfl,b⟩
 | succ m v=>
   intro f g x a s h i b;by_cases c:(Ag j x.next).kind=1
   ·obtain ⟨k,q,l,n⟩:=Rv (acc:=a) h b H.end_ c;have u:(AC (j.map Ai) ((j.length)-1)).sort=0:=by rw [Bn];simp [Ai,H.end_,Cs]
    have t:(AC (j.map Ai) x.next).sort=1:=by rw [Bn];exact (Gu _).2 c
    obtain ⟨_,r,o,p⟩:=Xi (acc:=a.map Ai) i b u ⟨rfl,t⟩;rw [n,p];have:=v q r ⟨x.next+1,x.m8,x.aS⟩ (a++[Ag j x.next]) (by simp only;omega) l o k;rw [List.map_append,List.map_singleton,←Bn] at this;exact this
   ·rw [Fc c,Jc (by rw [Bn];intro e;exact c ((Gu _).1 e.2))];exact ⟨rfl,rfl,rfl,b⟩
theorem Mw{x:PS}{y:St}(h:Al j.length x y):Al j.length (Af j j.length 11 (CJ j j.length x []).2) (CY (j.map Ai) y).2∧(CY (j.map Ai) y).1=(CJ j j.length x []).1.map Ai:=by
 rcases h with ⟨i,l,m,n⟩ | ⟨p,f,g⟩
 ·obtain ⟨a,b,c,d⟩:=Va H j.length j.length j.length x [] (by omega) (by omega) (by omega) n;have e:=GS H (k:=11) (by decide) (by decide) (x:=(CJ j j.length x []).2) (y:=⟨(CJ j j.length x []).2.next,none,y.pl,y.ca⟩) (.inl ⟨by rw [b,i],rfl,rfl,d⟩);unfold CY F8;rw [m,l];simp only [List.length_map];rw [List.map_nil] at a;rw [a];exact ⟨e,rfl⟩
 ·refine ⟨.inr ⟨p,?_,Gs _ g⟩,?_⟩
  ·rw [KR H f];exact Ee H (by decide) f
  ·rw [KR H f];unfold CY F8;simp only [g,Ot];rfl
end
def Yb(k:Nat):Nat:=if k=4 then 6 else if k=5 then 5 else k+1
structure VC(v:VS)(u s:FS):Prop where
 kind:u.kind=Yb v.kind
 q:u.q=Ai v.sr
 args:u.args=v.args.map Ai
 field:v.kind=3→u.field=v.field
 p:u.p=s.p
 bD:u.bD=s.bD
 other:u.other=s.other
 br:u.br=s.br
 cG:u.cG=s.cG
 aW:u.aW=s.aW
theorem Su{t}(h:Yk t)(f:t.kind=2)(a):WS t.a9.toList a 4=GE t:=by
 have e:∀c:UInt8,(⟨#[c]⟩:ByteArray).toList=[c]:=fun c=>by rw [ByteArray.toList_eq]
 rcases h f with q | q | q | q<;>(unfold GE;rw [q,e];simp [WS])
section
variable {N : Nat} {b : List PT} (H : TksOk N b) (d : DigOk b)
include H d
omit H d in
theorem Fi{k x}(h:(Af b b.length k x).m8=false):(Ag b x.next).kind=k∧x.m8=false∧Ax b k x=Ag b x.next:=by
 unfold Af at h;split at h
 ·rename_i a;refine ⟨a,?_,by unfold Ax;rw [if_pos a]⟩;split at h<;>exact h
 ·simp [GM] at h
theorem Yt{x:PS}{y:St}(s:FS)(j:s.args=[])(X:s.q=Wf)(h:Kg b.length x y):
 Al b.length (Bw b b.length x).2 (Hg (b.map Ai) y s).2∧((Bw b b.length x).2.m8=false→VC (Bw b b.length x).1 (Hg (b.map Ai) y s).1 s):=by
 have A:Al b.length x y:=.inl h;have W:=fun (k:Nat) (z:3≤k) (w:k≤20)=>Gp H z w h
 have K:=W 5 (by decide) (by decide);have F:=W 16 (by decide) (by decide);have I:=W 17 (by decide) (by decide);have J:=W 18 (by decide) (by decide);have D:=W 10 (by decide) (by decide);have E:=fun (k:Nat) (z:3≤k) (w:k≤20) {x:PS} {y:St} (h:Al b.length x y)=>GS H z w h
 have G:=fun {x:PS} {y:St} (h:Al b.length x y)=>Mv H (k:=1) (so:=1) (by decide) h
 simp only [Cq,Nat.reduceEqDiff,if_true,if_false] at K F I J D;unfold Hg Bw;by_cases t:(Ag b x.next).kind=5
 ·rw [if_pos (K.2 t),if_pos t];have c:=E 5 (by decide) (by decide) A;refine ⟨?_,fun _=>⟨rfl,X,j,fun e=>absurd e (by simp),rfl,rfl,rfl,rfl,rfl,rfl⟩⟩;rcases c with a | a
  ·exact .inl a
  ·exact .inr a
 rw [if_neg (fun e=>t (K.1 e)),if_neg t];by_cases n:(Ag b x.next).kind=16
 ·rw [if_pos (F.2 n),if_pos n];have c:=E 16 (by decide) (by decide) A;obtain ⟨f,i⟩:=G c;have C:=Gi H (k:=19) (by decide) (by decide) f;simp only [Cq,Nat.reduceEqDiff,if_true,if_false] at c f i C;unfold DM;by_cases r:(Ag b (Af b b.length 1 (Af b b.length 16 x)).next).kind=19
  ·simp only [if_pos (C.2 r),if_pos r];have g:=E 19 (by decide) (by decide) f;obtain ⟨L,O⟩:=Mv H (k:=2) (so:=3) (by decide) g;simp only [Cq,Nat.reduceEqDiff,if_true,if_false] at g L O;refine ⟨L,fun U=>⟨rfl,i,j,fun _=>?_,rfl,rfl,rfl,rfl,rfl,rfl⟩⟩;obtain ⟨T,g2,P⟩:=Fi U;rw [O];simp only [Ai];have V:(Af b b.length 19 (Af b b.length 1 (Af b b.length 16 x))).next<b.length:=by
    rcases g with a | ⟨p,a,_⟩
    ·exact a.2.2.2
    ·have:=a.2.2;have:=H.pos;omega
   exact Su (by rw [P];exact d _ (Gb V)) (by rw [P];exact T) _
  ·simp only [if_neg (fun e=>r (C.1 e)),if_neg r];exact ⟨f,fun _=>⟨rfl,i,j,fun e=>absurd e (by simp),rfl,rfl,rfl,rfl,rfl,rfl⟩⟩
 rw [if_neg (fun e=>n (F.1 e)),if_neg n];by_cases o:(Ag b x.next).kind=17
 ·rw [if_pos (I.2 o),if_pos o];have c:=E 17 (by decide) (by decide) A;obtain ⟨f,i⟩:=G c;exact ⟨f,fun _=>⟨rfl,i,j,fun e=>absurd e (by simp),rfl,rfl,rfl,rfl,rfl,rfl⟩⟩
 rw [if_neg (fun e=>o (I.1 e)),if_neg o];by_cases q:(Ag b x.next).kind=18
 ·rw [if_pos (J.2 q),if_pos q];have c:=E 18 (by decide) (by decide) A;obtain ⟨f,i⟩:=G c;exact ⟨f,fun _=>⟨rfl,i,j,fun e=>absurd e (by simp),rfl,rfl,rfl,rfl,rfl,rfl⟩⟩
 rw [if_neg (fun e=>q (J.1 e)),if_neg q];by_cases m:(Ag b x.next).kind=10
 ·rw [if_pos (D.2 m),if_pos m];have f:=E 17 (by decide) (by decide) (E 10 (by decide) (by decide) A);obtain ⟨g,v⟩:=G f;have M:=E 10 (by decide) (by decide) (E 11 (by decide) (by decide) g);unfold GI A6;generalize Y:Ay (b.map Ai) (Cq 10) (Ay (b.map Ai) (Cq 11) (Ce (b.map Ai) 1 (Ay (b.map Ai) (Cq 17) (Ay (b.map Ai) (Cq 10) y))).2)=l at M;have Z:Ay (b.map Ai) [40] (Ay (b.map Ai) [41] (Ce (b.map Ai) 1 (Ay (b.map Ai) [42] (Ay (b.map Ai) [40] y))).2)=l:=Y;simp only;rw [Z];have Q:Al b.length (Af b b.length 10 (Af b b.length 11 (Af b b.length 1 (Af b b.length 17 (Af b b.length 10 x))))) ⟨l.v9,l.aT,l.pl,l.ca+1⟩:=M;obtain ⟨R,S⟩:=Mw H Q;exact ⟨R,fun _=>⟨rfl,v,S,fun e=>absurd e (by simp),rfl,rfl,rfl,rfl,rfl,rfl⟩⟩
 rw [if_neg (fun e=>m (D.1 e)),if_neg m];obtain ⟨c,N⟩:=G A;have B:=Gi H (k:=10) (by decide) (by decide) c;simp only [Cq,Nat.reduceEqDiff,if_true,if_false] at B;by_cases u:(Ag b (Af b b.length 1 x).next).kind=10
 ·simp only [if_pos (B.2 u),if_pos u];have f:=E 10 (by decide) (by decide) c;obtain ⟨g,v⟩:=Mw H f;unfold A6;exact ⟨g,fun _=>⟨rfl,N,v,fun e=>absurd e (by simp),rfl,rfl,rfl,rfl,rfl,rfl⟩⟩
 ·simp only [if_neg (fun e=>u (B.1 e)),if_neg u];exact ⟨c,fun _=>⟨rfl,N,j,fun e=>absurd e (by simp),rfl,rfl,rfl,rfl,rfl,rfl⟩⟩
structure SC(v:VS)(u:FS)(inn:Nat):Prop where
 kind:u.kind=Yb v.kind
 bA:v.kind≤10
 p:u.p=Ai v.tg
 q:u.q=Ai v.sr
 args:u.args=v.args.map Ai
 field:v.kind=3→u.field=v.field
 aW:u.aW=inn
omit H d in
theorem OU(b n x):1≤(Bw b n x).1.kind∧(Bw b n x).1.kind≤8:=by
 unfold Bw;split
 ·simp
 ·split
  ·unfold DM;simp only;split<;>simp
  ·split
   ·simp
   ·split
    ·simp
    ·split
     ·simp [GI]
     ·split<;>simp
theorem Uu{x:PS}{y:St}(g:Nat)(h:Kg b.length x y):
 Al b.length (AF b b.length x).2 (C5 (b.map Ai) g y).2∧((AF b b.length x).2.m8=false→SC (AF b b.length x).1 (C5 (b.map Ai) g y).1 g):=by
 have A:Al b.length x y:=.inl h;have W:=fun (k:Nat) (n:3≤k) (m:k≤20)=>Gp H n m h
 have q:=W 4 (by decide) (by decide);have r:=W 6 (by decide) (by decide);have o:=W 17 (by decide) (by decide);have E:=fun (k:Nat) (n:3≤k) (m:k≤20) {x:PS} {y:St} (h:Al b.length x y)=>GS H n m h
 have G:=fun {x:PS} {y:St} (h:Al b.length x y)=>Mv H (k:=1) (so:=1) (by decide) h
 simp only [Cq,Nat.reduceEqDiff,if_true,if_false] at q r o;unfold C5 AF;by_cases j:(Ag b x.next).kind=4
 ·rw [if_pos (q.2 j),if_pos j];obtain ⟨a,c⟩:=G (E 4 (by decide) (by decide) A);exact ⟨a,fun _=>⟨rfl,by simp only;omega,c,rfl,rfl,fun e=>absurd e (by simp),rfl⟩⟩
 rw [if_neg (fun e=>j (q.1 e)),if_neg j];by_cases l:(Ag b x.next).kind=6
 ·rw [if_pos (r.2 l),if_pos l];obtain ⟨a,c⟩:=G (E 6 (by decide) (by decide) A);exact ⟨a,fun _=>⟨rfl,by simp only;omega,rfl,c,rfl,fun e=>absurd e (by simp),rfl⟩⟩
 rw [if_neg (fun e=>l (r.1 e)),if_neg l];by_cases i:(Ag b x.next).kind=17
 ·rw [if_pos (o.2 i),if_pos i];obtain ⟨a,c⟩:=G (E 17 (by decide) (by decide) A);obtain ⟨w,F⟩:=G (E 15 (by decide) (by decide) a);exact ⟨w,fun _=>⟨rfl,by simp only;omega,c,F,rfl,fun e=>absurd e (by simp),rfl⟩⟩
 rw [if_neg (fun e=>i (o.1 e)),if_neg i];obtain ⟨t,C⟩:=G A;have a:=E 15 (by decide) (by decide) t;have I:=OU b b.length (Af b b.length 15 (Af b b.length 1 x));simp only;rcases a with a | ⟨p,z,B⟩
 ·obtain ⟨u,D⟩:=Yt H d {EN g (-1) with p:=(Ce (b.map Ai) 1 y).1} rfl rfl a;refine ⟨u,fun f=>?_⟩;have v:=D f;exact ⟨v.kind,by simp only;omega,v.p.trans C,v.q,v.args,v.field,v.aW⟩
 ·have s:=Vp H z;refine ⟨.inr ⟨p,s,Ou _ _ B⟩,fun f=>?_⟩;rw [s.1] at f;cases f
end
end Go.Proofs.YtegmjgjkcdbmkaaGreatDoor

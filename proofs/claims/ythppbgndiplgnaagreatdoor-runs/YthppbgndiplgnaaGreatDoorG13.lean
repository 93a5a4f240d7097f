/- One of the texts of the proof of runs_card_holds: MbE EqB EqC EqD. -/
import Derived.Test.YthppbgndiplgnaaGreatDoorG12
namespace Go.Proofs.YthppbgndiplgnaaGreatDoor
def S7(b:ByteArray):Prop:=∀x,x∈b.data.toList→97≤x.toNat
def XV(t:PT):Prop:=t.kind=1→S7 t.i6
def Rk(l:List PT):Prop:=∀t,t∈l→XV t
theorem KA:S7 ByteArray.empty:=fun x a=>dC a (by show¬x∈([]:List UInt8);simp)
theorem Rk.snoc{l t}(h:Rk l)(b:XV t):Rk (l++[t]):=by
 intro u d;rcases bZ.1 d with a | a
 ·exact h u a
 ·rw [bO.1 a];exact b
theorem NX{s a b}(h:∀k,a≤k→k<b→97≤bt s k):S7 (s.extract a b):=by intro x d;rw [dF,Array.mem_toList_iff,Array.mem_iff_getElem] at d;obtain ⟨i,e,rfl⟩:=d;rw [Array.getElem_extract];have f:i<(s.data.extract a b).size:=e;rw [Array.size_extract] at f;have q:=h (a+i) (by omega) (by omega);unfold bt at q;rw [Array.getElem?_eq_getElem (by omega)] at q;exact q
theorem RD{s p}(h:Ja (Utf8.decode s p).1=true):∀k,p≤k→k<p+(Utf8.decode s p).2→97≤bt s k:=by
 intro k g a;rw [IW] at h a;have b:∀r:Nat,Ja r=true→97≤r∧r≤255:=fun r q=>by unfold Ja at q;simp only [Bool.or_eq_true,Bool.and_eq_true,cQ] at q;omega
 split at h
 ·rename_i d;rw [cU d] at a;have:=b _ h;simp only at this a;have:k=p:=by omega
  subst this;omega
 ·rename_i d;rw [cT d] at a;split at h
  ·rename_i e;rw [cU e] at a;split at h
   ·rename_i f;rw [cU f] at a;simp only at a;have:k=p∨k=p+1:=by omega
    rcases this with rfl | rfl
    ·omega
    ·omega
   ·exact dC (b _ h) (by simp)
  ·split at h
   ·split at h
    ·have:=b _ h;simp only at this;omega
    ·exact dC (b _ h) (by simp)
   ·split at h
    ·split at h
     ·have:=b _ h;simp only at this;omega
     ·exact dC (b _ h) (by simp)
    ·exact dC (b _ h) (by simp)
structure Hh(s:ByteArray)(p:Nat)(x:Sc):Prop where
 wd:Rk x.Yq
 rm:x.rem=true→x.Yb=0
 lt:0<x.Yb→∀k,x.start≤k→k<p→97≤bt s k
theorem Hh.YG{s p x}(h:Hh s p x):Rk (Da s p x).Yq∧(Da s p x).Yb=0:=by
 unfold Proofs.YthppbgndiplgnaaGreatDoor.Da;split
 ·rename_i a;exact ⟨h.wd.snoc (fun _=>NX (h.lt a)),rfl⟩
 ·exact ⟨h.wd,rfl⟩
theorem RJ(r):BI r≠1:=by
 unfold BI;repeat' split
 all_goals decide
theorem SP{s p x}(h:Hh s p x)(a:(AU s p (Utf8.decode s p).1 x).2.2=true):Hh s (p+(Utf8.decode s p).2) (AU s p (Utf8.decode s p).1 x).1:=by
 unfold AU at a⊢;split at a
 ·cases a
 rename_i n;rw [cT n];split at a
 ·rename_i b;rw [cU b];have q:=h.rm b;exact ⟨h.wd,fun _=>q,fun r=>by simp only at r;omega⟩
 rename_i b;rw [cT b];split at a
 ·rename_i d;rw [cU d];split at a
  ·cases a
  rename_i m;rw [cT m];refine ⟨h.wd,fun q=>dC q b,fun _ k j o=>?_⟩;rcases cJ k p with q | q
  ·simp only [Cs] at j;split at j
   ·omega
   ·exact h.lt (by omega) k j q
  ·exact RD d k q o
 ·rename_i d;rw [cT d];obtain ⟨e,f⟩:=h.YG;unfold Dz at a⊢;split at a
  ·rename_i g;rw [cU g];exact ⟨e,fun _=>f,fun q=>by simp only at q;omega⟩
  rename_i g;rw [cT g];split at a
  ·rename_i i;rw [cU i];exact ⟨e,fun _=>f,fun q=>by simp only at q;omega⟩
  rename_i i;rw [cT i];split at a
  ·cases a
  rename_i l;rw [cT l];exact ⟨e.snoc (fun q=>dC q (RJ _)),fun _=>f,fun q=>by simp only at q;omega⟩
theorem JD(s:ByteArray):∀(f p:Nat) (x y:Sc),s.size-p≤f→Hh s p x→AK s f p x=.inr y→∃q,s.size≤q∧Hh s q y
 | 0,p,x,y,a,h,e=>by have:=Sum.inr.inj e;subst this;exact ⟨p,by omega,h⟩
 | f+1,p,x,y,a,h,e=>by
   unfold AK at e;split at e
   ·rename_i d;split at e
    ·rename_i b;have:=FO s p d;exact JD s f _ _ y (by omega) (SP h b) e
    ·cases e
   ·have:=Sum.inr.inj e;subst this;exact ⟨p,by omega,h⟩
theorem Qk{s y}(h:AK s s.size 0 ⟨[],false,0,0⟩=.inr y):Rk (AC s y):=by obtain ⟨q,j,a⟩:=JD s _ _ _ _ (by omega) ⟨fun _ g=>dC g (by simp),fun _=>rfl,fun q=>by simp only at q;omega⟩ h;have e:Hh s s.size y:=⟨a.wd,a.rm,fun b k d i=>a.lt b k d (by omega)⟩;exact e.YG.1.snoc (fun f=>dC (show (0:Nat)=1 from f) (by decide))
section
variable {toks : List PT} {Q : ByteArray → Prop} (H : ∀ t, t ∈ toks → t.kind = 1 → Q t.i6) (c : Q ByteArray.empty)
include H c
theorem Uu{p:Nat}(h:(Aj toks p).kind=1):Q (Aj toks p).i6:=by
 rcases cJ p toks.length with q | q
 ·have e:Aj toks p=toks[p]:=by unfold Aj;rw [aY q];rfl
  rw [e] at h⊢;exact H _ (bD _) h
 ·unfold Aj;rw [bV q];exact c
theorem GY(x:PS):Q (AH toks 1 x).i6:=by
 unfold AH;split
 ·rename_i h;exact Uu H c h
 ·exact c
theorem QX:∀(f:Nat) (x:PS) (a:List PT),(∀t,t∈a→Q t.i6)→∀t,t∈(Dx toks f x a).1→Q t.i6
 | 0,_,_,h=>h
 | f+1,x,a,h=>by
   rw [Dx];split
   ·rename_i b;refine QX f _ _ (fun t d=>?_);rcases bZ.1 d with q | q
    ·exact h t q
    ·rw [bO.1 q];exact Uu H c b
   ·exact h
theorem Sb(n:Nat)(x:PS):∀t,t∈(Bm toks n x).1→Q t.i6:=by unfold Bm;exact QX H c _ _ _ (fun t a=>dC a bU)
theorem Sj(n:Nat)(x:PS):Q (AX toks n x).1.tg.i6:=by
 unfold AX;split
 ·exact GY H c _
 ·split
  ·exact c
  ·split
   ·exact GY H c _
   ·exact GY H c _
omit H c in
theorem TD:∀(a b:List TS),dL (a++b)=dL a++dL b
 | [],b=>by simp [dL]
 | t::a,b=>by simp [dL,TD a b]
theorem J8(n:Nat):∀f:Nat,(∀(x:PS) (d:List TS),(∀s,s∈dL d→Q s)→∀s,s∈dL (AO toks n f x d).1→Q s)∧(∀(x:PS),∀s,s∈dS (Bt toks n f x).1→Q s)
 | 0=>⟨fun x d h=>by rw [AO];exact h,fun x s a=>by rw [Bt] at a;simp only [dS,dB,Eo,if_true,cC,bO] at a;subst a;exact c⟩
 | f+1=>by
   obtain ⟨b,e⟩:=J8 n f;have b:=fun x=>b x [] (fun s a=>dC a (by simp [dL]))
   refine ⟨fun x d h=>?_,fun x s a=>?_⟩
   ·rw [AO];split
    ·refine (J8 n f).1 _ _ (fun s a=>?_);rw [TD] at a;rcases bZ.1 a with q | q
     ·exact h s q
     ·simp only [dL,cC] at q;exact e _ s q
    ·exact h
   ·rw [Bt] at a;split at a
    ·simp only at a;split at a
     ·simp only [dS,dB,Eo,cC,bZ] at a;rcases a with q | q | q
      ·exact dC q (by simp)
      ·exact b _ s q
      ·exact b _ s q
     ·simp only [dS,dB,Eo,cC,bZ] at a;rcases a with q | q
      ·exact dC q (by simp)
      ·exact b _ s q
    ·split at a
     ·simp only [dS,dB,Eo,cC,bZ] at a;rcases a with q | q
      ·exact dC q (by simp)
      ·exact b _ s q
     ·simp only [dS,dB,cC] at a;split at a
      ·rw [bO] at a;subst a;exact Sj H c n x
      ·exact dC a bU
def Th(Q:ByteArray→Prop)(t:TF):Prop:=Q t.name.i6∧(∀p,p∈t.p8→Q p.i6)∧∀s,s∈dL t.Yg→Q s
theorem TP(n:Nat)(x:PS):Th Q (IM toks n x).1:=by unfold IM;exact ⟨GY H c _,Sb H c n _,(J8 H c n _).1 _ [] (fun s a=>dC a (by simp [dL]))⟩
theorem QM(n:Nat):∀(f:Nat) (x:PS) (a:List TF),(∀t,t∈a→Th Q t)→∀t,t∈(DZ toks n f x a).1→Th Q t
 | 0,_,_,h=>by rw [DZ];exact h
 | f+1,x,a,h=>by
   rw [DZ];split
   ·refine QM n f _ _ (fun t b=>?_);rcases bZ.1 b with q | q
    ·exact h t q
    ·rw [bO.1 q];exact TP H c n x
   ·exact h
theorem Up(n:Nat)(x:PS):∀t,t∈(Dv toks n x).1→Th Q t:=by unfold Dv;refine QM H c n n _ _ (fun t a=>?_);rw [bO.1 a];exact TP H c n x
end
def CO(k:Nat):Nat:=if k=0 then 0 else if k=1 then 1 else if k=2 then 3 else if k≤9 then 2 else 4
def An(t:PT):Tk:=⟨t.i6,t.i9,CO t.kind⟩
def MN(s:ByteArray):Nat ⊕ Sc→Nat ⊕ List Tk
 | .inl q=>.inl q
 | .inr x=>.inr ((Da s s.size x).Yq.map An)
theorem Iw(r:Nat):Gj (r:Int)=Ja r:=by
 unfold Gj Ja;have c:decide ((97:Int)≤r)=decide (97≤r):=decide_eq_decide.mpr (by omega);have d:decide ((r:Int)≤122)=decide (r≤122):=decide_eq_decide.mpr (by omega);have e:decide ((224:Int)≤r)=decide (224≤r):=decide_eq_decide.mpr (by omega);have f:decide ((r:Int)≤255)=decide (r≤255):=decide_eq_decide.mpr (by omega);have g:((r:Int) !=247)=(r !=247):=by
  by_cases h:r=247
  ·subst h;rfl
  ·have a:((r:Int) !=247)=true:=by simp;omega
   have b:(r !=247)=true:=by simp [h]
   rw [a,b]
 rw [c,d,e,f,g]
theorem Ji(r:Nat):GD (r:Int)=true↔(r=40∨r=41∨r=123∨r=125∨r=59∨r=61∨r=38∨r=42∨r=64∨r=46∨r=63):=by unfold GD;simp only [Bool.or_eq_true,beq_iff_eq];omega
theorem Px{r:Nat}(h:GD (r:Int)=true):CO (BI r)=4∧BI r≠0:=by rcases (Ji r).1 h with h | h | h | h | h | h | h | h | h | h | h<;>subst h<;>decide
theorem NY{r}(h:48≤r∧r≤51):CO (BI r)=3∧BI r≠0:=by
 have:r=48∨r=49∨r=50∨r=51:=by omega
 rcases this with h | h | h | h<;>subst h<;>decide
theorem Pw{r:Nat}(a:¬GD (r:Int)=true)(b:¬(48≤r∧r≤51)):BI r=0:=by rw [Ji] at a;unfold BI;simp only [not_or] at a;rw [cT (by omega)];simp [a]
theorem Qv(l):CO (DX l)=if Tc l=true then 2 else 1:=by
 unfold DX Tc;simp only [Bool.or_eq_true,beq_iff_eq];by_cases a:l=[102,110]
 ·simp [a,CO]
 by_cases b:l=[118,97,114]
 ·simp [b,CO]
 by_cases c:l=[110,101,119]
 ·simp [c,CO]
 by_cases d:l=[114,101,116,117,114,110]
 ·simp [d,CO]
 by_cases e:l=[105,102]
 ·simp [e,CO]
 by_cases f:l=[101,108,115,101]
 ·simp [f,CO]
 by_cases g:l=[119,104,105,108,101]
 ·simp [g,CO]
 simp [a,b,c,d,e,f,g,CO]
theorem V5{l}(h:Tc l=true):l.length≤6:=by unfold Tc at h;simp only [Bool.or_eq_true,beq_iff_eq] at h;rcases h with (((((h | h) | h) | h) | h) | h) | h<;>subst h<;>decide
theorem Ds{s e x}(h:x.Yb=0):Da s e x=x:=by unfold Da;rw [cT (by omega)];cases x;simp only at h;subst h;rfl
theorem Du{s p x}(h:(A8 s p).2=0):AU s p (Utf8.decode s p).1 x=(x,p,false):=by simp [AU,(Kn h).1]
theorem US(s):∀(n p f g:Nat) (x:Sc),s.size-p≤n→s.size-p≤f→s.size-p≤g→x.rem=true→
 ((Fp s g p).2=false→AK s f p x=.inl (Fp s g p).1)∧
 ((Fp s g p).2=true→∃d,s.size-(Fp s g p).1≤d∧AK s f p x=AK s d (Fp s g p).1 x∧((Fp s g p).1<s.size→bt s (Fp s g p).1=10)):=by
 intro n;induction n with
 | zero=> intro p f g x v c k _;rw [JP (by omega)];exact ⟨fun h=>by simp at h,fun _=>⟨f,c,rfl,fun h=>by omega⟩⟩
 | succ n w=>
   intro p f g x v c k i;by_cases a:p<s.size∧bt s p≠10
   ·by_cases b:(A8 s p).2=0
    ·rw [QE k a.1 a.2 b];refine ⟨fun _=>?_,fun h=>by simp at h⟩;rw [Ej c a.1 (by rw [Du b]),Du b]
    ·obtain ⟨r,u,q⟩:=MD k a.1 a.2 b;obtain ⟨j,t⟩:=DH b;have e:(A8 s p).1≠10:=fun h=>by have:=Ij b (by omega);omega
     have o:AU s p (Utf8.decode s p).1 x=(x,0,true):=by rw [j];simp only [AU,t,i];cases x;simp only at i;subst i;simp [e]
     obtain ⟨d,m,l⟩:=Dr (x:=x) c a.1 (by rw [o]);rw [o,j] at l;rw [j] at m;have:=w (p+(A8 s p).2) d r x (by omega) m u i;rw [q,l];exact this
   ·rw [JP a];exact ⟨fun h=>by simp at h,fun _=>⟨f,c,rfl,fun h=>by
     by_cases e:bt s p=10
     ·exact e
     ·exact dC ⟨h,e⟩ a⟩⟩
theorem UU(s):∀(n p f g:Nat) (x:Sc),s.size-p≤n→s.size-p≤f→s.size-p≤g→x.rem=false→0<x.Yb→x.Yb≤8→
 (8<(Di s g p x.Yb).2→AK s f p x=.inl x.start)∧
 ((Di s g p x.Yb).2≤8→∃d,s.size-(Di s g p x.Yb).1≤d∧AK s f p x=AK s d (Di s g p x.Yb).1 ⟨x.Yq,false,x.start,(Di s g p x.Yb).2⟩∧
   ¬((Di s g p x.Yb).1<s.size∧(A8 s (Di s g p x.Yb).1).2≠0∧Gj (A8 s (Di s g p x.Yb).1).1=true)):=by
 intro n;induction n with
 | zero=> intro p f g x E b v a B C;rw [IK (by omega)];refine ⟨fun h=>by simp only at h;omega,fun _=>⟨f,b,?_,fun h=>by simp only at h;omega⟩⟩;cases x;simp only at a;subst a;rfl
 | succ n F=>
   intro p f g x E b v a B C;by_cases l:p<s.size∧(A8 s p).2≠0∧Gj (A8 s p).1=true
   ·obtain ⟨j,w,i⟩:=l;obtain ⟨q,D,m⟩:=M7 (k:=x.Yb) v j w i;obtain ⟨e,t⟩:=DH w;have G:=EK s p j;rw [Iw] at i;by_cases r:8<x.Yb+1
    ·have H:=H4 s q (p+(A8 s p).2) (x.Yb+1) (by omega);rw [m];refine ⟨fun _=>?_,fun h=>by omega⟩;have c:AU s p (Utf8.decode s p).1 x=(Cs p x,x.start,false):=by rw [e];simp only [AU,t,a,i,cU r];simp only [Cs,cT (by omega:¬x.Yb=0)];simp
     rw [Ej b j (by rw [c]),c]
    ·have c:AU s p (Utf8.decode s p).1 x=(Cs p x,0,true):=by rw [e];simp only [AU,t,a,i,cT r];simp
     obtain ⟨d,u,o⟩:=Dr (x:=x) b j (by rw [c])
     rw [c,e] at o
     rw [e] at u
     have:=F (p+(A8 s p).2) d q (Cs p x) (by omega) u D (by simp [Cs,a]) (by simp [Cs]) (by simp only [Cs];omega)
     rw [m,o]
     have y:(Cs p x).Yb=x.Yb+1:=rfl
     have z:(Cs p x).start=x.start:=by simp only [Cs,cT (by omega:¬x.Yb=0)]
     have A:(Cs p x).Yq=x.Yq:=rfl
     rw [y,z,A] at this
     exact this
   ·rw [IK l];refine ⟨fun h=>by simp only at h;omega,fun _=>⟨f,b,?_,l⟩⟩;cases x;simp only at a;subst a;rfl
theorem UT(s e f y)(m:e≤s.size)(n:s.size-e≤f)(l:y.rem=false)(i:¬(e<s.size∧(A8 s e).2≠0∧Gj (A8 s e).1=true)):
 MN s (AK s f e y)=MN s (AK s f e (Da s e y)):=by
 by_cases a:e<s.size
 ·have d:(AU s e (Utf8.decode s e).1 y).2=(AU s e (Utf8.decode s e).1 (Da s e y)).2∧((AU s e (Utf8.decode s e).1 y).2.2=true→AU s e (Utf8.decode s e).1 y=AU s e (Utf8.decode s e).1 (Da s e y)):=by
   by_cases b:(A8 s e).2=0
   ·rw [Du b,Du b];exact ⟨rfl,fun h=>by simp at h⟩
   ·obtain ⟨j,g⟩:=DH b;have k:Ja (A8 s e).1=false:=by
     have:¬Gj (A8 s e).1=true:=fun h=>i ⟨a,b,h⟩
     rw [Iw] at this;simpa using this
    have c:AU s e (Utf8.decode s e).1 y=AU s e (Utf8.decode s e).1 (Da s e y):=by rw [j];simp only [AU,g,l,k,TH,Ds (DR s e y)];simp
    exact ⟨by rw [c],fun _=>c⟩
  cases f with
  | zero=>omega
  | succ f=>
    simp only [AK,cU a];rw [←d.1];split
    ·rename_i h;rw [←d.2 h]
    ·rfl
 ·have:e=s.size:=by omega
  subst this;rw [DI a,DI a];simp only [MN,Ds (DR s s.size y)]
theorem T4(s):∀(n p f g:Nat) (x:Sc),s.size-p≤n→s.size-p≤f→s.size-p≤g→x.rem=false→x.Yb=0→
 Bz s g p (x.Yq.map An)=MN s (AK s f p x):=by
 intro n;induction n with
 | zero=> intro p f g x hn C v A m;rw [FQ (by omega),DI (by omega)];simp only [MN,Ds m]
 | succ n O=>
   intro p f g x hn C v A m;by_cases a:p<s.size
   case neg=> rw [FQ a,DI a];simp only [MN,Ds m]
   by_cases b:(A8 s p).2=0
   ·rw [Dm (p:=p) v a (by simp [Bf,b]),Ej C a (by rw [Du b]),Du b];rfl
   obtain ⟨l,J⟩:=DH b;have b1:=EK s p a;by_cases i:(A8 s p).1=32∨(A8 s p).1=9∨(A8 s p).1=10
   ·obtain ⟨_,u⟩:=Ij b (by omega);obtain ⟨I,D,z⟩:=CI (acc:=x.Yq.map An) (t:=none) (j:=p+1) v a (by simp only [Bf,cT b,cU i]);have y:Ja (A8 s p).1=false:=by rcases i with h | h | h<;>rw [h]<;>decide
    have d:AU s p (Utf8.decode s p).1 x=(x,0,true):=by rw [l];simp only [AU,J,A,y,Ds m,Dz,cU i];simp
    obtain ⟨B,r,c⟩:=Dr (x:=x) C a (by rw [d]);rw [d,l,u] at c;rw [l,u] at r;rw [z,c];simp only [Option.toList,cC];exact O (p+1) B I x (by omega) r D A m
   by_cases o:(A8 s p).1=35
   ·obtain ⟨b0,u⟩:=Ij b (by omega);have y:Ja (A8 s p).1=false:=by rw [o];decide
    have d:AU s p (Utf8.decode s p).1 x=(⟨x.Yq,true,x.start,x.Yb⟩,0,true):=by rw [l];simp only [AU,J,A,y,Ds m,Dz,cT i,cU o];simp
    obtain ⟨B,r,c⟩:=Dr (x:=x) C a (by rw [d]);rw [d,l,u] at c;rw [l,u] at r;obtain ⟨k,E,H⟩:=MD (f:=s.size) (by omega) a (by omega) b;rw [u] at E H;have Z:=Kg s k (p+1) (by omega);obtain ⟨F,G⟩:=US s n (p+1) B k ⟨x.Yq,true,x.start,x.Yb⟩ (by omega) r E rfl;by_cases T:(Fp s k (p+1)).2=true
    ·obtain ⟨U,Q,P,Y⟩:=G T;obtain ⟨I,D,z⟩:=CI (acc:=x.Yq.map An) (t:=none) (j:=(Fp s k (p+1)).1) v a (by simp only [Bf,cT b,cT i,cU o,H,cU T]);rw [z,c,P];simp only [Option.toList,cC];generalize (Fp s k (p+1)).1=q at*;by_cases M:q<s.size
     ·have Y:=Y M;have K:A8 s q=(10,1):=by unfold A8;rw [cU (by omega),Y]
      have a9:(A8 s q).2≠0:=by rw [K];decide
      obtain ⟨W,a4⟩:=DH a9;have a1:AU s q (Utf8.decode s q).1 ⟨x.Yq,true,x.start,x.Yb⟩=(⟨x.Yq,false,x.start,x.Yb⟩,0,true):=by rw [W];simp only [AU,a4];simp [K]
      obtain ⟨f3,a0,e3⟩:=Dr (x:=⟨x.Yq,true,x.start,x.Yb⟩) Q M (by rw [a1]);obtain ⟨g3,a5,a3⟩:=CI (acc:=x.Yq.map An) (t:=none) (j:=q+1) D M (by simp [Bf,K]);rw [a3,e3,a1,W,K];rw [W,K] at a0;simp only [Option.toList,cC];exact O (q+1) f3 g3 ⟨x.Yq,false,x.start,x.Yb⟩ (by omega) a0 a5 rfl m
     ·rw [FQ M,DI M];simp only [MN];rw [Ds (by exact m)]
    ·have S:(Fp s k (p+1)).2=false:=by simpa using T
     rw [c,F S,Dm (p:=(Fp s k (p+1)).1) v a (by simp only [Bf,cT b,cT i,cU o,H,cT T])];rfl
   by_cases w:Gj (A8 s p).1=true
   ·have y:=w;rw [Iw] at y;have d:AU s p (Utf8.decode s p).1 x=(⟨x.Yq,false,p,1⟩,0,true):=by rw [l];simp only [AU,J,A,y,Cs,m];simp
    obtain ⟨B,r,c⟩:=Dr (x:=x) C a (by rw [d]);rw [d,l] at c;rw [l] at r;obtain ⟨k,E,H⟩:=M7 (f:=s.size) (k:=0) (by omega) a b w;have Z:=H4 s k (p+(A8 s p).2) (0+1) (by omega);have b2:=H4 s s.size p 0 (by omega);obtain ⟨F,G⟩:=UU s n (p+(A8 s p).2) B k ⟨x.Yq,false,p,1⟩ (by omega) r E rfl Nat.one_pos (by simp only;omega);rw [←H] at Z;simp only at F G;rw [show (1:Nat)=0+1 from rfl,←H] at F G;have a6:Tc (s.extract p (Di s s.size p 0).1).toList=true→(Di s s.size p 0).2≤8:=by intro h;have:=V5 h;rw [dG] at this;simp at this;have e:s.data.size=s.size:=rfl;omega
    by_cases V:8<(Di s s.size p 0).2
    ·rw [c,F V,Dm (p:=p) v a (by simp only [Bf,cT b,cT i,cT o,cU w];rw [cT (fun h=>by have:=a6 h;omega),cU V])]
     rfl
    ·obtain ⟨U,Q,P,S⟩:=G (by omega);rw [c,P];rw [UT s _ U _ Z.2.1 Q rfl S];have hm:0<(Di s s.size p 0).2:=by omega
     have hE:Da s (Di s s.size p 0).1 ⟨x.Yq,false,p,(Di s s.size p 0).2⟩=⟨x.Yq++[⟨DX (s.extract p (Di s s.size p 0).1).toList,s.extract p (Di s s.size p 0).1,p⟩],false,p,0⟩:=by simp only [Da,cU hm]
     rw [hE];have R:Bf s p=.inr (some (An ⟨DX (s.extract p (Di s s.size p 0).1).toList,s.extract p (Di s s.size p 0).1,p⟩),(Di s s.size p 0).1):=by
      simp only [Bf,cT b,cT i,cT o,cU w,An,Qv];by_cases E:Tc (s.extract p (Di s s.size p 0).1).toList=true
      ·simp only [cU E]
      ·simp only [cT E,cT V]
     obtain ⟨I,D,z⟩:=CI (acc:=x.Yq.map An) v a R;rw [z];have a8:s.size-(Di s s.size p 0).1≤n:=by clear F G O c P S z R;omega
     have:=O (Di s s.size p 0).1 U I ⟨x.Yq++[⟨DX (s.extract p (Di s s.size p 0).1).toList,s.extract p (Di s s.size p 0).1,p⟩],false,p,0⟩ a8 Q D rfl rfl;rw [←this];simp
   have y:Ja (A8 s p).1=false:=by rw [Iw] at w;simpa using w
   have a2:BI (A8 s p).1≠0→(A8 s p).1<128→Bf s p=.inr (some (An ⟨BI (A8 s p).1,s.extract p (p+1),p⟩),p+1)→Bz s g p (x.Yq.map An)=MN s (AK s f p x):=by
    intro X a7 R;obtain ⟨_,u⟩:=Ij b a7;have d:AU s p (Utf8.decode s p).1 x=(⟨x.Yq++[⟨BI (A8 s p).1,s.extract p (p+1),p⟩],x.rem,x.start,x.Yb⟩,0,true):=by rw [l];simp only [AU,J,A,y,Ds m,Dz,cT i,cT o,cT X];simp
    obtain ⟨B,r,c⟩:=Dr (x:=x) C a (by rw [d]);rw [d,l,u] at c;rw [l,u] at r;obtain ⟨I,D,z⟩:=CI (acc:=x.Yq.map An) v a R;rw [z,c];have:=O (p+1) B I ⟨x.Yq++[⟨BI (A8 s p).1,s.extract p (p+1),p⟩],x.rem,x.start,x.Yb⟩ (by omega) r D A m;rw [←this];simp
   by_cases L:48≤(A8 s p).1∧(A8 s p).1≤51
   ·obtain ⟨m1,m2⟩:=NY L;exact a2 m2 (by omega) (by simp only [Bf,cT b,cT i,cT o,cT w,cU L,An,m1])
   by_cases N:GD (A8 s p).1=true
   ·obtain ⟨m1,m2⟩:=Px N;exact a2 m2 (by rcases (Ji _).1 N with h | h | h | h | h | h | h | h | h | h | h<;>omega) (by simp only [Bf,cT b,cT i,cT o,cT w,cT L,cU N,An,m1])
   ·have X:=Pw N L;have d:AU s p (Utf8.decode s p).1 x=(x,p,false):=by rw [l];simp only [AU,J,A,y,Ds m,Dz,cT i,cT o,cU X];simp
    rw [Dm (p:=p) v a (by simp only [Bf,cT b,cT i,cT o,cT w,cT L,cT N]),Ej C a (by rw [d]),d];rfl
theorem Jt(s):Bz s s.size 0 []=MN s (AK s s.size 0 ⟨[],false,0,0⟩):=
 T4 s s.size 0 s.size s.size ⟨[],false,0,0⟩ (by omega) (by omega) (by omega) rfl rfl
def CY(k:Nat):List UInt8:=
 if k=3 then [102,110] else if k=4 then [118,97,114] else if k=5 then [110,101,119] else if k=6 then [114,101,116,117,114,110] else if k=7 then [105,102] else if k=8 then [101,108,115,101] else if k=9 then [119,104,105,108,101]
 else if k=10 then [40] else if k=11 then [41] else if k=12 then [123] else if k=13 then [125] else if k=14 then [59] else if k=15 then [61] else if k=16 then [38] else if k=17 then [42] else if k=18 then [64] else if k=19 then [46] else if k=20 then [63] else []
def Vx(t:PT):Prop:=t.kind≤20∧(3≤t.kind→t.i6.toList=CY t.kind)
theorem NT:∀a,a≤20→3≤a→∀b,b≤20→3≤b→CY a=CY b→a=b:=by
 intro a e c b f d h;have:∀a b:Fin 21,3≤a.val→3≤b.val→CY a=CY b→a=b:=by decide+kernel
 have:=this ⟨a,by omega⟩ ⟨b,by omega⟩ c d h;exact congrArg Fin.val this
theorem S6(l):DX l≤20∧DX l≠0∧(3≤DX l→l=CY (DX l)):=by
 unfold DX;repeat' split
 all_goals (refine ⟨by decide,by decide,fun h=>?_⟩)
 all_goals first | (rename_i e;rw [e];rfl) | omega
theorem Ub(r):BI r≤20:=by
 unfold BI;repeat' split
 all_goals decide
theorem RN{s p}(a:p<s.size)(h:3≤BI (Utf8.decode s p).1):(s.extract p (p+1)).toList=CY (BI (Utf8.decode s p).1):=by
 have k:(Utf8.decode s p).1<128:=by
  generalize (Utf8.decode s p).1=r at*;by_cases f:r<128
  ·exact f
  ·exfalso;unfold BI at h;rw [cT (by omega),cT (by omega),cT (by omega),cT (by omega),cT (by omega),cT (by omega),cT (by omega),cT (by omega),cT (by omega),cT (by omega),cT (by omega),cT (by omega)] at h;omega
 have g:(s[p]'a).toNat<128:=by
  by_cases d:(s[p]'a).toNat<128
  ·exact d
  ·have:=(decode_high s p a (by omega)).1;omega
 have e:(s.extract p (p+1)).toList=[s[p]'a]:=by
  rw [dG,dF];have j:p<s.data.size:=a;apply List.ext_getElem?;intro i;rcases i with _ | i
  ·have:s.data[p]? =some (s[p]'a):=Array.getElem?_eq_getElem j;simpa using this
  ·simp;omega
 have b:(Utf8.decode s p).1=(s[p]'a).toNat:=by rw [decode_ascii s p a g]
 rw [b] at h⊢;rw [e];generalize s[p]'a=c at*;have:∀n:Fin 256,3≤BI n→[UInt8.ofNat n]=CY (BI n):=by decide+kernel
 have:=this ⟨c.toNat,c.toNat_lt⟩ h;simpa using this
structure Tm(s:ByteArray)(p:Nat)(x:Sc):Prop where
 lit:∀t,t∈x.Yq→Vx t∧t.kind≠0∧t.i6.size≤s.size
 Zc:x.Yq.Pairwise (fun a b=>a.i9<b.i9)
 top:∀t,t∈x.Yq→t.i9<(if 0<x.Yb then x.start else p)
 st:0<x.Yb→x.start<p
theorem Tm.more{s p q x}(h:Tm s p x)(c:p≤q):Tm s q x:=
 ⟨h.lit,h.Zc,fun t b=>by have:=h.top t b;split at this<;>split<;>omega,fun a=>by have:=h.st a;omega⟩
theorem Ko(s:ByteArray)(a b:Nat):(s.extract a b).size≤s.size:=by
 have:(s.extract a b).data.size≤s.data.size:=by rw [dF];simp;omega
 exact this
theorem Tm.YG{s p x}(h:Tm s p x):Tm s p (Da s p x):=by
 have d:=h.top;unfold Proofs.YthppbgndiplgnaaGreatDoor.Da;split
 ·rename_i e;have f:=h.st e;simp only [cU e] at d;obtain ⟨j,k,l⟩:=S6 (s.extract x.start p).toList;refine ⟨fun t c=>?_,?_,fun t c=>?_,fun q=>dC q (by simp)⟩
  ·rcases bZ.1 c with q | q
   ·exact h.lit t q
   ·rw [bO.1 q];exact ⟨⟨j,l⟩,k,Ko _ _ _⟩
  ·refine List.pairwise_append.2 ⟨h.Zc,by simp,fun a g b i=>?_⟩;rw [bO.1 i];exact d a g
  ·simp only [Nat.lt_irrefl,if_false];rcases bZ.1 c with q | q
   ·have:=d t q;omega
   ·rw [bO.1 q];exact f
 ·rename_i e;simp only [cT e] at d;exact ⟨h.lit,h.Zc,fun t c=>by simp only [Nat.lt_irrefl,if_false];exact d t c,fun q=>dC q (by simp)⟩
theorem Vd{s p x}(u:p<s.size)(h:Tm s p x)(f:(AU s p (Utf8.decode s p).1 x).2.2=true):Tm s (p+1) (AU s p (Utf8.decode s p).1 x).1:=by
 unfold AU at f⊢;split
 ·rename_i c;simp [c] at f
 ·split
  ·have:=h.more (Nat.le_succ p);exact ⟨this.lit,this.Zc,this.top,this.st⟩
  ·split
   ·rename_i c m l;simp only [c,m,l,if_true] at f;split
    ·rename_i n;simp [n] at f
    ·refine ⟨h.lit,h.Zc,fun t e=>?_,fun _=>?_⟩
     ·have:=h.top t e;simp only [Cs,Nat.zero_lt_succ,if_true];by_cases k:x.Yb=0
      ·simp only [k,if_true];rw [k] at this;exact this
      ·simp only [cT k];rwa [cU (by omega)] at this
     ·simp only [Cs];split
      ·omega
      ·have:=h.st (by omega);omega
   ·rename_i c m l;simp only [c,m,l] at f;have d:=h.YG;have j:=DR s p x;have i:=d.top;rw [j] at i;simp only [Nat.lt_irrefl,if_false] at i;unfold Dz;split
    ·exact d.more (by omega)
    ·split
     ·have:=d.more (Nat.le_succ p);exact ⟨this.lit,this.Zc,this.top,this.st⟩
     ·split
      ·exact d.more (by omega)
      ·rename_i r;refine ⟨fun t e=>?_,?_,fun t e=>?_,fun q=>?_⟩
       ·rcases bZ.1 e with q | q
        ·exact d.lit t q
        ·rw [bO.1 q];exact ⟨⟨Ub _,fun g=>RN u g⟩,r,Ko _ _ _⟩
       ·refine List.pairwise_append.2 ⟨d.Zc,by simp,fun a o b c=>?_⟩;rw [bO.1 c];exact i a o
       ·simp only [j,Nat.lt_irrefl,if_false];rcases bZ.1 e with q | q
        ·have:=i t q;omega
        ·rw [bO.1 q];exact Nat.lt_succ_self p
       ·simp only [j] at q;omega
theorem Rr(s p)(a:p<s.size):p+(Utf8.decode s p).2≤s.size:=by
 by_cases b:(A8 s p).2=0
 ·rw [(Kn b).2];exact a
 ·rw [(DH b).1];exact (EK s p a).1
theorem K8(s:ByteArray):∀(f p:Nat) (x y:Sc),p≤s.size→Tm s p x→AK s f p x=.inr y→Tm s s.size y
 | 0,p,x,y,b,h,e=>by have:=Sum.inr.inj e;subst this;exact h.more b
 | f+1,p,x,y,b,h,e=>by
   unfold AK at e;split at e
   ·rename_i a;have d:=FO s p a;split at e
    ·rename_i c;exact K8 s f _ _ y (Rr s p a) ((Vd a h c).more (by omega)) e
    ·cases e
   ·have:=Sum.inr.inj e;subst this;exact h.more b
structure TksOk(N:Nat)(l:List PT):Prop where
 pos:0<l.length
 lit:∀t,t∈l→Vx t
 len:∀t,t∈l→t.i6.size≤N∧t.i9≤N
 Zc:l.Pairwise (fun a b=>a.i9<b.i9)
 last:∃t,l[l.length-1]? =some t∧t.kind=0∧t.i6=ByteArray.empty∧t.i9=N
 f8:∀i t,i<l.length-1→l[i]? =some t→t.kind≠0
theorem Il(s:ByteArray):s.extract s.size s.size=ByteArray.empty:=by
 apply ByteArray.ext;rw [dF];have:s.data.size=s.size:=rfl;apply Array.ext
 ·simp
 ·intro i a b;simp at a
theorem Qj{s y}(h:AK s s.size 0 ⟨[],false,0,0⟩=.inr y):TksOk s.size (AC s y):=by
 have n:Tm s s.size y:=K8 s _ 0 _ _ (bI _) ⟨by simp,by simp,by simp,by simp⟩ h;have c:=n.YG;have k:=DR s s.size y;have d:=c.top;rw [k] at d;simp only [Nat.lt_irrefl,if_false] at d;unfold AC;rw [Il];refine ⟨by simp,fun t e=>?_,fun t e=>?_,?_,?_,fun i t j f=>?_⟩
 ·rcases bZ.1 e with q | q
  ·exact (c.lit t q).1
  ·rw [bO.1 q];exact ⟨bI _,fun g=>dC (show 3≤0 from g) (by decide)⟩
 ·rcases bZ.1 e with q | q
  ·exact ⟨(c.lit t q).2.2,Nat.le_of_lt (d t q)⟩
  ·rw [bO.1 q];exact ⟨bI _,aV _⟩
 ·refine List.pairwise_append.2 ⟨c.Zc,by simp,fun a l b m=>?_⟩;rw [bO.1 m];exact d a l
 ·exact ⟨⟨0,ByteArray.empty,s.size⟩,by simp,rfl,rfl,rfl⟩
 ·simp only [aZ,bP,Nat.add_sub_cancel] at j;rw [cW j] at f;exact (c.lit t (List.mem_of_getElem? f)).2.1
theorem Bx(l i):Ai (l.map An) i=An (Aj l i):=by unfold Ai Aj;rw [bY];cases l[i]? <;>rfl
theorem GA{l i}(h:i<l.length):Aj l i∈l:=by unfold Aj;rw [aY h];exact bD h
theorem TksOk.end_{N l}(h:TksOk N l):(Aj l (l.length-1)).kind=0:=by obtain ⟨t,a,b,_⟩:=h.last;unfold Aj;rw [a];exact b
theorem GW(k):CO k=1↔k=1:=by
 unfold CO;repeat' split
 all_goals omega
theorem OI(k):CO k=3↔k=2:=by
 unfold CO;repeat' split
 all_goals omega
theorem Qn(k):CO k=0↔k=0:=by
 unfold CO;repeat' split
 all_goals omega
theorem Lc(k):(CO k=2∨CO k=4)↔3≤k:=by
 unfold CO;repeat' split
 all_goals omega
theorem RG:∀k,3≤k→k≤20→CY k≠[]:=by
 intro k a b;have:∀k:Fin 21,3≤k.val→CY k≠[]:=by decide+kernel
 exact this ⟨k,by omega⟩ a
theorem NL{t}(h:Vx t){k}(b:3≤k)(a:k≤20):NK (An t) (CY k)=true↔t.kind=k:=by
 unfold NK An;simp only [Bool.and_eq_true,beq_iff_eq,Bool.or_eq_true];rw [Lc];constructor
 ·rintro ⟨e,g⟩;exact NT _ h.1 g _ a b ((h.2 g).symm.trans e)
 ·intro e;exact ⟨by rw [←e];exact h.2 (by omega),by omega⟩
theorem Qw{t}(h:Vx t){k}(b:3≤k)(a:k≤20):AJ (An t)=CY k↔t.kind=k:=by
 unfold AJ An;simp only [Lc];split
 ·rename_i g;exact ⟨fun e=>NT _ h.1 g _ a b ((h.2 g).symm.trans e),fun e=>by rw [←e];exact h.2 g⟩
 ·rename_i g;exact ⟨fun e=>dC e.symm (RG k b a),fun e=>by omega⟩
def J5(n:Nat)(x:PS)(y:St):Prop:=x.Ye=false∧y.Ya=none∧y.s9=x.i8∧x.i8<n
def Mw(n:Nat)(x:PS)(p:Nat):Prop:=x.Ye=true∧x.Yy=p∧x.i8=n-1
def Al(n:Nat)(x:PS)(y:St):Prop:=J5 n x y∨∃p,Mw n x p∧y.Ya=some p
section
variable {N : Nat} {j : List PT} (H : TksOk N j)
include H
theorem EC{k:Nat}(f:k≠0){x:PS}{p:Nat}(h:Mw j.length x p):Mw j.length (Af j j.length k x) p:=by obtain ⟨b,c,d⟩:=h;have a:=H.end_;unfold Af;rw [d,a,cT (fun e=>f e.symm)];exact ⟨rfl,by simp [Gf,b,c],rfl⟩
theorem KN{x:PS}{p:Nat}(h:Mw j.length x p)(f:Nat)(a:List PT):Dx j f x a=(a,x):=
 GR (by rw [h.2.2,H.end_];decide)
theorem KM{x:PS}{p:Nat}(h:Mw j.length x p):Mw j.length (Bm j j.length x).2 p:=by unfold Bm;have a:=EC H (k:=10) (by decide) h;simp only [KN H a];exact EC H (by decide) a
theorem Um{x:PS}{p:Nat}(h:Mw j.length x p):Mw j.length (Ch j j.length x).2 p:=by
 have T:=fun (k:Nat) (a:k≠0) {x:PS} (h:Mw j.length x p)=>EC H a h
 unfold Ch;split
 ·exact T 5 (by decide) h
 ·split
  ·unfold EJ;simp only;split
   ·exact T 2 (by decide) (T 19 (by decide) (T 1 (by decide) (T 16 (by decide) h)))
   ·exact T 1 (by decide) (T 16 (by decide) h)
  ·split
   ·exact T 1 (by decide) (T 17 (by decide) h)
   ·split
    ·exact T 1 (by decide) (T 18 (by decide) h)
    ·split
     ·exact KM H (T 11 (by decide) (T 1 (by decide) (T 17 (by decide) (T 10 (by decide) h))))
     ·split
      ·exact KM H (T 1 (by decide) h)
      ·exact T 1 (by decide) h
omit H in
theorem Dq(T L){y p}(h:y.Ya=some p):(Au T L y).Ya=some p:=by unfold Au EN;simp [Bn,h,E8]
omit H in
theorem ID(T k){y p}(h:y.Ya=some p):(Bq T k y).2.Ya=some p:=by unfold Bq Dg;simp [h,E8]
omit H in
theorem Ol(T f b p a):DK T f b (some p) a=(a,b,some p):=Fz (by simp)
omit H in
theorem GT(T){y p}(h:y.Ya=some p):(Cc T y).2.Ya=some p:=by unfold Cc CW;simp only [h,Ol];simp [EN,Bn,E8]
omit H in
theorem Om(T){y p}(s)(h:y.Ya=some p):(Dh T y s).2.Ya=some p:=by
 have E:=fun (L:List UInt8) {y:St} (h:y.Ya=some p)=>Dq T L h
 have G:=fun (k:Nat) {y:St} (h:y.Ya=some p)=>ID T k h
 have I:=fun {y:St} (h:y.Ya=some p)=>GT T h
 unfold Dh;split
 ·exact E _ h
 ·split
  ·simp only;split
   ·exact G _ (E _ (G _ (E _ h)))
   ·exact G _ (E _ h)
  ·split
   ·exact G _ (E _ h)
   ·split
    ·exact G _ (E _ h)
    ·split
     ·exact I (y:=⟨_,_,_,_⟩) (E _ (E _ (G _ (E _ (E _ h)))))
     ·simp only;split
      ·exact I (E _ (G _ h))
      ·exact G _ h
theorem Hm{k:Nat}(l:3≤k)(i:k≤20){x:PS}{y:St}(h:Al j.length x y):Al j.length (Af j j.length k x) (Au (j.map An) (CY k) y):=by
 rcases h with ⟨d,b,m,n⟩ | ⟨p,o,r⟩
 ·have q:=H.lit _ (GA n);have f:=NL q l i;have g:=H.end_;unfold Af Au EN;rw [m,Bx];by_cases a:(Aj j x.i8).kind=k
  ·have c:Bn y.Ya (An (Aj j x.i8)) (CY k)=true:=by simp [Bn,b,f.2 a]
   rw [cU a,cT (by omega),cU c];have s:x.i8≠j.length-1:=fun e=>by rw [e,g] at a;omega
   exact .inl ⟨d,b,rfl,by simp only;omega⟩
  ·have c:¬Bn y.Ya (An (Aj j x.i8)) (CY k)=true:=by simp only [Bn,Bool.and_eq_true,not_and];intro _ e;exact a (f.1 e)
   rw [cT a,cT c]
   exact .inr ⟨(Aj j x.i8).i9,⟨rfl,by simp [Gf,d],rfl⟩,by simp [E8,b,An]⟩
 ·exact .inr ⟨p,EC H (by omega) o,Dq _ _ r⟩
theorem MA{k so:Nat}(n:(k=1∧so=1)∨(k=2∧so=3)){x:PS}{y:St}(h:Al j.length x y):Al j.length (Af j j.length k x) (Bq (j.map An) so y).2∧(Bq (j.map An) so y).1=An (AH j k x):=by
 rcases h with ⟨d,b,m,o⟩ | ⟨p,f,i⟩
 ·have g:CO (Aj j x.i8).kind=so↔(Aj j x.i8).kind=k:=by
   rcases n with ⟨rfl,rfl⟩ | ⟨rfl,rfl⟩
   ·exact GW _
   ·exact OI _
  have l:=H.end_
  unfold Af Bq Dg AH
  rw [m,Bx]
  by_cases a:(Aj j x.i8).kind=k
  ·have c:y.Ya.isNone=true∧(An (Aj j x.i8)).sort=so:=⟨by simp [b],g.2 a⟩
   simp only [cU a,cU c];rw [cT (by omega)];have q:x.i8≠j.length-1:=fun e=>by rw [e,l] at a;omega
   exact ⟨.inl ⟨d,b,rfl,by simp only;omega⟩,trivial⟩
  ·have c:¬(y.Ya.isNone=true∧(An (Aj j x.i8)).sort=so):=fun e=>a (g.1 e.2)
   simp only [cT a,cT c];exact ⟨.inr ⟨(Aj j x.i8).i9,⟨rfl,by simp [Gf,d],rfl⟩,by simp [E8,b,An]⟩,rfl⟩
 ·refine ⟨.inr ⟨p,EC H (by omega) f,ID _ _ i⟩,?_⟩;unfold Bq Dg AH;rw [cT (by simp [i]),cT (by rw [f.2.2,H.end_];omega)];rfl
theorem GL{k:Nat}(c:3≤k)(b:k≤20){x:PS}{y:St}(h:Al j.length x y):Bn y.Ya (Ai (j.map An) y.s9) (CY k)=true↔(Aj j x.i8).kind=k:=by
 rcases h with ⟨i,a,d,e⟩ | ⟨p,f,g⟩
 ·rw [d,Bx,←NL (H.lit _ (GA e)) c b];simp [Bn,a]
 ·rw [f.2.2,H.end_];simp [Bn,g];omega
theorem GQ{k:Nat}(b:3≤k)(a:k≤20){x:PS}{y:St}(h:J5 j.length x y):AJ (Ai (j.map An) y.s9)=CY k↔(Aj j x.i8).kind=k:=by obtain ⟨e,f,c,d⟩:=h;rw [c,Bx];exact Qw (H.lit _ (GA d)) b a
theorem TW:∀(m f g:Nat) (x:PS) (a:List PT),j.length-1-x.i8≤m→j.length-1-x.i8≤f→j.length-1-x.i8≤g→x.i8<j.length→
 DK (j.map An) g x.i8 none (a.map An)=((Dx j f x a).1.map An,(Dx j f x a).2.i8,none)∧(Dx j f x a).2.Ye=x.Ye∧(Dx j f x a).2.Yy=x.Yy∧(Dx j f x a).2.i8<j.length:=by
 intro m;induction m with
 | zero=>
   intro f g x a s h i b;have e:x.i8=j.length-1:=by omega
   have d:=H.end_;rw [←e] at d;rw [GR (by rw [d];decide),Fz (by rw [Bx];simp [An,d,CO])];exact ⟨rfl,rfl,rfl,b⟩
 | succ m v=>
   intro f g x a s h i b;by_cases c:(Aj j x.i8).kind=1
   ·obtain ⟨k,q,l,n⟩:=QV (acc:=a) h b H.end_ c;have u:(Ai (j.map An) ((j.length)-1)).sort=0:=by rw [Bx];simp [An,H.end_,CO]
    have t:(Ai (j.map An) x.i8).sort=1:=by rw [Bx];exact (GW _).2 c
    obtain ⟨_,r,o,p⟩:=QR (acc:=a.map An) i b u ⟨rfl,t⟩;rw [n,p];have:=v q r ⟨x.i8+1,x.Ye,x.Yy⟩ (a++[Aj j x.i8]) (by simp only;omega) l o k;rw [dD,List.map_singleton,←Bx] at this;exact this
   ·rw [GR c,Fz (by rw [Bx];intro e;exact c ((GW _).1 e.2))];exact ⟨rfl,rfl,rfl,b⟩
theorem MB{x:PS}{y:St}(h:Al j.length x y):Al j.length (Af j j.length 11 (Dx j j.length x []).2) (Cc (j.map An) y).2∧(Cc (j.map An) y).1=(Dx j j.length x []).1.map An:=by
 rcases h with ⟨i,l,m,n⟩ | ⟨p,f,g⟩
 ·obtain ⟨a,b,c,d⟩:=TW H j.length j.length j.length x [] (by omega) (by omega) (by omega) n;have e:=Hm H (k:=11) (by decide) (by decide) (x:=(Dx j j.length x []).2) (y:=⟨(Dx j j.length x []).2.i8,none,y.pl,y.ca⟩) (.inl ⟨by rw [b,i],rfl,rfl,d⟩);unfold Cc CW;rw [m,l];simp only [bW];rw [List.map_nil] at a;rw [a];exact ⟨e,rfl⟩
 ·refine ⟨.inr ⟨p,?_,GT _ g⟩,?_⟩
  ·rw [KN H f];exact EC H (by decide) f
  ·rw [KN H f];unfold Cc CW;simp only [g,Ol];rfl
end
end Go.Proofs.YthppbgndiplgnaaGreatDoor

/- One of the texts of the proof of texts_card_holds: EqG. -/
import Derived.Test.YtmaankfbhhbeoaaGreatDoorG12
namespace Go.Proofs.YtmaankfbhhbeoaaGreatDoor
def GG:Nat→Nat→List Nat→Prop
 | i,j,[]=>i≤j
 | i,j,p::a=>i≤p∧GG (p+1) j a
theorem GG.left:∀{c:List Nat} {i b j:Nat},GG i j c→b≤i→GG b j c
 | [],_,_,_,h,a=>Nat.le_trans a h
 | _::_,_,_,_,h,a=>⟨Nat.le_trans a h.1,h.2⟩
theorem GG.right:∀{c:List Nat} {i j b:Nat},GG i j c→j≤b→GG i b c
 | [],_,_,_,h,a=>Nat.le_trans h a
 | _::_,_,_,_,h,a=>⟨h.1,h.2.right a⟩
theorem GG.le:∀{a:List Nat} {i j:Nat},GG i j a→i+a.length≤j
 | [],_,_,h=>h
 | p::a,i,j,h=>by have:=h.2.le;have:=h.1;simp only [List.length_cons];omega
theorem GG.snoc:∀{a:List Nat} {i j:Nat},GG i j a→GG i (j+1) (a++[j])
 | [],_,_,h=>⟨h,Nat.le_refl _⟩
 | _::_,_,_,h=>⟨h.1,h.2.snoc⟩
inductive Cg {A:Type} (R:Nat→Nat→A→Prop):Nat→Nat→List A→Prop
 | nil {i j:Nat} (h:i≤j):Cg R i j []
 | cons {i m j:Nat} {a:A} {l:List A} (h:R i m a) (t:Cg R m j l):Cg R i j (a::l)
theorem Cg.snoc{A:Type}{R:Nat→Nat→A→Prop}{i m j:Nat}{l:List A}{a:A}(h:Cg R i m l)(d:∀b i j a,R i j a→b≤i→R b j a)(r:R m j a)(c:m≤j):Cg R i j (l++[a]):=by
 induction h with
 | nil h=>exact .cons (d _ _ _ _ r h) (.nil (Nat.le_refl _))
 | cons h _ e=>exact .cons h (e r c)
theorem Cg.mono{A}{R S:Nat→Nat→A→Prop}{i j l}(h:Cg R i j l)(k:∀i j a,R i j a→S i j a):Cg S i j l:=by
 induction h with
 | nil h=>exact .nil h
 | cons h _ b=>exact .cons (k _ _ _ h) b
theorem Cg.le{A}{R:Nat→Nat→A→Prop}{i j l}(h:Cg R i j l)(k:∀i j a,R i j a→i<j):i+l.length≤j:=by
 induction h with
 | nil h=>exact h
 | cons h _ b=>have:=k _ _ _ h;simp only [List.length_cons];omega
theorem Cg.low{A}{R S:Nat→Nat→A→Prop}{i j i0 j0 l}(h:Cg R i j l)(c:∀i j a,R i j a→i<j)(k:∀a b x,i0≤a→b≤j0→R a b x→S a b x)(d:i0≤i)(e:j≤j0):Cg S i j l:=by
 induction h with
 | nil h=>exact .nil h
 | cons h t f=> have q:=c _ _ _ h;have g:=t.le c;exact .cons (k _ _ _ d (by omega) h) (f (by omega) e)
def LO(v:VS):List PT:=if v.kind=1 then [] else if v.kind=7∨v.kind=8 then v.sr::v.args else [v.sr]
def LW(s:VS):List PT:=if s.kind=0∨s.kind=1 then [s.tg] else if s.kind=10 then [s.sr] else if s.kind=7∨s.kind=8 then s.tg::s.sr::s.args else [s.tg,s.sr]
def Bz(toks:List PT):Nat→Nat→Nat→TS→Prop
 | 0,_,_,_=>False
 | d+1,i,j,.mk s b=>i<j∧j<toks.length∧
   ((b=[]∧s.kind≤10∧Mh s∧(s.kind≠7→s.kind≠8→s.args=[])∧∃f,LW s=f.map (Ah toks)∧GG i j f)∨
    (∃k a m,b=[((Ah toks k).f8,a)]∧(s=Ec 11∨s=Ec 12)∧i<k∧Cg (Bz toks d) (k+1) m a∧m<j)∨
    (∃k a m c g e,b=[((Ah toks k).f8,a),((Ah toks c).f8,g)]∧s=Ec 11∧i<k∧Cg (Bz toks d) (k+1) m a∧m<c∧Cg (Bz toks d) (c+1) e g∧e<j))
theorem Bz.lt{toks d i j t}(h:Bz toks d i j t):i<j:=by
 match d,t,h with
 | d+1,.mk s a,h=>exact h.1
theorem Bz.left{toks d i n j t}(h:Bz toks d i j t)(r:n≤i):Bz toks d n j t:=by
 match d,t,h with
 | d+1,.mk s z,h=>
   obtain ⟨A,p,q⟩:=h;refine ⟨by omega,p,?_⟩;rcases q with ⟨a,b,c,g,x,e,f⟩ | ⟨k,l,m,a,b,c,e⟩ | ⟨k,l,m,v,y,w,a,b,c,e⟩
   ·exact .inl ⟨a,b,c,g,x,e,f.left r⟩
   ·exact .inr (.inl ⟨k,l,m,a,b,by omega,e⟩)
   ·exact .inr (.inr ⟨k,l,m,v,y,w,a,b,by omega,e⟩)
theorem Bz.up{toks:List PT}:∀{d i j:Nat} {t:TS},Bz toks d i j t→Bz toks (d+1) i j t
 | 0,_,_,_,h=>h.elim
 | d+1,i,j,.mk s y,h=>by
   obtain ⟨n,p,q⟩:=h;refine ⟨n,p,?_⟩;rcases q with h | ⟨k,l,m,a,b,c,e,f⟩ | ⟨k,l,m,v,x,w,a,b,c,e,f,g,h⟩
   ·exact .inl h
   ·exact .inr (.inl ⟨k,l,m,a,b,c,e.mono (fun _ _ _ r=>r.up),f⟩)
   ·exact .inr (.inr ⟨k,l,m,v,x,w,a,b,c,e.mono (fun _ _ _ r=>r.up),f,g.mono (fun _ _ _ r=>r.up),h⟩)
theorem Bz.lower{toks:List PT}:∀{d i j:Nat} {t:TS} (e:Nat),Bz toks d i j t→j-i≤e→Bz toks e i j t
 | 0,_,_,_,_,h,_=>h.elim
 | d+1,i,j,.mk s n,0,h,A=>by have:=h.1;omega
 | d+1,i,j,.mk s n,e+1,h,A=>by
   obtain ⟨p,v,w⟩:=h;refine ⟨p,v,?_⟩;have L:∀(a b:Nat) (l:List TS),i+1≤a→b≤j→Cg (Bz toks d) a b l→Cg (Bz toks e) a b l:=fun a b l y z r=> r.low (i0:=i+1) (j0:=j) (fun _ _ _ q=>q.lt) (fun E F x G H q=>Bz.lower e q (by omega)) y z
   rcases w with h | ⟨k,l,m,a,b,c,q,f⟩ | ⟨k,l,m,B,D,C,a,b,c,q,f,g,h⟩
   ·exact .inl h
   ·exact .inr (.inl ⟨k,l,m,a,b,c,L _ _ _ (by omega) (by omega) q,f⟩)
   ·have:=g.le (fun _ _ _ q=>q.lt);have:=q.le (fun _ _ _ q=>q.lt);exact .inr (.inr ⟨k,l,m,B,D,C,a,b,c,L _ _ _ (by omega) (by omega) q,f,L _ _ _ (by omega) (by omega) g,h⟩)
theorem Kk(toks n x):(Bm toks n x).1.kind≠7→(Bm toks n x).1.kind≠8→(Bm toks n x).1.args=[]:=by
 unfold Bm;split
 ·intro _ _;rfl
 ·split
  ·unfold Df;simp only;split<;>(intro _ _;rfl)
  ·split
   ·intro _ _;rfl
   ·split
    ·intro _ _;rfl
    ·split
     ·intro _ h;exact absurd rfl h
     ·split
      ·intro h;exact absurd rfl h
      ·intro _ _;rfl
theorem IE(toks n x):(AP toks n x).1.kind≠7→(AP toks n x).1.kind≠8→(AP toks n x).1.args=[]:=by
 unfold AP;split
 ·intro _ _;rfl
 ·split
  ·intro _ _;rfl
  ·split
   ·intro _ _;rfl
   ·exact Kk _ _ _
section
variable {N : Nat} {toks : List PT} (H : TksOk N toks) (o : N ≤ 4000) (u : toks.length ≤ 4001)
include H
theorem Gm(p:Nat):(Ah toks p).d9.size≤N∧(Ah toks p).f8≤N:=by
 rcases Nat.lt_or_ge p toks.length with q | q
 ·exact H.len _ (DT q)
 ·unfold Ah;rw [List.getElem?_eq_none q];exact ⟨Nat.zero_le _,Nat.zero_le _⟩
theorem Cv(k:Nat)(x:PS):(Av toks k x).d9.size≤N∧(Av toks k x).f8≤N:=by
 unfold Av;split
 ·exact Gm H _
 ·exact ⟨Nat.zero_le _,Nat.zero_le _⟩
omit H in
theorem Hv:∀(f:Nat) (x:PS) (a:List PT),∃b,(Cj toks f x a).1=a++b.map (Ah toks)∧GG x.d8 (Cj toks f x a).2.d8 b∧(Cj toks f x a).2.l7=x.l7
 | 0,x,a=>⟨[],by simp [Cj],Nat.le_refl _,rfl⟩
 | f+1,x,a=>by
   rw [Cj];split
   ·obtain ⟨b,c,d,e⟩:=Hv f ⟨x.d8+1,x.l7,x.r8⟩ (a++[Ah toks x.d8]);exact ⟨x.d8::b,by rw [c];simp,⟨Nat.le_refl _,d⟩,e⟩
   ·exact ⟨[],by simp,Nat.le_refl _,rfl⟩
omit H in
theorem Et{x}(h:(A0 toks toks.length x).2.l7=false):x.l7=false∧∃a,(A0 toks toks.length x).1=a.map (Ah toks)∧GG (x.d8+1) (A0 toks toks.length x).2.d8 a∧x.d8+2≤(A0 toks toks.length x).2.d8:=by unfold A0 at h⊢;simp only at h⊢;obtain ⟨a,e,c,f⟩:=Hv (toks:=toks) toks.length (Ae toks toks.length 10 x) [];have b:=BL (k:=11) (by decide) h;rw [f] at b;have d:=BL (k:=10) (by decide) b.1;have:=c.le;rw [d.2.1] at c this;exact ⟨d.1,a,by simpa using e,c.right (by rw [b.2.1];omega),by rw [b.2.1];omega⟩
theorem IB{x:PS}:∀t,t∈(A0 toks toks.length x).1→t.d9.size≤N∧t.f8≤N:=by
 intro t a;obtain ⟨c,b,_,_⟩:=Hv (toks:=toks) toks.length (Ae toks toks.length 10 x) [];have e:(A0 toks toks.length x).1=c.map (Ah toks):=by unfold A0;simpa using b
 rw [e] at a;obtain ⟨p,_,rfl⟩:=List.mem_map.1 a;exact Gm H p
theorem Lr{x:PS}(h:(Bm toks toks.length x).2.l7=false):x.l7=false∧x.d8<(Bm toks toks.length x).2.d8∧(∃d,LO (Bm toks toks.length x).1=d.map (Ah toks)∧GG x.d8 (Bm toks toks.length x).2.d8 d)∧(Bm toks toks.length x).1.sr.d9.size≤N∧(∀t,t∈(Bm toks toks.length x).1.args→t.d9.size≤N)∧x.d8+(Bm toks toks.length x).1.args.length≤(Bm toks toks.length x).2.d8:=by
 have T:=fun (k:Nat) (b:k≠0) {x:PS} (h:(Ae toks toks.length k x).l7=false)=>BL b h
 have Z:(A7:PT).d9.size≤N:=Nat.zero_le _;unfold Bm at h⊢;split at h
 ·rename_i b;rw [if_pos b];have t:=T 5 (by decide) h;simp only at t⊢;exact ⟨t.1,by omega,⟨[],rfl,show x.d8≤_ by omega⟩,Z,by simp,by simp;omega⟩
 rename_i v;rw [if_neg v];split at h
 ·rename_i b;rw [if_pos b];unfold Df at h⊢;simp only at h⊢;split at h
  ·rename_i j;rw [if_pos j];have m:=T 2 (by decide) h;have g:=T 19 (by decide) m.1;have c:=T 1 (by decide) g.1;have a:=T 16 (by decide) c.1;simp only;refine ⟨a.1,by omega,⟨[(Ae toks toks.length 16 x).d8],by simp [LO,c.2.2.1],⟨by omega,show _≤_ by omega⟩⟩,(Cv H _ _).1,by simp,by simp;omega⟩
  ·rename_i j;rw [if_neg j];have c:=T 1 (by decide) h;have a:=T 16 (by decide) c.1;simp only;refine ⟨a.1,by omega,⟨[(Ae toks toks.length 16 x).d8],by simp [LO,c.2.2.1],⟨by omega,show _≤_ by omega⟩⟩,(Cv H _ _).1,by simp,by simp;omega⟩
 rename_i p;rw [if_neg p];split at h
 ·rename_i b;rw [if_pos b];have c:=T 1 (by decide) h;have a:=T 17 (by decide) c.1;simp only at c⊢;refine ⟨a.1,by omega,⟨[(Ae toks toks.length 17 x).d8],by simp [LO,c.2.2.1],⟨by omega,show _≤_ by omega⟩⟩,(Cv H _ _).1,by simp,by simp;omega⟩
 rename_i r;rw [if_neg r];split at h
 ·rename_i b;rw [if_pos b];have c:=T 1 (by decide) h;have a:=T 18 (by decide) c.1;simp only at c⊢;refine ⟨a.1,by omega,⟨[(Ae toks toks.length 18 x).d8],by simp [LO,c.2.2.1],⟨by omega,show _≤_ by omega⟩⟩,(Cv H _ _).1,by simp,by simp;omega⟩
 rename_i s;rw [if_neg s];split at h
 ·rename_i b;rw [if_pos b];unfold EE at h⊢;simp only at h⊢;obtain ⟨l,d,e,f,w⟩:=Et h;have m:=T 11 (by decide) l;have g:=T 1 (by decide) m.1;have c:=T 17 (by decide) g.1;have a:=T 10 (by decide) c.1;have q:=f.le;have y:(A0 toks toks.length (Ae toks toks.length 11 (Ae toks toks.length 1 (Ae toks toks.length 17 (Ae toks toks.length 10 x))))).1.length=d.length:=by rw [e];simp
  refine ⟨a.1,by omega,⟨(Ae toks toks.length 17 (Ae toks toks.length 10 x)).d8::d,by simp [LO,g.2.2.1,e],⟨by omega,f.left (by omega)⟩⟩,(Cv H _ _).1,fun t i=>(IB H t i).1,by omega⟩
 rename_i n;rw [if_neg n];split at h
 ·rename_i b;rw [if_pos b];simp only at h⊢;obtain ⟨l,d,e,f,w⟩:=Et h;have a:=T 1 (by decide) l;have q:=f.le;have y:(A0 toks toks.length (Ae toks toks.length 1 x)).1.length=d.length:=by rw [e];simp
  refine ⟨a.1,by omega,⟨x.d8::d,by simp [LO,a.2.2.1,e],⟨by omega,f.left (by omega)⟩⟩,(Cv H _ _).1,fun t i=>(IB H t i).1,by omega⟩
 ·rename_i b;rw [if_neg b];have a:=T 1 (by decide) h;simp only at a⊢;refine ⟨a.1,by omega,⟨[x.d8],by simp [LO,a.2.2.1],⟨by omega,show _≤_ by omega⟩⟩,(Cv H _ _).1,by simp,by simp;omega⟩
include o u
theorem Jp{x:PS}(h:(AP toks toks.length x).2.l7=false)(e:(AP toks toks.length x).2.d8<toks.length):x.l7=false∧x.d8<(AP toks toks.length x).2.d8∧(AP toks toks.length x).1.kind≤10∧Mh (AP toks toks.length x).1∧∃g,LW (AP toks toks.length x).1=g.map (Ah toks)∧GG x.d8 (AP toks toks.length x).2.d8 g:=by
 have T:=fun (k:Nat) (c:k≠0) {x:PS} (h:(Ae toks toks.length k x).l7=false)=>BL c h
 have l:(A7:PT).d9.size≤4000:=Nat.zero_le _;have n:(A7:PT).f8≤4000:=Nat.zero_le _;have d:=fun (k:Nat) (x:PS)=>Nat.le_trans (Cv H k x).1 o
 have i:=fun (k:Nat) (x:PS)=>Nat.le_trans (Cv H k x).2 o
 unfold AP at h e⊢;split at h
 ·rename_i c;rw [if_pos c];have a:=T 1 (by decide) h;have b:=T 4 (by decide) a.1;simp only at a⊢;exact ⟨b.1,by omega,by omega,⟨d _ _,i _ _,l,by simp,by simp⟩,[(Ae toks toks.length 4 x).d8],by simp [LW,a.2.2.1],⟨by omega,show _≤_ by omega⟩⟩
 rename_i r;rw [if_neg r] at e⊢;split at h
 ·rename_i c;rw [if_pos c];have a:=T 1 (by decide) h;have b:=T 6 (by decide) a.1;simp only at a⊢;exact ⟨b.1,by omega,by omega,⟨l,n,d _ _,by simp,by simp⟩,[(Ae toks toks.length 6 x).d8],by simp [LW,a.2.2.1],⟨by omega,show _≤_ by omega⟩⟩
 rename_i s;rw [if_neg s] at e⊢;split at h
 ·rename_i c;rw [if_pos c];have j:=T 1 (by decide) h;have w:=T 15 (by decide) j.1;have a:=T 1 (by decide) w.1;have b:=T 17 (by decide) a.1;simp only at j⊢;exact ⟨b.1,by omega,by omega,⟨d _ _,i _ _,d _ _,by simp,by simp⟩,[(Ae toks toks.length 17 x).d8,(Ae toks toks.length 15 (Ae toks toks.length 1 (Ae toks toks.length 17 x))).d8],by simp [LW,a.2.2.1,j.2.2.1],⟨by omega,by omega,show _≤_ by omega⟩⟩
 ·rename_i q;rw [if_neg q] at e⊢;simp only at h e⊢;have D:=IV toks toks.length (Ae toks toks.length 15 (Ae toks toks.length 1 x));obtain ⟨y,E,⟨g,z,A⟩,B,C,F⟩:=Lr H h;have a:=T 15 (by decide) y;have b:=T 1 (by decide) a.1;generalize (Bm toks toks.length (Ae toks toks.length 15 (Ae toks toks.length 1 x))).1=v at*;refine ⟨b.1,by omega,by omega,⟨d _ _,i _ _,Nat.le_trans B o,fun t p=>Nat.le_trans (C t p) o,by simp only;omega⟩,x.d8::g,?_,⟨by omega,A.left (by omega)⟩⟩;rw [List.map_cons,←z,b.2.2.1];unfold LW LO;simp only;by_cases m:v.kind=1
  ·simp [m]
  ·rw [if_neg (by omega),if_neg (by omega),if_neg m];by_cases f:v.kind=7∨v.kind=8
   ·rw [if_pos f,if_pos f]
   ·rw [if_neg f,if_neg f]
omit H o u in
theorem Mj{p}(h:BC (Ah toks p).kind):p<toks.length:=by
 rcases Nat.lt_or_ge p toks.length with q | q
 ·exact q
 ·unfold Ah at h;rw [List.getElem?_eq_none q] at h;simp [BC,A7] at h
theorem JV:∀f:Nat,
 (∀(x:PS) (l:List TS),x.d8<toks.length→2*(toks.length-x.d8)+1≤f→(AD toks toks.length f x l).2.l7=false→x.l7=false∧∃j,(AD toks toks.length f x l).1=l++j∧Cg (Bz toks f) x.d8 (AD toks toks.length f x l).2.d8 j)∧
 (∀(x:PS),x.d8<toks.length→2*(toks.length-x.d8)≤f→(A8 toks toks.length f x).2.l7=false→x.l7=false∧Bz toks f x.d8 (A8 toks toks.length f x).2.d8 (A8 toks toks.length f x).1):=by
 have T:=fun (k:Nat) (hk:k≠0) {x:PS} (h:(Ae toks toks.length k x).l7=false)=>BL hk h
 have c:=fun (k:Nat) {x:PS} (hc:x.d8<toks.length)=>Ag (n:=toks.length) H.end_ k hc
 intro f;induction f with
 | zero=>exact ⟨fun x l d G=>by omega,fun x d G=>by omega⟩
 | succ f s=>
   refine ⟨fun x l d G h=>?_,fun x d G h=>?_⟩
   ·rw [AD] at h⊢;split at h
    ·rename_i w;rw [if_pos w];obtain ⟨C,a0⟩:∃C,f=C+1:=⟨f-1,by omega⟩;have hm:x.d8+1≤(A8 toks toks.length f x).2.d8:=by subst a0;exact Ev H.end_ C d w
     have hg:=DJ H.end_ f x d;obtain ⟨A,j,O,B⟩:=s.1 _ _ hg.2 (by omega) h;obtain ⟨X,Y⟩:=s.2 x d (by omega) A;exact ⟨X,(A8 toks toks.length f x).1::j,by rw [O];simp,.cons Y.up (B.mono (fun _ _ _ q=>q.up))⟩
    ·rename_i w;rw [if_neg w];exact ⟨h,[],by simp,.nil (Nat.le_refl _)⟩
   ·have a:=(DJ H.end_ (f+1) x d).2;rw [A8] at h a⊢;split at h
    ·rename_i y;rw [if_pos y] at a⊢;simp only at h a⊢;have m1:=Bd (n:=toks.length) y (by decide);have F:=c 7 d;have m:=c 20 F.2;have g:=c 12 m.2;have P:=A6 H.end_ f _ [] g.2;have Q:=c 13 P.2;have i1:=s.1 (Ae toks toks.length 12 (Ae toks toks.length 20 (Ae toks toks.length 7 x))) [] g.2 (by have:=m.1;have:=g.1;omega);have N:(Ae toks toks.length 13 (AD toks toks.length f (Ae toks toks.length 12 (Ae toks toks.length 20 (Ae toks toks.length 7 x))) []).2).l7=false→x.l7=false∧x.d8+2=(Ae toks toks.length 20 (Ae toks toks.length 7 x)).d8∧(Av toks 12 (Ae toks toks.length 20 (Ae toks toks.length 7 x)))=Ah toks (Ae toks toks.length 20 (Ae toks toks.length 7 x)).d8∧Cg (Bz toks f) ((Ae toks toks.length 20 (Ae toks toks.length 7 x)).d8+1) (AD toks toks.length f (Ae toks toks.length 12 (Ae toks toks.length 20 (Ae toks toks.length 7 x))) []).2.d8 (AD toks toks.length f (Ae toks toks.length 12 (Ae toks toks.length 20 (Ae toks toks.length 7 x))) []).1∧(AD toks toks.length f (Ae toks toks.length 12 (Ae toks toks.length 20 (Ae toks toks.length 7 x))) []).2.d8+1=(Ae toks toks.length 13 (AD toks toks.length f (Ae toks toks.length 12 (Ae toks toks.length 20 (Ae toks toks.length 7 x))) []).2).d8:=by intro h;have K:=T 13 (by decide) h;obtain ⟨t,j,e,b⟩:=i1 K.1;have i:=T 12 (by decide) t;have J:=T 20 (by decide) i.1;have v:=T 7 (by decide) J.1;simp only [List.nil_append] at e;rw [e];rw [i.2.1] at b;exact ⟨v.1,by omega,i.2.2.1,b,by omega⟩
     have a8:x.d8+1≤(Ae toks toks.length 13 (AD toks toks.length f (Ae toks toks.length 12 (Ae toks toks.length 20 (Ae toks toks.length 7 x))) []).2).d8:=by have:=m.1;have:=g.1;have:=P.1;have:=Q.1;omega
     generalize Ae toks toks.length 20 (Ae toks toks.length 7 x)=M at*;generalize AD toks toks.length f (Ae toks toks.length 12 M) []=r at*;split at h
     ·rename_i I;rw [if_pos I] at a⊢;simp only at h a⊢;have R:=c 8 Q.2;have S:=c 12 R.2;have i2:=s.1 (Ae toks toks.length 12 (Ae toks toks.length 8 (Ae toks toks.length 13 r.2))) [] S.2 (by have:=R.1;have:=S.1;omega);have w5:=T 13 (by decide) h;obtain ⟨t,a7,e,b⟩:=i2 w5.1;have L:=T 12 (by decide) t;have w2:=T 8 (by decide) L.1;obtain ⟨D,Z,E,p,f5⟩:=N w2.1;simp only [List.nil_append] at e;rw [L.2.1] at b;have l1:=p.le (fun _ _ _ q=>q.lt);have l2:=b.le (fun _ _ _ q=>q.lt);refine ⟨D,by omega,a,.inr (.inr ⟨M.d8,r.1,r.2.d8,(Ae toks toks.length 8 (Ae toks toks.length 13 r.2)).d8,a7,_,?_,rfl,by omega,p,by omega,b,by omega⟩)⟩;rw [E,L.2.2.1,e]
     ·rename_i I;rw [if_neg I] at a⊢;simp only at h a⊢;obtain ⟨D,Z,E,p,f5⟩:=N h;have l1:=p.le (fun _ _ _ q=>q.lt);refine ⟨D,by omega,a,.inr (.inl ⟨M.d8,r.1,r.2.d8,?_,.inl rfl,by omega,p,by omega⟩)⟩;rw [E]
    ·rename_i y;rw [if_neg y] at a⊢;split at h
     ·rename_i z;rw [if_pos z] at a⊢;simp only at h a⊢;have m1:=Bd (n:=toks.length) z (by decide);have F:=c 9 d;have m:=c 20 F.2;have g:=c 12 m.2;have K:=T 13 (by decide) h;obtain ⟨t,j,e,b⟩:=s.1 _ [] g.2 (by have:=m.1;have:=g.1;omega) K.1;have i:=T 12 (by decide) t;have J:=T 20 (by decide) i.1;have v:=T 9 (by decide) J.1;have l2:=b.le (fun _ _ _ q=>q.lt);simp only [List.nil_append] at e;rw [i.2.1] at b;refine ⟨v.1,by omega,a,.inr (.inl ⟨(Ae toks toks.length 20 (Ae toks toks.length 9 x)).d8,j,_,?_,.inr rfl,by omega,b,by omega⟩)⟩;rw [i.2.2.1,e]
     ·rename_i z;rw [if_neg z] at a⊢;simp only at h a⊢;have v:=T 14 (by decide) h;obtain ⟨A,O,B,U,ps,V,W⟩:=Jp H o u v.1 (by omega);exact ⟨A,by omega,a,.inl ⟨rfl,B,U,IE _ _ _,ps,V,W.right (by omega)⟩⟩
end
end Go.Proofs.YtmaankfbhhbeoaaGreatDoor

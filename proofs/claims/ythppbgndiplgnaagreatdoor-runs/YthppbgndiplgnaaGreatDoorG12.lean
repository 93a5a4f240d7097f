/- One of the texts of the proof of runs_card_holds: RnB RnC. -/
import Derived.Test.YthppbgndiplgnaaGreatDoorG11
namespace Go.Proofs.YthppbgndiplgnaaGreatDoor
structure Hk(d vars:List ByteArray)(s:VS)(u:Cb)(pl ca:Nat):Prop where
 kind:u.kind=s.kind
 Yf:s.kind≠0→s.kind≠10→s.kind<11→u.Yf=vx vars s.tg.i6
 func:s.kind=4∨s.kind=7→u.t9=vx d s.sr.i6
 t9:s.kind=2∨s.kind=3∨s.kind=5∨s.kind=6∨s.kind=8∨s.kind=9∨s.kind=10→u.t9=vx vars s.sr.i6
 field:u.field=s.field
 i9:s.kind=1→u.Yp=pl+1
 call:s.kind=8→u.Yp=ca+1
 args:s.kind=7∨s.kind=8→u.args=s.args.map fun t=>vx vars t.i6
mutual
def QB(d vars:List ByteArray)(st:List Cb):TS→Nat→Nat→Nat→Nat→Prop
 | .mk s [],p,a,pl,ca=>∃u,st[p]? =some u∧Hk d vars s u pl ca∧s.kind<11∧u.i8=a
 | .mk s [(_,ts)],p,a,pl,ca=>∃u,st[p]? =some u∧Hk d vars s u pl ca∧u.i8=a∧((s.kind=11∧Gn d vars st ts u.taken a pl ca)∨(s.kind=12∧Gn d vars st ts u.taken p pl ca))
 | .mk s [(_,ts),(_,ts2)],p,a,pl,ca=>∃u,st[p]? =some u∧Hk d vars s u pl ca∧s.kind=11∧Gn d vars st ts u.taken a pl ca∧Gn d vars st ts2 u.i8 a (pl+nL 1 ts) (ca+nL 8 ts)
 | .mk _ (_::_::_::_),_,_,_,_=>False
def Gn(d vars:List ByteArray)(st:List Cb):List TS→Nat→Nat→Nat→Nat→Prop
 | [],p,a,_,_=>p=a
 | t::ts,p,a,pl,ca=>∃m,QB d vars st t p m pl ca∧Gn d vars st ts m a (pl+nK 1 t) (ca+nK 8 t)
end
structure PX(d:List ByteArray)(P:List PFn)(X:List XF):Prop where
 m9:∀f,(AF P f).m9.length=(Aq X f).m9.length
 p8:∀f,(AF P f).p8=(Aq X f).p8
 laid:∀f,Gn d (Aq X f).m9 (AF P f).m8 (Aq X f).Yg 0 (AF P f).m8.length (Aq X f).pl (Aq X f).ca
section
variable {P : List PFn}
theorem Mb(n:Nat){m:Mc}(h:m.Yi≠1):Bc P n m=m:=by
 cases n with
 | zero=>rfl
 | succ n=>rw [Bc,cT h]
theorem FU(n:Nat){m:Mc}(h:m.u8=[]):Bc P n m=m:=by
 cases n with
 | zero=>rfl
 | succ n=>
   rw [Bc];split
   ·rw [h]
   ·rfl
theorem N7(n:Nat){c:Co}{f:Hi}{r:List Hi}{e:Nat}(h:f.i8<(AF P f.fn).m8.length):Bc P n ⟨c,f::r,e⟩=⟨c,f::r,e⟩:=by
 cases n with
 | zero=>rfl
 | succ n=>
   rw [Bc];split
   ·simp only [cU h]
   ·rfl
theorem Ky(m:Mc)(v:Vl):(A6 m v).u8.length=m.u8.length-1:=by
 obtain ⟨c,a,e⟩:=m;match a with
 | []=>rfl
 | [_]=>rfl
 | _::_::_=>rfl
theorem KG:∀(n a:Nat) (m:Mc),m.u8.length≤n→m.u8.length≤a→Bc P n m=Bc P a m
 | 0,a,m,h,_=>by have e:m.u8=[]:=List.eq_nil_of_length_eq_zero (by omega);rw [FU _ e,FU _ e]
 | n+1,0,m,_,h=>by have e:m.u8=[]:=List.eq_nil_of_length_eq_zero (by omega);rw [FU _ e,FU _ e]
 | n+1,a+1,m,h,b=>by
   rw [Bc,Bc];split
   ·split
    ·rfl
    ·split
     ·rfl
     ·have:=Ky m DL;exact KG n a _ (by omega) (by omega)
   ·rfl
theorem Ku(n:Nat){c:Co}{f:Hi}{r:List Hi}(h:f.i8<(AF P f.fn).m8.length):Gr P (n+1) ⟨c,f::r,1⟩=Gr P n (FE P ⟨c,f::r,1⟩):=by rw [Gr,N7 _ h];simp
theorem ND{c:Co}{f:Hi}{r:List Hi}(h:f.i8<(AF P f.fn).m8.length):Gr P 0 ⟨c,f::r,1⟩=(⟨c,f::r,1⟩,0):=by rw [Gr,N7 _ h]
theorem Ip(n:Nat){m:Mc}(h:m.Yi≠1):Gr P n m=(m,n):=by
 cases n with
 | zero=>rw [Gr,Mb _ h]
 | succ n=>rw [Gr,Mb _ h,cT h]
theorem LR(n:Nat){c:Co}{f:Hi}{r:List Hi}(h:¬f.i8<(AF P f.fn).m8.length)(a:r.length<40):Gr P n ⟨c,f::r,1⟩=Gr P n (A6 ⟨c,f::r,1⟩ DL):=by
 have e:Bc P 41 ⟨c,f::r,1⟩=Bc P 41 (A6 ⟨c,f::r,1⟩ DL):=by rw [show (41:Nat)=40+1 from rfl,Bc];simp only [if_true,cT h];have:=Ky ⟨c,f::r,1⟩ DL;simp only [aX,Nat.add_sub_cancel] at this;exact KG _ _ _ (by omega) (by omega)
 cases n with
 | zero=>rw [Gr,Gr,e]
 | succ n=>rw [Gr,Gr,e]
end
structure Mv(P:List PFn)(fi base ans a L0:Nat)(rest:List Hi)(m0:Mc)(s:RS)(r:Bool×RS):Prop where
 left:r.2.left≤s.left
 m8:r.2.m8+r.2.left=s.m8+s.left
 o:(r.1=false∧r.2.Yi=0∧r.2.Yl=s.Yl∧r.2.YA=DL∧Gr P L0 m0=Gr P r.2.left ⟨r.2.c,⟨fi,base,a,ans⟩::rest,1⟩)∨
  (r.1=true∧r.2.Yi=0∧r.2.Yl=s.Yl∧Gr P L0 m0=Gr P r.2.left (A6 ⟨r.2.c,⟨fi,base,a,ans⟩::rest,1⟩ r.2.YA))∨
  (r.1=true∧r.2.Yi≠0∧∃frs,Gr P L0 m0=(⟨r.2.c,frs,r.2.Yi⟩,r.2.left))
theorem Gw(c:Co)(j h a b g e:Nat)(f:List Hi)(v:Vl):A6 ⟨c,⟨j,h,a,g⟩::f,e⟩ v=A6 ⟨c,⟨j,h,b,g⟩::f,e⟩ v:=by cases f<;>rfl
theorem Mv.YL{P:List PFn}{q p o a b m n:Nat}{w:List Hi}{u v:Mc}{s j:RS}{r:Bool×RS}(h:Mv P q p o a n w v j r)(l:Gr P m u=Gr P n v)(z:j.left≤s.left)(A:j.m8+j.left=s.m8+s.left)(t:j.Yl=s.Yl)(e:r.1=true∨a=b):Mv P q p o b m w u s r:=by
 refine ⟨bJ h.left z,h.m8.trans A,?_⟩;rcases h.o with ⟨c,f,k,y,g⟩ | ⟨c,f,k,g⟩ | ⟨c,f,x,g⟩
 ·rcases e with e | e
  ·rw [c] at e;cases e
  ·subst e;exact .inl ⟨c,f,k.trans t,y,l.trans g⟩
 ·exact .inr (.inl ⟨c,f,k.trans t,by rw [l,g,Gw]⟩)
 ·exact .inr (.inr ⟨c,f,x,l.trans g⟩)
def Tj(d:List ByteArray)(P:List PFn)(X:List XF)(F:Nat):Prop:=∀(b c:Nat) (j:List TS) (h g:Nat) (s:RS) (p a f:Nat) (e:List Hi),
 s.left<F→s.Yi=0→s.YA=DL→s.Yl=e.length+1→s.Yl≤40→Gn d (Aq X b).m9 (AF P b).m8 j p a h g→
 Mv P b c f a s.left e ⟨s.c,⟨b,c,p,f⟩::e,1⟩ s (AA X d F b c j h g s)
section
variable {d : List ByteArray} {P : List PFn} {X : List XF} (i : PX d P X)
include i
theorem OH{F:Nat}(B:Tj d P X F)(f:Nat)(l:List Vl)(j g m e q:Nat)(b:List Hi)(s:RS)(A:s.left<F)(z:s.Yi=0)(D:s.Yl=b.length+1)(C:s.Yl≤40):
 Mv P j g e m s.left b (Bu P ⟨s.c,⟨j,g,m,e⟩::b,1⟩ f l q) s (E7 X (AA X d F) f l q s):=by
 unfold E7 Cu Bu;by_cases h:s.Yl=40
 ·have p:40≤(⟨j,g,m,e⟩::b).length:=by simp only [aX];omega
  simp only [cU h,cU p,if_true];refine ⟨aV _,rfl,.inr (.inr ⟨rfl,by simp,_,Ip _ (by simp)⟩)⟩
 ·have p:¬40≤(⟨j,g,m,e⟩::b).length:=by simp only [aX];omega
  simp only [cT h,cT p,i.m9];have I:=B f s.c.i7.length (Aq X f).Yg (Aq X f).pl (Aq X f).ca {s with c:=s.c.enter f (Aq X f).m9.length l,Yl:=s.Yl+1,YA:=DL} 0 (AF P f).m8.length q (⟨j,g,m,e⟩::b) A z rfl (by simp only [aX];omega) (by simp only;omega) (i.laid f);generalize AA X d F f s.c.i7.length (Aq X f).Yg (Aq X f).pl (Aq X f).ca {s with c:=s.c.enter f (Aq X f).m9.length l,Yl:=s.Yl+1,YA:=DL}=r at I⊢;obtain ⟨n,o,u⟩:=I;simp only at n o u;rcases u with ⟨t,a,w,x,k⟩ | ⟨t,a,w,k⟩ | ⟨t,a,v,k⟩
  ·simp only [a,BEq.rfl,Bool.true_eq_false,if_false];refine ⟨n,o,.inl ⟨rfl,rfl,by simp only;omega,rfl,?_⟩⟩;rw [k,LR _ (by simp) (by simp only [aX];omega),x];rfl
  ·simp only [a,BEq.rfl,Bool.true_eq_false,if_false];refine ⟨n,o,.inl ⟨rfl,rfl,by simp only;omega,rfl,?_⟩⟩;rw [k];rfl
  ·have y:(r.2.Yi==0)=false:=by simpa using a
   simp only [y,if_true];exact ⟨n,o,.inr (.inr ⟨rfl,a,v,k⟩)⟩
omit i in
theorem Mm{F:Nat}(N:Tj d P X F)(b f:Nat)(w:List TS)(v m p a j:Nat)(g:List Hi)(u:Cb)(y:(AF P b).m8[p]? =some u)(H:u.kind=12)(K:u.i8=a)(D:Gn d (Aq X b).m9 (AF P b).m8 w u.taken p v m):
 ∀(n:Nat) (s:RS),s.left<n→s.left<F→s.Yi=0→s.YA=DL→s.Yl=g.length+1→s.Yl≤40→
  Mv P b f j a (s.left+1) g ⟨s.c,⟨b,f,p,j⟩::g,1⟩ s (DW (AA X d F b f w v m) n s)
 | 0,s,h,_,_,_,_,_=>by omega
 | n+1,s,h,hF,E,G,T,R=>by
   have L:p<(AF P b).m8.length:=by
    rcases cJ p (AF P b).m8.length with q | q
    ·exact q
    ·rw [bV q] at y;cases y
   have U:Jk (AF P b).m8 p=u:=by unfold Jk;rw [y];rfl
   have k:Gr P (s.left+1) ⟨s.c,⟨b,f,p,j⟩::g,1⟩=Gr P s.left ⟨{s.c with ch:=(D7 s.c.ch).2},⟨b,f,if (D7 s.c.ch).1 then u.taken else a,j⟩::g,1⟩:=by rw [Ku _ L];unfold FE;simp [U,H,K]
   unfold DW;by_cases x:(D7 s.c.ch).1=false
   ·simp only [cU x];refine ⟨aV _,rfl,.inl ⟨rfl,E,rfl,G,?_⟩⟩;rw [k,x];rfl
   ·have S:(D7 s.c.ch).1=true:=by simpa using x
    simp only [cT x];rw [S] at k;simp only [if_true] at k;have I:=N b f w v m {s with c:={s.c with ch:=(D7 s.c.ch).2}} u.taken p j g hF E G T R D;generalize AA X d F b f w v m {s with c:={s.c with ch:=(D7 s.c.ch).2}}=r at I⊢;obtain ⟨z,A,M⟩:=I;simp only at z A M;rcases M with ⟨o,t,C,Q,l⟩ | ⟨o,t,C,l⟩ | ⟨o,t,O,l⟩
    ·simp only [o,Bool.false_eq_true,if_false];by_cases B:r.2.left=0
     ·simp only [cU B];refine ⟨z,A,.inr (.inr ⟨rfl,by simp,⟨b,f,p,j⟩::g,?_⟩)⟩;rw [k,l,B,ND L]
     ·simp only [cT B];have J:=Mm N b f w v m p a j g u y H K D n r.2.one (by simp only [RS.one];omega) (by simp only [RS.one];omega) t Q (by simp only [RS.one];omega) (by simp only [RS.one];omega);refine J.YL ?_ (by simp only [RS.one];omega) (by simp only [RS.one];omega) (by simp only [RS.one];omega) (.inr rfl);rw [k,l];have e:r.2.one.left+1=r.2.left:=by simp only [RS.one];omega
      rw [e];rfl
    ·simp only [o,if_true];exact ⟨z,A,.inr (.inl ⟨rfl,t,C,by rw [k,l,Gw]⟩)⟩
    ·simp only [o,if_true];exact ⟨z,A,.inr (.inr ⟨rfl,t,O,by rw [k,l]⟩)⟩
theorem SJ{F b h z D p a n:Nat}{m:List Hi}{v:VS}{N:List (Nat×List TS)}{u:Cb}(M:Tj d P X F)(A:(AF P b).m8[p]? =some u)(j:Hk d (Aq X b).m9 v u z D)(B:v.kind<11)(S:u.i8=a)
 (s:RS)(L:s.left<F)(w:s.Yi=0)(K:s.YA=DL)(J:s.Yl=m.length+1)(H:s.Yl≤40):
 Mv P b h n a (s.left+1) m ⟨s.c,⟨b,h,p,n⟩::m,1⟩ s (Bi X d (AA X d F) F b h (.mk v N) z D s):=by
 have T:p<(AF P b).m8.length:=by
  rcases cJ p (AF P b).m8.length with q | q
  ·exact q
  ·rw [bV q] at A;cases A
 have U:Jk (AF P b).m8 p=u:=by unfold Jk;rw [A];rfl
 have g:=Ku (P:=P) s.left (c:=s.c) (f:=⟨b,h,p,n⟩) (r:=m) T;unfold FE at g;simp only [U,j.kind,S] at g;unfold Bi;simp only;by_cases k:v.kind=7
 ·rw [cT (by omega),cT (by omega),cT (by omega),cT (by omega),cU k];rw [cU k,j.func (.inr k),j.args (.inl k),j.Yf (by omega) (by omega) B] at g;have C:=OH i M (vx d v.sr.i6) (BZ s.c.i7 h (v.args.map fun t=>vx (Aq X b).m9 t.i6)) b h a n (h+vx (Aq X b).m9 v.tg.i6) m s L w J H;exact C.YL g (aV _) rfl rfl (.inr rfl)
 by_cases l:v.kind=8
 ·rw [cT (by omega),cT (by omega),cT (by omega),cT (by omega),cT (by omega),cU l];rw [cT (by omega),cU l,j.t9 (by omega),j.args (.inr l),j.Yf (by omega) (by omega) B,j.call l] at g;simp only [i.p8,bW] at g;by_cases I:(Ak s.c.i7 (h+vx (Aq X b).m9 v.sr.i6)).v.kind=1∧(Aq X (Ak s.c.i7 (h+vx (Aq X b).m9 v.sr.i6)).v.y6).p8=v.args.length
  ·rw [cU I] at g⊢;have C:=fun e=>OH i M (Ak s.c.i7 (h+vx (Aq X b).m9 v.sr.i6)).v.y6 (BZ s.c.i7 h (v.args.map fun t=>vx (Aq X b).m9 t.i6)) b h a n (h+vx (Aq X b).m9 v.tg.i6) m {s with c:={s.c with Yr:=e}} L w J H
   by_cases G:s.Yl<40
   ·rw [cT (by simp only [aX];omega)] at g;rw [cU G];exact (C _).YL g (aV _) rfl rfl (.inr rfl)
   ·rw [cU (by simp only [aX];omega)] at g;rw [cT G];refine (C _).YL (g.trans ?_) (aV _) rfl rfl (.inr rfl);unfold Bu;rw [cU (by simp only [aX];omega)]
  ·rw [cT I] at g⊢;exact ⟨aV _,rfl,.inr (.inr ⟨rfl,by simp,_,g.trans (Ip _ (by simp))⟩)⟩
 by_cases x:v.kind=10
 ·rw [cT (by omega),cT (by omega),cT (by omega),cU x];rw [cT (by omega),cT (by omega),cU x,j.t9 (by omega)] at g;exact ⟨aV _,rfl,.inr (.inl ⟨rfl,w,rfl,g⟩)⟩
 rw [cT k,cT l,cT x,cT (by omega),j.field] at g;by_cases y:v.kind=0
 ·rw [cU y];refine ⟨aV _,rfl,.inl ⟨rfl,w,rfl,K,?_⟩⟩;rw [g];unfold FI;simp [y]
 rw [cT y,cT (by omega),cT (by omega),cT x,cT k,cT l];have R:FI v.kind (h+u.Yf) (h+u.t9) v.field u.Yp u.t9 s.c=FI v.kind (h+vx (Aq X b).m9 v.tg.i6) (h+vx (Aq X b).m9 v.sr.i6) v.field (z+1) (vx d v.sr.i6) s.c:=by
  rw [j.Yf y x B];have O:=j.i9;have Q:=j.func;have E:=j.t9;unfold FI;repeat' split
  all_goals first
   | rfl
   | (rw [O (by omega)])
   | (rw [Q (by omega)])
   | (simp only [E (by omega)] at*;done)
   | (simp_all [E (by omega)];done)
 rw [R] at g;generalize FI v.kind (h+vx (Aq X b).m9 v.tg.i6) (h+vx (Aq X b).m9 v.sr.i6) v.field (z+1) (vx d v.sr.i6) s.c=o at g⊢;cases o with
 | some c=>exact ⟨aV _,rfl,.inl ⟨rfl,w,rfl,K,g⟩⟩
 | none=>exact ⟨aV _,rfl,.inr (.inr ⟨rfl,by simp,_,g.trans (Ip _ (by simp))⟩)⟩
omit i in
theorem NN{l:List ByteArray}{c:List Cb}{t:TS}{p a g f:Nat}(h:QB d l c t p a g f):p<c.length:=by
 have e:∀{u:Cb},c[p]? =some u→p<c.length:=fun {u} b=>by
  rcases cJ p c.length with q | q
  ·exact q
  ·rw [bV q] at b;cases b
 match t,h with
 | .mk v [],h=>obtain ⟨u,b,_⟩:=h;exact e b
 | .mk v [(j,k)],h=>obtain ⟨u,b,_⟩:=h;exact e b
 | .mk v [(j,k),(m,n)],h=>obtain ⟨u,b,_⟩:=h;exact e b
theorem UY{F:Nat}(A:Tj d P X F)(b e:Nat)(t:TS)(q n p a k:Nat)(j:List Hi)(h:QB d (Aq X b).m9 (AF P b).m8 t p a q n)
 (s:RS)(o:s.left<F)(x:s.Yi=0)(y:s.YA=DL)(w:s.Yl=j.length+1)(r:s.Yl≤40):
 Mv P b e k a (s.left+1) j ⟨s.c,⟨b,e,p,k⟩::j,1⟩ s (Bi X d (AA X d F) F b e t q n s):=by
 have H:=NN h;have E:∀{u:Cb},(AF P b).m8[p]? =some u→u.kind=11→Gr P (s.left+1) ⟨s.c,⟨b,e,p,k⟩::j,1⟩=Gr P s.left ⟨{s.c with ch:=(D7 s.c.ch).2},⟨b,e,if (D7 s.c.ch).1 then u.taken else u.i8,k⟩::j,1⟩:=by
  intro u l f;have I:Jk (AF P b).m8 p=u:=by unfold Jk;rw [l];rfl
  rw [Ku _ H];unfold FE;simp [I,f]
 match t,h with
 | .mk v [],h=> obtain ⟨u,l,z,J,D⟩:=h;exact SJ i A l z J D s o x y w r
 | .mk v [(K,m)],h=>
   obtain ⟨u,l,z,D,⟨f,B⟩ | ⟨f,B⟩⟩:=h
   ·have g:=E l (z.kind.trans f);unfold Bi;simp only;rw [cT (by omega),cU f];cases C:(D7 s.c.ch).1 with
    | true=> rw [C] at g;simp only [if_true] at g⊢;exact (A b e m q n {s with c:={s.c with ch:=(D7 s.c.ch).2}} u.taken a k j o x y w r B).YL g (aV _) rfl rfl (.inr rfl)
    | false=> rw [C] at g;simp only [Bool.false_eq_true,if_false] at g⊢;exact (A b e [] (q+nL 1 m) (n+nL 8 m) {s with c:={s.c with ch:=(D7 s.c.ch).2}} u.i8 a k j o x y w r D).YL g (aV _) rfl rfl (.inr rfl)
   ·have W:=Mm A b e m q n p a k j u l (z.kind.trans f) D B F s o o x y w r;unfold Bi;simp only;rw [cT (by omega),cT (by omega),cU f];exact W
 | .mk v [(K,m),(M,L)],h=>
   obtain ⟨u,l,z,f,B,G⟩:=h;have g:=E l (z.kind.trans f);unfold Bi;simp only;rw [cT (by omega),cU f];cases C:(D7 s.c.ch).1 with
   | true=> rw [C] at g;simp only [if_true] at g⊢;exact (A b e m q n {s with c:={s.c with ch:=(D7 s.c.ch).2}} u.taken a k j o x y w r B).YL g (aV _) rfl rfl (.inr rfl)
   | false=> rw [C] at g;simp only [Bool.false_eq_true,if_false] at g⊢;exact (A b e L (q+nL 1 m) (n+nL 8 m) {s with c:={s.c with ch:=(D7 s.c.ch).2}} u.i8 a k j o x y w r G).YL g (aV _) rfl rfl (.inr rfl)
theorem Lb:∀F:Nat,Tj d P X F
 | 0=>fun _ _ _ _ _ _ _ _ _ _ h=>by omega
 | F+1=>by
   intro e c w v l s p a j k L y z I G h;match w,h with
   | [],h=> have D:p=a:=h;subst D;exact ⟨aV _,rfl,.inl ⟨rfl,y,rfl,z,rfl⟩⟩
   | t::w,h=>
     obtain ⟨m,x,H⟩:=h;rw [AA];by_cases n:s.left=0
     ·rw [cU n];refine ⟨aV _,rfl,.inr (.inr ⟨rfl,by simp,_,by simp only [n];exact ND (NN x)⟩)⟩
     ·rw [cT n];have S:=UY i (Lb F) e c t v l p m j k x s.one (by simp only [RS.one];omega) y z I G;have B:s.one.left+1=s.left:=by simp only [RS.one];omega
      rw [B] at S;simp only;generalize Bi X d (AA X d F) F e c t v l s.one=r at S⊢;have A:Mv P e c j m s.left k ⟨s.c,⟨e,c,p,j⟩::k,1⟩ s r:=S.YL rfl (by simp only [RS.one];omega) (by simp only [RS.one];omega) rfl (.inr rfl);obtain ⟨q,u,K⟩:=A;rcases K with ⟨f,b,o,E,g⟩ | ⟨f,b,o,g⟩ | ⟨f,b,C,g⟩
      ·rw [cT (by rw [f,b];simp)];have J:r.2.left<F:=by have:=S.left;simp only [RS.one] at this;omega
       exact (Lb F e c w (v+nK 1 t) (l+nK 8 t) r.2 m a j k J b E (by omega) (by omega) H).YL g q u o (.inr rfl)
      ·rw [cU (.inl f)];exact ⟨q,u,.inr (.inl ⟨rfl,b,o,by rw [g,Gw]⟩)⟩
      ·rw [cU (.inl f)];exact ⟨q,u,.inr (.inr ⟨rfl,b,C,g⟩)⟩
def Em(X:List XF)(d:List ByteArray)(c a:Nat)(b:List UInt8):RS:=
 let r:=Cu X (AA X d (a+1)) c [] ⟨⟨[],b,[],[]⟩,a,0,0,0,DL⟩
 if r.1 then {r.2 with Yi:=2} else r.2
def OD(P:List PFn)(c b:Nat)(a:List UInt8):Mc×Nat:=Gr P b (Bu P ⟨⟨[],a,[],[]⟩,[],1⟩ c [] 0)
theorem Wh(a b:Nat)(c:List UInt8):∃h,OD P a b c=(⟨(Em X d a b c).c,h,(Em X d a b c).Yi⟩,(Em X d a b c).left)∧(Em X d a b c).m8+(Em X d a b c).left=b:=by
 unfold Em OD Cu Bu;have I:=Lb i (b+1) a 0 (Aq X a).Yg (Aq X a).pl (Aq X a).ca ⟨(⟨[],c,[],[]⟩:Co).enter a (Aq X a).m9.length [],b,0,1,0,DL⟩ 0 (AF P a).m8.length 0 [] (Nat.lt_succ_self _) rfl rfl rfl (by simp) (i.laid a);simp only [bM,cB,i.m9,show¬(0:Nat)=40 by omega,show¬(40:Nat)≤0 by omega,if_false];generalize AA X d (b+1) a 0 (Aq X a).Yg (Aq X a).pl (Aq X a).ca ⟨(⟨[],c,[],[]⟩:Co).enter a (Aq X a).m9.length [],b,0,1,0,DL⟩=r at I⊢;obtain ⟨n,g,k⟩:=I;simp only [cB] at n g k;rcases k with ⟨j,e,l,o,f⟩ | ⟨j,e,l,f⟩ | ⟨j,e,h,f⟩
 ·simp only [e,BEq.rfl,if_true];refine ⟨[],?_,g⟩;rw [f,LR _ (by simp) (by simp)];exact Ip _ (by simp [A6])
 ·simp only [e,BEq.rfl,if_true];refine ⟨[],?_,g⟩;rw [f];exact Ip _ (by simp [A6])
 ·have m:(r.2.Yi==0)=false:=by simpa using e
  simp only [m,Bool.false_eq_true,if_false];exact ⟨h,f,g⟩
end
mutual
def dS:TS→List ByteArray
 | .mk s bl=>(if s.kind=0 then [s.tg.i6] else [])++dB bl
def dB:List (Nat×List TS)→List ByteArray
 | []=>[]
 | (_,ts)::r=>dL ts++dB r
def dL:List TS→List ByteArray
 | []=>[]
 | t::ts=>dS t++dL ts
end
structure XC(fn:List ByteArray)(par:List Nat)(s:VS)(vs:List ByteArray):Prop where
 decl:s.kind=0→s.tg.i6∉vs∧vs.length<12
 tg:s.kind≠0→s.kind≠10→s.tg.i6∈vs
 func:s.kind=4∨s.kind=7→s.sr.i6∈fn
 many:s.kind=7→par[vx fn s.sr.i6]?.getD 0=s.args.length
 sr:s.kind=2∨s.kind=3∨s.kind=5∨s.kind=6∨s.kind=8∨s.kind=9∨s.kind=10→s.sr.i6∈vs
 args:s.kind=7∨s.kind=8→∀t,t∈s.args→t.i6∈vs
mutual
def Wu(fn:List ByteArray)(par:List Nat):TS→List ByteArray→Prop
 | .mk s [],vs=>s.kind≤10∧XC fn par s vs
 | .mk s [(_,ts)],vs=>(s.kind=11∨s.kind=12)∧IL fn par ts vs
 | .mk s [(_,ts),(_,ts2)],vs=>s.kind=11∧IL fn par ts vs∧IL fn par ts2 (vs++dL ts)
 | .mk _ (_::_::_::_),_=>False
def IL(fn:List ByteArray)(par:List Nat):List TS→List ByteArray→Prop
 | [],_=>True
 | t::ts,vs=>Wu fn par t vs∧IL fn par ts (vs++dS t)
end
theorem QJ(l m:List ByteArray)(s:ByteArray)(h:s∈l):∀k,CB (l++m) s k=CB l s k:=by
 induction l with
 | nil=>cases h
 | cons a l c=>
   intro k;simp only [List.cons_append,CB];split
   ·rfl
   ·rename_i b;rcases cM.1 h with q | q
    ·subst q;exact dC rfl b
    ·exact c q (k+1)
theorem M4{l m:List ByteArray}{s:ByteArray}(h:s∈l):vx (l++m) s=vx l s:=by unfold vx;rw [QJ l m s h]
structure WF(dn:List ByteArray)(n1 n8 sz:Nat)(b b':Bd)(L:List ByteArray→List Cb→Prop):Prop where
 p9:b'.p9=b.p9++dn
 pl:b'.pl=b.pl+n1
 ca:b'.ca=b.ca+n8
 len:b'.m8.length=b.m8.length+sz
 pre:∀i,i<b.m8.length→b'.m8[i]? =b.m8[i]?
 laid:∀(more:List ByteArray) (st:List Cb),(∀i,b.m8.length≤i→i<b'.m8.length→st[i]? =b'.m8[i]?)→L (b'.p9++more) st
theorem SM{fn:List ByteArray}{par:List Nat}{s:VS}{b:Bd}(h:XC fn par s b.p9)(a:Nat)(g:List ByteArray):Hk fn (b.p9++g) s {AE fn s b with i8:=a} b.pl b.ca:=by
 refine ⟨rfl,fun d e _=>?_,fun c=>?_,fun c=>?_,rfl,fun c=>?_,fun c=>?_,fun c=>?_⟩
 ·simp only [AE,cT d,M4 (h.tg d e)]
 ·simp only [AE,cU c]
 ·simp only [AE,cT (show¬(s.kind=4∨s.kind=7) by omega),M4 (h.sr c)]
 ·simp only [AE,cU c]
 ·simp only [AE,cT (show¬s.kind=1 by omega),cU c]
 ·simp only [AE];exact List.map_congr_left fun t f=>(M4 (h.args c t f)).symm
theorem Lf{fn:List ByteArray}{s:VS}{b:Bd}(d:s.kind=11∨s.kind=12)(c:List ByteArray)(a n:Nat):Hk fn c s {AE fn s b with i8:=a,taken:=n} b.pl b.ca:=
 ⟨rfl,fun _ _ _=>by omega,fun _=>by omega,fun _=>by omega,rfl,fun _=>by omega,fun _=>by omega,fun _=>by omega⟩
theorem Bw(fn:List ByteArray)(s:VS)(a:Nat)(b:Bd):(Av fn s a b).m8=b.m8++[{AE fn s b with i8:=a}]:=rfl
theorem Le(fn:List ByteArray)(s:VS)(a:Nat)(b:Bd):(Av fn s a b).m8[b.m8.length]? =some {AE fn s b with i8:=a}:=by rw [Bw,cV (aV _)];simp
theorem ED(fn:List ByteArray)(s:VS)(a:Nat)(b:Bd)(c:s.kind=11∨s.kind=12):(Av fn s a b).p9=b.p9∧(Av fn s a b).pl=b.pl∧(Av fn s a b).ca=b.ca:=by refine ⟨?_,?_,?_⟩<;>(simp only [Av,BQ];rw [cT (by omega)])
theorem Q7(b:Bd)(i n j:Nat):(b.tk i n).m8[j]? =if i=j then (b.m8[j]?).map (fun s=>{s with taken:=n}) else b.m8[j]? :=by simp only [Bd.tk,List.getElem?_modify];split<;>simp
theorem QZ(b:Bd)(i n j:Nat):(b.nx i n).m8[j]? =if i=j then (b.m8[j]?).map (fun s=>{s with i8:=n}) else b.m8[j]? :=by simp only [Bd.nx,List.getElem?_modify];split<;>simp
theorem Lm(b:Bd)(i n:Nat):(b.tk i n).m8.length=b.m8.length:=by simp [Bd.tk]
theorem Uj(b:Bd)(i n:Nat):(b.nx i n).m8.length=b.m8.length:=by simp [Bd.nx]
section
variable {fn : List ByteArray} {par : List Nat}
mutual
theorem JS:∀(t:TS) (a:Nat) (b:Bd),Wu fn par t b.p9→WF (dS t) (nK 1 t) (nK 8 t) (EG t) b (Eb fn t a b) (fun vars st=>QB fn vars st t b.m8.length a b.pl b.ca)
 | .mk s [],a,b,h=>by
   obtain ⟨hk,ho⟩:=h;refine ⟨?_,?_,?_,?_,?_,fun more st hst=>?_⟩
   ·simp only [Eb,Av,BQ,dS,dB,cC];split<;>simp
   ·simp only [Eb,Av,BQ,nK,nB,bK];split<;>rfl
   ·simp only [Eb,Av,BQ,nK,nB,bK];split<;>rfl
   ·simp [Eb,Bw,EG,Lg]
   ·intro i hi;rw [Eb,Bw,cW hi]
   ·have e:(Eb fn (.mk s []) a b).p9=b.p9++(if s.kind=0 then [s.tg.i6] else []):=by simp only [Eb,Av,BQ];split<;>simp
    refine ⟨_,(hst b.m8.length (aV _) (by simp [Eb,Bw])).trans (Le fn s a b),?_,by omega,rfl⟩
    rw [e,cX]
    exact SM ho a _
 | .mk s [(p,ts)],a,b,h=>by
   obtain ⟨hk,ho⟩:=h;obtain ⟨e1,e2,e3⟩:=ED fn s a b hk;have hA:=Le fn s a b;have hAl:(Av fn s a b).m8.length=b.m8.length+1:=by simp [Bw]
   have go:∀(g:Nat) (bb:Bd),Bl fn ts g (Av fn s a b)=bb→WF (dS (.mk s [(p,ts)])) (nK 1 (.mk s [(p,ts)])) (nK 8 (.mk s [(p,ts)])) (EG (.mk s [(p,ts)])) b (bb.tk b.m8.length (AT ts g (Av fn s a b)))
    (fun vars st=>∃u,st[b.m8.length]? =some u∧Hk fn vars s u b.pl b.ca∧u.i8=a∧Gn fn vars st ts u.taken g b.pl b.ca):=by
    intro g bb hbb;have I:=Ef ts g (Av fn s a b) (by rw [e1];exact ho);rw [hbb] at I;have i4:=I.len;refine ⟨?_,?_,?_,?_,?_,fun more st hst=>?_⟩
    ·show bb.p9=_;rw [I.p9,e1];simp [dS,dB,show¬s.kind=0 by omega]
    ·show bb.pl=_;rw [I.pl,e2];simp [nK,nB,show¬s.kind=1 by omega]
    ·show bb.ca=_;rw [I.ca,e3];simp [nK,nB,show¬s.kind=8 by omega]
    ·rw [Lm,I.len,hAl];simp [EG,Lg];omega
    ·intro i hi;rw [Q7,cT (by omega),I.pre i (by omega),Bw,cW hi]
    ·rw [Lm] at hst;have c0:=hst b.m8.length (aV _) (by omega);rw [Q7,cU rfl,I.pre _ (by omega),hA] at c0;refine ⟨_,c0,Lf hk _ _ _,rfl,?_⟩;have:=I.laid more st (fun i hi hi'=>by rw [hst i (by omega) hi',Q7,cT (by omega)])
     rw [e2,e3] at this;exact this
   rw [Eb];rcases hk with hk | hk
   ·rw [cU hk];obtain ⟨g1,g2,g3,g4,g5,g6⟩:=go a _ rfl;refine ⟨g1,g2,g3,g4,g5,fun more st hst=>?_⟩;obtain ⟨u,q1,q2,q3,q4⟩:=g6 more st hst;exact ⟨u,q1,q2,q3,.inl ⟨hk,q4⟩⟩
   ·rw [cT (by omega),cU hk];obtain ⟨g1,g2,g3,g4,g5,g6⟩:=go b.m8.length _ rfl;refine ⟨g1,g2,g3,g4,g5,fun more st hst=>?_⟩;obtain ⟨u,q1,q2,q3,q4⟩:=g6 more st hst;exact ⟨u,q1,q2,q3,.inr ⟨hk,q4⟩⟩
 | .mk s [(p,ts),(p2,ts2)],a,b,h=>by
   obtain ⟨hk,ho,ho2⟩:=h;obtain ⟨e1,e2,e3⟩:=ED fn s a b (.inl hk);have hA:=Le fn s a b;have hAl:(Av fn s a b).m8.length=b.m8.length+1:=by simp [Bw]
   have I:=Ef ts a (Av fn s a b) (by rw [e1];exact ho);rw [Eb,cU hk];simp only;generalize Bl fn ts a (Av fn s a b)=bb at I⊢;have i4:=I.len;have J:=Ef ts2 a (bb.tk b.m8.length (AT ts a (Av fn s a b))) (by show IL fn par ts2 bb.p9;rw [I.p9,e1];exact ho2)
   have hJl:(bb.tk b.m8.length (AT ts a (Av fn s a b))).m8.length=bb.m8.length:=Lm _ _ _;have hJp:(bb.tk b.m8.length (AT ts a (Av fn s a b))).pl=bb.pl:=rfl;have hJc:(bb.tk b.m8.length (AT ts a (Av fn s a b))).ca=bb.ca:=rfl;have hJn:(bb.tk b.m8.length (AT ts a (Av fn s a b))).p9=bb.p9:=rfl;have hJa:=fun j=>Q7 bb b.m8.length (AT ts a (Av fn s a b)) j
   generalize bb.tk b.m8.length (AT ts a (Av fn s a b))=bt at*;generalize Bl fn ts2 a bt=b3 at J⊢;have j4:=J.len;refine ⟨?_,?_,?_,?_,?_,fun more st hst=>?_⟩
   ·show b3.p9=_;rw [J.p9,hJn,I.p9,e1];simp [dS,dB,show¬s.kind=0 by omega]
   ·show b3.pl=_;rw [J.pl,hJp,I.pl,e2];simp [nK,nB,show¬s.kind=1 by omega];omega
   ·show b3.ca=_;rw [J.ca,hJc,I.ca,e3];simp [nK,nB,show¬s.kind=8 by omega];omega
   ·rw [Uj,J.len,hJl,I.len,hAl];simp [EG,Lg];omega
   ·intro i hi;rw [QZ,cT (by omega),J.pre i (by omega),hJa,cT (by omega),I.pre i (by omega),Bw,cW hi]
   ·rw [Uj] at hst;have c0:=hst b.m8.length (aV _) (by omega);rw [QZ,cU rfl,J.pre _ (by omega),hJa,cU rfl,I.pre _ (by omega),hA] at c0;refine ⟨_,c0,Lf (.inl hk) _ _ _,hk,?_,?_⟩
    ·have:=I.laid (dL ts2++more) st (fun i hi hi'=>by rw [hst i (by omega) (by omega),QZ,cT (by omega),J.pre i (by omega),hJa,cT (by omega)])
     rw [e2,e3,←cX,←hJn,←J.p9] at this
     exact this
    ·have:=J.laid more st (fun i hi hi'=>by rw [hst i (by omega) hi',QZ,cT (by omega)])
     rw [hJp,hJc,I.pl,I.ca,e2,e3] at this
     exact this
theorem Ef:∀(ts:List TS) (a:Nat) (b:Bd),IL fn par ts b.p9→WF (dL ts) (nL 1 ts) (nL 8 ts) (CT ts) b (Bl fn ts a b) (fun vars st=>Gn fn vars st ts (AT ts a b) a b.pl b.ca)
 | [],a,b,_=>⟨by simp [Bl,dL],by simp [Bl,nL],by simp [Bl,nL],by simp [Bl,CT],fun i _=>by rw [Bl],fun more st _=>by simp only [AT,bM,if_true];rfl⟩
 | [t],a,b,h=>by have I:=JS t a b h.1;rw [Bl];refine ⟨by rw [I.p9];simp [dL],by rw [I.pl];simp [nL],by rw [I.ca];simp [nL],by rw [I.len];simp [CT],I.pre,fun more st hst=>?_⟩;refine ⟨a,?_,rfl⟩;have:=I.laid more st hst;simpa [AT] using this
 | t::t2::ts,a,b,h=>by
   have I:=JS t (b.m8.length+EG t) b h.1;rw [Bl];generalize Eb fn t (b.m8.length+EG t) b=b1 at I⊢;have J:=Ef (t2::ts) a b1 (by rw [I.p9];exact h.2);generalize Bl fn (t2::ts) a b1=b2 at J⊢;have i4:=I.len;have j4:=J.len;refine ⟨by rw [J.p9,I.p9];simp [dL],by rw [J.pl,I.pl];simp [nL];omega,by rw [J.ca,I.ca];simp [nL];omega,by rw [J.len,I.len];simp [CT];omega,fun i hi=>by rw [J.pre i (by omega),I.pre i hi],fun more st hst=>?_⟩;refine ⟨b.m8.length+EG t,?_,?_⟩
   ·have:=I.laid (dL (t2::ts)++more) st (fun i hi hi'=>by rw [hst i hi (by omega),J.pre i hi']);rw [←cX,←J.p9] at this;simpa [AT] using this
   ·have:=J.laid more st (fun i hi hi'=>hst i (by omega) hi');rw [I.pl,I.ca] at this;simp only [AT,aX,cT (show¬ts.length+1=0 by omega)] at this;rw [i4] at this;exact this
end
end
def Gm:List TF→Nat→Nat→List XF
 | [],_,_=>[]
 | t::l,b,a=>⟨t.p8.map (fun p=>p.i6)++dL t.Yg,t.p8.length,t.Yg,b,a⟩::Gm l (b+nL 1 t.Yg) (a+nL 8 t.Yg)
def XU(a:List TF):Prop:=∀t,t∈a→IL (a.map fun f=>f.name.i6) (a.map fun f=>f.p8.length) t.Yg (t.p8.map fun p=>p.i6)
theorem KO{fn:List ByteArray}{par:List Nat}(t:TF)(b a:Nat)(h:IL fn par t.Yg (t.p8.map fun p=>p.i6)):
 (Dp fn t b a).m9=t.p8.map (fun p=>p.i6)++dL t.Yg∧(Ie fn t b a).pl=b+nL 1 t.Yg∧(Ie fn t b a).ca=a+nL 8 t.Yg∧(Dp fn t b a).m8.length=CT t.Yg∧Gn fn (t.p8.map (fun p=>p.i6)++dL t.Yg) (Dp fn t b a).m8 t.Yg 0 (Dp fn t b a).m8.length b a:=by
 have I:=Ef t.Yg (CT t.Yg) (S8 t b a) h;have c:(Dp fn t b a).m8.length=CT t.Yg:=by show (Bl fn t.Yg (CT t.Yg) (S8 t b a)).m8.length=_;rw [I.len];simp [S8]
 refine ⟨I.p9,I.pl,I.ca,c,?_⟩;rw [c];have:=I.laid [] (Dp fn t b a).m8 (fun _ _ _=>rfl);rw [cC,I.p9] at this;have e:AT t.Yg (CT t.Yg) (S8 t b a)=0:=by
  unfold AT;cases t.Yg with
  | nil=>rfl
  | cons _ _=>rfl
 rw [e] at this;exact this
theorem Q3{fn:List ByteArray}{par:List Nat}:∀(l:List TF) (b a:Nat),(∀t,t∈l→IL fn par t.Yg (t.p8.map fun p=>p.i6))→PX fn (Bs fn l b a) (Gm l b a)
 | [],b,a,_=>⟨fun f=>by simp [Bs,Gm,AF,Aq],fun f=>by simp [Bs,Gm,AF,Aq],fun f=>by simp only [Bs,Gm,AF,Aq,List.getElem?_nil,Option.getD_none];rfl⟩
 | t::l,b,a,h=>by
   obtain ⟨c,d,e,j,g⟩:=KO (fn:=fn) (par:=par) t b a (h t (cS ..));have I:=Q3 (fn:=fn) (par:=par) l (b+nL 1 t.Yg) (a+nL 8 t.Yg) (fun t i=>h t (bN _ i));rw [Bs,d,e,Gm];refine ⟨fun f=>?_,fun f=>?_,fun f=>?_⟩
   ·cases f with
    | zero=>simp only [AF,Aq,aS,Option.getD_some];rw [c]
    | succ f=>exact I.m9 f
   ·cases f with
    | zero=>rfl
    | succ f=>exact I.p8 f
   ·cases f with
    | zero=>exact g
    | succ f=>exact I.laid f
end Go.Proofs.YthppbgndiplgnaaGreatDoor

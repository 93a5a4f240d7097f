/- One of the texts of the proof of texts_card_holds: LexA LexB2 LexB3 LexB4 LexC LexD LexE RdA RdB RdC. -/
import Derived.Test.YtmaankfbhhbeoaaGreatDoorG08
set_option maxRecDepth 100000
set_option maxHeartbeats 1000000
namespace Go.Proofs.YtmaankfbhhbeoaaGreatDoor
open Go.RowKit
theorem Gu{a b}(h:a=b):Ending.returned (.bool a)=.returned (.bool b):=by rw [h]
def DL(c:Int):Bool:=(decide (97≤c) && decide (c≤122)) || (decide (224≤c) && decide (c≤255) && (c !=247))
def DV(c:Int):Bool:=c==40 || c==41 || c==123 || c==125 || c==59 || c==61 || c==38 || c==42 || c==64 || c==46 || c==63
theorem AX(c w):
 Calls Tryz.prog 22 #[.int .i64 c] w fun e a=>e=.returned (.bool (DL c))∧a=w:=by
 go_enter Tryz.func22,Tryz.ntmps22;go_wp2;all_goals
  go_ret;exact ⟨Gu (by rw [Bool.eq_iff_iff];simp [DL];omega),rfl⟩
theorem BH(c w):
 Calls Tryz.prog 23 #[.int .i64 c] w fun e a=>e=.returned (.bool (DV c))∧a=w:=by
 go_enter Tryz.func23,Tryz.ntmps23;go_wp2;all_goals
  go_ret;refine ⟨Gu ?_,rfl⟩;first
   | (unfold DV;rfl)
   | (simp [DV, *];done)
def Ks(l:List UInt8):Bool:=l==[102,110] || l==[118,97,114] || l==[110,101,119] || l==[114,101,116,117,114,110] || l==[105,102] || l==[101,108,115,101] || l==[119,104,105,108,101]
theorem DQ(s w):
 Calls Tryz.prog 26 #[.string s] w fun e a=>e=.returned (.bool (Ks s.toList))∧a=w:=by
 go_enter Tryz.func26,Tryz.ntmps26;go_wp2;all_goals
  go_ret;refine ⟨Gu ?_,rfl⟩;first
   | (unfold Ks;rfl)
   | (simp [Ks, *];done)
theorem Ja(s:ByteArray)(i:Nat)(d:i<s.size)(_hs:s.size≤4000)(b:bt s i<128)(w:World):
 Calls Tryz.prog 21 #[.string s,.int .i64 i] w fun e f=>e=.returned (.tuple #[.int .i64 (AM s i).1,.int .i64 (AM s i).2])∧f=w:=by
 have c:AM s i=(bt s i,1):=by simp only [AM,if_pos b]
 have a:=CN s i d;rw [c];clear c;rw [a] at b⊢;clear a;go_enter Tryz.func21,Tryz.ntmps21;go_wp2;go_ret2;exact ⟨rfl,rfl⟩
theorem KD(s:ByteArray)(i:Nat)(f:i<s.size)(_hs:s.size≤4000)(d:128≤bt s i)(a:bt s i<194∨245≤bt s i)(w:World):
 Calls Tryz.prog 21 #[.string s,.int .i64 i] w fun e h=>e=.returned (.tuple #[.int .i64 (AM s i).1,.int .i64 (AM s i).2])∧h=w:=by
 have c:AM s i=(0,0):=by simp only [AM];rw [if_neg (by omega),if_neg (by omega),if_neg (by omega),if_neg (by omega)]
 have b:=CN s i f;have g:=Ie s i;rw [c];clear c;rw [b] at d a g;clear b;rcases a with a | a
 all_goals
  go_enter Tryz.func21,Tryz.ntmps21;go_wp2;go_ret2;exact ⟨rfl,rfl⟩
theorem KE(s i)(x:i<s.size)(N:s.size≤4000)(n:194≤bt s i)(o:bt s i<224)(w):
 Calls Tryz.prog 21 #[.string s,.int .i64 i] w fun e B=>e=.returned (.tuple #[.int .i64 (AM s i).1,.int .i64 (AM s i).2])∧B=w:=by
 have r:AM s i=CB s i 2 128 (bt s i-192):=by simp only [AM];rw [if_neg (by omega),if_pos ⟨n,o⟩]
 have h:=CN s i x;rw [r];clear r;by_cases z:s.size<i+2
 ·rw [El z];rw [h] at n o;clear h;go_enter Tryz.func21,Tryz.ntmps21;go_wp2;go_ret2;exact ⟨rfl,rfl⟩
 ·generalize d:CB s i 2 128 (bt s i-192)=v;have f:Nj (CB s i 2 128 (s[i].toNat-192)=v):=by rw [←h];exact d
  clear d;rw [h] at n o;clear h;have E:decide ((s[i].toNat:Int)<128)=false:=by simp;omega
  have F:decide ((s[i].toNat:Int)<224)=true:=by simp;omega
  have G:decide ((s.size:Int)<(i:Int)+2)=false:=by simp;omega
  go_enter Tryz.func21,Tryz.ntmps21;go_wp2;go_loop [6,9,10] (fun c k _=>∃m a:Nat,m≤1∧k=.int .i64 (m+1:Nat)∧c=.int .i64 a∧A5 s i (s[i].toNat-192) m=some a) (fun _ k _=>2-(intOf k).toNat)
  case atStart=>exact ⟨0,_,by omega,rfl,by go_num,rfl⟩
  case round=>
   obtain ⟨m,a,K,rfl,rfl,b⟩:=hrel;have u:=FV (by omega) (by omega) b;unfold FO at u;by_cases J:m+1<2
   ·have y:i+(m+1)<s.size:=by omega
    have j:=CN s (i+(m+1)) y;have M:s[i+(m+1)].toNat<256:=UInt8.toNat_lt _;by_cases g:bt s (i+1+m)<128∨191<bt s (i+1+m)
    ·have d:v=(0,0):=by rw [←f.o,EZ (Dm (E4 b g) (by omega))]
     subst d;clear f b;rw [show i+1+m=i+(m+1) from by omega,j] at g;clear j;rcases g with g | g
     all_goals
      go_wp2;go_ret2;exact ⟨rfl,rfl⟩
    ·have t:Nj (A5 s i (s[i].toNat-192) (m+1)=some (a*64+s[i+(m+1)].toNat-128)):=by have:=CC b (by omega) (by omega);rw [show i+1+m=i+(m+1) from by omega,j] at this;exact this
     rw [show i+1+m=i+(m+1) from by omega,j] at g
     have C:128≤s[i+(m+1)].toNat:=by omega
     have D:s[i+(m+1)].toNat≤191:=by omega
     clear g j b f
     go_wp2
     go_round
     case rel=>exact ⟨m+1,_,by omega,by go_num,by go_num,t.o⟩
     case measure=>simp [intOf];omega
   ·have A:m=2-1:=by omega
    subst A;by_cases l:a<128∨1114111<a∨(55296≤a∧a<57344)
    ·have d:v=(0,0):=by rw [←f.o,FN b l]
     subst d;clear f b;rcases l with q | q | ⟨q,L⟩
     all_goals
      go_wp2;go_ret2;exact ⟨rfl,rfl⟩
    ·have d:v=(a,2):=by rw [←f.o,Fy (by omega) b l]
     subst d;have H:128≤a:=by omega
     have I:a≤1114111:=by omega
     have p:a<55296∨57344≤a:=by omega
     clear f b l;rcases p with p | p
     all_goals
      go_wp2;go_ret2;exact ⟨rfl,rfl⟩
theorem Jb(s i)(x:i<s.size)(O:s.size≤4000)(n:224≤bt s i)(o:bt s i<240)(w):
 Calls Tryz.prog 21 #[.string s,.int .i64 i] w fun e B=>e=.returned (.tuple #[.int .i64 (AM s i).1,.int .i64 (AM s i).2])∧B=w:=by
 have r:AM s i=CB s i 3 2048 (bt s i-224):=by simp only [AM];rw [if_neg (by omega),if_neg (by omega),if_pos ⟨n,o⟩]
 have h:=CN s i x;rw [r];clear r;by_cases z:s.size<i+3
 ·rw [El z];rw [h] at n o;clear h;go_enter Tryz.func21,Tryz.ntmps21;go_wp2;go_ret2;exact ⟨rfl,rfl⟩
 ·generalize d:CB s i 3 2048 (bt s i-224)=v;have f:Nj (CB s i 3 2048 (s[i].toNat-224)=v):=by rw [←h];exact d
  clear d;rw [h] at n o;clear h;have E:decide ((s[i].toNat:Int)<128)=false:=by simp;omega
  have F:decide ((s[i].toNat:Int)<224)=false:=by simp;omega
  have G:decide ((s[i].toNat:Int)<240)=true:=by simp;omega
  have H:decide ((s.size:Int)<(i:Int)+3)=false:=by simp;omega
  go_enter Tryz.func21,Tryz.ntmps21;go_wp2;go_loop [6,9,10] (fun c k _=>∃m a:Nat,m≤2∧k=.int .i64 (m+1:Nat)∧c=.int .i64 a∧A5 s i (s[i].toNat-224) m=some a) (fun _ k _=>3-(intOf k).toNat)
  case atStart=>exact ⟨0,_,by omega,rfl,by go_num,rfl⟩
  case round=>
   obtain ⟨m,a,L,rfl,rfl,b⟩:=hrel;have u:=FV (by omega) (by omega) b;unfold FO at u;by_cases K:m+1<3
   ·have y:i+(m+1)<s.size:=by omega
    have j:=CN s (i+(m+1)) y;have N:s[i+(m+1)].toNat<256:=UInt8.toNat_lt _;by_cases g:bt s (i+1+m)<128∨191<bt s (i+1+m)
    ·have d:v=(0,0):=by rw [←f.o,EZ (Dm (E4 b g) (by omega))]
     subst d;clear f b;rw [show i+1+m=i+(m+1) from by omega,j] at g;clear j;rcases g with g | g
     all_goals
      go_wp2;go_ret2;exact ⟨rfl,rfl⟩
    ·have t:Nj (A5 s i (s[i].toNat-224) (m+1)=some (a*64+s[i+(m+1)].toNat-128)):=by have:=CC b (by omega) (by omega);rw [show i+1+m=i+(m+1) from by omega,j] at this;exact this
     rw [show i+1+m=i+(m+1) from by omega,j] at g
     have C:128≤s[i+(m+1)].toNat:=by omega
     have D:s[i+(m+1)].toNat≤191:=by omega
     clear g j b f
     go_wp2
     go_round
     case rel=>exact ⟨m+1,_,by omega,by go_num,by go_num,t.o⟩
     case measure=>simp [intOf];omega
   ·have A:m=3-1:=by omega
    subst A;by_cases l:a<2048∨1114111<a∨(55296≤a∧a<57344)
    ·have d:v=(0,0):=by rw [←f.o,FN b l]
     subst d;clear f b;rcases l with q | q | ⟨q,M⟩
     all_goals
      go_wp2;go_ret2;exact ⟨rfl,rfl⟩
    ·have d:v=(a,3):=by rw [←f.o,Fy (by omega) b l]
     subst d;have I:2048≤a:=by omega
     have J:a≤1114111:=by omega
     have p:a<55296∨57344≤a:=by omega
     clear f b l;rcases p with p | p
     all_goals
      go_wp2;go_ret2;exact ⟨rfl,rfl⟩
theorem JW(s i)(x:i<s.size)(P:s.size≤4000)(n:240≤bt s i)(o:bt s i<245)(w):
 Calls Tryz.prog 21 #[.string s,.int .i64 i] w fun e B=>e=.returned (.tuple #[.int .i64 (AM s i).1,.int .i64 (AM s i).2])∧B=w:=by
 have r:AM s i=CB s i 4 65536 (bt s i-240):=by simp only [AM];rw [if_neg (by omega),if_neg (by omega),if_neg (by omega),if_pos ⟨n,o⟩]
 have h:=CN s i x;rw [r];clear r;by_cases z:s.size<i+4
 ·rw [El z];rw [h] at n o;clear h;go_enter Tryz.func21,Tryz.ntmps21;go_wp2;go_ret2;exact ⟨rfl,rfl⟩
 ·generalize d:CB s i 4 65536 (bt s i-240)=v;have f:Nj (CB s i 4 65536 (s[i].toNat-240)=v):=by rw [←h];exact d
  clear d;rw [h] at n o;clear h;have E:decide ((s[i].toNat:Int)<128)=false:=by simp;omega
  have F:decide ((s[i].toNat:Int)<224)=false:=by simp;omega
  have G:decide ((s[i].toNat:Int)<240)=false:=by simp;omega
  have H:decide ((s[i].toNat:Int)<245)=true:=by simp;omega
  have I:decide ((s.size:Int)<(i:Int)+4)=false:=by simp;omega
  go_enter Tryz.func21,Tryz.ntmps21;go_wp2;go_loop [6,9,10] (fun c k _=>∃m a:Nat,m≤3∧k=.int .i64 (m+1:Nat)∧c=.int .i64 a∧A5 s i (s[i].toNat-240) m=some a) (fun _ k _=>4-(intOf k).toNat)
  case atStart=>exact ⟨0,_,by omega,rfl,by go_num,rfl⟩
  case round=>
   obtain ⟨m,a,M,rfl,rfl,b⟩:=hrel;have u:=FV (by omega) (by omega) b;unfold FO at u;by_cases L:m+1<4
   ·have y:i+(m+1)<s.size:=by omega
    have j:=CN s (i+(m+1)) y;have O:s[i+(m+1)].toNat<256:=UInt8.toNat_lt _;by_cases g:bt s (i+1+m)<128∨191<bt s (i+1+m)
    ·have d:v=(0,0):=by rw [←f.o,EZ (Dm (E4 b g) (by omega))]
     subst d;clear f b;rw [show i+1+m=i+(m+1) from by omega,j] at g;clear j;rcases g with g | g
     all_goals
      go_wp2;go_ret2;exact ⟨rfl,rfl⟩
    ·have t:Nj (A5 s i (s[i].toNat-240) (m+1)=some (a*64+s[i+(m+1)].toNat-128)):=by have:=CC b (by omega) (by omega);rw [show i+1+m=i+(m+1) from by omega,j] at this;exact this
     rw [show i+1+m=i+(m+1) from by omega,j] at g
     have C:128≤s[i+(m+1)].toNat:=by omega
     have D:s[i+(m+1)].toNat≤191:=by omega
     clear g j b f
     go_wp2
     go_round
     case rel=>exact ⟨m+1,_,by omega,by go_num,by go_num,t.o⟩
     case measure=>simp [intOf];omega
   ·have A:m=4-1:=by omega
    subst A;by_cases l:a<65536∨1114111<a∨(55296≤a∧a<57344)
    ·have d:v=(0,0):=by rw [←f.o,FN b l]
     subst d;clear f b;rcases l with q | q | ⟨q,N⟩
     all_goals
      go_wp2;go_ret2;exact ⟨rfl,rfl⟩
    ·have d:v=(a,4):=by rw [←f.o,Fy (by omega) b l]
     subst d;have J:65536≤a:=by omega
     have K:a≤1114111:=by omega
     have p:a<55296∨57344≤a:=by omega
     clear f b l;rcases p with p | p
     ·omega
     ·go_wp2;go_ret2;exact ⟨rfl,rfl⟩
theorem A9(s:ByteArray)(i:Nat)(a:i<s.size)(b:s.size≤4000)(w:World):
 Calls Tryz.prog 21 #[.string s,.int .i64 i] w fun e h=>e=.returned (.tuple #[.int .i64 (AM s i).1,.int .i64 (AM s i).2])∧h=w:=by
 by_cases c:bt s i<128
 ·exact Ja s i a b c w
 ·by_cases d:bt s i<194∨245≤bt s i
  ·exact KD s i a b (by omega) d w
  ·by_cases f:bt s i<224
   ·exact KE s i a b (by omega) f w
   ·by_cases g:bt s i<240
    ·exact Jb s i a b (by omega) g w
    ·exact JW s i a b (by omega) (by omega) w
def Dr(s:ByteArray):Nat→Nat→Nat×Bool
 | 0,i=>(i,true)
 | f+1,i=>if i<s.size∧bt s i≠10 then (if (AM s i).2=0 then (i,false) else Dr s f (i+(AM s i).2)) else (i,true)
theorem Fz{s f i}(h:¬(i<s.size∧bt s i≠10)):Dr s f i=(i,true):=by
 cases f with
 | zero=>rfl
 | succ f=>simp only [Dr,if_neg h]
theorem JG{s f i}(c:s.size-i≤f)(h:i<s.size)(a:bt s i≠10)(b:(AM s i).2=0):Dr s f i=(i,false):=by
 cases f with
 | zero=>omega
 | succ f=>simp only [Dr,if_pos (And.intro h a),if_pos b]
theorem Hq{s f i}(d:s.size-i≤f)(h:i<s.size)(b:bt s i≠10)(c:(AM s i).2≠0):∃a,s.size-(i+(AM s i).2)≤a∧Dr s f i=Dr s a (i+(AM s i).2):=by
 cases f with
 | zero=>omega
 | succ f=>exact ⟨f,by omega,by simp only [Dr,if_pos (And.intro h b),if_neg c]⟩
theorem Fd(s:ByteArray)(i d:Nat)(A:i≤s.size)(t:s.size≤4000)(y:s.size-i≤d)(w:World):
 Calls Tryz.prog 24 #[.string s,.int .i64 i] w fun e m=>e=.returned (.tuple #[.int .i64 (Dr s d i).1,.bool (Dr s d i).2])∧m=w:=by
 generalize b:Dr s d i=v;have n:Nj (Dr s d i=v):=b;clear b;go_enter Tryz.func24,Tryz.ntmps24;go_wp2;go_loop [1,6,7] (fun j _ _=>∃k f:Nat,k≤s.size∧j=.int .i64 k∧s.size-k≤f∧Dr s f k=v) (fun j _ _=>s.size-(intOf j).toNat)
 case atStart=>exact ⟨i,d,A,rfl,y,n.o⟩
 case round=>
  obtain ⟨k,f,C,rfl,q,p⟩:=hrel;have a:Nj (Dr s f k=v):=p;clear p n;by_cases g:k<s.size
  ·have h:=CN s k g;by_cases c:bt s k=10
   ·have b:v=(k,true):=by rw [←a.o,Fz (by omega)]
    subst b;clear a;have x:(((s[k].toNat:Nat):Int) !=10)=false:=by rw [h] at c;simp;omega
    clear h c;go_wp2;go_ret2;exact ⟨rfl,rfl⟩
   ·have x:(((s[k].toNat:Nat):Int) !=10)=true:=by rw [h] at c;simp;omega
    have D:=CY s k g;by_cases l:(AM s k).2=0
    ·have b:v=(k,false):=by rw [←a.o,JG q g c l]
     subst b;have B:(((AM s k).2:Int)==0)=true:=by simp [l]
     clear a h c l;go_wp2_with (go_at_call 21;refine (A9 _ _ ?_ ?_ _).mono ?_;exact g;exact t;rintro e m ⟨rfl,rfl⟩);go_ret2;exact ⟨rfl,rfl⟩
    ·obtain ⟨o,z,r⟩:=Hq q g c l;have u:Nj (Dr s o (k+(AM s k).2)=v):=by rw [←r];exact a.o
     have B:(((AM s k).2:Int)==0)=false:=by simp [l]
     clear a h c r;go_wp2_with (go_at_call 21;refine (A9 _ _ ?_ ?_ _).mono ?_;exact g;exact t;rintro e m ⟨rfl,rfl⟩);go_round
     case rel=>exact ⟨k+(AM s k).2,o,by omega,by go_num,z,u.o⟩
     case measure=>simp [intOf];omega
  ·have b:v=(k,true):=by rw [←a.o,Fz (by omega)]
   subst b;clear a;go_wp2;go_ret2;exact ⟨rfl,rfl⟩
def BP(s:ByteArray):Nat→Nat→Nat→Nat×Nat
 | 0,i,k=>(i,k)
 | f+1,i,k=>if i<s.size∧(AM s i).2≠0∧DL (AM s i).1=true then BP s f (i+(AM s i).2) (k+1) else (i,k)
theorem EV{s f i k}(h:¬(i<s.size∧(AM s i).2≠0∧DL (AM s i).1=true)):BP s f i k=(i,k):=by
 cases f with
 | zero=>rfl
 | succ f=>simp only [BP,if_neg h]
theorem H7{s f i k}(d:s.size-i≤f)(h:i<s.size)(c:(AM s i).2≠0)(b:DL (AM s i).1=true):∃a,s.size-(i+(AM s i).2)≤a∧BP s f i k=BP s a (i+(AM s i).2) (k+1):=by
 cases f with
 | zero=>omega
 | succ f=>exact ⟨f,by omega,by simp only [BP];rw [if_pos ⟨h,c,b⟩]⟩
theorem Ex(s:ByteArray):∀(f i k:Nat),i≤s.size→i≤(BP s f i k).1∧(BP s f i k).1≤s.size∧k≤(BP s f i k).2∧(BP s f i k).2+i≤k+(BP s f i k).1
 | 0,i,k,h=>by simp only [BP];omega
 | f+1,i,k,h=>by
   simp only [BP];split
   ·rename_i a;have b:=CY s i a.1;have c:=Ex s f (i+(AM s i).2) (k+1) (by omega);have d:=a.2.1;omega
   ·simp only;omega
theorem FU(s:ByteArray):∀(f i:Nat),i≤s.size→i≤(Dr s f i).1∧(Dr s f i).1≤s.size
 | 0,i,h=>by simp only [Dr];omega
 | f+1,i,h=>by
   simp only [Dr];split
   ·rename_i a;have b:=CY s i a.1;split
    ·simp only;omega
    ·have c:=FU s f (i+(AM s i).2) (by omega);omega
   ·simp only;omega
theorem GF(s:ByteArray)(i d:Nat)(B:i≤s.size)(o:s.size≤4000)(y:s.size-i≤d)(w:World):
 Calls Tryz.prog 25 #[.string s,.int .i64 i] w fun e c=>e=.returned (.tuple #[.int .i64 (BP s d i 0).1,.int .i64 (BP s d i 0).2])∧c=w:=by
 generalize b:BP s d i 0=v;have p:Nj (BP s d i 0=v):=b;clear b;go_enter Tryz.func25,Tryz.ntmps25;go_wp2;go_loop [1,6,7,8,9] (fun j m _ _ _=>∃k f q:Nat,k≤s.size∧q≤k∧j=.int .i64 k∧m=.int .i64 q∧s.size-k≤f∧BP s f k q=v) (fun j _ _ _ _=>s.size-(intOf j).toNat)
 case atStart=>exact ⟨i,d,0,B,Nat.zero_le _,rfl,rfl,y,p.o⟩
 case round=>
  obtain ⟨k,f,q,D,G,rfl,rfl,z,t⟩:=hrel;have a:Nj (BP s f k q=v):=t;clear t p;by_cases g:k<s.size
  ·have F:=CY s k g;by_cases n:(AM s k).2=0
   ·have b:v=(k,q):=by rw [←a.o,EV (by omega)]
    subst b;have C:(((AM s k).2:Int)==0)=true:=by simp [n]
    clear a n;go_wp2_with (first | (go_at_call 21;refine (A9 _ _ ?_ ?_ _).mono ?_;exact g;exact o;rintro e c ⟨rfl,rfl⟩) | (go_at_call 22;refine (AX _ _).mono ?_;rintro e c ⟨rfl,rfl⟩));go_ret2;exact ⟨rfl,rfl⟩
   ·have C:(((AM s k).2:Int)==0)=false:=by simp [n]
    by_cases l:DL (AM s k).1=true
    ·obtain ⟨r,A,u⟩:=H7 (k:=q) z g n l;have x:Nj (BP s r (k+(AM s k).2) (q+1)=v):=by rw [←u];exact a.o
     clear a u;go_wp2_with (first | (go_at_call 21;refine (A9 _ _ ?_ ?_ _).mono ?_;exact g;exact o;rintro e c ⟨rfl,rfl⟩) | (go_at_call 22;refine (AX _ _).mono ?_;rintro e c ⟨rfl,rfl⟩));go_round
     case rel=>exact ⟨k+(AM s k).2,r,q+1,by omega,by omega,by go_num,by go_num,A,x.o⟩
     case measure=>simp [intOf];omega
    ·have b:v=(k,q):=by rw [←a.o,EV (fun h=>l h.2.2)]
     subst b;have E:DL (AM s k).1=false:=by simpa using l
     clear a l;go_wp2_with (first | (go_at_call 21;refine (A9 _ _ ?_ ?_ _).mono ?_;exact g;exact o;rintro e c ⟨rfl,rfl⟩) | (go_at_call 22;refine (AX _ _).mono ?_;rintro e c ⟨rfl,rfl⟩));go_ret2;exact ⟨rfl,rfl⟩
  ·have b:v=(k,q):=by rw [←a.o,EV (by omega)]
   subst b;clear a;go_wp2;go_ret2;exact ⟨rfl,rfl⟩
structure Tk where
 d9:ByteArray
 pos:Nat
 sort:Nat
def CT(t:Tk):List Value:=[.string t.d9,.int .i64 t.pos,.int .i64 t.sort]
def A3(l:List Tk):List Value:=l.flatMap CT
theorem BM(l t):A3 (l++[t])=A3 l++CT t:=by simp [A3]
def AQ(s:ByteArray)(i:Nat):Nat ⊕ (Option Tk×Nat):=
 if (AM s i).2=0 then .inl i
 else if (AM s i).1=32∨(AM s i).1=9∨(AM s i).1=10 then .inr (none,i+1)
 else if (AM s i).1=35 then (if (Dr s s.size i).2=true then .inr (none,(Dr s s.size i).1) else .inl (Dr s s.size i).1)
 else if DL (AM s i).1=true then
  (if Ks (s.extract i (BP s s.size i 0).1).toList=true then .inr (some ⟨s.extract i (BP s s.size i 0).1,i,2⟩,(BP s s.size i 0).1)
   else if 8<(BP s s.size i 0).2 then .inl i else .inr (some ⟨s.extract i (BP s s.size i 0).1,i,1⟩,(BP s s.size i 0).1))
 else if 48≤(AM s i).1∧(AM s i).1≤51 then .inr (some ⟨s.extract i (i+1),i,3⟩,i+1)
 else if DV (AM s i).1=true then .inr (some ⟨s.extract i (i+1),i,4⟩,i+1)
 else .inl i
theorem JX{s i}(h:i<s.size)(d:(AM s i).2≠0)(b:bt s i≠10):i<(Dr s s.size i).1:=by obtain ⟨a,_,c⟩:=Hq (f:=s.size) (by omega) h b d;have e:=CY s i h;have:=FU s a (i+(AM s i).2) (by omega);rw [c];omega
theorem Hj{s i}(h:i<s.size)(d:(AM s i).2≠0)(c:DL (AM s i).1=true):i<(BP s s.size i 0).1:=by obtain ⟨a,_,b⟩:=H7 (f:=s.size) (k:=0) (by omega) h d c;have e:=CY s i h;have:=Ex s a (i+(AM s i).2) (0+1) (by omega);rw [b];omega
theorem EF{s i}(a:(AM s i).2≠0)(b:(AM s i).1<128):bt s i=(AM s i).1∧(AM s i).2=1:=by
 unfold AM at a b⊢;split
 ·exact ⟨rfl,rfl⟩
 ·rename_i g;rw [if_neg g] at a b;split
  ·rename_i d;rw [if_pos d] at a b;rcases D3 s i 2 128 (bt s i-192) with h | ⟨c,h,_⟩<;>rw [h] at a b<;>simp only at a b<;>omega
  ·rename_i d;rw [if_neg d] at a b;split
   ·rename_i e;rw [if_pos e] at a b;rcases D3 s i 3 2048 (bt s i-224) with h | ⟨c,h,_⟩<;>rw [h] at a b<;>simp only at a b<;>omega
   ·rename_i e;rw [if_neg e] at a b;split
    ·rename_i f;rw [if_pos f] at a b;rcases D3 s i 4 65536 (bt s i-240) with h | ⟨c,h,_⟩<;>rw [h] at a b<;>simp only at a b<;>omega
    ·rename_i f;rw [if_neg f] at a;simp only at a;omega
theorem DR{s i j t}(a:i<s.size)(h:AQ s i=.inr (t,j)):i<j∧j≤s.size:=by
 unfold AQ at h;split at h
 ·cases h
 ·rename_i b;have g:=CY s i a;split at h
  ·simp only [Sum.inr.injEq,Prod.mk.injEq] at h;omega
  ·split at h
   ·rename_i f;have k:=EF b (by omega);split at h
    ·simp only [Sum.inr.injEq,Prod.mk.injEq] at h;have c:=JX a b (by omega);have d:=FU s s.size i (by omega);omega
    ·cases h
   ·split at h
    ·rename_i e;have c:=Hj a b e;have d:=Ex s s.size i 0 (by omega);split at h
     ·simp only [Sum.inr.injEq,Prod.mk.injEq] at h;omega
     ·split at h
      ·cases h
      ·simp only [Sum.inr.injEq,Prod.mk.injEq] at h;omega
    ·split at h
     ·simp only [Sum.inr.injEq,Prod.mk.injEq] at h;omega
     ·split at h
      ·simp only [Sum.inr.injEq,Prod.mk.injEq] at h;omega
      ·cases h
def AZ(s:ByteArray):Nat→Nat→List Tk→Nat ⊕ List Tk
 | 0,_,a=>.inr a
 | f+1,i,a=>if i<s.size then
    (match AQ s i with
    | .inl p=>.inl p
    | .inr (t,j)=>AZ s f j (a++t.toList)) else .inr a
theorem DH{s f i a}(h:¬i<s.size):AZ s f i a=.inr a:=by
 cases f with
 | zero=>rfl
 | succ f=>simp only [AZ,if_neg h]
theorem BV{s f i p a}(c:s.size-i≤f)(h:i<s.size)(b:AQ s i=.inl p):AZ s f i a=.inl p:=by
 cases f with
 | zero=>omega
 | succ f=>simp only [AZ,if_pos h,b]
theorem Bu{s f i j acc t}(d:s.size-i≤f)(h:i<s.size)(b:AQ s i=.inr (t,j)):
 ∃a,s.size-j≤a∧AZ s f i acc=AZ s a j (acc++t.toList):=by
 have c:=DR h b;cases f with
 | zero=>omega
 | succ f=>exact ⟨f,by omega,by simp only [AZ,if_pos h,b]⟩
structure FS where
 kind:Nat
 p:Tk
 q:Tk
 field:Nat
 args:List Tk
 f8:Nat
 p8:List Nat
 other:List Nat
 br:Int
 y8:Int
 r9:Nat
def Dv:Option Nat→Int
 | none=> -1
 | some b=>b
def GE:Tk:=⟨ByteArray.empty,0,0⟩
def Ai(l:List Tk)(i:Nat):Tk:=l[i]?.getD GE
def Ax(e d g n b:Nat)(c:Nat)(a:Option Nat)(w:World):Prop:=
 w.heap[e]? =some (.cells #[.slice (some ⟨g,0,none⟩) n b,.int .i64 c,.int .i64 (Dv a),.pointer (some ⟨d,0,none⟩)] 78 (0,0))
def AA(g n b:Nat)(a:List Tk)(w:World):Prop:=w.ownsRow 0 52 3 (.slice (some ⟨g,0,none⟩) n b) n (A3 a)∧n=a.length∧n≤4001
theorem Fp{l i}(h:i<l.length):(A3 l)[i*3]? =some (.string (Ai l i).d9)∧(A3 l)[i*3+1]? =some (.int .i64 (Ai l i).pos)∧(A3 l)[i*3+2]? =some (.int .i64 (Ai l i).sort):=by
 induction l generalizing i with
 | nil=>simp at h
 | cons t l a=>
   cases i with
   | zero=>simp [A3,CT,Ai]
   | succ i=>
     have:=a (i:=i) (by simpa using h);simp only [A3,List.flatMap_cons,Ai,Nh] at this⊢;have e:∀j,(CT t++List.flatMap CT l)[(i+1)*3+j]? =(List.flatMap CT l)[i*3+j]? :=by intro j;rw [List.getElem?_append_right (by simp [CT];omega)];congr 1;simp [CT];omega
     exact ⟨by rw [show (i+1)*3=(i+1)*3+0 from rfl,e];exact this.1,by rw [e];exact this.2.1,by rw [e];exact this.2.2⟩
theorem AA.cells{g n c a w}(h:AA g n c a w){i}(d:i<n):
 w.cell? ⟨g,i*3,none⟩=some (.string (Ai a i).d9)∧w.cell? ⟨g,i*3+1,none⟩=some (.int .i64 (Ai a i).pos)∧w.cell? ⟨g,i*3+2,none⟩=some (.int .i64 (Ai a i).sort):=by
 have e:=h.2.1;have b:=Fp (l:=a) (i:=i) (by omega);exact ⟨by rw [h.1.cellAt _ (by omega)];exact b.1,by rw [h.1.cellAt _ (by omega)];exact b.2.1,by rw [h.1.cellAt _ (by omega)];exact b.2.2⟩
def Ip(t:Tk)(l:List UInt8):Bool:=t.d9.toList==l && (t.sort==2 || t.sort==4)
def AW(a:Option Nat)(t:Tk)(l:List UInt8):Bool:=a.isNone && Ip t l
theorem Gg(q y g n p d m h s w)(k:Ax q y g n p d m w)(l:AA g n p h w)(v:d<n):
 Calls Tryz.prog 45 #[.pointer (some ⟨q,0,none⟩),.string s] w fun e B=>e=.returned (.bool (AW m (Ai h d) s.toList))∧Ab (fun _=>False) w B:=by
 obtain ⟨G,H,I⟩:=l.cells v;have D:=l.2.2;have z:=Aj k 0;have A:=Aj k 1;have o:=Aj k 2;simp only [Ni,Ng,Nh] at z A o;have F:=Ad k;have E:g<w.heap.size:=(l.1.lt g rfl).2;clear k l;have i:Ab (fun _=>False) w ((w.alloc (.cells #[.string (Ai h d).d9,.int .i64 (Ai h d).pos,.int .i64 (Ai h d).sort] 52)).drew):=((Ab.refl _ _).alloc _).drew;generalize Ai h d=t at*;cases m with
 | some b=>
   have C:decide ((b:Int)<0)=false:=by simp
   simp only [Dv] at o;have a:AW (some b) t s.toList=false:=rfl;rw [a];clear a;go_enter Tryz.func45,Tryz.ntmps45;go_wp2;go_region;go_wp2;go_ret;exact ⟨rfl,i⟩
 | none=>
   simp only [Dv] at o;by_cases c:t.d9.toList=s.toList
   ·have x:(t.d9.toList==s.toList)=true:=by simp [c]
    by_cases f:t.sort=2
    ·have r:((t.sort:Int)==2)=true:=by simp [f]
     have a:AW none t s.toList=true:=by simp [AW,Ip,c,f]
     rw [a];clear a c f;go_enter Tryz.func45,Tryz.ntmps45;go_wp2;go_region;go_wp2;go_ret;exact ⟨rfl,i⟩
    ·have r:((t.sort:Int)==2)=false:=by simp;omega
     by_cases j:t.sort=4
     ·have u:((t.sort:Int)==4)=true:=by simp [j]
      have a:AW none t s.toList=true:=by simp [AW,Ip,c,j]
      rw [a];clear a c f j;go_enter Tryz.func45,Tryz.ntmps45;go_wp2;go_region;go_wp2;go_ret;exact ⟨rfl,i⟩
     ·have u:((t.sort:Int)==4)=false:=by simp;omega
      have a:AW none t s.toList=false:=by simp [AW,Ip,f,j]
      rw [a];clear a c f j;go_enter Tryz.func45,Tryz.ntmps45;go_wp2;go_region;go_wp2;go_ret;exact ⟨rfl,i⟩
   ·have x:(t.d9.toList==s.toList)=false:=by simp [c]
    have a:AW none t s.toList=false:=by simp [AW,Ip,c]
    rw [a];clear a c;go_enter Tryz.func45,Tryz.ntmps45;go_wp2;go_region;go_wp2;go_ret;exact ⟨rfl,i⟩
def Dh(a:Option Nat)(p:Nat):Option Nat:=match a with | none=>some p | some b=>some b
theorem Gc(c j g n h d f o w)(a:Ax c j g n h d f w)(i:AA g n h o w)(r:d<n):
 Calls Tryz.prog 46 #[.pointer (some ⟨c,0,none⟩)] w fun e q=>e=.returned (.tuple #[])∧Ax c j g n h d (Dh f (Ai o d).pos) q∧Ab (fun k=>k=c) w q:=by
 obtain ⟨A,B,C⟩:=i.cells r;have x:=i.2.2;have s:=Aj a 0;have t:=Aj a 1;have l:=Aj a 2;have u:=AK a 2;simp only [Ni,Ng,Nh] at s t l;have z:=Ad a;have y:g<w.heap.size:=(i.1.lt g rfl).2;have H:=a;have m:Nj (Ax c j g n h d f w):=H;clear a i H;cases f with
 | some b=>
   have v:decide ((b:Int)<0)=false:=by simp
   simp only [Dv] at l;go_enter Tryz.func46,Tryz.ntmps46;go_wp2;go_end0;exact ⟨rfl,m.o,Ab.refl _ _⟩
 | none=> simp only [Dv] at l;go_enter Tryz.func46,Tryz.ntmps46;go_wp2;go_region;go_wp2;go_end0;refine ⟨rfl,?_,((Ab.refl (fun k=>k=c) w).setCell (p:=⟨c,2,none⟩) (.inl rfl) _).drew⟩;exact Dl (w:=w.drew) m.o 2 _
theorem Ax.d7{a e g n c d b}{X:Nat→Prop}{w f}(h:Ax a e g n c d b w)(i:Ab X w f)(j:¬X a):Ax a e g n c d b f:=by unfold Ax at h⊢;rw [i.block a (Ad h) j];exact h
theorem AA.d7{g n a c}{X:Nat→Prop}{w d}(h:AA g n a c w)(e:Ab X w d)(f:¬X g):AA g n a c d:=
 ⟨Ac h.1 e (fun k b=>by simp [Value.ownBlock] at b;subst b;exact f),h.2⟩
theorem AA.ne{g n d c l w}(h:AA g n d l w){e t f}(j:w.heap[c]? =some (.cells e t f))(k:t≠52):g≠c:=by
 rintro rfl;rcases h.1.2 with ⟨i,_⟩ | ⟨p,m,o,b,_,a,_⟩
 ·simp at i
 ·simp only [Value.slice.injEq,Option.some.injEq,Addr.mk.injEq] at b;rw [←b.1.1,j] at a;simp only [Option.some.injEq,Obj.cells.injEq] at a;exact k a.2.1
def C0(c:List Tk)(a:Nat)(b:Option Nat)(l:List UInt8):Nat×Option Nat:=
 if AW b (Ai c a) l=true then (a+1,b) else (a,Dh b (Ai c a).pos)
theorem LB(c o g n f a b d s w)(j:Ax c o g n f a b w)(m:AA g n f d w)(u:a<n):
 Calls Tryz.prog 27 #[.pointer (some ⟨c,0,none⟩),.string s] w fun e x=>e=.returned (.tuple #[])∧Ax c o g n f (C0 d a b s.toList).1 (C0 d a b s.toList).2 x∧Ab (fun k=>k=c) w x:=by
 have F:=m.ne j (by decide);have E:=m.2.2;unfold C0;cases r:AW b (Ai d a) s.toList with
 | false=> have v:=r;have t:Nj (AW b (Ai d a) s.toList=false):=v;clear r v;go_enter Tryz.func27,Tryz.ntmps27;go_wp2_with fail;refine (Gg c o g n f a b d s w j m u).mono ?_;rintro e q ⟨rfl,i⟩;rw [t.o];have l:=j.d7 i (fun h=>h);have B:=m.d7 i (fun h=>h);go_wp2_with fail;refine (Gc c o g n f a b d q l B u).mono ?_;rintro e G ⟨rfl,A,z⟩;go_wp2_with fail;go_end0;exact ⟨rfl,by simpa using A,(i.mono (fun _ _ h=>h.elim)).trans z⟩
 | true=> have t:Nj (AW b (Ai d a) s.toList=true):=r;clear r;go_enter Tryz.func27,Tryz.ntmps27;go_wp2_with fail;refine (Gg c o g n f a b d s w j m u).mono ?_;rintro e q ⟨rfl,i⟩;rw [t.o];have l:=j.d7 i (fun h=>h);have C:=Aj l 1;have D:=AK l 1;simp only [Ni,Ng,Nh] at C;have y:Nj (Ax c o g n f a b q):=l;clear l j m;go_wp2;go_end0;refine ⟨rfl,?_,(i.mono (fun _ _ h=>h.elim)).trans ((Ab.refl (fun k=>k=c) q).setCell (p:=⟨c,1,none⟩) (.inl rfl) _)⟩;have:=Dl (w:=q) y.o 1 (.int .i64 ((a:Int)+1));simpa [Ax] using this
theorem EG(b h g n d a c f s l)(m:s.toList=l)(w)(o:Ax b h g n d a c w)(p:AA g n d f w)(j:a<n):
 Calls Tryz.prog 27 #[.pointer (some ⟨b,0,none⟩),.string s] w fun e i=>e=.returned (.tuple #[])∧Ax b h g n d (C0 f a c l).1 (C0 f a c l).2 i∧Ab (fun k=>k=b) w i:=by
 subst m;exact LB b h g n d a c f s w o p j
theorem Jm(d h g n c a b f s l)(j:s.toList=l)(w)(k:Ax d h g n c a b w)(m:AA g n c f w)(i:a<n):
 Calls Tryz.prog 45 #[.pointer (some ⟨d,0,none⟩),.string s] w fun e o=>e=.returned (.bool (AW b (Ai f a) l))∧Ab (fun _=>False) w o:=by
 subst j;exact Gg d h g n c a b f s w k m i
theorem Ii{b n a bad l}(d:(Ai b (n-1)).sort=0)(c:a<n):a≤(C0 b a bad l).1∧(C0 b a bad l).1<n:=by
 unfold C0;split
 ·rename_i h;have e:a≠n-1:=by rintro rfl;simp [AW,Ip,d] at h
  exact ⟨by simp,by simp only;omega⟩
 ·exact ⟨Nat.le_refl _,c⟩
def EW(t:Tk):Value:=.agg #[.string t.d9,.int .i64 t.pos,.int .i64 t.sort]
def BO(c:List Tk)(a:Nat)(b:Option Nat)(d:Nat):Tk×Nat×Option Nat:=
 if b.isNone=true∧(Ai c a).sort=d then (Ai c a,a+1,b) else (GE,a,Dh b (Ai c a).pos)
theorem FE(f q g n j a i:Nat)(r:Option Nat)(c:List Tk)(w:World)(m:Ax f q g n j a r w)(l:AA g n j c w)(E:a<n):
 Calls Tryz.prog 28 #[.pointer (some ⟨f,0,none⟩),.int .i64 i] w fun e H=>e=.returned (EW (BO c a r i).1)∧Ax f q g n j (BO c a r i).2.1 (BO c a r i).2.2 H∧Ab (fun k=>k=f) w H:=by
 obtain ⟨Y,Z,t2⟩:=l.cells E;have U:=l.ne m (by decide);have T:=l.2.2;have O:=Aj m 0;have P:=Aj m 1;have F:=Aj m 2;have R:=AK m 1;simp only [Ni,Ng,Nh] at O P F;have W:=Ad m;have V:g<w.heap.size:=(l.1.lt g rfl).2;have C:Nj (Ax f q g n j a r w):=m;have G:Nj (AA g n j c w):=l;clear m l;cases r with
 | some b=>
   have S:decide ((0:Int)≤(b:Int))=true:=by simp
   simp only [Dv] at F;have o:BO c a (some b) i=(GE,a,some b):=by simp [BO,Dh]
   rw [o];clear o;generalize Ai c a=t at*;go_enter Tryz.func28,Tryz.ntmps28;go_wp2;go_region;go_wp2_with fail;refine (Gc f q g n j a (some b) c _ ?_ ?_ E).mono ?_
   ·exact (C.o).d7 (((((Ab.refl (fun _=>False) w).alloc _).alloc _)).drew) (fun h=>h)
   ·exact (G.o).d7 (((((Ab.refl (fun _=>False) w).alloc _).alloc _)).drew) (fun h=>h)
   rintro e A ⟨rfl,y,p⟩;have d:A.heap[w.heap.size]? =some (.cells #[.string {data:=#[]},.int .i64 0,.int .i64 0] 52 (0,0)):=by rw [p.block w.heap.size (by simp;omega) (by omega)];exact (Below.heap_alloc _ _ _ (by simp)).trans (heap_alloc_new w _)
   have s:=Aj d 0;have u:=Aj d 1;have x:=Aj d 2;have J:=AK d 0;have K:=AK d 1;have L:=AK d 2;simp only [Ni,Ng,Nh] at s u x;have N:=Ad d;have D:Nj (Ax f q g n j a (some b) A):=y;have B:=(((Ab.refl (fun k=>k=f) w).alloc _).alloc _).drew.trans p;clear y p d;go_wp2;refine bodyPost_ret (v:=EW GE) (by simp [results,Tryz.results28,go_sem,EW,GE,s,u,x];rfl) rfl ⟨rfl,?_,?_⟩
   ·exact D.o.d7 (X:=fun k=>k=w.heap.size) (by repeat (first | exact Ab.refl _ _ | refine Ab.drew ?_ | refine Ab.alloc ?_ _ | refine Ab.i7 ?_ _ _)) (by omega)
   ·repeat (first | exact B | refine Ab.drew ?_ | refine Ab.alloc ?_ _ | refine Ab.l9 ?_ _ _ (Nat.le_refl _))
 | none=>
   simp only [Dv] at F;by_cases z:(Ai c a).sort=i
   ·have M:(((Ai c a).sort:Int) !=(i:Int))=false:=by simp [z]
    have o:BO c a none i=(Ai c a,a+1,none):=by simp [BO,z]
    rw [o];clear o z;generalize Ai c a=t at*;go_enter Tryz.func28,Tryz.ntmps28;go_wp2;go_region;go_wp2;refine bodyPost_ret (v:=EW t) (by simp [results,Tryz.results28,go_sem,EW]) rfl ⟨rfl,?_,?_⟩
    ·refine Ax.d7 (X:=fun _=>False) (w:=w.setCell ⟨f,1,none⟩ (.int .i64 ((a:Int)+1))) ?_ (((Ab.refl _ _).alloc _).alloc _).drew (fun h=>h);have:=Dl (w:=w) C.o 1 (.int .i64 ((a:Int)+1));simpa [Ax] using this
    ·repeat (first | exact Ab.refl _ _ | refine Ab.drew ?_ | refine Ab.alloc ?_ _ | refine Ab.i7 ?_ _ _)
   ·have M:(((Ai c a).sort:Int) !=(i:Int))=true:=by simp;omega
    have o:BO c a none i=(GE,a,Dh none (Ai c a).pos):=by simp [BO,z]
    rw [o];clear o z;have Q:Nj (Dh none (Ai c a).pos=some (Ai c a).pos):=rfl;generalize l:Ai c a=t at*;have I:Nj (Ai c a=t):=l;clear l;go_enter Tryz.func28,Tryz.ntmps28;go_wp2;go_region;go_wp2_with fail;refine (Gc f q g n j a none c _ ?_ ?_ E).mono ?_
    ·exact (C.o).d7 (((((Ab.refl (fun _=>False) w).alloc _).alloc _)).drew) (fun h=>h)
    ·exact (G.o).d7 (((((Ab.refl (fun _=>False) w).alloc _).alloc _)).drew) (fun h=>h)
    rw [I.o];rintro e A ⟨rfl,y,p⟩;have d:A.heap[w.heap.size]? =some (.cells #[.string {data:=#[]},.int .i64 0,.int .i64 0] 52 (0,0)):=by rw [p.block w.heap.size (by simp;omega) (by omega)];exact (Below.heap_alloc _ _ _ (by simp)).trans (heap_alloc_new w _)
    have s:=Aj d 0;have u:=Aj d 1;have x:=Aj d 2;have J:=AK d 0;have K:=AK d 1;have L:=AK d 2;simp only [Ni,Ng,Nh] at s u x;have N:=Ad d;have D:Nj (Ax f q g n j a (Dh none t.pos) A):=y;have B:=(((Ab.refl (fun k=>k=f) w).alloc _).alloc _).drew.trans p;clear y p d;go_wp2;refine bodyPost_ret (v:=EW GE) (by simp [results,Tryz.results28,go_sem,EW,GE,s,u,x];rfl) rfl ⟨rfl,?_,?_⟩
    ·exact D.o.d7 (X:=fun k=>k=w.heap.size) (by repeat (first | exact Ab.refl _ _ | refine Ab.drew ?_ | refine Ab.alloc ?_ _ | refine Ab.i7 ?_ _ _)) (by omega)
    ·repeat (first | exact B | refine Ab.drew ?_ | refine Ab.alloc ?_ _ | refine Ab.l9 ?_ _ _ (Nat.le_refl _))
end Go.Proofs.YtmaankfbhhbeoaaGreatDoor

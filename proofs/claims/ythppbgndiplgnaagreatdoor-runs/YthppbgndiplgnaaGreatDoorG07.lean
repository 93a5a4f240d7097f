/- One of the texts of the proof of runs_card_holds: LexD LexE RdA RdB RdC. -/
import Derived.Test.YthppbgndiplgnaaGreatDoorG06
set_option maxRecDepth 100000
set_option maxHeartbeats 400000
namespace Go.Proofs.YthppbgndiplgnaaGreatDoor
open Go.RowKit
def Di(s:ByteArray):Nat→Nat→Nat→Nat×Nat
 | 0,i,k=>(i,k)
 | f+1,i,k=>if i<s.size∧(A8 s i).2≠0∧Gj (A8 s i).1=true then Di s f (i+(A8 s i).2) (k+1) else (i,k)
theorem IK{s f i k}(h:¬(i<s.size∧(A8 s i).2≠0∧Gj (A8 s i).1=true)):Di s f i k=(i,k):=by
 cases f with
 | zero=>rfl
 | succ f=>simp only [Di,cT h]
theorem M7{s f i k}(d:s.size-i≤f)(h:i<s.size)(c:(A8 s i).2≠0)(b:Gj (A8 s i).1=true):∃a,s.size-(i+(A8 s i).2)≤a∧Di s f i k=Di s a (i+(A8 s i).2) (k+1):=by
 cases f with
 | zero=>omega
 | succ f=>exact ⟨f,by omega,by simp only [Di];rw [cU ⟨h,c,b⟩]⟩
theorem H4(s:ByteArray):∀(f i k:Nat),i≤s.size→i≤(Di s f i k).1∧(Di s f i k).1≤s.size∧k≤(Di s f i k).2∧(Di s f i k).2+i≤k+(Di s f i k).1
 | 0,i,k,h=>by simp only [Di];omega
 | f+1,i,k,h=>by
   simp only [Di];split
   ·rename_i a;have b:=EK s i a.1;have c:=H4 s f (i+(A8 s i).2) (k+1) (by omega);have d:=a.2.1;omega
   ·simp only;omega
theorem Kg(s:ByteArray):∀(f i:Nat),i≤s.size→i≤(Fp s f i).1∧(Fp s f i).1≤s.size
 | 0,i,h=>by simp only [Fp];omega
 | f+1,i,h=>by
   simp only [Fp];split
   ·rename_i a;have b:=EK s i a.1;split
    ·simp only;omega
    ·have c:=Kg s f (i+(A8 s i).2) (by omega);omega
   ·simp only;omega
theorem Lr(s:ByteArray)(i d:Nat)(B:i≤s.size)(o:s.size≤4000)(y:s.size-i≤d)(w:World):
 Calls Tryz.prog 31 #[.string s,.int .i64 i] w fun e c=>e=.returned (.tuple #[.int .i64 (Di s d i 0).1,.int .i64 (Di s d i 0).2])∧c=w:=by
 generalize b:Di s d i 0=v;have p:dJ (Di s d i 0=v):=b;clear b;go_enter Tryz.func31,Tryz.ntmps31;go_wp2;go_loop [1,6,7,8,9] (fun j m _ _ _=>∃k f q:Nat,k≤s.size∧q≤k∧j=.int .i64 k∧m=.int .i64 q∧s.size-k≤f∧Di s f k q=v) (fun j _ _ _ _=>s.size-(intOf j).toNat)
 case atStart=>exact ⟨i,d,0,B,bI _,rfl,rfl,y,p.o⟩
 case round=>
  obtain ⟨k,f,q,D,G,rfl,rfl,z,t⟩:=hrel;have a:dJ (Di s f k q=v):=t;clear t p;by_cases g:k<s.size
  ·have F:=EK s k g;by_cases n:(A8 s k).2=0
   ·have b:v=(k,q):=by rw [←a.o,IK (by omega)]
    subst b;have C:(((A8 s k).2:Int)==0)=true:=by simp [n]
    clear a n;go_wp2_with (first | (go_at_call 27;refine (BH _ _ ?_ ?_ _).mono ?_;exact g;exact o;rintro e c ⟨rfl,rfl⟩) | (go_at_call 28;refine (Bv _ _).mono ?_;rintro e c ⟨rfl,rfl⟩));go_ret2;exact ⟨rfl,rfl⟩
   ·have C:(((A8 s k).2:Int)==0)=false:=by simp [n]
    by_cases l:Gj (A8 s k).1=true
    ·obtain ⟨r,A,u⟩:=M7 (k:=q) z g n l;have x:dJ (Di s r (k+(A8 s k).2) (q+1)=v):=by rw [←u];exact a.o
     clear a u;go_wp2_with (first | (go_at_call 27;refine (BH _ _ ?_ ?_ _).mono ?_;exact g;exact o;rintro e c ⟨rfl,rfl⟩) | (go_at_call 28;refine (Bv _ _).mono ?_;rintro e c ⟨rfl,rfl⟩));go_round
     case rel=>exact ⟨k+(A8 s k).2,r,q+1,by omega,by omega,by go_num,by go_num,A,x.o⟩
     case measure=>simp [intOf];omega
    ·have b:v=(k,q):=by rw [←a.o,IK (fun h=>l h.2.2)]
     subst b;have E:Gj (A8 s k).1=false:=by simpa using l
     clear a l;go_wp2_with (first | (go_at_call 27;refine (BH _ _ ?_ ?_ _).mono ?_;exact g;exact o;rintro e c ⟨rfl,rfl⟩) | (go_at_call 28;refine (Bv _ _).mono ?_;rintro e c ⟨rfl,rfl⟩));go_ret2;exact ⟨rfl,rfl⟩
  ·have b:v=(k,q):=by rw [←a.o,IK (by omega)]
   subst b;clear a;go_wp2;go_ret2;exact ⟨rfl,rfl⟩
structure Tk where
 i6:ByteArray
 pos:Nat
 sort:Nat
def Eu(t:Tk):List Value:=[.string t.i6,.int .i64 t.pos,.int .i64 t.sort]
def BC(l:List Tk):List Value:=l.flatMap Eu
theorem C8(l t):BC (l++[t])=BC l++Eu t:=by simp [BC]
def Bf(s:ByteArray)(i:Nat):Nat ⊕ (Option Tk×Nat):=
 if (A8 s i).2=0 then .inl i
 else if (A8 s i).1=32∨(A8 s i).1=9∨(A8 s i).1=10 then .inr (none,i+1)
 else if (A8 s i).1=35 then (if (Fp s s.size i).2=true then .inr (none,(Fp s s.size i).1) else .inl (Fp s s.size i).1)
 else if Gj (A8 s i).1=true then
  (if Tc (s.extract i (Di s s.size i 0).1).toList=true then .inr (some ⟨s.extract i (Di s s.size i 0).1,i,2⟩,(Di s s.size i 0).1)
   else if 8<(Di s s.size i 0).2 then .inl i else .inr (some ⟨s.extract i (Di s s.size i 0).1,i,1⟩,(Di s s.size i 0).1))
 else if 48≤(A8 s i).1∧(A8 s i).1≤51 then .inr (some ⟨s.extract i (i+1),i,3⟩,i+1)
 else if GD (A8 s i).1=true then .inr (some ⟨s.extract i (i+1),i,4⟩,i+1)
 else .inl i
theorem Rq{s i}(h:i<s.size)(d:(A8 s i).2≠0)(b:bt s i≠10):i<(Fp s s.size i).1:=by obtain ⟨a,_,c⟩:=MD (f:=s.size) (by omega) h b d;have e:=EK s i h;have:=Kg s a (i+(A8 s i).2) (by omega);rw [c];omega
theorem Mu{s i}(h:i<s.size)(d:(A8 s i).2≠0)(c:Gj (A8 s i).1=true):i<(Di s s.size i 0).1:=by obtain ⟨a,_,b⟩:=M7 (f:=s.size) (k:=0) (by omega) h d c;have e:=EK s i h;have:=H4 s a (i+(A8 s i).2) (0+1) (by omega);rw [b];omega
theorem Ij{s i}(a:(A8 s i).2≠0)(b:(A8 s i).1<128):bt s i=(A8 s i).1∧(A8 s i).2=1:=by
 unfold A8 at a b⊢;split
 ·exact ⟨rfl,rfl⟩
 ·rename_i g;rw [cT g] at a b;split
  ·rename_i d;rw [cU d] at a b;rcases GM s i 2 128 (bt s i-192) with h | ⟨c,h,_⟩<;>rw [h] at a b<;>simp only at a b<;>omega
  ·rename_i d;rw [cT d] at a b;split
   ·rename_i e;rw [cU e] at a b;rcases GM s i 3 2048 (bt s i-224) with h | ⟨c,h,_⟩<;>rw [h] at a b<;>simp only at a b<;>omega
   ·rename_i e;rw [cT e] at a b;split
    ·rename_i f;rw [cU f] at a b;rcases GM s i 4 65536 (bt s i-240) with h | ⟨c,h,_⟩<;>rw [h] at a b<;>simp only at a b<;>omega
    ·rename_i f;rw [cT f] at a;simp only at a;omega
theorem Gx{s i j t}(a:i<s.size)(h:Bf s i=.inr (t,j)):i<j∧j≤s.size:=by
 unfold Bf at h;split at h
 ·cases h
 ·rename_i b;have g:=EK s i a;split at h
  ·simp only [Sum.inr.injEq,cI] at h;omega
  ·split at h
   ·rename_i f;have k:=Ij b (by omega);split at h
    ·simp only [Sum.inr.injEq,cI] at h;have c:=Rq a b (by omega);have d:=Kg s s.size i (by omega);omega
    ·cases h
   ·split at h
    ·rename_i e;have c:=Mu a b e;have d:=H4 s s.size i 0 (by omega);split at h
     ·simp only [Sum.inr.injEq,cI] at h;omega
     ·split at h
      ·cases h
      ·simp only [Sum.inr.injEq,cI] at h;omega
    ·split at h
     ·simp only [Sum.inr.injEq,cI] at h;omega
     ·split at h
      ·simp only [Sum.inr.injEq,cI] at h;omega
      ·cases h
def Bz(s:ByteArray):Nat→Nat→List Tk→Nat ⊕ List Tk
 | 0,_,a=>.inr a
 | f+1,i,a=>if i<s.size then
    (match Bf s i with
    | .inl p=>.inl p
    | .inr (t,j)=>Bz s f j (a++t.toList)) else .inr a
theorem FQ{s f i a}(h:¬i<s.size):Bz s f i a=.inr a:=by
 cases f with
 | zero=>rfl
 | succ f=>simp only [Bz,cT h]
theorem Dm{s f i p a}(c:s.size-i≤f)(h:i<s.size)(b:Bf s i=.inl p):Bz s f i a=.inl p:=by
 cases f with
 | zero=>omega
 | succ f=>simp only [Bz,cU h,b]
theorem CI{s f i j acc t}(d:s.size-i≤f)(h:i<s.size)(b:Bf s i=.inr (t,j)):
 ∃a,s.size-j≤a∧Bz s f i acc=Bz s a j (acc++t.toList):=by
 have c:=Gx h b;cases f with
 | zero=>omega
 | succ f=>exact ⟨f,by omega,by simp only [Bz,cU h,b]⟩
structure FS where
 kind:Nat
 p:Tk
 q:Tk
 field:Nat
 args:List Tk
 i9:Nat
 Yd:List Nat
 other:List Nat
 br:Int
 YT:Int
 Yh:Nat
structure Rd where
 s9:Nat
 Ya:Option Nat
 stmts:List FS
 places:Nat
 calls:Nat
def Fv:Option Nat→Int
 | none=> -1
 | some b=>b
def Ll:Tk:=⟨ByteArray.empty,0,0⟩
def Ai(l:List Tk)(i:Nat):Tk:=l[i]?.getD Ll
def AM(e d g n b:Nat)(c:Nat)(a:Option Nat)(w:World):Prop:=
 w.heap[e]? =some (.cells #[.slice (some ⟨g,0,none⟩) n b,.int .i64 c,.int .i64 (Fv a),.pointer (some ⟨d,0,none⟩)] 110 (0,0))
def AP(g n b:Nat)(a:List Tk)(w:World):Prop:=w.ownsRow 0 64 3 (.slice (some ⟨g,0,none⟩) n b) n (BC a)∧n=a.length∧n≤4001
theorem JG{l i}(h:i<l.length):(BC l)[i*3]? =some (.string (Ai l i).i6)∧(BC l)[i*3+1]? =some (.int .i64 (Ai l i).pos)∧(BC l)[i*3+2]? =some (.int .i64 (Ai l i).sort):=by
 induction l generalizing i with
 | nil=>simp at h
 | cons t l a=>
   cases i with
   | zero=>simp [BC,Eu,Ai]
   | succ i=>
     have:=a (i:=i) (by simpa using h);simp only [BC,List.flatMap_cons,Ai,aT] at this⊢;have e:∀j,(Eu t++List.flatMap Eu l)[(i+1)*3+j]? =(List.flatMap Eu l)[i*3+j]? :=by intro j;rw [cV (by simp [Eu];omega)];congr 1;simp [Eu];omega
     exact ⟨by rw [show (i+1)*3=(i+1)*3+0 from rfl,e];exact this.1,by rw [e];exact this.2.1,by rw [e];exact this.2.2⟩
theorem AP.cells{g n c a w}(h:AP g n c a w){i}(d:i<n):
 w.cell? ⟨g,i*3,none⟩=some (.string (Ai a i).i6)∧w.cell? ⟨g,i*3+1,none⟩=some (.int .i64 (Ai a i).pos)∧w.cell? ⟨g,i*3+2,none⟩=some (.int .i64 (Ai a i).sort):=by
 have e:=h.2.1;have b:=JG (l:=a) (i:=i) (by omega);exact ⟨by rw [h.1.cellAt _ (by omega)];exact b.1,by rw [h.1.cellAt _ (by omega)];exact b.2.1,by rw [h.1.cellAt _ (by omega)];exact b.2.2⟩
def NK(t:Tk)(l:List UInt8):Bool:=t.i6.toList==l && (t.sort==2 || t.sort==4)
def Bn(a:Option Nat)(t:Tk)(l:List UInt8):Bool:=a.isNone && NK t l
theorem KF(q y g n p d m h s w)(k:AM q y g n p d m w)(l:AP g n p h w)(v:d<n):
 Calls Tryz.prog 65 #[.pointer (some ⟨q,0,none⟩),.string s] w fun e B=>e=.returned (.bool (Bn m (Ai h d) s.toList))∧Ab (fun _=>False) w B:=by
 obtain ⟨G,H,I⟩:=l.cells v;have D:=l.2.2;have z:=Ao k 0;have A:=Ao k 1;have o:=Ao k 2;simp only [aU,aS,aT] at z A o;have F:=Ae k;have E:g<w.heap.size:=(l.1.lt g rfl).2;clear k l;have i:Ab (fun _=>False) w ((w.alloc (.cells #[.string (Ai h d).i6,.int .i64 (Ai h d).pos,.int .i64 (Ai h d).sort] 64)).drew):=((Ab.refl _ _).alloc _).drew;generalize Ai h d=t at*;cases m with
 | some b=>
   have C:decide ((b:Int)<0)=false:=by simp
   simp only [Fv] at o;have a:Bn (some b) t s.toList=false:=rfl;rw [a];clear a;go_enter Tryz.func65,Tryz.ntmps65;go_wp2;go_region;go_wp2;go_ret;exact ⟨rfl,i⟩
 | none=>
   simp only [Fv] at o;by_cases c:t.i6.toList=s.toList
   ·have x:(t.i6.toList==s.toList)=true:=by simp [c]
    by_cases f:t.sort=2
    ·have r:((t.sort:Int)==2)=true:=by simp [f]
     have a:Bn none t s.toList=true:=by simp [Bn,NK,c,f]
     rw [a];clear a c f;go_enter Tryz.func65,Tryz.ntmps65;go_wp2;go_region;go_wp2;go_ret;exact ⟨rfl,i⟩
    ·have r:((t.sort:Int)==2)=false:=by simp;omega
     by_cases j:t.sort=4
     ·have u:((t.sort:Int)==4)=true:=by simp [j]
      have a:Bn none t s.toList=true:=by simp [Bn,NK,c,j]
      rw [a];clear a c f j;go_enter Tryz.func65,Tryz.ntmps65;go_wp2;go_region;go_wp2;go_ret;exact ⟨rfl,i⟩
     ·have u:((t.sort:Int)==4)=false:=by simp;omega
      have a:Bn none t s.toList=false:=by simp [Bn,NK,f,j]
      rw [a];clear a c f j;go_enter Tryz.func65,Tryz.ntmps65;go_wp2;go_region;go_wp2;go_ret;exact ⟨rfl,i⟩
   ·have x:(t.i6.toList==s.toList)=false:=by simp [c]
    have a:Bn none t s.toList=false:=by simp [Bn,NK,c]
    rw [a];clear a c;go_enter Tryz.func65,Tryz.ntmps65;go_wp2;go_region;go_wp2;go_ret;exact ⟨rfl,i⟩
def E8(a:Option Nat)(p:Nat):Option Nat:=match a with | none=>some p | some b=>some b
theorem Kq(c j g n h d f o w)(a:AM c j g n h d f w)(i:AP g n h o w)(r:d<n):
 Calls Tryz.prog 66 #[.pointer (some ⟨c,0,none⟩)] w fun e q=>e=.returned (.tuple #[])∧AM c j g n h d (E8 f (Ai o d).pos) q∧Ab (fun k=>k=c) w q:=by
 obtain ⟨A,B,C⟩:=i.cells r;have x:=i.2.2;have s:=Ao a 0;have t:=Ao a 1;have l:=Ao a 2;have u:=Aw a 2;simp only [aU,aS,aT] at s t l;have z:=Ae a;have y:g<w.heap.size:=(i.1.lt g rfl).2;have H:=a;have m:dJ (AM c j g n h d f w):=H;clear a i H;cases f with
 | some b=>
   have v:decide ((b:Int)<0)=false:=by simp
   simp only [Fv] at l;go_enter Tryz.func66,Tryz.ntmps66;go_wp2;go_end0;exact ⟨rfl,m.o,Ab.refl _ _⟩
 | none=> simp only [Fv] at l;go_enter Tryz.func66,Tryz.ntmps66;go_wp2;go_region;go_wp2;go_end0;refine ⟨rfl,?_,((Ab.refl (fun k=>k=c) w).setCell (p:=⟨c,2,none⟩) (.inl rfl) _).drew⟩;exact Fg (w:=w.drew) m.o 2 _
theorem AM.f8{a e g n c d b}{X:Nat→Prop}{w w'}(h:AM a e g n c d b w)(f:Ab X w w')(i:¬X a):AM a e g n c d b w':=by unfold AM at h⊢;rw [f.block a (Ae h) i];exact h
theorem AP.f8{g n a c}{X:Nat→Prop}{w w'}(h:AP g n a c w)(d:Ab X w w')(e:¬X g):AP g n a c w':=
 ⟨Ac h.1 d (fun k b=>by simp [Value.ownBlock] at b;subst b;exact e),h.2⟩
theorem AP.ne{g n d c l w}(h:AP g n d l w){e t f}(j:w.heap[c]? =some (.cells e t f))(k:t≠64):g≠c:=by
 rintro rfl;rcases h.1.2 with ⟨i,_⟩ | ⟨p,m,o,b,_,a,_⟩
 ·simp at i
 ·simp only [Value.slice.injEq,bA,Addr.mk.injEq] at b;rw [←b.1.1,j] at a;simp only [bA,bH] at a;exact k a.2.1
def EN(c:List Tk)(a:Nat)(b:Option Nat)(l:List UInt8):Nat×Option Nat:=
 if Bn b (Ai c a) l=true then (a+1,b) else (a,E8 b (Ai c a).pos)
theorem VO(c o g n f a b d s w)(j:AM c o g n f a b w)(m:AP g n f d w)(u:a<n):
 Calls Tryz.prog 33 #[.pointer (some ⟨c,0,none⟩),.string s] w fun e x=>e=.returned (.tuple #[])∧AM c o g n f (EN d a b s.toList).1 (EN d a b s.toList).2 x∧Ab (fun k=>k=c) w x:=by
 have F:=m.ne j (by decide);have E:=m.2.2;unfold EN;cases r:Bn b (Ai d a) s.toList with
 | false=> have v:=r;have t:dJ (Bn b (Ai d a) s.toList=false):=v;clear r v;go_enter Tryz.func33,Tryz.ntmps33;go_wp2_with fail;refine (KF c o g n f a b d s w j m u).mono ?_;rintro e q ⟨rfl,i⟩;rw [t.o];have l:=j.f8 i (fun h=>h);have B:=m.f8 i (fun h=>h);go_wp2_with fail;refine (Kq c o g n f a b d q l B u).mono ?_;rintro e G ⟨rfl,A,z⟩;go_wp2_with fail;go_end0;exact ⟨rfl,by simpa using A,(i.mono (fun _ _ h=>h.elim)).trans z⟩
 | true=> have t:dJ (Bn b (Ai d a) s.toList=true):=r;clear r;go_enter Tryz.func33,Tryz.ntmps33;go_wp2_with fail;refine (KF c o g n f a b d s w j m u).mono ?_;rintro e q ⟨rfl,i⟩;rw [t.o];have l:=j.f8 i (fun h=>h);have C:=Ao l 1;have D:=Aw l 1;simp only [aU,aS,aT] at C;have y:dJ (AM c o g n f a b q):=l;clear l j m;go_wp2;go_end0;refine ⟨rfl,?_,(i.mono (fun _ _ h=>h.elim)).trans ((Ab.refl (fun k=>k=c) q).setCell (p:=⟨c,1,none⟩) (.inl rfl) _)⟩;have:=Fg (w:=q) y.o 1 (.int .i64 ((a:Int)+1));simpa [AM] using this
theorem Ik(b h g n d a c f s l)(m:s.toList=l)(w)(o:AM b h g n d a c w)(p:AP g n d f w)(j:a<n):
 Calls Tryz.prog 33 #[.pointer (some ⟨b,0,none⟩),.string s] w fun e i=>e=.returned (.tuple #[])∧AM b h g n d (EN f a c l).1 (EN f a c l).2 i∧Ab (fun k=>k=b) w i:=by
 subst m;exact VO b h g n d a c f s w o p j
theorem PH(d h g n c a b f s l)(j:s.toList=l)(w)(k:AM d h g n c a b w)(m:AP g n c f w)(i:a<n):
 Calls Tryz.prog 65 #[.pointer (some ⟨d,0,none⟩),.string s] w fun e o=>e=.returned (.bool (Bn b (Ai f a) l))∧Ab (fun _=>False) w o:=by
 subst j;exact KF d h g n c a b f s w k m i
theorem Nr{b n a bad l}(d:(Ai b (n-1)).sort=0)(c:a<n):a≤(EN b a bad l).1∧(EN b a bad l).1<n:=by
 unfold EN;split
 ·rename_i h;have e:a≠n-1:=by rintro rfl;simp [Bn,NK,d] at h
  exact ⟨by simp,by simp only;omega⟩
 ·exact ⟨aV _,c⟩
def HJ(t:Tk):Value:=.agg #[.string t.i6,.int .i64 t.pos,.int .i64 t.sort]
def Dg(c:List Tk)(a:Nat)(b:Option Nat)(d:Nat):Tk×Nat×Option Nat:=
 if b.isNone=true∧(Ai c a).sort=d then (Ai c a,a+1,b) else (Ll,a,E8 b (Ai c a).pos)
theorem JR(f q g n j a i:Nat)(r:Option Nat)(c:List Tk)(w:World)(m:AM f q g n j a r w)(l:AP g n j c w)(E:a<n):
 Calls Tryz.prog 34 #[.pointer (some ⟨f,0,none⟩),.int .i64 i] w fun e H=>e=.returned (HJ (Dg c a r i).1)∧AM f q g n j (Dg c a r i).2.1 (Dg c a r i).2.2 H∧Ab (fun k=>k=f) w H:=by
 obtain ⟨Y,Z,t2⟩:=l.cells E;have U:=l.ne m (by decide);have T:=l.2.2;have O:=Ao m 0;have P:=Ao m 1;have F:=Ao m 2;have R:=Aw m 1;simp only [aU,aS,aT] at O P F;have W:=Ae m;have V:g<w.heap.size:=(l.1.lt g rfl).2;have C:dJ (AM f q g n j a r w):=m;have G:dJ (AP g n j c w):=l;clear m l;cases r with
 | some b=>
   have S:decide ((0:Int)≤(b:Int))=true:=by simp
   simp only [Fv] at F;have o:Dg c a (some b) i=(Ll,a,some b):=by simp [Dg,E8]
   rw [o];clear o;generalize Ai c a=t at*;go_enter Tryz.func34,Tryz.ntmps34;go_wp2;go_region;go_wp2_with fail;refine (Kq f q g n j a (some b) c _ ?_ ?_ E).mono ?_
   ·exact (C.o).f8 (((((Ab.refl (fun _=>False) w).alloc _).alloc _)).drew) (fun h=>h)
   ·exact (G.o).f8 (((((Ab.refl (fun _=>False) w).alloc _).alloc _)).drew) (fun h=>h)
   rintro e A ⟨rfl,y,p⟩;have d:A.heap[w.heap.size]? =some (.cells #[.string {data:=#[]},.int .i64 0,.int .i64 0] 64 (0,0)):=by rw [p.block w.heap.size (by simp;omega) (by omega)];exact (bF _ _ _ (by simp)).trans (heap_alloc_new w _)
   have s:=Ao d 0;have u:=Ao d 1;have x:=Ao d 2;have J:=Aw d 0;have K:=Aw d 1;have L:=Aw d 2;simp only [aU,aS,aT] at s u x;have N:=Ae d;have D:dJ (AM f q g n j a (some b) A):=y;have B:=(((Ab.refl (fun k=>k=f) w).alloc _).alloc _).drew.trans p;clear y p d;go_wp2;refine bC (v:=HJ Ll) (by simp [results,Tryz.results34,go_sem,HJ,Ll,s,u,x];rfl) rfl ⟨rfl,?_,?_⟩
   ·exact D.o.f8 (X:=fun k=>k=w.heap.size) (by repeat (first | exact Ab.refl _ _ | refine Ab.drew ?_ | refine Ab.alloc ?_ _ | refine Ab.p7 ?_ _ _)) (by omega)
   ·repeat (first | exact B | refine Ab.drew ?_ | refine Ab.alloc ?_ _ | refine Ab.Yc ?_ _ _ (aV _))
 | none=>
   simp only [Fv] at F;by_cases z:(Ai c a).sort=i
   ·have M:(((Ai c a).sort:Int) !=(i:Int))=false:=by simp [z]
    have o:Dg c a none i=(Ai c a,a+1,none):=by simp [Dg,z]
    rw [o];clear o z;generalize Ai c a=t at*;go_enter Tryz.func34,Tryz.ntmps34;go_wp2;go_region;go_wp2;refine bC (v:=HJ t) (by simp [results,Tryz.results34,go_sem,HJ]) rfl ⟨rfl,?_,?_⟩
    ·refine AM.f8 (X:=fun _=>False) (w:=w.setCell ⟨f,1,none⟩ (.int .i64 ((a:Int)+1))) ?_ (((Ab.refl _ _).alloc _).alloc _).drew (fun h=>h);have:=Fg (w:=w) C.o 1 (.int .i64 ((a:Int)+1));simpa [AM] using this
    ·repeat (first | exact Ab.refl _ _ | refine Ab.drew ?_ | refine Ab.alloc ?_ _ | refine Ab.p7 ?_ _ _)
   ·have M:(((Ai c a).sort:Int) !=(i:Int))=true:=by simp;omega
    have o:Dg c a none i=(Ll,a,E8 none (Ai c a).pos):=by simp [Dg,z]
    rw [o];clear o z;have Q:dJ (E8 none (Ai c a).pos=some (Ai c a).pos):=rfl;generalize l:Ai c a=t at*;have I:dJ (Ai c a=t):=l;clear l;go_enter Tryz.func34,Tryz.ntmps34;go_wp2;go_region;go_wp2_with fail;refine (Kq f q g n j a none c _ ?_ ?_ E).mono ?_
    ·exact (C.o).f8 (((((Ab.refl (fun _=>False) w).alloc _).alloc _)).drew) (fun h=>h)
    ·exact (G.o).f8 (((((Ab.refl (fun _=>False) w).alloc _).alloc _)).drew) (fun h=>h)
    rw [I.o];rintro e A ⟨rfl,y,p⟩;have d:A.heap[w.heap.size]? =some (.cells #[.string {data:=#[]},.int .i64 0,.int .i64 0] 64 (0,0)):=by rw [p.block w.heap.size (by simp;omega) (by omega)];exact (bF _ _ _ (by simp)).trans (heap_alloc_new w _)
    have s:=Ao d 0;have u:=Ao d 1;have x:=Ao d 2;have J:=Aw d 0;have K:=Aw d 1;have L:=Aw d 2;simp only [aU,aS,aT] at s u x;have N:=Ae d;have D:dJ (AM f q g n j a (E8 none t.pos) A):=y;have B:=(((Ab.refl (fun k=>k=f) w).alloc _).alloc _).drew.trans p;clear y p d;go_wp2;refine bC (v:=HJ Ll) (by simp [results,Tryz.results34,go_sem,HJ,Ll,s,u,x];rfl) rfl ⟨rfl,?_,?_⟩
    ·exact D.o.f8 (X:=fun k=>k=w.heap.size) (by repeat (first | exact Ab.refl _ _ | refine Ab.drew ?_ | refine Ab.alloc ?_ _ | refine Ab.p7 ?_ _ _)) (by omega)
    ·repeat (first | exact B | refine Ab.drew ?_ | refine Ab.alloc ?_ _ | refine Ab.Yc ?_ _ _ (aV _))
end Go.Proofs.YthppbgndiplgnaaGreatDoor

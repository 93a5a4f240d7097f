/- Part of the proof: Mem PaA PaB PaC ScA ScB ScC ScD ScE ScF ScG ScH ScI ScJ. -/
import Derived.Test.YtaningfhibkemaaGreatDoorG00
import Derived.Below
import Derived.Laws.RangeAny
import Derived.Laws.Strings
import Derived.Test.YtaningfhibkemaaGreatDoorProg
import Derived.WalkKit
import Derived.WalkSpells
import Derived.WalkLawsBesides
import Derived.RegionTactic
import Derived.ChangeAlike
import Derived.BigRegion
import Derived.Deep.QuietTactic
import Derived.BigQuiet
import Derived.Deep.RegionLaw
import Derived.Deep.DeepCutAuto
import Derived.Lib.OthersKept
set_option maxRecDepth 100000
set_option maxHeartbeats 1000000
namespace Go.Proofs.YtaningfhibkemaaGreatDoor
open Go.Proofs.Tryz Go.RowKit
open Option renaming none->Z,some->T
open Value renaming int->G,slice->Y
open IntKind renaming i64->A
structure PT where
 kind:Nat
 d9:ByteArray
 l7:Nat
structure Sc where
 cV:List PT
 rem:Bool
 start:Nat
 cN:Nat
def Ej(l:List UInt8):Nat:=
 if l=[102,110]then 3 else if l=[118,97,114]then 4 else if l=[110,101,119]then 5 else if l=[114,101,116,117,114,110]then 6 else if l=[105,102]then 7 else if l=[101,108,115,101]then 8 else if l=[119,104,105,108,101]then 9 else 1
def BZ(r:Nat):Nat:=
 if r=48\/r=49\/r=50\/r=51 then 2 else if r=40 then 10 else if r=41 then 11 else if r=123 then 12 else if r=125 then 13 else if r=59 then 14 else if r=61 then 15 else if r=38 then 16 else if r=42 then 17 else if r=64 then 18 else if r=46 then 19 else if r=63 then 20 else 0
def Kg(r:Nat):Bool:=(decide (97<=r) && decide (r<=122))||(decide (224<=r) && decide (r<=255) && (r !=247))
def Dr(s:ByteArray)(p r:Nat):Bool:=r==65533 && !(decide (p+3<=s.size) && (s.extract p (p+3)).toList==[239,191,189])
def Dj(s:ByteArray)(e:Nat)(x:Sc):Sc:=
 if 0<x.cN then⟨x.cV++[⟨Ej (s.extract x.start e).toList,s.extract x.start e,x.start⟩],x.rem,x.start,0⟩else⟨x.cV,x.rem,x.start,0⟩
def Cy(p:Nat)(x:Sc):Sc:=⟨x.cV,x.rem,if x.cN=0 then p else x.start,x.cN+1⟩
def DR(s:ByteArray)(p r:Nat)(x:Sc):Sc×Nat×Bool:=
 if r=32\/r=9\/r=10 then(x,0,true)
 else if r=35 then(⟨x.cV,true,x.start,x.cN⟩,0,true)
 else if BZ r=0 then(x,p,false)
 else(⟨x.cV++[⟨BZ r,s.extract p (p+1),p⟩],x.rem,x.start,x.cN⟩,0,true)
def AQ(s:ByteArray)(p r:Nat)(x:Sc):Sc×Nat×Bool:=
 if Dr s p r then(x,p,false)
 else if x.rem then(⟨x.cV,r !=10,x.start,x.cN⟩,0,true)
 else if Kg r then(if 8<x.cN+1 then(Cy p x,(Cy p x).start,false)else(Cy p x,0,true))
 else DR s p r (Dj s p x)
def AF(s:ByteArray):Nat->Nat->Sc->Nat ⊕ Sc
 |0,_,x=>.inr x
 |f+1,p,x=>if p<s.size then
   (if (AQ s p (Utf8.decode s p).1 x).2.2 then AF s f (p+(Utf8.decode s p).2) (AQ s p (Utf8.decode s p).1 x).1
    else .inl (AQ s p (Utf8.decode s p).1 x).2.1)
  else .inr x
def Av(s:ByteArray)(x:Sc):List PT:=(Dj s s.size x).cV++[⟨0,s.extract s.size s.size,s.size⟩]
theorem D7{s f p x}(h:¬p<s.size):AF s f p x=.inr x:=by
 cases f with
 |zero=>rfl
 |succ f=>simp only[AF,jQ h]
theorem EJ{s f p x}(b:s.size-p<=f)(h:p<s.size)(a:(AQ s p (Utf8.decode s p).1 x).2.2=false):AF s f p x=.inl (AQ s p (Utf8.decode s p).1 x).2.1:=by
 cases f with
 |zero=>omega
 |succ f=>simp[AF,jR h,a]
theorem Gx(s p)(h:p<s.size):1<=(Utf8.decode s p).2:=by
 by_cases a:(s[p]'h).toNat<128
 .rw[decode_ascii s p h a];exact gS _
 .exact(decode_high s p h (by omega)).2
theorem DG{s f p x}(d:s.size-p<=f)(h:p<s.size)(b:(AQ s p (Utf8.decode s p).1 x).2.2=true):
 ∃a,s.size-(p+(Utf8.decode s p).2)<=a/\AF s f p x=AF s a (p+(Utf8.decode s p).2) (AQ s p (Utf8.decode s p).1 x).1:=by
 have c:=Gx s p h;cases f with
 |zero=>omega
 |succ f=>exact⟨f,by omega,by simp[AF,jR h,b]⟩
structure KV(p:Nat)(x:Sc):Prop where
 start:x.start<=p
 cN:x.cN<=8
 many:x.cV.length+x.cN<=p
theorem KV.more{p q x}(h:KV p x)(a:p<=q):KV q x:=⟨iG h.start a,h.cN,iG h.many a⟩
theorem KV.dT{s p x}(h:KV p x):KV p (Dj s p x):=by
 have a:=h.start;have b:=h.many;unfold Proofs.YtaningfhibkemaaGreatDoor.Dj;split
 .exact⟨a,by simp,by simp;omega⟩
 .exact⟨a,by simp,by simp;omega⟩
theorem Eg(s p x):(Dj s p x).cN=0:=by unfold Dj;split<;>rfl
theorem VY(s p x):(Dj s p x).rem=x.rem:=by unfold Dj;split<;>rfl
theorem Xw{s p r x}(h:KV p x)(a:(AQ s p r x).2.2=true):KV (p+1) (AQ s p r x).1:=by
 have k:=h.start;have l:=h.many;have m:=h.cN;unfold AQ at a⊢;split
 .rename_i c;simp[c]at a
 .rename_i c;simp only[c]at a;split
  .exact⟨by simp;omega,by simp;omega,by simp;omega⟩
  .rename_i g;simp only[g]at a;split
   .rename_i f;simp only[f,if_true]at a;split
    .rename_i e;simp[e]at a
    .exact⟨by simp only[Cy];split<;>omega,by simp only[Cy];omega,by simp only[Cy];omega⟩
   .have b:=h.dT (s:=s);have i:=b.start;have j:=b.many;have d:=Eg s p x;unfold DR;split
    .exact b.more (by omega)
    .split
     .exact⟨by simp;omega,by simp[d],by simp;omega⟩
     .split
      .exact b.more (by omega)
      .exact⟨by simp;omega,by simp[d],by simp;omega⟩
theorem Lz(s p r)(h:r<65533):Dr s p r=false:=by
 have:(r==65533)=false:=by simp;omega
 simp[Dr,this]
theorem Ey{a b}(h:a=b):Ending.returned (.bool a)=.returned (.bool b):=by rw[h]
theorem Xl{k a b}(h:a=b):Ending.returned (.int k a)=.returned (.int k b):=by rw[h]
theorem Jt(r:Nat)(w:World):
 Calls prog 108 #[.int .i32 r] w fun e b=>e=.returned (.bool (Kg r))/\b=w:=by
 by_cases h:(r:Int)=247
 .have a:r=247:=by omega
  subst a;go_enter func108,ntmps108;go_wp2;go_ret;exact⟨rfl,rfl⟩
 .have a:(((r:Nat):Int)==247)=false:=by simpa using h
  go_enter func108,ntmps108;go_wp2;all_goals
   go_ret;exact⟨Ey (by rw[Bool.eq_iff_iff];simp[Kg];omega),rfl⟩
theorem RJ{r}(a:r≠48)(h:r≠49)(i:r≠50)(j:r≠51)(k:r≠40)(l:r≠41)(m:r≠123)(n:r≠125)(o:r≠59)(b:r≠61)(c:r≠38)(d:r≠42)(e:r≠64)(f:r≠46)(g:r≠63):BZ r=0:=by simp[BZ, *]
theorem JB(r:Nat)(w:World):
 Calls prog 139 #[.int .i32 r] w fun e d=>e=.returned (.tuple #[G A (BZ r),.bool (BZ r !=0)])/\d=w:=by
 generalize b:BZ r=m;have c:D (BZ r=m):=b;clear b;go_enter func139,ntmps139;go_wp2;all_goals
  go_ret2;refine⟨?_,rfl⟩;have b:=c.o;simp only[beq_iff_eq,jK,ne_eq]at*;first
   |(have a:r=48:=by omega
     subst a;subst b;rfl)
   |(have a:r=49:=by omega
     subst a;subst b;rfl)
   |(have a:r=50:=by omega
     subst a;subst b;rfl)
   |(have a:r=51:=by omega
     subst a;subst b;rfl)
   |(have a:r=40:=by omega
     subst a;subst b;rfl)
   |(have a:r=41:=by omega
     subst a;subst b;rfl)
   |(have a:r=123:=by omega
     subst a;subst b;rfl)
   |(have a:r=125:=by omega
     subst a;subst b;rfl)
   |(have a:r=59:=by omega
     subst a;subst b;rfl)
   |(have a:r=61:=by omega
     subst a;subst b;rfl)
   |(have a:r=38:=by omega
     subst a;subst b;rfl)
   |(have a:r=42:=by omega
     subst a;subst b;rfl)
   |(have a:r=64:=by omega
     subst a;subst b;rfl)
   |(have a:r=46:=by omega
     subst a;subst b;rfl)
   |(have a:r=63:=by omega
     subst a;subst b;rfl)
   |(have e:m=0:=by rw[<-b];exact RJ (by omega) (by omega) (by omega) (by omega) (by omega) (by omega) (by omega) (by omega) (by omega) (by omega) (by omega) (by omega) (by omega) (by omega) (by omega)
     subst e;rfl)
theorem OR(s w):
 Calls prog 111 #[.string s] w fun e a=>e=.returned (G A (Ej s.toList))/\a=w:=by
 go_enter func111,ntmps111;go_wp2;all_goals
  go_ret;refine⟨Xl ?_,rfl⟩;first
   |(simp[Ej, *];done)
   |(simp_all [Ej];done)
structure O(X:Nat->Prop)(w w':World):Prop where
 os:w'.os=w.os
 tape:w'.tape=w.tape
 output:w'.output=w.output
 size:w.heap.size<=w'.heap.size
 block:∀k,k<w.heap.size->¬X k->w'.heap[k]? =w.heap[k]?
theorem O.refl(X:Nat->Prop)(w):O X w w:=⟨rfl,rfl,rfl,gS _,fun _ _ _=>rfl⟩
theorem O.trans{X:Nat->Prop}{a b c:World}(h:O X a b)(k:O X b c):O X a c:=
 ⟨k.os.trans h.os,k.tape.trans h.tape,k.output.trans h.output,iG h.size k.size,fun i d e=>(k.block i (iI d h.size) e).trans (h.block i d e)⟩
theorem O.mono{X c:Nat->Prop}{a b}(h:O X a b)(e:∀k,k<a.heap.size->X k->c k):O c a b:=
 ⟨h.os,h.tape,h.output,h.size,fun k d f=>h.block k d (fun q=>f (e k d q))⟩
theorem O.drew{X:Nat->Prop}{a w}(h:O X a w):O X a w.drew:=⟨h.os,h.tape,h.output,h.size,h.block⟩
theorem O.drewN{X:Nat->Prop}{a w}(h:O X a w)(n):O X a (w.drewN n):=h.trans ⟨rfl,rfl,rfl,gS _,fun _ _ _=>rfl⟩
theorem O.alloc{X:Nat->Prop}{a w}(h:O X a w)(o):O X a (w.alloc o):=
 h.trans ⟨rfl,rfl,rfl,by simp,fun k b _=>iC _ _ _ b⟩
theorem BI(X:Nat->Prop)(w):O X w w:=O.refl X w
theorem BG{X:Nat->Prop}{a w}(h:O X a w):O X a w.drew:=h.drew
theorem BH{X:Nat->Prop}{a w}(h:O X a w)(n):O X a (w.drewN n):=h.drewN n
theorem BE{X:Nat->Prop}{a w}(h:O X a w)(o):O X a (w.alloc o):=h.alloc o
theorem O.setCell{X:Nat->Prop}{a w}(h:O X a w){p}(b:X p.block\/a.heap.size<=p.block)(u):O X a (w.setCell p u):=by
 refine⟨h.os,h.tape,h.output,by have:=h.size;simpa[World.setCell]using this,fun k d c=>?_⟩;rw[Below.heap_setCell _ _ _ _ ?_]
 .exact h.block k d c
 .intro e;subst e;rcases b with b|b
  .exact c b
  .omega
theorem O.t9{b a w}(h:O (fun k=>k=b) a w)(i u):O (fun k=>k=b) a (w.setCell ⟨b,i,Z⟩ u):=h.setCell (.inl rfl) u
theorem O.cO{X:Nat->Prop}{b a w}(h:O X a w)(i u)(c:a.heap.size<=b):O X a (w.setCell ⟨b,i,Z⟩ u):=h.setCell (.inr c) u
theorem O.below{X:Nat->Prop}{a b}(h:O X a b)(d:∀k,X k->a.heap.size<=k):Below a.heap.size a b:=
 ⟨h.os,h.tape,h.output,h.size,fun k c=>h.block k c (fun q=>by have:=d k q;omega)⟩
theorem O.dI{X:Nat->Prop}{B a b}(h:O X a b)(d:B<=a.heap.size)(c:∀k,X k->B<=k):Below B a b:=
 ⟨h.os,h.tape,h.output,h.size,fun k e=>h.block k (by omega) (fun q=>by have:=c k q;omega)⟩
theorem O.grown{X:Nat->Prop}{a w g f}(h:O X a w)(b:w.grownBy g f)(i:∀k,f=T k->X k\/a.heap.size<=k):O X a g:=by
 refine⟨b.os.trans h.os,b.tape.trans h.tape,b.output.trans h.output,iG h.size b.size,fun k c d=>?_⟩;rw[b.block k (iI c h.size) ?_]
 .exact h.block k c d
 .intro e;rcases i k e.symm with q|q
  .exact d q
  .omega
theorem Ak{w:World}{b:Nat}{a:Array Value}{t:TypeId}{c:Nat×Nat}(h:w.heap[b]? =T (.cells a t c))(i:Nat):w.cell? ⟨b,i,Z⟩=a[i]? :=by simp[World.cell?,h]
theorem Az{w:World}{b:Nat}{a:Array Value}{t:TypeId}(h:w.heap[b]? =T (.cells a t (0,0)))(i:Nat):w.frozen? ⟨b,i,Z⟩=false:=by simp[World.frozen?,h]
theorem Ae{w:World}{b:Nat}{o:Obj}(h:w.heap[b]? =T o):b<w.heap.size:=(Array.getElem?_eq_some_iff.1 h).1
theorem FQ{w:World}{b:Nat}{a:Array Value}{t:TypeId}{c:Nat×Nat}(h:w.heap[b]? =T (.cells a t c))(i:Nat)(u:Value):(w.setCell ⟨b,i,Z⟩ u).heap[b]? =T (.cells (a.setIfInBounds i u) t c):=by simp[World.setCell,Array.getElem?_modify,h]
theorem Ac{w d B e c v n f}{X:Nat->Prop}(h:w.ownsRow B e c v n f)(o:O X w d)(p:∀k,v.ownBlock=T k->¬X k):d.ownsRow B e c v n f:=by
 refine⟨h.1,?_⟩;rcases h.2 with l|⟨g,i,j,b,m,a,r⟩
 .exact .inl l
 .refine .inr ⟨g,i,j,b,m,?_,r⟩;rw[o.block g (Ae a) (p g (by rw[b];rfl))];exact a
def W(b:Nat)(a:Array Value)(t:TypeId)(w:World):Prop:=w.heap[b]? =T (.cells a t (0,0))
theorem W.d8{b a t}{X:Nat->Prop}{w c}(h:W b a t w)(d:O X w c)(e:¬X b):W b a t c:=by unfold W at h⊢;rw[d.block b (Ae h) e];exact h
theorem W.set{b a t w}(h:W b a t w)(i u):W b (a.setIfInBounds i u) t (w.setCell ⟨b,i,Z⟩ u):=FQ h i u
theorem W.dA{b c a t w}(h:W b a t w)(i u)(d:b≠c):W b a t (w.setCell ⟨c,i,Z⟩ u):=by unfold W at h⊢;rw[Below.heap_setCell _ _ _ _ d];exact h
theorem W.alloc{b a t w}(h:W b a t w)(o):W b a t (w.alloc o):=by have:=Ae h;unfold W at h⊢;rw[iC _ _ _ this];exact h
theorem W.new(w:World)(a:Array Value)(t:TypeId):W w.heap.size a t (w.alloc (.cells a t)):=heap_alloc_new w _
theorem W.cell{b a t w}(h:W b a t w)(i):w.cell? ⟨b,i,Z⟩=a[i]? :=Ak h i
theorem W.e2{b a t w}(h:W b a t w)(c d):w.cell? ⟨b,c,Z⟩=a[c]? /\w.cell? ⟨b,d,Z⟩=a[d]? :=⟨h.cell _,h.cell _⟩
theorem W.e3{b a t w}(h:W b a t w)(c d e):w.cell? ⟨b,c,Z⟩=a[c]? /\w.cell? ⟨b,d,Z⟩=a[d]? /\w.cell? ⟨b,e,Z⟩=a[e]? :=⟨h.cell _,h.cell _,h.cell _⟩
theorem W.e4{b a t w}(h:W b a t w)(c d e f):w.cell? ⟨b,c,Z⟩=a[c]? /\w.cell? ⟨b,d,Z⟩=a[d]? /\w.cell? ⟨b,e,Z⟩=a[e]? /\w.cell? ⟨b,f,Z⟩=a[f]? :=⟨h.cell _,h.cell _,h.cell _,h.cell _⟩
theorem W.e5{b a t w}(h:W b a t w)(c d e f g):w.cell? ⟨b,c,Z⟩=a[c]? /\w.cell? ⟨b,d,Z⟩=a[d]? /\w.cell? ⟨b,e,Z⟩=a[e]? /\w.cell? ⟨b,f,Z⟩=a[f]? /\w.cell? ⟨b,g,Z⟩=a[g]? :=⟨h.cell _,h.cell _,h.cell _,h.cell _,h.cell _⟩
theorem W.e6{b a t w}(h:W b a t w)(c d e f g i):w.cell? ⟨b,c,Z⟩=a[c]? /\w.cell? ⟨b,d,Z⟩=a[d]? /\w.cell? ⟨b,e,Z⟩=a[e]? /\w.cell? ⟨b,f,Z⟩=a[f]? /\w.cell? ⟨b,g,Z⟩=a[g]? /\w.cell? ⟨b,i,Z⟩=a[i]? :=⟨h.cell _,h.cell _,h.cell _,h.cell _,h.cell _,h.cell _⟩
theorem W.e7{b a t w}(h:W b a t w)(c d e f g i j):w.cell? ⟨b,c,Z⟩=a[c]? /\w.cell? ⟨b,d,Z⟩=a[d]? /\w.cell? ⟨b,e,Z⟩=a[e]? /\w.cell? ⟨b,f,Z⟩=a[f]? /\w.cell? ⟨b,g,Z⟩=a[g]? /\w.cell? ⟨b,i,Z⟩=a[i]? /\w.cell? ⟨b,j,Z⟩=a[j]? :=⟨h.cell _,h.cell _,h.cell _,h.cell _,h.cell _,h.cell _,h.cell _⟩
theorem W.e8{b a t w}(h:W b a t w)(c d e f g i j k):w.cell? ⟨b,c,Z⟩=a[c]? /\w.cell? ⟨b,d,Z⟩=a[d]? /\w.cell? ⟨b,e,Z⟩=a[e]? /\w.cell? ⟨b,f,Z⟩=a[f]? /\w.cell? ⟨b,g,Z⟩=a[g]? /\w.cell? ⟨b,i,Z⟩=a[i]? /\w.cell? ⟨b,j,Z⟩=a[j]? /\w.cell? ⟨b,k,Z⟩=a[k]? :=⟨h.cell _,h.cell _,h.cell _,h.cell _,h.cell _,h.cell _,h.cell _,h.cell _⟩
theorem W.e9{b a t w}(h:W b a t w)(c d e f g i j k l):w.cell? ⟨b,c,Z⟩=a[c]? /\w.cell? ⟨b,d,Z⟩=a[d]? /\w.cell? ⟨b,e,Z⟩=a[e]? /\w.cell? ⟨b,f,Z⟩=a[f]? /\w.cell? ⟨b,g,Z⟩=a[g]? /\w.cell? ⟨b,i,Z⟩=a[i]? /\w.cell? ⟨b,j,Z⟩=a[j]? /\w.cell? ⟨b,k,Z⟩=a[k]? /\w.cell? ⟨b,l,Z⟩=a[l]? :=⟨h.cell _,h.cell _,h.cell _,h.cell _,h.cell _,h.cell _,h.cell _,h.cell _,h.cell _⟩
theorem W.e15{b a t w}(h:W b a t w)(c d k l m n o p q r e f g i j):w.cell? ⟨b,c,Z⟩=a[c]? /\w.cell? ⟨b,d,Z⟩=a[d]? /\w.cell? ⟨b,k,Z⟩=a[k]? /\w.cell? ⟨b,l,Z⟩=a[l]? /\w.cell? ⟨b,m,Z⟩=a[m]? /\w.cell? ⟨b,n,Z⟩=a[n]? /\w.cell? ⟨b,o,Z⟩=a[o]? /\w.cell? ⟨b,p,Z⟩=a[p]? /\w.cell? ⟨b,q,Z⟩=a[q]? /\w.cell? ⟨b,r,Z⟩=a[r]? /\w.cell? ⟨b,e,Z⟩=a[e]? /\w.cell? ⟨b,f,Z⟩=a[f]? /\w.cell? ⟨b,g,Z⟩=a[g]? /\w.cell? ⟨b,i,Z⟩=a[i]? /\w.cell? ⟨b,j,Z⟩=a[j]? :=⟨h.cell _,h.cell _,h.cell _,h.cell _,h.cell _,h.cell _,h.cell _,h.cell _,h.cell _,h.cell _,h.cell _,h.cell _,h.cell _,h.cell _,h.cell _⟩
theorem W.frozen{b a t w}(h:W b a t w)(i):w.frozen? ⟨b,i,Z⟩=false:=Az h i
theorem W.ne{a b:Nat}{c d:Array Value}{t u:TypeId}{w:World}(h:W a c t w)(k:W b d u w)(e:t≠u):a≠b:=by rintro rfl;unfold W at h k;rw[h]at k;simp only[gX,iE]at k;exact e k.2.1
theorem Ad{w:World}{B:Nat}{e:TypeId}{f:Nat}{v:Value}{n:Nat}{i:List Value}(h:w.ownsRow B e f v n i):∃a l c,v=Y a l c:=by
 rcases h.2 with⟨b,_⟩|⟨g,j,k,d,_⟩
 .exact⟨_,_,_,b⟩
 .exact⟨_,_,_,d⟩
theorem Aq{w:World}{B B':Nat}{e:TypeId}{a:Nat}{v:Value}{n:Nat}{b:List Value}(h:w.ownsRow B e a v n b)(i:B'<=B):w.ownsRow B' e a v n b:=by
 refine⟨h.1,?_⟩;rcases h.2 with f|⟨g,c,d,k,j,r⟩
 .exact .inl f
 .exact .inr ⟨g,c,d,k,iG i j,r⟩
theorem J{p}(h:p):D p:=h
theorem Ax{a b c:Prop}(d:a)(e:b)(f:c):D a/\D b/\D c:=⟨d,e,f⟩
theorem Ba{a b c d:Prop}(e:a)(f:b)(g:c)(h:d):D a/\D b/\D c/\D d:=⟨e,f,g,h⟩
theorem BB{a b c d e:Prop}(f:a)(g:b)(h:c)(i:d)(j:e):D a/\D b/\D c/\D d/\D e:=⟨f,g,h,i,j⟩
theorem EF{a b c d e f:Prop}(g:a)(h:b)(i:c)(j:d)(k:e)(l:f):D a/\D b/\D c/\D d/\D e/\D f:=⟨g,h,i,j,k,l⟩
theorem Wk{a b c d e f g:Prop}(h:a)(i:b)(j:c)(k:d)(l:e)(m:f)(n:g):D a/\D b/\D c/\D d/\D e/\D f/\D g:=⟨h,i,j,k,l,m,n⟩
theorem En{a b c d e f g h:Prop}(i:a)(j:b)(k:c)(l:d)(m:e)(n:f)(o:g)(p:h):D a/\D b/\D c/\D d/\D e/\D f/\D g/\D h:=⟨i,j,k,l,m,n,o,p⟩
theorem O.tr{b c a w d}(h:O (fun k=>k=b\/k=c) a w)(k:O (fun k=>k=b) w d):O (fun k=>k=b\/k=c) a d:=h.trans (k.mono (fun _ _ q=>.inl q))
theorem O.dM{X:Nat->Prop}{a w b}(h:O X a w)(k:O kJ w b):O X a b:=h.trans (k.mono (fun _ _ q=>q.elim))
theorem Ai{w c B e b v n d}{X:Nat->Prop}(h:w.ownsRow B e b v n d)(p:O X w c)(t:∀k i l,X k->w.heap[k]? ≠T (.cells i e l)):c.ownsRow B e b v n d:=by
 refine⟨h.1,?_⟩;rcases h.2 with m|⟨g,f,j,s,o,a,r⟩
 .exact .inl m
 .refine .inr ⟨g,f,j,s,o,?_,r⟩;rw[p.block g (Ae a) (fun q=>t g _ _ q a)];exact a
theorem Je{P:Program}{w:World}(I:Nat)(t l e:TypeId)(i:TypeInfo)(z:Value)(x:P.underlying t=T (.slice e))(p:P.info? e=T i)(F:i.zero=T z)
 (v:Value)(n:Nat)(y:List Value)(r:w.ownsRow I e i.size v n y)
 (a:Addr)(m c:Nat)(d:List Value)(h:d.length=m*i.size)(q:∀j u,d[j]? =T u->w.cell? (a.add j)=T u)(K:∀u∈d,u.oneCell'=true)
 (R:0<m)(L:n+m<=maxLen)(C:(n+m)*i.bytes<=140737488355328){H:Value}{U:World}(s:(Builtin.append_ #[t,t] l #[v,Y (T a) m c]).run P w=.ok H U):
 ∀k,H.ownBlock=T k->v.ownBlock=T k\/w.heap.size<=k:=by
 intro k f;have V:n+m<=9223372036854775807:=by simp only[maxLen]at L;omega
 rcases r.2 with⟨rfl,rfl⟩|⟨g,o,B,rfl,_,Q,a0,X,M,a1⟩
 .have b:=run_append_nil (P:=P) w t l e i z x p F a m c d h q R (by omega) (by simp only[iY]at C;omega);rw[s]at b;simp only[Result.ok.injEq]at b;rw[b.1]at f;simp[Value.ownBlock]at f;exact .inr (by omega)
 .by_cases E:n+m<=o
  .have N:n*i.size+d.length<=B.size:=by rw[h,M,<-Nat.add_mul];exact Nat.mul_le_mul_right _ E
   have b:=run_append_room (P:=P) w t l e i x p g n o B Q a m c d h q K E N;rw[s]at b;simp only[Result.ok.injEq]at b;rw[b.1]at f;exact .inl (by simpa[Value.ownBlock]using f)
  .have S:∀j u,y[j]? =T u->w.cell? ((⟨g,0,Z⟩:Addr).add j)=T u:=r.cells (g:=g) rfl;have b:=run_append_grow (P:=P) w t l e i z x p F ⟨g,0,Z⟩ n o y r.1 S a m c d h q (by omega) (by omega) (growslice_fits (by omega) C);rw[s]at b;simp only[Result.ok.injEq]at b;rw[b.1]at f;simp[Value.ownBlock]at f;exact .inr (by omega)
theorem AC{P:Program}{U:Array Oper}{o:Oper}{a:Act}{w:World}{K:Act->World->Prop}{Q:Exit->Act->World->Prop}{E:Prop}
 (hg:o.guard=Z)(s x:Operand)(t:TypeId)(a1:o.op=Op.call {callee:=Callee.builtin Builtin.append,args:=#[s,x],argTypes:=#[t,t]})
 (g:Nat)(e:TypeId)(i:TypeInfo)(z:Value)(b q:Nat)(B:P.underlying t=T (.slice e))(F:P.info? e=T i)(H:i.zero=T z)(I:i.size=b)(L:i.bytes=q)(V:z.cells.size=b)(X:0<b)
 (v:Value)(n:Nat)(p:List Value)(hs:a.eval s=v)(R:w.ownsRow g e b v n p)
 (l:Addr)(m c:Nat)(d:List Value)(hx:a.eval x=Y (T l) m c)(N:d.length=m*b)(M:∀j u,d[j]? =T u->w.cell? (l.add j)=T u)(C:∀u∈d,u.oneCell'=true)
 (hm:0<m)(r:n+m<=maxLen)(y:(n+m)*q<=140737488355328)(a0:g<=w.heap.size)
 (hK:∀f h,h.ownsRow g e b f (n+m) (p++d)->w.grownBy h v.ownBlock->(∀k,f.ownBlock=T k->v.ownBlock=T k\/w.heap.size<=k)->K (a.put o.dst f) h):
 if Region.wanted o (yielded U a.tmps)=true then Oper.wp P o a w K Q else E:=by
 have hw:Region.wanted o (yielded U a.tmps)=true:=by simp[Region.wanted,hg]
 rw[jR hw];obtain⟨f,h,S,r1,r2,_⟩:=run_append_own (P:=P) w g t o.type e i z b q B F H I L V X v n p R l m c d N M C r y a0;have r3:∀k,f.ownBlock=T k->v.ownBlock=T k\/w.heap.size<=k:=by subst I;subst L;exact Je g t o.type e i z B F H v n p R l m c d N M C hm r y S
 unfold Oper.wp;simp[execOp,a1,resolve,invoke,builtin,hs,hx,S,Result.andThen];exact hK f h r1 r2 r3
theorem AD{w:World}{g:Nat}(e:g=w.heap.size)(a:Array Value)(t:TypeId):∀j u,a.toList[j]? =T u->(w.alloc (.cells a t)).cell? ((⟨g,0,Z⟩:Addr).add j)=T u:=by
 intro j u h;subst e;have d:=(W.new w a t).cell j;have c:(⟨w.heap.size,0,Z⟩:Addr).add j=⟨w.heap.size,j,Z⟩:=by
  simp only[Addr.add];split
  .rename_i b;subst b;rfl
  .simp
 rw[c,d];simpa using h
theorem Am{w:World}{B:Nat}{e:TypeId}{m:Nat}{v:Value}{n:Nat}{o:List Value}(h:w.ownsRow B e m v n o){b:Nat}{d:Array Value}{t:TypeId}{f:Nat×Nat}(i:w.heap[b]? =T (.cells d t f))(j:t≠e):∀k,v.ownBlock=T k->k≠b:=by
 intro k a e;subst e;rcases h.2 with⟨g,_⟩|⟨r,p,q,l,_,c,_⟩
 .rw[g]at a;simp[Value.ownBlock]at a
 .rw[l]at a;simp[Value.ownBlock]at a;subst a;rw[i]at c;simp only[gX,iE]at c;exact j c.2.1
theorem Ag{w:World}{B:Nat}{e:TypeId}{d:Nat}{a:Option Addr}{l c n:Nat}{f:List Value}(h:w.ownsRow B e d (Y a l c) n f):l=n:=by
 rcases h.2 with⟨b,g⟩|⟨_,_,_,b,_⟩
 .simp at b;omega
 .simp at b;omega
theorem Ap{w:World}{B:Nat}{e:TypeId}{f:Nat}{a:Option Addr}{l c n:Nat}{g:List Value}(h:w.ownsRow B e f (Y a l c) n g)(j:0<n):∃b,a=T ⟨b,0,Z⟩:=by
 rcases h.2 with⟨_,i⟩|⟨b,_,_,d,_⟩
 .omega
 .simp only[Value.slice.injEq]at d;exact⟨b,d.1⟩
theorem DU{w:World}{B:Nat}{e:TypeId}{g:Nat}{d l c n:Nat}{i:List Value}(h:w.ownsRow B e g (Y (T ⟨d,0,Z⟩) l c) n i):∃b,w.heap[d]? =T (.cells b e (0,0)):=by
 rcases h.2 with⟨a,_⟩|⟨j,_,b,a,_,f,_⟩
 .simp at a
 .simp only[Value.slice.injEq,gX,Addr.mk.injEq]at a;rw[a.1.1];exact⟨b,f⟩
theorem Tryz.infoInt:(Tryz.prog.info? 3).map (fun i=>(i.zero,i.size,i.bytes))=T (T (G A 0),1,8):=by kernel_rfl
theorem JP{P}(w){U V o a}{Q:Exit->Act->World->Prop}(a1:o.guard=Z)(s x t)
 (ho:o.op=.call {callee:=.builtin .append,args:=#[s,x],argTypes:=#[t,t]})
 (g e i z b r)(R:P.underlying t=T (.slice e))(F:P.info? e=T i)(S:i.zero=T z)
 (N:i.size=b)(C:i.bytes=r)(a3:z.cells.size=b)(a2:0<b)
 (v n q)(hs:a.eval s=v)(L:w.ownsRow g e b v n q)
 (p m c d)(hx:a.eval x=Y (T p) m c)(H:d.length=m*b)(I:∀j u,d[j]? =T u->w.cell? (p.add j)=T u)(y:∀u∈d,u.oneCell'=true)
 (hm:0<m)(B:n+m<=maxLen)(E:(n+m)*r<=140737488355328)(a0:g<=w.heap.size)
 (h:∀f l,l.ownsRow g e b f (n+m) (q++d)->w.grownBy l v.ownBlock->(∀k,f.ownBlock=T k->v.ownBlock=T k\/w.heap.size<=k)->wpList P U Q V (a.put o.dst f) l):wpList P U Q (o::V) a w:=
 wpList_plain a1 fun K X=>by
  obtain⟨f,l,M,r1,r2,_⟩:=run_append_own (P:=P) w g t o.type e i z b r R F S N C a3 a2 v n q L p m c d H I y B E a0;have r3:∀k,f.ownBlock=T k->v.ownBlock=T k\/w.heap.size<=k:=by subst N;subst C;exact Je g t o.type e i z R F S v n q L p m c d H I y hm B E M
  unfold Oper.wp;simp[execOp,ho,resolve,invoke,builtin,hs,hx,M,Result.andThen];exact X _ _ (h f l r1 r2 r3)
theorem C6{w b d t e}(h:W b d t w)(g:t≠e):∀k a c,k=b->w.heap[k]? ≠T (.cells a e c):=by intro k a c f q;subst f;unfold W at h;rw[h]at q;simp only[gX,iE]at q;exact g q.2.1
theorem GA{w:World}{B:Nat}{t e:TypeId}{j:Nat}{v:Value}{n:Nat}{l:List Value}(h:w.ownsRow B t j v n l)(g:t≠e):∀k b c,v.ownBlock=T k->w.heap[k]? ≠T (.cells b e c):=by
 intro k b c a q;rcases h.2 with⟨d,_⟩|⟨p,m,o,i,_,f,_⟩
 .rw[d]at a;simp[Value.ownBlock]at a
 .rw[i]at a;simp[Value.ownBlock]at a;subst a;rw[f]at q;simp only[gX,iE]at q;exact g q.2.1
theorem Gz{w:World}{B a:Nat}{t e:TypeId}{j l n m:Nat}{v u:Value}{o p:List Value}(h:w.ownsRow B t j v n o)(b:w.ownsRow a e l u m p)(g:t≠e):∀k,v.ownBlock=T k->¬u.ownBlock=T k:=by
 intro k f q;rcases b.2 with⟨c,_⟩|⟨x,r,s,i,_,d,_⟩
 .rw[c]at q;simp[Value.ownBlock]at q
 .rw[i]at q;simp[Value.ownBlock]at q;subst q;exact GA h g _ _ _ f d
def Mi(R:Act->World->Prop):Exit->Act->World->Prop
 |.normal,a,w=>R a w
 |_,_,_=>False
theorem DK{P c}{Q:Exit->Act->World->Prop}{a w}(h:Code.wp P c (Mi (fun a w=>Q .normal a w)) a w):Code.wp P c Q a w:=
 Code.wp_mono (fun e a w h=>by cases e<;>first|exact h|exact h.elim) h
def Yp(s p:ByteArray):Bool:=decide (p.size<=s.size) && ((s.extract 0 p.size).toList==p.toList)
theorem LW(s p:ByteArray)(_hs:s.size<=4001)(_hp:p.size<=4001)(w:World):
 Calls prog 152 #[.string s,.string p] w fun e d=>e=.returned (.bool (Yp s p))/\d=w:=by
 generalize c:Yp s p=v;have a:D (Yp s p=v):=c;clear c;by_cases h:p.size<=s.size
 .cases b:((s.extract 0 p.size).toList==p.toList)with
  |true=> go_enter func152,ntmps152;go_wp2;go_ret;exact⟨Ey (by rw[<-a.o];simp only[Yp,b];simp[h]),rfl⟩
  |false=> go_enter func152,ntmps152;go_wp2;go_ret;exact⟨Ey (by rw[<-a.o];simp only[Yp,b];simp),rfl⟩
 .have f:s.size<p.size:=by omega
  go_enter func152,ntmps152;go_wp2;go_ret;exact⟨Ey (by rw[<-a.o];simp[Yp,h]),rfl⟩
theorem MY(s p)(d:s.size<=4001)(c:p.size<=4001)(w):
 Calls prog 138 #[.string s,.string p] w fun e b=>e=.returned (.bool (Yp s p))/\b=w:=by
 go_enter func138,ntmps138;go_wp2_with(go_at_call 152;refine(LW _ _ d c _).mono ?_;rintro e b ⟨rfl,a⟩;have a:=a.symm;subst a);go_ret;exact⟨rfl,rfl⟩
theorem Wl(s:ByteArray)(p:Nat)(f:p<=s.size):Yp (s.extract p s.size) {data:=#[239,191,189]}=(decide (p+3<=s.size) && (s.extract p (p+3)).toList==[239,191,189]):=by
 have b:(s.extract p s.size).size=s.size-p:=by simp
 have c:ByteArray.size {data:=#[239,191,189]}=3:=rfl;have d:ByteArray.toList {data:=#[239,191,189]}=[239,191,189]:=by rw[kC]
 unfold Yp;rw[b,c,d];by_cases h:p+3<=s.size
 .have a:3<=s.size-p:=by omega
  have e:(s.extract p s.size).extract 0 3=s.extract p (p+3):=by rw[ByteArray.extract_extract];congr 1;omega
  rw[e];simp[h,a]
 .have a:¬3<=s.size-p:=by omega
  simp[h,a]
theorem EP(s:ByteArray)(p r:Nat)(j:s.size<=4000)(i:p<=s.size)(w:World):
 Calls prog 107 #[.string s,G A p,.int .i32 r] w fun e d=>e=.returned (.bool (Dr s p r))/\d=w:=by
 have f:=J (Wl s p i);generalize c:Dr s p r=v;have b:D (Dr s p r=v):=c;clear c;by_cases h:r=65533
 .have g:(((r:Nat):Int)==65533)=true:=by simp;omega
  go_enter func107,ntmps107;go_wp2_with(go_at_call 138;refine(MY _ _ (by simp;omega) (by decide) _).mono ?_;rintro e d ⟨rfl,a⟩;have a:=a.symm;subst a);go_ret;exact⟨Ey (by rw[<-b.o,f.o];simp[Dr,h]),rfl⟩
 .have g:(((r:Nat):Int)==65533)=false:=by simp;omega
  go_enter func107,ntmps107;go_wp2;go_ret;exact⟨Ey (by rw[<-b.o];simp[Dr,h]),rfl⟩
def EQ(t:PT):List Value:=[G A t.kind,.string t.d9,G A t.l7]
def Db(l:List PT):List Value:=l.flatMap EQ
theorem M5(l t):Db (l++[t])=Db l++EQ t:=by simp[Db]
def Lb(B b:Nat)(s:ByteArray)(v:Value)(x:Sc)(w:World):Prop:=
 W b #[.string s,v,.bool x.rem,G A x.start,G A x.cN] 167 w/\w.ownsRow B 112 3 v x.cV.length (Db x.cV)
structure Fr(b:Nat)(v v':Value)(w w':World):Prop where
 d8:O (fun k=>k=b\/v.ownBlock=T k) w w'
 own:∀k,v'.ownBlock=T k->v.ownBlock=T k\/w.heap.size<=k
theorem Fr.refl(b v w):Fr b v v w w:=⟨O.refl _ _,fun _ h=>.inl h⟩
theorem Fr.trans{b:Nat}{u v t:Value}{w d e:World}(h:Fr b u v w d)(k:Fr b v t d e):Fr b u t w e:=by
 refine⟨⟨k.d8.os.trans h.d8.os,k.d8.tape.trans h.d8.tape,k.d8.output.trans h.d8.output,iG h.d8.size k.d8.size,fun i a c=>?_⟩,fun i a=>?_⟩
 .rw[k.d8.block i (iI a h.d8.size) ?_]
  .exact h.d8.block i a c
  .rintro(q|q)
   .exact c (.inl q)
   .rcases h.own i q with q|q
    .exact c (.inr q)
    .omega
 .rcases k.own i a with q|q
  .exact h.own i q
  .exact .inr (iG h.d8.size q)
theorem Fr.drew{b v a w c}(h:Fr b v a w c):Fr b v a w c.drew:=⟨h.d8.drew,h.own⟩
theorem Fr.drewN{b v a w c}(h:Fr b v a w c)(n):Fr b v a w (c.drewN n):=⟨h.d8.drewN n,h.own⟩
theorem Fr.alloc{b v a w c}(h:Fr b v a w c)(o):Fr b v a w (c.alloc o):=⟨h.d8.alloc o,h.own⟩
theorem Fr.set{b v a w c}(h:Fr b v a w c)(i u):Fr b v a w (c.setCell ⟨b,i,Z⟩ u):=⟨h.d8.setCell (.inl (.inl rfl)) u,h.own⟩
theorem Lb.ne{B b s v x w}(h:Lb B b s v x w):∀k,v.ownBlock=T k->k≠b:=Am h.2 h.1 (by decide)
theorem Lb.d8{B b s v x w c}(h:Lb B b s v x w)(a:O kJ w c):Lb B b s v x c:=
 ⟨h.1.d8 a id,Ac h.2 a (fun _ _ q=>q)⟩
def JF(x:Sc)(t:PT):Sc:=⟨x.cV++[t],x.rem,x.start,x.cN⟩
theorem Tryz.infoPT:(Tryz.prog.info? 112).map (fun i=>(i.zero,i.size,i.bytes))=T (T (.agg #[G A 0,.string ByteArray.empty,G A 0]),3,32):=by kernel_rfl
theorem VA{B b s v a x t w d c}(h:Lb B b s v x w)(j:O kJ w d)(i:c.ownsRow B 112 3 a (x.cV.length+1) (Db x.cV++EQ t))(l:d.grownBy c v.ownBlock)(o:∀k,a.ownBlock=T k->v.ownBlock=T k\/w.heap.size<=k):
 Lb B b s a (JF x t) (c.setCell ⟨b,1,Z⟩ a)/\Fr b v a w (c.setCell ⟨b,1,Z⟩ a):=by
 have n:=h.ne;have f:O (fun k=>v.ownBlock=T k) w c:=O.grown (j.mono (fun _ _ q=>q.elim)) l (fun k m=>.inl m);have e:=h.1.d8 f (fun q=>n b q rfl);have g:=(O.refl (fun k=>k=b) c).t9 1 a;have p:∀k,a.ownBlock=T k->k≠b:=Am i e (by decide);refine⟨⟨?_,?_⟩,?_,o⟩
 .have:=e.set 1 a;simpa[JF]using this
 .have:=Ac i g p;simpa[JF,M5]using this
 .exact(f.mono (fun k _ q=>.inr q)).trans (g.mono (fun k _ q=>.inl q))
theorem Oc(B b:Nat)(s:ByteArray)(v:Value)(x:Sc)(f a c:Nat)(w:World)(_hs:s.size<=4000)(h:Lb B b s v x w)(V:B<=w.heap.size)(a0:a<=c)(X:c<=s.size)(hm:x.cV.length<=4001):
 Calls prog 74 #[.pointer (T ⟨b,0,Z⟩),G A f,G A a,G A c] w fun e o=>e=.returned (.tuple #[])/\∃g,Lb B b s g (JF x ⟨f,s.extract a c,a⟩) o/\Fr b v g w o:=by
 obtain⟨M,z,I,K,L⟩:=info_parts Tryz.infoPT;obtain⟨t,j⟩:=h.1.e2 0 1;have y:=h.1.frozen 1;simp only[gR,gP,gQ]at t j;obtain⟨N,Q,P,H⟩:=Ad h.2;subst H;have n:=Ae h.1;have F:=h.2;have i:=J h.ne;have r:=J h;clear h;go_enter func74,ntmps74;go_region_law(refine AC rfl _ _ 57 rfl B 112 M (.agg #[G A 0,.string ByteArray.empty,G A 0]) 3 32 underlying57 z I K L rfl (by decide) _ _ _ rfl (F.alloc _) ⟨w.heap.size,0,Z⟩ 1 1 [G A f,.string (s.extract a c),G A a] rfl rfl (AD rfl _ _) (fun u m=>by simp at m;rcases m with rfl|rfl|rfl<;>rfl) (by decide) (by unfold maxLen;omega) (by omega) (by simp;omega) ?_;intro g p l d E;have q1:p.cell? ⟨b,1,Z⟩=T (Y N Q P):=(gT (d.block b (by simp;omega) (fun h=>i.o b h.symm rfl))).trans (by rw[<-j];exact gT (iC _ _ _ n));have q2:p.frozen? ⟨b,1,Z⟩=false:=(gY (d.block b (by simp;omega) (fun h=>i.o b h.symm rfl))).trans (by rw[<-y];exact gY (iC _ _ _ n));obtain⟨R,U,S,rfl⟩:=Ad l);all_goals
  go_wp2_with fail;go_end0;refine⟨rfl,Y R U S,?_⟩;exact VA r.o (((O.refl _ _).alloc _).drew) l d (fun k C=>(E k C).imp id (fun q=>by simp at q;omega))
theorem Kz(B b s v x a w)(F:s.size<=4000)(h:Lb B b s v x w)(y:B<=w.heap.size)(z:a<=s.size)(g:KV a x):
 Calls prog 73 #[.pointer (T ⟨b,0,Z⟩),G A a] w fun e o=>e=.returned (.tuple #[])/\∃d,Lb B b s d (Dj s a x) o/\Fr b v d w o:=by
 obtain⟨r,t,i⟩:=h.1.e3 0 3 4;have u:=h.1.frozen 4;simp only[gR,gP,gQ]at r t i;have K:=Ae h.1;have E:=g.start;have H:=g.cN;have I:=g.many;have f:=J h;clear h g;by_cases p:0<x.cN
 .have l:Dj s a x=⟨x.cV++[⟨Ej (s.extract x.start a).toList,s.extract x.start a,x.start⟩],x.rem,x.start,0⟩:=by simp[Dj,p]
  rw[l];have C:decide ((0:Int)<(x.cN:Int))=true:=by simp;omega
  go_enter func73,ntmps73;go_wp2;go_cut[] (fun q=>∃d,Lb B b s d (JF x ⟨Ej (s.extract x.start a).toList,s.extract x.start a,x.start⟩) q/\Fr b v d w q)
  case first=>
   go_region_with(first
    |(go_at_call 111;refine(OR _ _).mono ?_;rintro e o ⟨rfl,m⟩;have m:=m.symm;subst m)
    |(go_at_call 74;refine(Oc B b s v x (Ej (s.extract x.start a).toList) x.start a _ F (f.o.d8 (by repeat first|exact BI _ _|apply BG|apply BH|apply BE)) (by simpa using y) E z (by omega)).mono ?_;rintro e L ⟨rfl,n,c,j⟩))
   all_goals
    go_wp2_with fail;go_meet
    case rel=>exact⟨n,c,Fr.trans ⟨(by repeat first|exact BI _ _|apply BG|apply BH|apply BE),fun _ h=>.inl h⟩ j⟩
  case rest=>
   obtain⟨n,c,j⟩:=hcut;have u:=c.1.frozen 4;have i:=c.1.cell 4;simp only[gR,gP,gQ]at i;go_wp2;go_end0;refine⟨rfl,n,⟨?_,?_⟩,j.set 4 _⟩
   .have:=c.1.set 4 (G A 0);simpa[JF]using this
   .exact Ac c.2 ((O.refl (fun k=>k=b) _).t9 4 _) c.ne
 .have l:Dj s a x=⟨x.cV,x.rem,x.start,0⟩:=by simp[Dj,p]
  rw[l];have C:decide ((0:Int)<(x.cN:Int))=false:=by simp;omega
  go_enter func73,ntmps73;go_wp2;go_end0;refine⟨rfl,v,⟨?_,?_⟩,(Fr.refl _ _ _).set 4 _⟩
  .have:=f.o.1.set 4 (G A 0);simpa using this
  .exact Ac f.o.2 ((O.refl (fun k=>k=b) _).t9 4 _) f.o.ne
theorem MG(B b:Nat)(s:ByteArray)(v:Value)(x:Sc)(p:Nat)(w:World)(h:Lb B b s v x w)(n:x.cN<=8):
 Calls prog 109 #[.pointer (T ⟨b,0,Z⟩),G A p] w fun e l=>e=.returned (.tuple #[G A ((if 8<x.cN+1 then(Cy p x).start else 0:Nat):Int),.bool (!decide (8<x.cN+1))])/\Lb B b s v (Cy p x) l/\Fr b v v w l:=by
 obtain⟨m,d⟩:=h.1.e2 3 4;have o:=h.1.frozen;simp only[gR,gP,gQ]at m d;have r:=Ae h.1;have a:=J h;clear h;by_cases c:x.cN=0
 .have f:((x.cN:Int)==0)=true:=by simp[c]
  have g:Cy p x=⟨x.cV,x.rem,p,1⟩:=by simp[Cy,c]
  rw[g,c];rw[c]at d;clear c f;go_enter func109,ntmps109;go_wp2;go_ret2;refine⟨rfl,⟨?_,?_⟩,((Fr.refl _ _ _).set 3 _).set 4 _⟩
  .have:=(a.o.1.set 3 (G A p)).set 4 (G A 1);simpa using this
  .exact Ac a.o.2 (((O.refl (fun k=>k=b) _).t9 3 _).t9 4 _) a.o.ne
 .have f:((x.cN:Int)==0)=false:=by simp[c]
  have g:Cy p x=⟨x.cV,x.rem,x.start,x.cN+1⟩:=by simp[Cy,c]
  rw[g];by_cases i:x.cN=8
  .rw[i];rw[i]at d;clear c f n;go_enter func109,ntmps109;go_wp2;go_ret2;refine⟨rfl,⟨?_,?_⟩,(Fr.refl _ _ _).set 4 _⟩
   .have:=a.o.1.set 4 (G A 9);simpa using this
   .exact Ac a.o.2 ((O.refl (fun k=>k=b) _).t9 4 _) a.o.ne
  .have q:decide ((8:Int)<(x.cN:Int)+1)=false:=by simp;omega
   have j:¬8<x.cN+1:=by omega
   simp only[j,if_false,decide_false,Bool.not_false];clear j;go_enter func109,ntmps109;go_wp2;go_ret2;refine⟨rfl,⟨?_,?_⟩,(Fr.refl _ _ _).set 4 _⟩
   .have:=a.o.1.set 4 (G A ((x.cN:Int)+1));simpa using this
   .exact Ac a.o.2 ((O.refl (fun k=>k=b) _).t9 4 _) a.o.ne
theorem OJ(B b:Nat)(s:ByteArray)(v:Value)(x:Sc)(p r:Nat)(w:World)(I:s.size<=4000)(h:Lb B b s v x w)(H:B<=w.heap.size)(P:p<s.size)(N:x.cV.length<=4000):
 Calls prog 110 #[.pointer (T ⟨b,0,Z⟩),G A p,.int .i32 r] w fun e j=>e=.returned (.tuple #[G A (DR s p r x).2.1,.bool (DR s p r x).2.2])/\∃q,Lb B b s q (DR s p r x).1 j/\Fr b v q w j:=by
 have u:=h.1.cell 2;have M:=h.1.frozen;simp only[gR,gP,gQ]at u;have Q:=Ae h.1;have f:=J h;clear h;by_cases a:r=32\/r=9\/r=10
 .have c:DR s p r x=(x,0,true):=by simp[DR,a]
  rw[c];rcases a with a|a|a
  all_goals
   subst a;go_enter func110,ntmps110;go_wp2;go_ret2;exact⟨rfl,v,f.o,Fr.refl _ _ _⟩
 .have y:((r:Int)==32)=false:=by simp;omega
  have z:((r:Int)==9)=false:=by simp;omega
  have C:((r:Int)==10)=false:=by simp;omega
  by_cases g:r=35
  .have c:DR s p r x=(⟨x.cV,true,x.start,x.cN⟩,0,true):=by simp[DR,g]
   rw[c];subst g;clear y z C;go_enter func110,ntmps110;go_wp2;go_ret2;refine⟨rfl,v,⟨?_,?_⟩,(Fr.refl _ _ _).set 2 _⟩
   .have:=f.o.1.set 2 (.bool true);simpa using this
   .exact Ac f.o.2 ((O.refl (fun k=>k=b) _).t9 2 _) f.o.ne
  .have L:((r:Int)==35)=false:=by simp;omega
   by_cases i:BZ r=0
   .have c:DR s p r x=(x,p,false):=by simp[DR,a,g,i]
    rw[c];have l:D (BZ r=0):=i;clear a g i;go_enter func110,ntmps110;go_wp2_with(go_at_call 139;refine(JB _ _).mono ?_;rw[l.o];rintro e j ⟨rfl,d⟩;have d:=d.symm;subst d);go_ret2;exact⟨rfl,v,f.o,Fr.refl _ _ _⟩
   .have c:DR s p r x=(JF x ⟨BZ r,s.extract p (p+1),p⟩,0,true):=by simp[DR,a,g,i,JF]
    rw[c];have n:(BZ r !=0)=true:=by simp[i]
    obtain⟨m,o⟩:∃m,BZ r=m:=⟨_,rfl⟩;rw[o]at n⊢;have t:=J o;have l:=J n;clear a g i n o;go_enter func110,ntmps110;go_wp2_with(first
     |(go_at_call 139;refine(JB _ _).mono ?_;rw[t.o,l.o];rintro e j ⟨rfl,d⟩;have d:=d.symm;subst d)
     |(go_at_call 74;refine(Oc B b s v x m p (p+1) _ I f.o H (by omega) (by omega) (by omega)).mono ?_;rintro e R ⟨rfl,K,E,F⟩))
    go_ret2;exact⟨rfl,K,E,F⟩
theorem QP(B b:Nat)(s:ByteArray)(v:Value)(x:Sc)(p r:Nat)(w:World)(m:s.size<=4000)(h:Lb B b s v x w)(S:B<=w.heap.size)(U:p<s.size)(F:KV p x):
 Calls prog 72 #[.pointer (T ⟨b,0,Z⟩),G A p,.int .i32 r] w fun e i=>e=.returned (.tuple #[G A (AQ s p r x).2.1,.bool (AQ s p r x).2.2])/\∃I,Lb B b s I (AQ s p r x).1 i/\Fr b v I w i:=by
 obtain⟨N,z⟩:=h.1.e2 0 2;have ff:=h.1.frozen;simp only[gR,gP,gQ]at N z;have lb:=Ae h.1;have j:=J h;have y:=J F;clear h F;cases c:Dr s p r with
 |true=>
  have f:AQ s p r x=(x,p,false):=by simp[AQ,c]
  rw[f];have n:=J c;clear c;go_enter func72,ntmps72;go_wp2_with(first|(go_at_call 107;refine(EP _ _ _ m (by omega) _).mono ?_;rw[n.o];rintro e i ⟨rfl,a⟩;have a:=a.symm;subst a));go_ret2;exact⟨rfl,v,j.o,Fr.refl _ _ _⟩
 |false=>
  have n:=J c;cases g:x.rem with
  |true=>
   have f:AQ s p r x=(⟨x.cV,r !=10,x.start,x.cN⟩,0,true):=by simp[AQ,c,g]
   rw[f];rw[g]at z;have H:((r:Int) !=10)=(r !=10):=by rw[Bool.eq_iff_iff];simp;omega
   have M:=J H;clear c g H;go_enter func72,ntmps72;go_wp2_with(first|(go_at_call 107;refine(EP _ _ _ m (by omega) _).mono ?_;rw[n.o];rintro e i ⟨rfl,a⟩;have a:=a.symm;subst a));go_ret2;refine⟨rfl,v,⟨?_,?_⟩,(Fr.refl _ _ _).set 2 _⟩
   .have:=j.o.1.set 2 (.bool ((r:Int) !=10));rw[M.o]at this⊢;simpa using this
   .exact Ac j.o.2 ((O.refl (fun k=>k=b) _).t9 2 _) j.o.ne
  |false=>
   rw[g]at z;cases l:Kg r with
   |true=>
    have u:=J l;have f:AQ s p r x=(Cy p x,(if 8<x.cN+1 then(Cy p x).start else 0),!decide (8<x.cN+1)):=by simp only[AQ,c,g,l];by_cases R:8<x.cN+1<;>simp[R]
    rw[f];clear c g l f;obtain⟨q,t⟩:∃q,(if 8<x.cN+1 then(Cy p x).start else 0)=q:=⟨_,rfl⟩;obtain⟨d,E⟩:∃d,(!decide (8<x.cN+1))=d:=⟨_,rfl⟩;have L:=J t;have K:=J E;rw[t,E];clear t E;go_enter func72,ntmps72;go_wp2_with(first|(go_at_call 107;refine(EP _ _ _ m (by omega) _).mono ?_;rw[n.o];rintro e i ⟨rfl,a⟩;have a:=a.symm;subst a)|(go_at_call 108;refine(Jt _ _).mono ?_;rw[u.o];rintro e i ⟨rfl,a⟩;have a:=a.symm;subst a)|(go_at_call 109;refine(MG B b s v x p _ j.o y.o.cN).mono ?_;rw[L.o,K.o];rintro e w1 ⟨rfl,C,o⟩));go_ret2;exact⟨rfl,v,C,o⟩
   |false=>
    have u:=J l;have f:AQ s p r x=DR s p r (Dj s p x):=by simp[AQ,c,g,l]
    rw[f];clear c g l f;go_enter func72,ntmps72;go_wp2_with(first|(go_at_call 107;refine(EP _ _ _ m (by omega) _).mono ?_;rw[n.o];rintro e i ⟨rfl,a⟩;have a:=a.symm;subst a)|(go_at_call 108;refine(Jt _ _).mono ?_;rw[u.o];rintro e i ⟨rfl,a⟩;have a:=a.symm;subst a)|(go_at_call 73;refine(Kz B b s v x p _ m j.o S (by omega) y.o).mono ?_;rintro e w1 ⟨rfl,V,C,o⟩;have hz:=o.d8.size;have t:=(y.o.dT (s:=s)).many)|(go_at_call 110;refine(OJ B b s V (Dj s p x) p r _ m C (by omega) U (by omega)).mono ?_;rintro e w2 ⟨rfl,X,P,Q⟩));go_ret2;exact⟨rfl,X,P,o.trans Q⟩
abbrev x0:Sc:=⟨[],false,0,0⟩
def ZN(w:World)(s:ByteArray)(V:Nat ⊕ Sc)(e:Ending)(a:World):Prop:=
 match V with
 |.inl p=>e=.returned (.tuple #[Y Z 0 0,G A 2,G A p])/\Below w.heap.size w a
 |.inr x=>∃v,e=.returned (.tuple #[v,G A 0,G A 0])/\a.ownsRow w.heap.size 112 3 v (Av s x).length (Db (Av s x))/\(Av s x).length<=4001/\Below w.heap.size w a
theorem PO{w:World}{k:Nat}{s:ByteArray}{p:Nat}(h:w.heap[k]? =T (.stringIter s p)):w.iterPos k=p:=by simp[World.iterPos,h]
theorem KG(w k s p):O (fun j=>j=k) w (w.iterAt k s p):=by have h:=Lib.below_iterAt (Below.refl 0 w) (k:=k) (iF _) s p;exact⟨h.os,h.tape,h.output,h.size,fun j _ a=>Lib.iterAt_other _ _ _ _ _ (fun e=>a e)⟩
theorem Qm{w:World}{B:Nat}{e:TypeId}{i:Nat}{v:Value}{n:Nat}{j:List Value}(h:w.ownsRow B e i v n j){b:Nat}{s:ByteArray}{p:Nat}(f:w.heap[b]? =T (.stringIter s p)):∀k,v.ownBlock=T k->k≠b:=by
 rintro k a rfl;rcases h.2 with⟨d,_⟩|⟨o,l,m,g,_,c,_⟩
 .rw[d]at a;simp[Value.ownBlock]at a
 .rw[g]at a;simp[Value.ownBlock]at a;subst a;rw[f]at c;cases c
theorem Lb.iter{B b k s t v x w p q}(h:Lb B b s v x w)(c:w.heap[k]? =T (.stringIter t p))(a:b≠k):Lb B b s v x (w.iterAt k t q):=
 ⟨h.1.d8 (KG _ _ _ _) a,Ac h.2 (KG _ _ _ _) (Qm h.2 c)⟩
theorem Fr.iter{b k B s t v f x w c p}(h:Fr b v f w c)(e:Lb B b s v x w)(a:w.heap[k]? =T (.stringIter t p))(d:b≠k):c.heap[k]? =T (.stringIter t p):=by
 rw[h.d8.block k (Ae a) ?_]
 .exact a
 .rintro(q|q)
  .exact d q.symm
  .exact Qm e.2 a k q rfl
theorem Fr.below{b B s v g x w a}(h:Fr b v g w a)(f:Lb B b s v x w)(c:B<=w.heap.size)(i:B<=b):Below B w a:=
 h.d8.dI c (fun k d=>d.elim (fun e=>by omega) (fun q=>(f.2.lt k q).1))
theorem QR(s)(c:4000<s.size)(a:s.size<=maxLen)(w):
 Calls prog 36 #[.string s] w fun e b=>e=.returned (.tuple #[Y Z 0 0,G A 1,G A 0])/\b=w:=by
 unfold maxLen at a;go_enter func36,ntmps36;go_wp2;go_ret3;exact⟨rfl,rfl⟩
theorem GD(s)(t:s.size<=4000)(w):
 Calls prog 36 #[.string s] w fun e w'=>ZN w s (AF s s.size 0 x0) e w':=by
 generalize I:AF s s.size 0 x0=V;have H:D (AF s s.size 0 x0=V):=I;clear I;go_enter func36,ntmps36;go_wp2;go_loopw[6,7,8,9] (fun _ _ _ _ wr=>∃(a q f:Nat) (v:Value) (x:Sc),wr.heap[w.heap.size+1]? =T (.stringIter s a)/\Lb w.heap.size w.heap.size s v x wr/\Below w.heap.size w wr/\s.size-a<=f/\KV q x/\q<=a/\q<=s.size/\D (AF s f a x=V)) (fun _ _ _ _ wr=>s.size-wr.iterPos (w.heap.size+1))
 case atStart=>
  refine⟨0,0,s.size,Y Z 0 0,x0,?_,?_,?_,by omega,⟨gS _,by simp,by simp⟩,gS _,iF _,H⟩
  .have:=World.iter_heap (w.alloc (.cells #[.string s,Y Z 0 0,.bool false,G A 0,G A 0] 167)) s 0;simpa using this
  .exact⟨(W.new w #[.string s,Y Z 0 0,.bool false,G A 0,G A 0] 167).alloc _,iB _ _ _ _⟩
  .exact((Below.refl _ _).alloc (gS _) _).alloc (by simp) _
 case round=>
  obtain⟨a,q,f,v,x,h,u,m,L,p,a5,a6,o⟩:=hrel;clear H;have a4:=PO h;have U:=m.size;by_cases d:a<s.size
  .have a2:∀i,(Instr.next (.pointer (T ⟨w.heap.size+1,0,Z⟩)) true i).run prog wr=_:=fun i=>Lib.run_next_any_at wr (w.heap.size+1) s a i h d
   have M:=Lib.iterAt_heap wr (w.heap.size+1) s a (a+(Utf8.decode s a).2) h;have C:=Lib.below_iterAt m (k:=w.heap.size+1) (by omega) s (a+(Utf8.decode s a).2);have R:=u.iter (q:=a+(Utf8.decode s a).2) h (by omega);have a8:=Gx s a d;have P:=p.more a5;generalize wr.iterAt (w.heap.size+1) s (a+(Utf8.decode s a).2)=W1 at*;have z:=C.size;obtain⟨y,S⟩:∃y,AQ s a (Utf8.decode s a).1 x=y:=⟨_,rfl⟩;obtain⟨c,j,b,a0,n⟩:=BB S P R M C;clear h u m p P R M C S;obtain⟨y1,y2,y3⟩:=y;cases y3 with
   |true=>
    go_wp2_with(go_at_call 72;refine(QP w.heap.size w.heap.size s v x a (Utf8.decode s a).1 _ t b.o z d j.o).mono ?_;rw[c.o];rintro e X ⟨rfl,F,l,g⟩);obtain⟨f',a1,K⟩:=DG (x:=x) L d (by rw[c.o]);rw[c.o]at K;have a3:KV (a+1) y1:=by have:=Xw (s:=s) (r:=(Utf8.decode s a).1) j.o (by rw[c.o]);rw[c.o]at this;exact this
    have N:=g.iter b.o a0.o (by omega);go_roundw
    case rel=>exact⟨a+(Utf8.decode s a).2,a+1,f',F,y1,N,l,n.o.trans (g.below b.o z (gS _)),a1,a3,by omega,by omega,by show _=_;rw[<-K];exact o.o⟩
    case measure=>rw[PO N,a4];omega
   |false=>
    go_wp2_with(go_at_call 72;refine(QP w.heap.size w.heap.size s v x a (Utf8.decode s a).1 _ t b.o z d j.o).mono ?_;rw[c.o];rintro e X ⟨rfl,F,l,g⟩);go_ret3;have E:V=.inl y2:=by have:=EJ (x:=x) L d (by rw[c.o]);rw[c.o]at this;rw[<-o.o,this]
    subst E;exact⟨rfl,n.o.trans (g.below b.o z (gS _))⟩
  .have a2:∀i,(Instr.next (.pointer (T ⟨w.heap.size+1,0,Z⟩)) true i).run prog wr=_:=fun i=>Lib.run_next_end_at wr (w.heap.size+1) s a i h d
   have E:V=.inr x:=by rw[<-o.o,D7 d]
   subst E;have b:=J u;have n:=J m;have Q:=p.more a6;have j:=J Q;clear h u m p o Q;have a7:=(j.o.dT (s:=s)).many;go_wp2_with(first
    |(go_at_call 73;refine(Kz w.heap.size w.heap.size s v x s.size _ t b.o U (gS _) j.o).mono ?_;rintro e w1 ⟨rfl,v1,l,g⟩;have a9:=g.d8.size)
    |(go_at_call 74;refine(Oc w.heap.size w.heap.size s v1 (Dj s s.size x) 0 s.size s.size _ t l (by omega) (gS _) (gS _) (by omega)).mono ?_;rintro e X ⟨rfl,F,B,h4⟩;have c1:=B.1.cell 1;simp only[gR,gP,gQ]at c1;obtain⟨va,vl,vc,rfl⟩:=Ad B.2))
   go_ret3;refine⟨_,rfl,?_,?_,?_⟩
   .have:=B.2;simpa[Av,JF]using this
   .simp[Av];omega
   .exact(n.o.trans (g.below b.o U (gS _))).trans (h4.below l (by omega) (gS _))
def Zm(t:PT):Prop:=t.kind=2->t.d9=⟨#[48]⟩\/t.d9=⟨#[49]⟩\/t.d9=⟨#[50]⟩\/t.d9=⟨#[51]⟩
def DigOk(l:List PT):Prop:=∀t,t∈l->Zm t
theorem DigOk.snoc{l t}(h:DigOk l)(b:Zm t):DigOk (l++[t]):=by
 intro u c;rcases iW.1 c with a|a
 .exact h u a
 .rw[iL.1 a];exact b
theorem XJ(l):Ej l≠2:=by
 unfold Ej;repeat' split
 all_goals decide
theorem DigOk.dT{s e x}(h:DigOk x.cV):DigOk (Dj s e x).cV:=by
 unfold Proofs.YtaningfhibkemaaGreatDoor.Dj;split
 .exact h.snoc (fun a=>jY a (XJ _))
 .exact h
theorem Uw{r}(h:BZ r=2):r=48\/r=49\/r=50\/r=51:=by
 unfold BZ at h;split at h
 .assumption
 .exfalso;revert h;repeat' split
  all_goals decide
theorem Rs{s p}(a:p<s.size)(h:BZ (Utf8.decode s p).1=2):s.extract p (p+1)=⟨#[48]⟩\/s.extract p (p+1)=⟨#[49]⟩\/s.extract p (p+1)=⟨#[50]⟩\/s.extract p (p+1)=⟨#[51]⟩:=by
 have c:=Uw h;have k:(s[p]'a).toNat<128:=by
  by_cases f:(s[p]'a).toNat<128
  .exact f
  .have:=(decode_high s p a (by omega)).1;omega
 rw[decode_ascii s p a k]at c;have g:s.extract p (p+1)=⟨#[s[p]'a]⟩:=by
  apply ByteArray.ext;rw[kB];have o:p<s.data.size:=a;apply Array.ext
  .simp;omega
  .intro i l d;have j:i=0:=by simp at d;omega
   subst j;simp;rfl
 have b:∀n:Nat,n<256->(s[p]'a).toNat=n->s[p]'a=UInt8.ofNat n:=by intro n m e;rw[<-e];simp
 rw[g];rcases c with q|q|q|q
 .exact .inl (by rw[b _ (by decide) q];rfl)
 .exact .inr (.inl (by rw[b _ (by decide) q];rfl))
 .exact .inr (.inr (.inl (by rw[b _ (by decide) q];rfl)))
 .exact .inr (.inr (.inr (by rw[b _ (by decide) q];rfl)))
theorem U8{s p x}(c:p<s.size)(h:DigOk x.cV):DigOk (AQ s p (Utf8.decode s p).1 x).1.cV:=by
 unfold AQ;split
 .exact h
 .split
  .exact h
  .split
   .split
    .exact h
    .exact h
   .have a:=h.dT (s:=s) (e:=p);unfold DR;split
    .exact a
    .split
     .exact a
     .split
      .exact a
      .exact a.snoc (fun b=>Rs c b)
theorem KN(s:ByteArray):∀(f p:Nat) (x y:Sc),DigOk x.cV->AF s f p x=.inr y->DigOk y.cV
 |0,_,x,y,h,e=>by have:=Sum.inr.inj e;subst this;exact h
 |f+1,p,x,y,h,e=>by
  unfold AF at e;split at e
  .rename_i a;split at e
   .exact KN s f _ _ y (U8 a h) e
   .cases e
  .have:=Sum.inr.inj e;subst this;exact h
theorem FO{s y}(h:AF s s.size 0 ⟨[],false,0,0⟩=.inr y):DigOk (Av s y):=
 (KN s _ _ _ _ (fun _ b=>jY b (by simp)) h).dT.snoc (fun a=>jY (show(0:Nat)=2 from a) (by decide))
structure PS where
 next:Nat
 cR:Bool
 dH:Nat
def BO:PT:=⟨0,ByteArray.empty,0⟩
def Aj(l:List PT)(i:Nat):PT:=l[i]?.getD BO
def It(a:List PT)(n:Nat)(x:PS):PS:=⟨n-1,true,if x.cR then x.dH else(Aj a x.next).l7⟩
def Af(a:List PT)(n k:Nat)(x:PS):PS:=if (Aj a x.next).kind=k then(if k=0 then x else⟨x.next+1,x.cR,x.dH⟩)else It a n x
def AH(a:List PT)(k:Nat)(x:PS):PT:=if (Aj a x.next).kind=k then Aj a x.next else BO
def AY(b g n a:Nat)(x:PS)(w:World):Prop:=W b #[Y (T ⟨g,0,Z⟩) n a,G A x.next,.bool x.cR,G A x.dH] 172 w
def AZ(g n b:Nat)(a:List PT)(w:World):Prop:=w.ownsRow 0 112 3 (Y (T ⟨g,0,Z⟩) n b) n (Db a)/\n=a.length/\n<=4001/\DigOk a
theorem Qw{l i}(h:i<l.length):(Db l)[i*3]? =T (G A (Aj l i).kind)/\(Db l)[i*3+1]? =T (.string (Aj l i).d9)/\(Db l)[i*3+2]? =T (G A (Aj l i).l7):=by
 induction l generalizing i with
 |nil=>simp at h
 |cons t l a=>
  cases i with
  |zero=>simp[Db,EQ,Aj]
  |succ i=>
   have:=a (i:=i) (by simpa using h);simp only[Db,List.flatMap_cons,Aj,gQ]at this⊢;have e:∀j,(EQ t++List.flatMap EQ l)[(i+1)*3+j]? =(List.flatMap EQ l)[i*3+j]? :=by intro j;rw[jS (by simp[EQ];omega)];congr 1;simp[EQ];omega
   exact⟨by rw[show(i+1)*3=(i+1)*3+0 from rfl,e];exact this.1,by rw[e];exact this.2.1,by rw[e];exact this.2.2⟩
theorem AZ.cells{g n c a w}(h:AZ g n c a w){i}(d:i<n):
 w.cell? ⟨g,i*3,Z⟩=T (G A (Aj a i).kind)/\w.cell? ⟨g,i*3+1,Z⟩=T (.string (Aj a i).d9)/\w.cell? ⟨g,i*3+2,Z⟩=T (G A (Aj a i).l7):=by
 have e:=h.2.1;have b:=Qw (l:=a) (i:=i) (by omega);exact⟨by rw[h.1.cellAt _ (by omega)];exact b.1,by rw[h.1.cellAt _ (by omega)];exact b.2.1,by rw[h.1.cellAt _ (by omega)];exact b.2.2⟩
theorem AZ.d8{g n a c}{X:Nat->Prop}{w d}(h:AZ g n a c w)(e:O X w d)(f:¬X g):AZ g n a c d:=
 ⟨Ac h.1 e (fun k b=>by simp[Value.ownBlock]at b;subst b;exact f),h.2⟩
theorem AZ.ne{g n a b j w}(h:AZ g n a j w){c t d}(f:w.heap[b]? =T (.cells c t d))(i:t≠112):g≠b:=fun e=>Am h.1 f i g rfl e
theorem AZ.lt{g n a b w}(h:AZ g n a b w):g<w.heap.size:=(h.1.lt g rfl).2
theorem A5(b g n f x d w)(a:AY b g n f x w)(c:AZ g n f d w)(h:x.next<n):
 Calls prog 113 #[.pointer (T ⟨b,0,Z⟩)] w fun e k=>e=.returned (G A (Aj d x.next).kind)/\O kJ w k:=by
 obtain⟨p,q,r⟩:=c.cells h;have l:=c.2.2.1;have i:=Ak a 0;have j:=Ak a 1;simp only[gR,gP,gQ]at i j;have o:=Ae a;have m:=c.lt;clear a c;generalize Aj d x.next=t at*;go_enter func113,ntmps113;go_wp2;go_region;go_wp2;go_ret;exact⟨rfl,(by repeat first|exact BI _ _|apply BG|apply BH|apply BE)⟩
theorem UE(b g n f x j w)(a:AY b g n f x w)(d:AZ g n f j w)(r:x.next<n):
 Calls prog 143 #[.pointer (T ⟨b,0,Z⟩)] w fun e q=>e=.returned (.tuple #[])/\AY b g n f (It j n x) q/\O (fun k=>k=b) w q:=by
 obtain⟨F,H,I⟩:=d.cells r;have z:=d.2.2.1;have s:=Ak a 0;have u:=Ak a 1;have h:=Ak a 2;have v:=Ak a 3;have y:=fun i=>Az a i
 simp only[gR,gP,gQ]at s u h v;have E:=Ae a;have C:=d.lt;have B:=d.ne a (by decide);have o:=J a;clear a d;have p:((n:Int)-1)=((n-1:Nat):Int):=by omega
 have m:=J p;clear p;unfold It;generalize Aj j x.next=t at*;cases c:x.cR with
 |true=> rw[c]at h;have l:=J c;clear c;go_enter func143,ntmps143;go_wp2;go_end0;refine⟨rfl,?_,(O.refl _ _).t9 1 _⟩;have:=W.set o.o 1 (G A ((n:Int)-1));rw[m.o]at this⊢;simpa[AY,l.o]using this
 |false=>
  rw[c]at h;have l:=J c;clear c;go_enter func143,ntmps143;go_wp2;go_region;go_wp2;go_end0;refine⟨rfl,?_,?_⟩
  .have:=W.d8 (((W.set (w:=w) o.o 2 (.bool true)).set 3 (G A t.l7)).set 1 (G A ((n:Int)-1))) ((O.refl kJ _).drew) id;rw[m.o]at this⊢;simpa[AY]using this
  .exact(((((O.refl (fun k=>k=b) w).drew).t9 2 _).t9 3 _).t9 1 _)
def WO(t:PT):Value:=.agg #[G A t.kind,.string t.d9,G A t.l7]
theorem AI(b g n o k:Nat)(x:PS)(a:List PT)(w:World)(f:AY b g n o x w)(l:AZ g n o a w)(y:x.next<n):
 Calls prog 114 #[.pointer (T ⟨b,0,Z⟩),G A k] w fun e B=>e=.returned (WO (AH a k x))/\AY b g n o (Af a n k x) B/\O (fun k=>k=b) w B:=by
 obtain⟨t0,t1,t2⟩:=l.cells y;have Q:=l.2.2.1;have K:=Ak f 0;have L:=Ak f 1;have N:=fun i=>Az f i
 simp only[gR,gP,gQ]at K L;have V:=Ae f;have U:=l.lt;have R:=l.ne f (by decide);have p:=J f;have F:=J l;clear f l;by_cases c:(Aj a x.next).kind=k
 .have m:AH a k x=Aj a x.next:=by simp[AH,c]
  rw[m];have I:(((Aj a x.next).kind:Int) !=(k:Int))=false:=by simp[c]
  by_cases h:k=0
  .have d:Af a n k x=x:=by simp[Af,c,h]
   rw[d];have H:((k:Int) !=0)=false:=by simp[h]
   clear m d c h;generalize Aj a x.next=t at*;go_enter func114,ntmps114;go_wp2;go_region;go_wp2;refine gZ (v:=WO t) (by simp[results,results114,go_sem,WO]) rfl ⟨rfl,?_,?_⟩
   .exact W.d8 (X:=kJ) p.o (by repeat first|exact BI _ _|apply BG|apply BH|apply BE) id
   .exact(by repeat first|exact BI _ _|apply BG|apply BH|apply BE)
  .have d:Af a n k x=⟨x.next+1,x.cR,x.dH⟩:=by simp[Af,c,h]
   rw[d];have H:((k:Int) !=0)=true:=by simp[h]
   clear m d c h;generalize Aj a x.next=t at*;go_enter func114,ntmps114;go_wp2;go_region;go_wp2;refine gZ (v:=WO t) (by simp[results,results114,go_sem,WO]) rfl ⟨rfl,?_,?_⟩
   .have:=W.d8 (X:=kJ) (W.set p.o 1 (G A ((x.next:Int)+1))) ((((O.refl _ _).alloc (.cells #[G A t.kind,.string t.d9,G A t.l7] 112)).alloc (.cells #[G A t.kind,.string t.d9,G A t.l7] 112)).drew) id;simpa[AY]using this
   .exact(((((O.refl (fun k=>k=b) w).t9 1 _).alloc _).alloc _).drew)
 .have m:AH a k x=BO:=by simp[AH,c]
  have d:Af a n k x=It a n x:=by simp[Af,c]
  rw[m,d];have I:(((Aj a x.next).kind:Int) !=(k:Int))=true:=by simp;omega
  clear m d c;generalize Aj a x.next=t at*;go_enter func114,ntmps114;go_wp2;go_region;go_wp2_with fail;refine(UE b g n o x a _ ?_ ?_ y).mono ?_
  .exact W.d8 (X:=kJ) p.o (by repeat first|exact BI _ _|apply BG|apply BH|apply BE) id
  .exact F.o.d8 (X:=kJ) (by repeat first|exact BI _ _|apply BG|apply BH|apply BE) id
  rintro e M ⟨rfl,z,q⟩;have j:M.heap[w.heap.size]? =T (.cells #[G A 0,.string {data:=#[]},G A 0] 112 (0,0)):=by rw[q.block w.heap.size (by simp;omega) (by omega)];exact(iC _ _ _ (by simp)).trans (heap_alloc_new w _)
  have r:=Ak j 0;have s:=Ak j 1;have u:=Ak j 2;have P:=fun i=>Az j i
  simp only[gR,gP,gQ]at r s u;have S:=Ae j;have E:=J z;have C:=(((O.refl (fun k=>k=b) w).alloc _).alloc _).drew.trans q;clear z q j;go_wp2;refine gZ (v:=WO BO) (by simp[results,results114,go_sem,WO,BO,r,s,u];rfl) rfl ⟨rfl,?_,?_⟩
  .exact W.d8 (X:=fun k=>k=w.heap.size) E.o (by repeat(first|exact O.refl _ _|refine O.drew ?_|refine O.alloc ?_ _|refine O.t9 ?_ _ _)) (by omega)
  .repeat(first|exact C|refine O.drew ?_|refine O.alloc ?_ _|refine O.cO ?_ _ _ (gS _))
def Ki(t:PT):Value:=.agg #[.string t.d9,G A t.l7]
def FJ(t:PT):List Value:=[.string t.d9,G A t.l7]
def BS(l:List PT):List Value:=l.flatMap FJ
theorem M4(l t):BS (l++[t])=BS l++FJ t:=by simp[BS]
theorem CG(b g n d x a w)(h:AY b g n d x w)(q:AZ g n d a w)(C:x.next<n):
 Calls prog 140 #[.pointer (T ⟨b,0,Z⟩)] w fun e r=>e=.returned (Ki (AH a 1 x))/\AY b g n d (Af a n 1 x) r/\O (fun k=>k=b) w r:=by
 have I:=Ae h;obtain⟨t,j⟩:∃t,AH a 1 x=t:=⟨_,rfl⟩;obtain⟨y,l⟩:∃y,Af a n 1 x=y:=⟨_,rfl⟩;rw[j,l];have z:=J j;have B:=J l;clear j l;go_enter func140,ntmps140;go_wp2_with fail;refine(AI b g n d 1 x a _ (W.alloc h _) (q.d8 ((O.refl kJ _).alloc _) id) C).mono ?_;rw[z.o,B.o];rintro e F ⟨rfl,p,f⟩;have c:F.heap[w.heap.size]? =T (.cells #[.string {data:=#[]},G A 0] 126 (0,0)):=by rw[f.block w.heap.size (by simp) (by omega)];exact heap_alloc_new w _
 have m:=Ak c 0;have o:=Ak c 1;have H:=fun i=>Az c i
 simp only[gR,gP,gQ]at m o;have E:=Ae c;have u:=J p;have s:=((O.refl (fun k=>k=b) w).alloc _).trans f;clear p f c h q;unfold WO;go_wp2;refine gZ (v:=Ki t) (by simp[results,results140,go_sem,Ki,m,o,E]) rfl ⟨rfl,?_,?_⟩
 .exact W.d8 (X:=fun k=>k=w.heap.size) u.o (by repeat(first|exact O.refl _ _|refine O.drew ?_|refine O.alloc ?_ _|refine O.t9 ?_ _ _)) (by omega)
 .repeat(first|exact s|refine O.drew ?_|refine O.alloc ?_ _|refine O.cO ?_ _ _ (gS _))
def DO(b:List PT):Nat->PS->List PT->List PT×PS
 |0,x,a=>(a,x)
 |f+1,x,a=>if (Aj b x.next).kind=1 then DO b f ⟨x.next+1,x.cR,x.dH⟩ (a++[Aj b x.next])else(a,x)
theorem Hx{b f x a}(h:¬(Aj b x.next).kind=1):DO b f x a=(a,x):=by
 cases f with
 |zero=>rfl
 |succ f=>simp only[DO,jQ h]
theorem Tm{a f n x acc}(g:n-1-x.next<=f)(d:x.next<n)(c:(Aj a (n-1)).kind=0)(h:(Aj a x.next).kind=1):
 x.next+1<n/\∃b,n-1-(x.next+1)<=b/\DO a f x acc=DO a b ⟨x.next+1,x.cR,x.dH⟩ (acc++[Aj a x.next]):=by
 have i:x.next≠n-1:=by intro e;rw[e,c]at h;omega
 refine⟨by omega,?_⟩;cases f with
 |zero=>omega
 |succ f=>exact⟨f,by omega,by simp only[DO];rw[jR h]⟩
theorem AV{a n k x}(c:(Aj a (n-1)).kind=0)(b:x.next<n):(Af a n k x).next<n:=by
 unfold Af;split
 .rename_i h;split
  .exact b
  .rename_i d;have f:x.next≠n-1:=by intro e;rw[e,c]at h;omega
   show x.next+1<n;omega
 .show n-1<n;omega
theorem Tn{c:List PT}{n:Nat}(b:(Aj c (n-1)).kind=0):∀(f:Nat) (x:PS) (a:List PT),x.next<n->(DO c f x a).2.next<n
 |0,x,a,h=>h
 |f+1,x,a,h=>by
  simp only[DO];split
  .rename_i d;have g:x.next≠n-1:=by intro e;rw[e,b]at d;omega
   exact Tn b f _ _ (by show x.next+1<n;omega)
  .exact h
def Bt(a:List PT)(n:Nat)(x:PS):List PT×PS:=
 ((DO a a.length (Af a n 10 x) []).1,Af a n 11 (DO a a.length (Af a n 10 x) []).2)
theorem Uz{b n x}(a:(Aj b (n-1)).kind=0)(c:x.next<n):(Bt b n x).2.next<n:=
 AV a (Tn a _ _ _ (AV a c))
def Ml(b:Nat)(w:World):Nat:=match w.cell? ⟨b,1,Z⟩with|some v=>(intOf v).toNat|none=>0
theorem E8{b g n a x w}(h:AY b g n a x w):Ml b w=x.next:=by have:=Ak h 1;simp only[gR,gP,gQ]at this;simp[Ml,this,intOf]
theorem Tryz.infoNm:(Tryz.prog.info? 126).map (fun i=>(i.zero,i.size,i.bytes))=T (T (.agg #[.string ByteArray.empty,G A 0]),2,24):=by kernel_rfl
theorem Kh(b g n d x a w)(i:AY b g n d x w)(c:AZ g n d a w)(hc:x.next<n)(S:(Aj a (n-1)).kind=0):
 Calls prog 141 #[.pointer (T ⟨b,0,Z⟩)] w fun e U=>∃v,e=.returned v/\U.ownsRow w.heap.size 126 2 v (Bt a n x).1.length (BS (Bt a n x).1)/\AY b g n d (Bt a n x).2 U/\O (fun k=>k=b) w U:=by
 obtain⟨i0,hi,b7,b8,b9⟩:=info_parts Tryz.infoNm;have hn:=c.2.2.1;have a4:=c.2.1;have a3:=c.ne i (by decide);have lr:=Ae i;have lg:=c.lt;have R:=AV (k:=10) S hc;unfold Bt;generalize hV:DO a a.length (Af a n 10 x) []=V;have Q:D (DO a a.length (Af a n 10 x) []=V):=hV;obtain⟨HZ,P,a8,HR⟩:=Ba S c a4 i;clear hV S c a4 i;go_enter func141,ntmps141;go_wp2_with fail;refine(AI b g n d 10 x a _ HR.o P.o hc).mono ?_;rintro e u ⟨rfl,p,l⟩;generalize Af a n 10 x=x1 at p Q R;have F:=J p;have H:=J (P.o.d8 l a3);clear p HR P;go_wp2_with fail;go_loopw[3] (fun v wr=>∃(y:PS) (f:Nat) (o:List PT),y.next<n/\o.length<=y.next/\D (AY b g n d y wr)/\D (AZ g n d a wr)/\wr.ownsRow w.heap.size 126 2 v o.length (BS o)/\O (fun k=>k=b) w wr/\n-1-y.next<=f/\D (DO a f y o=V)) (fun _ wr=>n-Ml b wr)
 case atStart=>exact⟨x1,a.length,[],R,by simp,F,H,iB _ _ _ _,l,by have:=a8.o;omega,Q⟩
 case round=>
  obtain⟨y,f,o,z,c0,i,c,L,I,hf,E⟩:=hrel;clear Q F H l R;have a7:=J (E8 i.o);by_cases r:(Aj a y.next).kind=1
  .have a9:(((Aj a y.next).kind:Int)==1)=true:=by simp[r]
   obtain⟨b3,f',b1,a1⟩:=Tm (acc:=o) hf z HZ.o r;have HF:D (DO a f' ⟨y.next+1,y.cR,y.dH⟩ (o++[Aj a y.next])=V):=by rw[<-a1];exact E.o
   have X:D (AH a 1 y=Aj a y.next/\Af a n 1 y=⟨y.next+1,y.cR,y.dH⟩):=⟨by simp[AH,r],by simp[Af,r]⟩;clear E a1 r;go_wp2_with fail;refine(A5 b g n d y a _ i.o c.o z).mono ?_;rintro e wk ⟨rfl,m⟩;have N:=i.o.d8 m id;have B:=c.o.d8 m id;have t:=Ac L m (fun _ _ q=>q);have K:=I.dM m;clear i c L I m;go_wp2_with fail;refine(CG b g n d y a _ N B z).mono ?_;rw[X.o.1,X.o.2];rintro e u ⟨rfl,p,l⟩;have M:=Ac t l (fun j s=>by have:=(t.lt j s).1;omega);have a5:=K.trans l;have F:=J p;have H:=J (B.d8 l a3);have c2:=a5.size;have c3:b<u.heap.size:=Ae p;clear p l N B t K;unfold Ki;go_wp2_with(at_builtin;refine jA _ rfl _ _ 127 rfl w.heap.size 126 i0 (.agg #[.string ByteArray.empty,G A 0]) 2 24 underlying127 hi b7 b8 b9 rfl (by decide) _ _ _ rfl (M.alloc _) ⟨u.heap.size,0,Z⟩ 1 1 [.string (Aj a y.next).d9,G A ((Aj a y.next).l7:Int)] rfl rfl (AD rfl _ _) (fun x hx=>by simp at hx;rcases hx with rfl|rfl<;>rfl) (by unfold maxLen;omega) (by omega) (by simp;omega) ?_;intro v' C b6 b2 c1);have a2:(u.alloc (.cells #[.string (Aj a y.next).d9,G A ((Aj a y.next).l7:Int)] 126)).grownBy C u3.ownBlock:=b2;have a6:O (fun k=>u3.ownBlock=T k) u C:=O.grown ((O.refl _ _).alloc _) a2 (fun j s=>.inl s);have b5:O (fun k=>k=b) w C:=O.grown (a5.alloc _) a2 (fun j s=>.inr (M.lt j s).1);have a0:AY b g n d ⟨y.next+1,y.cR,y.dH⟩ C:=W.d8 F.o a6 (fun h=>by have:=(M.lt _ h).1;omega);have b0:AZ g n d a C:=H.o.d8 a6 (fun h=>by have:=(M.lt _ h).1;omega);have b4:=E8 a0;refine⟨⟨⟨y.next+1,y.cR,y.dH⟩,f',o++[Aj a y.next],b3,by simp;omega,a0,b0,?_,b5,b1,HF⟩,?_⟩
   .rw[M4,gW];exact b6
   .rw[b4,a7.o];simp only;omega
  .have a9:(((Aj a y.next).kind:Int)==1)=false:=by simp;omega
   have hv:V=(o,y):=by rw[<-E.o,Hx r]
   subst hv;clear E r;go_wp2_with fail;refine(A5 b g n d y a _ i.o c.o z).mono ?_;rintro e wk ⟨rfl,m⟩;have N:=i.o.d8 m id;have B:=c.o.d8 m id;have t:=Ac L m (fun _ _ q=>q);have K:=I.dM m;clear i c L I m;go_wp2_with fail;refine(AI b g n d 11 y a _ N B z).mono ?_;rintro e u ⟨rfl,p,l⟩;go_wp2_with fail;go_ret;refine⟨_,rfl,?_,p,K.trans l⟩;exact Ac t l (fun j s=>by have:=(t.lt j s).1;omega)

/- Part of the proof: Mem ScA ScB ScC ScD ScE ScF ScG ScH ScI ScJ. -/
import Derived.Test.YtaningfhibkemaaGreatDoorG00
import Derived.Below
import Derived.Laws.RangeAny
import Derived.Laws.Strings
import Derived.Test.YtaningfhibkemaaGreatDoorProg
import Derived.WalkKit
import Derived.WalkSpells
import Derived.WalkLawsBesides
import Derived.RegionTactic
import Derived.ChangeAlike
import Derived.BigRegion
import Derived.Deep.QuietTactic
import Derived.BigQuiet
import Derived.Deep.RegionLaw
import Derived.Deep.DeepCutAuto
import Derived.Lib.OthersKept
set_option maxRecDepth 100000
set_option maxHeartbeats 1000000
namespace Go.Proofs.YtaningfhibkemaaGreatDoor
open Go.Proofs.Tryz Go.RowKit
structure PT where
 kind:Nat
 d9:ByteArray
 l7:Nat
structure Sc where
 cL:List PT
 rem:Bool
 start:Nat
 cD:Nat
def Ec(l:List UInt8):Nat:=
 if l=[102,110]then 3 else if l=[118,97,114]then 4 else if l=[110,101,119]then 5 else if l=[114,101,116,117,114,110]then 6 else if l=[105,102]then 7 else if l=[101,108,115,101]then 8 else if l=[119,104,105,108,101]then 9 else 1
def BN(r:Nat):Nat:=
 if r=48\/r=49\/r=50\/r=51 then 2 else if r=40 then 10 else if r=41 then 11 else if r=123 then 12 else if r=125 then 13 else if r=59 then 14 else if r=61 then 15 else if r=38 then 16 else if r=42 then 17 else if r=64 then 18 else if r=46 then 19 else if r=63 then 20 else 0
def J7(r:Nat):Bool:=(decide (97<=r) && decide (r<=122))||(decide (224<=r) && decide (r<=255) && (r !=247))
def Di(s:ByteArray)(p r:Nat):Bool:=r==65533 && !(decide (p+3<=s.size) && (s.extract p (p+3)).toList==[239,191,189])
def Dc(s:ByteArray)(e:Nat)(x:Sc):Sc:=
 if 0<x.cD then⟨x.cL++[⟨Ec (s.extract x.start e).toList,s.extract x.start e,x.start⟩],x.rem,x.start,0⟩else⟨x.cL,x.rem,x.start,0⟩
def Cr(p:Nat)(x:Sc):Sc:=⟨x.cL,x.rem,if x.cD=0 then p else x.start,x.cD+1⟩
def DK(s:ByteArray)(p r:Nat)(x:Sc):Sc×Nat×Bool:=
 if r=32\/r=9\/r=10 then(x,0,true)
 else if r=35 then(⟨x.cL,true,x.start,x.cD⟩,0,true)
 else if BN r=0 then(x,p,false)
 else(⟨x.cL++[⟨BN r,s.extract p (p+1),p⟩],x.rem,x.start,x.cD⟩,0,true)
def AP(s:ByteArray)(p r:Nat)(x:Sc):Sc×Nat×Bool:=
 if Di s p r then(x,p,false)
 else if x.rem then(⟨x.cL,r !=10,x.start,x.cD⟩,0,true)
 else if J7 r then(if 8<x.cD+1 then(Cr p x,(Cr p x).start,false)else(Cr p x,0,true))
 else DK s p r (Dc s p x)
def AE(s:ByteArray):Nat->Nat->Sc->Nat ⊕ Sc
 |0,_,x=>.inr x
 |f+1,p,x=>if p<s.size then
   (if (AP s p (Utf8.decode s p).1 x).2.2 then AE s f (p+(Utf8.decode s p).2) (AP s p (Utf8.decode s p).1 x).1
    else .inl (AP s p (Utf8.decode s p).1 x).2.1)
  else .inr x
def Av(s:ByteArray)(x:Sc):List PT:=(Dc s s.size x).cL++[⟨0,s.extract s.size s.size,s.size⟩]
theorem DV{s f p x}(h:¬p<s.size):AE s f p x=.inr x:=by
 cases f with
 |zero=>rfl
 |succ f=>simp only[AE,jG h]
theorem Ez{s f p x}(b:s.size-p<=f)(h:p<s.size)(a:(AP s p (Utf8.decode s p).1 x).2.2=false):AE s f p x=.inl (AP s p (Utf8.decode s p).1 x).2.1:=by
 cases f with
 |zero=>omega
 |succ f=>simp[AE,jH h,a]
theorem Gn(s p)(h:p<s.size):1<=(Utf8.decode s p).2:=by
 by_cases a:(s[p]'h).toNat<128
 .rw[decode_ascii s p h a];exact gI _
 .exact(decode_high s p h Z).2
theorem Dz{s f p x}(d:s.size-p<=f)(h:p<s.size)(b:(AP s p (Utf8.decode s p).1 x).2.2=true):
 ∃a,s.size-(p+(Utf8.decode s p).2)<=a/\AE s f p x=AE s a (p+(Utf8.decode s p).2) (AP s p (Utf8.decode s p).1 x).1:=by
 have c:=Gn s p h;cases f with
 |zero=>omega
 |succ f=>exact⟨f,Z,by simp[AE,jH h,b]⟩
structure KI(p:Nat)(x:Sc):Prop where
 start:x.start<=p
 cD:x.cD<=8
 many:x.cL.length+x.cD<=p
theorem KI.more{p q x}(h:KI p x)(a:p<=q):KI q x:=⟨gW h.start a,h.cD,gW h.many a⟩
theorem KI.dH{s p x}(h:KI p x):KI p (Dc s p x):=by
 have a:=h.start;have b:=h.many;unfold Proofs.YtaningfhibkemaaGreatDoor.Dc;split
 .exact⟨a,jY,jX⟩
 .exact⟨a,jY,jX⟩
theorem D9(s p x):(Dc s p x).cD=0:=by unfold Dc;split<;>rfl
theorem VO(s p x):(Dc s p x).rem=x.rem:=by unfold Dc;split<;>rfl
theorem Xi{s p r x}(h:KI p x)(a:(AP s p r x).2.2=true):KI (p+1) (AP s p r x).1:=by
 have k:=h.start;have l:=h.many;have m:=h.cD;unfold AP at a⊢;split
 .rename_i c;simp[c]at a
 .rename_i c;simp only[c]at a;split
  .exact⟨jX,jX,jX⟩
  .rename_i g;simp only[g]at a;split
   .rename_i f;simp only[f,if_true]at a;split
    .rename_i e;simp[e]at a
    .exact⟨by simp only[Cr];split<;>omega,by simp only[Cr];omega,by simp only[Cr];omega⟩
   .have b:=h.dH (s:=s);have i:=b.start;have j:=b.many;have d:=D9 s p x;unfold DK;split
    .exact b.more Z
    .split
     .exact⟨jX,by simp[d],jX⟩
     .split
      .exact b.more Z
      .exact⟨jX,by simp[d],jX⟩
theorem Lo(s p r)(h:r<65533):Di s p r=false:=by have:(r==65533)=false:=jX;simp[Di,this]
theorem Ep{a b}(h:a=b):Ending.returned (.bool a)=.returned (.bool b):=by rw[h]
theorem Xa{k a b}(h:a=b):Ending.returned (.int k a)=.returned (.int k b):=by rw[h]
theorem Jk(r:Nat)(w:World):
 Calls prog 108 #[.int .i32 r] w fun e b=>e=.returned (.bool (J7 r))/\b=w:=by
 by_cases h:(r:Int)=247
 .have a:r=247:=Z;subst a;go_enter func108,ntmps108;go_wp2;go_ret;exact⟨rfl,rfl⟩
 .have a:(((r:Nat):Int)==247)=false:=by simpa using h
  go_enter func108,ntmps108;go_wp2;all_goals
   go_ret;exact⟨Ep (by rw[Bool.eq_iff_iff];simp[J7];omega),rfl⟩
theorem Ry{r}(a:r≠48)(h:r≠49)(i:r≠50)(j:r≠51)(k:r≠40)(l:r≠41)(m:r≠123)(n:r≠125)(o:r≠59)(b:r≠61)(c:r≠38)(d:r≠42)(e:r≠64)(f:r≠46)(g:r≠63):BN r=0:=by simp[BN, *]
theorem Js(r:Nat)(w:World):
 Calls prog 139 #[.int .i32 r] w fun e d=>e=.returned (.tuple #[.int .i64 (BN r),.bool (BN r !=0)])/\d=w:=by
 generalize b:BN r=m;have c:D (BN r=m):=b;clear b;go_enter func139,ntmps139;go_wp2;all_goals
  go_ret2;refine⟨?_,rfl⟩;have b:=c.o;simp only[beq_iff_eq,jA,ne_eq]at*;first
   |(have a:r=48:=by omega
     subst a;subst b;rfl)
   |(have a:r=49:=by omega
     subst a;subst b;rfl)
   |(have a:r=50:=by omega
     subst a;subst b;rfl)
   |(have a:r=51:=by omega
     subst a;subst b;rfl)
   |(have a:r=40:=by omega
     subst a;subst b;rfl)
   |(have a:r=41:=by omega
     subst a;subst b;rfl)
   |(have a:r=123:=by omega
     subst a;subst b;rfl)
   |(have a:r=125:=by omega
     subst a;subst b;rfl)
   |(have a:r=59:=by omega
     subst a;subst b;rfl)
   |(have a:r=61:=by omega
     subst a;subst b;rfl)
   |(have a:r=38:=by omega
     subst a;subst b;rfl)
   |(have a:r=42:=by omega
     subst a;subst b;rfl)
   |(have a:r=64:=by omega
     subst a;subst b;rfl)
   |(have a:r=46:=by omega
     subst a;subst b;rfl)
   |(have a:r=63:=by omega
     subst a;subst b;rfl)
   |(have e:m=0:=by rw[<-b];exact Ry Z Z Z Z Z Z Z Z Z Z Z Z Z Z Z
     subst e;rfl)
theorem OF(s w):
 Calls prog 111 #[.string s] w fun e a=>e=.returned (.int .i64 (Ec s.toList))/\a=w:=by
 go_enter func111,ntmps111;go_wp2;all_goals
  go_ret;refine⟨Xa ?_,rfl⟩;first
   |(simp[Ec, *];done)
   |(simp_all [Ec];done)
structure O(X:Nat->Prop)(w w':World):Prop where
 os:w'.os=w.os
 tape:w'.tape=w.tape
 output:w'.output=w.output
 size:w.heap.size<=w'.heap.size
 block:∀k,k<w.heap.size->¬X k->w'.heap[k]? =w.heap[k]?
theorem O.refl(X:Nat->Prop)(w):O X w w:=⟨rfl,rfl,rfl,gI _,fun _ _ _=>rfl⟩
theorem O.trans{X:Nat->Prop}{a b c:World}(h:O X a b)(k:O X b c):O X a c:=
 ⟨k.os.trans h.os,k.tape.trans h.tape,k.output.trans h.output,gW h.size k.size,fun i d e=>(k.block i (gY d h.size) e).trans (h.block i d e)⟩
theorem O.mono{X Y:Nat->Prop}{a b}(h:O X a b)(d:∀k,k<a.heap.size->X k->Y k):O Y a b:=
 ⟨h.os,h.tape,h.output,h.size,fun k c e=>h.block k c (fun q=>e (d k c q))⟩
theorem O.drew{X:Nat->Prop}{a w}(h:O X a w):O X a w.drew:=⟨h.os,h.tape,h.output,h.size,h.block⟩
theorem O.drewN{X:Nat->Prop}{a w}(h:O X a w)(n):O X a (w.drewN n):=h.trans ⟨rfl,rfl,rfl,gI _,fun _ _ _=>rfl⟩
theorem O.alloc{X:Nat->Prop}{a w}(h:O X a w)(o):O X a (w.alloc o):=
 h.trans ⟨rfl,rfl,rfl,jY,fun k b _=>gS _ _ _ b⟩
theorem O.setCell{X:Nat->Prop}{a w}(h:O X a w){p}(b:X p.block\/a.heap.size<=p.block)(u):O X a (w.setCell p u):=by
 refine⟨h.os,h.tape,h.output,by have:=h.size;simpa[World.setCell]using this,fun k d c=>?_⟩;rw[Below.heap_setCell _ _ _ _ ?_]
 .exact h.block k d c
 .intro e;subst e;rcases b with b|b
  .exact c b
  .omega
theorem O.t9{b a w}(h:O (fun k=>k=b) a w)(i u):O (fun k=>k=b) a (w.setCell ⟨b,i,none⟩ u):=h.setCell (.inl rfl) u
theorem O.cE{X:Nat->Prop}{b a w}(h:O X a w)(i u)(c:a.heap.size<=b):O X a (w.setCell ⟨b,i,none⟩ u):=h.setCell (.inr c) u
theorem O.below{X:Nat->Prop}{a b}(h:O X a b)(d:∀k,X k->a.heap.size<=k):Below a.heap.size a b:=
 ⟨h.os,h.tape,h.output,h.size,fun k c=>h.block k c (fun q=>by have:=d k q;omega)⟩
theorem O.cX{X:Nat->Prop}{B a b}(h:O X a b)(d:B<=a.heap.size)(c:∀k,X k->B<=k):Below B a b:=
 ⟨h.os,h.tape,h.output,h.size,fun k e=>h.block k Z (fun q=>by have:=c k q;omega)⟩
theorem O.grown{X:Nat->Prop}{a w g f}(h:O X a w)(b:w.grownBy g f)(i:∀k,f=some k->X k\/a.heap.size<=k):O X a g:=by
 refine⟨b.os.trans h.os,b.tape.trans h.tape,b.output.trans h.output,gW h.size b.size,fun k c d=>?_⟩;rw[b.block k (gY c h.size) ?_]
 .exact h.block k c d
 .intro e;rcases i k e.symm with q|q
  .exact d q
  .omega
theorem Ak{w:World}{b:Nat}{a:Array Value}{t:TypeId}{c:Nat×Nat}(h:w.heap[b]? =some (.cells a t c))(i:Nat):w.cell? ⟨b,i,none⟩=a[i]? :=by simp[World.cell?,h]
theorem Ay{w:World}{b:Nat}{a:Array Value}{t:TypeId}(h:w.heap[b]? =some (.cells a t (0,0)))(i:Nat):w.frozen? ⟨b,i,none⟩=false:=by simp[World.frozen?,h]
theorem Ae{w:World}{b:Nat}{o:Obj}(h:w.heap[b]? =some o):b<w.heap.size:=(Array.getElem?_eq_some_iff.1 h).1
theorem FC{w:World}{b:Nat}{a:Array Value}{t:TypeId}{c:Nat×Nat}(h:w.heap[b]? =some (.cells a t c))(i:Nat)(u:Value):(w.setCell ⟨b,i,none⟩ u).heap[b]? =some (.cells (a.setIfInBounds i u) t c):=by simp[World.setCell,Array.getElem?_modify,h]
theorem Ac{w d B e c v n f}{X:Nat->Prop}(h:w.ownsRow B e c v n f)(o:O X w d)(p:∀k,v.ownBlock=some k->¬X k):d.ownsRow B e c v n f:=by
 refine⟨h.1,?_⟩;rcases h.2 with l|⟨g,i,j,b,m,a,r⟩
 .exact .inl l
 .refine .inr ⟨g,i,j,b,m,?_,r⟩;rw[o.block g (Ae a) (p g (by rw[b];rfl))];exact a
def W(b:Nat)(a:Array Value)(t:TypeId)(w:World):Prop:=w.heap[b]? =some (.cells a t (0,0))
theorem W.d8{b a t}{X:Nat->Prop}{w c}(h:W b a t w)(d:O X w c)(e:¬X b):W b a t c:=by unfold W at h⊢;rw[d.block b (Ae h) e];exact h
theorem W.set{b a t w}(h:W b a t w)(i u):W b (a.setIfInBounds i u) t (w.setCell ⟨b,i,none⟩ u):=FC h i u
theorem W.cQ{b c a t w}(h:W b a t w)(i u)(d:b≠c):W b a t (w.setCell ⟨c,i,none⟩ u):=by unfold W at h⊢;rw[Below.heap_setCell _ _ _ _ d];exact h
theorem W.alloc{b a t w}(h:W b a t w)(o):W b a t (w.alloc o):=by have:=Ae h;unfold W at h⊢;rw[gS _ _ _ this];exact h
theorem W.new(w:World)(a:Array Value)(t:TypeId):W w.heap.size a t (w.alloc (.cells a t)):=heap_alloc_new w _
theorem W.cell{b a t w}(h:W b a t w)(i):w.cell? ⟨b,i,none⟩=a[i]? :=Ak h i
theorem W.e2{b a t w}(h:W b a t w)(c d):w.cell? ⟨b,c,none⟩=a[c]? /\w.cell? ⟨b,d,none⟩=a[d]? :=⟨h.cell _,h.cell _⟩
theorem W.e3{b a t w}(h:W b a t w)(c d e):w.cell? ⟨b,c,none⟩=a[c]? /\w.cell? ⟨b,d,none⟩=a[d]? /\w.cell? ⟨b,e,none⟩=a[e]? :=⟨h.cell _,h.cell _,h.cell _⟩
theorem W.e4{b a t w}(h:W b a t w)(c d e f):w.cell? ⟨b,c,none⟩=a[c]? /\w.cell? ⟨b,d,none⟩=a[d]? /\w.cell? ⟨b,e,none⟩=a[e]? /\w.cell? ⟨b,f,none⟩=a[f]? :=⟨h.cell _,h.cell _,h.cell _,h.cell _⟩
theorem W.e5{b a t w}(h:W b a t w)(c d e f g):w.cell? ⟨b,c,none⟩=a[c]? /\w.cell? ⟨b,d,none⟩=a[d]? /\w.cell? ⟨b,e,none⟩=a[e]? /\w.cell? ⟨b,f,none⟩=a[f]? /\w.cell? ⟨b,g,none⟩=a[g]? :=⟨h.cell _,h.cell _,h.cell _,h.cell _,h.cell _⟩
theorem W.e6{b a t w}(h:W b a t w)(c d e f g i):w.cell? ⟨b,c,none⟩=a[c]? /\w.cell? ⟨b,d,none⟩=a[d]? /\w.cell? ⟨b,e,none⟩=a[e]? /\w.cell? ⟨b,f,none⟩=a[f]? /\w.cell? ⟨b,g,none⟩=a[g]? /\w.cell? ⟨b,i,none⟩=a[i]? :=⟨h.cell _,h.cell _,h.cell _,h.cell _,h.cell _,h.cell _⟩
theorem W.e7{b a t w}(h:W b a t w)(c d e f g i j):w.cell? ⟨b,c,none⟩=a[c]? /\w.cell? ⟨b,d,none⟩=a[d]? /\w.cell? ⟨b,e,none⟩=a[e]? /\w.cell? ⟨b,f,none⟩=a[f]? /\w.cell? ⟨b,g,none⟩=a[g]? /\w.cell? ⟨b,i,none⟩=a[i]? /\w.cell? ⟨b,j,none⟩=a[j]? :=⟨h.cell _,h.cell _,h.cell _,h.cell _,h.cell _,h.cell _,h.cell _⟩
theorem W.e8{b a t w}(h:W b a t w)(c d e f g i j k):w.cell? ⟨b,c,none⟩=a[c]? /\w.cell? ⟨b,d,none⟩=a[d]? /\w.cell? ⟨b,e,none⟩=a[e]? /\w.cell? ⟨b,f,none⟩=a[f]? /\w.cell? ⟨b,g,none⟩=a[g]? /\w.cell? ⟨b,i,none⟩=a[i]? /\w.cell? ⟨b,j,none⟩=a[j]? /\w.cell? ⟨b,k,none⟩=a[k]? :=⟨h.cell _,h.cell _,h.cell _,h.cell _,h.cell _,h.cell _,h.cell _,h.cell _⟩
theorem W.e9{b a t w}(h:W b a t w)(c d e f g i j k l):w.cell? ⟨b,c,none⟩=a[c]? /\w.cell? ⟨b,d,none⟩=a[d]? /\w.cell? ⟨b,e,none⟩=a[e]? /\w.cell? ⟨b,f,none⟩=a[f]? /\w.cell? ⟨b,g,none⟩=a[g]? /\w.cell? ⟨b,i,none⟩=a[i]? /\w.cell? ⟨b,j,none⟩=a[j]? /\w.cell? ⟨b,k,none⟩=a[k]? /\w.cell? ⟨b,l,none⟩=a[l]? :=⟨h.cell _,h.cell _,h.cell _,h.cell _,h.cell _,h.cell _,h.cell _,h.cell _,h.cell _⟩
theorem W.e15{b a t w}(h:W b a t w)(c d k l m n o p q r e f g i j):w.cell? ⟨b,c,none⟩=a[c]? /\w.cell? ⟨b,d,none⟩=a[d]? /\w.cell? ⟨b,k,none⟩=a[k]? /\w.cell? ⟨b,l,none⟩=a[l]? /\w.cell? ⟨b,m,none⟩=a[m]? /\w.cell? ⟨b,n,none⟩=a[n]? /\w.cell? ⟨b,o,none⟩=a[o]? /\w.cell? ⟨b,p,none⟩=a[p]? /\w.cell? ⟨b,q,none⟩=a[q]? /\w.cell? ⟨b,r,none⟩=a[r]? /\w.cell? ⟨b,e,none⟩=a[e]? /\w.cell? ⟨b,f,none⟩=a[f]? /\w.cell? ⟨b,g,none⟩=a[g]? /\w.cell? ⟨b,i,none⟩=a[i]? /\w.cell? ⟨b,j,none⟩=a[j]? :=⟨h.cell _,h.cell _,h.cell _,h.cell _,h.cell _,h.cell _,h.cell _,h.cell _,h.cell _,h.cell _,h.cell _,h.cell _,h.cell _,h.cell _,h.cell _⟩
theorem W.frozen{b a t w}(h:W b a t w)(i):w.frozen? ⟨b,i,none⟩=false:=Ay h i
theorem W.ne{a b:Nat}{c d:Array Value}{t u:TypeId}{w:World}(h:W a c t w)(k:W b d u w)(e:t≠u):a≠b:=by rintro rfl;unfold W at h k;rw[h]at k;simp only[gN,gU]at k;exact e k.2.1
theorem Ad{w:World}{B:Nat}{e:TypeId}{f:Nat}{v:Value}{n:Nat}{i:List Value}(h:w.ownsRow B e f v n i):∃a l c,v=.slice a l c:=by
 rcases h.2 with⟨b,_⟩|⟨g,j,k,d,_⟩
 .exact⟨_,_,_,b⟩
 .exact⟨_,_,_,d⟩
theorem Aq{w:World}{B B':Nat}{e:TypeId}{a:Nat}{v:Value}{n:Nat}{b:List Value}(h:w.ownsRow B e a v n b)(i:B'<=B):w.ownsRow B' e a v n b:=by
 refine⟨h.1,?_⟩;rcases h.2 with f|⟨g,c,d,k,j,r⟩
 .exact .inl f
 .exact .inr ⟨g,c,d,k,gW i j,r⟩
theorem J{p}(h:p):D p:=h
theorem O.tr{b c a w d}(h:O (fun k=>k=b\/k=c) a w)(k:O (fun k=>k=b) w d):O (fun k=>k=b\/k=c) a d:=h.trans (k.mono (fun _ _ q=>.inl q))
theorem O.dA{X:Nat->Prop}{a w b}(h:O X a w)(k:O kD w b):O X a b:=h.trans (k.mono (fun _ _ q=>q.elim))
theorem Ai{w c B e b v n d}{X:Nat->Prop}(h:w.ownsRow B e b v n d)(p:O X w c)(t:∀k i l,X k->w.heap[k]? ≠some (.cells i e l)):c.ownsRow B e b v n d:=by
 refine⟨h.1,?_⟩;rcases h.2 with m|⟨g,f,j,s,o,a,r⟩
 .exact .inl m
 .refine .inr ⟨g,f,j,s,o,?_,r⟩;rw[p.block g (Ae a) (fun q=>t g _ _ q a)];exact a
theorem IW{P:Program}{w:World}(G:Nat)(t l e:TypeId)(i:TypeInfo)(z:Value)(x:P.underlying t=some (.slice e))(p:P.info? e=some i)(E:i.zero=some z)
 (v:Value)(n:Nat)(y:List Value)(r:w.ownsRow G e i.size v n y)
 (a:Addr)(m c:Nat)(d:List Value)(h:d.length=m*i.size)(q:∀j u,d[j]? =some u->w.cell? (a.add j)=some u)(H:∀u∈d,u.oneCell'=true)
 (N:0<m)(I:n+m<=maxLen)(B:(n+m)*i.bytes<=140737488355328){F:Value}{R:World}(s:(Builtin.append_ #[t,t] l #[v,.slice (some a) m c]).run P w=.ok F R):
 ∀k,F.ownBlock=some k->v.ownBlock=some k\/w.heap.size<=k:=by
 intro k f;have S:n+m<=9223372036854775807:=by simp only[maxLen]at I;omega
 rcases r.2 with⟨rfl,rfl⟩|⟨g,o,A,rfl,_,M,V,U,K,X⟩
 .have b:=run_append_nil (P:=P) w t l e i z x p E a m c d h q N Z (by simp only[iO]at B;omega);rw[s]at b;simp only[Result.ok.injEq]at b;rw[b.1]at f;simp[Value.ownBlock]at f;exact .inr Z
 .by_cases C:n+m<=o
  .have L:n*i.size+d.length<=A.size:=by rw[h,K,<-Nat.add_mul];exact Nat.mul_le_mul_right _ C
   have b:=run_append_room (P:=P) w t l e i x p g n o A M a m c d h q H C L;rw[s]at b;simp only[Result.ok.injEq]at b;rw[b.1]at f;exact .inl (by simpa[Value.ownBlock]using f)
  .have Q:∀j u,y[j]? =some u->w.cell? ((⟨g,0,none⟩:Addr).add j)=some u:=r.cells (g:=g) rfl;have b:=run_append_grow (P:=P) w t l e i z x p E ⟨g,0,none⟩ n o y r.1 Q a m c d h q Z Z (growslice_fits Z B);rw[s]at b;simp only[Result.ok.injEq]at b;rw[b.1]at f;simp[Value.ownBlock]at f;exact .inr Z
theorem AB{P:Program}{R:Array Oper}{o:Oper}{a:Act}{w:World}{K:Act->World->Prop}{Q:Exit->Act->World->Prop}{E:Prop}
 (Y:o.guard=none)(s x:Operand)(t:TypeId)(a0:o.op=Op.call {callee:=Callee.builtin Builtin.append,args:=#[s,x],argTypes:=#[t,t]})
 (g:Nat)(e:TypeId)(i:TypeInfo)(z:Value)(b q:Nat)(A:P.underlying t=some (.slice e))(C:P.info? e=some i)(F:i.zero=some z)(G:i.size=b)(H:i.bytes=q)(S:z.cells.size=b)(U:0<b)
 (v:Value)(n:Nat)(p:List Value)(hs:a.eval s=v)(M:w.ownsRow g e b v n p)
 (l:Addr)(m c:Nat)(d:List Value)(hx:a.eval x=.slice (some l) m c)(L:d.length=m*b)(I:∀j u,d[j]? =some u->w.cell? (l.add j)=some u)(B:∀u∈d,u.oneCell'=true)
 (hm:0<m)(r:n+m<=maxLen)(y:(n+m)*q<=140737488355328)(X:g<=w.heap.size)
 (V:∀f h,h.ownsRow g e b f (n+m) (p++d)->w.grownBy h v.ownBlock->(∀k,f.ownBlock=some k->v.ownBlock=some k\/w.heap.size<=k)->K (a.put o.dst f) h):
 if Region.wanted o (yielded R a.tmps)=true then Oper.wp P o a w K Q else E:=by
 have hw:Region.wanted o (yielded R a.tmps)=true:=by simp[Region.wanted,Y]
 rw[jH hw];obtain⟨f,h,N,r1,r2,_⟩:=run_append_own (P:=P) w g t o.type e i z b q A C F G H S U v n p M l m c d L I B r y X;have r3:∀k,f.ownBlock=some k->v.ownBlock=some k\/w.heap.size<=k:=by subst G;subst H;exact IW g t o.type e i z A C F v n p M l m c d L I B hm r y N
 unfold Oper.wp;simp[execOp,a0,resolve,invoke,builtin,hs,hx,N,Result.andThen];exact V f h r1 r2 r3
theorem AC{w:World}{g:Nat}(e:g=w.heap.size)(a:Array Value)(t:TypeId):∀j u,a.toList[j]? =some u->(w.alloc (.cells a t)).cell? ((⟨g,0,none⟩:Addr).add j)=some u:=by
 intro j u h;subst e;have d:=(W.new w a t).cell j;have c:(⟨w.heap.size,0,none⟩:Addr).add j=⟨w.heap.size,j,none⟩:=by
  simp only[Addr.add];split
  .rename_i b;subst b;rfl
  .simp
 rw[c,d];simpa using h
theorem Am{w:World}{B:Nat}{e:TypeId}{m:Nat}{v:Value}{n:Nat}{o:List Value}(h:w.ownsRow B e m v n o){b:Nat}{d:Array Value}{t:TypeId}{f:Nat×Nat}(i:w.heap[b]? =some (.cells d t f))(j:t≠e):∀k,v.ownBlock=some k->k≠b:=by
 intro k a e;subst e;rcases h.2 with⟨g,_⟩|⟨r,p,q,l,_,c,_⟩
 .rw[g]at a;simp[Value.ownBlock]at a
 .rw[l]at a;simp[Value.ownBlock]at a;subst a;rw[i]at c;simp only[gN,gU]at c;exact j c.2.1
theorem Ag{w:World}{B:Nat}{e:TypeId}{d:Nat}{a:Option Addr}{l c n:Nat}{f:List Value}(h:w.ownsRow B e d (.slice a l c) n f):l=n:=by
 rcases h.2 with⟨b,g⟩|⟨_,_,_,b,_⟩
 .simp at b;omega
 .simp at b;omega
theorem Ap{w:World}{B:Nat}{e:TypeId}{f:Nat}{a:Option Addr}{l c n:Nat}{g:List Value}(h:w.ownsRow B e f (.slice a l c) n g)(j:0<n):∃b,a=some ⟨b,0,none⟩:=by
 rcases h.2 with⟨_,i⟩|⟨b,_,_,d,_⟩
 .omega
 .simp only[Value.slice.injEq]at d;exact⟨b,d.1⟩
theorem DN{w:World}{B:Nat}{e:TypeId}{g:Nat}{d l c n:Nat}{i:List Value}(h:w.ownsRow B e g (.slice (some ⟨d,0,none⟩) l c) n i):∃b,w.heap[d]? =some (.cells b e (0,0)):=by
 rcases h.2 with⟨a,_⟩|⟨j,_,b,a,_,f,_⟩
 .simp at a
 .simp only[Value.slice.injEq,gN,Addr.mk.injEq]at a;rw[a.1.1];exact⟨b,f⟩
theorem Tryz.infoInt:(Tryz.prog.info? 3).map (fun i=>(i.zero,i.size,i.bytes))=some (some (.int .i64 0),1,8):=jW
theorem JG{P}(w){R S o a}{Q:Exit->Act->World->Prop}(X:o.guard=none)(s x t)
 (ho:o.op=.call {callee:=.builtin .append,args:=#[s,x],argTypes:=#[t,t]})
 (g e i z b r)(M:P.underlying t=some (.slice e))(E:P.info? e=some i)(N:i.zero=some z)
 (L:i.size=b)(B:i.bytes=r)(a1:z.cells.size=b)(a0:0<b)
 (v n q)(hs:a.eval s=v)(H:w.ownsRow g e b v n q)
 (p m c d)(hx:a.eval x=.slice (some p) m c)(F:d.length=m*b)(G:∀j u,d[j]? =some u->w.cell? (p.add j)=some u)(y:∀u∈d,u.oneCell'=true)
 (Y:0<m)(A:n+m<=maxLen)(C:(n+m)*r<=140737488355328)(V:g<=w.heap.size)
 (h:∀f l,l.ownsRow g e b f (n+m) (q++d)->w.grownBy l v.ownBlock->(∀k,f.ownBlock=some k->v.ownBlock=some k\/w.heap.size<=k)->wpList P R Q S (a.put o.dst f) l):wpList P R Q (o::S) a w:=
 wpList_plain X fun K U=>by
  obtain⟨f,l,I,r1,r2,_⟩:=run_append_own (P:=P) w g t o.type e i z b r M E N L B a1 a0 v n q H p m c d F G y A C V;have r3:∀k,f.ownBlock=some k->v.ownBlock=some k\/w.heap.size<=k:=by subst L;subst B;exact IW g t o.type e i z M E N v n q H p m c d F G y Y A C I
  unfold Oper.wp;simp[execOp,ho,resolve,invoke,builtin,hs,hx,I,Result.andThen];exact U _ _ (h f l r1 r2 r3)
theorem CT{w b d t e}(h:W b d t w)(g:t≠e):∀k a c,k=b->w.heap[k]? ≠some (.cells a e c):=by intro k a c f q;subst f;unfold W at h;rw[h]at q;simp only[gN,gU]at q;exact g q.2.1
theorem Gr{w:World}{B:Nat}{t e:TypeId}{j:Nat}{v:Value}{n:Nat}{l:List Value}(h:w.ownsRow B t j v n l)(g:t≠e):∀k b c,v.ownBlock=some k->w.heap[k]? ≠some (.cells b e c):=by
 intro k b c a q;rcases h.2 with⟨d,_⟩|⟨p,m,o,i,_,f,_⟩
 .rw[d]at a;simp[Value.ownBlock]at a
 .rw[i]at a;simp[Value.ownBlock]at a;subst a;rw[f]at q;simp only[gN,gU]at q;exact g q.2.1
theorem Gq{w:World}{B a:Nat}{t e:TypeId}{j l n m:Nat}{v u:Value}{o p:List Value}(h:w.ownsRow B t j v n o)(b:w.ownsRow a e l u m p)(g:t≠e):∀k,v.ownBlock=some k->¬u.ownBlock=some k:=by
 intro k f q;rcases b.2 with⟨c,_⟩|⟨x,r,s,i,_,d,_⟩
 .rw[c]at q;simp[Value.ownBlock]at q
 .rw[i]at q;simp[Value.ownBlock]at q;subst q;exact Gr h g _ _ _ f d
def L4(R:Act->World->Prop):Exit->Act->World->Prop
 |.normal,a,w=>R a w
 |_,_,_=>False
theorem DD{P c}{Q:Exit->Act->World->Prop}{a w}(h:Code.wp P c (L4 (fun a w=>Q .normal a w)) a w):Code.wp P c Q a w:=
 Code.wp_mono (fun e a w h=>by cases e<;>first|exact h|exact h.elim) h
def Ye(s p:ByteArray):Bool:=decide (p.size<=s.size) && ((s.extract 0 p.size).toList==p.toList)
theorem LN(s p:ByteArray)(_hs:s.size<=4001)(_hp:p.size<=4001)(w:World):
 Calls prog 152 #[.string s,.string p] w fun e d=>e=.returned (.bool (Ye s p))/\d=w:=by
 generalize c:Ye s p=v;have a:D (Ye s p=v):=c;clear c;by_cases h:p.size<=s.size
 .cases b:((s.extract 0 p.size).toList==p.toList)with
  |true=> go_enter func152,ntmps152;go_wp2;go_ret;exact⟨Ep (by rw[<-a.o];simp only[Ye,b];simp[h]),rfl⟩
  |false=> go_enter func152,ntmps152;go_wp2;go_ret;exact⟨Ep (by rw[<-a.o];simp only[Ye,b];simp),rfl⟩
 .have f:s.size<p.size:=Z;go_enter func152,ntmps152;go_wp2;go_ret;exact⟨Ep (by rw[<-a.o];simp[Ye,h]),rfl⟩
theorem MO(s p)(d:s.size<=4001)(c:p.size<=4001)(w):
 Calls prog 138 #[.string s,.string p] w fun e b=>e=.returned (.bool (Ye s p))/\b=w:=by
 go_enter func138,ntmps138;go_wp2_with(go_at_call 152;refine(LN _ _ d c _).mono ?_;rintro e b ⟨rfl,a⟩;have a:=a.symm;subst a);go_ret;exact⟨rfl,rfl⟩
theorem V9(s:ByteArray)(p:Nat)(f:p<=s.size):Ye (s.extract p s.size) {data:=#[239,191,189]}=(decide (p+3<=s.size) && (s.extract p (p+3)).toList==[239,191,189]):=by
 have b:(s.extract p s.size).size=s.size-p:=jY;have c:ByteArray.size {data:=#[239,191,189]}=3:=rfl;have d:ByteArray.toList {data:=#[239,191,189]}=[239,191,189]:=by rw[jS]
 unfold Ye;rw[b,c,d];by_cases h:p+3<=s.size
 .have a:3<=s.size-p:=Z;have e:(s.extract p s.size).extract 0 3=s.extract p (p+3):=by rw[ByteArray.extract_extract];congr 1;omega
  rw[e];simp[h,a]
 .have a:¬3<=s.size-p:=Z;simp[h,a]
theorem EF(s:ByteArray)(p r:Nat)(j:s.size<=4000)(i:p<=s.size)(w:World):
 Calls prog 107 #[.string s,.int .i64 p,.int .i32 r] w fun e d=>e=.returned (.bool (Di s p r))/\d=w:=by
 have f:=J (V9 s p i);generalize c:Di s p r=v;have b:D (Di s p r=v):=c;clear c;by_cases h:r=65533
 .have g:(((r:Nat):Int)==65533)=true:=jX;go_enter func107,ntmps107;go_wp2_with(go_at_call 138;refine(MO _ _ jX T _).mono ?_;rintro e d ⟨rfl,a⟩;have a:=a.symm;subst a);go_ret;exact⟨Ep (by rw[<-b.o,f.o];simp[Di,h]),rfl⟩
 .have g:(((r:Nat):Int)==65533)=false:=jX;go_enter func107,ntmps107;go_wp2;go_ret;exact⟨Ep (by rw[<-b.o];simp[Di,h]),rfl⟩
def EG(t:PT):List Value:=[.int .i64 t.kind,.string t.d9,.int .i64 t.l7]
def CY(l:List PT):List Value:=l.flatMap EG
theorem MR(l t):CY (l++[t])=CY l++EG t:=by simp[CY]
def KW(B b:Nat)(s:ByteArray)(v:Value)(x:Sc)(w:World):Prop:=
 W b #[.string s,v,.bool x.rem,.int .i64 x.start,.int .i64 x.cD] 167 w/\w.ownsRow B 112 3 v x.cL.length (CY x.cL)
structure Fr(b:Nat)(v v':Value)(w w':World):Prop where
 d8:O (fun k=>k=b\/v.ownBlock=some k) w w'
 own:∀k,v'.ownBlock=some k->v.ownBlock=some k\/w.heap.size<=k
theorem Fr.refl(b v w):Fr b v v w w:=⟨O.refl _ _,fun _ h=>.inl h⟩
theorem Fr.trans{b:Nat}{u v t:Value}{w d e:World}(h:Fr b u v w d)(k:Fr b v t d e):Fr b u t w e:=by
 refine⟨⟨k.d8.os.trans h.d8.os,k.d8.tape.trans h.d8.tape,k.d8.output.trans h.d8.output,gW h.d8.size k.d8.size,fun i a c=>?_⟩,fun i a=>?_⟩
 .rw[k.d8.block i (gY a h.d8.size) ?_]
  .exact h.d8.block i a c
  .rintro(q|q)
   .exact c (.inl q)
   .rcases h.own i q with q|q
    .exact c (.inr q)
    .omega
 .rcases k.own i a with q|q
  .exact h.own i q
  .exact .inr (gW h.d8.size q)
theorem Fr.drew{b v a w c}(h:Fr b v a w c):Fr b v a w c.drew:=⟨h.d8.drew,h.own⟩
theorem Fr.drewN{b v a w c}(h:Fr b v a w c)(n):Fr b v a w (c.drewN n):=⟨h.d8.drewN n,h.own⟩
theorem Fr.alloc{b v a w c}(h:Fr b v a w c)(o):Fr b v a w (c.alloc o):=⟨h.d8.alloc o,h.own⟩
theorem Fr.set{b v a w c}(h:Fr b v a w c)(i u):Fr b v a w (c.setCell ⟨b,i,none⟩ u):=⟨h.d8.setCell (.inl (.inl rfl)) u,h.own⟩
theorem KW.ne{B b s v x w}(h:KW B b s v x w):∀k,v.ownBlock=some k->k≠b:=Am h.2 h.1 T
theorem KW.d8{B b s v x w c}(h:KW B b s v x w)(a:O kD w c):KW B b s v x c:=
 ⟨h.1.d8 a id,Ac h.2 a (fun _ _ q=>q)⟩
def Jw(x:Sc)(t:PT):Sc:=⟨x.cL++[t],x.rem,x.start,x.cD⟩
theorem Tryz.infoPT:(Tryz.prog.info? 112).map (fun i=>(i.zero,i.size,i.bytes))=some (some (.agg #[.int .i64 0,.string ByteArray.empty,.int .i64 0]),3,32):=jW
theorem Vr{B b s v a x t w d c}(h:KW B b s v x w)(j:O kD w d)(i:c.ownsRow B 112 3 a (x.cL.length+1) (CY x.cL++EG t))(l:d.grownBy c v.ownBlock)(o:∀k,a.ownBlock=some k->v.ownBlock=some k\/w.heap.size<=k):
 KW B b s a (Jw x t) (c.setCell ⟨b,1,none⟩ a)/\Fr b v a w (c.setCell ⟨b,1,none⟩ a):=by
 have n:=h.ne;have f:O (fun k=>v.ownBlock=some k) w c:=O.grown (j.mono (fun _ _ q=>q.elim)) l (fun k m=>.inl m);have e:=h.1.d8 f (fun q=>n b q rfl);have g:=(O.refl (fun k=>k=b) c).t9 1 a;have p:∀k,a.ownBlock=some k->k≠b:=Am i e T;refine⟨⟨?_,?_⟩,?_,o⟩
 .have:=e.set 1 a;simpa[Jw]using this
 .have:=Ac i g p;simpa[Jw,MR]using this
 .exact(f.mono (fun k _ q=>.inr q)).trans (g.mono (fun k _ q=>.inl q))
theorem NT(B b:Nat)(s:ByteArray)(v:Value)(x:Sc)(f a c:Nat)(w:World)(_hs:s.size<=4000)(h:KW B b s v x w)(S:B<=w.heap.size)(X:a<=c)(U:c<=s.size)(V:x.cL.length<=4001):
 Calls prog 74 #[.pointer (some ⟨b,0,none⟩),.int .i64 f,.int .i64 a,.int .i64 c] w fun e o=>e=.returned (.tuple #[])/\∃g,KW B b s g (Jw x ⟨f,s.extract a c,a⟩) o/\Fr b v g w o:=by
 obtain⟨K,z,G,H,I⟩:=info_parts Tryz.infoPT;obtain⟨t,j⟩:=h.1.e2 0 1;have y:=h.1.frozen 1;simp only[gH,gF,gG]at t j;obtain⟨L,N,M,F⟩:=Ad h.2;subst F;have n:=Ae h.1;have E:=h.2;have i:=J h.ne;have r:=J h;clear h;go_enter func74,ntmps74;go_region_law(refine AB rfl _ _ 57 rfl B 112 K (.agg #[.int .i64 0,.string ByteArray.empty,.int .i64 0]) 3 32 underlying57 z G H I rfl T _ _ _ rfl (E.alloc _) ⟨w.heap.size,0,none⟩ 1 1 [.int .i64 f,.string (s.extract a c),.int .i64 a] rfl rfl (AC rfl _ _) (fun u m=>by simp at m;rcases m with rfl|rfl|rfl<;>rfl) T jZ Z jX ?_;intro g p l d C;have Y:p.cell? ⟨b,1,none⟩=some (.slice L N M):=(gJ (d.block b jX (fun h=>i.o b h.symm rfl))).trans (by rw[<-j];exact gJ (gS _ _ _ n));have q2:p.frozen? ⟨b,1,none⟩=false:=(gO (d.block b jX (fun h=>i.o b h.symm rfl))).trans (by rw[<-y];exact gO (gS _ _ _ n));obtain⟨P,R,Q,rfl⟩:=Ad l);all_goals
  go_wp2_with fail;go_end0;refine⟨rfl,.slice P R Q,?_⟩;exact Vr r.o (((O.refl _ _).alloc _).drew) l d (fun k A=>(C k A).imp id (fun q=>by simp at q;omega))
theorem Kq(B b s v x a w)(E:s.size<=4000)(h:KW B b s v x w)(y:B<=w.heap.size)(z:a<=s.size)(g:KI a x):
 Calls prog 73 #[.pointer (some ⟨b,0,none⟩),.int .i64 a] w fun e o=>e=.returned (.tuple #[])/\∃d,KW B b s d (Dc s a x) o/\Fr b v d w o:=by
 obtain⟨r,t,i⟩:=h.1.e3 0 3 4;have u:=h.1.frozen 4;simp only[gH,gF,gG]at r t i;have H:=Ae h.1;have C:=g.start;have F:=g.cD;have G:=g.many;have f:=J h;clear h g;by_cases p:0<x.cD
 .have l:Dc s a x=⟨x.cL++[⟨Ec (s.extract x.start a).toList,s.extract x.start a,x.start⟩],x.rem,x.start,0⟩:=by simp[Dc,p]
  rw[l];have A:decide ((0:Int)<(x.cD:Int))=true:=jX;go_enter func73,ntmps73;go_wp2;go_cut[] (fun q=>∃d,KW B b s d (Jw x ⟨Ec (s.extract x.start a).toList,s.extract x.start a,x.start⟩) q/\Fr b v d w q)
  case first=>
   go_region_with(first
    |(go_at_call 111;refine(OF _ _).mono ?_;rintro e o ⟨rfl,m⟩;have m:=m.symm;subst m)
    |(go_at_call 74;refine(NT B b s v x (Ec (s.extract x.start a).toList) x.start a _ E (f.o.d8 jV) (by simpa using y) C z Z).mono ?_;rintro e I ⟨rfl,n,c,j⟩))
   all_goals
    go_wp2_with fail;go_meet
    case rel=>exact⟨n,c,Fr.trans ⟨jV,fun _ h=>.inl h⟩ j⟩
  case rest=>
   obtain⟨n,c,j⟩:=hcut;have u:=c.1.frozen 4;have i:=c.1.cell 4;simp only[gH,gF,gG]at i;go_wp2;go_end0;refine⟨rfl,n,⟨?_,?_⟩,j.set 4 _⟩
   .have:=c.1.set 4 (.int .i64 0);simpa[Jw]using this
   .exact Ac c.2 ((O.refl (fun k=>k=b) _).t9 4 _) c.ne
 .have l:Dc s a x=⟨x.cL,x.rem,x.start,0⟩:=by simp[Dc,p]
  rw[l];have A:decide ((0:Int)<(x.cD:Int))=false:=jX;go_enter func73,ntmps73;go_wp2;go_end0;refine⟨rfl,v,⟨?_,?_⟩,(Fr.refl _ _ _).set 4 _⟩
  .have:=f.o.1.set 4 (.int .i64 0);simpa using this
  .exact Ac f.o.2 ((O.refl (fun k=>k=b) _).t9 4 _) f.o.ne
theorem Mx(B b:Nat)(s:ByteArray)(v:Value)(x:Sc)(p:Nat)(w:World)(h:KW B b s v x w)(n:x.cD<=8):
 Calls prog 109 #[.pointer (some ⟨b,0,none⟩),.int .i64 p] w fun e l=>e=.returned (.tuple #[.int .i64 ((if 8<x.cD+1 then(Cr p x).start else 0:Nat):Int),.bool (!decide (8<x.cD+1))])/\KW B b s v (Cr p x) l/\Fr b v v w l:=by
 obtain⟨m,d⟩:=h.1.e2 3 4;have o:=h.1.frozen;simp only[gH,gF,gG]at m d;have r:=Ae h.1;have a:=J h;clear h;by_cases c:x.cD=0
 .have f:((x.cD:Int)==0)=true:=by simp[c]
  have g:Cr p x=⟨x.cL,x.rem,p,1⟩:=by simp[Cr,c]
  rw[g,c];rw[c]at d;clear c f;go_enter func109,ntmps109;go_wp2;go_ret2;refine⟨rfl,⟨?_,?_⟩,((Fr.refl _ _ _).set 3 _).set 4 _⟩
  .have:=(a.o.1.set 3 (.int .i64 p)).set 4 (.int .i64 1);simpa using this
  .exact Ac a.o.2 (((O.refl (fun k=>k=b) _).t9 3 _).t9 4 _) a.o.ne
 .have f:((x.cD:Int)==0)=false:=by simp[c]
  have g:Cr p x=⟨x.cL,x.rem,x.start,x.cD+1⟩:=by simp[Cr,c]
  rw[g];by_cases i:x.cD=8
  .rw[i];rw[i]at d;clear c f n;go_enter func109,ntmps109;go_wp2;go_ret2;refine⟨rfl,⟨?_,?_⟩,(Fr.refl _ _ _).set 4 _⟩
   .have:=a.o.1.set 4 (.int .i64 9);simpa using this
   .exact Ac a.o.2 ((O.refl (fun k=>k=b) _).t9 4 _) a.o.ne
  .have q:decide ((8:Int)<(x.cD:Int)+1)=false:=jX;have j:¬8<x.cD+1:=Z;simp only[j,if_false,decide_false,Bool.not_false];clear j;go_enter func109,ntmps109;go_wp2;go_ret2;refine⟨rfl,⟨?_,?_⟩,(Fr.refl _ _ _).set 4 _⟩
   .have:=a.o.1.set 4 (.int .i64 ((x.cD:Int)+1));simpa using this
   .exact Ac a.o.2 ((O.refl (fun k=>k=b) _).t9 4 _) a.o.ne
theorem OA(B b:Nat)(s:ByteArray)(v:Value)(x:Sc)(p r:Nat)(w:World)(G:s.size<=4000)(h:KW B b s v x w)(F:B<=w.heap.size)(M:p<s.size)(L:x.cL.length<=4000):
 Calls prog 110 #[.pointer (some ⟨b,0,none⟩),.int .i64 p,.int .i32 r] w fun e j=>e=.returned (.tuple #[.int .i64 (DK s p r x).2.1,.bool (DK s p r x).2.2])/\∃q,KW B b s q (DK s p r x).1 j/\Fr b v q w j:=by
 have u:=h.1.cell 2;have K:=h.1.frozen;simp only[gH,gF,gG]at u;have N:=Ae h.1;have f:=J h;clear h;by_cases a:r=32\/r=9\/r=10
 .have c:DK s p r x=(x,0,true):=by simp[DK,a]
  rw[c];rcases a with a|a|a
  all_goals
   subst a;go_enter func110,ntmps110;go_wp2;go_ret2;exact⟨rfl,v,f.o,Fr.refl _ _ _⟩
 .have y:((r:Int)==32)=false:=jX;have z:((r:Int)==9)=false:=jX;have A:((r:Int)==10)=false:=jX;by_cases g:r=35
  .have c:DK s p r x=(⟨x.cL,true,x.start,x.cD⟩,0,true):=by simp[DK,g]
   rw[c];subst g;clear y z A;go_enter func110,ntmps110;go_wp2;go_ret2;refine⟨rfl,v,⟨?_,?_⟩,(Fr.refl _ _ _).set 2 _⟩
   .have:=f.o.1.set 2 (.bool true);simpa using this
   .exact Ac f.o.2 ((O.refl (fun k=>k=b) _).t9 2 _) f.o.ne
  .have I:((r:Int)==35)=false:=jX;by_cases i:BN r=0
   .have c:DK s p r x=(x,p,false):=by simp[DK,a,g,i]
    rw[c];have l:D (BN r=0):=i;clear a g i;go_enter func110,ntmps110;go_wp2_with(go_at_call 139;refine(Js _ _).mono ?_;rw[l.o];rintro e j ⟨rfl,d⟩;have d:=d.symm;subst d);go_ret2;exact⟨rfl,v,f.o,Fr.refl _ _ _⟩
   .have c:DK s p r x=(Jw x ⟨BN r,s.extract p (p+1),p⟩,0,true):=by simp[DK,a,g,i,Jw]
    rw[c];have n:(BN r !=0)=true:=by simp[i]
    obtain⟨m,o⟩:∃m,BN r=m:=⟨_,rfl⟩;rw[o]at n⊢;have t:=J o;have l:=J n;clear a g i n o;go_enter func110,ntmps110;go_wp2_with(first
     |(go_at_call 139;refine(Js _ _).mono ?_;rw[t.o,l.o];rintro e j ⟨rfl,d⟩;have d:=d.symm;subst d)
     |(go_at_call 74;refine(NT B b s v x m p (p+1) _ G f.o F Z Z Z).mono ?_;rintro e P ⟨rfl,H,C,E⟩))
    go_ret2;exact⟨rfl,H,C,E⟩
theorem QG(B b:Nat)(s:ByteArray)(v:Value)(x:Sc)(p r:Nat)(w:World)(m:s.size<=4000)(h:KW B b s v x w)(Q:B<=w.heap.size)(R:p<s.size)(E:KI p x):
 Calls prog 72 #[.pointer (some ⟨b,0,none⟩),.int .i64 p,.int .i32 r] w fun e i=>e=.returned (.tuple #[.int .i64 (AP s p r x).2.1,.bool (AP s p r x).2.2])/\∃G,KW B b s G (AP s p r x).1 i/\Fr b v G w i:=by
 obtain⟨L,z⟩:=h.1.e2 0 2;have X:=h.1.frozen;simp only[gH,gF,gG]at L z;have lb:=Ae h.1;have j:=J h;have y:=J E;clear h E;cases c:Di s p r with
 |true=>
  have f:AP s p r x=(x,p,false):=by simp[AP,c]
  rw[f];have n:=J c;clear c;go_enter func72,ntmps72;go_wp2_with(first|(go_at_call 107;refine(EF _ _ _ m Z _).mono ?_;rw[n.o];rintro e i ⟨rfl,a⟩;have a:=a.symm;subst a));go_ret2;exact⟨rfl,v,j.o,Fr.refl _ _ _⟩
 |false=>
  have n:=J c;cases g:x.rem with
  |true=>
   have f:AP s p r x=(⟨x.cL,r !=10,x.start,x.cD⟩,0,true):=by simp[AP,c,g]
   rw[f];rw[g]at z;have F:((r:Int) !=10)=(r !=10):=by rw[Bool.eq_iff_iff];simp;omega
   have K:=J F;clear c g F;go_enter func72,ntmps72;go_wp2_with(first|(go_at_call 107;refine(EF _ _ _ m Z _).mono ?_;rw[n.o];rintro e i ⟨rfl,a⟩;have a:=a.symm;subst a));go_ret2;refine⟨rfl,v,⟨?_,?_⟩,(Fr.refl _ _ _).set 2 _⟩
   .have:=j.o.1.set 2 (.bool ((r:Int) !=10));rw[K.o]at this⊢;simpa using this
   .exact Ac j.o.2 ((O.refl (fun k=>k=b) _).t9 2 _) j.o.ne
  |false=>
   rw[g]at z;cases l:J7 r with
   |true=>
    have u:=J l;have f:AP s p r x=(Cr p x,(if 8<x.cD+1 then(Cr p x).start else 0),!decide (8<x.cD+1)):=by simp only[AP,c,g,l];by_cases P:8<x.cD+1<;>simp[P]
    rw[f];clear c g l f;obtain⟨q,t⟩:∃q,(if 8<x.cD+1 then(Cr p x).start else 0)=q:=⟨_,rfl⟩;obtain⟨d,C⟩:∃d,(!decide (8<x.cD+1))=d:=⟨_,rfl⟩;have I:=J t;have H:=J C;rw[t,C];clear t C;go_enter func72,ntmps72;go_wp2_with(first|(go_at_call 107;refine(EF _ _ _ m Z _).mono ?_;rw[n.o];rintro e i ⟨rfl,a⟩;have a:=a.symm;subst a)|(go_at_call 108;refine(Jk _ _).mono ?_;rw[u.o];rintro e i ⟨rfl,a⟩;have a:=a.symm;subst a)|(go_at_call 109;refine(Mx B b s v x p _ j.o y.o.cD).mono ?_;rw[I.o,H.o];rintro e V ⟨rfl,A,o⟩));go_ret2;exact⟨rfl,v,A,o⟩
   |false=>
    have u:=J l;have f:AP s p r x=DK s p r (Dc s p x):=by simp[AP,c,g,l]
    rw[f];clear c g l f;go_enter func72,ntmps72;go_wp2_with(first|(go_at_call 107;refine(EF _ _ _ m Z _).mono ?_;rw[n.o];rintro e i ⟨rfl,a⟩;have a:=a.symm;subst a)|(go_at_call 108;refine(Jk _ _).mono ?_;rw[u.o];rintro e i ⟨rfl,a⟩;have a:=a.symm;subst a)|(go_at_call 73;refine(Kq B b s v x p _ m j.o Q Z y.o).mono ?_;rintro e V ⟨rfl,S,A,o⟩;have Y:=o.d8.size;have t:=(y.o.dH (s:=s)).many)|(go_at_call 110;refine(OA B b s S (Dc s p x) p r _ m A Z R Z).mono ?_;rintro e w2 ⟨rfl,U,M,N⟩));go_ret2;exact⟨rfl,U,M,o.trans N⟩
abbrev x0:Sc:=⟨[],false,0,0⟩
def ZC(w:World)(s:ByteArray)(V:Nat ⊕ Sc)(e:Ending)(a:World):Prop:=
 match V with
 |.inl p=>e=.returned (.tuple #[.slice none 0 0,.int .i64 2,.int .i64 p])/\Below w.heap.size w a
 |.inr x=>∃v,e=.returned (.tuple #[v,.int .i64 0,.int .i64 0])/\a.ownsRow w.heap.size 112 3 v (Av s x).length (CY (Av s x))/\(Av s x).length<=4001/\Below w.heap.size w a
theorem PD{w:World}{k:Nat}{s:ByteArray}{p:Nat}(h:w.heap[k]? =some (.stringIter s p)):w.iterPos k=p:=by simp[World.iterPos,h]
theorem Kx(w k s p):O (fun j=>j=k) w (w.iterAt k s p):=by have h:=Lib.below_iterAt (Below.refl 0 w) (k:=k) (gV _) s p;exact⟨h.os,h.tape,h.output,h.size,fun j _ a=>Lib.iterAt_other _ _ _ _ _ (fun e=>a e)⟩
theorem Qd{w:World}{B:Nat}{e:TypeId}{i:Nat}{v:Value}{n:Nat}{j:List Value}(h:w.ownsRow B e i v n j){b:Nat}{s:ByteArray}{p:Nat}(f:w.heap[b]? =some (.stringIter s p)):∀k,v.ownBlock=some k->k≠b:=by
 rintro k a rfl;rcases h.2 with⟨d,_⟩|⟨o,l,m,g,_,c,_⟩
 .rw[d]at a;simp[Value.ownBlock]at a
 .rw[g]at a;simp[Value.ownBlock]at a;subst a;rw[f]at c;cases c
theorem KW.iter{B b k s t v x w p q}(h:KW B b s v x w)(c:w.heap[k]? =some (.stringIter t p))(a:b≠k):KW B b s v x (w.iterAt k t q):=
 ⟨h.1.d8 (Kx _ _ _ _) a,Ac h.2 (Kx _ _ _ _) (Qd h.2 c)⟩
theorem Fr.iter{b k B s t v f x w c p}(h:Fr b v f w c)(e:KW B b s v x w)(a:w.heap[k]? =some (.stringIter t p))(d:b≠k):c.heap[k]? =some (.stringIter t p):=by
 rw[h.d8.block k (Ae a) ?_]
 .exact a
 .rintro(q|q)
  .exact d q.symm
  .exact Qd e.2 a k q rfl
theorem Fr.below{b B s v g x w a}(h:Fr b v g w a)(f:KW B b s v x w)(c:B<=w.heap.size)(i:B<=b):Below B w a:=
 h.d8.cX c (fun k d=>d.elim (fun e=>Z) (fun q=>(f.2.lt k q).1))
theorem QH(s)(c:4000<s.size)(a:s.size<=maxLen)(w):
 Calls prog 36 #[.string s] w fun e b=>e=.returned (.tuple #[.slice none 0 0,.int .i64 1,.int .i64 0])/\b=w:=by
 unfold maxLen at a;go_enter func36,ntmps36;go_wp2;go_ret3;exact⟨rfl,rfl⟩
theorem Gu(s)(t:s.size<=4000)(w):
 Calls prog 36 #[.string s] w fun e w'=>ZC w s (AE s s.size 0 x0) e w':=by
 generalize G:AE s s.size 0 x0=V;have F:D (AE s s.size 0 x0=V):=G;clear G;go_enter func36,ntmps36;go_wp2;go_loopw[6,7,8,9] (fun _ _ _ _ wr=>∃(a q f:Nat) (v:Value) (x:Sc),wr.heap[w.heap.size+1]? =some (.stringIter s a)/\KW w.heap.size w.heap.size s v x wr/\Below w.heap.size w wr/\s.size-a<=f/\KI q x/\q<=a/\q<=s.size/\D (AE s f a x=V)) (fun _ _ _ _ wr=>s.size-wr.iterPos (w.heap.size+1))
 case atStart=>
  refine⟨0,0,s.size,.slice none 0 0,x0,?_,?_,?_,Z,⟨gI _,jY,jY⟩,gI _,gV _,F⟩
  .have:=World.iter_heap (w.alloc (.cells #[.string s,.slice none 0 0,.bool false,.int .i64 0,.int .i64 0] 167)) s 0;simpa using this
  .exact⟨(W.new w #[.string s,.slice none 0 0,.bool false,.int .i64 0,.int .i64 0] 167).alloc _,gR _ _ _ _⟩
  .exact((Below.refl _ _).alloc (gI _) _).alloc jY _
 case round=>
  obtain⟨a,q,f,v,x,h,u,m,I,p,a4,a5,o⟩:=hrel;clear F;have a3:=PD h;have R:=m.size;by_cases d:a<s.size
  .have a1:∀i,(Instr.next (.pointer (some ⟨w.heap.size+1,0,none⟩)) true i).run prog wr=_:=fun i=>Lib.run_next_any_at wr (w.heap.size+1) s a i h d
   have K:=Lib.iterAt_heap wr (w.heap.size+1) s a (a+(Utf8.decode s a).2) h;have B:=Lib.below_iterAt m (k:=w.heap.size+1) Z s (a+(Utf8.decode s a).2);have P:=u.iter (q:=a+(Utf8.decode s a).2) h Z;have a7:=Gn s a d;have M:=p.more a4;generalize wr.iterAt (w.heap.size+1) s (a+(Utf8.decode s a).2)=W1 at*;have z:=B.size;obtain⟨y,Q⟩:∃y,AP s a (Utf8.decode s a).1 x=y:=⟨_,rfl⟩;have c:=J Q;have j:=J M;have b:=J P;have X:=J K;have n:=J B;clear h u m p M P K B Q;obtain⟨U,y2,y3⟩:=y;cases y3 with
   |true=>
    go_wp2_with(go_at_call 72;refine(QG w.heap.size w.heap.size s v x a (Utf8.decode s a).1 _ t b.o z d j.o).mono ?_;rw[c.o];rintro e S ⟨rfl,E,l,g⟩);obtain⟨f',a0,H⟩:=Dz (x:=x) I d (by rw[c.o]);rw[c.o]at H;have a2:KI (a+1) U:=by have:=Xi (s:=s) (r:=(Utf8.decode s a).1) j.o (by rw[c.o]);rw[c.o]at this;exact this
    have L:=g.iter b.o X.o Z;go_roundw
    case rel=>exact⟨a+(Utf8.decode s a).2,a+1,f',E,U,L,l,n.o.trans (g.below b.o z (gI _)),a0,a2,Z,Z,by show _=_;rw[<-H];exact o.o⟩
    case measure=>rw[PD L,a3];omega
   |false=>
    go_wp2_with(go_at_call 72;refine(QG w.heap.size w.heap.size s v x a (Utf8.decode s a).1 _ t b.o z d j.o).mono ?_;rw[c.o];rintro e S ⟨rfl,E,l,g⟩);go_ret3;have C:V=.inl y2:=by have:=Ez (x:=x) I d (by rw[c.o]);rw[c.o]at this;rw[<-o.o,this]
    subst C;exact⟨rfl,n.o.trans (g.below b.o z (gI _))⟩
  .have a1:∀i,(Instr.next (.pointer (some ⟨w.heap.size+1,0,none⟩)) true i).run prog wr=_:=fun i=>Lib.run_next_end_at wr (w.heap.size+1) s a i h d
   have C:V=.inr x:=by rw[<-o.o,DV d]
   subst C;have b:=J u;have n:=J m;have N:=p.more a5;have j:=J N;clear h u m p o N;have a6:=(j.o.dH (s:=s)).many;go_wp2_with(first
    |(go_at_call 73;refine(Kq w.heap.size w.heap.size s v x s.size _ t b.o R (gI _) j.o).mono ?_;rintro e w1 ⟨rfl,v1,l,g⟩;have a8:=g.d8.size)
    |(go_at_call 74;refine(NT w.heap.size w.heap.size s v1 (Dc s s.size x) 0 s.size s.size _ t l Z (gI _) (gI _) Z).mono ?_;rintro e S ⟨rfl,E,A,h4⟩;have Y:=A.1.cell 1;simp only[gH,gF,gG]at Y;obtain⟨va,vl,vc,rfl⟩:=Ad A.2))
   go_ret3;refine⟨_,rfl,?_,?_,?_⟩
   .have:=A.2;simpa[Av,Jw]using this
   .simp[Av];omega
   .exact(n.o.trans (g.below b.o R (gI _))).trans (h4.below l Z (gI _))
def Zb(t:PT):Prop:=t.kind=2->t.d9=⟨#[48]⟩\/t.d9=⟨#[49]⟩\/t.d9=⟨#[50]⟩\/t.d9=⟨#[51]⟩
def DigOk(l:List PT):Prop:=∀t,t∈l->Zb t
theorem DigOk.snoc{l t}(h:DigOk l)(b:Zb t):DigOk (l++[t]):=by
 intro u c;rcases iM.1 c with a|a
 .exact h u a
 .rw[iB.1 a];exact b
theorem Xx(l):Ec l≠2:=by
 unfold Ec;repeat' split
 all_goals decide
theorem DigOk.dH{s e x}(h:DigOk x.cL):DigOk (Dc s e x).cL:=by
 unfold Proofs.YtaningfhibkemaaGreatDoor.Dc;split
 .exact h.snoc (fun a=>jO a (Xx _))
 .exact h
theorem Un{r}(h:BN r=2):r=48\/r=49\/r=50\/r=51:=by
 unfold BN at h;split at h
 .assumption
 .exfalso;revert h;repeat' split
  all_goals decide
theorem Ri{s p}(a:p<s.size)(h:BN (Utf8.decode s p).1=2):s.extract p (p+1)=⟨#[48]⟩\/s.extract p (p+1)=⟨#[49]⟩\/s.extract p (p+1)=⟨#[50]⟩\/s.extract p (p+1)=⟨#[51]⟩:=by
 have c:=Un h;have k:(s[p]'a).toNat<128:=by
  by_cases f:(s[p]'a).toNat<128
  .exact f
  .have:=(decode_high s p a Z).1;omega
 rw[decode_ascii s p a k]at c;have g:s.extract p (p+1)=⟨#[s[p]'a]⟩:=by
  apply ByteArray.ext;rw[jR];have o:p<s.data.size:=a;apply Array.ext
  .simp;omega
  .intro i l d;have j:i=0:=by simp at d;omega
   subst j;simp;rfl
 have b:∀n:Nat,n<256->(s[p]'a).toNat=n->s[p]'a=UInt8.ofNat n:=by intro n m e;rw[<-e];simp
 rw[g];rcases c with q|q|q|q
 .exact .inl (by rw[b _ T q];rfl)
 .exact .inr (.inl (by rw[b _ T q];rfl))
 .exact .inr (.inr (.inl (by rw[b _ T q];rfl)))
 .exact .inr (.inr (.inr (by rw[b _ T q];rfl)))
theorem UT{s p x}(c:p<s.size)(h:DigOk x.cL):DigOk (AP s p (Utf8.decode s p).1 x).1.cL:=by
 unfold AP;split
 .exact h
 .split
  .exact h
  .split
   .split
    .exact h
    .exact h
   .have a:=h.dH (s:=s) (e:=p);unfold DK;split
    .exact a
    .split
     .exact a
     .split
      .exact a
      .exact a.snoc (fun b=>Ri c b)
theorem KD(s:ByteArray):∀(f p:Nat) (x y:Sc),DigOk x.cL->AE s f p x=.inr y->DigOk y.cL
 |0,_,x,y,h,e=>by have:=Sum.inr.inj e;subst this;exact h
 |f+1,p,x,y,h,e=>by
  unfold AE at e;split at e
  .rename_i a;split at e
   .exact KD s f _ _ y (UT a h) e
   .cases e
  .have:=Sum.inr.inj e;subst this;exact h
theorem Fz{s y}(h:AE s s.size 0 ⟨[],false,0,0⟩=.inr y):DigOk (Av s y):=
 (KD s _ _ _ _ (fun _ b=>jO b jY) h).dH.snoc (fun a=>jO (show(0:Nat)=2 from a) T)

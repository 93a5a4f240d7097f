/- One of the texts of the proof of texts_card_holds: CtP ScA ScC Mem ScD ScE ScF ScG. -/
import Derived.Test.YtmaankfbhhbeoaaGreatDoorG00
import Derived.Below
import Derived.Laws.RangeAny
import Derived.Laws.Strings
import Derived.Test.YtmaankfbhhbeoaaGreatDoorProg
import Derived.WalkKit
import Derived.WalkSpells
import Derived.WalkLawsBesides
import Derived.RegionTactic
import Derived.ChangeAlike
import Derived.BigRegion
import Derived.Deep.QuietTactic
import Derived.BigQuiet
import Derived.Deep.RegionLaw
import Derived.Deep.DeepCutAuto
set_option maxRecDepth 100000
set_option maxHeartbeats 1000000
namespace Go.Proofs.YtmaankfbhhbeoaaGreatDoor
open Go.RowKit
structure PT where
 kind:Nat
 d9:ByteArray
 f8:Nat
structure Sc where
 p6:List PT
 rem:Bool
 start:Nat
 j8:Nat
def Cx(l:List UInt8):Nat:=
 if l=[102,110] then 3 else if l=[118,97,114] then 4 else if l=[110,101,119] then 5 else if l=[114,101,116,117,114,110] then 6 else if l=[105,102] then 7 else if l=[101,108,115,101] then 8 else if l=[119,104,105,108,101] then 9 else 1
def Be(r:Nat):Nat:=
 if r=48∨r=49∨r=50∨r=51 then 2 else if r=40 then 10 else if r=41 then 11 else if r=123 then 12 else if r=125 then 13 else if r=59 then 14 else if r=61 then 15 else if r=38 then 16 else if r=42 then 17 else if r=64 then 18 else if r=46 then 19 else if r=63 then 20 else 0
def GI(r:Nat):Bool:=(decide (97≤r) && decide (r≤122)) || (decide (224≤r) && decide (r≤255) && (r !=247))
def BN(s:ByteArray)(p r:Nat):Bool:=r==65533 && !(decide (p+3≤s.size) && (s.extract p (p+3)).toList==[239,191,189])
def Cb(s:ByteArray)(e:Nat)(x:Sc):Sc:=
 if 0<x.j8 then ⟨x.p6++[⟨Cx (s.extract x.start e).toList,s.extract x.start e,x.start⟩],x.rem,x.start,0⟩ else ⟨x.p6,x.rem,x.start,0⟩
def Br(p:Nat)(x:Sc):Sc:=⟨x.p6,x.rem,if x.j8=0 then p else x.start,x.j8+1⟩
def Cp(s:ByteArray)(p r:Nat)(x:Sc):Sc×Nat×Bool:=
 if r=32∨r=9∨r=10 then (x,0,true)
 else if r=35 then (⟨x.p6,true,x.start,x.j8⟩,0,true)
 else if Be r=0 then (x,p,false)
 else (⟨x.p6++[⟨Be r,s.extract p (p+1),p⟩],x.rem,x.start,x.j8⟩,0,true)
def AC(s:ByteArray)(p r:Nat)(x:Sc):Sc×Nat×Bool:=
 if BN s p r then (x,p,false)
 else if x.rem then (⟨x.p6,r !=10,x.start,x.j8⟩,0,true)
 else if GI r then (if 8<x.j8+1 then (Br p x,(Br p x).start,false) else (Br p x,0,true))
 else Cp s p r (Cb s p x)
def Aw(s:ByteArray):Nat→Nat→Sc→Nat ⊕ Sc
 | 0,_,x=>.inr x
 | f+1,p,x=>if p<s.size then
    (if (AC s p (Utf8.decode s p).1 x).2.2 then Aw s f (p+(Utf8.decode s p).2) (AC s p (Utf8.decode s p).1 x).1
     else .inl (AC s p (Utf8.decode s p).1 x).2.1)
   else .inr x
def An(s:ByteArray)(x:Sc):List PT:=(Cb s s.size x).p6++[⟨0,s.extract s.size s.size,s.size⟩]
theorem Co{s f p x}(h:¬p<s.size):Aw s f p x=.inr x:=by
 cases f with
 | zero=>rfl
 | succ f=>simp only [Aw,if_neg h]
theorem CL{s f p x}(b:s.size-p≤f)(h:p<s.size)(a:(AC s p (Utf8.decode s p).1 x).2.2=false):Aw s f p x=.inl (AC s p (Utf8.decode s p).1 x).2.1:=by
 cases f with
 | zero=>omega
 | succ f=>simp [Aw,if_pos h,a]
theorem En(s p)(h:p<s.size):1≤(Utf8.decode s p).2:=by
 by_cases a:(s[p]'h).toNat<128
 ·rw [decode_ascii s p h a];exact Nat.le_refl _
 ·exact (decode_high s p h (by omega)).2
theorem Ca{s f p x}(d:s.size-p≤f)(h:p<s.size)(b:(AC s p (Utf8.decode s p).1 x).2.2=true):
 ∃a,s.size-(p+(Utf8.decode s p).2)≤a∧Aw s f p x=Aw s a (p+(Utf8.decode s p).2) (AC s p (Utf8.decode s p).1 x).1:=by
 have c:=En s p h;cases f with
 | zero=>omega
 | succ f=>exact ⟨f,by omega,by simp [Aw,if_pos h,b]⟩
structure Fs(p:Nat)(x:Sc):Prop where
 start:x.start≤p
 j8:x.j8≤8
 many:x.p6.length+x.j8≤p
theorem Fs.more{p q x}(h:Fs p x)(a:p≤q):Fs q x:=⟨Nat.le_trans h.start a,h.j8,Nat.le_trans h.many a⟩
theorem Fs.u4{s p x}(h:Fs p x):Fs p (Cb s p x):=by
 have a:=h.start;have b:=h.many;unfold Proofs.YtmaankfbhhbeoaaGreatDoor.Cb;split
 ·exact ⟨a,by simp,by simp;omega⟩
 ·exact ⟨a,by simp,by simp;omega⟩
theorem Cu(s p x):(Cb s p x).j8=0:=by unfold Cb;split<;>rfl
theorem KH(s p x):(Cb s p x).rem=x.rem:=by unfold Cb;split<;>rfl
theorem Ll{s p r x}(h:Fs p x)(a:(AC s p r x).2.2=true):Fs (p+1) (AC s p r x).1:=by
 have k:=h.start;have l:=h.many;have m:=h.j8;unfold AC at a⊢;split
 ·rename_i c;simp [c] at a
 ·rename_i c;simp only [c] at a;split
  ·exact ⟨by simp;omega,by simp;omega,by simp;omega⟩
  ·rename_i g;simp only [g] at a;split
   ·rename_i f;simp only [f,if_true] at a;split
    ·rename_i e;simp [e] at a
    ·exact ⟨by simp only [Br];split<;>omega,by simp only [Br];omega,by simp only [Br];omega⟩
   ·have b:=h.u4 (s:=s);have i:=b.start;have j:=b.many;have d:=Cu s p x;unfold Cp;split
    ·exact b.more (by omega)
    ·split
     ·exact ⟨by simp;omega,by simp [d],by simp;omega⟩
     ·split
      ·exact b.more (by omega)
      ·exact ⟨by simp;omega,by simp [d],by simp;omega⟩
theorem FL(s p r)(h:r<65533):BN s p r=false:=by
 have:(r==65533)=false:=by simp;omega
 simp [BN,this]
theorem CE{a b}(h:a=b):Ending.returned (.bool a)=.returned (.bool b):=by rw [h]
theorem Lf{k a b}(h:a=b):Ending.returned (.int k a)=.returned (.int k b):=by rw [h]
theorem EL(r:Nat)(w:World):
 Calls Tryz.prog 50 #[.int .i32 r] w fun e b=>e=.returned (.bool (GI r))∧b=w:=by
 by_cases h:(r:Int)=247
 ·have a:r=247:=by omega
  subst a;go_enter Tryz.func50,Tryz.ntmps50;go_wp2;go_ret;exact ⟨rfl,rfl⟩
 ·have a:(((r:Nat):Int)==247)=false:=by simpa using h
  go_enter Tryz.func50,Tryz.ntmps50;go_wp2;all_goals
   go_ret;exact ⟨CE (by rw [Bool.eq_iff_iff];simp [GI];omega),rfl⟩
theorem Jl{r}(a:r≠48)(h:r≠49)(i:r≠50)(j:r≠51)(k:r≠40)(l:r≠41)(m:r≠123)(n:r≠125)(o:r≠59)(b:r≠61)(c:r≠38)(d:r≠42)(e:r≠64)(f:r≠46)(g:r≠63):Be r=0:=by simp [Be, *]
theorem EN(r:Nat)(w:World):
 Calls Tryz.prog 63 #[.int .i32 r] w fun e d=>e=.returned (.tuple #[.int .i64 (Be r),.bool (Be r !=0)])∧d=w:=by
 generalize b:Be r=m;have c:Nj (Be r=m):=b;clear b;go_enter Tryz.func63,Tryz.ntmps63;go_wp2;all_goals
  go_ret2;refine ⟨?_,rfl⟩;have b:=c.o;simp only [beq_iff_eq,beq_eq_false_iff_ne,ne_eq] at*;first
   | (have a:r=48:=by omega
      subst a;subst b;rfl)
   | (have a:r=49:=by omega
      subst a;subst b;rfl)
   | (have a:r=50:=by omega
      subst a;subst b;rfl)
   | (have a:r=51:=by omega
      subst a;subst b;rfl)
   | (have a:r=40:=by omega
      subst a;subst b;rfl)
   | (have a:r=41:=by omega
      subst a;subst b;rfl)
   | (have a:r=123:=by omega
      subst a;subst b;rfl)
   | (have a:r=125:=by omega
      subst a;subst b;rfl)
   | (have a:r=59:=by omega
      subst a;subst b;rfl)
   | (have a:r=61:=by omega
      subst a;subst b;rfl)
   | (have a:r=38:=by omega
      subst a;subst b;rfl)
   | (have a:r=42:=by omega
      subst a;subst b;rfl)
   | (have a:r=64:=by omega
      subst a;subst b;rfl)
   | (have a:r=46:=by omega
      subst a;subst b;rfl)
   | (have a:r=63:=by omega
      subst a;subst b;rfl)
   | (have e:m=0:=by rw [←b];exact Jl (by omega) (by omega) (by omega) (by omega) (by omega) (by omega) (by omega) (by omega) (by omega) (by omega) (by omega) (by omega) (by omega) (by omega) (by omega)
      subst e;rfl)
theorem H5(s w):
 Calls Tryz.prog 53 #[.string s] w fun e a=>e=.returned (.int .i64 (Cx s.toList))∧a=w:=by
 go_enter Tryz.func53,Tryz.ntmps53;go_wp2;all_goals
  go_ret;refine ⟨Lf ?_,rfl⟩;first
   | (simp [Cx, *];done)
   | (simp_all [Cx];done)
structure Ab(X:Nat→Prop)(w w':World):Prop where
 os:w'.os=w.os
 tape:w'.tape=w.tape
 output:w'.output=w.output
 size:w.heap.size≤w'.heap.size
 block:∀k,k<w.heap.size→¬X k→w'.heap[k]? =w.heap[k]?
theorem Ab.refl(X:Nat→Prop)(w):Ab X w w:=⟨rfl,rfl,rfl,Nat.le_refl _,fun _ _ _=>rfl⟩
theorem Ab.trans{X:Nat→Prop}{a b c:World}(h:Ab X a b)(k:Ab X b c):Ab X a c:=
 ⟨k.os.trans h.os,k.tape.trans h.tape,k.output.trans h.output,Nat.le_trans h.size k.size,fun i d e=>(k.block i (Nat.lt_of_lt_of_le d h.size) e).trans (h.block i d e)⟩
theorem Ab.mono{X Y:Nat→Prop}{a b}(h:Ab X a b)(d:∀k,k<a.heap.size→X k→Y k):Ab Y a b:=
 ⟨h.os,h.tape,h.output,h.size,fun k c e=>h.block k c (fun q=>e (d k c q))⟩
theorem Ab.drew{X:Nat→Prop}{a w}(h:Ab X a w):Ab X a w.drew:=⟨h.os,h.tape,h.output,h.size,h.block⟩
theorem Ab.drewN{X:Nat→Prop}{a w}(h:Ab X a w)(n):Ab X a (w.drewN n):=h.trans ⟨rfl,rfl,rfl,Nat.le_refl _,fun _ _ _=>rfl⟩
theorem Ab.alloc{X:Nat→Prop}{a w}(h:Ab X a w)(o):Ab X a (w.alloc o):=
 h.trans ⟨rfl,rfl,rfl,by simp,fun k b _=>Below.heap_alloc _ _ _ b⟩
theorem Ab.setCell{X:Nat→Prop}{a w}(h:Ab X a w){p}(b:X p.block∨a.heap.size≤p.block)(u):Ab X a (w.setCell p u):=by
 refine ⟨h.os,h.tape,h.output,by have:=h.size;simpa [World.setCell] using this,fun k d c=>?_⟩;rw [Below.heap_setCell _ _ _ _ ?_]
 ·exact h.block k d c
 ·intro e;subst e;rcases b with b | b
  ·exact c b
  ·omega
theorem Ab.i7{b a w}(h:Ab (fun k=>k=b) a w)(i u):Ab (fun k=>k=b) a (w.setCell ⟨b,i,none⟩ u):=h.setCell (.inl rfl) u
theorem Ab.l9{X:Nat→Prop}{b a w}(h:Ab X a w)(i u)(c:a.heap.size≤b):Ab X a (w.setCell ⟨b,i,none⟩ u):=h.setCell (.inr c) u
theorem Ab.below{X:Nat→Prop}{a b}(h:Ab X a b)(d:∀k,X k→a.heap.size≤k):Below a.heap.size a b:=
 ⟨h.os,h.tape,h.output,h.size,fun k c=>h.block k c (fun q=>by have:=d k q;omega)⟩
theorem Ab.s7{X:Nat→Prop}{B a b}(h:Ab X a b)(d:B≤a.heap.size)(c:∀k,X k→B≤k):Below B a b:=
 ⟨h.os,h.tape,h.output,h.size,fun k e=>h.block k (by omega) (fun q=>by have:=c k q;omega)⟩
theorem Ab.grown{X:Nat→Prop}{a w g f}(h:Ab X a w)(b:w.grownBy g f)(i:∀k,f=some k→X k∨a.heap.size≤k):Ab X a g:=by
 refine ⟨b.os.trans h.os,b.tape.trans h.tape,b.output.trans h.output,Nat.le_trans h.size b.size,fun k c d=>?_⟩;rw [b.block k (Nat.lt_of_lt_of_le c h.size) ?_]
 ·exact h.block k c d
 ·intro e;rcases i k e.symm with q | q
  ·exact d q
  ·omega
theorem Aj{w:World}{b:Nat}{a:Array Value}{t:TypeId}{c:Nat×Nat}(h:w.heap[b]? =some (.cells a t c))(i:Nat):w.cell? ⟨b,i,none⟩=a[i]? :=by simp [World.cell?,h]
theorem AK{w:World}{b:Nat}{a:Array Value}{t:TypeId}(h:w.heap[b]? =some (.cells a t (0,0)))(i:Nat):w.frozen? ⟨b,i,none⟩=false:=by simp [World.frozen?,h]
theorem Ad{w:World}{b:Nat}{o:Obj}(h:w.heap[b]? =some o):b<w.heap.size:=(Array.getElem?_eq_some_iff.1 h).1
theorem Dl{w:World}{b:Nat}{a:Array Value}{t:TypeId}{c:Nat×Nat}(h:w.heap[b]? =some (.cells a t c))(i:Nat)(u:Value):(w.setCell ⟨b,i,none⟩ u).heap[b]? =some (.cells (a.setIfInBounds i u) t c):=by simp [World.setCell,Array.getElem?_modify,h]
theorem Ac{w d B e c v n f}{X:Nat→Prop}(h:w.ownsRow B e c v n f)(o:Ab X w d)(p:∀k,v.ownBlock=some k→¬X k):d.ownsRow B e c v n f:=by
 refine ⟨h.1,?_⟩;rcases h.2 with l | ⟨g,i,j,b,m,a,r⟩
 ·exact .inl l
 ·refine .inr ⟨g,i,j,b,m,?_,r⟩;rw [o.block g (Ad a) (p g (by rw [b];rfl))];exact a
def Aq(b:Nat)(a:Array Value)(t:TypeId)(w:World):Prop:=w.heap[b]? =some (.cells a t (0,0))
theorem Aq.d7{b a t}{X:Nat→Prop}{w c}(h:Aq b a t w)(d:Ab X w c)(e:¬X b):Aq b a t c:=by unfold Aq at h⊢;rw [d.block b (Ad h) e];exact h
theorem Aq.set{b a t w}(h:Aq b a t w)(i u):Aq b (a.setIfInBounds i u) t (w.setCell ⟨b,i,none⟩ u):=Dl h i u
theorem Aq.r7{b c a t w}(h:Aq b a t w)(i u)(d:b≠c):Aq b a t (w.setCell ⟨c,i,none⟩ u):=by unfold Aq at h⊢;rw [Below.heap_setCell _ _ _ _ d];exact h
theorem Aq.alloc{b a t w}(h:Aq b a t w)(o):Aq b a t (w.alloc o):=by have:=Ad h;unfold Aq at h⊢;rw [Below.heap_alloc _ _ _ this];exact h
theorem Aq.new(w:World)(a:Array Value)(t:TypeId):Aq w.heap.size a t (w.alloc (.cells a t)):=heap_alloc_new w _
theorem Aq.cell{b a t w}(h:Aq b a t w)(i):w.cell? ⟨b,i,none⟩=a[i]? :=Aj h i
theorem Aq.frozen{b a t w}(h:Aq b a t w)(i):w.frozen? ⟨b,i,none⟩=false:=AK h i
theorem Aq.ne{a b:Nat}{c d:Array Value}{t u:TypeId}{w:World}(h:Aq a c t w)(k:Aq b d u w)(e:t≠u):a≠b:=by rintro rfl;unfold Aq at h k;rw [h] at k;simp only [Option.some.injEq,Obj.cells.injEq] at k;exact e k.2.1
theorem Af{w:World}{B:Nat}{e:TypeId}{f:Nat}{v:Value}{n:Nat}{i:List Value}(h:w.ownsRow B e f v n i):∃a l c,v=.slice a l c:=by
 rcases h.2 with ⟨b,_⟩ | ⟨g,j,k,d,_⟩
 ·exact ⟨_,_,_,b⟩
 ·exact ⟨_,_,_,d⟩
theorem Ar{w:World}{B B':Nat}{e:TypeId}{a:Nat}{v:Value}{n:Nat}{b:List Value}(h:w.ownsRow B e a v n b)(i:B'≤B):w.ownsRow B' e a v n b:=by
 refine ⟨h.1,?_⟩;rcases h.2 with f | ⟨g,c,d,k,j,r⟩
 ·exact .inl f
 ·exact .inr ⟨g,c,d,k,Nat.le_trans i j,r⟩
theorem Aa{p}(h:p):Nj p:=h
theorem Ab.tr{b c a w d}(h:Ab (fun k=>k=b∨k=c) a w)(k:Ab (fun k=>k=b) w d):Ab (fun k=>k=b∨k=c) a d:=h.trans (k.mono (fun _ _ q=>.inl q))
theorem Ab.t8{X:Nat→Prop}{a w b}(h:Ab X a w)(k:Ab (fun _=>False) w b):Ab X a b:=h.trans (k.mono (fun _ _ q=>q.elim))
theorem Am{w c B e b v n d}{X:Nat→Prop}(h:w.ownsRow B e b v n d)(p:Ab X w c)(t:∀k i l,X k→w.heap[k]? ≠some (.cells i e l)):c.ownsRow B e b v n d:=by
 refine ⟨h.1,?_⟩;rcases h.2 with m | ⟨g,f,j,s,o,a,r⟩
 ·exact .inl m
 ·refine .inr ⟨g,f,j,s,o,?_,r⟩;rw [p.block g (Ad a) (fun q=>t g _ _ q a)];exact a
theorem ED{P:Program}{w:World}(F:Nat)(t l e:TypeId)(i:TypeInfo)(z:Value)(x:P.underlying t=some (.slice e))(p:P.info? e=some i)(D:i.zero=some z)
 (v:Value)(n:Nat)(y:List Value)(r:w.ownsRow F e i.size v n y)
 (a:Addr)(m c:Nat)(d:List Value)(h:d.length=m*i.size)(q:∀j u,d[j]? =some u→w.cell? (a.add j)=some u)(G:∀u∈d,u.oneCell'=true)
 (L:0<m)(H:n+m≤maxLen)(B:(n+m)*i.bytes≤140737488355328){E:Value}{N:World}(s:(Builtin.append_ #[t,t] l #[v,.slice (some a) m c]).run P w=.ok E N):
 ∀k,E.ownBlock=some k→v.ownBlock=some k∨w.heap.size≤k:=by
 intro k f;have O:n+m≤9223372036854775807:=by simp only [maxLen] at H;omega
 rcases r.2 with ⟨rfl,rfl⟩ | ⟨g,o,A,rfl,_,K,R,Q,I,S⟩
 ·have b:=run_append_nil (P:=P) w t l e i z x p D a m c d h q L (by omega) (by simp only [Nat.zero_add] at B;omega);rw [s] at b;simp only [Result.ok.injEq] at b;rw [b.1] at f;simp [Value.ownBlock] at f;exact .inr (by omega)
 ·by_cases C:n+m≤o
  ·have J:n*i.size+d.length≤A.size:=by rw [h,I,←Nat.add_mul];exact Nat.mul_le_mul_right _ C
   have b:=run_append_room (P:=P) w t l e i x p g n o A K a m c d h q G C J;rw [s] at b;simp only [Result.ok.injEq] at b;rw [b.1] at f;exact .inl (by simpa [Value.ownBlock] using f)
  ·have M:∀j u,y[j]? =some u→w.cell? ((⟨g,0,none⟩:Addr).add j)=some u:=r.cells (g:=g) rfl;have b:=run_append_grow (P:=P) w t l e i z x p D ⟨g,0,none⟩ n o y r.1 M a m c d h q (by omega) (by omega) (growslice_fits (by omega) B);rw [s] at b;simp only [Result.ok.injEq] at b;rw [b.1] at f;simp [Value.ownBlock] at f;exact .inr (by omega)
theorem AV{P:Program}{M:Array Oper}{o:Oper}{a:Act}{w:World}{K:Act→World→Prop}{Q:Exit→Act→World→Prop}{E:Prop}
 (T:o.guard=none)(s x:Operand)(t:TypeId)(V:o.op=Op.call {callee:=Callee.builtin Builtin.append,args:=#[s,x],argTypes:=#[t,t]})
 (g:Nat)(e:TypeId)(i:TypeInfo)(z:Value)(b q:Nat)(A:P.underlying t=some (.slice e))(C:P.info? e=some i)(D:i.zero=some z)(F:i.size=b)(G:i.bytes=q)(N:z.cells.size=b)(O:0<b)
 (v:Value)(n:Nat)(p:List Value)(W:a.eval s=v)(J:w.ownsRow g e b v n p)
 (l:Addr)(m c:Nat)(d:List Value)(Y:a.eval x=.slice (some l) m c)(I:d.length=m*b)(H:∀j u,d[j]? =some u→w.cell? (l.add j)=some u)(B:∀u∈d,u.oneCell'=true)
 (U:0<m)(r:n+m≤maxLen)(y:(n+m)*q≤140737488355328)(S:g≤w.heap.size)
 (R:∀f h,h.ownsRow g e b f (n+m) (p++d)→w.grownBy h v.ownBlock→(∀k,f.ownBlock=some k→v.ownBlock=some k∨w.heap.size≤k)→K (a.put o.dst f) h):
 if Region.wanted o (yielded M a.tmps)=true then Oper.wp P o a w K Q else E:=by
 have X:Region.wanted o (yielded M a.tmps)=true:=by simp [Region.wanted,T]
 rw [if_pos X];obtain ⟨f,h,L,Z,r2,_⟩:=run_append_own (P:=P) w g t o.type e i z b q A C D F G N O v n p J l m c d I H B r y S;have r3:∀k,f.ownBlock=some k→v.ownBlock=some k∨w.heap.size≤k:=by subst F;subst G;exact ED g t o.type e i z A C D v n p J l m c d I H B U r y L
 unfold Oper.wp;simp [execOp,V,resolve,invoke,builtin,W,Y,L,Result.andThen];exact R f h Z r2 r3
theorem Bn{w:World}{g:Nat}(e:g=w.heap.size)(a:Array Value)(t:TypeId):∀j u,a.toList[j]? =some u→(w.alloc (.cells a t)).cell? ((⟨g,0,none⟩:Addr).add j)=some u:=by
 intro j u h;subst e;have d:=(Aq.new w a t).cell j;have c:(⟨w.heap.size,0,none⟩:Addr).add j=⟨w.heap.size,j,none⟩:=by
  simp only [Addr.add];split
  ·rename_i b;subst b;rfl
  ·simp
 rw [c,d];simpa using h
theorem Az{w:World}{B:Nat}{e:TypeId}{m:Nat}{v:Value}{n:Nat}{o:List Value}(h:w.ownsRow B e m v n o){b:Nat}{d:Array Value}{t:TypeId}{f:Nat×Nat}(i:w.heap[b]? =some (.cells d t f))(j:t≠e):∀k,v.ownBlock=some k→k≠b:=by
 intro k a e;subst e;rcases h.2 with ⟨g,_⟩ | ⟨r,p,q,l,_,c,_⟩
 ·rw [g] at a;simp [Value.ownBlock] at a
 ·rw [l] at a;simp [Value.ownBlock] at a;subst a;rw [i] at c;simp only [Option.some.injEq,Obj.cells.injEq] at c;exact j c.2.1
theorem Ap{w:World}{B:Nat}{e:TypeId}{d:Nat}{a:Option Addr}{l c n:Nat}{f:List Value}(h:w.ownsRow B e d (.slice a l c) n f):l=n:=by
 rcases h.2 with ⟨b,g⟩ | ⟨_,_,_,b,_⟩
 ·simp at b;omega
 ·simp at b;omega
theorem Ay{w:World}{B:Nat}{e:TypeId}{f:Nat}{a:Option Addr}{l c n:Nat}{g:List Value}(h:w.ownsRow B e f (.slice a l c) n g)(j:0<n):∃b,a=some ⟨b,0,none⟩:=by
 rcases h.2 with ⟨_,i⟩ | ⟨b,_,_,d,_⟩
 ·omega
 ·simp only [Value.slice.injEq] at d;exact ⟨b,d.1⟩
theorem Dj{w:World}{B:Nat}{e:TypeId}{g:Nat}{d l c n:Nat}{i:List Value}(h:w.ownsRow B e g (.slice (some ⟨d,0,none⟩) l c) n i):∃b,w.heap[d]? =some (.cells b e (0,0)):=by
 rcases h.2 with ⟨a,_⟩ | ⟨j,_,b,a,_,f,_⟩
 ·simp at a
 ·simp only [Value.slice.injEq,Option.some.injEq,Addr.mk.injEq] at a;rw [a.1.1];exact ⟨b,f⟩
theorem Tryz.infoInt:(Tryz.prog.info? 3).map (fun i=>(i.zero,i.size,i.bytes))=some (some (.int .i64 0),1,8):=by kernel_rfl
theorem EU{P}(w){M N o a}{Q:Exit→Act→World→Prop}(S:o.guard=none)(s x t)
 (U:o.op=.call {callee:=.builtin .append,args:=#[s,x],argTypes:=#[t,t]})
 (g e i z b r)(J:P.underlying t=some (.slice e))(D:P.info? e=some i)(L:i.zero=some z)
 (I:i.size=b)(B:i.bytes=r)(Y:z.cells.size=b)(W:0<b)
 (v n q)(V:a.eval s=v)(G:w.ownsRow g e b v n q)
 (p m c d)(X:a.eval x=.slice (some p) m c)(E:d.length=m*b)(F:∀j u,d[j]? =some u→w.cell? (p.add j)=some u)(y:∀u∈d,u.oneCell'=true)
 (T:0<m)(A:n+m≤maxLen)(C:(n+m)*r≤140737488355328)(R:g≤w.heap.size)
 (h:∀f l,l.ownsRow g e b f (n+m) (q++d)→w.grownBy l v.ownBlock→(∀k,f.ownBlock=some k→v.ownBlock=some k∨w.heap.size≤k)→wpList P M Q N (a.put o.dst f) l):wpList P M Q (o::N) a w:=
 wpList_plain S fun K O=>by
  obtain ⟨f,l,H,Z,r2,_⟩:=run_append_own (P:=P) w g t o.type e i z b r J D L I B Y W v n q G p m c d E F y A C R;have r3:∀k,f.ownBlock=some k→v.ownBlock=some k∨w.heap.size≤k:=by subst I;subst B;exact ED g t o.type e i z J D L v n q G p m c d E F y T A C H
  unfold Oper.wp;simp [execOp,U,resolve,invoke,builtin,V,X,H,Result.andThen];exact O _ _ (h f l Z r2 r3)
theorem BD{w b d t e}(h:Aq b d t w)(g:t≠e):∀k a c,k=b→w.heap[k]? ≠some (.cells a e c):=by intro k a c f q;subst f;unfold Aq at h;rw [h] at q;simp only [Option.some.injEq,Obj.cells.injEq] at q;exact g q.2.1
theorem FF{w:World}{B:Nat}{t e:TypeId}{j:Nat}{v:Value}{n:Nat}{l:List Value}(h:w.ownsRow B t j v n l)(g:t≠e):∀k b c,v.ownBlock=some k→w.heap[k]? ≠some (.cells b e c):=by
 intro k b c a q;rcases h.2 with ⟨d,_⟩ | ⟨p,m,o,i,_,f,_⟩
 ·rw [d] at a;simp [Value.ownBlock] at a
 ·rw [i] at a;simp [Value.ownBlock] at a;subst a;rw [f] at q;simp only [Option.some.injEq,Obj.cells.injEq] at q;exact g q.2.1
theorem EO{w:World}{B a:Nat}{t e:TypeId}{j l n m:Nat}{v u:Value}{o p:List Value}(h:w.ownsRow B t j v n o)(b:w.ownsRow a e l u m p)(g:t≠e):∀k,v.ownBlock=some k→¬u.ownBlock=some k:=by
 intro k f q;rcases b.2 with ⟨c,_⟩ | ⟨x,r,s,i,_,d,_⟩
 ·rw [c] at q;simp [Value.ownBlock] at q
 ·rw [i] at q;simp [Value.ownBlock] at q;subst q;exact FF h g _ _ _ f d
def Mo(R:Act→World→Prop):Exit→Act→World→Prop
 | .normal,a,w=>R a w
 | _,_,_=>False
theorem H6{P c}{Q:Exit→Act→World→Prop}{a w}(h:Code.wp P c (Mo (fun a w=>Q .normal a w)) a w):Code.wp P c Q a w:=
 Code.wp_mono (fun e a w h=>by cases e<;>first | exact h | exact h.elim) h
def LD(s p:ByteArray):Bool:=decide (p.size≤s.size) && ((s.extract 0 p.size).toList==p.toList)
theorem Ge(s p:ByteArray)(_hs:s.size≤4001)(_hp:p.size≤4001)(w:World):
 Calls Tryz.prog 71 #[.string s,.string p] w fun e d=>e=.returned (.bool (LD s p))∧d=w:=by
 generalize c:LD s p=v;have a:Nj (LD s p=v):=c;clear c;by_cases h:p.size≤s.size
 ·cases b:((s.extract 0 p.size).toList==p.toList) with
  | true=> go_enter Tryz.func71,Tryz.ntmps71;go_wp2;go_ret;exact ⟨CE (by rw [←a.o];simp only [LD,b];simp [h]),rfl⟩
  | false=> go_enter Tryz.func71,Tryz.ntmps71;go_wp2;go_ret;exact ⟨CE (by rw [←a.o];simp only [LD,b];simp),rfl⟩
 ·have f:s.size<p.size:=by omega
  go_enter Tryz.func71,Tryz.ntmps71;go_wp2;go_ret;exact ⟨CE (by rw [←a.o];simp [LD,h]),rfl⟩
theorem GH(s p)(d:s.size≤4001)(c:p.size≤4001)(w):
 Calls Tryz.prog 62 #[.string s,.string p] w fun e b=>e=.returned (.bool (LD s p))∧b=w:=by
 go_enter Tryz.func62,Tryz.ntmps62;go_wp2_with (go_at_call 71;refine (Ge _ _ d c _).mono ?_;rintro e b ⟨rfl,a⟩;have a:=a.symm;subst a);go_ret;exact ⟨rfl,rfl⟩
theorem KO(s:ByteArray)(p:Nat)(f:p≤s.size):LD (s.extract p s.size) {data:=#[239,191,189]}=(decide (p+3≤s.size) && (s.extract p (p+3)).toList==[239,191,189]):=by
 have b:(s.extract p s.size).size=s.size-p:=by simp
 have c:ByteArray.size {data:=#[239,191,189]}=3:=rfl;have d:ByteArray.toList {data:=#[239,191,189]}=[239,191,189]:=by rw [ByteArray.toList_eq]
 unfold LD;rw [b,c,d];by_cases h:p+3≤s.size
 ·have a:3≤s.size-p:=by omega
  have e:(s.extract p s.size).extract 0 3=s.extract p (p+3):=by rw [ByteArray.extract_extract];congr 1;omega
  rw [e];simp [h,a]
 ·have a:¬3≤s.size-p:=by omega
  simp [h,a]
theorem CQ(s:ByteArray)(p r:Nat)(j:s.size≤4000)(i:p≤s.size)(w:World):
 Calls Tryz.prog 49 #[.string s,.int .i64 p,.int .i32 r] w fun e d=>e=.returned (.bool (BN s p r))∧d=w:=by
 have f:=Aa (KO s p i);generalize c:BN s p r=v;have b:Nj (BN s p r=v):=c;clear c;by_cases h:r=65533
 ·have g:(((r:Nat):Int)==65533)=true:=by simp;omega
  go_enter Tryz.func49,Tryz.ntmps49;go_wp2_with (go_at_call 62;refine (GH _ _ (by simp;omega) (by decide) _).mono ?_;rintro e d ⟨rfl,a⟩;have a:=a.symm;subst a);go_ret;exact ⟨CE (by rw [←b.o,f.o];simp [BN,h]),rfl⟩
 ·have g:(((r:Nat):Int)==65533)=false:=by simp;omega
  go_enter Tryz.func49,Tryz.ntmps49;go_wp2;go_ret;exact ⟨CE (by rw [←b.o];simp [BN,h]),rfl⟩
def CR(t:PT):List Value:=[.int .i64 t.kind,.string t.d9,.int .i64 t.f8]
def BG(l:List PT):List Value:=l.flatMap CR
theorem GK(l t):BG (l++[t])=BG l++CR t:=by simp [BG]
def Fx(B b:Nat)(s:ByteArray)(v:Value)(x:Sc)(w:World):Prop:=
 Aq b #[.string s,v,.bool x.rem,.int .i64 x.start,.int .i64 x.j8] 90 w∧w.ownsRow B 69 3 v x.p6.length (BG x.p6)
structure Fr(b:Nat)(v v':Value)(w w':World):Prop where
 d7:Ab (fun k=>k=b∨v.ownBlock=some k) w w'
 own:∀k,v'.ownBlock=some k→v.ownBlock=some k∨w.heap.size≤k
theorem Fr.refl(b v w):Fr b v v w w:=⟨Ab.refl _ _,fun _ h=>.inl h⟩
theorem Fr.trans{b:Nat}{u v t:Value}{w d e:World}(h:Fr b u v w d)(k:Fr b v t d e):Fr b u t w e:=by
 refine ⟨⟨k.d7.os.trans h.d7.os,k.d7.tape.trans h.d7.tape,k.d7.output.trans h.d7.output,Nat.le_trans h.d7.size k.d7.size,fun i a c=>?_⟩,fun i a=>?_⟩
 ·rw [k.d7.block i (Nat.lt_of_lt_of_le a h.d7.size) ?_]
  ·exact h.d7.block i a c
  ·rintro (q | q)
   ·exact c (.inl q)
   ·rcases h.own i q with q | q
    ·exact c (.inr q)
    ·omega
 ·rcases k.own i a with q | q
  ·exact h.own i q
  ·exact .inr (Nat.le_trans h.d7.size q)
theorem Fr.drew{b v a w c}(h:Fr b v a w c):Fr b v a w c.drew:=⟨h.d7.drew,h.own⟩
theorem Fr.drewN{b v a w c}(h:Fr b v a w c)(n):Fr b v a w (c.drewN n):=⟨h.d7.drewN n,h.own⟩
theorem Fr.alloc{b v a w c}(h:Fr b v a w c)(o):Fr b v a w (c.alloc o):=⟨h.d7.alloc o,h.own⟩
theorem Fr.set{b v a w c}(h:Fr b v a w c)(i u):Fr b v a w (c.setCell ⟨b,i,none⟩ u):=⟨h.d7.setCell (.inl (.inl rfl)) u,h.own⟩
theorem Fx.ne{B b s v x w}(h:Fx B b s v x w):∀k,v.ownBlock=some k→k≠b:=Az h.2 h.1 (by decide)
theorem Fx.d7{B b s v x w c}(h:Fx B b s v x w)(a:Ab (fun _=>False) w c):Fx B b s v x c:=
 ⟨h.1.d7 a (fun q=>q),Ac h.2 a (fun _ _ q=>q)⟩
def EQ(x:Sc)(t:PT):Sc:=⟨x.p6++[t],x.rem,x.start,x.j8⟩
theorem Tryz.infoPT:(Tryz.prog.info? 69).map (fun i=>(i.zero,i.size,i.bytes))=some (some (.agg #[.int .i64 0,.string ByteArray.empty,.int .i64 0]),3,32):=by kernel_rfl
theorem Kw{B b s v a x t w W c}(h:Fx B b s v x w)(i:Ab (fun _=>False) w W)(g:c.ownsRow B 69 3 a (x.p6.length+1) (BG x.p6++CR t))(j:W.grownBy c v.ownBlock)(n:∀k,a.ownBlock=some k→v.ownBlock=some k∨w.heap.size≤k):
 Fx B b s a (EQ x t) (c.setCell ⟨b,1,none⟩ a)∧Fr b v a w (c.setCell ⟨b,1,none⟩ a):=by
 have m:=h.ne;have e:Ab (fun k=>v.ownBlock=some k) w c:=Ab.grown (i.mono (fun _ _ q=>q.elim)) j (fun k l=>.inl l);have d:=h.1.d7 e (fun q=>m b q rfl);have f:=(Ab.refl (fun k=>k=b) c).i7 1 a;have o:∀k,a.ownBlock=some k→k≠b:=Az g d (by decide);refine ⟨⟨?_,?_⟩,?_,n⟩
 ·have:=d.set 1 a;simpa [EQ] using this
 ·have:=Ac g f o;simpa [EQ,GK] using this
 ·exact (e.mono (fun k _ q=>.inr q)).trans (f.mono (fun k _ q=>.inl q))
theorem Hm(B b:Nat)(s:ByteArray)(v:Value)(x:Sc)(f a c:Nat)(w:World)(_hs:s.size≤4000)(h:Fx B b s v x w)(P:B≤w.heap.size)(S:a≤c)(Q:c≤s.size)(R:x.p6.length≤4001):
 Calls Tryz.prog 36 #[.pointer (some ⟨b,0,none⟩),.int .i64 f,.int .i64 a,.int .i64 c] w fun e o=>e=.returned (.tuple #[])∧∃g,Fx B b s g (EQ x ⟨f,s.extract a c,a⟩) o∧Fr b v g w o:=by
 obtain ⟨I,z,F,G,H⟩:=info_parts Tryz.infoPT;have t:=h.1.cell 0;have j:=h.1.cell 1;have y:=h.1.frozen 1;simp only [Ni,Ng,Nh] at t j;obtain ⟨J,L,K,E⟩:=Af h.2;subst E;have n:=Ad h.1;have D:=h.2;have i:=Aa h.ne;have r:=Aa h;clear h;go_enter Tryz.func36,Tryz.ntmps36;go_region_law (refine AV rfl _ _ 33 rfl B 69 I (.agg #[.int .i64 0,.string ByteArray.empty,.int .i64 0]) 3 32 Tryz.underlying33 z F G H rfl (by decide) _ _ _ rfl (D.alloc _) ⟨w.heap.size,0,none⟩ 1 1 [.int .i64 f,.string (s.extract a c),.int .i64 a] rfl rfl (Bn rfl _ _) (fun u m=>by simp at m;rcases m with rfl | rfl | rfl<;>rfl) (by decide) (by unfold maxLen;omega) (by omega) (by simp;omega) ?_;intro g p l d C;have T:p.cell? ⟨b,1,none⟩=some (.slice J L K):=(World.cell?_of_block (d.block b (by simp;omega) (fun h=>i.o b h.symm rfl))).trans (by rw [←j];exact World.cell?_of_block (Below.heap_alloc _ _ _ n));have U:p.frozen? ⟨b,1,none⟩=false:=(World.frozen?_of_block (d.block b (by simp;omega) (fun h=>i.o b h.symm rfl))).trans (by rw [←y];exact World.frozen?_of_block (Below.heap_alloc _ _ _ n));obtain ⟨M,O,N,rfl⟩:=Af l);all_goals
  go_wp2_with fail;go_end0;refine ⟨rfl,.slice M O N,?_⟩;exact Kw r.o (((Ab.refl _ _).alloc _).drew) l d (fun k A=>(C k A).imp id (fun q=>by simp at q;omega))
theorem Ff(B b s v x a w)(D:s.size≤4000)(h:Fx B b s v x w)(y:B≤w.heap.size)(z:a≤s.size)(g:Fs a x):
 Calls Tryz.prog 35 #[.pointer (some ⟨b,0,none⟩),.int .i64 a] w fun e o=>e=.returned (.tuple #[])∧∃d,Fx B b s d (Cb s a x) o∧Fr b v d w o:=by
 have r:=h.1.cell 0;have t:=h.1.cell 3;have i:=h.1.cell 4;have u:=h.1.frozen 4;simp only [Ni,Ng,Nh] at r t i;have G:=Ad h.1;have C:=g.start;have E:=g.j8;have F:=g.many;have f:=Aa h;clear h g;by_cases p:0<x.j8
 ·have l:Cb s a x=⟨x.p6++[⟨Cx (s.extract x.start a).toList,s.extract x.start a,x.start⟩],x.rem,x.start,0⟩:=by simp [Cb,p]
  rw [l];have A:decide ((0:Int)<(x.j8:Int))=true:=by simp;omega
  go_enter Tryz.func35,Tryz.ntmps35;go_wp2;go_cut [] (fun q=>∃d,Fx B b s d (EQ x ⟨Cx (s.extract x.start a).toList,s.extract x.start a,x.start⟩) q∧Fr b v d w q)
  case first=>
   go_region_with (first
    | (go_at_call 53;refine (H5 _ _).mono ?_;rintro e o ⟨rfl,m⟩;have m:=m.symm;subst m)
    | (go_at_call 36;refine (Hm B b s v x (Cx (s.extract x.start a).toList) x.start a _ D (f.o.d7 (by repeat (first | exact Ab.refl _ _ | refine Ab.drew ?_ | refine Ab.drewN ?_ _ | refine Ab.alloc ?_ _))) (by simpa using y) C z (by omega)).mono ?_;rintro e H ⟨rfl,n,c,j⟩))
   all_goals
    go_wp2_with fail;go_meet
    case rel=>exact ⟨n,c,Fr.trans ⟨(by repeat (first | exact Ab.refl _ _ | refine Ab.drew ?_ | refine Ab.drewN ?_ _ | refine Ab.alloc ?_ _)),fun _ h=>.inl h⟩ j⟩
  case rest=>
   obtain ⟨n,c,j⟩:=hcut;have u:=c.1.frozen 4;have i:=c.1.cell 4;simp only [Ni,Ng,Nh] at i;go_wp2;go_end0;refine ⟨rfl,n,⟨?_,?_⟩,j.set 4 _⟩
   ·have:=c.1.set 4 (.int .i64 0);simpa [EQ] using this
   ·exact Ac c.2 ((Ab.refl (fun k=>k=b) _).i7 4 _) c.ne
 ·have l:Cb s a x=⟨x.p6,x.rem,x.start,0⟩:=by simp [Cb,p]
  rw [l];have A:decide ((0:Int)<(x.j8:Int))=false:=by simp;omega
  go_enter Tryz.func35,Tryz.ntmps35;go_wp2;go_end0;refine ⟨rfl,v,⟨?_,?_⟩,(Fr.refl _ _ _).set 4 _⟩
  ·have:=f.o.1.set 4 (.int .i64 0);simpa using this
  ·exact Ac f.o.2 ((Ab.refl (fun k=>k=b) _).i7 4 _) f.o.ne
theorem GD(B b:Nat)(s:ByteArray)(v:Value)(x:Sc)(p:Nat)(w:World)(h:Fx B b s v x w)(n:x.j8≤8):
 Calls Tryz.prog 51 #[.pointer (some ⟨b,0,none⟩),.int .i64 p] w fun e l=>e=.returned (.tuple #[.int .i64 ((if 8<x.j8+1 then (Br p x).start else 0:Nat):Int),.bool (!decide (8<x.j8+1))])∧Fx B b s v (Br p x) l∧Fr b v v w l:=by
 have m:=h.1.cell 3;have d:=h.1.cell 4;have o:=h.1.frozen;simp only [Ni,Ng,Nh] at m d;have r:=Ad h.1;have a:=Aa h;clear h;by_cases c:x.j8=0
 ·have f:((x.j8:Int)==0)=true:=by simp [c]
  have g:Br p x=⟨x.p6,x.rem,p,1⟩:=by simp [Br,c]
  rw [g,c];rw [c] at d;clear c f;go_enter Tryz.func51,Tryz.ntmps51;go_wp2;go_ret2;refine ⟨rfl,⟨?_,?_⟩,((Fr.refl _ _ _).set 3 _).set 4 _⟩
  ·have:=(a.o.1.set 3 (.int .i64 p)).set 4 (.int .i64 1);simpa using this
  ·exact Ac a.o.2 (((Ab.refl (fun k=>k=b) _).i7 3 _).i7 4 _) a.o.ne
 ·have f:((x.j8:Int)==0)=false:=by simp [c]
  have g:Br p x=⟨x.p6,x.rem,x.start,x.j8+1⟩:=by simp [Br,c]
  rw [g];by_cases i:x.j8=8
  ·rw [i];rw [i] at d;clear c f n;go_enter Tryz.func51,Tryz.ntmps51;go_wp2;go_ret2;refine ⟨rfl,⟨?_,?_⟩,(Fr.refl _ _ _).set 4 _⟩
   ·have:=a.o.1.set 4 (.int .i64 9);simpa using this
   ·exact Ac a.o.2 ((Ab.refl (fun k=>k=b) _).i7 4 _) a.o.ne
  ·have q:decide ((8:Int)<(x.j8:Int)+1)=false:=by simp;omega
   have j:¬8<x.j8+1:=by omega
   simp only [j,if_false,decide_false,Bool.not_false];clear j;go_enter Tryz.func51,Tryz.ntmps51;go_wp2;go_ret2;refine ⟨rfl,⟨?_,?_⟩,(Fr.refl _ _ _).set 4 _⟩
   ·have:=a.o.1.set 4 (.int .i64 ((x.j8:Int)+1));simpa using this
   ·exact Ac a.o.2 ((Ab.refl (fun k=>k=b) _).i7 4 _) a.o.ne
theorem H1(B b:Nat)(s:ByteArray)(v:Value)(x:Sc)(p r:Nat)(w:World)(F:s.size≤4000)(h:Fx B b s v x w)(E:B≤w.heap.size)(K:p<s.size)(J:x.p6.length≤4000):
 Calls Tryz.prog 52 #[.pointer (some ⟨b,0,none⟩),.int .i64 p,.int .i32 r] w fun e j=>e=.returned (.tuple #[.int .i64 (Cp s p r x).2.1,.bool (Cp s p r x).2.2])∧∃q,Fx B b s q (Cp s p r x).1 j∧Fr b v q w j:=by
 have u:=h.1.cell 2;have I:=h.1.frozen;simp only [Ni,Ng,Nh] at u;have L:=Ad h.1;have f:=Aa h;clear h;by_cases a:r=32∨r=9∨r=10
 ·have c:Cp s p r x=(x,0,true):=by simp [Cp,a]
  rw [c];rcases a with a | a | a
  all_goals
   subst a;go_enter Tryz.func52,Tryz.ntmps52;go_wp2;go_ret2;exact ⟨rfl,v,f.o,Fr.refl _ _ _⟩
 ·have y:((r:Int)==32)=false:=by simp;omega
  have z:((r:Int)==9)=false:=by simp;omega
  have A:((r:Int)==10)=false:=by simp;omega
  by_cases g:r=35
  ·have c:Cp s p r x=(⟨x.p6,true,x.start,x.j8⟩,0,true):=by simp [Cp,g]
   rw [c];subst g;clear y z A;go_enter Tryz.func52,Tryz.ntmps52;go_wp2;go_ret2;refine ⟨rfl,v,⟨?_,?_⟩,(Fr.refl _ _ _).set 2 _⟩
   ·have:=f.o.1.set 2 (.bool true);simpa using this
   ·exact Ac f.o.2 ((Ab.refl (fun k=>k=b) _).i7 2 _) f.o.ne
  ·have H:((r:Int)==35)=false:=by simp;omega
   by_cases i:Be r=0
   ·have c:Cp s p r x=(x,p,false):=by simp [Cp,a,g,i]
    rw [c];have l:Nj (Be r=0):=i;clear a g i;go_enter Tryz.func52,Tryz.ntmps52;go_wp2_with (go_at_call 63;refine (EN _ _).mono ?_;rw [l.o];rintro e j ⟨rfl,d⟩;have d:=d.symm;subst d);go_ret2;exact ⟨rfl,v,f.o,Fr.refl _ _ _⟩
   ·have c:Cp s p r x=(EQ x ⟨Be r,s.extract p (p+1),p⟩,0,true):=by simp [Cp,a,g,i,EQ]
    rw [c];have n:(Be r !=0)=true:=by simp [i]
    obtain ⟨m,o⟩:∃m,Be r=m:=⟨_,rfl⟩;rw [o] at n⊢;have t:=Aa o;have l:=Aa n;clear a g i n o;go_enter Tryz.func52,Tryz.ntmps52;go_wp2_with (first
     | (go_at_call 63;refine (EN _ _).mono ?_;rw [t.o,l.o];rintro e j ⟨rfl,d⟩;have d:=d.symm;subst d)
     | (go_at_call 36;refine (Hm B b s v x m p (p+1) _ F f.o E (by omega) (by omega) (by omega)).mono ?_;rintro e M ⟨rfl,G,C,D⟩))
    go_ret2;exact ⟨rfl,G,C,D⟩
end Go.Proofs.YtmaankfbhhbeoaaGreatDoor

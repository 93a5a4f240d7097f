/- One of the texts of the proof: CtP LexA LexC LexD LexE Mem RdA RdB RdC RdD RdE RdI RdK2 RdM RdN ScA ScB. -/
import Derived.Test.YtegmjgjkcdbmkaaGreatDoorG06
import Derived.Test.YtegmjgjkcdbmkaaGreatDoorProg
import Derived.WalkKit
import Derived.WalkSpells
import Derived.WalkLawsBesides
import Derived.RegionTactic
import Derived.ChangeAlike
import Derived.BigRegion
import Derived.Deep.QuietTactic
import Derived.BigQuiet
import Derived.Deep.RegionLaw
import Derived.Deep.DeepCutAuto
import Derived.Laws.RangeAny
import Derived.Laws.Strings
import Derived.Deep.CutBlock
set_option maxRecDepth 100000
set_option maxHeartbeats 1000000
namespace Go.Proofs.YtegmjgjkcdbmkaaGreatDoor
open Go.RowKit
structure Ab(X:Nat→Prop)(w w':World):Prop where
 os:w'.os=w.os
 tape:w'.tape=w.tape
 output:w'.output=w.output
 size:w.heap.size≤w'.heap.size
 block:∀k,k<w.heap.size→¬X k→w'.heap[k]? =w.heap[k]?
theorem Ab.refl(X:Nat→Prop)(w):Ab X w w:=⟨rfl,rfl,rfl,Nat.le_refl _,fun _ _ _=>rfl⟩
theorem Ab.trans{X:Nat→Prop}{a b c:World}(h:Ab X a b)(k:Ab X b c):Ab X a c:=
 ⟨k.os.trans h.os,k.tape.trans h.tape,k.output.trans h.output,Nat.le_trans h.size k.size,fun i d e=>(k.block i (Nat.lt_of_lt_of_le d h.size) e).trans (h.block i d e)⟩
theorem Ab.mono{X Y:Nat→Prop}{a b}(h:Ab X a b)(d:∀k,k<a.heap.size→X k→Y k):Ab Y a b:=
 ⟨h.os,h.tape,h.output,h.size,fun k c e=>h.block k c (fun q=>e (d k c q))⟩
theorem Ab.drew{X:Nat→Prop}{a w}(h:Ab X a w):Ab X a w.drew:=⟨h.os,h.tape,h.output,h.size,h.block⟩
theorem Ab.drewN{X:Nat→Prop}{a w}(h:Ab X a w)(n):Ab X a (w.drewN n):=h.trans ⟨rfl,rfl,rfl,Nat.le_refl _,fun _ _ _=>rfl⟩
theorem Ab.alloc{X:Nat→Prop}{a w}(h:Ab X a w)(o):Ab X a (w.alloc o):=
 h.trans ⟨rfl,rfl,rfl,by simp,fun k b _=>Below.heap_alloc _ _ _ b⟩
theorem Ab.setCell{X:Nat→Prop}{a w}(h:Ab X a w){p}(b:X p.block∨a.heap.size≤p.block)(u):Ab X a (w.setCell p u):=by
 refine ⟨h.os,h.tape,h.output,by have:=h.size;simpa [World.setCell] using this,fun k d c=>?_⟩;rw [Below.heap_setCell _ _ _ _ ?_]
 ·exact h.block k d c
 ·intro e;subst e;rcases b with b | b
  ·exact c b
  ·omega
theorem Ab.d8{b a w}(h:Ab (fun k=>k=b) a w)(i u):Ab (fun k=>k=b) a (w.setCell ⟨b,i,none⟩ u):=h.setCell (.inl rfl) u
theorem Ab.u9{X:Nat→Prop}{b a w}(h:Ab X a w)(i u)(c:a.heap.size≤b):Ab X a (w.setCell ⟨b,i,none⟩ u):=h.setCell (.inr c) u
theorem Ab.below{X:Nat→Prop}{a b}(h:Ab X a b)(d:∀k,X k→a.heap.size≤k):Below a.heap.size a b:=
 ⟨h.os,h.tape,h.output,h.size,fun k c=>h.block k c (fun q=>by have:=d k q;omega)⟩
theorem Ab.bL{X:Nat→Prop}{B a b}(h:Ab X a b)(d:B≤a.heap.size)(c:∀k,X k→B≤k):Below B a b:=
 ⟨h.os,h.tape,h.output,h.size,fun k e=>h.block k (by omega) (fun q=>by have:=c k q;omega)⟩
theorem Ab.grown{X:Nat→Prop}{a w g f}(h:Ab X a w)(b:w.grownBy g f)(i:∀k,f=some k→X k∨a.heap.size≤k):Ab X a g:=by
 refine ⟨b.os.trans h.os,b.tape.trans h.tape,b.output.trans h.output,Nat.le_trans h.size b.size,fun k c d=>?_⟩;rw [b.block k (Nat.lt_of_lt_of_le c h.size) ?_]
 ·exact h.block k c d
 ·intro e;rcases i k e.symm with q | q
  ·exact d q
  ·omega
theorem Ar{w:World}{b:Nat}{a:Array Value}{t:TypeId}{c:Nat×Nat}(h:w.heap[b]? =some (.cells a t c))(i:Nat):w.cell? ⟨b,i,none⟩=a[i]? :=by simp [World.cell?,h]
theorem AE{w:World}{b:Nat}{a:Array Value}{t:TypeId}(h:w.heap[b]? =some (.cells a t (0,0)))(i:Nat):w.frozen? ⟨b,i,none⟩=false:=by simp [World.frozen?,h]
theorem Ae{w:World}{b:Nat}{o:Obj}(h:w.heap[b]? =some o):b<w.heap.size:=(Array.getElem?_eq_some_iff.1 h).1
theorem OG{w:World}{b:Nat}{a:Array Value}{t:TypeId}{c:Nat×Nat}(h:w.heap[b]? =some (.cells a t c))(i:Nat)(u:Value):(w.setCell ⟨b,i,none⟩ u).heap[b]? =some (.cells (a.setIfInBounds i u) t c):=by simp [World.setCell,Array.getElem?_modify,h]
theorem Ac{w d B e c v n f}{X:Nat→Prop}(h:w.ownsRow B e c v n f)(o:Ab X w d)(p:∀k,v.ownBlock=some k→¬X k):d.ownsRow B e c v n f:=by
 refine ⟨h.1,?_⟩;rcases h.2 with l | ⟨g,i,j,b,m,a,r⟩
 ·exact .inl l
 ·refine .inr ⟨g,i,j,b,m,?_,r⟩;rw [o.block g (Ae a) (p g (by rw [b];rfl))];exact a
def Ak(b:Nat)(a:Array Value)(t:TypeId)(w:World):Prop:=w.heap[b]? =some (.cells a t (0,0))
theorem Ak.O{b a t}{X:Nat→Prop}{w c}(h:Ak b a t w)(d:Ab X w c)(e:¬X b):Ak b a t c:=by unfold Ak at h⊢;rw [d.block b (Ae h) e];exact h
theorem Ak.set{b a t w}(h:Ak b a t w)(i u):Ak b (a.setIfInBounds i u) t (w.setCell ⟨b,i,none⟩ u):=OG h i u
theorem Ak.bE{b c a t w}(h:Ak b a t w)(i u)(d:b≠c):Ak b a t (w.setCell ⟨c,i,none⟩ u):=by unfold Ak at h⊢;rw [Below.heap_setCell _ _ _ _ d];exact h
theorem Ak.alloc{b a t w}(h:Ak b a t w)(o):Ak b a t (w.alloc o):=by have:=Ae h;unfold Ak at h⊢;rw [Below.heap_alloc _ _ _ this];exact h
theorem Ak.new(w:World)(a:Array Value)(t:TypeId):Ak w.heap.size a t (w.alloc (.cells a t)):=heap_alloc_new w _
theorem Ak.cell{b a t w}(h:Ak b a t w)(i):w.cell? ⟨b,i,none⟩=a[i]? :=Ar h i
theorem Ak.frozen{b a t w}(h:Ak b a t w)(i):w.frozen? ⟨b,i,none⟩=false:=AE h i
theorem Ak.ne{a b:Nat}{c d:Array Value}{t u:TypeId}{w:World}(h:Ak a c t w)(k:Ak b d u w)(e:t≠u):a≠b:=by rintro rfl;unfold Ak at h k;rw [h] at k;simp only [Option.some.injEq,Obj.cells.injEq] at k;exact e k.2.1
theorem Ad{w:World}{B:Nat}{e:TypeId}{f:Nat}{v:Value}{n:Nat}{i:List Value}(h:w.ownsRow B e f v n i):∃a l c,v=.slice a l c:=by
 rcases h.2 with ⟨b,_⟩ | ⟨g,j,k,d,_⟩
 ·exact ⟨_,_,_,b⟩
 ·exact ⟨_,_,_,d⟩
theorem Ao{w:World}{B B':Nat}{e:TypeId}{a:Nat}{v:Value}{n:Nat}{b:List Value}(h:w.ownsRow B e a v n b)(i:B'≤B):w.ownsRow B' e a v n b:=by
 refine ⟨h.1,?_⟩;rcases h.2 with f | ⟨g,c,d,k,j,r⟩
 ·exact .inl f
 ·exact .inr ⟨g,c,d,k,Nat.le_trans i j,r⟩
theorem Aa{p}(h:p):dN p:=h
theorem Ab.tr{b c a w d}(h:Ab (fun k=>k=b∨k=c) a w)(k:Ab (fun k=>k=b) w d):Ab (fun k=>k=b∨k=c) a d:=h.trans (k.mono (fun _ _ q=>.inl q))
theorem Ab.bI{X:Nat→Prop}{a w b}(h:Ab X a w)(k:Ab (fun _=>False) w b):Ab X a b:=h.trans (k.mono (fun _ _ q=>q.elim))
theorem Av{w c B e b v n d}{X:Nat→Prop}(h:w.ownsRow B e b v n d)(p:Ab X w c)(t:∀k i l,X k→w.heap[k]? ≠some (.cells i e l)):c.ownsRow B e b v n d:=by
 refine ⟨h.1,?_⟩;rcases h.2 with m | ⟨g,f,j,s,o,a,r⟩
 ·exact .inl m
 ·refine .inr ⟨g,f,j,s,o,?_,r⟩;rw [p.block g (Ae a) (fun q=>t g _ _ q a)];exact a
theorem Hq{P:Program}{w:World}(F:Nat)(t l e:TypeId)(i:TypeInfo)(z:Value)(x:P.underlying t=some (.slice e))(p:P.info? e=some i)(D:i.zero=some z)
 (v:Value)(n:Nat)(y:List Value)(r:w.ownsRow F e i.size v n y)
 (a:Addr)(m c:Nat)(d:List Value)(h:d.length=m*i.size)(q:∀j u,d[j]? =some u→w.cell? (a.add j)=some u)(G:∀u∈d,u.oneCell'=true)
 (L:0<m)(H:n+m≤maxLen)(B:(n+m)*i.bytes≤140737488355328){E:Value}{N:World}(s:(Builtin.append_ #[t,t] l #[v,.slice (some a) m c]).run P w=.ok E N):
 ∀k,E.ownBlock=some k→v.ownBlock=some k∨w.heap.size≤k:=by
 intro k f;have O:n+m≤9223372036854775807:=by simp only [maxLen] at H;omega
 rcases r.2 with ⟨rfl,rfl⟩ | ⟨g,o,A,rfl,_,K,R,Q,I,S⟩
 ·have b:=run_append_nil (P:=P) w t l e i z x p D a m c d h q L (by omega) (by simp only [Nat.zero_add] at B;omega);rw [s] at b;simp only [Result.ok.injEq] at b;rw [b.1] at f;simp [Value.ownBlock] at f;exact .inr (by omega)
 ·by_cases C:n+m≤o
  ·have J:n*i.size+d.length≤A.size:=by rw [h,I,←Nat.add_mul];exact Nat.mul_le_mul_right _ C
   have b:=run_append_room (P:=P) w t l e i x p g n o A K a m c d h q G C J;rw [s] at b;simp only [Result.ok.injEq] at b;rw [b.1] at f;exact .inl (by simpa [Value.ownBlock] using f)
  ·have M:∀j u,y[j]? =some u→w.cell? ((⟨g,0,none⟩:Addr).add j)=some u:=r.cells (g:=g) rfl;have b:=run_append_grow (P:=P) w t l e i z x p D ⟨g,0,none⟩ n o y r.1 M a m c d h q (by omega) (by omega) (growslice_fits (by omega) B);rw [s] at b;simp only [Result.ok.injEq] at b;rw [b.1] at f;simp [Value.ownBlock] at f;exact .inr (by omega)
theorem AT{P:Program}{M:Array Oper}{o:Oper}{a:Act}{w:World}{K:Act→World→Prop}{Q:Exit→Act→World→Prop}{E:Prop}
 (T:o.guard=none)(s x:Operand)(t:TypeId)(V:o.op=Op.call {callee:=Callee.builtin Builtin.append,args:=#[s,x],argTypes:=#[t,t]})
 (g:Nat)(e:TypeId)(i:TypeInfo)(z:Value)(b q:Nat)(A:P.underlying t=some (.slice e))(C:P.info? e=some i)(D:i.zero=some z)(F:i.size=b)(G:i.bytes=q)(N:z.cells.size=b)(O:0<b)
 (v:Value)(n:Nat)(p:List Value)(W:a.eval s=v)(J:w.ownsRow g e b v n p)
 (l:Addr)(m c:Nat)(d:List Value)(Y:a.eval x=.slice (some l) m c)(I:d.length=m*b)(H:∀j u,d[j]? =some u→w.cell? (l.add j)=some u)(B:∀u∈d,u.oneCell'=true)
 (U:0<m)(r:n+m≤maxLen)(y:(n+m)*q≤140737488355328)(S:g≤w.heap.size)
 (R:∀f h,h.ownsRow g e b f (n+m) (p++d)→w.grownBy h v.ownBlock→(∀k,f.ownBlock=some k→v.ownBlock=some k∨w.heap.size≤k)→K (a.put o.dst f) h):
 if Region.wanted o (yielded M a.tmps)=true then Oper.wp P o a w K Q else E:=by
 have X:Region.wanted o (yielded M a.tmps)=true:=by simp [Region.wanted,T]
 rw [if_pos X];obtain ⟨f,h,L,Z,r2,_⟩:=run_append_own (P:=P) w g t o.type e i z b q A C D F G N O v n p J l m c d I H B r y S;have r3:∀k,f.ownBlock=some k→v.ownBlock=some k∨w.heap.size≤k:=by subst F;subst G;exact Hq g t o.type e i z A C D v n p J l m c d I H B U r y L
 unfold Oper.wp;simp [execOp,V,resolve,invoke,builtin,W,Y,L,Result.andThen];exact R f h Z r2 r3
theorem A5{w:World}{g:Nat}(e:g=w.heap.size)(a:Array Value)(t:TypeId):∀j u,a.toList[j]? =some u→(w.alloc (.cells a t)).cell? ((⟨g,0,none⟩:Addr).add j)=some u:=by
 intro j u h;subst e;have d:=(Ak.new w a t).cell j;have c:(⟨w.heap.size,0,none⟩:Addr).add j=⟨w.heap.size,j,none⟩:=by
  simp only [Addr.add];split
  ·rename_i b;subst b;rfl
  ·simp
 rw [c,d];simpa using h
theorem Aj{w:World}{B:Nat}{e:TypeId}{m:Nat}{v:Value}{n:Nat}{o:List Value}(h:w.ownsRow B e m v n o){b:Nat}{d:Array Value}{t:TypeId}{f:Nat×Nat}(i:w.heap[b]? =some (.cells d t f))(j:t≠e):∀k,v.ownBlock=some k→k≠b:=by
 intro k a e;subst e;rcases h.2 with ⟨g,_⟩ | ⟨r,p,q,l,_,c,_⟩
 ·rw [g] at a;simp [Value.ownBlock] at a
 ·rw [l] at a;simp [Value.ownBlock] at a;subst a;rw [i] at c;simp only [Option.some.injEq,Obj.cells.injEq] at c;exact j c.2.1
theorem Aq{w:World}{B:Nat}{e:TypeId}{d:Nat}{a:Option Addr}{l c n:Nat}{f:List Value}(h:w.ownsRow B e d (.slice a l c) n f):l=n:=by
 rcases h.2 with ⟨b,g⟩ | ⟨_,_,_,b,_⟩
 ·simp at b;omega
 ·simp at b;omega
theorem AA{w:World}{B:Nat}{e:TypeId}{f:Nat}{a:Option Addr}{l c n:Nat}{g:List Value}(h:w.ownsRow B e f (.slice a l c) n g)(j:0<n):∃b,a=some ⟨b,0,none⟩:=by
 rcases h.2 with ⟨_,i⟩ | ⟨b,_,_,d,_⟩
 ·omega
 ·simp only [Value.slice.injEq] at d;exact ⟨b,d.1⟩
theorem J9{w:World}{B:Nat}{e:TypeId}{g:Nat}{d l c n:Nat}{i:List Value}(h:w.ownsRow B e g (.slice (some ⟨d,0,none⟩) l c) n i):∃b,w.heap[d]? =some (.cells b e (0,0)):=by
 rcases h.2 with ⟨a,_⟩ | ⟨j,_,b,a,_,f,_⟩
 ·simp at a
 ·simp only [Value.slice.injEq,Option.some.injEq,Addr.mk.injEq] at a;rw [a.1.1];exact ⟨b,f⟩
theorem Tryz.infoInt:(Tryz.prog.info? 3).map (fun i=>(i.zero,i.size,i.bytes))=some (some (.int .i64 0),1,8):=by kernel_rfl
theorem EG{P}(w){M N o a}{Q:Exit→Act→World→Prop}(S:o.guard=none)(s x t)
 (U:o.op=.call {callee:=.builtin .append,args:=#[s,x],argTypes:=#[t,t]})
 (g e i z b r)(J:P.underlying t=some (.slice e))(D:P.info? e=some i)(L:i.zero=some z)
 (I:i.size=b)(B:i.bytes=r)(Y:z.cells.size=b)(W:0<b)
 (v n q)(V:a.eval s=v)(G:w.ownsRow g e b v n q)
 (p m c d)(X:a.eval x=.slice (some p) m c)(E:d.length=m*b)(F:∀j u,d[j]? =some u→w.cell? (p.add j)=some u)(y:∀u∈d,u.oneCell'=true)
 (T:0<m)(A:n+m≤maxLen)(C:(n+m)*r≤140737488355328)(R:g≤w.heap.size)
 (h:∀f l,l.ownsRow g e b f (n+m) (q++d)→w.grownBy l v.ownBlock→(∀k,f.ownBlock=some k→v.ownBlock=some k∨w.heap.size≤k)→wpList P M Q N (a.put o.dst f) l):wpList P M Q (o::N) a w:=
 wpList_plain S fun K O=>by
  obtain ⟨f,l,H,Z,r2,_⟩:=run_append_own (P:=P) w g t o.type e i z b r J D L I B Y W v n q G p m c d E F y A C R;have r3:∀k,f.ownBlock=some k→v.ownBlock=some k∨w.heap.size≤k:=by subst I;subst B;exact Hq g t o.type e i z J D L v n q G p m c d E F y T A C H
  unfold Oper.wp;simp [execOp,U,resolve,invoke,builtin,V,X,H,Result.andThen];exact O _ _ (h f l Z r2 r3)
theorem D6{w:World}{B:Nat}{t e:TypeId}{j:Nat}{v:Value}{n:Nat}{l:List Value}(h:w.ownsRow B t j v n l)(g:t≠e):∀k b c,v.ownBlock=some k→w.heap[k]? ≠some (.cells b e c):=by
 intro k b c a q;rcases h.2 with ⟨d,_⟩ | ⟨p,m,o,i,_,f,_⟩
 ·rw [d] at a;simp [Value.ownBlock] at a
 ·rw [i] at a;simp [Value.ownBlock] at a;subst a;rw [f] at q;simp only [Option.some.injEq,Obj.cells.injEq] at q;exact g q.2.1
def LD(R:Act→World→Prop):Exit→Act→World→Prop
 | .normal,a,w=>R a w
 | _,_,_=>False
theorem DL{P c}{Q:Exit→Act→World→Prop}{a w}(h:Code.wp P c (LD (fun a w=>Q .normal a w)) a w):Code.wp P c Q a w:=
 Code.wp_mono (fun e a w h=>by cases e<;>first | exact h | exact h.elim) h
def Lz(c:UInt8):Bool:=97≤c && c≤122
def Fb(c:UInt8):Bool:=c==40 || c==41 || c==123 || c==125 || c==59 || c==61 || c==38 || c==42 || c==64 || c==46 || c==63
def Dz(c:UInt8):Bool:=c==32 || c==10
def IX(c:UInt8):Bool:=c==48 || c==49 || c==50 || c==51
def Es:Nat→List UInt8→Option Nat
 | k,[]=>some k
 | k,c::t=>if Lz c then (if k<8 then Es (k+1) t else none) else if Fb c || Dz c || IX c then Es 0 t else none
theorem OE(a b):∀k,Es k (a++b)=(Es k a).bind (fun j=>Es j b):=by
 induction a with
 | nil=>intro k;rfl
 | cons c t d=>
   intro k;simp only [List.cons_append,Es];split
   ·split
    ·exact d _
    ·rfl
   ·split
    ·exact d _
    ·rfl
theorem An{a b k i j}(h:Es k a=some i)(c:Es i b=some j):Es k (a++b)=some j:=by rw [OE,h];exact c
def Cx:Nat→List UInt8
 | 0=>[97]
 | 1=>[98]
 | 2=>[99]
 | _=>[100]
def II:Nat→List UInt8
 | 0=>[109,97,105,110]
 | 1=>[120]
 | 2=>[121]
 | _=>[122]
def PD(n:Nat):List UInt8:=match n with
 | 0=>[48]
 | 1=>[49]
 | 2=>[50]
 | _=>[51]
def JN:List Nat→List UInt8
 | []=>[40,41]
 | [a]=>[40]++Cx a++[41]
 | a::b::_=>[40]++Cx a++[32]++Cx b++[41]
def V4(b p q g k:Nat)(a:List Nat):List UInt8:=
 match b with
 | 0=>Cx p++[32,61,32,110,101,119,59]
 | 1=>Cx p++[32,61,32,38]++Cx q++[59]
 | 2=>Cx p++[32,61,32,64]++II g++[59]
 | 3=>Cx p++[32,61,32]++Cx q++[59]
 | 4=>Cx p++[32,61,32,38]++Cx q++[46]++PD k++[59]
 | 5=>Cx p++[32,61,32,42]++Cx q++[59]
 | 6=>[42]++Cx p++[32,61,32]++Cx q++[59]
 | 7=>Cx p++[32,61,32]++II g++JN a++[59]
 | 8=>Cx p++[32,61,32,40,42]++Cx q++[41]++JN a++[59]
 | _=>[114,101,116,117,114,110,32]++Cx q++[59]
theorem Fz(v k)(h:k<8):Es k (Cx v)=some (k+1):=by unfold Cx;split<;>simp [Es,Lz,h]
theorem Rg(f):∃j,j≤4∧Es 0 (II f)=some j:=by
 unfold II;split
 ·exact ⟨4,by omega,rfl⟩
 all_goals exact ⟨1,by omega,rfl⟩
theorem UP(n k):Es k (PD n)=some 0:=by unfold PD;split<;>rfl
theorem Nk(l k):Es k (JN l)=some 0:=by
 have a:=Fz;unfold JN;split
 ·rfl
 ·exact An (An (i:=0) rfl (Fz _ 0 (by omega))) rfl
 ·exact An (An (An (An (i:=0) rfl (Fz _ 0 (by omega))) (j:=0) rfl) (Fz _ 0 (by omega))) rfl
theorem Xy(d p q g k c):Es 0 (V4 d p q g k c)=some 0:=by
 have a:=fun v=>Fz v 0 (by omega)
 obtain ⟨j,_,b⟩:=Rg g;unfold V4;split
 ·exact An (a p) rfl
 ·exact An (An (An (a p) (j:=0) rfl) (a q)) rfl
 ·exact An (An (An (a p) (j:=0) rfl) b) rfl
 ·exact An (An (An (a p) (j:=0) rfl) (a q)) rfl
 ·exact An (An (An (An (An (a p) (j:=0) rfl) (a q)) (j:=0) rfl) (UP _ _)) rfl
 ·exact An (An (An (a p) (j:=0) rfl) (a q)) rfl
 ·exact An (An (An (An (i:=0) rfl (a p)) (j:=0) rfl) (a q)) rfl
 ·exact An (An (An (An (a p) (j:=0) rfl) b) (Nk _ _)) rfl
 ·exact An (An (An (An (An (a p) (j:=0) rfl) (a q)) (j:=0) rfl) (Nk _ _)) rfl
 ·exact An (An (i:=0) rfl (a q)) rfl
theorem Gz(v):(Cx v).length=1:=by unfold Cx;split<;>rfl
theorem J5(v):(II v).length≤4:=by unfold II;split<;>simp
theorem UO(v):(PD v).length=1:=by unfold PD;split<;>rfl
theorem Nj(l):(JN l).length≤5:=by unfold JN;split<;>simp [Gz]
theorem Xx(b p q g k a):(V4 b p q g k a).length≤16:=by have c:=J5 g;have d:=Nj a;unfold V4;split<;>simp only [List.length_append,Gz,UO,List.length_cons,List.length_nil]<;>omega
def Ua(b:Nat)(t:List UInt8):List UInt8:=
 match b with
 | 1=>[105,102,32,63,32,123,32]++t++[32,125]
 | 2=>[105,102,32,63,32,123,32,125,32,101,108,115,101,32,123,32]++t++[32,125]
 | 3=>[119,104,105,108,101,32,63,32,123,32]++t++[32,125]
 | _=>t
theorem XS(b t)(h:Es 0 t=some 0):Es 0 (Ua b t)=some 0:=by
 unfold Ua;split
 ·exact An (An (i:=0) rfl h) rfl
 ·exact An (An (i:=0) rfl h) rfl
 ·exact An (An (i:=0) rfl h) rfl
 ·exact h
theorem XR(b t):(Ua b t).length≤t.length+18:=by unfold Ua;split<;>simp<;>omega
structure PT where
 kind:Nat
 a9:ByteArray
 c9:Nat
structure Sc where
 aU:List PT
 rem:Bool
 start:Nat
 n6:Nat
def CA(l:List UInt8):Nat:=
 if l=[102,110] then 3 else if l=[118,97,114] then 4 else if l=[110,101,119] then 5 else if l=[114,101,116,117,114,110] then 6 else if l=[105,102] then 7 else if l=[101,108,115,101] then 8 else if l=[119,104,105,108,101] then 9 else 1
def Bc(r:Nat):Nat:=
 if r=48∨r=49∨r=50∨r=51 then 2 else if r=40 then 10 else if r=41 then 11 else if r=123 then 12 else if r=125 then 13 else if r=59 then 14 else if r=61 then 15 else if r=38 then 16 else if r=42 then 17 else if r=64 then 18 else if r=46 then 19 else if r=63 then 20 else 0
def F7(r:Nat):Bool:=(decide (97≤r) && decide (r≤122)) || (decide (224≤r) && decide (r≤255) && (r !=247))
def Cy(s:ByteArray)(p r:Nat):Bool:=r==65533 && !(decide (p+3≤s.size) && (s.extract p (p+3)).toList==[239,191,189])
def CC(s:ByteArray)(e:Nat)(x:Sc):Sc:=
 if 0<x.n6 then ⟨x.aU++[⟨CA (s.extract x.start e).toList,s.extract x.start e,x.start⟩],x.rem,x.start,0⟩ else ⟨x.aU,x.rem,x.start,0⟩
def BG(p:Nat)(x:Sc):Sc:=⟨x.aU,x.rem,if x.n6=0 then p else x.start,x.n6+1⟩
def CR(s:ByteArray)(p r:Nat)(x:Sc):Sc×Nat×Bool:=
 if r=32∨r=9∨r=10 then (x,0,true)
 else if r=35 then (⟨x.aU,true,x.start,x.n6⟩,0,true)
 else if Bc r=0 then (x,p,false)
 else (⟨x.aU++[⟨Bc r,s.extract p (p+1),p⟩],x.rem,x.start,x.n6⟩,0,true)
def AI(s:ByteArray)(p r:Nat)(x:Sc):Sc×Nat×Bool:=
 if Cy s p r then (x,p,false)
 else if x.rem then (⟨x.aU,r !=10,x.start,x.n6⟩,0,true)
 else if F7 r then (if 8<x.n6+1 then (BG p x,(BG p x).start,false) else (BG p x,0,true))
 else CR s p r (CC s p x)
def Aw(s:ByteArray):Nat→Nat→Sc→Nat ⊕ Sc
 | 0,_,x=>.inr x
 | f+1,p,x=>if p<s.size then
    (if (AI s p (Utf8.decode s p).1 x).2.2 then Aw s f (p+(Utf8.decode s p).2) (AI s p (Utf8.decode s p).1 x).1
     else .inl (AI s p (Utf8.decode s p).1 x).2.1)
   else .inr x
def AH(s:ByteArray)(x:Sc):List PT:=(CC s s.size x).aU++[⟨0,s.extract s.size s.size,s.size⟩]
theorem CP{s f p x}(h:¬p<s.size):Aw s f p x=.inr x:=by
 cases f with
 | zero=>rfl
 | succ f=>simp only [Aw,if_neg h]
theorem DR{s f p x}(b:s.size-p≤f)(h:p<s.size)(a:(AI s p (Utf8.decode s p).1 x).2.2=false):Aw s f p x=.inl (AI s p (Utf8.decode s p).1 x).2.1:=by
 cases f with
 | zero=>omega
 | succ f=>simp [Aw,if_pos h,a]
theorem Fp(s p)(h:p<s.size):1≤(Utf8.decode s p).2:=by
 by_cases a:(s[p]'h).toNat<128
 ·rw [decode_ascii s p h a];exact Nat.le_refl _
 ·exact (decode_high s p h (by omega)).2
theorem Cm{s f p x}(d:s.size-p≤f)(h:p<s.size)(b:(AI s p (Utf8.decode s p).1 x).2.2=true):
 ∃a,s.size-(p+(Utf8.decode s p).2)≤a∧Aw s f p x=Aw s a (p+(Utf8.decode s p).2) (AI s p (Utf8.decode s p).1 x).1:=by
 have c:=Fp s p h;cases f with
 | zero=>omega
 | succ f=>exact ⟨f,by omega,by simp [Aw,if_pos h,b]⟩
structure JK(p:Nat)(x:Sc):Prop where
 start:x.start≤p
 n6:x.n6≤8
 many:x.aU.length+x.n6≤p
theorem JK.more{p q x}(h:JK p x)(a:p≤q):JK q x:=⟨Nat.le_trans h.start a,h.n6,Nat.le_trans h.many a⟩
theorem JK.bH{s p x}(h:JK p x):JK p (CC s p x):=by
 have a:=h.start;have b:=h.many;unfold Proofs.YtegmjgjkcdbmkaaGreatDoor.CC;split
 ·exact ⟨a,by simp,by simp;omega⟩
 ·exact ⟨a,by simp,by simp;omega⟩
theorem Dq(s p x):(CC s p x).n6=0:=by unfold CC;split<;>rfl
theorem UQ(s p x):(CC s p x).rem=x.rem:=by unfold CC;split<;>rfl
theorem V8{s p r x}(h:JK p x)(a:(AI s p r x).2.2=true):JK (p+1) (AI s p r x).1:=by
 have k:=h.start;have l:=h.many;have m:=h.n6;unfold AI at a⊢;split
 ·rename_i c;simp [c] at a
 ·rename_i c;simp only [c] at a;split
  ·exact ⟨by simp;omega,by simp;omega,by simp;omega⟩
  ·rename_i g;simp only [g] at a;split
   ·rename_i f;simp only [f,if_true] at a;split
    ·rename_i e;simp [e] at a
    ·exact ⟨by simp only [BG];split<;>omega,by simp only [BG];omega,by simp only [BG];omega⟩
   ·have b:=h.bH (s:=s);have i:=b.start;have j:=b.many;have d:=Dq s p x;unfold CR;split
    ·exact b.more (by omega)
    ·split
     ·exact ⟨by simp;omega,by simp [d],by simp;omega⟩
     ·split
      ·exact b.more (by omega)
      ·exact ⟨by simp;omega,by simp [d],by simp;omega⟩
theorem PY{c}(a:(Fb c || Dz c || IX c)=true):F7 c.toNat=false∧((c.toNat=32∨c.toNat=9∨c.toNat=10)∨Bc c.toNat≠0)∧c.toNat≠35:=by
 revert a;have:∀n:Fin 256,(Fb (UInt8.ofNat n) || Dz (UInt8.ofNat n) || IX (UInt8.ofNat n))=true→F7 n=false∧(((n:Nat)=32∨(n:Nat)=9∨(n:Nat)=10)∨Bc n≠0)∧(n:Nat)≠35:=by decide+kernel
 have h:=this ⟨c.toNat,c.toNat_lt⟩;simpa using h
theorem SM{c}(a:Lz c=true):F7 c.toNat=true:=by
 revert a;have:∀n:Fin 256,Lz (UInt8.ofNat n)=true→F7 n=true:=by decide+kernel
 have h:=this ⟨c.toNat,c.toNat_lt⟩;simpa using h
theorem NU{c}(a:Lz c=true∨(Fb c || Dz c || IX c)=true):c.toNat<128:=by
 revert a;have:∀n:Fin 256,Lz (UInt8.ofNat n)=true∨(Fb (UInt8.ofNat n) || Dz (UInt8.ofNat n) || IX (UInt8.ofNat n))=true→(n:Nat)<128:=by decide+kernel
 have h:=this ⟨c.toNat,c.toNat_lt⟩;simpa using h
theorem Fo(s p r)(h:r<65533):Cy s p r=false:=by
 have:(r==65533)=false:=by simp;omega
 simp [Cy,this]
abbrev x0:Sc:=⟨[],false,0,0⟩
abbrev Rn:List UInt8:=[102,110,32,109,97,105,110,40,41]
def JV(c:Int):Bool:=(decide (97≤c) && decide (c≤122)) || (decide (224≤c) && decide (c≤255) && (c !=247))
def Mi(c:Int):Bool:=c==40 || c==41 || c==123 || c==125 || c==59 || c==61 || c==38 || c==42 || c==64 || c==46 || c==63
def YH(l:List UInt8):Bool:=l==[102,110] || l==[118,97,114] || l==[110,101,119] || l==[114,101,116,117,114,110] || l==[105,102] || l==[101,108,115,101] || l==[119,104,105,108,101]
def IG(s:ByteArray):Nat→Nat→Nat×Bool
 | 0,i=>(i,true)
 | f+1,i=>if i<s.size∧bt s i≠10 then (if (BW s i).2=0 then (i,false) else IG s f (i+(BW s i).2)) else (i,true)
theorem QY{s f i}(h:¬(i<s.size∧bt s i≠10)):IG s f i=(i,true):=by
 cases f with
 | zero=>rfl
 | succ f=>simp only [IG,if_neg h]
theorem WN{s f i}(c:s.size-i≤f)(h:i<s.size)(a:bt s i≠10)(b:(BW s i).2=0):IG s f i=(i,false):=by
 cases f with
 | zero=>omega
 | succ f=>simp only [IG,if_pos (And.intro h a),if_pos b]
theorem Py{s f i}(d:s.size-i≤f)(h:i<s.size)(b:bt s i≠10)(c:(BW s i).2≠0):∃a,s.size-(i+(BW s i).2)≤a∧IG s f i=IG s a (i+(BW s i).2):=by
 cases f with
 | zero=>omega
 | succ f=>exact ⟨f,by omega,by simp only [IG,if_pos (And.intro h b),if_neg c]⟩
def EH(s:ByteArray):Nat→Nat→Nat→Nat×Nat
 | 0,i,k=>(i,k)
 | f+1,i,k=>if i<s.size∧(BW s i).2≠0∧JV (BW s i).1=true then EH s f (i+(BW s i).2) (k+1) else (i,k)
theorem RT{s f i k}(h:¬(i<s.size∧(BW s i).2≠0∧JV (BW s i).1=true)):EH s f i k=(i,k):=by
 cases f with
 | zero=>rfl
 | succ f=>simp only [EH,if_neg h]
theorem QL{s f i k}(d:s.size-i≤f)(h:i<s.size)(c:(BW s i).2≠0)(b:JV (BW s i).1=true):∃a,s.size-(i+(BW s i).2)≤a∧EH s f i k=EH s a (i+(BW s i).2) (k+1):=by
 cases f with
 | zero=>omega
 | succ f=>exact ⟨f,by omega,by simp only [EH];rw [if_pos ⟨h,c,b⟩]⟩
theorem Jm(s:ByteArray):∀(f i k:Nat),i≤s.size→i≤(EH s f i k).1∧(EH s f i k).1≤s.size∧k≤(EH s f i k).2∧(EH s f i k).2+i≤k+(EH s f i k).1
 | 0,i,k,h=>by simp only [EH];omega
 | f+1,i,k,h=>by
   simp only [EH];split
   ·rename_i a;have b:=FO s i a.1;have c:=Jm s f (i+(BW s i).2) (k+1) (by omega);have d:=a.2.1;omega
   ·simp only;omega
theorem ME(s:ByteArray):∀(f i:Nat),i≤s.size→i≤(IG s f i).1∧(IG s f i).1≤s.size
 | 0,i,h=>by simp only [IG];omega
 | f+1,i,h=>by
   simp only [IG];split
   ·rename_i a;have b:=FO s i a.1;split
    ·simp only;omega
    ·have c:=ME s f (i+(BW s i).2) (by omega);omega
   ·simp only;omega
structure Tk where
 a9:ByteArray
 pos:Nat
 sort:Nat
def BZ(s:ByteArray)(i:Nat):Nat ⊕ (Option Tk×Nat):=
 if (BW s i).2=0 then .inl i
 else if (BW s i).1=32∨(BW s i).1=9∨(BW s i).1=10 then .inr (none,i+1)
 else if (BW s i).1=35 then (if (IG s s.size i).2=true then .inr (none,(IG s s.size i).1) else .inl (IG s s.size i).1)
 else if JV (BW s i).1=true then
  (if YH (s.extract i (EH s s.size i 0).1).toList=true then .inr (some ⟨s.extract i (EH s s.size i 0).1,i,2⟩,(EH s s.size i 0).1)
   else if 8<(EH s s.size i 0).2 then .inl i else .inr (some ⟨s.extract i (EH s s.size i 0).1,i,1⟩,(EH s s.size i 0).1))
 else if 48≤(BW s i).1∧(BW s i).1≤51 then .inr (some ⟨s.extract i (i+1),i,3⟩,i+1)
 else if Mi (BW s i).1=true then .inr (some ⟨s.extract i (i+1),i,4⟩,i+1)
 else .inl i
theorem Sp{s i}(h:i<s.size)(d:(BW s i).2≠0)(b:bt s i≠10):i<(IG s s.size i).1:=by obtain ⟨a,_,c⟩:=Py (f:=s.size) (by omega) h b d;have e:=FO s i h;have:=ME s a (i+(BW s i).2) (by omega);rw [c];omega
theorem Uc{s i}(h:i<s.size)(d:(BW s i).2≠0)(c:JV (BW s i).1=true):i<(EH s s.size i 0).1:=by obtain ⟨a,_,b⟩:=QL (f:=s.size) (k:=0) (by omega) h d c;have e:=FO s i h;have:=Jm s a (i+(BW s i).2) (0+1) (by omega);rw [b];omega
theorem Hv{s i}(a:(BW s i).2≠0)(b:(BW s i).1<128):bt s i=(BW s i).1∧(BW s i).2=1:=by
 unfold BW at a b⊢;split
 ·exact ⟨rfl,rfl⟩
 ·rename_i g;rw [if_neg g] at a b;split
  ·rename_i d;rw [if_pos d] at a b;rcases Gj s i 2 128 (bt s i-192) with h | ⟨c,h,_⟩<;>rw [h] at a b<;>simp only at a b<;>omega
  ·rename_i d;rw [if_neg d] at a b;split
   ·rename_i e;rw [if_pos e] at a b;rcases Gj s i 3 2048 (bt s i-224) with h | ⟨c,h,_⟩<;>rw [h] at a b<;>simp only at a b<;>omega
   ·rename_i e;rw [if_neg e] at a b;split
    ·rename_i f;rw [if_pos f] at a b;rcases Gj s i 4 65536 (bt s i-240) with h | ⟨c,h,_⟩<;>rw [h] at a b<;>simp only at a b<;>omega
    ·rename_i f;rw [if_neg f] at a;simp only at a;omega
theorem Jy{s i j t}(a:i<s.size)(h:BZ s i=.inr (t,j)):i<j∧j≤s.size:=by
 unfold BZ at h;split at h
 ·cases h
 ·rename_i b;have g:=FO s i a;split at h
  ·simp only [Sum.inr.injEq,Prod.mk.injEq] at h;omega
  ·split at h
   ·rename_i f;have k:=Hv b (by omega);split at h
    ·simp only [Sum.inr.injEq,Prod.mk.injEq] at h;have c:=Sp a b (by omega);have d:=ME s s.size i (by omega);omega
    ·cases h
   ·split at h
    ·rename_i e;have c:=Uc a b e;have d:=Jm s s.size i 0 (by omega);split at h
     ·simp only [Sum.inr.injEq,Prod.mk.injEq] at h;omega
     ·split at h
      ·cases h
      ·simp only [Sum.inr.injEq,Prod.mk.injEq] at h;omega
    ·split at h
     ·simp only [Sum.inr.injEq,Prod.mk.injEq] at h;omega
     ·split at h
      ·simp only [Sum.inr.injEq,Prod.mk.injEq] at h;omega
      ·cases h
def C0(s:ByteArray):Nat→Nat→List Tk→Nat ⊕ List Tk
 | 0,_,a=>.inr a
 | f+1,i,a=>if i<s.size then
    (match BZ s i with
    | .inl p=>.inl p
    | .inr (t,j)=>C0 s f j (a++t.toList)) else .inr a
theorem G5{s f i a}(h:¬i<s.size):C0 s f i a=.inr a:=by
 cases f with
 | zero=>rfl
 | succ f=>simp only [C0,if_neg h]
theorem Ft{s f i p a}(c:s.size-i≤f)(h:i<s.size)(b:BZ s i=.inl p):C0 s f i a=.inl p:=by
 cases f with
 | zero=>omega
 | succ f=>simp only [C0,if_pos h,b]
theorem E9{s f i j acc t}(d:s.size-i≤f)(h:i<s.size)(b:BZ s i=.inr (t,j)):
 ∃a,s.size-j≤a∧C0 s f i acc=C0 s a j (acc++t.toList):=by
 have c:=Jy h b;cases f with
 | zero=>omega
 | succ f=>exact ⟨f,by omega,by simp only [C0,if_pos h,b]⟩
structure FS where
 kind:Nat
 p:Tk
 q:Tk
 field:Nat
 args:List Tk
 c9:Nat
 bD:List Nat
 other:List Nat
 br:Int
 cG:Int
 aW:Nat
def Wf:Tk:=⟨ByteArray.empty,0,0⟩
def AC(l:List Tk)(i:Nat):Tk:=l[i]?.getD Wf
def Xb(t:Tk)(l:List UInt8):Bool:=t.a9.toList==l && (t.sort==2 || t.sort==4)
def DQ(a:Option Nat)(t:Tk)(l:List UInt8):Bool:=a.isNone && Xb t l
def Hz(a:Option Nat)(p:Nat):Option Nat:=match a with | none=>some p | some b=>some b
def JS(c:List Tk)(a:Nat)(b:Option Nat)(l:List UInt8):Nat×Option Nat:=
 if DQ b (AC c a) l=true then (a+1,b) else (a,Hz b (AC c a).pos)
theorem Nw{b n a bad l}(d:(AC b (n-1)).sort=0)(c:a<n):a≤(JS b a bad l).1∧(JS b a bad l).1<n:=by
 unfold JS;split
 ·rename_i h;have e:a≠n-1:=by rintro rfl;simp [DQ,Xb,d] at h
  exact ⟨by simp,by simp only;omega⟩
 ·exact ⟨Nat.le_refl _,c⟩
def JU(c:List Tk)(a:Nat)(b:Option Nat)(d:Nat):Tk×Nat×Option Nat:=
 if b.isNone=true∧(AC c a).sort=d then (AC c a,a+1,b) else (Wf,a,Hz b (AC c a).pos)
def DO(d:List Tk):Nat→Nat→Option Nat→List Tk→List Tk×Nat×Option Nat
 | 0,a,b,c=>(c,a,b)
 | f+1,a,b,c=>if b=none∧(AC d a).sort=1 then DO d f (a+1) b (c++[AC d a]) else (c,a,b)
theorem Jc{d f b a c}(h:¬(a=none∧(AC d b).sort=1)):DO d f b a c=(c,b,a):=by
 cases f with
 | zero=>rfl
 | succ f=>simp only [DO,if_neg h]
theorem Xi{b f a n c acc}(i:n-1-a≤f)(g:a<n)(e:(AC b (n-1)).sort=0)(h:c=none∧(AC b a).sort=1):
 a+1<n∧∃d,n-1-(a+1)≤d∧DO b f a c acc=DO b d (a+1) c (acc++[AC b a]):=by
 have j:a≠n-1:=by rintro rfl;rw [e] at h;omega
 refine ⟨by omega,?_⟩;cases f with
 | zero=>omega
 | succ f=>exact ⟨f,by omega,by simp only [DO];rw [if_pos h]⟩
theorem NW{d:List Tk}{n:Nat}(e:(AC d (n-1)).sort=0):∀(f a:Nat) (b:Option Nat) (c:List Tk),a<n→a≤(DO d f a b c).2.1∧(DO d f a b c).2.1<n∧(DO d f a b c).2.2=b
 | 0,a,b,c,h=>by unfold DO;exact ⟨Nat.le_refl _,h,rfl⟩
 | f+1,a,b,c,h=>by
   simp only [DO];split
   ·rename_i g;have i:a≠n-1:=by rintro rfl;rw [e] at g;omega
    have:=NW e f (a+1) b (c++[AC d a]) (by omega);exact ⟨by omega,this.2⟩
   ·exact ⟨Nat.le_refl _,h,rfl⟩
def F8(a:List Tk)(c:Nat)(b:Option Nat):List Tk×Nat×Option Nat:=
 ((DO a a.length c b []).1,JS a (DO a a.length c b []).2.1 (DO a a.length c b []).2.2 [41])
def Bq(t:Tk):List UInt8:=if t.sort=2∨t.sort=4 then t.a9.toList else []
structure St where
 v9:Nat
 aT:Option Nat
 pl:Nat
 ca:Nat
def Ay(a:List Tk)(l:List UInt8)(x:St):St:=⟨(JS a x.v9 x.aT l).1,(JS a x.v9 x.aT l).2,x.pl,x.ca⟩
def Ce(a:List Tk)(e:Nat)(x:St):Tk×St:=((JU a x.v9 x.aT e).1,⟨(JU a x.v9 x.aT e).2.1,(JU a x.v9 x.aT e).2.2,x.pl,x.ca⟩)
def CY(a:List Tk)(x:St):List Tk×St:=((F8 a x.v9 x.aT).1,⟨(F8 a x.v9 x.aT).2.1,(F8 a x.v9 x.aT).2.2,x.pl,x.ca⟩)
theorem U7{a n e g k}(q:(AC a (n-1)).sort=0)(t:g≠0)(l:e<n):e≤(JU a e k g).2.1∧(JU a e k g).2.1<n:=by
 unfold JU;split
 ·rename_i h;have s:e≠n-1:=by rintro rfl;rw [q] at h;omega
  exact ⟨by simp,by simp only;omega⟩
 ·exact ⟨Nat.le_refl _,l⟩
theorem SO{a n e g}(q:(AC a (n-1)).sort=0)(s:e<n):e≤(F8 a e g).2.1∧(F8 a e g).2.1<n:=by have h:=NW q a.length e g [] s;have k:=Nw (bad:=(DO a a.length e g []).2.2) (l:=[41]) q h.2.1;unfold F8;exact ⟨Nat.le_trans h.1 k.1,k.2⟩
def WS(l:List UInt8)(e:Nat):Nat→Nat
 | 0=>e
 | k+1=>if l=[UInt8.ofNat (48+k)] then k else WS l e k
def Hg(a:List Tk)(x:St)(s:FS):FS×St:=
 if Bq (AC a x.v9)=[110,101,119] then
  let g:=Ay a [110,101,119] x
  ({s with kind:=2,c9:=g.pl+1},{g with pl:=g.pl+1})
 else if Bq (AC a x.v9)=[38] then
  let g:=Ay a [38] x
  let e:=Ce a 1 g
  if DQ e.2.aT (AC a e.2.v9) [46]=true then
   let w:=Ay a [46] e.2
   let u:=Ce a 3 w
   ({s with kind:=4,q:=e.1,field:=WS u.1.a9.toList s.field 4},u.2)
  else ({s with kind:=3,q:=e.1},e.2)
 else if Bq (AC a x.v9)=[42] then
  let g:=Ay a [42] x
  let e:=Ce a 1 g
  ({s with kind:=5,q:=e.1},e.2)
 else if Bq (AC a x.v9)=[64] then
  let g:=Ay a [64] x
  let e:=Ce a 1 g
  ({s with kind:=6,q:=e.1},e.2)
 else if Bq (AC a x.v9)=[40] then
  let g:=Ay a [40] x
  let l:=Ay a [42] g
  let k:=Ce a 1 l
  let y:=Ay a [41] k.2
  let n:=Ay a [40] y
  let t:St:={n with ca:=n.ca+1}
  let v:=CY a t
  ({s with kind:=9,q:=k.1,c9:=t.ca,args:=v.1},v.2)
 else
  let h:=Ce a 1 x
  if DQ h.2.aT (AC a h.2.v9) [40]=true then
   let l:=Ay a [40] h.2
   let k:=CY a l
   ({s with kind:=8,q:=h.1,args:=k.1},k.2)
  else ({s with kind:=7,q:=h.1},h.2)
section
variable {j i m d g n b : Nat} {a : List Tk} {c p : Value} {x : St} {o f : Array Value} {w r : World}
end
theorem EW{a n x e L}(h:Ay a L x=e)(k:(AC a (n-1)).sort=0)(g:x.v9<n):e.v9<n:=by subst h;exact (Nw k g).2
theorem Ig{a n k x g q}(s:Ce a k x=(q,g))(l:k≠0)(t:(AC a (n-1)).sort=0)(h:x.v9<n):g.v9<n:=by have e:g.v9=(JU a x.v9 x.aT k).2.1:=congrArg (fun z=>z.2.v9) s.symm;rw [e];exact (U7 t l h).2
theorem Jb{a n x g q}(k:CY a x=(q,g))(l:(AC a (n-1)).sort=0)(h:x.v9<n):g.v9<n:=by have e:g.v9=(F8 a x.v9 x.aT).2.1:=congrArg (fun z=>z.2.v9) k.symm;rw [e];exact (SO l h).2
def EN(a:Nat)(b:Int):FS:=⟨0,Wf,Wf,0,[],0,[],[],b,b,a⟩
abbrev ZS:List UInt8:=[105,102]
abbrev QH:List UInt8:=[119,104,105,108,101]
abbrev GK:List UInt8:=[101,108,115,101]
abbrev ZH:List UInt8:=[118,97,114]
abbrev RE:List UInt8:=[114,101,116,117,114,110]
def C5(a:List Tk)(b:Nat)(x:St):FS×St:=
 if Bq (AC a x.v9)=ZH then
  let y:=Ce a 1 (Ay a ZH x)
  ({EN b (-1) with kind:=1,p:=y.1},y.2)
 else if Bq (AC a x.v9)=RE then
  let y:=Ce a 1 (Ay a RE x)
  ({EN b (-1) with kind:=11,q:=y.1},y.2)
 else if Bq (AC a x.v9)=[42] then
  let y:=Ce a 1 (Ay a [42] x)
  let z:=Ce a 1 (Ay a [61] y.2)
  ({EN b (-1) with kind:=10,p:=y.1,q:=z.1},z.2)
 else
  let y:=Ce a 1 x
  Hg a (Ay a [61] y.2) {EN b (-1) with p:=y.1}
mutual
def AQ(toks:List Tk):Nat→Nat→St→List FS→List Nat→List Nat×St×List FS
 | 0,_,x,fs,out=>(out,x,fs)
 | f+1,inn,x,fs,out=>
   if x.aT≠none∨DQ x.aT (AC toks x.v9) [125]=true then (out,x,fs)
   else AQ toks f inn (Bx toks f inn x fs).2.1 (Bx toks f inn x fs).2.2 (out++[(Bx toks f inn x fs).1])
def Bx(toks:List Tk):Nat→Nat→St→List FS→Nat×St×List FS
 | 0,_,x,fs=>(fs.length,x,fs)
 | f+1,inn,x,fs=>
   if Bq (AC toks x.v9)=ZS∨Bq (AC toks x.v9)=QH then
    let x2:=Ay toks [63] (Ay toks (Bq (AC toks x.v9)) x)
    let r:=AQ toks f inn (Ay toks [123] x2) (fs++[EN 0 0]) []
    let x3:=Ay toks [125] r.2.1
    let s:FS:={EN inn (-1) with kind:=13,br:=(AC toks x2.v9).pos,bD:=r.1}
    if Bq (AC toks x.v9)=ZS then
     if DQ x3.aT (AC toks x3.v9) GK=true then
      let x4:=Ay toks GK x3
      let r2:=AQ toks f inn (Ay toks [123] x4) r.2.2 []
      (fs.length,Ay toks [125] r2.2.1,r2.2.2.set fs.length {s with kind:=12,cG:=(AC toks x4.v9).pos,other:=r2.1})
     else (fs.length,x3,r.2.2.set fs.length {s with kind:=12})
    else (fs.length,x3,r.2.2.set fs.length s)
   else
    let y:=C5 toks inn x
    (fs.length,Ay toks [59] y.2,(fs++[EN 0 0]).set fs.length y.1)
end
def AD(B:Nat)(w:World)(v:Value)(l:List Nat):Prop:=w.ownsRow B 3 1 v l.length (l.map fun i:Nat=>Value.int .i64 (i:Int))
def EO(k:Nat)(x y:St):Prop:=x.v9≤y.v9∧x.pl≤y.pl∧y.pl≤x.pl+1∧x.ca≤y.ca∧y.ca≤x.ca+1∧(y.aT=none→x.aT=none∧x.v9+k≤y.v9)
def FC(k:Nat)(x y:St):Prop:=x.v9≤y.v9∧y.pl=x.pl∧y.ca=x.ca∧(y.aT=none→x.aT=none∧x.v9+k≤y.v9)
theorem FC.trans{k l:Nat}{x y z:St}(h:FC k x y)(q:FC l y z):FC (k+l) x z:=
 ⟨by have:=h.1;have:=q.1;omega,by rw [q.2.1,h.2.1],by rw [q.2.2.1,h.2.2.1],fun e=>by have a:=q.2.2.2 e;have b:=h.2.2.2 a.1;exact ⟨b.1,by omega⟩⟩
theorem FC.one{k x y}(h:FC k x y):EO k x y:=⟨h.1,by rw [h.2.1];omega,by rw [h.2.1];omega,by rw [h.2.2.1];omega,by rw [h.2.2.1];omega,h.2.2.2⟩
theorem EO.behind{k l:Nat}{x y z:St}(h:FC k x y)(q:EO l y z):EO (k+l) x z:=by obtain ⟨f,g,i,c⟩:=h;obtain ⟨j,m,n,o,p,d⟩:=q;exact ⟨by omega,by omega,by omega,by omega,by omega,fun e=>by have a:=d e;have b:=c a.1;exact ⟨b.1,by omega⟩⟩
theorem EO.ahead{k l:Nat}{x y z:St}(h:EO k x y)(q:FC l y z):EO (k+l) x z:=by obtain ⟨f,g,i,j,m,c⟩:=h;obtain ⟨n,o,p,d⟩:=q;exact ⟨by omega,by omega,by omega,by omega,by omega,fun e=>by have a:=d e;have b:=c a.1;exact ⟨b.1,by omega⟩⟩
theorem EO.less{k l:Nat}{x y:St}(h:EO k x y)(a:l≤k):EO l x y:=⟨h.1,h.2.1,h.2.2.1,h.2.2.2.1,h.2.2.2.2.1,fun e=>by have:=h.2.2.2.2.2 e;exact ⟨this.1,by omega⟩⟩
theorem Ky(a p):Hz a p≠none:=by cases a<;>simp [Hz]
theorem Ct(a L x):FC 1 x (Ay a L x):=by
 unfold Ay JS;split
 ·rename_i h;refine ⟨by simp,rfl,rfl,fun e=>⟨e,Nat.le_refl _⟩⟩
 ·exact ⟨Nat.le_refl _,rfl,rfl,fun e=>absurd e (Ky _ _)⟩
theorem Gn(a k x):FC 1 x (Ce a k x).2:=by
 unfold Ce JU;split
 ·refine ⟨by simp,rfl,rfl,fun e=>⟨e,Nat.le_refl _⟩⟩
 ·exact ⟨Nat.le_refl _,rfl,rfl,fun e=>absurd e (Ky _ _)⟩
theorem LX(d:List Tk):∀(f a:Nat) (b:Option Nat) (c:List Tk),a≤(DO d f a b c).2.1∧(DO d f a b c).2.2=b
 | 0,a,b,c=>by unfold DO;exact ⟨Nat.le_refl _,rfl⟩
 | f+1,a,b,c=>by
   unfold DO;split
   ·have:=LX d f (a+1) b (c++[AC d a]);exact ⟨by omega,this.2⟩
   ·exact ⟨Nat.le_refl _,rfl⟩
theorem G6(a x):FC 1 x (CY a x).2:=by have h:=LX a a.length x.v9 x.aT [];have e:=Ct a [41] ⟨(DO a a.length x.v9 x.aT []).2.1,(DO a a.length x.v9 x.aT []).2.2,x.pl,x.ca⟩;obtain ⟨b,d,f,c⟩:=e;refine ⟨Nat.le_trans h.1 b,rfl,rfl,fun q=>?_⟩;have:=c q;exact ⟨by rw [←h.2];exact this.1,by have:=this.2;simp only at this;exact Nat.le_trans (by omega) this⟩
theorem TX(a x s):EO 1 x (Hg a x s).2:=by
 have E:=Ct a;have G:=Gn a;have I:=G6 a;unfold Hg;split
 ·have:=E [110,101,119] x;obtain ⟨f,n,o,g⟩:=this;exact ⟨f,by simp only;omega,by simp only;omega,by simp only;omega,by simp only;omega,g⟩
 ·split
  ·simp only;split
   ·exact ((((E _ _).trans (G _ _)).trans ((E _ _).trans (G _ _))).one).less (by omega)
   ·exact (((E _ _).trans (G _ _)).one).less (by omega)
  ·split
   ·exact (((E _ _).trans (G _ _)).one).less (by omega)
   ·split
    ·exact (((E _ _).trans (G _ _)).one).less (by omega)
    ·split
     ·have A:=((E [40] x).trans (E [42] _)).trans ((G 1 (Ay a [42] (Ay a [40] x))).trans ((E [41] _).trans (E [40] _)));have Z:=I ⟨(Ay a [40] (Ay a [41] (Ce a 1 (Ay a [42] (Ay a [40] x))).2)).v9,(Ay a [40] (Ay a [41] (Ce a 1 (Ay a [42] (Ay a [40] x))).2)).aT,(Ay a [40] (Ay a [41] (Ce a 1 (Ay a [42] (Ay a [40] x))).2)).pl,(Ay a [40] (Ay a [41] (Ce a 1 (Ay a [42] (Ay a [40] x))).2)).ca+1⟩;obtain ⟨k,l,m,e⟩:=A;obtain ⟨h,i,j,d⟩:=Z;simp only at h i j d;refine ⟨by simp only;omega,by simp only;omega,by simp only;omega,by simp only;omega,by simp only;omega,fun q=>?_⟩;have b:=d q;have c:=e b.1;exact ⟨c.1,by simp only;omega⟩
     ·simp only;split
      ·exact (((G _ _).trans ((E _ _).trans (I _))).one).less (by omega)
      ·exact ((G _ _).one).less (by omega)
theorem Oi(a b x):EO 1 x (C5 a b x).2:=by
 have E:=Ct a;have G:=Gn a;unfold C5;split
 ·exact (((E _ _).trans (G _ _)).one).less (by omega)
 ·split
  ·exact (((E _ _).trans (G _ _)).one).less (by omega)
  ·split
   ·exact ((((E _ _).trans (G _ _)).trans ((E _ _).trans (G _ _))).one).less (by omega)
   ·exact (EO.behind ((G _ _).trans (E _ _)) (TX a _ _)).less (by omega)
theorem TW(a x s):(Hg a x s).1.bD=s.bD∧(Hg a x s).1.other=s.other:=by
 unfold Hg;split
 ·exact ⟨rfl,rfl⟩
 ·split
  ·simp only;split<;>exact ⟨rfl,rfl⟩
  ·split
   ·exact ⟨rfl,rfl⟩
   ·split
    ·exact ⟨rfl,rfl⟩
    ·split
     ·exact ⟨rfl,rfl⟩
     ·simp only;split<;>exact ⟨rfl,rfl⟩
theorem Wk{b n}(c:(AC b (n-1)).sort=0)(x s)(a:x.v9<n):(Hg b x s).2.v9<n:=by
 have E:∀(L:List UInt8) (x:St),x.v9<n→(Ay b L x).v9<n:=fun L x h=>EW rfl c h
 have G:∀(k:Nat) (x:St),k≠0→x.v9<n→(Ce b k x).2.v9<n:=fun k x d h=>Ig (q:=(Ce b k x).1) rfl d c h
 have I:∀(x:St),x.v9<n→(CY b x).2.v9<n:=fun x h=>Jb (q:=(CY b x).1) rfl c h
 unfold Hg;split
 ·exact E _ _ a
 ·split
  ·simp only;split
   ·exact G _ _ (by decide) (E _ _ (G _ _ (by decide) (E _ _ a)))
   ·exact G _ _ (by decide) (E _ _ a)
  ·split
   ·exact G _ _ (by decide) (E _ _ a)
   ·split
    ·exact G _ _ (by decide) (E _ _ a)
    ·split
     ·exact I _ (E _ _ (E _ _ (G _ _ (by decide) (E _ _ (E _ _ a)))))
     ·simp only;split
      ·exact I _ (E _ _ (G _ _ (by decide) a))
      ·exact G _ _ (by decide) a
def Pi(n:Nat)(x:St)(m:Nat):Prop:=x.v9<n∧x.pl≤n∧x.ca≤n∧m≤n∧(x.aT=none→x.pl≤x.v9∧x.ca≤x.v9∧m≤x.v9)
theorem Pi.bO{n m k:Nat}{x y:St}(h:Pi n x m)(q:FC k x y)(f:y.v9<n):Pi n y m:=by obtain ⟨i,j,l,c,d⟩:=h;obtain ⟨o,p,r,g⟩:=q;refine ⟨f,by omega,by omega,c,fun e=>?_⟩;have a:=g e;have b:=d a.1;omega
theorem Qf{a n}(c:(AC a (n-1)).sort=0)(e x)(b:x.v9<n):(C5 a e x).2.v9<n:=by
 have E:∀(L:List UInt8) (x:St),x.v9<n→(Ay a L x).v9<n:=fun L x h=>EW rfl c h
 have G:∀(k:Nat) (x:St),k≠0→x.v9<n→(Ce a k x).2.v9<n:=fun k x d h=>Ig (q:=(Ce a k x).1) rfl d c h
 unfold C5;split
 ·exact G _ _ (by decide) (E _ _ b)
 ·split
  ·exact G _ _ (by decide) (E _ _ b)
  ·split
   ·exact G _ _ (by decide) (E _ _ (G _ _ (by decide) (E _ _ b)))
   ·exact Wk c _ _ (E _ _ (G _ _ (by decide) b))
theorem ET{a n}(M:(AC a (n-1)).sort=0):∀f:Nat,
 (∀(c:Nat) (x:St) (d:List FS) (g:List Nat),Pi n x d.length→Pi n (AQ a f c x d g).2.1 (AQ a f c x d g).2.2.length∧x.v9≤(AQ a f c x d g).2.1.v9∧d.length≤(AQ a f c x d g).2.2.length)∧
 (∀(c:Nat) (x:St) (d:List FS),Pi n x d.length→x.aT=none→Pi n (Bx a f c x d).2.1 (Bx a f c x d).2.2.length∧x.v9≤(Bx a f c x d).2.1.v9∧d.length≤(Bx a f c x d).2.2.length∧(f≠0→(Bx a f c x d).2.1.aT=none→x.v9<(Bx a f c x d).2.1.v9)):=by
 have E:=Ct a;have C:∀(L:List UInt8) (x:St),x.v9<n→(Ay a L x).v9<n:=fun L x h=>EW rfl M h
 intro f;induction f with
 | zero=>
   refine ⟨fun c x d g h=>?_,fun c x d h _=>?_⟩
   ·rw [AQ];exact ⟨h,Nat.le_refl _,Nat.le_refl _⟩
   ·rw [Bx];exact ⟨h,Nat.le_refl _,Nat.le_refl _,fun q=>absurd rfl q⟩
 | succ f o=>
   refine ⟨fun c x d g h=>?_,fun c x d h A=>?_⟩
   ·rw [AQ];split
    ·exact ⟨h,Nat.le_refl _,Nat.le_refl _⟩
    ·rename_i X;have A:x.aT=none:=by
      cases Y:x.aT with
      | none=>rfl
      | some b=>exact absurd (.inl (by simp [Y])) X
     obtain ⟨k,v,w,_⟩:=o.2 c x d h A;obtain ⟨l,F,G⟩:=o.1 c _ _ (g++[(Bx a f c x d).1]) k;exact ⟨l,Nat.le_trans v F,Nat.le_trans w G⟩
   ·have hi:=h;obtain ⟨K,h2,h3,h4,W⟩:=h;obtain ⟨p1,p2,p3⟩:=W A;rw [Bx];split
    ·simp only;have j:=((E (Bq (AC a x.v9)) x).trans (E [63] _)).trans (E [123] (Ay a [63] (Ay a (Bq (AC a x.v9)) x)));have y:=C [63] _ (C (Bq (AC a x.v9)) x K);have S:=C [123] _ y;generalize Ay a [63] (Ay a (Bq (AC a x.v9)) x)=Z at*;generalize Ay a [123] Z=p at*;have P:Pi n p (d++[EN 0 0]).length:=by obtain ⟨z,m,V,I⟩:=j;refine ⟨S,by omega,by omega,by simp;omega,fun e=>?_⟩;have:=I e;simp only [List.length_append,List.length_cons,List.length_nil];omega
     obtain ⟨k,v,w⟩:=o.1 c p (d++[EN 0 0]) [] P;generalize AQ a f c p (d++[EN 0 0]) []=r at*;have a0:d.length+1≤r.2.2.length:=by simpa using w
     have s:=E [125] r.2.1;have H:=C [125] r.2.1 k.1;have u:=k.bO s H;generalize Ay a [125] r.2.1=i at*;have z:p.v9≤i.v9:=Nat.le_trans v s.1;have m:i.aT=none→x.v9<i.v9:=fun e=>by have q:=s.2.2.2 e;have:=j.1;omega
     split
     ·split
      ·have D:=(E GK i).trans (E [123] (Ay a GK i));have T:=C [123] _ (C GK i H);generalize Ay a GK i=x4 at*;generalize Ay a [123] x4=N at*;have Q:=u.bO D T;obtain ⟨l,F,G⟩:=o.1 c N r.2.2 [] Q;generalize AQ a f c N r.2.2 []=B at*;have t:=E [125] B.2.1;have U:=C [125] B.2.1 l.1;have R:=l.bO t U;generalize Ay a [125] B.2.1=x5 at*;have:=j.1;have:=D.1;have:=t.1;refine ⟨by simpa using R,by simp only;omega,by simp only [List.length_set];omega,fun _ e=>?_⟩;have q:=t.2.2.2 e;simp only;omega
      ·have:=j.1;exact ⟨by simpa using u,by simp only;omega,by simp only [List.length_set];omega,fun _ e=>m e⟩
     ·have:=j.1;exact ⟨by simpa using u,by simp only;omega,by simp only [List.length_set];omega,fun _ e=>m e⟩
    ·simp only;have O:=(Oi a c x).ahead (E [59] (C5 a c x).2);have y:=C [59] _ (Qf M c x K);generalize Ay a [59] (C5 a c x).2=x1 at*;obtain ⟨z,m,V,I,g5,J⟩:=O;refine ⟨⟨y,by omega,by omega,by simp;omega,fun e=>?_⟩,z,by simp,fun _ e=>?_⟩
     ·have:=J e;simp only [List.length_set,List.length_append,List.length_cons,List.length_nil];omega
     ·have:=J e;omega
end Go.Proofs.YtegmjgjkcdbmkaaGreatDoor

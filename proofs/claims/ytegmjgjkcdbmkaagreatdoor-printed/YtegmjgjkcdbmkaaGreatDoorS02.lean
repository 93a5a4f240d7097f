/- One of the texts of the proof: CtP LexE Mem PaA PaB RdA RdB RdC RdD RdE RdI RdM ScA ScB ScC ScD ScE ScF ScG ScH ScI ScJ. -/
import Derived.Test.YtegmjgjkcdbmkaaGreatDoorS01
import Derived.Test.YtegmjgjkcdbmkaaGreatDoorProg
import Derived.WalkKit
import Derived.WalkSpells
import Derived.WalkLawsBesides
import Derived.RegionTactic
import Derived.ChangeAlike
import Derived.BigRegion
import Derived.Deep.QuietTactic
import Derived.BigQuiet
import Derived.Deep.RegionLaw
import Derived.Deep.DeepCutAuto
import Derived.Laws.RangeAny
import Derived.Laws.Strings
import Derived.Lib.OthersKept
set_option maxRecDepth 100000
set_option maxHeartbeats 1000000
namespace Go.Proofs.YtegmjgjkcdbmkaaGreatDoor
open Go.RowKit
structure Tk where
 a9:ByteArray
 pos:Nat
 sort:Nat
structure Ab(X:Nat→Prop)(w w':World):Prop where
 os:w'.os=w.os
 tape:w'.tape=w.tape
 output:w'.output=w.output
 size:w.heap.size≤w'.heap.size
 block:∀k,k<w.heap.size→¬X k→w'.heap[k]? =w.heap[k]?
theorem Ab.refl(X:Nat→Prop)(w):Ab X w w:=⟨rfl,rfl,rfl,rN _,fun _ _ _=>rfl⟩
theorem Ab.trans{X:Nat→Prop}{a b c:World}(h:Ab X a b)(k:Ab X b c):Ab X a c:=
 ⟨k.os.trans h.os,k.tape.trans h.tape,k.output.trans h.output,rO h.size k.size,fun i d e=>(k.block i (rP d h.size) e).trans (h.block i d e)⟩
theorem Ab.mono{X Y:Nat→Prop}{a b}(h:Ab X a b)(d:∀k,k<a.heap.size→X k→Y k):Ab Y a b:=
 ⟨h.os,h.tape,h.output,h.size,fun k c e=>h.block k c (fun q=>e (d k c q))⟩
theorem Ab.drew{X:Nat→Prop}{a w}(h:Ab X a w):Ab X a w.drew:=⟨h.os,h.tape,h.output,h.size,h.block⟩
theorem Ab.drewN{X:Nat→Prop}{a w}(h:Ab X a w)(n):Ab X a (w.drewN n):=h.trans ⟨rfl,rfl,rfl,rN _,fun _ _ _=>rfl⟩
theorem Ab.alloc{X:Nat→Prop}{a w}(h:Ab X a w)(o):Ab X a (w.alloc o):=
 h.trans ⟨rfl,rfl,rfl,by simp,fun k b _=>Below.heap_alloc _ _ _ b⟩
theorem Ab.setCell{X:Nat→Prop}{a w}(h:Ab X a w){p}(b:X p.block∨a.heap.size≤p.block)(u):Ab X a (w.setCell p u):=by
 refine ⟨h.os,h.tape,h.output,by have:=h.size;simpa [World.setCell] using this,fun k d c=>?_⟩;rw [Below.heap_setCell _ _ _ _ ?_]
 ·exact h.block k d c
 ·intro e;subst e;rcases b with b | b
  ·exact c b
  ·omega
theorem Ab.d8{b a w}(h:Ab (fun k=>k=b) a w)(i u):Ab (fun k=>k=b) a (w.setCell ⟨b,i,none⟩ u):=h.setCell (.inl rfl) u
theorem Ab.u9{X:Nat→Prop}{b a w}(h:Ab X a w)(i u)(c:a.heap.size≤b):Ab X a (w.setCell ⟨b,i,none⟩ u):=h.setCell (.inr c) u
theorem Ab.below{X:Nat→Prop}{a b}(h:Ab X a b)(d:∀k,X k→a.heap.size≤k):Below a.heap.size a b:=
 ⟨h.os,h.tape,h.output,h.size,fun k c=>h.block k c (fun q=>by have:=d k q;omega)⟩
theorem Ab.bL{X:Nat→Prop}{B a b}(h:Ab X a b)(d:B≤a.heap.size)(c:∀k,X k→B≤k):Below B a b:=
 ⟨h.os,h.tape,h.output,h.size,fun k e=>h.block k (by omega) (fun q=>by have:=c k q;omega)⟩
theorem Ab.grown{X:Nat→Prop}{a w g f}(h:Ab X a w)(b:w.grownBy g f)(i:∀k,f=some k→X k∨a.heap.size≤k):Ab X a g:=by
 refine ⟨b.os.trans h.os,b.tape.trans h.tape,b.output.trans h.output,rO h.size b.size,fun k c d=>?_⟩;rw [b.block k (rP c h.size) ?_]
 ·exact h.block k c d
 ·intro e;rcases i k e.symm with q | q
  ·exact d q
  ·omega
theorem Ar{w:World}{b:Nat}{a:Array Value}{t:TypeId}{c:Nat×Nat}(h:w.heap[b]? =some (.cells a t c))(i:Nat):w.cell? ⟨b,i,none⟩=a[i]? :=by simp [World.cell?,h]
theorem AE{w:World}{b:Nat}{a:Array Value}{t:TypeId}(h:w.heap[b]? =some (.cells a t (0,0)))(i:Nat):w.frozen? ⟨b,i,none⟩=false:=by simp [World.frozen?,h]
theorem Ae{w:World}{b:Nat}{o:Obj}(h:w.heap[b]? =some o):b<w.heap.size:=(Array.getElem?_eq_some_iff.1 h).1
theorem OG{w:World}{b:Nat}{a:Array Value}{t:TypeId}{c:Nat×Nat}(h:w.heap[b]? =some (.cells a t c))(i:Nat)(u:Value):(w.setCell ⟨b,i,none⟩ u).heap[b]? =some (.cells (a.setIfInBounds i u) t c):=by simp [World.setCell,Array.getElem?_modify,h]
theorem Ac{w d B e c v n f}{X:Nat→Prop}(h:w.ownsRow B e c v n f)(o:Ab X w d)(p:∀k,v.ownBlock=some k→¬X k):d.ownsRow B e c v n f:=by
 refine ⟨h.1,?_⟩;rcases h.2 with l | ⟨g,i,j,b,m,a,r⟩
 ·exact .inl l
 ·refine .inr ⟨g,i,j,b,m,?_,r⟩;rw [o.block g (Ae a) (p g (by rw [b];rfl))];exact a
def Ak(b:Nat)(a:Array Value)(t:TypeId)(w:World):Prop:=w.heap[b]? =some (.cells a t (0,0))
theorem Ak.O{b a t}{X:Nat→Prop}{w w'}(h:Ak b a t w)(c:Ab X w w')(d:¬X b):Ak b a t w':=by unfold Ak at h⊢;rw [c.block b (Ae h) d];exact h
theorem Ak.set{b a t w}(h:Ak b a t w)(i u):Ak b (a.setIfInBounds i u) t (w.setCell ⟨b,i,none⟩ u):=OG h i u
theorem Ak.bE{b c a t w}(h:Ak b a t w)(i u)(d:b≠c):Ak b a t (w.setCell ⟨c,i,none⟩ u):=by unfold Ak at h⊢;rw [Below.heap_setCell _ _ _ _ d];exact h
theorem Ak.alloc{b a t w}(h:Ak b a t w)(o):Ak b a t (w.alloc o):=by have:=Ae h;unfold Ak at h⊢;rw [Below.heap_alloc _ _ _ this];exact h
theorem Ak.new(w:World)(a:Array Value)(t:TypeId):Ak w.heap.size a t (w.alloc (.cells a t)):=heap_alloc_new w _
theorem Ak.cell{b a t w}(h:Ak b a t w)(i):w.cell? ⟨b,i,none⟩=a[i]? :=Ar h i
theorem Ak.frozen{b a t w}(h:Ak b a t w)(i):w.frozen? ⟨b,i,none⟩=false:=AE h i
theorem Ak.ne{a b:Nat}{c d:Array Value}{t u:TypeId}{w:World}(h:Ak a c t w)(k:Ak b d u w)(e:t≠u):a≠b:=by rintro rfl;unfold Ak at h k;rw [h] at k;simp only [Option.some.injEq,Obj.cells.injEq] at k;exact e k.2.1
theorem Ad{w:World}{B:Nat}{e:TypeId}{f:Nat}{v:Value}{n:Nat}{i:List Value}(h:w.ownsRow B e f v n i):∃a l c,v=.slice a l c:=by
 rcases h.2 with ⟨b,_⟩ | ⟨g,j,k,d,_⟩
 ·exact ⟨_,_,_,b⟩
 ·exact ⟨_,_,_,d⟩
theorem Ao{w:World}{B B':Nat}{e:TypeId}{a:Nat}{v:Value}{n:Nat}{b:List Value}(h:w.ownsRow B e a v n b)(i:B'≤B):w.ownsRow B' e a v n b:=by
 refine ⟨h.1,?_⟩;rcases h.2 with f | ⟨g,c,d,k,j,r⟩
 ·exact .inl f
 ·exact .inr ⟨g,c,d,k,rO i j,r⟩
theorem Aa{p}(h:p):dN p:=h
theorem Ab.tr{b c a w d}(h:Ab (fun k=>k=b∨k=c) a w)(k:Ab (fun k=>k=b) w d):Ab (fun k=>k=b∨k=c) a d:=h.trans (k.mono (fun _ _ q=>.inl q))
theorem Ab.bI{X:Nat→Prop}{a w b}(h:Ab X a w)(k:Ab (fun _=>False) w b):Ab X a b:=h.trans (k.mono (fun _ _ q=>q.elim))
theorem Av{w c B e b v n d}{X:Nat→Prop}(h:w.ownsRow B e b v n d)(p:Ab X w c)(t:∀k i l,X k→w.heap[k]? ≠some (.cells i e l)):c.ownsRow B e b v n d:=by
 refine ⟨h.1,?_⟩;rcases h.2 with m | ⟨g,f,j,s,o,a,r⟩
 ·exact .inl m
 ·refine .inr ⟨g,f,j,s,o,?_,r⟩;rw [p.block g (Ae a) (fun q=>t g _ _ q a)];exact a
theorem Hq{P:Program}{w:World}(F:Nat)(t l e:TypeId)(i:TypeInfo)(z:Value)(x:P.underlying t=some (.slice e))(p:P.info? e=some i)(D:i.zero=some z)
 (v:Value)(n:Nat)(y:List Value)(r:w.ownsRow F e i.size v n y)
 (a:Addr)(m c:Nat)(d:List Value)(h:d.length=m*i.size)(q:∀j u,d[j]? =some u→w.cell? (a.add j)=some u)(G:∀u∈d,u.oneCell'=true)
 (L:0<m)(H:n+m≤maxLen)(B:(n+m)*i.bytes≤140737488355328){E:Value}{N:World}(s:(Builtin.append_ #[t,t] l #[v,.slice (some a) m c]).run P w=.ok E N):
 ∀k,E.ownBlock=some k→v.ownBlock=some k∨w.heap.size≤k:=by
 intro k f;have O:n+m≤9223372036854775807:=by simp only [maxLen] at H;omega
 rcases r.2 with ⟨rfl,rfl⟩ | ⟨g,o,A,rfl,_,K,R,Q,I,S⟩
 ·have b:=run_append_nil (P:=P) w t l e i z x p D a m c d h q L (by omega) (by simp only [Nat.zero_add] at B;omega);rw [s] at b;simp only [Result.ok.injEq] at b;rw [b.1] at f;simp [Value.ownBlock] at f;exact .inr (by omega)
 ·by_cases C:n+m≤o
  ·have J:n*i.size+d.length≤A.size:=by rw [h,I,←Nat.add_mul];exact Nat.mul_le_mul_right _ C
   have b:=run_append_room (P:=P) w t l e i x p g n o A K a m c d h q G C J;rw [s] at b;simp only [Result.ok.injEq] at b;rw [b.1] at f;exact .inl (by simpa [Value.ownBlock] using f)
  ·have M:∀j u,y[j]? =some u→w.cell? ((⟨g,0,none⟩:Addr).add j)=some u:=r.cells (g:=g) rfl;have b:=run_append_grow (P:=P) w t l e i z x p D ⟨g,0,none⟩ n o y r.1 M a m c d h q (by omega) (by omega) (growslice_fits (by omega) B);rw [s] at b;simp only [Result.ok.injEq] at b;rw [b.1] at f;simp [Value.ownBlock] at f;exact .inr (by omega)
theorem AT{P:Program}{M:Array Oper}{o:Oper}{a:Act}{w:World}{K:Act→World→Prop}{Q:Exit→Act→World→Prop}{E:Prop}
 (T:o.guard=none)(s x:Operand)(t:TypeId)(V:o.op=Op.call {callee:=Callee.builtin Builtin.append,args:=#[s,x],argTypes:=#[t,t]})
 (g:Nat)(e:TypeId)(i:TypeInfo)(z:Value)(b q:Nat)(A:P.underlying t=some (.slice e))(C:P.info? e=some i)(D:i.zero=some z)(F:i.size=b)(G:i.bytes=q)(N:z.cells.size=b)(O:0<b)
 (v:Value)(n:Nat)(p:List Value)(W:a.eval s=v)(J:w.ownsRow g e b v n p)
 (l:Addr)(m c:Nat)(d:List Value)(Y:a.eval x=.slice (some l) m c)(I:d.length=m*b)(H:∀j u,d[j]? =some u→w.cell? (l.add j)=some u)(B:∀u∈d,u.oneCell'=true)
 (U:0<m)(r:n+m≤maxLen)(y:(n+m)*q≤140737488355328)(S:g≤w.heap.size)
 (R:∀f h,h.ownsRow g e b f (n+m) (p++d)→w.grownBy h v.ownBlock→(∀k,f.ownBlock=some k→v.ownBlock=some k∨w.heap.size≤k)→K (a.put o.dst f) h):
 if Region.wanted o (yielded M a.tmps)=true then Oper.wp P o a w K Q else E:=by
 have X:Region.wanted o (yielded M a.tmps)=true:=by simp [Region.wanted,T]
 rw [if_pos X];obtain ⟨f,h,L,Z,r2,_⟩:=run_append_own (P:=P) w g t o.type e i z b q A C D F G N O v n p J l m c d I H B r y S;have r3:∀k,f.ownBlock=some k→v.ownBlock=some k∨w.heap.size≤k:=by subst F;subst G;exact Hq g t o.type e i z A C D v n p J l m c d I H B U r y L
 unfold Oper.wp;simp [execOp,V,resolve,invoke,builtin,W,Y,L,Result.andThen];exact R f h Z r2 r3
theorem A5{w:World}{g:Nat}(e:g=w.heap.size)(a:Array Value)(t:TypeId):∀j u,a.toList[j]? =some u→(w.alloc (.cells a t)).cell? ((⟨g,0,none⟩:Addr).add j)=some u:=by
 intro j u h;subst e;have d:=(Ak.new w a t).cell j;have c:(⟨w.heap.size,0,none⟩:Addr).add j=⟨w.heap.size,j,none⟩:=by
  simp only [Addr.add];split
  ·rename_i b;subst b;rfl
  ·simp
 rw [c,d];simpa using h
theorem Aj{w:World}{B:Nat}{e:TypeId}{m:Nat}{v:Value}{n:Nat}{o:List Value}(h:w.ownsRow B e m v n o){b:Nat}{d:Array Value}{t:TypeId}{f:Nat×Nat}(i:w.heap[b]? =some (.cells d t f))(j:t≠e):∀k,v.ownBlock=some k→k≠b:=by
 intro k a e;subst e;rcases h.2 with ⟨g,_⟩ | ⟨r,p,q,l,_,c,_⟩
 ·rw [g] at a;simp [Value.ownBlock] at a
 ·rw [l] at a;simp [Value.ownBlock] at a;subst a;rw [i] at c;simp only [Option.some.injEq,Obj.cells.injEq] at c;exact j c.2.1
theorem Aq{w:World}{B:Nat}{e:TypeId}{d:Nat}{a:Option Addr}{l c n:Nat}{f:List Value}(h:w.ownsRow B e d (.slice a l c) n f):l=n:=by
 rcases h.2 with ⟨b,g⟩ | ⟨_,_,_,b,_⟩
 ·simp at b;omega
 ·simp at b;omega
theorem AA{w:World}{B:Nat}{e:TypeId}{f:Nat}{a:Option Addr}{l c n:Nat}{g:List Value}(h:w.ownsRow B e f (.slice a l c) n g)(j:0<n):∃b,a=some ⟨b,0,none⟩:=by
 rcases h.2 with ⟨_,i⟩ | ⟨b,_,_,d,_⟩
 ·omega
 ·simp only [Value.slice.injEq] at d;exact ⟨b,d.1⟩
theorem J9{w:World}{B:Nat}{e:TypeId}{g:Nat}{d l c n:Nat}{i:List Value}(h:w.ownsRow B e g (.slice (some ⟨d,0,none⟩) l c) n i):∃b,w.heap[d]? =some (.cells b e (0,0)):=by
 rcases h.2 with ⟨a,_⟩ | ⟨j,_,b,a,_,f,_⟩
 ·simp at a
 ·simp only [Value.slice.injEq,Option.some.injEq,Addr.mk.injEq] at a;rw [a.1.1];exact ⟨b,f⟩
theorem Tryz.infoInt:(Tryz.prog.info? 3).map (fun i=>(i.zero,i.size,i.bytes))=some (some (.int .i64 0),1,8):=by kernel_rfl
theorem EG{P}(w){M N o a}{Q:Exit→Act→World→Prop}(S:o.guard=none)(s x t)
 (U:o.op=.call {callee:=.builtin .append,args:=#[s,x],argTypes:=#[t,t]})
 (g e i z b r)(J:P.underlying t=some (.slice e))(D:P.info? e=some i)(L:i.zero=some z)
 (I:i.size=b)(B:i.bytes=r)(Y:z.cells.size=b)(W:0<b)
 (v n q)(V:a.eval s=v)(G:w.ownsRow g e b v n q)
 (p m c d)(X:a.eval x=.slice (some p) m c)(E:d.length=m*b)(F:∀j u,d[j]? =some u→w.cell? (p.add j)=some u)(y:∀u∈d,u.oneCell'=true)
 (T:0<m)(A:n+m≤maxLen)(C:(n+m)*r≤140737488355328)(R:g≤w.heap.size)
 (h:∀f l,l.ownsRow g e b f (n+m) (q++d)→w.grownBy l v.ownBlock→(∀k,f.ownBlock=some k→v.ownBlock=some k∨w.heap.size≤k)→wpList P M Q N (a.put o.dst f) l):wpList P M Q (o::N) a w:=
 wpList_plain S fun K O=>by
  obtain ⟨f,l,H,Z,r2,_⟩:=run_append_own (P:=P) w g t o.type e i z b r J D L I B Y W v n q G p m c d E F y A C R;have r3:∀k,f.ownBlock=some k→v.ownBlock=some k∨w.heap.size≤k:=by subst I;subst B;exact Hq g t o.type e i z J D L v n q G p m c d E F y T A C H
  unfold Oper.wp;simp [execOp,U,resolve,invoke,builtin,V,X,H,Result.andThen];exact O _ _ (h f l Z r2 r3)
theorem D6{w:World}{B:Nat}{t e:TypeId}{j:Nat}{v:Value}{n:Nat}{l:List Value}(h:w.ownsRow B t j v n l)(g:t≠e):∀k b c,v.ownBlock=some k→w.heap[k]? ≠some (.cells b e c):=by
 intro k b c a q;rcases h.2 with ⟨d,_⟩ | ⟨p,m,o,i,_,f,_⟩
 ·rw [d] at a;simp [Value.ownBlock] at a
 ·rw [i] at a;simp [Value.ownBlock] at a;subst a;rw [f] at q;simp only [Option.some.injEq,Obj.cells.injEq] at q;exact g q.2.1
def LD(R:Act→World→Prop):Exit→Act→World→Prop
 | .normal,a,w=>R a w
 | _,_,_=>False
theorem DL{P c}{Q:Exit→Act→World→Prop}{a w}(h:Code.wp P c (LD (fun a w=>Q .normal a w)) a w):Code.wp P c Q a w:=
 Code.wp_mono (fun e a w h=>by cases e<;>first | exact h | exact h.elim) h
structure FS where
 kind:Nat
 p:Tk
 q:Tk
 field:Nat
 args:List Tk
 c9:Nat
 bD:List Nat
 other:List Nat
 br:Int
 cG:Int
 aW:Nat
def Wf:Tk:=⟨ByteArray.empty,0,0⟩
def AC(l:List Tk)(i:Nat):Tk:=l[i]?.getD Wf
def Xb(t:Tk)(l:List UInt8):Bool:=t.a9.toList==l && (t.sort==2 || t.sort==4)
def DQ(a:Option Nat)(t:Tk)(l:List UInt8):Bool:=a.isNone && Xb t l
def Hz(a:Option Nat)(p:Nat):Option Nat:=match a with | none=>some p | some b=>some b
def JS(c:List Tk)(a:Nat)(b:Option Nat)(l:List UInt8):Nat×Option Nat:=
 if DQ b (AC c a) l=true then (a+1,b) else (a,Hz b (AC c a).pos)
def JU(c:List Tk)(a:Nat)(b:Option Nat)(d:Nat):Tk×Nat×Option Nat:=
 if b.isNone=true∧(AC c a).sort=d then (AC c a,a+1,b) else (Wf,a,Hz b (AC c a).pos)
def DO(d:List Tk):Nat→Nat→Option Nat→List Tk→List Tk×Nat×Option Nat
 | 0,a,b,c=>(c,a,b)
 | f+1,a,b,c=>if b=none∧(AC d a).sort=1 then DO d f (a+1) b (c++[AC d a]) else (c,a,b)
theorem Jc{d f b a c}(h:¬(a=none∧(AC d b).sort=1)):DO d f b a c=(c,b,a):=by
 cases f with
 | zero=>rfl
 | succ f=>simp only [DO,if_neg h]
def F8(a:List Tk)(c:Nat)(b:Option Nat):List Tk×Nat×Option Nat:=
 ((DO a a.length c b []).1,JS a (DO a a.length c b []).2.1 (DO a a.length c b []).2.2 [41])
def Bq(t:Tk):List UInt8:=if t.sort=2∨t.sort=4 then t.a9.toList else []
structure St where
 v9:Nat
 aT:Option Nat
 pl:Nat
 ca:Nat
def Ay(a:List Tk)(l:List UInt8)(x:St):St:=⟨(JS a x.v9 x.aT l).1,(JS a x.v9 x.aT l).2,x.pl,x.ca⟩
def Ce(a:List Tk)(g:Nat)(x:St):Tk×St:=((JU a x.v9 x.aT g).1,⟨(JU a x.v9 x.aT g).2.1,(JU a x.v9 x.aT g).2.2,x.pl,x.ca⟩)
def CY(a:List Tk)(x:St):List Tk×St:=((F8 a x.v9 x.aT).1,⟨(F8 a x.v9 x.aT).2.1,(F8 a x.v9 x.aT).2.2,x.pl,x.ca⟩)
def WS(l:List UInt8)(g:Nat):Nat→Nat
 | 0=>g
 | k+1=>if l=[UInt8.ofNat (48+k)] then k else WS l g k
def Hg(a:List Tk)(x:St)(s:FS):FS×St:=
 if Bq (AC a x.v9)=[110,101,119] then
  let k:=Ay a [110,101,119] x
  ({s with kind:=2,c9:=k.pl+1},{k with pl:=k.pl+1})
 else if Bq (AC a x.v9)=[38] then
  let k:=Ay a [38] x
  let g:=Ce a 1 k
  if DQ g.2.aT (AC a g.2.v9) [46]=true then
   let w:=Ay a [46] g.2
   let u:=Ce a 3 w
   ({s with kind:=4,q:=g.1,field:=WS u.1.a9.toList s.field 4},u.2)
  else ({s with kind:=3,q:=g.1},g.2)
 else if Bq (AC a x.v9)=[42] then
  let k:=Ay a [42] x
  let g:=Ce a 1 k
  ({s with kind:=5,q:=g.1},g.2)
 else if Bq (AC a x.v9)=[64] then
  let k:=Ay a [64] x
  let g:=Ce a 1 k
  ({s with kind:=6,q:=g.1},g.2)
 else if Bq (AC a x.v9)=[40] then
  let k:=Ay a [40] x
  let p:=Ay a [42] k
  let n:=Ce a 1 p
  let y:=Ay a [41] n.2
  let r:=Ay a [40] y
  let t:St:={r with ca:=r.ca+1}
  let v:=CY a t
  ({s with kind:=9,q:=n.1,c9:=t.ca,args:=v.1},v.2)
 else
  let l:=Ce a 1 x
  if DQ l.2.aT (AC a l.2.v9) [40]=true then
   let p:=Ay a [40] l.2
   let n:=CY a p
   ({s with kind:=8,q:=l.1,args:=n.1},n.2)
  else ({s with kind:=7,q:=l.1},l.2)
section
variable {h f i d g n b : Nat} {a : List Tk} {c m : Value} {x : St} {j e : Array Value} {w o : World}
end
def EN(a:Nat)(b:Int):FS:=⟨0,Wf,Wf,0,[],0,[],[],b,b,a⟩
abbrev ZS:List UInt8:=[105,102]
abbrev QH:List UInt8:=[119,104,105,108,101]
abbrev GK:List UInt8:=[101,108,115,101]
abbrev ZH:List UInt8:=[118,97,114]
abbrev RE:List UInt8:=[114,101,116,117,114,110]
def C5(a:List Tk)(b:Nat)(x:St):FS×St:=
 if Bq (AC a x.v9)=ZH then
  let y:=Ce a 1 (Ay a ZH x)
  ({EN b (-1) with kind:=1,p:=y.1},y.2)
 else if Bq (AC a x.v9)=RE then
  let y:=Ce a 1 (Ay a RE x)
  ({EN b (-1) with kind:=11,q:=y.1},y.2)
 else if Bq (AC a x.v9)=[42] then
  let y:=Ce a 1 (Ay a [42] x)
  let z:=Ce a 1 (Ay a [61] y.2)
  ({EN b (-1) with kind:=10,p:=y.1,q:=z.1},z.2)
 else
  let y:=Ce a 1 x
  Hg a (Ay a [61] y.2) {EN b (-1) with p:=y.1}
mutual
def AQ(toks:List Tk):Nat→Nat→St→List FS→List Nat→List Nat×St×List FS
 | 0,_,x,fs,out=>(out,x,fs)
 | f+1,inn,x,fs,out=>
   if x.aT≠none∨DQ x.aT (AC toks x.v9) [125]=true then (out,x,fs)
   else AQ toks f inn (Bx toks f inn x fs).2.1 (Bx toks f inn x fs).2.2 (out++[(Bx toks f inn x fs).1])
def Bx(toks:List Tk):Nat→Nat→St→List FS→Nat×St×List FS
 | 0,_,x,fs=>(fs.length,x,fs)
 | f+1,inn,x,fs=>
   if Bq (AC toks x.v9)=ZS∨Bq (AC toks x.v9)=QH then
    let x2:=Ay toks [63] (Ay toks (Bq (AC toks x.v9)) x)
    let r:=AQ toks f inn (Ay toks [123] x2) (fs++[EN 0 0]) []
    let x3:=Ay toks [125] r.2.1
    let s:FS:={EN inn (-1) with kind:=13,br:=(AC toks x2.v9).pos,bD:=r.1}
    if Bq (AC toks x.v9)=ZS then
     if DQ x3.aT (AC toks x3.v9) GK=true then
      let x4:=Ay toks GK x3
      let r2:=AQ toks f inn (Ay toks [123] x4) r.2.2 []
      (fs.length,Ay toks [125] r2.2.1,r2.2.2.set fs.length {s with kind:=12,cG:=(AC toks x4.v9).pos,other:=r2.1})
     else (fs.length,x3,r.2.2.set fs.length {s with kind:=12})
    else (fs.length,x3,r.2.2.set fs.length s)
   else
    let y:=C5 toks inn x
    (fs.length,Ay toks [59] y.2,(fs++[EN 0 0]).set fs.length y.1)
end
def AD(B:Nat)(w:World)(v:Value)(l:List Nat):Prop:=w.ownsRow B 3 1 v l.length (l.map fun i:Nat=>Value.int .i64 (i:Int))
def EO(k:Nat)(x y:St):Prop:=x.v9≤y.v9∧x.pl≤y.pl∧y.pl≤x.pl+1∧x.ca≤y.ca∧y.ca≤x.ca+1∧(y.aT=none→x.aT=none∧x.v9+k≤y.v9)
def FC(k:Nat)(x y:St):Prop:=x.v9≤y.v9∧y.pl=x.pl∧y.ca=x.ca∧(y.aT=none→x.aT=none∧x.v9+k≤y.v9)
theorem FC.trans{k l:Nat}{x y z:St}(h:FC k x y)(q:FC l y z):FC (k+l) x z:=
 ⟨by have:=h.1;have:=q.1;omega,by rw [q.2.1,h.2.1],by rw [q.2.2.1,h.2.2.1],fun e=>by have a:=q.2.2.2 e;have b:=h.2.2.2 a.1;exact ⟨b.1,by omega⟩⟩
theorem FC.one{k x y}(h:FC k x y):EO k x y:=⟨h.1,by rw [h.2.1];omega,by rw [h.2.1];omega,by rw [h.2.2.1];omega,by rw [h.2.2.1];omega,h.2.2.2⟩
theorem EO.less{k l:Nat}{x y:St}(h:EO k x y)(a:l≤k):EO l x y:=⟨h.1,h.2.1,h.2.2.1,h.2.2.2.1,h.2.2.2.2.1,fun e=>by have:=h.2.2.2.2.2 e;exact ⟨this.1,by omega⟩⟩
theorem Ky(a p):Hz a p≠none:=by cases a<;>simp [Hz]
theorem Ct(a L x):FC 1 x (Ay a L x):=by
 unfold Ay JS;split
 ·rename_i h;refine ⟨by simp,rfl,rfl,fun e=>⟨e,rN _⟩⟩
 ·exact ⟨rN _,rfl,rfl,fun e=>absurd e (Ky _ _)⟩
def Lz(c:UInt8):Bool:=97≤c && c≤122
def Fb(c:UInt8):Bool:=c==40 || c==41 || c==123 || c==125 || c==59 || c==61 || c==38 || c==42 || c==64 || c==46 || c==63
def Dz(c:UInt8):Bool:=c==32 || c==10
def IX(c:UInt8):Bool:=c==48 || c==49 || c==50 || c==51
def Es:Nat→List UInt8→Option Nat
 | k,[]=>some k
 | k,c::t=>if Lz c then (if k<8 then Es (k+1) t else none) else if Fb c || Dz c || IX c then Es 0 t else none
theorem OE(a b):∀k,Es k (a++b)=(Es k a).bind (fun j=>Es j b):=by
 induction a with
 | nil=>intro k;rfl
 | cons c t d=>
   intro k;simp only [List.cons_append,Es];split
   ·split
    ·exact d _
    ·rfl
   ·split
    ·exact d _
    ·rfl
theorem An{a b k i j}(h:Es k a=some i)(c:Es i b=some j):Es k (a++b)=some j:=by rw [OE,h];exact c
def Cx:Nat→List UInt8
 | 0=>[97]
 | 1=>[98]
 | 2=>[99]
 | _=>[100]
def II:Nat→List UInt8
 | 0=>[109,97,105,110]
 | 1=>[120]
 | 2=>[121]
 | _=>[122]
def PD(n:Nat):List UInt8:=match n with
 | 0=>[48]
 | 1=>[49]
 | 2=>[50]
 | _=>[51]
def JN:List Nat→List UInt8
 | []=>[40,41]
 | [a]=>[40]++Cx a++[41]
 | a::b::_=>[40]++Cx a++[32]++Cx b++[41]
def V4(b p q g k:Nat)(a:List Nat):List UInt8:=
 match b with
 | 0=>Cx p++[32,61,32,110,101,119,59]
 | 1=>Cx p++[32,61,32,38]++Cx q++[59]
 | 2=>Cx p++[32,61,32,64]++II g++[59]
 | 3=>Cx p++[32,61,32]++Cx q++[59]
 | 4=>Cx p++[32,61,32,38]++Cx q++[46]++PD k++[59]
 | 5=>Cx p++[32,61,32,42]++Cx q++[59]
 | 6=>[42]++Cx p++[32,61,32]++Cx q++[59]
 | 7=>Cx p++[32,61,32]++II g++JN a++[59]
 | 8=>Cx p++[32,61,32,40,42]++Cx q++[41]++JN a++[59]
 | _=>[114,101,116,117,114,110,32]++Cx q++[59]
theorem Fz(v k)(h:k<8):Es k (Cx v)=some (k+1):=by unfold Cx;split<;>simp [Es,Lz,h]
theorem Rg(f):∃j,j≤4∧Es 0 (II f)=some j:=by
 unfold II;split
 ·exact ⟨4,by omega,rfl⟩
 all_goals exact ⟨1,by omega,rfl⟩
theorem UP(n k):Es k (PD n)=some 0:=by unfold PD;split<;>rfl
theorem Nk(l k):Es k (JN l)=some 0:=by
 have a:=Fz;unfold JN;split
 ·rfl
 ·exact An (An (i:=0) rfl (Fz _ 0 (by omega))) rfl
 ·exact An (An (An (An (i:=0) rfl (Fz _ 0 (by omega))) (j:=0) rfl) (Fz _ 0 (by omega))) rfl
theorem Xy(d p q g k c):Es 0 (V4 d p q g k c)=some 0:=by
 have a:=fun v=>Fz v 0 (by omega)
 obtain ⟨j,_,b⟩:=Rg g;unfold V4;split
 ·exact An (a p) rfl
 ·exact An (An (An (a p) (j:=0) rfl) (a q)) rfl
 ·exact An (An (An (a p) (j:=0) rfl) b) rfl
 ·exact An (An (An (a p) (j:=0) rfl) (a q)) rfl
 ·exact An (An (An (An (An (a p) (j:=0) rfl) (a q)) (j:=0) rfl) (UP _ _)) rfl
 ·exact An (An (An (a p) (j:=0) rfl) (a q)) rfl
 ·exact An (An (An (An (i:=0) rfl (a p)) (j:=0) rfl) (a q)) rfl
 ·exact An (An (An (An (a p) (j:=0) rfl) b) (Nk _ _)) rfl
 ·exact An (An (An (An (An (a p) (j:=0) rfl) (a q)) (j:=0) rfl) (Nk _ _)) rfl
 ·exact An (An (i:=0) rfl (a q)) rfl
theorem Gz(v):(Cx v).length=1:=by unfold Cx;split<;>rfl
theorem J5(v):(II v).length≤4:=by unfold II;split<;>simp
theorem UO(v):(PD v).length=1:=by unfold PD;split<;>rfl
theorem Nj(l):(JN l).length≤5:=by unfold JN;split<;>simp [Gz]
theorem Xx(b p q g k a):(V4 b p q g k a).length≤16:=by have c:=J5 g;have d:=Nj a;unfold V4;split<;>simp only [rV,Gz,UO,rW,List.length_nil]<;>omega
def Ua(b:Nat)(t:List UInt8):List UInt8:=
 match b with
 | 1=>[105,102,32,63,32,123,32]++t++[32,125]
 | 2=>[105,102,32,63,32,123,32,125,32,101,108,115,101,32,123,32]++t++[32,125]
 | 3=>[119,104,105,108,101,32,63,32,123,32]++t++[32,125]
 | _=>t
theorem XS(b t)(h:Es 0 t=some 0):Es 0 (Ua b t)=some 0:=by
 unfold Ua;split
 ·exact An (An (i:=0) rfl h) rfl
 ·exact An (An (i:=0) rfl h) rfl
 ·exact An (An (i:=0) rfl h) rfl
 ·exact h
theorem XR(b t):(Ua b t).length≤t.length+18:=by unfold Ua;split<;>simp<;>omega
structure PT where
 kind:Nat
 a9:ByteArray
 c9:Nat
structure Sc where
 aU:List PT
 rem:Bool
 start:Nat
 n6:Nat
def CA(l:List UInt8):Nat:=
 if l=[102,110] then 3 else if l=[118,97,114] then 4 else if l=[110,101,119] then 5 else if l=[114,101,116,117,114,110] then 6 else if l=[105,102] then 7 else if l=[101,108,115,101] then 8 else if l=[119,104,105,108,101] then 9 else 1
def Bc(r:Nat):Nat:=
 if r=48∨r=49∨r=50∨r=51 then 2 else if r=40 then 10 else if r=41 then 11 else if r=123 then 12 else if r=125 then 13 else if r=59 then 14 else if r=61 then 15 else if r=38 then 16 else if r=42 then 17 else if r=64 then 18 else if r=46 then 19 else if r=63 then 20 else 0
def F7(r:Nat):Bool:=(decide (97≤r) && decide (r≤122)) || (decide (224≤r) && decide (r≤255) && (r !=247))
def Cy(s:ByteArray)(p r:Nat):Bool:=r==65533 && !(decide (p+3≤s.size) && (s.extract p (p+3)).toList==[239,191,189])
def CC(s:ByteArray)(e:Nat)(x:Sc):Sc:=
 if 0<x.n6 then ⟨x.aU++[⟨CA (s.extract x.start e).toList,s.extract x.start e,x.start⟩],x.rem,x.start,0⟩ else ⟨x.aU,x.rem,x.start,0⟩
def BG(p:Nat)(x:Sc):Sc:=⟨x.aU,x.rem,if x.n6=0 then p else x.start,x.n6+1⟩
def CR(s:ByteArray)(p r:Nat)(x:Sc):Sc×Nat×Bool:=
 if r=32∨r=9∨r=10 then (x,0,true)
 else if r=35 then (⟨x.aU,true,x.start,x.n6⟩,0,true)
 else if Bc r=0 then (x,p,false)
 else (⟨x.aU++[⟨Bc r,s.extract p (p+1),p⟩],x.rem,x.start,x.n6⟩,0,true)
def AI(s:ByteArray)(p r:Nat)(x:Sc):Sc×Nat×Bool:=
 if Cy s p r then (x,p,false)
 else if x.rem then (⟨x.aU,r !=10,x.start,x.n6⟩,0,true)
 else if F7 r then (if 8<x.n6+1 then (BG p x,(BG p x).start,false) else (BG p x,0,true))
 else CR s p r (CC s p x)
def Aw(s:ByteArray):Nat→Nat→Sc→Nat ⊕ Sc
 | 0,_,x=>.inr x
 | f+1,p,x=>if p<s.size then
    (if (AI s p (Utf8.decode s p).1 x).2.2 then Aw s f (p+(Utf8.decode s p).2) (AI s p (Utf8.decode s p).1 x).1
     else .inl (AI s p (Utf8.decode s p).1 x).2.1)
   else .inr x
def AH(s:ByteArray)(x:Sc):List PT:=(CC s s.size x).aU++[⟨0,s.extract s.size s.size,s.size⟩]
theorem CP{s f p x}(h:¬p<s.size):Aw s f p x=.inr x:=by
 cases f with
 | zero=>rfl
 | succ f=>simp only [Aw,if_neg h]
theorem DR{s f p x}(b:s.size-p≤f)(h:p<s.size)(a:(AI s p (Utf8.decode s p).1 x).2.2=false):Aw s f p x=.inl (AI s p (Utf8.decode s p).1 x).2.1:=by
 cases f with
 | zero=>omega
 | succ f=>simp [Aw,if_pos h,a]
theorem Fp(s p)(h:p<s.size):1≤(Utf8.decode s p).2:=by
 by_cases a:(s[p]'h).toNat<128
 ·rw [decode_ascii s p h a];exact rN _
 ·exact (decode_high s p h (by omega)).2
theorem Cm{s f p x}(d:s.size-p≤f)(h:p<s.size)(b:(AI s p (Utf8.decode s p).1 x).2.2=true):
 ∃a,s.size-(p+(Utf8.decode s p).2)≤a∧Aw s f p x=Aw s a (p+(Utf8.decode s p).2) (AI s p (Utf8.decode s p).1 x).1:=by
 have c:=Fp s p h;cases f with
 | zero=>omega
 | succ f=>exact ⟨f,by omega,by simp [Aw,if_pos h,b]⟩
structure JK(p:Nat)(x:Sc):Prop where
 start:x.start≤p
 n6:x.n6≤8
 many:x.aU.length+x.n6≤p
theorem JK.more{p q x}(h:JK p x)(a:p≤q):JK q x:=⟨rO h.start a,h.n6,rO h.many a⟩
theorem JK.bH{s p x}(h:JK p x):JK p (CC s p x):=by
 have a:=h.start;have b:=h.many;unfold Proofs.YtegmjgjkcdbmkaaGreatDoor.CC;split
 ·exact ⟨a,by simp,by simp;omega⟩
 ·exact ⟨a,by simp,by simp;omega⟩
theorem Dq(s p x):(CC s p x).n6=0:=by unfold CC;split<;>rfl
theorem V8{s p r x}(h:JK p x)(a:(AI s p r x).2.2=true):JK (p+1) (AI s p r x).1:=by
 have k:=h.start;have l:=h.many;have m:=h.n6;unfold AI at a⊢;split
 ·rename_i c;simp [c] at a
 ·rename_i c;simp only [c] at a;split
  ·exact ⟨by simp;omega,by simp;omega,by simp;omega⟩
  ·rename_i g;simp only [g] at a;split
   ·rename_i f;simp only [f,if_true] at a;split
    ·rename_i e;simp [e] at a
    ·exact ⟨by simp only [BG];split<;>omega,by simp only [BG];omega,by simp only [BG];omega⟩
   ·have b:=h.bH (s:=s);have i:=b.start;have j:=b.many;have d:=Dq s p x;unfold CR;split
    ·exact b.more (by omega)
    ·split
     ·exact ⟨by simp;omega,by simp [d],by simp;omega⟩
     ·split
      ·exact b.more (by omega)
      ·exact ⟨by simp;omega,by simp [d],by simp;omega⟩
theorem PY{c}(a:(Fb c || Dz c || IX c)=true):F7 c.toNat=false∧((c.toNat=32∨c.toNat=9∨c.toNat=10)∨Bc c.toNat≠0)∧c.toNat≠35:=by
 revert a;have:∀n:Fin 256,(Fb (UInt8.ofNat n) || Dz (UInt8.ofNat n) || IX (UInt8.ofNat n))=true→F7 n=false∧(((n:Nat)=32∨(n:Nat)=9∨(n:Nat)=10)∨Bc n≠0)∧(n:Nat)≠35:=by decide+kernel
 have h:=this ⟨c.toNat,c.toNat_lt⟩;simpa using h
theorem SM{c}(a:Lz c=true):F7 c.toNat=true:=by
 revert a;have:∀n:Fin 256,Lz (UInt8.ofNat n)=true→F7 n=true:=by decide+kernel
 have h:=this ⟨c.toNat,c.toNat_lt⟩;simpa using h
theorem NU{c}(a:Lz c=true∨(Fb c || Dz c || IX c)=true):c.toNat<128:=by
 revert a;have:∀n:Fin 256,Lz (UInt8.ofNat n)=true∨(Fb (UInt8.ofNat n) || Dz (UInt8.ofNat n) || IX (UInt8.ofNat n))=true→(n:Nat)<128:=by decide+kernel
 have h:=this ⟨c.toNat,c.toNat_lt⟩;simpa using h
theorem Fo(s p r)(h:r<65533):Cy s p r=false:=by
 have:(r==65533)=false:=by simp;omega
 simp [Cy,this]
theorem DG{a b}(h:a=b):Ending.returned (.bool a)=.returned (.bool b):=by rw [h]
theorem V0{k a b}(h:a=b):Ending.returned (.int k a)=.returned (.int k b):=by rw [h]
theorem Ii(r:Nat)(w:World):
 Calls Tryz.prog 108 #[.int .i32 r] w fun e b=>e=.returned (.bool (F7 r))∧b=w:=by
 by_cases h:(r:Int)=247
 ·have a:r=247:=by omega
  subst a;go_enter Tryz.func108,Tryz.ntmps108;go_wp2;go_ret;exact ⟨rfl,rfl⟩
 ·have a:(((r:Nat):Int)==247)=false:=by simpa using h
  go_enter Tryz.func108,Tryz.ntmps108;go_wp2;all_goals
   go_ret;exact ⟨DG (by rw [Bool.eq_iff_iff];simp [F7];omega),rfl⟩
theorem P7{r}(a:r≠48)(h:r≠49)(i:r≠50)(j:r≠51)(k:r≠40)(l:r≠41)(m:r≠123)(n:r≠125)(o:r≠59)(b:r≠61)(c:r≠38)(d:r≠42)(e:r≠64)(f:r≠46)(g:r≠63):Bc r=0:=by simp [Bc, *]
theorem Iq(r:Nat)(w:World):
 Calls Tryz.prog 138 #[.int .i32 r] w fun e d=>e=.returned (.tuple #[.int .i64 (Bc r),.bool (Bc r !=0)])∧d=w:=by
 generalize b:Bc r=m;have c:dN (Bc r=m):=b;clear b;go_enter Tryz.func138,Tryz.ntmps138;go_wp2;all_goals
  go_ret2;refine ⟨?_,rfl⟩;have b:=c.o;simp only [beq_iff_eq,beq_eq_false_iff_ne,ne_eq] at*;first
   | (have a:r=48:=by omega
      subst a;subst b;rfl)
   | (have a:r=49:=by omega
      subst a;subst b;rfl)
   | (have a:r=50:=by omega
      subst a;subst b;rfl)
   | (have a:r=51:=by omega
      subst a;subst b;rfl)
   | (have a:r=40:=by omega
      subst a;subst b;rfl)
   | (have a:r=41:=by omega
      subst a;subst b;rfl)
   | (have a:r=123:=by omega
      subst a;subst b;rfl)
   | (have a:r=125:=by omega
      subst a;subst b;rfl)
   | (have a:r=59:=by omega
      subst a;subst b;rfl)
   | (have a:r=61:=by omega
      subst a;subst b;rfl)
   | (have a:r=38:=by omega
      subst a;subst b;rfl)
   | (have a:r=42:=by omega
      subst a;subst b;rfl)
   | (have a:r=64:=by omega
      subst a;subst b;rfl)
   | (have a:r=46:=by omega
      subst a;subst b;rfl)
   | (have a:r=63:=by omega
      subst a;subst b;rfl)
   | (have e:m=0:=by rw [←b];exact P7 (by omega) (by omega) (by omega) (by omega) (by omega) (by omega) (by omega) (by omega) (by omega) (by omega) (by omega) (by omega) (by omega) (by omega) (by omega)
      subst e;rfl)
theorem M6(s w):
 Calls Tryz.prog 111 #[.string s] w fun e a=>e=.returned (.int .i64 (CA s.toList))∧a=w:=by
 go_enter Tryz.func111,Tryz.ntmps111;go_wp2;all_goals
  go_ret;refine ⟨V0 ?_,rfl⟩;first
   | (simp [CA, *];done)
   | (simp_all [CA];done)
def Xa(s p:ByteArray):Bool:=decide (p.size≤s.size) && ((s.extract 0 p.size).toList==p.toList)
theorem KB(s p:ByteArray)(_hs:s.size≤4001)(_hp:p.size≤4001)(w:World):
 Calls Tryz.prog 160 #[.string s,.string p] w fun e d=>e=.returned (.bool (Xa s p))∧d=w:=by
 generalize c:Xa s p=v;have a:dN (Xa s p=v):=c;clear c;by_cases h:p.size≤s.size
 ·cases b:((s.extract 0 p.size).toList==p.toList) with
  | true=> go_enter Tryz.func160,Tryz.ntmps160;go_wp2;go_ret;exact ⟨DG (by rw [←a.o];simp only [Xa,b];simp [h]),rfl⟩
  | false=> go_enter Tryz.func160,Tryz.ntmps160;go_wp2;go_ret;exact ⟨DG (by rw [←a.o];simp only [Xa,b];simp),rfl⟩
 ·have f:s.size<p.size:=by omega
  go_enter Tryz.func160,Tryz.ntmps160;go_wp2;go_ret;exact ⟨DG (by rw [←a.o];simp [Xa,h]),rfl⟩
theorem Lx(s p)(d:s.size≤4001)(c:p.size≤4001)(w):
 Calls Tryz.prog 137 #[.string s,.string p] w fun e b=>e=.returned (.bool (Xa s p))∧b=w:=by
 go_enter Tryz.func137,Tryz.ntmps137;go_wp2_with (go_at_call 160;refine (KB _ _ d c _).mono ?_;rintro e b ⟨rfl,a⟩;have a:=a.symm;subst a);go_ret;exact ⟨rfl,rfl⟩
theorem Vc(s:ByteArray)(p:Nat)(f:p≤s.size):Xa (s.extract p s.size) {data:=#[239,191,189]}=(decide (p+3≤s.size) && (s.extract p (p+3)).toList==[239,191,189]):=by
 have b:(s.extract p s.size).size=s.size-p:=by simp
 have c:ByteArray.size {data:=#[239,191,189]}=3:=rfl;have d:ByteArray.toList {data:=#[239,191,189]}=[239,191,189]:=by rw [ByteArray.toList_eq]
 unfold Xa;rw [b,c,d];by_cases h:p+3≤s.size
 ·have a:3≤s.size-p:=by omega
  have e:(s.extract p s.size).extract 0 3=s.extract p (p+3):=by rw [ByteArray.extract_extract];congr 1;omega
  rw [e];simp [h,a]
 ·have a:¬3≤s.size-p:=by omega
  simp [h,a]
theorem D5(s:ByteArray)(p r:Nat)(j:s.size≤4000)(i:p≤s.size)(w:World):
 Calls Tryz.prog 107 #[.string s,.int .i64 p,.int .i32 r] w fun e d=>e=.returned (.bool (Cy s p r))∧d=w:=by
 have f:=Aa (Vc s p i);generalize c:Cy s p r=v;have b:dN (Cy s p r=v):=c;clear c;by_cases h:r=65533
 ·have g:(((r:Nat):Int)==65533)=true:=by simp;omega
  go_enter Tryz.func107,Tryz.ntmps107;go_wp2_with (go_at_call 137;refine (Lx _ _ (by simp;omega) (by decide) _).mono ?_;rintro e d ⟨rfl,a⟩;have a:=a.symm;subst a);go_ret;exact ⟨DG (by rw [←b.o,f.o];simp [Cy,h]),rfl⟩
 ·have g:(((r:Nat):Int)==65533)=false:=by simp;omega
  go_enter Tryz.func107,Tryz.ntmps107;go_wp2;go_ret;exact ⟨DG (by rw [←b.o];simp [Cy,h]),rfl⟩
def D7(t:PT):List Value:=[.int .i64 t.kind,.string t.a9,.int .i64 t.c9]
def Cr(l:List PT):List Value:=l.flatMap D7
theorem LE(l t):Cr (l++[t])=Cr l++D7 t:=by simp [Cr]
def JY(B b:Nat)(s:ByteArray)(v:Value)(x:Sc)(w:World):Prop:=
 Ak b #[.string s,v,.bool x.rem,.int .i64 x.start,.int .i64 x.n6] 152 w∧w.ownsRow B 114 3 v x.aU.length (Cr x.aU)
structure Fr(b:Nat)(v v':Value)(w w':World):Prop where
 O:Ab (fun k=>k=b∨v.ownBlock=some k) w w'
 own:∀k,v'.ownBlock=some k→v.ownBlock=some k∨w.heap.size≤k
theorem Fr.refl(b v w):Fr b v v w w:=⟨Ab.refl _ _,fun _ h=>.inl h⟩
theorem Fr.trans{b:Nat}{u v t:Value}{w d e:World}(h:Fr b u v w d)(k:Fr b v t d e):Fr b u t w e:=by
 refine ⟨⟨k.O.os.trans h.O.os,k.O.tape.trans h.O.tape,k.O.output.trans h.O.output,rO h.O.size k.O.size,fun i a c=>?_⟩,fun i a=>?_⟩
 ·rw [k.O.block i (rP a h.O.size) ?_]
  ·exact h.O.block i a c
  ·rintro (q | q)
   ·exact c (.inl q)
   ·rcases h.own i q with q | q
    ·exact c (.inr q)
    ·omega
 ·rcases k.own i a with q | q
  ·exact h.own i q
  ·exact .inr (rO h.O.size q)
theorem Fr.drew{b v a w c}(h:Fr b v a w c):Fr b v a w c.drew:=⟨h.O.drew,h.own⟩
theorem Fr.drewN{b v a w c}(h:Fr b v a w c)(n):Fr b v a w (c.drewN n):=⟨h.O.drewN n,h.own⟩
theorem Fr.alloc{b v a w c}(h:Fr b v a w c)(o):Fr b v a w (c.alloc o):=⟨h.O.alloc o,h.own⟩
theorem Fr.set{b v a w c}(h:Fr b v a w c)(i u):Fr b v a w (c.setCell ⟨b,i,none⟩ u):=⟨h.O.setCell (.inl (.inl rfl)) u,h.own⟩
theorem JY.ne{B b s v x w}(h:JY B b s v x w):∀k,v.ownBlock=some k→k≠b:=Aj h.2 h.1 (by decide)
theorem JY.O{B b s v x w w'}(h:JY B b s v x w)(a:Ab (fun _=>False) w w'):JY B b s v x w':=
 ⟨h.1.O a (fun q=>q),Ac h.2 a (fun _ _ q=>q)⟩
def Ix(x:Sc)(t:PT):Sc:=⟨x.aU++[t],x.rem,x.start,x.n6⟩
theorem Tryz.infoPT:(Tryz.prog.info? 114).map (fun i=>(i.zero,i.size,i.bytes))=some (some (.agg #[.int .i64 0,.string ByteArray.empty,.int .i64 0]),3,32):=by kernel_rfl
theorem Ur{B b s v a x t w W c}(h:JY B b s v x w)(i:Ab (fun _=>False) w W)(g:c.ownsRow B 114 3 a (x.aU.length+1) (Cr x.aU++D7 t))(j:W.grownBy c v.ownBlock)(n:∀k,a.ownBlock=some k→v.ownBlock=some k∨w.heap.size≤k):
 JY B b s a (Ix x t) (c.setCell ⟨b,1,none⟩ a)∧Fr b v a w (c.setCell ⟨b,1,none⟩ a):=by
 have m:=h.ne;have e:Ab (fun k=>v.ownBlock=some k) w c:=Ab.grown (i.mono (fun _ _ q=>q.elim)) j (fun k l=>.inl l);have d:=h.1.O e (fun q=>m b q rfl);have f:=(Ab.refl (fun k=>k=b) c).d8 1 a;have o:∀k,a.ownBlock=some k→k≠b:=Aj g d (by decide);refine ⟨⟨?_,?_⟩,?_,n⟩
 ·have:=d.set 1 a;simpa [Ix] using this
 ·have:=Ac g f o;simpa [Ix,LE] using this
 ·exact (e.mono (fun k _ q=>.inr q)).trans (f.mono (fun k _ q=>.inl q))
theorem Mu(B b:Nat)(s:ByteArray)(v:Value)(x:Sc)(f a c:Nat)(w:World)(_hs:s.size≤4000)(h:JY B b s v x w)(P:B≤w.heap.size)(S:a≤c)(Q:c≤s.size)(R:x.aU.length≤4001):
 Calls Tryz.prog 70 #[.pointer (some ⟨b,0,none⟩),.int .i64 f,.int .i64 a,.int .i64 c] w fun e o=>e=.returned (.tuple #[])∧∃g,JY B b s g (Ix x ⟨f,s.extract a c,a⟩) o∧Fr b v g w o:=by
 obtain ⟨I,z,F,G,H⟩:=info_parts Tryz.infoPT;have t:=h.1.cell 0;have j:=h.1.cell 1;have y:=h.1.frozen 1;simp only [dM,dJ,dK] at t j;obtain ⟨J,L,K,E⟩:=Ad h.2;subst E;have n:=Ae h.1;have D:=h.2;have i:=Aa h.ne;have r:=Aa h;clear h;go_enter Tryz.func70,Tryz.ntmps70;go_region_law (refine AT rfl _ _ 79 rfl B 114 I (.agg #[.int .i64 0,.string ByteArray.empty,.int .i64 0]) 3 32 Tryz.underlying79 z F G H rfl (by decide) _ _ _ rfl (D.alloc _) ⟨w.heap.size,0,none⟩ 1 1 [.int .i64 f,.string (s.extract a c),.int .i64 a] rfl rfl (A5 rfl _ _) (fun u m=>by simp at m;rcases m with rfl | rfl | rfl<;>rfl) (by decide) (by unfold maxLen;omega) (by omega) (by simp;omega) ?_;intro g p l d C;have T:p.cell? ⟨b,1,none⟩=some (.slice J L K):=(rM (d.block b (by simp;omega) (fun h=>i.o b h.symm rfl))).trans (by rw [←j];exact rM (Below.heap_alloc _ _ _ n));have U:p.frozen? ⟨b,1,none⟩=false:=(rS (d.block b (by simp;omega) (fun h=>i.o b h.symm rfl))).trans (by rw [←y];exact rS (Below.heap_alloc _ _ _ n));obtain ⟨M,O,N,rfl⟩:=Ad l);all_goals
  go_wp2_with fail;go_end0;refine ⟨rfl,.slice M O N,?_⟩;exact Ur r.o (((Ab.refl _ _).alloc _).drew) l d (fun k A=>(C k A).imp id (fun q=>by simp at q;omega))
theorem Jt(B b s v x a w)(D:s.size≤4000)(h:JY B b s v x w)(y:B≤w.heap.size)(z:a≤s.size)(g:JK a x):
 Calls Tryz.prog 69 #[.pointer (some ⟨b,0,none⟩),.int .i64 a] w fun e o=>e=.returned (.tuple #[])∧∃d,JY B b s d (CC s a x) o∧Fr b v d w o:=by
 have r:=h.1.cell 0;have t:=h.1.cell 3;have i:=h.1.cell 4;have u:=h.1.frozen 4;simp only [dM,dJ,dK] at r t i;have G:=Ae h.1;have C:=g.start;have E:=g.n6;have F:=g.many;have f:=Aa h;clear h g;by_cases p:0<x.n6
 ·have l:CC s a x=⟨x.aU++[⟨CA (s.extract x.start a).toList,s.extract x.start a,x.start⟩],x.rem,x.start,0⟩:=by simp [CC,p]
  rw [l];have A:decide ((0:Int)<(x.n6:Int))=true:=by simp;omega
  go_enter Tryz.func69,Tryz.ntmps69;go_wp2;go_cut [] (fun q=>∃d,JY B b s d (Ix x ⟨CA (s.extract x.start a).toList,s.extract x.start a,x.start⟩) q∧Fr b v d w q)
  case first=>
   go_region_with (first
    | (go_at_call 111;refine (M6 _ _).mono ?_;rintro e o ⟨rfl,m⟩;have m:=m.symm;subst m)
    | (go_at_call 70;refine (Mu B b s v x (CA (s.extract x.start a).toList) x.start a _ D (f.o.O (by repeat (first | exact Ab.refl _ _ | refine Ab.drew ?_ | refine Ab.drewN ?_ _ | refine Ab.alloc ?_ _))) (by simpa using y) C z (by omega)).mono ?_;rintro e H ⟨rfl,n,c,j⟩))
   all_goals
    go_wp2_with fail;go_meet
    case rel=>exact ⟨n,c,Fr.trans ⟨(by repeat (first | exact Ab.refl _ _ | refine Ab.drew ?_ | refine Ab.drewN ?_ _ | refine Ab.alloc ?_ _)),fun _ h=>.inl h⟩ j⟩
  case rest=>
   obtain ⟨n,c,j⟩:=hcut;have u:=c.1.frozen 4;have i:=c.1.cell 4;simp only [dM,dJ,dK] at i;go_wp2;go_end0;refine ⟨rfl,n,⟨?_,?_⟩,j.set 4 _⟩
   ·have:=c.1.set 4 (.int .i64 0);simpa [Ix] using this
   ·exact Ac c.2 ((Ab.refl (fun k=>k=b) _).d8 4 _) c.ne
 ·have l:CC s a x=⟨x.aU,x.rem,x.start,0⟩:=by simp [CC,p]
  rw [l];have A:decide ((0:Int)<(x.n6:Int))=false:=by simp;omega
  go_enter Tryz.func69,Tryz.ntmps69;go_wp2;go_end0;refine ⟨rfl,v,⟨?_,?_⟩,(Fr.refl _ _ _).set 4 _⟩
  ·have:=f.o.1.set 4 (.int .i64 0);simpa using this
  ·exact Ac f.o.2 ((Ab.refl (fun k=>k=b) _).d8 4 _) f.o.ne
theorem Le(B b:Nat)(s:ByteArray)(v:Value)(x:Sc)(p:Nat)(w:World)(h:JY B b s v x w)(n:x.n6≤8):
 Calls Tryz.prog 109 #[.pointer (some ⟨b,0,none⟩),.int .i64 p] w fun e l=>e=.returned (.tuple #[.int .i64 ((if 8<x.n6+1 then (BG p x).start else 0:Nat):Int),.bool (!decide (8<x.n6+1))])∧JY B b s v (BG p x) l∧Fr b v v w l:=by
 have m:=h.1.cell 3;have d:=h.1.cell 4;have o:=h.1.frozen;simp only [dM,dJ,dK] at m d;have r:=Ae h.1;have a:=Aa h;clear h;by_cases c:x.n6=0
 ·have f:((x.n6:Int)==0)=true:=by simp [c]
  have g:BG p x=⟨x.aU,x.rem,p,1⟩:=by simp [BG,c]
  rw [g,c];rw [c] at d;clear c f;go_enter Tryz.func109,Tryz.ntmps109;go_wp2;go_ret2;refine ⟨rfl,⟨?_,?_⟩,((Fr.refl _ _ _).set 3 _).set 4 _⟩
  ·have:=(a.o.1.set 3 (.int .i64 p)).set 4 (.int .i64 1);simpa using this
  ·exact Ac a.o.2 (((Ab.refl (fun k=>k=b) _).d8 3 _).d8 4 _) a.o.ne
 ·have f:((x.n6:Int)==0)=false:=by simp [c]
  have g:BG p x=⟨x.aU,x.rem,x.start,x.n6+1⟩:=by simp [BG,c]
  rw [g];by_cases i:x.n6=8
  ·rw [i];rw [i] at d;clear c f n;go_enter Tryz.func109,Tryz.ntmps109;go_wp2;go_ret2;refine ⟨rfl,⟨?_,?_⟩,(Fr.refl _ _ _).set 4 _⟩
   ·have:=a.o.1.set 4 (.int .i64 9);simpa using this
   ·exact Ac a.o.2 ((Ab.refl (fun k=>k=b) _).d8 4 _) a.o.ne
  ·have q:decide ((8:Int)<(x.n6:Int)+1)=false:=by simp;omega
   have j:¬8<x.n6+1:=by omega
   simp only [j,if_false,decide_false,Bool.not_false];clear j;go_enter Tryz.func109,Tryz.ntmps109;go_wp2;go_ret2;refine ⟨rfl,⟨?_,?_⟩,(Fr.refl _ _ _).set 4 _⟩
   ·have:=a.o.1.set 4 (.int .i64 ((x.n6:Int)+1));simpa using this
   ·exact Ac a.o.2 ((Ab.refl (fun k=>k=b) _).d8 4 _) a.o.ne
theorem MZ(B b:Nat)(s:ByteArray)(v:Value)(x:Sc)(p r:Nat)(w:World)(F:s.size≤4000)(h:JY B b s v x w)(E:B≤w.heap.size)(K:p<s.size)(J:x.aU.length≤4000):
 Calls Tryz.prog 110 #[.pointer (some ⟨b,0,none⟩),.int .i64 p,.int .i32 r] w fun e j=>e=.returned (.tuple #[.int .i64 (CR s p r x).2.1,.bool (CR s p r x).2.2])∧∃q,JY B b s q (CR s p r x).1 j∧Fr b v q w j:=by
 have u:=h.1.cell 2;have I:=h.1.frozen;simp only [dM,dJ,dK] at u;have L:=Ae h.1;have f:=Aa h;clear h;by_cases a:r=32∨r=9∨r=10
 ·have c:CR s p r x=(x,0,true):=by simp [CR,a]
  rw [c];rcases a with a | a | a
  all_goals
   subst a;go_enter Tryz.func110,Tryz.ntmps110;go_wp2;go_ret2;exact ⟨rfl,v,f.o,Fr.refl _ _ _⟩
 ·have y:((r:Int)==32)=false:=by simp;omega
  have z:((r:Int)==9)=false:=by simp;omega
  have A:((r:Int)==10)=false:=by simp;omega
  by_cases g:r=35
  ·have c:CR s p r x=(⟨x.aU,true,x.start,x.n6⟩,0,true):=by simp [CR,g]
   rw [c];subst g;clear y z A;go_enter Tryz.func110,Tryz.ntmps110;go_wp2;go_ret2;refine ⟨rfl,v,⟨?_,?_⟩,(Fr.refl _ _ _).set 2 _⟩
   ·have:=f.o.1.set 2 (.bool true);simpa using this
   ·exact Ac f.o.2 ((Ab.refl (fun k=>k=b) _).d8 2 _) f.o.ne
  ·have H:((r:Int)==35)=false:=by simp;omega
   by_cases i:Bc r=0
   ·have c:CR s p r x=(x,p,false):=by simp [CR,a,g,i]
    rw [c];have l:dN (Bc r=0):=i;clear a g i;go_enter Tryz.func110,Tryz.ntmps110;go_wp2_with (go_at_call 138;refine (Iq _ _).mono ?_;rw [l.o];rintro e j ⟨rfl,d⟩;have d:=d.symm;subst d);go_ret2;exact ⟨rfl,v,f.o,Fr.refl _ _ _⟩
   ·have c:CR s p r x=(Ix x ⟨Bc r,s.extract p (p+1),p⟩,0,true):=by simp [CR,a,g,i,Ix]
    rw [c];have n:(Bc r !=0)=true:=by simp [i]
    obtain ⟨m,o⟩:∃m,Bc r=m:=⟨_,rfl⟩;rw [o] at n⊢;have t:=Aa o;have l:=Aa n;clear a g i n o;go_enter Tryz.func110,Tryz.ntmps110;go_wp2_with (first
     | (go_at_call 138;refine (Iq _ _).mono ?_;rw [t.o,l.o];rintro e j ⟨rfl,d⟩;have d:=d.symm;subst d)
     | (go_at_call 70;refine (Mu B b s v x m p (p+1) _ F f.o E (by omega) (by omega) (by omega)).mono ?_;rintro e M ⟨rfl,G,C,D⟩))
    go_ret2;exact ⟨rfl,G,C,D⟩
theorem OM(B b:Nat)(s:ByteArray)(v:Value)(x:Sc)(p r:Nat)(w:World)(m:s.size≤4000)(h:JY B b s v x w)(N:B≤w.heap.size)(O:p<s.size)(D:JK p x):
 Calls Tryz.prog 68 #[.pointer (some ⟨b,0,none⟩),.int .i64 p,.int .i32 r] w fun e i=>e=.returned (.tuple #[.int .i64 (AI s p r x).2.1,.bool (AI s p r x).2.2])∧∃F,JY B b s F (AI s p r x).1 i∧Fr b v F w i:=by
 have J:=h.1.cell 0;have z:=h.1.cell 2;have S:=h.1.frozen;simp only [dM,dJ,dK] at J z;have U:=Ae h.1;have j:=Aa h;have y:=Aa D;clear h D;cases c:Cy s p r with
 | true=>
   have f:AI s p r x=(x,p,false):=by simp [AI,c]
   rw [f];have n:=Aa c;clear c;go_enter Tryz.func68,Tryz.ntmps68;go_wp2_with (first | (go_at_call 107;refine (D5 _ _ _ m (by omega) _).mono ?_;rw [n.o];rintro e i ⟨rfl,a⟩;have a:=a.symm;subst a));go_ret2;exact ⟨rfl,v,j.o,Fr.refl _ _ _⟩
 | false=>
   have n:=Aa c;cases g:x.rem with
   | true=>
     have f:AI s p r x=(⟨x.aU,r !=10,x.start,x.n6⟩,0,true):=by simp [AI,c,g]
     rw [f];rw [g] at z;have E:((r:Int) !=10)=(r !=10):=by rw [Bool.eq_iff_iff];simp;omega
     have I:=Aa E;clear c g E;go_enter Tryz.func68,Tryz.ntmps68;go_wp2_with (first | (go_at_call 107;refine (D5 _ _ _ m (by omega) _).mono ?_;rw [n.o];rintro e i ⟨rfl,a⟩;have a:=a.symm;subst a));go_ret2;refine ⟨rfl,v,⟨?_,?_⟩,(Fr.refl _ _ _).set 2 _⟩
     ·have:=j.o.1.set 2 (.bool ((r:Int) !=10));rw [I.o] at this⊢;simpa using this
     ·exact Ac j.o.2 ((Ab.refl (fun k=>k=b) _).d8 2 _) j.o.ne
   | false=>
     rw [g] at z;cases l:F7 r with
     | true=>
       have u:=Aa l;have f:AI s p r x=(BG p x,(if 8<x.n6+1 then (BG p x).start else 0),!decide (8<x.n6+1)):=by simp only [AI,c,g,l];by_cases M:8<x.n6+1<;>simp [M]
       rw [f];clear c g l f;obtain ⟨q,t⟩:∃q,(if 8<x.n6+1 then (BG p x).start else 0)=q:=⟨_,rfl⟩;obtain ⟨d,C⟩:∃d,(!decide (8<x.n6+1))=d:=⟨_,rfl⟩;have H:=Aa t;have G:=Aa C;rw [t,C];clear t C;go_enter Tryz.func68,Tryz.ntmps68;go_wp2_with (first | (go_at_call 107;refine (D5 _ _ _ m (by omega) _).mono ?_;rw [n.o];rintro e i ⟨rfl,a⟩;have a:=a.symm;subst a) | (go_at_call 108;refine (Ii _ _).mono ?_;rw [u.o];rintro e i ⟨rfl,a⟩;have a:=a.symm;subst a) | (go_at_call 109;refine (Le B b s v x p _ j.o y.o.n6).mono ?_;rw [H.o,G.o];rintro e R ⟨rfl,A,o⟩));go_ret2;exact ⟨rfl,v,A,o⟩
     | false=>
       have u:=Aa l;have f:AI s p r x=CR s p r (CC s p x):=by simp [AI,c,g,l]
       rw [f];clear c g l f;go_enter Tryz.func68,Tryz.ntmps68;go_wp2_with (first | (go_at_call 107;refine (D5 _ _ _ m (by omega) _).mono ?_;rw [n.o];rintro e i ⟨rfl,a⟩;have a:=a.symm;subst a) | (go_at_call 108;refine (Ii _ _).mono ?_;rw [u.o];rintro e i ⟨rfl,a⟩;have a:=a.symm;subst a) | (go_at_call 69;refine (Jt B b s v x p _ m j.o N (by omega) y.o).mono ?_;rintro e R ⟨rfl,P,A,o⟩;have T:=o.O.size;have t:=(y.o.bH (s:=s)).many) | (go_at_call 110;refine (MZ B b s P (CC s p x) p r _ m A (by omega) O (by omega)).mono ?_;rintro e V ⟨rfl,Q,K,L⟩));go_ret2;exact ⟨rfl,Q,K,o.trans L⟩
abbrev x0:Sc:=⟨[],false,0,0⟩
abbrev Rn:List UInt8:=[102,110,32,109,97,105,110,40,41]
def YP(w:World)(s:ByteArray)(V:Nat ⊕ Sc)(e:Ending)(a:World):Prop:=
 match V with
 | .inl p=>e=.returned (.tuple #[.slice none 0 0,.int .i64 2,.int .i64 p])∧Below w.heap.size w a
 | .inr x=>∃v,e=.returned (.tuple #[v,.int .i64 0,.int .i64 0])∧a.ownsRow w.heap.size 114 3 v (AH s x).length (Cr (AH s x))∧(AH s x).length≤4001∧Below w.heap.size w a
theorem NN{w:World}{k:Nat}{s:ByteArray}{p:Nat}(h:w.heap[k]? =some (.stringIter s p)):w.iterPos k=p:=by simp [World.iterPos,h]
theorem JB(w k s p):Ab (fun j=>j=k) w (w.iterAt k s p):=by have h:=Lib.below_iterAt (Below.refl 0 w) (k:=k) (rR _) s p;exact ⟨h.os,h.tape,h.output,h.size,fun j _ a=>Lib.iterAt_other _ _ _ _ _ (fun e=>a e)⟩
theorem Oc{w:World}{B:Nat}{e:TypeId}{i:Nat}{v:Value}{n:Nat}{j:List Value}(h:w.ownsRow B e i v n j){b:Nat}{s:ByteArray}{p:Nat}(f:w.heap[b]? =some (.stringIter s p)):∀k,v.ownBlock=some k→k≠b:=by
 rintro k a rfl;rcases h.2 with ⟨d,_⟩ | ⟨o,l,m,g,_,c,_⟩
 ·rw [d] at a;simp [Value.ownBlock] at a
 ·rw [g] at a;simp [Value.ownBlock] at a;subst a;rw [f] at c;cases c
theorem JY.iter{B b k s t v x w p q}(h:JY B b s v x w)(c:w.heap[k]? =some (.stringIter t p))(a:b≠k):JY B b s v x (w.iterAt k t q):=
 ⟨h.1.O (JB _ _ _ _) a,Ac h.2 (JB _ _ _ _) (Oc h.2 c)⟩
theorem Fr.iter{b k B s t v f x w c p}(h:Fr b v f w c)(e:JY B b s v x w)(a:w.heap[k]? =some (.stringIter t p))(d:b≠k):c.heap[k]? =some (.stringIter t p):=by
 rw [h.O.block k (Ae a) ?_]
 ·exact a
 ·rintro (q | q)
  ·exact d q.symm
  ·exact Oc e.2 a k q rfl
theorem Fr.below{b B s v g x w a}(h:Fr b v g w a)(f:JY B b s v x w)(c:B≤w.heap.size)(i:B≤b):Below B w a:=
 h.O.bL c (fun k d=>d.elim (fun e=>by omega) (fun q=>(f.2.lt k q).1))
theorem QA(s)(t:s.size≤4000)(w):
 Calls Tryz.prog 49 #[.string s] w fun e w'=>YP w s (Aw s s.size 0 x0) e w':=by
 generalize F:Aw s s.size 0 x0=V;have E:dN (Aw s s.size 0 x0=V):=F;clear F;go_enter Tryz.func49,Tryz.ntmps49;go_wp2;go_loopw [6,7,8,9] (fun _ _ _ _ wr=>∃(a q f:Nat) (v:Value) (x:Sc),wr.heap[w.heap.size+1]? =some (.stringIter s a)∧JY w.heap.size w.heap.size s v x wr∧Below w.heap.size w wr∧s.size-a≤f∧JK q x∧q≤a∧q≤s.size∧dN (Aw s f a x=V)) (fun _ _ _ _ wr=>s.size-wr.iterPos (w.heap.size+1))
 case atStart=>
  refine ⟨0,0,s.size,.slice none 0 0,x0,?_,?_,?_,by omega,⟨rN _,by simp,by simp⟩,rN _,rR _,E⟩
  ·have:=World.iter_heap (w.alloc (.cells #[.string s,.slice none 0 0,.bool false,.int .i64 0,.int .i64 0] 152)) s 0;simpa using this
  ·exact ⟨(Ak.new w #[.string s,.slice none 0 0,.bool false,.int .i64 0,.int .i64 0] 152).alloc _,World.ownsRow_nil _ _ _ _⟩
  ·exact ((Below.refl _ _).alloc (rN _) _).alloc (by simp) _
 case round=>
  obtain ⟨a,q,f,v,x,h,u,m,H,p,a0,a1,o⟩:=hrel;clear E;have Z:=NN h;have O:=m.size;by_cases d:a<s.size
  ·have X:∀i,(Instr.next (.pointer (some ⟨w.heap.size+1,0,none⟩)) true i).run Tryz.prog wr=_:=fun i=>Lib.run_next_any_at wr (w.heap.size+1) s a i h d
   have I:=Lib.iterAt_heap wr (w.heap.size+1) s a (a+(Utf8.decode s a).2) h;have B:=Lib.below_iterAt m (k:=w.heap.size+1) (by omega) s (a+(Utf8.decode s a).2);have M:=u.iter (q:=a+(Utf8.decode s a).2) h (by omega);have a3:=Fp s a d;have K:=p.more a0;generalize wr.iterAt (w.heap.size+1) s (a+(Utf8.decode s a).2)=W1 at*;have z:=B.size;obtain ⟨y,N⟩:∃y,AI s a (Utf8.decode s a).1 x=y:=⟨_,rfl⟩;have c:=Aa N;have j:=Aa K;have b:=Aa M;have R:=Aa I;have n:=Aa B;clear h u m p K M I B N;obtain ⟨Q,y2,y3⟩:=y;cases y3 with
   | true=>
     go_wp2_with (go_at_call 68;refine (OM w.heap.size w.heap.size s v x a (Utf8.decode s a).1 _ t b.o z d j.o).mono ?_;rw [c.o];rintro e P ⟨rfl,D,l,g⟩);obtain ⟨T,W,G⟩:=Cm (x:=x) H d (by rw [c.o]);rw [c.o] at G;have Y:JK (a+1) Q:=by have:=V8 (s:=s) (r:=(Utf8.decode s a).1) j.o (by rw [c.o]);rw [c.o] at this;exact this
     have J:=g.iter b.o R.o (by omega);go_roundw
     case rel=>exact ⟨a+(Utf8.decode s a).2,a+1,T,D,Q,J,l,n.o.trans (g.below b.o z (rN _)),W,Y,by omega,by omega,by show _=_;rw [←G];exact o.o⟩
     case measure=>rw [NN J,Z];omega
   | false=>
     go_wp2_with (go_at_call 68;refine (OM w.heap.size w.heap.size s v x a (Utf8.decode s a).1 _ t b.o z d j.o).mono ?_;rw [c.o];rintro e P ⟨rfl,D,l,g⟩);go_ret3;have C:V=.inl y2:=by have:=DR (x:=x) H d (by rw [c.o]);rw [c.o] at this;rw [←o.o,this]
     subst C;exact ⟨rfl,n.o.trans (g.below b.o z (rN _))⟩
  ·have X:∀i,(Instr.next (.pointer (some ⟨w.heap.size+1,0,none⟩)) true i).run Tryz.prog wr=_:=fun i=>Lib.run_next_end_at wr (w.heap.size+1) s a i h d
   have C:V=.inr x:=by rw [←o.o,CP d]
   subst C;have b:=Aa u;have n:=Aa m;have L:=p.more a1;have j:=Aa L;clear h u m p o L;have a2:=(j.o.bH (s:=s)).many;go_wp2_with (first
    | (go_at_call 69;refine (Jt w.heap.size w.heap.size s v x s.size _ t b.o O (rN _) j.o).mono ?_;rintro e w1 ⟨rfl,v1,l,g⟩;have a4:=g.O.size)
    | (go_at_call 70;refine (Mu w.heap.size w.heap.size s v1 (CC s s.size x) 0 s.size s.size _ t l (by omega) (rN _) (rN _) (by omega)).mono ?_;rintro e P ⟨rfl,D,A,U⟩;have S:=A.1.cell 1;simp only [dM,dJ,dK] at S;obtain ⟨va,vl,vc,rfl⟩:=Ad A.2))
   go_ret3;refine ⟨_,rfl,?_,?_,?_⟩
   ·have:=A.2;simpa [AH,Ix] using this
   ·simp [AH];omega
   ·exact (n.o.trans (g.below b.o O (rN _))).trans (U.below l (by omega) (rN _))
def Yk(t:PT):Prop:=t.kind=2→t.a9=⟨#[48]⟩∨t.a9=⟨#[49]⟩∨t.a9=⟨#[50]⟩∨t.a9=⟨#[51]⟩
def DigOk(l:List PT):Prop:=∀t,t∈l→Yk t
theorem DigOk.snoc{l t}(h:DigOk l)(b:Yk t):DigOk (l++[t]):=by
 intro u c;rcases List.mem_append.1 c with a | a
 ·exact h u a
 ·rw [List.mem_singleton.1 a];exact b
theorem Wq(l):CA l≠2:=by
 unfold CA;repeat' split
 all_goals decide
theorem DigOk.bH{s e x}(h:DigOk x.aU):DigOk (CC s e x).aU:=by
 unfold Proofs.YtegmjgjkcdbmkaaGreatDoor.CC;split
 ·exact h.snoc (fun a=>absurd a (Wq _))
 ·exact h
theorem SV{r}(h:Bc r=2):r=48∨r=49∨r=50∨r=51:=by
 unfold Bc at h;split at h
 ·assumption
 ·exfalso;revert h;repeat' split
  all_goals decide
theorem PE{s p}(a:p<s.size)(h:Bc (Utf8.decode s p).1=2):s.extract p (p+1)=⟨#[48]⟩∨s.extract p (p+1)=⟨#[49]⟩∨s.extract p (p+1)=⟨#[50]⟩∨s.extract p (p+1)=⟨#[51]⟩:=by
 have c:=SV h;have k:(s[p]'a).toNat<128:=by
  by_cases f:(s[p]'a).toNat<128
  ·exact f
  ·have:=(decode_high s p a (by omega)).1;omega
 rw [decode_ascii s p a k] at c;have g:s.extract p (p+1)=⟨#[s[p]'a]⟩:=by
  apply ByteArray.ext;rw [ByteArray.data_extract];have o:p<s.data.size:=a;apply Array.ext
  ·simp;omega
  ·intro i l d;have j:i=0:=by simp at d;omega
   subst j;simp;rfl
 have b:∀n:Nat,n<256→(s[p]'a).toNat=n→s[p]'a=UInt8.ofNat n:=by intro n m e;rw [←e];simp
 rw [g];rcases c with q | q | q | q
 ·exact .inl (by rw [b _ (by decide) q];rfl)
 ·exact .inr (.inl (by rw [b _ (by decide) q];rfl))
 ·exact .inr (.inr (.inl (by rw [b _ (by decide) q];rfl)))
 ·exact .inr (.inr (.inr (by rw [b _ (by decide) q];rfl)))
theorem TM{s p x}(c:p<s.size)(h:DigOk x.aU):DigOk (AI s p (Utf8.decode s p).1 x).1.aU:=by
 unfold AI;split
 ·exact h
 ·split
  ·exact h
  ·split
   ·split
    ·exact h
    ·exact h
   ·have a:=h.bH (s:=s) (e:=p);unfold CR;split
    ·exact a
    ·split
     ·exact a
     ·split
      ·exact a
      ·exact a.snoc (fun b=>PE c b)
theorem JG(s:ByteArray):∀(f p:Nat) (x y:Sc),DigOk x.aU→Aw s f p x=.inr y→DigOk y.aU
 | 0,_,x,y,h,e=>by have:=Sum.inr.inj e;subst this;exact h
 | f+1,p,x,y,h,e=>by
   unfold Aw at e;split at e
   ·rename_i a;split at e
    ·exact JG s f _ _ y (TM a h) e
    ·cases e
   ·have:=Sum.inr.inj e;subst this;exact h
theorem JF{s y}(h:Aw s s.size 0 ⟨[],false,0,0⟩=.inr y):DigOk (AH s y):=
 (JG s _ _ _ _ (fun _ b=>absurd b (by simp)) h).bH.snoc (fun a=>absurd (show (0:Nat)=2 from a) (by decide))
structure PS where
 next:Nat
 m8:Bool
 aS:Nat
def Bj:PT:=⟨0,ByteArray.empty,0⟩
def Ag(l:List PT)(i:Nat):PT:=l[i]?.getD Bj
def GM(a:List PT)(n:Nat)(x:PS):PS:=⟨n-1,true,if x.m8 then x.aS else (Ag a x.next).c9⟩
def Af(a:List PT)(n k:Nat)(x:PS):PS:=if (Ag a x.next).kind=k then (if k=0 then x else ⟨x.next+1,x.m8,x.aS⟩) else GM a n x
def Ax(a:List PT)(k:Nat)(x:PS):PT:=if (Ag a x.next).kind=k then Ag a x.next else Bj
def AR(b g n a:Nat)(x:PS)(w:World):Prop:=Ak b #[.slice (some ⟨g,0,none⟩) n a,.int .i64 x.next,.bool x.m8,.int .i64 x.aS] 158 w
def AZ(g n b:Nat)(a:List PT)(w:World):Prop:=w.ownsRow 0 114 3 (.slice (some ⟨g,0,none⟩) n b) n (Cr a)∧n=a.length∧n≤4001∧DigOk a
theorem Oq{l i}(h:i<l.length):(Cr l)[i*3]? =some (.int .i64 (Ag l i).kind)∧(Cr l)[i*3+1]? =some (.string (Ag l i).a9)∧(Cr l)[i*3+2]? =some (.int .i64 (Ag l i).c9):=by
 induction l generalizing i with
 | nil=>simp at h
 | cons t l a=>
   cases i with
   | zero=>simp [Cr,D7,Ag]
   | succ i=>
     have:=a (i:=i) (by simpa using h);simp only [Cr,List.flatMap_cons,Ag,dK] at this⊢;have e:∀j,(D7 t++List.flatMap D7 l)[(i+1)*3+j]? =(List.flatMap D7 l)[i*3+j]? :=by intro j;rw [List.getElem?_append_right (by simp [D7];omega)];congr 1;simp [D7];omega
     exact ⟨by rw [show (i+1)*3=(i+1)*3+0 from rfl,e];exact this.1,by rw [e];exact this.2.1,by rw [e];exact this.2.2⟩
theorem AZ.cells{g n c a w}(h:AZ g n c a w){i}(d:i<n):
 w.cell? ⟨g,i*3,none⟩=some (.int .i64 (Ag a i).kind)∧w.cell? ⟨g,i*3+1,none⟩=some (.string (Ag a i).a9)∧w.cell? ⟨g,i*3+2,none⟩=some (.int .i64 (Ag a i).c9):=by
 have e:=h.2.1;have b:=Oq (l:=a) (i:=i) (by omega);exact ⟨by rw [h.1.cellAt _ (by omega)];exact b.1,by rw [h.1.cellAt _ (by omega)];exact b.2.1,by rw [h.1.cellAt _ (by omega)];exact b.2.2⟩
theorem AZ.O{g n a c}{X:Nat→Prop}{w w'}(h:AZ g n a c w)(d:Ab X w w')(e:¬X g):AZ g n a c w':=
 ⟨Ac h.1 d (fun k b=>by simp [Value.ownBlock] at b;subst b;exact e),h.2⟩
theorem AZ.ne{g n a b j w}(h:AZ g n a j w){c t d}(f:w.heap[b]? =some (.cells c t d))(i:t≠114):g≠b:=fun e=>Aj h.1 f i g rfl e
theorem AZ.lt{g n a b w}(h:AZ g n a b w):g<w.heap.size:=(h.1.lt g rfl).2
theorem AS(b g n f x d w)(a:AR b g n f x w)(c:AZ g n f d w)(h:x.next<n):
 Calls Tryz.prog 113 #[.pointer (some ⟨b,0,none⟩)] w fun e k=>e=.returned (.int .i64 (Ag d x.next).kind)∧Ab (fun _=>False) w k:=by
 obtain ⟨p,q,r⟩:=c.cells h;have l:=c.2.2.1;have i:=Ar a 0;have j:=Ar a 1;simp only [dM,dJ,dK] at i j;have o:=Ae a;have m:=c.lt;clear a c;generalize Ag d x.next=t at*;go_enter Tryz.func113,Tryz.ntmps113;go_wp2;go_region;go_wp2;go_ret;exact ⟨rfl,(by repeat (first | exact Ab.refl _ _ | refine Ab.drew ?_ | refine Ab.drewN ?_ _ | refine Ab.alloc ?_ _))⟩
theorem Tf(b g n f x j w)(a:AR b g n f x w)(d:AZ g n f j w)(s:x.next<n):
 Calls Tryz.prog 142 #[.pointer (some ⟨b,0,none⟩)] w fun e r=>e=.returned (.tuple #[])∧AR b g n f (GM j n x) r∧Ab (fun k=>k=b) w r:=by
 obtain ⟨E,F,G⟩:=d.cells s;have A:=d.2.2.1;have u:=Ar a 0;have v:=Ar a 1;have h:=Ar a 2;have y:=Ar a 3;have z:=fun i=>AE a i
 simp only [dM,dJ,dK] at u v h y;have D:=Ae a;have C:=d.lt;have B:=d.ne a (by decide);have o:=Aa a;clear a d;have p:((n:Int)-1)=((n-1:Nat):Int):=by omega
 have m:=Aa p;clear p;unfold GM;generalize Ag j x.next=t at*;cases c:x.m8 with
 | true=> rw [c] at h;have l:=Aa c;clear c;go_enter Tryz.func142,Tryz.ntmps142;go_wp2;go_end0;refine ⟨rfl,?_,(Ab.refl _ _).d8 1 _⟩;have:=Ak.set o.o 1 (.int .i64 ((n:Int)-1));rw [m.o] at this⊢;simpa [AR,l.o] using this
 | false=>
   rw [c] at h;have l:=Aa c;clear c;go_enter Tryz.func142,Tryz.ntmps142;go_wp2;go_region;go_wp2;go_end0;refine ⟨rfl,?_,?_⟩
   ·have:=Ak.O (((Ak.set (w:=w) o.o 2 (.bool true)).set 3 (.int .i64 t.c9)).set 1 (.int .i64 ((n:Int)-1))) ((Ab.refl (fun _=>False) _).drew) (fun q=>q);rw [m.o] at this⊢;simpa [AR] using this
   ·exact (((((Ab.refl (fun k=>k=b) w).drew).d8 2 _).d8 3 _).d8 1 _)
def Vy(t:PT):Value:=.agg #[.int .i64 t.kind,.string t.a9,.int .i64 t.c9]
theorem AG(b g n o k:Nat)(x:PS)(a:List PT)(w:World)(f:AR b g n o x w)(l:AZ g n o a w)(z:x.next<n):
 Calls Tryz.prog 114 #[.pointer (some ⟨b,0,none⟩),.int .i64 k] w fun e B=>e=.returned (Vy (Ax a k x))∧AR b g n o (Af a n k x) B∧Ab (fun k=>k=b) w B:=by
 obtain ⟨R,S,T⟩:=l.cells z;have M:=l.2.2.1;have H:=Ar f 0;have I:=Ar f 1;have K:=fun i=>AE f i
 simp only [dM,dJ,dK] at H I;have Q:=Ae f;have P:=l.lt;have N:=l.ne f (by decide);have p:=Aa f;have E:=Aa l;clear f l;by_cases c:(Ag a x.next).kind=k
 ·have m:Ax a k x=Ag a x.next:=by simp [Ax,c]
  rw [m];have G:(((Ag a x.next).kind:Int) !=(k:Int))=false:=by simp [c]
  by_cases h:k=0
  ·have d:Af a n k x=x:=by simp [Af,c,h]
   rw [d];have F:((k:Int) !=0)=false:=by simp [h]
   clear m d c h;generalize Ag a x.next=t at*;go_enter Tryz.func114,Tryz.ntmps114;go_wp2;go_region;go_wp2;refine bodyPost_ret (v:=Vy t) (by simp [results,Tryz.results114,go_sem,Vy]) rfl ⟨rfl,?_,?_⟩
   ·exact Ak.O (X:=fun _=>False) p.o (by repeat (first | exact Ab.refl _ _ | refine Ab.drew ?_ | refine Ab.drewN ?_ _ | refine Ab.alloc ?_ _)) (fun q=>q)
   ·exact (by repeat (first | exact Ab.refl _ _ | refine Ab.drew ?_ | refine Ab.drewN ?_ _ | refine Ab.alloc ?_ _))
  ·have d:Af a n k x=⟨x.next+1,x.m8,x.aS⟩:=by simp [Af,c,h]
   rw [d];have F:((k:Int) !=0)=true:=by simp [h]
   clear m d c h;generalize Ag a x.next=t at*;go_enter Tryz.func114,Tryz.ntmps114;go_wp2;go_region;go_wp2;refine bodyPost_ret (v:=Vy t) (by simp [results,Tryz.results114,go_sem,Vy]) rfl ⟨rfl,?_,?_⟩
   ·have:=Ak.O (X:=fun _=>False) (Ak.set p.o 1 (.int .i64 ((x.next:Int)+1))) ((((Ab.refl _ _).alloc (.cells #[.int .i64 t.kind,.string t.a9,.int .i64 t.c9] 114)).alloc (.cells #[.int .i64 t.kind,.string t.a9,.int .i64 t.c9] 114)).drew) (fun q=>q);simpa [AR] using this
   ·exact (((((Ab.refl (fun k=>k=b) w).d8 1 _).alloc _).alloc _).drew)
 ·have m:Ax a k x=Bj:=by simp [Ax,c]
  have d:Af a n k x=GM a n x:=by simp [Af,c]
  rw [m,d];have G:(((Ag a x.next).kind:Int) !=(k:Int))=true:=by simp;omega
  clear m d c;generalize Ag a x.next=t at*;go_enter Tryz.func114,Tryz.ntmps114;go_wp2;go_region;go_wp2_with fail;refine (Tf b g n o x a _ ?_ ?_ z).mono ?_
  ·exact Ak.O (X:=fun _=>False) p.o (by repeat (first | exact Ab.refl _ _ | refine Ab.drew ?_ | refine Ab.drewN ?_ _ | refine Ab.alloc ?_ _)) (fun q=>q)
  ·exact E.o.O (X:=fun _=>False) (by repeat (first | exact Ab.refl _ _ | refine Ab.drew ?_ | refine Ab.drewN ?_ _ | refine Ab.alloc ?_ _)) (fun q=>q)
  rintro e J ⟨rfl,A,r⟩;have j:J.heap[w.heap.size]? =some (.cells #[.int .i64 0,.string {data:=#[]},.int .i64 0] 114 (0,0)):=by rw [r.block w.heap.size (by simp;omega) (by omega)];exact (Below.heap_alloc _ _ _ (by simp)).trans (heap_alloc_new w _)
  have s:=Ar j 0;have u:=Ar j 1;have y:=Ar j 2;have L:=fun i=>AE j i
  simp only [dM,dJ,dK] at s u y;have O:=Ae j;have D:=Aa A;have C:=(((Ab.refl (fun k=>k=b) w).alloc _).alloc _).drew.trans r;clear A r j;go_wp2;refine bodyPost_ret (v:=Vy Bj) (by simp [results,Tryz.results114,go_sem,Vy,Bj,s,u,y];rfl) rfl ⟨rfl,?_,?_⟩
  ·exact Ak.O (X:=fun k=>k=w.heap.size) D.o (by repeat (first | exact Ab.refl _ _ | refine Ab.drew ?_ | refine Ab.alloc ?_ _ | refine Ab.d8 ?_ _ _)) (by omega)
  ·repeat (first | exact C | refine Ab.drew ?_ | refine Ab.alloc ?_ _ | refine Ab.u9 ?_ _ _ (rN _))
end Go.Proofs.YtegmjgjkcdbmkaaGreatDoor

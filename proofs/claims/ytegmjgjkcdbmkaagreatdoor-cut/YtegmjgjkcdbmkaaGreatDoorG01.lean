/- One of the texts of the proof of cut_card_holds: Mem CtP KpA. -/
import Derived.Test.YtegmjgjkcdbmkaaGreatDoorG00
import Derived.Test.YtegmjgjkcdbmkaaGreatDoorProg
import Derived.Below
import Derived.WalkKit
import Derived.WalkSpells
import Derived.WalkLawsBesides
import Derived.RegionTactic
import Derived.ChangeAlike
import Derived.BigRegion
import Derived.Deep.QuietTactic
import Derived.BigQuiet
import Derived.Deep.RegionLaw
import Derived.Deep.DeepCutAuto
set_option maxHeartbeats 400000
namespace Go.Proofs.YtegmjgjkcdbmkaaGreatDoor
open Go.RowKit
structure Ab(X:Nat→Prop)(w w':World):Prop where
 os:w'.os=w.os
 tape:w'.tape=w.tape
 output:w'.output=w.output
 size:w.heap.size≤w'.heap.size
 block:∀k,k<w.heap.size→¬X k→w'.heap[k]? =w.heap[k]?
theorem Ab.refl(X:Nat→Prop)(w):Ab X w w:=⟨rfl,rfl,rfl,Nat.le_refl _,fun _ _ _=>rfl⟩
theorem Ab.trans{X:Nat→Prop}{a b c:World}(h:Ab X a b)(k:Ab X b c):Ab X a c:=
 ⟨k.os.trans h.os,k.tape.trans h.tape,k.output.trans h.output,Nat.le_trans h.size k.size,fun i d e=>(k.block i (Nat.lt_of_lt_of_le d h.size) e).trans (h.block i d e)⟩
theorem Ab.mono{X Y:Nat→Prop}{a b}(h:Ab X a b)(d:∀k,k<a.heap.size→X k→Y k):Ab Y a b:=
 ⟨h.os,h.tape,h.output,h.size,fun k c e=>h.block k c (fun q=>e (d k c q))⟩
theorem Ab.drew{X:Nat→Prop}{a w}(h:Ab X a w):Ab X a w.drew:=⟨h.os,h.tape,h.output,h.size,h.block⟩
theorem Ab.drewN{X:Nat→Prop}{a w}(h:Ab X a w)(n):Ab X a (w.drewN n):=h.trans ⟨rfl,rfl,rfl,Nat.le_refl _,fun _ _ _=>rfl⟩
theorem Ab.alloc{X:Nat→Prop}{a w}(h:Ab X a w)(o):Ab X a (w.alloc o):=
 h.trans ⟨rfl,rfl,rfl,by simp,fun k b _=>Below.heap_alloc _ _ _ b⟩
theorem Ab.setCell{X:Nat→Prop}{a w}(h:Ab X a w){p}(b:X p.block∨a.heap.size≤p.block)(u):Ab X a (w.setCell p u):=by
 refine ⟨h.os,h.tape,h.output,by have:=h.size;simpa [World.setCell] using this,fun k d c=>?_⟩;rw [Below.heap_setCell _ _ _ _ ?_]
 ·exact h.block k d c
 ·intro e;subst e;rcases b with b | b
  ·exact c b
  ·omega
theorem Ab.p7{b a w}(h:Ab (fun k=>k=b) a w)(i u):Ab (fun k=>k=b) a (w.setCell ⟨b,i,none⟩ u):=h.setCell (.inl rfl) u
theorem Ab.Yc{X:Nat→Prop}{b a w}(h:Ab X a w)(i u)(c:a.heap.size≤b):Ab X a (w.setCell ⟨b,i,none⟩ u):=h.setCell (.inr c) u
theorem Ab.below{X:Nat→Prop}{a b}(h:Ab X a b)(d:∀k,X k→a.heap.size≤k):Below a.heap.size a b:=
 ⟨h.os,h.tape,h.output,h.size,fun k c=>h.block k c (fun q=>by have:=d k q;omega)⟩
theorem Ab.Yv{X:Nat→Prop}{B a b}(h:Ab X a b)(d:B≤a.heap.size)(c:∀k,X k→B≤k):Below B a b:=
 ⟨h.os,h.tape,h.output,h.size,fun k e=>h.block k (by omega) (fun q=>by have:=c k q;omega)⟩
theorem Ab.grown{X:Nat→Prop}{a w g f}(h:Ab X a w)(b:w.grownBy g f)(i:∀k,f=some k→X k∨a.heap.size≤k):Ab X a g:=by
 refine ⟨b.os.trans h.os,b.tape.trans h.tape,b.output.trans h.output,Nat.le_trans h.size b.size,fun k c d=>?_⟩;rw [b.block k (Nat.lt_of_lt_of_le c h.size) ?_]
 ·exact h.block k c d
 ·intro e;rcases i k e.symm with q | q
  ·exact d q
  ·omega
theorem Ao{w:World}{b:Nat}{a:Array Value}{t:TypeId}{c:Nat×Nat}(h:w.heap[b]? =some (.cells a t c))(i:Nat):w.cell? ⟨b,i,none⟩=a[i]? :=by simp [World.cell?,h]
theorem Aw{w:World}{b:Nat}{a:Array Value}{t:TypeId}(h:w.heap[b]? =some (.cells a t (0,0)))(i:Nat):w.frozen? ⟨b,i,none⟩=false:=by simp [World.frozen?,h]
theorem Ae{w:World}{b:Nat}{o:Obj}(h:w.heap[b]? =some o):b<w.heap.size:=(Array.getElem?_eq_some_iff.1 h).1
theorem Fg{w:World}{b:Nat}{a:Array Value}{t:TypeId}{c:Nat×Nat}(h:w.heap[b]? =some (.cells a t c))(i:Nat)(u:Value):(w.setCell ⟨b,i,none⟩ u).heap[b]? =some (.cells (a.setIfInBounds i u) t c):=by simp [World.setCell,Array.getElem?_modify,h]
theorem Ac{w d B e c v n f}{X:Nat→Prop}(h:w.ownsRow B e c v n f)(o:Ab X w d)(p:∀k,v.ownBlock=some k→¬X k):d.ownsRow B e c v n f:=by
 refine ⟨h.1,?_⟩;rcases h.2 with l | ⟨g,i,j,b,m,a,r⟩
 ·exact .inl l
 ·refine .inr ⟨g,i,j,b,m,?_,r⟩;rw [o.block g (Ae a) (p g (by rw [b];rfl))];exact a
def Ar(b:Nat)(a:Array Value)(t:TypeId)(w:World):Prop:=w.heap[b]? =some (.cells a t (0,0))
theorem Ar.f8{b a t}{X:Nat→Prop}{w c}(h:Ar b a t w)(d:Ab X w c)(e:¬X b):Ar b a t c:=by unfold Ar at h⊢;rw [d.block b (Ae h) e];exact h
theorem Ar.set{b a t w}(h:Ar b a t w)(i u):Ar b (a.setIfInBounds i u) t (w.setCell ⟨b,i,none⟩ u):=Fg h i u
theorem Ar.alloc{b a t w}(h:Ar b a t w)(o):Ar b a t (w.alloc o):=by have:=Ae h;unfold Ar at h⊢;rw [Below.heap_alloc _ _ _ this];exact h
theorem Ar.new(w:World)(a:Array Value)(t:TypeId):Ar w.heap.size a t (w.alloc (.cells a t)):=heap_alloc_new w _
theorem Ar.cell{b a t w}(h:Ar b a t w)(i):w.cell? ⟨b,i,none⟩=a[i]? :=Ao h i
theorem Ar.frozen{b a t w}(h:Ar b a t w)(i):w.frozen? ⟨b,i,none⟩=false:=Aw h i
theorem Ar.ne{a b:Nat}{c d:Array Value}{t u:TypeId}{w:World}(h:Ar a c t w)(k:Ar b d u w)(e:t≠u):a≠b:=by rintro rfl;unfold Ar at h k;rw [h] at k;simp only [Option.some.injEq,Obj.cells.injEq] at k;exact e k.2.1
theorem Ad{w:World}{B:Nat}{e:TypeId}{f:Nat}{v:Value}{n:Nat}{i:List Value}(h:w.ownsRow B e f v n i):∃a l c,v=.slice a l c:=by
 rcases h.2 with ⟨b,_⟩ | ⟨g,j,k,d,_⟩
 ·exact ⟨_,_,_,b⟩
 ·exact ⟨_,_,_,d⟩
theorem Ax{w:World}{B a:Nat}{e:TypeId}{b:Nat}{v:Value}{n:Nat}{c:List Value}(h:w.ownsRow B e b v n c)(j:a≤B):w.ownsRow a e b v n c:=by
 refine ⟨h.1,?_⟩;rcases h.2 with i | ⟨g,d,f,l,k,r⟩
 ·exact .inl i
 ·exact .inr ⟨g,d,f,l,Nat.le_trans j k,r⟩
theorem Aa{p}(h:p):dJ p:=h
theorem Ab.YF{X:Nat→Prop}{a w b}(h:Ab X a w)(k:Ab (fun _=>False) w b):Ab X a b:=h.trans (k.mono (fun _ _ q=>q.elim))
theorem Am{w c B e b v n d}{X:Nat→Prop}(h:w.ownsRow B e b v n d)(p:Ab X w c)(t:∀k i l,X k→w.heap[k]? ≠some (.cells i e l)):c.ownsRow B e b v n d:=by
 refine ⟨h.1,?_⟩;rcases h.2 with m | ⟨g,f,j,s,o,a,r⟩
 ·exact .inl m
 ·refine .inr ⟨g,f,j,s,o,?_,r⟩;rw [p.block g (Ae a) (fun q=>t g _ _ q a)];exact a
theorem Ic{P:Program}{w:World}(F:Nat)(t l e:TypeId)(i:TypeInfo)(z:Value)(x:P.underlying t=some (.slice e))(p:P.info? e=some i)(D:i.zero=some z)
 (v:Value)(n:Nat)(y:List Value)(r:w.ownsRow F e i.size v n y)
 (a:Addr)(m c:Nat)(d:List Value)(h:d.length=m*i.size)(q:∀j u,d[j]? =some u→w.cell? (a.add j)=some u)(G:∀u∈d,u.oneCell'=true)
 (L:0<m)(H:n+m≤maxLen)(B:(n+m)*i.bytes≤140737488355328){E:Value}{N:World}(s:(Builtin.append_ #[t,t] l #[v,.slice (some a) m c]).run P w=.ok E N):
 ∀k,E.ownBlock=some k→v.ownBlock=some k∨w.heap.size≤k:=by
 intro k f;have O:n+m≤9223372036854775807:=by simp only [maxLen] at H;omega
 rcases r.2 with ⟨rfl,rfl⟩ | ⟨g,o,A,rfl,_,K,R,Q,I,S⟩
 ·have b:=run_append_nil (P:=P) w t l e i z x p D a m c d h q L (by omega) (by simp only [Nat.zero_add] at B;omega);rw [s] at b;simp only [Result.ok.injEq] at b;rw [b.1] at f;simp [Value.ownBlock] at f;exact .inr (by omega)
 ·by_cases C:n+m≤o
  ·have J:n*i.size+d.length≤A.size:=by rw [h,I,←Nat.add_mul];exact Nat.mul_le_mul_right _ C
   have b:=run_append_room (P:=P) w t l e i x p g n o A K a m c d h q G C J;rw [s] at b;simp only [Result.ok.injEq] at b;rw [b.1] at f;exact .inl (by simpa [Value.ownBlock] using f)
  ·have M:∀j u,y[j]? =some u→w.cell? ((⟨g,0,none⟩:Addr).add j)=some u:=r.cells (g:=g) rfl;have b:=run_append_grow (P:=P) w t l e i z x p D ⟨g,0,none⟩ n o y r.1 M a m c d h q (by omega) (by omega) (growslice_fits (by omega) B);rw [s] at b;simp only [Result.ok.injEq] at b;rw [b.1] at f;simp [Value.ownBlock] at f;exact .inr (by omega)
theorem Ay{P:Program}{M:Array Oper}{o:Oper}{a:Act}{w:World}{K:Act→World→Prop}{Q:Exit→Act→World→Prop}{E:Prop}
 (T:o.guard=none)(s x:Operand)(t:TypeId)(V:o.op=Op.call {callee:=Callee.builtin Builtin.append,args:=#[s,x],argTypes:=#[t,t]})
 (g:Nat)(e:TypeId)(i:TypeInfo)(z:Value)(b q:Nat)(A:P.underlying t=some (.slice e))(C:P.info? e=some i)(D:i.zero=some z)(F:i.size=b)(G:i.bytes=q)(N:z.cells.size=b)(O:0<b)
 (v:Value)(n:Nat)(p:List Value)(W:a.eval s=v)(J:w.ownsRow g e b v n p)
 (l:Addr)(m c:Nat)(d:List Value)(Y:a.eval x=.slice (some l) m c)(I:d.length=m*b)(H:∀j u,d[j]? =some u→w.cell? (l.add j)=some u)(B:∀u∈d,u.oneCell'=true)
 (U:0<m)(r:n+m≤maxLen)(y:(n+m)*q≤140737488355328)(S:g≤w.heap.size)
 (R:∀f h,h.ownsRow g e b f (n+m) (p++d)→w.grownBy h v.ownBlock→(∀k,f.ownBlock=some k→v.ownBlock=some k∨w.heap.size≤k)→K (a.put o.dst f) h):
 if Region.wanted o (yielded M a.tmps)=true then Oper.wp P o a w K Q else E:=by
 have X:Region.wanted o (yielded M a.tmps)=true:=by simp [Region.wanted,T]
 rw [if_pos X];obtain ⟨f,h,L,Z,r2,_⟩:=run_append_own (P:=P) w g t o.type e i z b q A C D F G N O v n p J l m c d I H B r y S;have r3:∀k,f.ownBlock=some k→v.ownBlock=some k∨w.heap.size≤k:=by subst F;subst G;exact Ic g t o.type e i z A C D v n p J l m c d I H B U r y L
 unfold Oper.wp;simp [execOp,V,resolve,invoke,builtin,W,Y,L,Result.andThen];exact R f h Z r2 r3
theorem AN{w:World}{g:Nat}(e:g=w.heap.size)(a:Array Value)(t:TypeId):∀j u,a.toList[j]? =some u→(w.alloc (.cells a t)).cell? ((⟨g,0,none⟩:Addr).add j)=some u:=by
 intro j u h;subst e;have d:=(Ar.new w a t).cell j;have c:(⟨w.heap.size,0,none⟩:Addr).add j=⟨w.heap.size,j,none⟩:=by
  simp only [Addr.add];split
  ·rename_i b;subst b;rfl
  ·simp
 rw [c,d];simpa using h
theorem Ap{w:World}{B:Nat}{e:TypeId}{m:Nat}{v:Value}{n:Nat}{o:List Value}(h:w.ownsRow B e m v n o){b:Nat}{d:Array Value}{t:TypeId}{f:Nat×Nat}(i:w.heap[b]? =some (.cells d t f))(j:t≠e):∀k,v.ownBlock=some k→k≠b:=by
 intro k a e;subst e;rcases h.2 with ⟨g,_⟩ | ⟨r,p,q,l,_,c,_⟩
 ·rw [g] at a;simp [Value.ownBlock] at a
 ·rw [l] at a;simp [Value.ownBlock] at a;subst a;rw [i] at c;simp only [Option.some.injEq,Obj.cells.injEq] at c;exact j c.2.1
theorem Ah{w:World}{B:Nat}{e:TypeId}{d:Nat}{a:Option Addr}{l c n:Nat}{f:List Value}(h:w.ownsRow B e d (.slice a l c) n f):l=n:=by
 rcases h.2 with ⟨b,g⟩ | ⟨_,_,_,b,_⟩
 ·simp at b;omega
 ·simp at b;omega
theorem As{w:World}{B:Nat}{e:TypeId}{f:Nat}{a:Option Addr}{l c n:Nat}{g:List Value}(h:w.ownsRow B e f (.slice a l c) n g)(j:0<n):∃b,a=some ⟨b,0,none⟩:=by
 rcases h.2 with ⟨_,i⟩ | ⟨b,_,_,d,_⟩
 ·omega
 ·simp only [Value.slice.injEq] at d;exact ⟨b,d.1⟩
theorem Tryz.infoInt:(Tryz.prog.info? 3).map (fun i=>(i.zero,i.size,i.bytes))=some (some (.int .i64 0),1,8):=by kernel_rfl
theorem GS{w:World}{B:Nat}{t e:TypeId}{j:Nat}{v:Value}{n:Nat}{l:List Value}(h:w.ownsRow B t j v n l)(g:t≠e):∀k b c,v.ownBlock=some k→w.heap[k]? ≠some (.cells b e c):=by
 intro k b c a q;rcases h.2 with ⟨d,_⟩ | ⟨p,m,o,i,_,f,_⟩
 ·rw [d] at a;simp [Value.ownBlock] at a
 ·rw [i] at a;simp [Value.ownBlock] at a;subst a;rw [f] at q;simp only [Option.some.injEq,Obj.cells.injEq] at q;exact g q.2.1
def HA(c:UInt8):Bool:=97≤c && c≤122
def E3(c:UInt8):Bool:=c==40 || c==41 || c==123 || c==125 || c==59 || c==61 || c==38 || c==42 || c==64 || c==46 || c==63
def CS(c:UInt8):Bool:=c==32 || c==10
def I1(c:UInt8):Bool:=c==48 || c==49 || c==50 || c==51
def A4:Nat→List UInt8→Option Nat
 | k,[]=>some k
 | k,c::t=>if HA c then (if k<8 then A4 (k+1) t else none) else if E3 c || CS c || I1 c then A4 0 t else none
theorem Cl(a b):∀k,A4 k (a++b)=(A4 k a).bind (fun j=>A4 j b):=by
 induction a with
 | nil=>intro k;rfl
 | cons c t d=>
   intro k;simp only [List.cons_append,A4];split
   ·split
    ·exact d _
    ·rfl
   ·split
    ·exact d _
    ·rfl
theorem H9{a b k j}(h:A4 k (a++b)=some j):∃i,A4 k a=some i∧A4 i b=some j:=by
 rw [Cl] at h;cases c:A4 k a with
 | none=>rw [c] at h;cases h
 | some i=>rw [c] at h;exact ⟨i,rfl,h⟩
theorem Al{a b k i j}(h:A4 k a=some i)(c:A4 i b=some j):A4 k (a++b)=some j:=by rw [Cl,h];exact c
def B8:Nat→List UInt8
 | 0=>[97]
 | 1=>[98]
 | 2=>[99]
 | _=>[100]
def KK:Nat→List UInt8
 | 0=>[109,97,105,110]
 | 1=>[120]
 | 2=>[121]
 | _=>[122]
def G2(n:Nat):List UInt8:=match n with
 | 0=>[48]
 | 1=>[49]
 | 2=>[50]
 | _=>[51]
def C0:List Nat→List UInt8
 | []=>[40,41]
 | [a]=>[40]++B8 a++[41]
 | a::b::_=>[40]++B8 a++[32]++B8 b++[41]
def K3(b p q g k:Nat)(a:List Nat):List UInt8:=
 match b with
 | 0=>B8 p++[32,61,32,110,101,119,59]
 | 1=>B8 p++[32,61,32,38]++B8 q++[59]
 | 2=>B8 p++[32,61,32,64]++KK g++[59]
 | 3=>B8 p++[32,61,32]++B8 q++[59]
 | 4=>B8 p++[32,61,32,38]++B8 q++[46]++G2 k++[59]
 | 5=>B8 p++[32,61,32,42]++B8 q++[59]
 | 6=>[42]++B8 p++[32,61,32]++B8 q++[59]
 | 7=>B8 p++[32,61,32]++KK g++C0 a++[59]
 | 8=>B8 p++[32,61,32,40,42]++B8 q++[41]++C0 a++[59]
 | _=>[114,101,116,117,114,110,32]++B8 q++[59]
theorem BT(v k)(h:k<8):A4 k (B8 v)=some (k+1):=by unfold B8;split<;>simp [A4,HA,h]
theorem FX(f):∃j,j≤4∧A4 0 (KK f)=some j:=by
 unfold KK;split
 ·exact ⟨4,by omega,rfl⟩
 all_goals exact ⟨1,by omega,rfl⟩
theorem I0(n k):A4 k (G2 n)=some 0:=by unfold G2;split<;>rfl
theorem D4(l k):A4 k (C0 l)=some 0:=by
 have a:=BT;unfold C0;split
 ·rfl
 ·exact Al (Al (i:=0) rfl (BT _ 0 (by omega))) rfl
 ·exact Al (Al (Al (Al (i:=0) rfl (BT _ 0 (by omega))) (j:=0) rfl) (BT _ 0 (by omega))) rfl
theorem KY(d p q g k c):A4 0 (K3 d p q g k c)=some 0:=by
 have a:=fun v=>BT v 0 (by omega)
 obtain ⟨j,_,b⟩:=FX g;unfold K3;split
 ·exact Al (a p) rfl
 ·exact Al (Al (Al (a p) (j:=0) rfl) (a q)) rfl
 ·exact Al (Al (Al (a p) (j:=0) rfl) b) rfl
 ·exact Al (Al (Al (a p) (j:=0) rfl) (a q)) rfl
 ·exact Al (Al (Al (Al (Al (a p) (j:=0) rfl) (a q)) (j:=0) rfl) (I0 _ _)) rfl
 ·exact Al (Al (Al (a p) (j:=0) rfl) (a q)) rfl
 ·exact Al (Al (Al (Al (i:=0) rfl (a p)) (j:=0) rfl) (a q)) rfl
 ·exact Al (Al (Al (Al (a p) (j:=0) rfl) b) (D4 _ _)) rfl
 ·exact Al (Al (Al (Al (Al (a p) (j:=0) rfl) (a q)) (j:=0) rfl) (D4 _ _)) rfl
 ·exact Al (Al (i:=0) rfl (a q)) rfl
theorem CF(v):(B8 v).length=1:=by unfold B8;split<;>rfl
theorem FW(v):(KK v).length≤4:=by unfold KK;split<;>simp
theorem IH(v):(G2 v).length=1:=by unfold G2;split<;>rfl
theorem D2(l):(C0 l).length≤5:=by unfold C0;split<;>simp [CF]
theorem KX(b p q g k a):(K3 b p q g k a).length≤16:=by have c:=FW g;have d:=D2 a;unfold K3;split<;>simp only [List.length_append,CF,IH,List.length_cons,List.length_nil]<;>omega
def K4(b:Nat)(t:List UInt8):List UInt8:=
 match b with
 | 1=>[105,102,32,63,32,123,32]++t++[32,125]
 | 2=>[105,102,32,63,32,123,32,125,32,101,108,115,101,32,123,32]++t++[32,125]
 | 3=>[119,104,105,108,101,32,63,32,123,32]++t++[32,125]
 | _=>t
theorem K2(b t)(h:A4 0 t=some 0):A4 0 (K4 b t)=some 0:=by
 unfold K4;split
 ·exact Al (Al (i:=0) rfl h) rfl
 ·exact Al (Al (i:=0) rfl h) rfl
 ·exact Al (Al (i:=0) rfl h) rfl
 ·exact h
theorem K1(b t):(K4 b t).length≤t.length+18:=by unfold K4;split<;>simp<;>omega
def AL(c:Int)(n:Nat):Nat:=(if c<0 then (-(c+1)) % n else c % n).toNat
theorem A1(c:Int)(n:Nat)(a:0<n):AL c n<n:=by
 unfold AL;split
 ·have:=Int.emod_lt_of_pos (-(c+1)) (by omega:(0:Int)<n);have:=Int.emod_nonneg (-(c+1)) (by omega:(n:Int)≠0);omega
 ·have:=Int.emod_lt_of_pos c (by omega:(0:Int)<n);have:=Int.emod_nonneg c (by omega:(n:Int)≠0);omega
theorem EX{k:IntKind}{a b:Int}(h:a=b):Ending.returned (.int k a)=.returned (.int k b):=by rw [h]
theorem A2(c:Int)(n:Nat)(h: -9223372036854775808≤c)(i:c≤9223372036854775807)(j:0<n)(k:n≤100000)(w:World):
 Calls Tryz.prog 13 #[.int .i64 c,.int .i64 n] w fun e g=>e=.returned (.int .i64 (AL c n))∧g=w:=by
 generalize b:AL c n=v;have a:=Aa b;clear b;by_cases d:c<0
 ·have f:0≤ -(c+1):=by omega
  go_enter Tryz.func13,Tryz.ntmps13;go_wp2;go_ret;refine ⟨EX ?_,rfl⟩;rw [←a.o];have:=Int.emod_nonneg (-(c+1)) (by omega:(n:Int)≠0);simp only [AL,if_pos d];rw [←Int.neg_tmod,Int.tmod_eq_emod_of_nonneg f,Int.toNat_of_nonneg this]
 ·go_enter Tryz.func13,Tryz.ntmps13;go_wp2;go_ret;refine ⟨EX ?_,rfl⟩;rw [←a.o];have:=Int.emod_nonneg c (by omega:(n:Int)≠0);simp only [AL];rw [if_neg (by omega),Int.toNat_of_nonneg this]
theorem BR(v:Nat)(b:v<4)(w:World):
 Calls Tryz.prog 28 #[.int .i64 v] w fun e a=>(∃s:ByteArray,e=.returned (.string s)∧s.data.toList=B8 v∧s.size=1)∧a=w:=by
 have h:v=0∨v=1∨v=2∨v=3:=by omega
 rcases h with rfl | rfl | rfl | rfl
 all_goals
  go_enter Tryz.func28,Tryz.ntmps28;go_wp2;go_ret;exact ⟨⟨_,rfl,by decide+kernel,by decide+kernel⟩,rfl⟩
theorem C2(v:Nat)(b:v<4)(w:World):
 Calls Tryz.prog 26 #[.int .i64 v] w fun e a=>(∃s:ByteArray,e=.returned (.string s)∧s.data.toList=KK v∧s.size≤4)∧a=w:=by
 have h:v=0∨v=1∨v=2∨v=3:=by omega
 rcases h with rfl | rfl | rfl | rfl
 all_goals
  go_enter Tryz.func26,Tryz.ntmps26;go_wp2;go_ret;exact ⟨⟨_,rfl,by decide+kernel,by decide+kernel⟩,rfl⟩
theorem FN(v:Nat)(b:v<4)(w:World):
 Calls Tryz.prog 24 #[.int .i64 v] w fun e a=>(∃s:ByteArray,e=.returned (.string s)∧s.data.toList=G2 v∧s.size=1)∧a=w:=by
 have h:v=0∨v=1∨v=2∨v=3:=by omega
 rcases h with rfl | rfl | rfl | rfl
 all_goals
  go_enter Tryz.func24,Tryz.ntmps24;go_wp2;go_ret;exact ⟨⟨_,rfl,by decide+kernel,by decide+kernel⟩,rfl⟩
theorem BP(v:Nat)(b:v<4)(w:World):
 Calls Tryz.prog 27 #[.int .i64 v] w fun e a=>e=.returned (.int .i64 (v % 3:Nat))∧a=w:=by
 have h:v=0∨v=1∨v=2∨v=3:=by omega
 rcases h with rfl | rfl | rfl | rfl
 all_goals
  go_enter Tryz.func27,Tryz.ntmps27;go_wp2;go_ret;exact ⟨rfl,rfl⟩
theorem FA(t:ByteArray)(b:Int)(k:t.size≤100)(g: -9223372036854775808≤b)(i:b≤9223372036854775807)(w:World):
 Calls Tryz.prog 29 #[.string t,.int .i64 b] w fun e d=>(∃s:ByteArray,e=.returned (.string s)∧s.data.toList=K4 (AL b 5) t.data.toList)∧d=w:=by
 have j:=A1 b 5 (by omega);generalize c:AL b 5=v at*;have f:=Aa c;clear c;have h:v=0∨v=1∨v=2∨v=3∨v=4:=by omega
 rcases h with rfl | rfl | rfl | rfl | rfl
 all_goals
  go_enter Tryz.func29,Tryz.ntmps29;go_wp2_with (go_at_call 13;refine (A2 b 5 g i (by omega) (by omega) _).mono ?_;rw [f.o];rintro e d ⟨rfl,a⟩;have a:=a.symm;subst a);go_ret;exact ⟨⟨_,rfl,by simp [K4]⟩,rfl⟩
end Go.Proofs.YtegmjgjkcdbmkaaGreatDoor

/- One of the texts of the proof: KlA KlC KlD. -/
import Derived.Test.YtegmjgjkcdbmkaaGreatDoorS30
set_option maxRecDepth 100000
set_option maxHeartbeats 4000000
namespace Go.Proofs.YtegmjgjkcdbmkaaGreatDoor
open Go.RowKit
theorem Gv{B w g c}{l:List ByteArray}(h:Au B w (.slice (some ⟨g,0,none⟩) l.length c) l)(k:Nat)(a:k<l.length):w.cell? ⟨g,k,none⟩=some (.string l[k]):=by have:=h.cellAt (k*1) (by simpa using a);rw [Nat.mul_one] at this;rw [this];simp [a]
theorem Qb{w:World}{B:Nat}{e:TypeId}{b:Nat}{v:Value}{n:Nat}{c:List Value}(h:w.ownsRow B e b v n c):n≤9223372036854775807:=by
 rcases h.2 with ⟨_,f⟩ | ⟨_,d,_,_,_,_,g,a,_⟩
 ·omega
 ·unfold maxLen at a;omega
def FY(l:List ByteArray)(s:ByteArray):Bool:=l.any fun a=>a.toList==s.toList
theorem Ih{l:List ByteArray}{s:ByteArray}:FY l s=true↔s∈l:=by
 unfold FY;rw [List.any_eq_true];constructor
 ·rintro ⟨a,b,e⟩;rw [←Dd (beq_iff_eq.1 e)];exact b
 ·exact fun h=>⟨s,h,by simp⟩
theorem SE(l:List ByteArray)(s:ByteArray)(k:Nat)(h:k<l.length):FY (l.drop k) s=((l[k].toList==s.toList) || FY (l.drop (k+1)) s):=by unfold FY;rw [List.drop_eq_getElem_cons h,List.any_cons]
theorem Fs(B:Nat)(v:Value)(l:List ByteArray)(s:ByteArray)(w:World)(h:Au B w v l):
 Calls Tryz.prog 22 #[v,.string s] w fun e p=>e=.returned (.bool (FY l s))∧p=w:=by
 obtain ⟨x,z,y,rfl⟩:=Ad h;have o:=Aq h;subst o;obtain ⟨r,c⟩:∃r,FY l s=r:=⟨_,rfl⟩;rw [c];have d:=Aa c;have u:=Qb h;clear c;go_enter Tryz.func22,Tryz.ntmps22;go_wp2;go_loop [5] (fun i=>∃(k:Nat),k≤l.length∧i=.int .i64 k∧dN (FY (l.drop k) s=r)) (fun i=>l.length-(intOf i).toNat)
 case atStart=>exact ⟨0,by omega,rfl,by rw [List.drop_zero];exact d⟩
 case round=>
  obtain ⟨k,t,rfl,b⟩:=hrel;by_cases j:k<l.length
  ·obtain ⟨g,rfl⟩:=AA h (by omega);have q:=Gv h k j;have a:=b.o;rw [SE l s k j] at a;cases f:(l[k].toList==s.toList) with
   | true=> rw [f,Bool.true_or] at a;subst a;go_wp2;go_ret;exact ⟨rfl,rfl⟩
   | false=>
     rw [f,Bool.false_or] at a;have m:=Aa a;clear a b;go_wp2;go_round
     case rel=>exact ⟨k+1,by omega,by go_num,m⟩
     case measure=>simp [intOf];omega
  ·have a:=b.o;rw [List.drop_of_length_le (by omega)] at a;have n:false=r:=a;subst n;clear a b d;go_wp2;go_ret;exact ⟨rfl,rfl⟩
def Fj(l m:List ByteArray):Bool:=l.all fun s=>FY m s
theorem Lj{l m:List ByteArray}:Fj l m=true↔∀s,s∈l→s∈m:=by unfold Fj;rw [List.all_eq_true];exact ⟨fun h s a=>Ih.1 (h s a),fun h s a=>Ih.2 (h s a)⟩
theorem T8(l m:List ByteArray)(k:Nat)(h:k<l.length):Fj (l.drop k) m=(FY m l[k] && Fj (l.drop (k+1)) m):=by unfold Fj;rw [List.drop_eq_getElem_cons h,List.all_cons]
theorem Ev(B:Nat)(v u:Value)(l m:List ByteArray)(w:World)(h:Au B w v l)(n:Au B w u m):
 Calls Tryz.prog 18 #[v,u] w fun e p=>e=.returned (.bool (Fj l m))∧p=w:=by
 obtain ⟨G,I,H,rfl⟩:=Ad h;obtain ⟨D,F,E,rfl⟩:=Ad n;have y:=Aq h;subst y;obtain ⟨r,o⟩:∃r,Fj l m=r:=⟨_,rfl⟩;rw [o];have j:=Aa o;have C:=Qb h;have q:=Aa n;clear o n;go_enter Tryz.func18,Tryz.ntmps18;go_wp2;go_loop [5] (fun i=>∃(k:Nat),k≤l.length∧i=.int .i64 k∧dN (Fj (l.drop k) m=r)) (fun i=>l.length-(intOf i).toNat)
 case atStart=>exact ⟨0,by omega,rfl,by rw [List.drop_zero];exact j⟩
 case round=>
  obtain ⟨k,A,rfl,d⟩:=hrel;by_cases s:k<l.length
  ·obtain ⟨g,rfl⟩:=AA h (by omega);have z:=Gv h k s;have a:=d.o;rw [T8 l m k s] at a;cases c:FY m l[k] with
   | true=>
     rw [c,Bool.true_and] at a;have t:=Aa a;have f:=Aa c;clear a d c;go_wp2_with (go_at_call 22;refine (Fs B _ m _ _ q.o).mono ?_;rw [f.o];rintro e p ⟨rfl,b⟩;have b:=b.symm;subst b);go_round
     case rel=>exact ⟨k+1,by omega,by go_num,t⟩
     case measure=>simp [intOf];omega
   | false=> rw [c,Bool.false_and] at a;subst a;have f:=Aa c;clear d c j;go_wp2_with (go_at_call 22;refine (Fs B _ m _ _ q.o).mono ?_;rw [f.o];rintro e p ⟨rfl,b⟩;have b:=b.symm;subst b);go_ret;exact ⟨rfl,rfl⟩
  ·have a:=d.o;rw [List.drop_of_length_le (by omega)] at a;have x:true=r:=a;subst x;clear a d j;go_wp2;go_ret;exact ⟨rfl,rfl⟩
structure Tb where
 V:List (List ByteArray)
 F:List (List ByteArray)
 E:List (List ByteArray)
def Dj(w:World)(v:Value)(a:List (List ByteArray)):Prop:=∃b:List Value,b.length=a.length∧w.ownsRow 0 28 1 v a.length b∧∀i (h:i<b.length) (c:i<a.length),Au 0 w b[i] a[i]
theorem Dj.i9{w b v a}(h:Dj w v a)(k:Ab (fun _=>False) w b):Dj b v a:=by obtain ⟨g,e,f,d⟩:=h;exact ⟨g,e,Ac f k (fun _ _ q=>q),fun i h c=>Ac (d i h c) k (fun _ _ q=>q)⟩
def Fv(c:List Value)(b a:Value):Array Value:=(c++[b,a]).toArray
structure Ek(w:World)(vs:List Value)(fv ev:Value)(T:Tb):Prop where
 v16:vs.length=16
 t16:T.V.length=16
 v:∀i (h:i<vs.length) (h':i<T.V.length),Au 0 w vs[i] T.V[i]
 f:Dj w fv T.F
 e:Dj w ev T.E
 fl:T.F.length≤1000
 el:T.E.length≤1000
theorem Ek.i9{w d c b a T}(h:Ek w c b a T)(k:Ab (fun _=>False) w d):Ek d c b a T:=
 ⟨h.v16,h.t16,fun i e f=>Ac (h.v i e f) k (fun _ _ q=>q),h.f.i9 k,h.e.i9 k,h.fl,h.el⟩
def FD(T:Tb)(f v:Nat):List ByteArray:=T.V[f*4+v]?.getD []
theorem Ek.var{w g j i T}(h:Ek w g j i T){f v:Nat}(m:f<4)(n:v<4):∃a c,(Fv g j i)[f*4+v]? =some (.slice a (FD T f v).length c)∧Au 0 w (.slice a (FD T f v).length c) (FD T f v):=by
 have d:f*4+v<g.length:=by rw [h.v16];omega
 have k:f*4+v<T.V.length:=by rw [h.t16];omega
 have b:=h.v _ d k;have e:FD T f v=T.V[f*4+v]:=by unfold FD;rw [rU k];rfl
 rw [←e] at b;obtain ⟨a,l,c,q⟩:=Ad b;rw [q] at b;have:=Aq b;subst this;refine ⟨a,c,?_,b⟩;unfold Fv;rw [dM,List.getElem?_append_left d,rU d,q]
theorem Ek.fld{w g f d T}(h:Ek w g f d T):∃a c,(Fv g f d)[16]? =some (.slice a T.F.length c)∧Dj w (.slice a T.F.length c) T.F:=by obtain ⟨j,e,b,i⟩:=h.f;obtain ⟨a,l,c,rfl⟩:=Ad b;have:=Aq b;subst this;refine ⟨a,c,?_,j,e,b,i⟩;unfold Fv;rw [dM,List.getElem?_append_right (by rw [h.v16];omega),h.v16];rfl
theorem Ek.bN{w g f d T}(h:Ek w g f d T):∃a c,(Fv g f d)[17]? =some (.slice a T.E.length c)∧Dj w (.slice a T.E.length c) T.E:=by obtain ⟨j,e,b,i⟩:=h.e;obtain ⟨a,l,c,rfl⟩:=Ad b;have:=Aq b;subst this;refine ⟨a,c,?_,j,e,b,i⟩;unfold Fv;rw [dM,List.getElem?_append_right (by rw [h.v16];omega),h.v16];rfl
theorem Dj.get{w a c f}(h:Dj w (.slice a f.length c) f){i:Nat}(o:i<f.length):∃g b d,a=some ⟨g,0,none⟩∧w.cell? ⟨g,i,none⟩=some (.slice b f[i].length d)∧g<w.heap.size∧Au 0 w (.slice b f[i].length d) f[i]:=by obtain ⟨p,e,k,n⟩:=h;obtain ⟨g,rfl⟩:=AA k (by omega);have j:=n i (by omega) o;obtain ⟨b,l,d,q⟩:=Ad j;rw [q] at j;have:=Aq j;subst this;have m:=k.cellAt (i*1) (by omega);rw [Nat.mul_one] at m;refine ⟨g,b,d,rfl,?_,(k.lt g rfl).2,j⟩;rw [m,rU (by omega),q]
def GD(f v:Nat):ByteArray:=Kz f++⟨#[46]⟩++GA v
def EX(n k:Nat):ByteArray:=JR n++⟨#[46]⟩++JR k
theorem KH{s:ByteArray}{l:List UInt8}(h:s.data.toList=l):s=⟨l.toArray⟩:=by subst h;cases s;simp
theorem Gm(v:Nat)(d:v<4)(w:World):Calls Tryz.prog 26 #[.int .i64 v] w fun e f=>e=.returned (.string (Kz v))∧f=w:=
 (I4 v d w).mono fun _ _ ⟨⟨s,a,b,_⟩,c⟩=>⟨by rw [a,KH b];rfl,c⟩
theorem Kc(v:Nat)(d:v<4)(w:World):Calls Tryz.prog 28 #[.int .i64 v] w fun e f=>e=.returned (.string (GA v))∧f=w:=
 (Ei v d w).mono fun _ _ ⟨⟨s,a,b,_⟩,c⟩=>⟨by rw [a,KH b];rfl,c⟩
def Vs(d:ByteArray)(c:Value)(b a:Nat):Array Value:=#[.string d,c,.int .i64 b,.int .i64 a]
abbrev K6(x:Sm×Nat)(a:Value):Array Value:=#[.int .i64 x.1.aW,.int .i64 x.1.kind,.int .i64 x.1.p,.int .i64 x.1.q,.int .i64 x.1.g,.int .i64 x.1.k,.int .i64 x.2,a]
theorem X8:∀(a:List ((Sm×Nat)×Value)) (i:Nat) (h:i<a.length) (j:Nat),j<8→(a.flatMap fun y=>Wu y.1 y.2)[i*8+j]? =(Wu (a[i]).1 (a[i]).2)[j]?
 | [],i,h,_,_=>by simp at h
 | y::a,0,_,j,b=>by rw [List.flatMap_cons,Nat.zero_mul,Nat.zero_add,List.getElem?_append_left (by simpa [Wu] using b)];rfl
 | y::a,i+1,h,j,b=>by
   rw [List.flatMap_cons,List.getElem?_append_right (by simp [Wu];omega)];have e:(i+1)*8+j-(Wu y.1 y.2).length=i*8+j:=by simp [Wu];omega
   rw [e,X8 a i (by simpa using h) j b];rfl
theorem J2.get{w a c f}(h:J2 0 w (.slice a f.length c) f){i:Nat}(v:i<f.length):∃g b l d,a=some ⟨g,0,none⟩∧g<w.heap.size∧BT 0 w (.slice b l d) f[i].1.args∧∀j,j<8→w.cell? ⟨g,i*8+j,none⟩=(K6 f[i] (.slice b l d))[j]? :=by
 obtain ⟨k,e,m,p⟩:=h;have u:k.length=f.length:=by rw [←e];simp
 rw [←u] at m;obtain ⟨g,rfl⟩:=AA m (by omega);have s:i<k.length:=by omega
 have o:(k[i]).1=f[i]:=by simp [←e]
 have n:=p k[i] (rQ _);obtain ⟨b,l,d,q⟩:=Ad n;rw [q,o] at n;refine ⟨g,b,l,d,rfl,(m.lt g rfl).2,n,fun j t=>?_⟩;have r:=m.cellAt (i*8+j) (show i*8+j<k.length*8 by omega);rw [r,X8 k i s j t,o,q,dM];rfl
end Go.Proofs.YtegmjgjkcdbmkaaGreatDoor

/- One of the texts of the proof of cut_card_holds: ScI ScJ PaA PaB. -/
import Derived.Test.YtegmjgjkcdbmkaaGreatDoorG06
import Derived.Lib.OthersKept
set_option maxRecDepth 100000
set_option maxHeartbeats 1000000
namespace Go.Proofs.YtegmjgjkcdbmkaaGreatDoor
open Go.RowKit
def WW(w:World)(s:ByteArray)(V:Nat ⊕ Sc)(e:Ending)(a:World):Prop:=
 match V with
 | .inl p=>e=.returned (.tuple #[.slice none 0 0,.int .i64 2,.int .i64 p])∧Below w.heap.size w a
 | .inr x=>∃v,e=.returned (.tuple #[v,.int .i64 0,.int .i64 0])∧a.ownsRow w.heap.size 114 3 v (AC s x).length (CZ (AC s x))∧(AC s x).length≤4001∧Below w.heap.size w a
theorem NM{w:World}{k:Nat}{s:ByteArray}{p:Nat}(h:w.heap[k]? =some (.stringIter s p)):w.iterPos k=p:=by simp [World.iterPos,h]
theorem Jv(w k s p):Ab (fun j=>j=k) w (w.iterAt k s p):=by have h:=Lib.below_iterAt (Below.refl 0 w) (k:=k) (Nat.zero_le _) s p;exact ⟨h.os,h.tape,h.output,h.size,fun j _ a=>Lib.iterAt_other _ _ _ _ _ (fun e=>a e)⟩
theorem Oc{w:World}{B:Nat}{e:TypeId}{i:Nat}{v:Value}{n:Nat}{j:List Value}(h:w.ownsRow B e i v n j){b:Nat}{s:ByteArray}{p:Nat}(f:w.heap[b]? =some (.stringIter s p)):∀k,v.ownBlock=some k→k≠b:=by
 rintro k a rfl;rcases h.2 with ⟨d,_⟩ | ⟨o,l,m,g,_,c,_⟩
 ·rw [d] at a;simp [Value.ownBlock] at a
 ·rw [g] at a;simp [Value.ownBlock] at a;subst a;rw [f] at c;cases c
theorem JN.iter{B b k s t v x w p q}(h:JN B b s v x w)(c:w.heap[k]? =some (.stringIter t p))(a:b≠k):JN B b s v x (w.iterAt k t q):=
 ⟨h.1.f8 (Jv _ _ _ _) a,Ac h.2 (Jv _ _ _ _) (Oc h.2 c)⟩
theorem Fr.iter{b k B s t v f x w c p}(h:Fr b v f w c)(e:JN B b s v x w)(a:w.heap[k]? =some (.stringIter t p))(d:b≠k):c.heap[k]? =some (.stringIter t p):=by
 rw [h.f8.block k (Ae a) ?_]
 ·exact a
 ·rintro (q | q)
  ·exact d q.symm
  ·exact Oc e.2 a k q rfl
theorem Fr.below{b B s v g x w a}(h:Fr b v g w a)(f:JN B b s v x w)(c:B≤w.heap.size)(i:B≤b):Below B w a:=
 h.f8.Yv c (fun k d=>d.elim (fun e=>by omega) (fun q=>(f.2.lt k q).1))
theorem Gb(s)(t:s.size≤4000)(w):
 Calls Tryz.prog 49 #[.string s] w fun e w'=>WW w s (AK s s.size 0 x0) e w':=by
 generalize F:AK s s.size 0 x0=V;have E:dJ (AK s s.size 0 x0=V):=F;clear F;go_enter Tryz.func49,Tryz.ntmps49;go_wp2;go_loopw [6,7,8,9] (fun _ _ _ _ wr=>∃(a q f:Nat) (v:Value) (x:Sc),wr.heap[w.heap.size+1]? =some (.stringIter s a)∧JN w.heap.size w.heap.size s v x wr∧Below w.heap.size w wr∧s.size-a≤f∧JI q x∧q≤a∧q≤s.size∧dJ (AK s f a x=V)) (fun _ _ _ _ wr=>s.size-wr.iterPos (w.heap.size+1))
 case atStart=>
  refine ⟨0,0,s.size,.slice none 0 0,x0,?_,?_,?_,by omega,⟨Nat.le_refl _,by simp,by simp⟩,Nat.le_refl _,Nat.zero_le _,E⟩
  ·have:=World.iter_heap (w.alloc (.cells #[.string s,.slice none 0 0,.bool false,.int .i64 0,.int .i64 0] 152)) s 0;simpa using this
  ·exact ⟨(Ar.new w #[.string s,.slice none 0 0,.bool false,.int .i64 0,.int .i64 0] 152).alloc _,World.ownsRow_nil _ _ _ _⟩
  ·exact ((Below.refl _ _).alloc (Nat.le_refl _) _).alloc (by simp) _
 case round=>
  obtain ⟨a,q,f,v,x,h,u,m,H,p,a0,a1,o⟩:=hrel;clear E;have Z:=NM h;have O:=m.size;by_cases d:a<s.size
  ·have X:∀i,(Instr.next (.pointer (some ⟨w.heap.size+1,0,none⟩)) true i).run Tryz.prog wr=_:=fun i=>Lib.run_next_any_at wr (w.heap.size+1) s a i h d
   have I:=Lib.iterAt_heap wr (w.heap.size+1) s a (a+(Utf8.decode s a).2) h;have B:=Lib.below_iterAt m (k:=w.heap.size+1) (by omega) s (a+(Utf8.decode s a).2);have M:=u.iter (q:=a+(Utf8.decode s a).2) h (by omega);have a3:=FO s a d;have K:=p.more a0;generalize wr.iterAt (w.heap.size+1) s (a+(Utf8.decode s a).2)=W1 at*;have z:=B.size;obtain ⟨y,N⟩:∃y,AU s a (Utf8.decode s a).1 x=y:=⟨_,rfl⟩;have c:=Aa N;have j:=Aa K;have b:=Aa M;have R:=Aa I;have n:=Aa B;clear h u m p K M I B N;obtain ⟨Q,y2,y3⟩:=y;cases y3 with
   | true=>
     go_wp2_with (go_at_call 68;refine (ON w.heap.size w.heap.size s v x a (Utf8.decode s a).1 _ t b.o z d j.o).mono ?_;rw [c.o];rintro e P ⟨rfl,D,l,g⟩);obtain ⟨T,W,G⟩:=Dr (x:=x) H d (by rw [c.o]);rw [c.o] at G;have Y:JI (a+1) Q:=by have:=Vc (s:=s) (r:=(Utf8.decode s a).1) j.o (by rw [c.o]);rw [c.o] at this;exact this
     have J:=g.iter b.o R.o (by omega);go_roundw
     case rel=>exact ⟨a+(Utf8.decode s a).2,a+1,T,D,Q,J,l,n.o.trans (g.below b.o z (Nat.le_refl _)),W,Y,by omega,by omega,by show _=_;rw [←G];exact o.o⟩
     case measure=>rw [NM J,Z];omega
   | false=>
     go_wp2_with (go_at_call 68;refine (ON w.heap.size w.heap.size s v x a (Utf8.decode s a).1 _ t b.o z d j.o).mono ?_;rw [c.o];rintro e P ⟨rfl,D,l,g⟩);go_ret3;have C:V=.inl y2:=by have:=Ej (x:=x) H d (by rw [c.o]);rw [c.o] at this;rw [←o.o,this]
     subst C;exact ⟨rfl,n.o.trans (g.below b.o z (Nat.le_refl _))⟩
  ·have X:∀i,(Instr.next (.pointer (some ⟨w.heap.size+1,0,none⟩)) true i).run Tryz.prog wr=_:=fun i=>Lib.run_next_end_at wr (w.heap.size+1) s a i h d
   have C:V=.inr x:=by rw [←o.o,DI d]
   subst C;have b:=Aa u;have n:=Aa m;have L:=p.more a1;have j:=Aa L;clear h u m p o L;have a2:=(j.o.YG (s:=s)).many;go_wp2_with (first
    | (go_at_call 69;refine (Jp w.heap.size w.heap.size s v x s.size _ t b.o O (Nat.le_refl _) j.o).mono ?_;rintro e w1 ⟨rfl,v1,l,g⟩;have a4:=g.f8.size)
    | (go_at_call 70;refine (Mz w.heap.size w.heap.size s v1 (Da s s.size x) 0 s.size s.size _ t l (by omega) (Nat.le_refl _) (Nat.le_refl _) (by omega)).mono ?_;rintro e P ⟨rfl,D,A,U⟩;have S:=A.1.cell 1;simp only [aU,aS,aT] at S;obtain ⟨va,vl,vc,rfl⟩:=Ad A.2))
   go_ret3;refine ⟨_,rfl,?_,?_,?_⟩
   ·have:=A.2;simpa [AC,IC] using this
   ·simp [AC];omega
   ·exact (n.o.trans (g.below b.o O (Nat.le_refl _))).trans (U.below l (by omega) (Nat.le_refl _))
def WD(t:PT):Prop:=t.kind=2→t.i6=⟨#[48]⟩∨t.i6=⟨#[49]⟩∨t.i6=⟨#[50]⟩∨t.i6=⟨#[51]⟩
def BV(l:List PT):Prop:=∀t,t∈l→WD t
theorem BV.snoc{l t}(h:BV l)(b:WD t):BV (l++[t]):=by
 intro u c;rcases List.mem_append.1 c with a | a
 ·exact h u a
 ·rw [List.mem_singleton.1 a];exact b
theorem Vm(l):DX l≠2:=by
 unfold DX;repeat' split
 all_goals decide
theorem BV.YG{s e x}(h:BV x.Yq):BV (Da s e x).Yq:=by
 unfold Proofs.YtegmjgjkcdbmkaaGreatDoor.Da;split
 ·exact h.snoc (fun a=>absurd a (Vm _))
 ·exact h
theorem RM{r}(h:BI r=2):r=48∨r=49∨r=50∨r=51:=by
 unfold BI at h;split at h
 ·assumption
 ·exfalso;revert h;repeat' split
  all_goals decide
theorem Pq{s p}(a:p<s.size)(h:BI (Utf8.decode s p).1=2):s.extract p (p+1)=⟨#[48]⟩∨s.extract p (p+1)=⟨#[49]⟩∨s.extract p (p+1)=⟨#[50]⟩∨s.extract p (p+1)=⟨#[51]⟩:=by
 have c:=RM h;have k:(s[p]'a).toNat<128:=by
  by_cases f:(s[p]'a).toNat<128
  ·exact f
  ·have:=(decode_high s p a (by omega)).1;omega
 rw [decode_ascii s p a k] at c;have g:s.extract p (p+1)=⟨#[s[p]'a]⟩:=by
  apply ByteArray.ext;rw [ByteArray.data_extract];have o:p<s.data.size:=a;apply Array.ext
  ·simp;omega
  ·intro i l d;have j:i=0:=by simp at d;omega
   subst j;simp;rfl
 have b:∀n:Nat,n<256→(s[p]'a).toNat=n→s[p]'a=UInt8.ofNat n:=by intro n m e;rw [←e];simp
 rw [g];rcases c with q | q | q | q
 ·exact .inl (by rw [b _ (by decide) q];rfl)
 ·exact .inr (.inl (by rw [b _ (by decide) q];rfl))
 ·exact .inr (.inr (.inl (by rw [b _ (by decide) q];rfl)))
 ·exact .inr (.inr (.inr (by rw [b _ (by decide) q];rfl)))
theorem SO{s p x}(c:p<s.size)(h:BV x.Yq):BV (AU s p (Utf8.decode s p).1 x).1.Yq:=by
 unfold AU;split
 ·exact h
 ·split
  ·exact h
  ·split
   ·split
    ·exact h
    ·exact h
   ·have a:=h.YG (s:=s) (e:=p);unfold Dz;split
    ·exact a
    ·split
     ·exact a
     ·split
      ·exact a
      ·exact a.snoc (fun b=>Pq c b)
theorem JC(s:ByteArray):∀(f p:Nat) (x y:Sc),BV x.Yq→AK s f p x=.inr y→BV y.Yq
 | 0,_,x,y,h,e=>by have:=Sum.inr.inj e;subst this;exact h
 | f+1,p,x,y,h,e=>by
   unfold AK at e;split at e
   ·rename_i a;split at e
    ·exact JC s f _ _ y (SO a h) e
    ·cases e
   ·have:=Sum.inr.inj e;subst this;exact h
theorem Ff{s y}(h:AK s s.size 0 ⟨[],false,0,0⟩=.inr y):BV (AC s y):=
 (JC s _ _ _ _ (fun _ b=>absurd b (by simp)) h).YG.snoc (fun a=>absurd (show (0:Nat)=2 from a) (by decide))
structure PS where
 i8:Nat
 Ye:Bool
 Yy:Nat
def BF:PT:=⟨0,ByteArray.empty,0⟩
def Aj(l:List PT)(i:Nat):PT:=l[i]?.getD BF
def Gf(a:List PT)(n:Nat)(x:PS):PS:=⟨n-1,true,if x.Ye then x.Yy else (Aj a x.i8).i9⟩
def Af(a:List PT)(n k:Nat)(x:PS):PS:=if (Aj a x.i8).kind=k then (if k=0 then x else ⟨x.i8+1,x.Ye,x.Yy⟩) else Gf a n x
def AH(a:List PT)(k:Nat)(x:PS):PT:=if (Aj a x.i8).kind=k then Aj a x.i8 else BF
def A3(b g n a:Nat)(x:PS)(w:World):Prop:=Ar b #[.slice (some ⟨g,0,none⟩) n a,.int .i64 x.i8,.bool x.Ye,.int .i64 x.Yy] 158 w
def Ba(g n b:Nat)(a:List PT)(w:World):Prop:=w.ownsRow 0 114 3 (.slice (some ⟨g,0,none⟩) n b) n (CZ a)∧n=a.length∧n≤4001∧BV a
theorem Oj{l i}(h:i<l.length):(CZ l)[i*3]? =some (.int .i64 (Aj l i).kind)∧(CZ l)[i*3+1]? =some (.string (Aj l i).i6)∧(CZ l)[i*3+2]? =some (.int .i64 (Aj l i).i9):=by
 induction l generalizing i with
 | nil=>simp at h
 | cons t l a=>
   cases i with
   | zero=>simp [CZ,Et,Aj]
   | succ i=>
     have:=a (i:=i) (by simpa using h);simp only [CZ,List.flatMap_cons,Aj,aT] at this⊢;have e:∀j,(Et t++List.flatMap Et l)[(i+1)*3+j]? =(List.flatMap Et l)[i*3+j]? :=by intro j;rw [List.getElem?_append_right (by simp [Et];omega)];congr 1;simp [Et];omega
     exact ⟨by rw [show (i+1)*3=(i+1)*3+0 from rfl,e];exact this.1,by rw [e];exact this.2.1,by rw [e];exact this.2.2⟩
theorem Ba.cells{g n c a w}(h:Ba g n c a w){i}(d:i<n):
 w.cell? ⟨g,i*3,none⟩=some (.int .i64 (Aj a i).kind)∧w.cell? ⟨g,i*3+1,none⟩=some (.string (Aj a i).i6)∧w.cell? ⟨g,i*3+2,none⟩=some (.int .i64 (Aj a i).i9):=by
 have e:=h.2.1;have b:=Oj (l:=a) (i:=i) (by omega);exact ⟨by rw [h.1.cellAt _ (by omega)];exact b.1,by rw [h.1.cellAt _ (by omega)];exact b.2.1,by rw [h.1.cellAt _ (by omega)];exact b.2.2⟩
theorem Ba.f8{g n a c}{X:Nat→Prop}{w d}(h:Ba g n a c w)(e:Ab X w d)(f:¬X g):Ba g n a c d:=
 ⟨Ac h.1 e (fun k b=>by simp [Value.ownBlock] at b;subst b;exact f),h.2⟩
theorem Ba.ne{g n a b j w}(h:Ba g n a j w){c t d}(f:w.heap[b]? =some (.cells c t d))(i:t≠114):g≠b:=fun e=>Ap h.1 f i g rfl e
theorem Ba.lt{g n a b w}(h:Ba g n a b w):g<w.heap.size:=(h.1.lt g rfl).2
theorem A5(b g n f x d w)(a:A3 b g n f x w)(c:Ba g n f d w)(h:x.i8<n):
 Calls Tryz.prog 113 #[.pointer (some ⟨b,0,none⟩)] w fun e k=>e=.returned (.int .i64 (Aj d x.i8).kind)∧Ab (fun _=>False) w k:=by
 obtain ⟨p,q,r⟩:=c.cells h;have l:=c.2.2.1;have i:=Ao a 0;have j:=Ao a 1;simp only [aU,aS,aT] at i j;have o:=Ae a;have m:=c.lt;clear a c;generalize Aj d x.i8=t at*;go_enter Tryz.func113,Tryz.ntmps113;go_wp2;go_region;go_wp2;go_ret;exact ⟨rfl,(by repeat (first | exact Ab.refl _ _ | refine Ab.drew ?_ | refine Ab.drewN ?_ _ | refine Ab.alloc ?_ _))⟩
theorem Sf(b g n f x j w)(a:A3 b g n f x w)(d:Ba g n f j w)(s:x.i8<n):
 Calls Tryz.prog 142 #[.pointer (some ⟨b,0,none⟩)] w fun e r=>e=.returned (.tuple #[])∧A3 b g n f (Gf j n x) r∧Ab (fun k=>k=b) w r:=by
 obtain ⟨E,F,G⟩:=d.cells s;have A:=d.2.2.1;have u:=Ao a 0;have v:=Ao a 1;have h:=Ao a 2;have y:=Ao a 3;have z:=fun i=>Aw a i
 simp only [aU,aS,aT] at u v h y;have D:=Ae a;have C:=d.lt;have B:=d.ne a (by decide);have o:=Aa a;clear a d;have p:((n:Int)-1)=((n-1:Nat):Int):=by omega
 have m:=Aa p;clear p;unfold Gf;generalize Aj j x.i8=t at*;cases c:x.Ye with
 | true=> rw [c] at h;have l:=Aa c;clear c;go_enter Tryz.func142,Tryz.ntmps142;go_wp2;go_end0;refine ⟨rfl,?_,(Ab.refl _ _).p7 1 _⟩;have:=Ar.set o.o 1 (.int .i64 ((n:Int)-1));rw [m.o] at this⊢;simpa [A3,l.o] using this
 | false=>
   rw [c] at h;have l:=Aa c;clear c;go_enter Tryz.func142,Tryz.ntmps142;go_wp2;go_region;go_wp2;go_end0;refine ⟨rfl,?_,?_⟩
   ·have:=Ar.f8 (((Ar.set (w:=w) o.o 2 (.bool true)).set 3 (.int .i64 t.i9)).set 1 (.int .i64 ((n:Int)-1))) ((Ab.refl (fun _=>False) _).drew) (fun q=>q);rw [m.o] at this⊢;simpa [A3] using this
   ·exact (((((Ab.refl (fun k=>k=b) w).drew).p7 2 _).p7 3 _).p7 1 _)
def Ut(t:PT):Value:=.agg #[.int .i64 t.kind,.string t.i6,.int .i64 t.i9]
theorem AI(b g n o k:Nat)(x:PS)(a:List PT)(w:World)(f:A3 b g n o x w)(l:Ba g n o a w)(z:x.i8<n):
 Calls Tryz.prog 114 #[.pointer (some ⟨b,0,none⟩),.int .i64 k] w fun e B=>e=.returned (Ut (AH a k x))∧A3 b g n o (Af a n k x) B∧Ab (fun k=>k=b) w B:=by
 obtain ⟨R,S,T⟩:=l.cells z;have M:=l.2.2.1;have H:=Ao f 0;have I:=Ao f 1;have K:=fun i=>Aw f i
 simp only [aU,aS,aT] at H I;have Q:=Ae f;have P:=l.lt;have N:=l.ne f (by decide);have p:=Aa f;have E:=Aa l;clear f l;by_cases c:(Aj a x.i8).kind=k
 ·have m:AH a k x=Aj a x.i8:=by simp [AH,c]
  rw [m];have G:(((Aj a x.i8).kind:Int) !=(k:Int))=false:=by simp [c]
  by_cases h:k=0
  ·have d:Af a n k x=x:=by simp [Af,c,h]
   rw [d];have F:((k:Int) !=0)=false:=by simp [h]
   clear m d c h;generalize Aj a x.i8=t at*;go_enter Tryz.func114,Tryz.ntmps114;go_wp2;go_region;go_wp2;refine bodyPost_ret (v:=Ut t) (by simp [results,Tryz.results114,go_sem,Ut]) rfl ⟨rfl,?_,?_⟩
   ·exact Ar.f8 (X:=fun _=>False) p.o (by repeat (first | exact Ab.refl _ _ | refine Ab.drew ?_ | refine Ab.drewN ?_ _ | refine Ab.alloc ?_ _)) (fun q=>q)
   ·exact (by repeat (first | exact Ab.refl _ _ | refine Ab.drew ?_ | refine Ab.drewN ?_ _ | refine Ab.alloc ?_ _))
  ·have d:Af a n k x=⟨x.i8+1,x.Ye,x.Yy⟩:=by simp [Af,c,h]
   rw [d];have F:((k:Int) !=0)=true:=by simp [h]
   clear m d c h;generalize Aj a x.i8=t at*;go_enter Tryz.func114,Tryz.ntmps114;go_wp2;go_region;go_wp2;refine bodyPost_ret (v:=Ut t) (by simp [results,Tryz.results114,go_sem,Ut]) rfl ⟨rfl,?_,?_⟩
   ·have:=Ar.f8 (X:=fun _=>False) (Ar.set p.o 1 (.int .i64 ((x.i8:Int)+1))) ((((Ab.refl _ _).alloc (.cells #[.int .i64 t.kind,.string t.i6,.int .i64 t.i9] 114)).alloc (.cells #[.int .i64 t.kind,.string t.i6,.int .i64 t.i9] 114)).drew) (fun q=>q);simpa [A3] using this
   ·exact (((((Ab.refl (fun k=>k=b) w).p7 1 _).alloc _).alloc _).drew)
 ·have m:AH a k x=BF:=by simp [AH,c]
  have d:Af a n k x=Gf a n x:=by simp [Af,c]
  rw [m,d];have G:(((Aj a x.i8).kind:Int) !=(k:Int))=true:=by simp;omega
  clear m d c;generalize Aj a x.i8=t at*;go_enter Tryz.func114,Tryz.ntmps114;go_wp2;go_region;go_wp2_with fail;refine (Sf b g n o x a _ ?_ ?_ z).mono ?_
  ·exact Ar.f8 (X:=fun _=>False) p.o (by repeat (first | exact Ab.refl _ _ | refine Ab.drew ?_ | refine Ab.drewN ?_ _ | refine Ab.alloc ?_ _)) (fun q=>q)
  ·exact E.o.f8 (X:=fun _=>False) (by repeat (first | exact Ab.refl _ _ | refine Ab.drew ?_ | refine Ab.drewN ?_ _ | refine Ab.alloc ?_ _)) (fun q=>q)
  rintro e J ⟨rfl,A,r⟩;have j:J.heap[w.heap.size]? =some (.cells #[.int .i64 0,.string {data:=#[]},.int .i64 0] 114 (0,0)):=by rw [r.block w.heap.size (by simp;omega) (by omega)];exact (Below.heap_alloc _ _ _ (by simp)).trans (heap_alloc_new w _)
  have s:=Ao j 0;have u:=Ao j 1;have y:=Ao j 2;have L:=fun i=>Aw j i
  simp only [aU,aS,aT] at s u y;have O:=Ae j;have D:=Aa A;have C:=(((Ab.refl (fun k=>k=b) w).alloc _).alloc _).drew.trans r;clear A r j;go_wp2;refine bodyPost_ret (v:=Ut BF) (by simp [results,Tryz.results114,go_sem,Ut,BF,s,u,y];rfl) rfl ⟨rfl,?_,?_⟩
  ·exact Ar.f8 (X:=fun k=>k=w.heap.size) D.o (by repeat (first | exact Ab.refl _ _ | refine Ab.drew ?_ | refine Ab.alloc ?_ _ | refine Ab.p7 ?_ _ _)) (by omega)
  ·repeat (first | exact C | refine Ab.drew ?_ | refine Ab.alloc ?_ _ | refine Ab.Yc ?_ _ _ (Nat.le_refl _))
end Go.Proofs.YtegmjgjkcdbmkaaGreatDoor

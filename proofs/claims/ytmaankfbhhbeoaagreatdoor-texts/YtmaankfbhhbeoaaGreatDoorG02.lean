/- One of the texts of the proof of texts_card_holds: ScH ScB ScI ScJ PaA PaB PaC TrA. -/
import Derived.Test.YtmaankfbhhbeoaaGreatDoorG01
import Derived.Lib.OthersKept
import Derived.Deep.RegionWith
set_option maxRecDepth 100000
set_option maxHeartbeats 1000000
namespace Go.Proofs.YtmaankfbhhbeoaaGreatDoor
open Go.RowKit
theorem IR(B b:Nat)(s:ByteArray)(v:Value)(x:Sc)(p r:Nat)(w:World)(m:s.size≤4000)(h:Fx B b s v x w)(N:B≤w.heap.size)(O:p<s.size)(D:Fs p x):
 Calls Tryz.prog 34 #[.pointer (some ⟨b,0,none⟩),.int .i64 p,.int .i32 r] w fun e i=>e=.returned (.tuple #[.int .i64 (AC s p r x).2.1,.bool (AC s p r x).2.2])∧∃F,Fx B b s F (AC s p r x).1 i∧Fr b v F w i:=by
 have J:=h.1.cell 0;have z:=h.1.cell 2;have S:=h.1.frozen;simp only [Ni,Ng,Nh] at J z;have U:=Ad h.1;have j:=Aa h;have y:=Aa D;clear h D;cases c:BN s p r with
 | true=>
   have f:AC s p r x=(x,p,false):=by simp [AC,c]
   rw [f];have n:=Aa c;clear c;go_enter Tryz.func34,Tryz.ntmps34;go_wp2_with (first | (go_at_call 49;refine (CQ _ _ _ m (by omega) _).mono ?_;rw [n.o];rintro e i ⟨rfl,a⟩;have a:=a.symm;subst a));go_ret2;exact ⟨rfl,v,j.o,Fr.refl _ _ _⟩
 | false=>
   have n:=Aa c;cases g:x.rem with
   | true=>
     have f:AC s p r x=(⟨x.p6,r !=10,x.start,x.j8⟩,0,true):=by simp [AC,c,g]
     rw [f];rw [g] at z;have E:((r:Int) !=10)=(r !=10):=by rw [Bool.eq_iff_iff];simp;omega
     have I:=Aa E;clear c g E;go_enter Tryz.func34,Tryz.ntmps34;go_wp2_with (first | (go_at_call 49;refine (CQ _ _ _ m (by omega) _).mono ?_;rw [n.o];rintro e i ⟨rfl,a⟩;have a:=a.symm;subst a));go_ret2;refine ⟨rfl,v,⟨?_,?_⟩,(Fr.refl _ _ _).set 2 _⟩
     ·have:=j.o.1.set 2 (.bool ((r:Int) !=10));rw [I.o] at this⊢;simpa using this
     ·exact Ac j.o.2 ((Ab.refl (fun k=>k=b) _).i7 2 _) j.o.ne
   | false=>
     rw [g] at z;cases l:GI r with
     | true=>
       have u:=Aa l;have f:AC s p r x=(Br p x,(if 8<x.j8+1 then (Br p x).start else 0),!decide (8<x.j8+1)):=by simp only [AC,c,g,l];by_cases M:8<x.j8+1<;>simp [M]
       rw [f];clear c g l f;obtain ⟨q,t⟩:∃q,(if 8<x.j8+1 then (Br p x).start else 0)=q:=⟨_,rfl⟩;obtain ⟨d,C⟩:∃d,(!decide (8<x.j8+1))=d:=⟨_,rfl⟩;have H:=Aa t;have G:=Aa C;rw [t,C];clear t C;go_enter Tryz.func34,Tryz.ntmps34;go_wp2_with (first | (go_at_call 49;refine (CQ _ _ _ m (by omega) _).mono ?_;rw [n.o];rintro e i ⟨rfl,a⟩;have a:=a.symm;subst a) | (go_at_call 50;refine (EL _ _).mono ?_;rw [u.o];rintro e i ⟨rfl,a⟩;have a:=a.symm;subst a) | (go_at_call 51;refine (GD B b s v x p _ j.o y.o.j8).mono ?_;rw [H.o,G.o];rintro e R ⟨rfl,A,o⟩));go_ret2;exact ⟨rfl,v,A,o⟩
     | false=>
       have u:=Aa l;have f:AC s p r x=Cp s p r (Cb s p x):=by simp [AC,c,g,l]
       rw [f];clear c g l f;go_enter Tryz.func34,Tryz.ntmps34;go_wp2_with (first | (go_at_call 49;refine (CQ _ _ _ m (by omega) _).mono ?_;rw [n.o];rintro e i ⟨rfl,a⟩;have a:=a.symm;subst a) | (go_at_call 50;refine (EL _ _).mono ?_;rw [u.o];rintro e i ⟨rfl,a⟩;have a:=a.symm;subst a) | (go_at_call 35;refine (Ff B b s v x p _ m j.o N (by omega) y.o).mono ?_;rintro e R ⟨rfl,P,A,o⟩;have T:=o.d7.size;have t:=(y.o.u4 (s:=s)).many) | (go_at_call 52;refine (H1 B b s P (Cb s p x) p r _ m A (by omega) O (by omega)).mono ?_;rintro e V ⟨rfl,Q,K,L⟩));go_ret2;exact ⟨rfl,Q,K,o.trans L⟩
abbrev x0:Sc:=⟨[],false,0,0⟩
def L7(w:World)(s:ByteArray)(V:Nat ⊕ Sc)(e:Ending)(a:World):Prop:=
 match V with
 | .inl p=>e=.returned (.tuple #[.slice none 0 0,.int .i64 2,.int .i64 p])∧Below w.heap.size w a
 | .inr x=>∃v,e=.returned (.tuple #[v,.int .i64 0,.int .i64 0])∧a.ownsRow w.heap.size 69 3 v (An s x).length (BG (An s x))∧(An s x).length≤4001∧Below w.heap.size w a
theorem Ir{w:World}{k:Nat}{s:ByteArray}{p:Nat}(h:w.heap[k]? =some (.stringIter s p)):w.iterPos k=p:=by simp [World.iterPos,h]
theorem Fj(w k s p):Ab (fun j=>j=k) w (w.iterAt k s p):=by have h:=Lib.below_iterAt (Below.refl 0 w) (k:=k) (Nat.zero_le _) s p;exact ⟨h.os,h.tape,h.output,h.size,fun j _ a=>Lib.iterAt_other _ _ _ _ _ (fun e=>a e)⟩
theorem IC{w:World}{B:Nat}{e:TypeId}{i:Nat}{v:Value}{n:Nat}{j:List Value}(h:w.ownsRow B e i v n j){b:Nat}{s:ByteArray}{p:Nat}(f:w.heap[b]? =some (.stringIter s p)):∀k,v.ownBlock=some k→k≠b:=by
 rintro k a rfl;rcases h.2 with ⟨d,_⟩ | ⟨o,l,m,g,_,c,_⟩
 ·rw [d] at a;simp [Value.ownBlock] at a
 ·rw [g] at a;simp [Value.ownBlock] at a;subst a;rw [f] at c;cases c
theorem Fx.iter{B b k s t v x w p q}(h:Fx B b s v x w)(c:w.heap[k]? =some (.stringIter t p))(a:b≠k):Fx B b s v x (w.iterAt k t q):=
 ⟨h.1.d7 (Fj _ _ _ _) a,Ac h.2 (Fj _ _ _ _) (IC h.2 c)⟩
theorem Fr.iter{b k B s t v f x w c p}(h:Fr b v f w c)(e:Fx B b s v x w)(a:w.heap[k]? =some (.stringIter t p))(d:b≠k):c.heap[k]? =some (.stringIter t p):=by
 rw [h.d7.block k (Ad a) ?_]
 ·exact a
 ·rintro (q | q)
  ·exact d q.symm
  ·exact IC e.2 a k q rfl
theorem Fr.below{b B s v g x w a}(h:Fr b v g w a)(f:Fx B b s v x w)(c:B≤w.heap.size)(i:B≤b):Below B w a:=
 h.d7.s7 c (fun k d=>d.elim (fun e=>by omega) (fun q=>(f.2.lt k q).1))
theorem IU(s)(c:4000<s.size)(a:s.size≤maxLen)(w):
 Calls Tryz.prog 17 #[.string s] w fun e b=>e=.returned (.tuple #[.slice none 0 0,.int .i64 1,.int .i64 0])∧b=w:=by
 unfold maxLen at a;go_enter Tryz.func17,Tryz.ntmps17;go_wp2;go_ret3;exact ⟨rfl,rfl⟩
theorem DK(s)(t:s.size≤4000)(w):
 Calls Tryz.prog 17 #[.string s] w fun e w'=>L7 w s (Aw s s.size 0 x0) e w':=by
 generalize F:Aw s s.size 0 x0=V;have E:Nj (Aw s s.size 0 x0=V):=F;clear F;go_enter Tryz.func17,Tryz.ntmps17;go_wp2;go_loopw [6,7,8,9] (fun _ _ _ _ wr=>∃(a q f:Nat) (v:Value) (x:Sc),wr.heap[w.heap.size+1]? =some (.stringIter s a)∧Fx w.heap.size w.heap.size s v x wr∧Below w.heap.size w wr∧s.size-a≤f∧Fs q x∧q≤a∧q≤s.size∧Nj (Aw s f a x=V)) (fun _ _ _ _ wr=>s.size-wr.iterPos (w.heap.size+1))
 case atStart=>
  refine ⟨0,0,s.size,.slice none 0 0,x0,?_,?_,?_,by omega,⟨Nat.le_refl _,by simp,by simp⟩,Nat.le_refl _,Nat.zero_le _,E⟩
  ·have:=World.iter_heap (w.alloc (.cells #[.string s,.slice none 0 0,.bool false,.int .i64 0,.int .i64 0] 90)) s 0;simpa using this
  ·exact ⟨(Aq.new w #[.string s,.slice none 0 0,.bool false,.int .i64 0,.int .i64 0] 90).alloc _,World.ownsRow_nil _ _ _ _⟩
  ·exact ((Below.refl _ _).alloc (Nat.le_refl _) _).alloc (by simp) _
 case round=>
  obtain ⟨a,q,f,v,x,h,u,m,H,p,a0,a1,o⟩:=hrel;clear E;have Z:=Ir h;have O:=m.size;by_cases d:a<s.size
  ·have X:∀i,(Instr.next (.pointer (some ⟨w.heap.size+1,0,none⟩)) true i).run Tryz.prog wr=_:=fun i=>Lib.run_next_any_at wr (w.heap.size+1) s a i h d
   have I:=Lib.iterAt_heap wr (w.heap.size+1) s a (a+(Utf8.decode s a).2) h;have B:=Lib.below_iterAt m (k:=w.heap.size+1) (by omega) s (a+(Utf8.decode s a).2);have M:=u.iter (q:=a+(Utf8.decode s a).2) h (by omega);have a3:=En s a d;have K:=p.more a0;generalize wr.iterAt (w.heap.size+1) s (a+(Utf8.decode s a).2)=W1 at*;have z:=B.size;obtain ⟨y,N⟩:∃y,AC s a (Utf8.decode s a).1 x=y:=⟨_,rfl⟩;have c:=Aa N;have j:=Aa K;have b:=Aa M;have R:=Aa I;have n:=Aa B;clear h u m p K M I B N;obtain ⟨Q,y2,y3⟩:=y;cases y3 with
   | true=>
     go_wp2_with (go_at_call 34;refine (IR w.heap.size w.heap.size s v x a (Utf8.decode s a).1 _ t b.o z d j.o).mono ?_;rw [c.o];rintro e P ⟨rfl,D,l,g⟩);obtain ⟨T,W,G⟩:=Ca (x:=x) H d (by rw [c.o]);rw [c.o] at G;have Y:Fs (a+1) Q:=by have:=Ll (s:=s) (r:=(Utf8.decode s a).1) j.o (by rw [c.o]);rw [c.o] at this;exact this
     have J:=g.iter b.o R.o (by omega);go_roundw
     case rel=>exact ⟨a+(Utf8.decode s a).2,a+1,T,D,Q,J,l,n.o.trans (g.below b.o z (Nat.le_refl _)),W,Y,by omega,by omega,by show _=_;rw [←G];exact o.o⟩
     case measure=>rw [Ir J,Z];omega
   | false=>
     go_wp2_with (go_at_call 34;refine (IR w.heap.size w.heap.size s v x a (Utf8.decode s a).1 _ t b.o z d j.o).mono ?_;rw [c.o];rintro e P ⟨rfl,D,l,g⟩);go_ret3;have C:V=.inl y2:=by have:=CL (x:=x) H d (by rw [c.o]);rw [c.o] at this;rw [←o.o,this]
     subst C;exact ⟨rfl,n.o.trans (g.below b.o z (Nat.le_refl _))⟩
  ·have X:∀i,(Instr.next (.pointer (some ⟨w.heap.size+1,0,none⟩)) true i).run Tryz.prog wr=_:=fun i=>Lib.run_next_end_at wr (w.heap.size+1) s a i h d
   have C:V=.inr x:=by rw [←o.o,Co d]
   subst C;have b:=Aa u;have n:=Aa m;have L:=p.more a1;have j:=Aa L;clear h u m p o L;have a2:=(j.o.u4 (s:=s)).many;go_wp2_with (first
    | (go_at_call 35;refine (Ff w.heap.size w.heap.size s v x s.size _ t b.o O (Nat.le_refl _) j.o).mono ?_;rintro e w1 ⟨rfl,v1,l,g⟩;have a4:=g.d7.size)
    | (go_at_call 36;refine (Hm w.heap.size w.heap.size s v1 (Cb s s.size x) 0 s.size s.size _ t l (by omega) (Nat.le_refl _) (Nat.le_refl _) (by omega)).mono ?_;rintro e P ⟨rfl,D,A,U⟩;have S:=A.1.cell 1;simp only [Ni,Ng,Nh] at S;obtain ⟨va,vl,vc,rfl⟩:=Af A.2))
   go_ret3;refine ⟨_,rfl,?_,?_,?_⟩
   ·have:=A.2;simpa [An,EQ] using this
   ·simp [An];omega
   ·exact (n.o.trans (g.below b.o O (Nat.le_refl _))).trans (U.below l (by omega) (Nat.le_refl _))
def LX(t:PT):Prop:=t.kind=2→t.d9=⟨#[48]⟩∨t.d9=⟨#[49]⟩∨t.d9=⟨#[50]⟩∨t.d9=⟨#[51]⟩
def DigOk(l:List PT):Prop:=∀t,t∈l→LX t
theorem DigOk.snoc{l t}(h:DigOk l)(b:LX t):DigOk (l++[t]):=by
 intro u c;rcases List.mem_append.1 c with a | a
 ·exact h u a
 ·rw [List.mem_singleton.1 a];exact b
theorem Ls(l):Cx l≠2:=by
 unfold Cx;repeat' split
 all_goals decide
theorem DigOk.u4{s e x}(h:DigOk x.p6):DigOk (Cb s e x).p6:=by
 unfold Proofs.YtmaankfbhhbeoaaGreatDoor.Cb;split
 ·exact h.snoc (fun a=>absurd a (Ls _))
 ·exact h
theorem J6{r}(h:Be r=2):r=48∨r=49∨r=50∨r=51:=by
 unfold Be at h;split at h
 ·assumption
 ·exfalso;revert h;repeat' split
  all_goals decide
theorem Jd{s p}(a:p<s.size)(h:Be (Utf8.decode s p).1=2):s.extract p (p+1)=⟨#[48]⟩∨s.extract p (p+1)=⟨#[49]⟩∨s.extract p (p+1)=⟨#[50]⟩∨s.extract p (p+1)=⟨#[51]⟩:=by
 have c:=J6 h;have k:(s[p]'a).toNat<128:=by
  by_cases f:(s[p]'a).toNat<128
  ·exact f
  ·have:=(decode_high s p a (by omega)).1;omega
 rw [decode_ascii s p a k] at c;have g:s.extract p (p+1)=⟨#[s[p]'a]⟩:=by
  apply ByteArray.ext;rw [ByteArray.data_extract];have o:p<s.data.size:=a;apply Array.ext
  ·simp;omega
  ·intro i l d;have j:i=0:=by simp at d;omega
   subst j;simp;rfl
 have b:∀n:Nat,n<256→(s[p]'a).toNat=n→s[p]'a=UInt8.ofNat n:=by intro n m e;rw [←e];simp
 rw [g];rcases c with q | q | q | q
 ·exact .inl (by rw [b _ (by decide) q];rfl)
 ·exact .inr (.inl (by rw [b _ (by decide) q];rfl))
 ·exact .inr (.inr (.inl (by rw [b _ (by decide) q];rfl)))
 ·exact .inr (.inr (.inr (by rw [b _ (by decide) q];rfl)))
theorem Kh{s p x}(c:p<s.size)(h:DigOk x.p6):DigOk (AC s p (Utf8.decode s p).1 x).1.p6:=by
 unfold AC;split
 ·exact h
 ·split
  ·exact h
  ·split
   ·split
    ·exact h
    ·exact h
   ·have a:=h.u4 (s:=s) (e:=p);unfold Cp;split
    ·exact a
    ·split
     ·exact a
     ·split
      ·exact a
      ·exact a.snoc (fun b=>Jd c b)
theorem Fo(s:ByteArray):∀(f p:Nat) (x y:Sc),DigOk x.p6→Aw s f p x=.inr y→DigOk y.p6
 | 0,_,x,y,h,e=>by have:=Sum.inr.inj e;subst this;exact h
 | f+1,p,x,y,h,e=>by
   unfold Aw at e;split at e
   ·rename_i a;split at e
    ·exact Fo s f _ _ y (Kh a h) e
    ·cases e
   ·have:=Sum.inr.inj e;subst this;exact h
theorem Dk{s y}(h:Aw s s.size 0 ⟨[],false,0,0⟩=.inr y):DigOk (An s y):=
 (Fo s _ _ _ _ (fun _ b=>absurd b (by simp)) h).u4.snoc (fun a=>absurd (show (0:Nat)=2 from a) (by decide))
structure PS where
 d8:Nat
 l7:Bool
 r8:Nat
def A7:PT:=⟨0,ByteArray.empty,0⟩
def Ah(l:List PT)(i:Nat):PT:=l[i]?.getD A7
def Ef(a:List PT)(n:Nat)(x:PS):PS:=⟨n-1,true,if x.l7 then x.r8 else (Ah a x.d8).f8⟩
def Ae(a:List PT)(n k:Nat)(x:PS):PS:=if (Ah a x.d8).kind=k then (if k=0 then x else ⟨x.d8+1,x.l7,x.r8⟩) else Ef a n x
def Av(a:List PT)(k:Nat)(x:PS):PT:=if (Ah a x.d8).kind=k then Ah a x.d8 else A7
def AH(b g n a:Nat)(x:PS)(w:World):Prop:=Aq b #[.slice (some ⟨g,0,none⟩) n a,.int .i64 x.d8,.bool x.l7,.int .i64 x.r8] 95 w
def AI(g n b:Nat)(a:List PT)(w:World):Prop:=w.ownsRow 0 69 3 (.slice (some ⟨g,0,none⟩) n b) n (BG a)∧n=a.length∧n≤4001∧DigOk a
theorem IJ{l i}(h:i<l.length):(BG l)[i*3]? =some (.int .i64 (Ah l i).kind)∧(BG l)[i*3+1]? =some (.string (Ah l i).d9)∧(BG l)[i*3+2]? =some (.int .i64 (Ah l i).f8):=by
 induction l generalizing i with
 | nil=>simp at h
 | cons t l a=>
   cases i with
   | zero=>simp [BG,CR,Ah]
   | succ i=>
     have:=a (i:=i) (by simpa using h);simp only [BG,List.flatMap_cons,Ah,Nh] at this⊢;have e:∀j,(CR t++List.flatMap CR l)[(i+1)*3+j]? =(List.flatMap CR l)[i*3+j]? :=by intro j;rw [List.getElem?_append_right (by simp [CR];omega)];congr 1;simp [CR];omega
     exact ⟨by rw [show (i+1)*3=(i+1)*3+0 from rfl,e];exact this.1,by rw [e];exact this.2.1,by rw [e];exact this.2.2⟩
theorem AI.cells{g n c a w}(h:AI g n c a w){i}(d:i<n):
 w.cell? ⟨g,i*3,none⟩=some (.int .i64 (Ah a i).kind)∧w.cell? ⟨g,i*3+1,none⟩=some (.string (Ah a i).d9)∧w.cell? ⟨g,i*3+2,none⟩=some (.int .i64 (Ah a i).f8):=by
 have e:=h.2.1;have b:=IJ (l:=a) (i:=i) (by omega);exact ⟨by rw [h.1.cellAt _ (by omega)];exact b.1,by rw [h.1.cellAt _ (by omega)];exact b.2.1,by rw [h.1.cellAt _ (by omega)];exact b.2.2⟩
theorem AI.d7{g n a c}{X:Nat→Prop}{w d}(h:AI g n a c w)(e:Ab X w d)(f:¬X g):AI g n a c d:=
 ⟨Ac h.1 e (fun k b=>by simp [Value.ownBlock] at b;subst b;exact f),h.2⟩
theorem AI.ne{g n a b j w}(h:AI g n a j w){c t d}(f:w.heap[b]? =some (.cells c t d))(i:t≠69):g≠b:=fun e=>Az h.1 f i g rfl e
theorem AI.lt{g n a b w}(h:AI g n a b w):g<w.heap.size:=(h.1.lt g rfl).2
theorem AJ(b g n f x d w)(a:AH b g n f x w)(c:AI g n f d w)(h:x.d8<n):
 Calls Tryz.prog 55 #[.pointer (some ⟨b,0,none⟩)] w fun e k=>e=.returned (.int .i64 (Ah d x.d8).kind)∧Ab (fun _=>False) w k:=by
 obtain ⟨p,q,r⟩:=c.cells h;have l:=c.2.2.1;have i:=Aj a 0;have j:=Aj a 1;simp only [Ni,Ng,Nh] at i j;have o:=Ad a;have m:=c.lt;clear a c;generalize Ah d x.d8=t at*;go_enter Tryz.func55,Tryz.ntmps55;go_wp2;go_region;go_wp2;go_ret;exact ⟨rfl,(by repeat (first | exact Ab.refl _ _ | refine Ab.drew ?_ | refine Ab.drewN ?_ _ | refine Ab.alloc ?_ _))⟩
theorem Ka(b g n f x j w)(a:AH b g n f x w)(d:AI g n f j w)(s:x.d8<n):
 Calls Tryz.prog 67 #[.pointer (some ⟨b,0,none⟩)] w fun e r=>e=.returned (.tuple #[])∧AH b g n f (Ef j n x) r∧Ab (fun k=>k=b) w r:=by
 obtain ⟨E,F,G⟩:=d.cells s;have A:=d.2.2.1;have u:=Aj a 0;have v:=Aj a 1;have h:=Aj a 2;have y:=Aj a 3;have z:=fun i=>AK a i
 simp only [Ni,Ng,Nh] at u v h y;have D:=Ad a;have C:=d.lt;have B:=d.ne a (by decide);have o:=Aa a;clear a d;have p:((n:Int)-1)=((n-1:Nat):Int):=by omega
 have m:=Aa p;clear p;unfold Ef;generalize Ah j x.d8=t at*;cases c:x.l7 with
 | true=> rw [c] at h;have l:=Aa c;clear c;go_enter Tryz.func67,Tryz.ntmps67;go_wp2;go_end0;refine ⟨rfl,?_,(Ab.refl _ _).i7 1 _⟩;have:=Aq.set o.o 1 (.int .i64 ((n:Int)-1));rw [m.o] at this⊢;simpa [AH,l.o] using this
 | false=>
   rw [c] at h;have l:=Aa c;clear c;go_enter Tryz.func67,Tryz.ntmps67;go_wp2;go_region;go_wp2;go_end0;refine ⟨rfl,?_,?_⟩
   ·have:=Aq.d7 (((Aq.set (w:=w) o.o 2 (.bool true)).set 3 (.int .i64 t.f8)).set 1 (.int .i64 ((n:Int)-1))) ((Ab.refl (fun _=>False) _).drew) (fun q=>q);rw [m.o] at this⊢;simpa [AH] using this
   ·exact (((((Ab.refl (fun k=>k=b) w).drew).i7 2 _).i7 3 _).i7 1 _)
def K7(t:PT):Value:=.agg #[.int .i64 t.kind,.string t.d9,.int .i64 t.f8]
theorem Au(b g n o k:Nat)(x:PS)(a:List PT)(w:World)(f:AH b g n o x w)(l:AI g n o a w)(z:x.d8<n):
 Calls Tryz.prog 56 #[.pointer (some ⟨b,0,none⟩),.int .i64 k] w fun e B=>e=.returned (K7 (Av a k x))∧AH b g n o (Ae a n k x) B∧Ab (fun k=>k=b) w B:=by
 obtain ⟨R,S,T⟩:=l.cells z;have M:=l.2.2.1;have H:=Aj f 0;have I:=Aj f 1;have K:=fun i=>AK f i
 simp only [Ni,Ng,Nh] at H I;have Q:=Ad f;have P:=l.lt;have N:=l.ne f (by decide);have p:=Aa f;have E:=Aa l;clear f l;by_cases c:(Ah a x.d8).kind=k
 ·have m:Av a k x=Ah a x.d8:=by simp [Av,c]
  rw [m];have G:(((Ah a x.d8).kind:Int) !=(k:Int))=false:=by simp [c]
  by_cases h:k=0
  ·have d:Ae a n k x=x:=by simp [Ae,c,h]
   rw [d];have F:((k:Int) !=0)=false:=by simp [h]
   clear m d c h;generalize Ah a x.d8=t at*;go_enter Tryz.func56,Tryz.ntmps56;go_wp2;go_region;go_wp2;refine bodyPost_ret (v:=K7 t) (by simp [results,Tryz.results56,go_sem,K7]) rfl ⟨rfl,?_,?_⟩
   ·exact Aq.d7 (X:=fun _=>False) p.o (by repeat (first | exact Ab.refl _ _ | refine Ab.drew ?_ | refine Ab.drewN ?_ _ | refine Ab.alloc ?_ _)) (fun q=>q)
   ·exact (by repeat (first | exact Ab.refl _ _ | refine Ab.drew ?_ | refine Ab.drewN ?_ _ | refine Ab.alloc ?_ _))
  ·have d:Ae a n k x=⟨x.d8+1,x.l7,x.r8⟩:=by simp [Ae,c,h]
   rw [d];have F:((k:Int) !=0)=true:=by simp [h]
   clear m d c h;generalize Ah a x.d8=t at*;go_enter Tryz.func56,Tryz.ntmps56;go_wp2;go_region;go_wp2;refine bodyPost_ret (v:=K7 t) (by simp [results,Tryz.results56,go_sem,K7]) rfl ⟨rfl,?_,?_⟩
   ·have:=Aq.d7 (X:=fun _=>False) (Aq.set p.o 1 (.int .i64 ((x.d8:Int)+1))) ((((Ab.refl _ _).alloc (.cells #[.int .i64 t.kind,.string t.d9,.int .i64 t.f8] 69)).alloc (.cells #[.int .i64 t.kind,.string t.d9,.int .i64 t.f8] 69)).drew) (fun q=>q);simpa [AH] using this
   ·exact (((((Ab.refl (fun k=>k=b) w).i7 1 _).alloc _).alloc _).drew)
 ·have m:Av a k x=A7:=by simp [Av,c]
  have d:Ae a n k x=Ef a n x:=by simp [Ae,c]
  rw [m,d];have G:(((Ah a x.d8).kind:Int) !=(k:Int))=true:=by simp;omega
  clear m d c;generalize Ah a x.d8=t at*;go_enter Tryz.func56,Tryz.ntmps56;go_wp2;go_region;go_wp2_with fail;refine (Ka b g n o x a _ ?_ ?_ z).mono ?_
  ·exact Aq.d7 (X:=fun _=>False) p.o (by repeat (first | exact Ab.refl _ _ | refine Ab.drew ?_ | refine Ab.drewN ?_ _ | refine Ab.alloc ?_ _)) (fun q=>q)
  ·exact E.o.d7 (X:=fun _=>False) (by repeat (first | exact Ab.refl _ _ | refine Ab.drew ?_ | refine Ab.drewN ?_ _ | refine Ab.alloc ?_ _)) (fun q=>q)
  rintro e J ⟨rfl,A,r⟩;have j:J.heap[w.heap.size]? =some (.cells #[.int .i64 0,.string {data:=#[]},.int .i64 0] 69 (0,0)):=by rw [r.block w.heap.size (by simp;omega) (by omega)];exact (Below.heap_alloc _ _ _ (by simp)).trans (heap_alloc_new w _)
  have s:=Aj j 0;have u:=Aj j 1;have y:=Aj j 2;have L:=fun i=>AK j i
  simp only [Ni,Ng,Nh] at s u y;have O:=Ad j;have D:=Aa A;have C:=(((Ab.refl (fun k=>k=b) w).alloc _).alloc _).drew.trans r;clear A r j;go_wp2;refine bodyPost_ret (v:=K7 A7) (by simp [results,Tryz.results56,go_sem,K7,A7,s,u,y];rfl) rfl ⟨rfl,?_,?_⟩
  ·exact Aq.d7 (X:=fun k=>k=w.heap.size) D.o (by repeat (first | exact Ab.refl _ _ | refine Ab.drew ?_ | refine Ab.alloc ?_ _ | refine Ab.i7 ?_ _ _)) (by omega)
  ·repeat (first | exact C | refine Ab.drew ?_ | refine Ab.alloc ?_ _ | refine Ab.l9 ?_ _ _ (Nat.le_refl _))
def Fu(t:PT):Value:=.agg #[.string t.d9,.int .i64 t.f8]
def Di(t:PT):List Value:=[.string t.d9,.int .i64 t.f8]
def Ba(l:List PT):List Value:=l.flatMap Di
theorem GJ(l t):Ba (l++[t])=Ba l++Di t:=by simp [Ba]
theorem Bq(b g n d x a w)(h:AH b g n d x w)(r:AI g n d a w)(C:x.d8<n):
 Calls Tryz.prog 64 #[.pointer (some ⟨b,0,none⟩)] w fun e s=>e=.returned (Fu (Av a 1 x))∧AH b g n d (Ae a n 1 x) s∧Ab (fun k=>k=b) w s:=by
 have G:=Ad h;obtain ⟨t,j⟩:∃t,Av a 1 x=t:=⟨_,rfl⟩;obtain ⟨y,l⟩:∃y,Ae a n 1 x=y:=⟨_,rfl⟩;rw [j,l];have A:=Aa j;have B:=Aa l;clear j l;go_enter Tryz.func64,Tryz.ntmps64;go_wp2_with fail;refine (Au b g n d 1 x a _ (Aq.alloc h _) (r.d7 ((Ab.refl (fun _=>False) _).alloc _) (fun q=>q)) C).mono ?_;rw [A.o,B.o];rintro e E ⟨rfl,p,f⟩;have c:E.heap[w.heap.size]? =some (.cells #[.string {data:=#[]},.int .i64 0] 120 (0,0)):=by rw [f.block w.heap.size (by simp) (by omega)];exact heap_alloc_new w _
 have m:=Aj c 0;have o:=Aj c 1;have F:=fun i=>AK c i
 simp only [Ni,Ng,Nh] at m o;have D:=Ad c;have z:=Aa p;have u:=((Ab.refl (fun k=>k=b) w).alloc _).trans f;clear p f c h r;unfold K7;go_wp2;refine bodyPost_ret (v:=Fu t) (by simp [results,Tryz.results64,go_sem,Fu,m,o,D]) rfl ⟨rfl,?_,?_⟩
 ·exact Aq.d7 (X:=fun k=>k=w.heap.size) z.o (by repeat (first | exact Ab.refl _ _ | refine Ab.drew ?_ | refine Ab.alloc ?_ _ | refine Ab.i7 ?_ _ _)) (by omega)
 ·repeat (first | exact u | refine Ab.drew ?_ | refine Ab.alloc ?_ _ | refine Ab.l9 ?_ _ _ (Nat.le_refl _))
def Cj(b:List PT):Nat→PS→List PT→List PT×PS
 | 0,x,a=>(a,x)
 | f+1,x,a=>if (Ah b x.d8).kind=1 then Cj b f ⟨x.d8+1,x.l7,x.r8⟩ (a++[Ah b x.d8]) else (a,x)
theorem D6{b f x a}(h:¬(Ah b x.d8).kind=1):Cj b f x a=(a,x):=by
 cases f with
 | zero=>rfl
 | succ f=>simp only [Cj,if_neg h]
theorem JK{a f n x acc}(g:n-1-x.d8≤f)(d:x.d8<n)(c:(Ah a (n-1)).kind=0)(h:(Ah a x.d8).kind=1):
 x.d8+1<n∧∃b,n-1-(x.d8+1)≤b∧Cj a f x acc=Cj a b ⟨x.d8+1,x.l7,x.r8⟩ (acc++[Ah a x.d8]):=by
 have i:x.d8≠n-1:=by intro e;rw [e,c] at h;omega
 refine ⟨by omega,?_⟩;cases f with
 | zero=>omega
 | succ f=>exact ⟨f,by omega,by simp only [Cj];rw [if_pos h]⟩
theorem AE{a n k x}(c:(Ah a (n-1)).kind=0)(b:x.d8<n):(Ae a n k x).d8<n:=by
 unfold Ae;split
 ·rename_i h;split
  ·exact b
  ·rename_i d;have f:x.d8≠n-1:=by intro e;rw [e,c] at h;omega
   show x.d8+1<n;omega
 ·show n-1<n;omega
theorem JL{c:List PT}{n:Nat}(b:(Ah c (n-1)).kind=0):∀(f:Nat) (x:PS) (a:List PT),x.d8<n→(Cj c f x a).2.d8<n
 | 0,x,a,h=>h
 | f+1,x,a,h=>by
   simp only [Cj];split
   ·rename_i d;have g:x.d8≠n-1:=by intro e;rw [e,b] at d;omega
    exact JL b f _ _ (by show x.d8+1<n;omega)
   ·exact h
def A0(a:List PT)(n:Nat)(x:PS):List PT×PS:=
 ((Cj a a.length (Ae a n 10 x) []).1,Ae a n 11 (Cj a a.length (Ae a n 10 x) []).2)
theorem J8{b n x}(a:(Ah b (n-1)).kind=0)(c:x.d8<n):(A0 b n x).2.d8<n:=
 AE a (JL a _ _ _ (AE a c))
def Gj(b:Nat)(w:World):Nat:=match w.cell? ⟨b,1,none⟩ with | some v=>(intOf v).toNat | none=>0
theorem CV{b g n a x w}(h:AH b g n a x w):Gj b w=x.d8:=by have:=Aj h 1;simp only [Ni,Ng,Nh] at this;simp [Gj,this,intOf]
theorem Tryz.infoNm:(Tryz.prog.info? 120).map (fun i=>(i.zero,i.size,i.bytes))=some (some (.agg #[.string ByteArray.empty,.int .i64 0]),2,24):=by kernel_rfl
theorem E9(b g n d x a w)(i:AH b g n d x w)(c:AI g n d a w)(U:x.d8<n)(N:(Ah a (n-1)).kind=0):
 Calls Tryz.prog 65 #[.pointer (some ⟨b,0,none⟩)] w fun e O=>∃v,e=.returned v∧O.ownsRow w.heap.size 120 2 v (A0 a n x).1.length (Ba (A0 a n x).1)∧AH b g n d (A0 a n x).2 O∧Ab (fun k=>k=b) w O:=by
 obtain ⟨i0,hi,b2,b3,b4⟩:=info_parts Tryz.infoNm;have hn:=c.2.2.1;have Z:=c.2.1;have Y:=c.ne i (by decide);have lr:=Ad i;have lg:=c.lt;have M:=AE (k:=10) N U;unfold A0;generalize T:Cj a a.length (Ae a n 10 x) []=V;have L:Nj (Cj a a.length (Ae a n 10 x) []=V):=T;have HZ:=Aa N;have K:=Aa c;have a3:=Aa Z;have Q:=Aa i;clear T N c Z i;go_enter Tryz.func65,Tryz.ntmps65;go_wp2_with fail;refine (Au b g n d 10 x a _ Q.o K.o U).mono ?_;rintro e u ⟨rfl,p,l⟩;generalize Ae a n 10 x=x1 at p L M;have D:=Aa p;have E:=Aa (K.o.d7 l Y);clear p Q K;go_wp2_with fail;go_loopw [3] (fun v wr=>∃(y:PS) (f:Nat) (o:List PT),y.d8<n∧o.length≤y.d8∧Nj (AH b g n d y wr)∧Nj (AI g n d a wr)∧wr.ownsRow w.heap.size 120 2 v o.length (Ba o)∧Ab (fun k=>k=b) w wr∧n-1-y.d8≤f∧Nj (Cj a f y o=V)) (fun _ wr=>n-Gj b wr)
 case atStart=>exact ⟨x1,a.length,[],M,by simp,D,E,World.ownsRow_nil _ _ _ _,l,by have:=a3.o;omega,L⟩
 case round=>
  obtain ⟨y,f,o,z,b5,i,c,H,F,hf,C⟩:=hrel;clear L D E l M;have a2:=Aa (CV i.o);by_cases r:(Ah a y.d8).kind=1
  ·have a4:(((Ah a y.d8).kind:Int)==1)=true:=by simp [r]
   obtain ⟨a8,R,a6,W⟩:=JK (acc:=o) hf z HZ.o r;have HF:Nj (Cj a R ⟨y.d8+1,y.l7,y.r8⟩ (o++[Ah a y.d8])=V):=by rw [←W];exact C.o
   have P:Nj (Av a 1 y=Ah a y.d8∧Ae a n 1 y=⟨y.d8+1,y.l7,y.r8⟩):=⟨by simp [Av,r],by simp [Ae,r]⟩;clear C W r;go_wp2_with fail;refine (AJ b g n d y a _ i.o c.o z).mono ?_;rintro e wk ⟨rfl,m⟩;have J:=i.o.d7 m (fun q=>q);have A:=c.o.d7 m (fun q=>q);have t:=Ac H m (fun _ _ q=>q);have G:=F.t8 m;clear i c H F m;go_wp2_with fail;refine (Bq b g n d y a _ J A z).mono ?_;rw [P.o.1,P.o.2];rintro e u ⟨rfl,p,l⟩;have I:=Ac t l (fun j s=>by have:=(t.lt j s).1;omega);have a0:=G.trans l;have D:=Aa p;have E:=Aa (A.d7 l Y);have b7:=a0.size;have b8:b<u.heap.size:=Ad p;clear p l J A t G;unfold Fu;go_wp2_with (at_builtin;refine wpList_append_own _ rfl _ _ 121 rfl w.heap.size 120 i0 (.agg #[.string ByteArray.empty,.int .i64 0]) 2 24 Tryz.underlying121 hi b2 b3 b4 rfl (by decide) _ _ _ rfl (I.alloc _) ⟨u.heap.size,0,none⟩ 1 1 [.string (Ah a y.d8).d9,.int .i64 ((Ah a y.d8).f8:Int)] rfl rfl (Bn rfl _ _) (fun x hx=>by simp at hx;rcases hx with rfl | rfl<;>rfl) (by unfold maxLen;omega) (by omega) (by simp;omega) ?_;intro v' B b1 a7 b6);have X:(u.alloc (.cells #[.string (Ah a y.d8).d9,.int .i64 ((Ah a y.d8).f8:Int)] 120)).grownBy B u3.ownBlock:=a7;have a1:Ab (fun k=>u3.ownBlock=some k) u B:=Ab.grown ((Ab.refl _ _).alloc _) X (fun j s=>.inl s);have b0:Ab (fun k=>k=b) w B:=Ab.grown (a0.alloc _) X (fun j s=>.inr (I.lt j s).1);have S:AH b g n d ⟨y.d8+1,y.l7,y.r8⟩ B:=Aq.d7 D.o a1 (fun h=>by have:=(I.lt _ h).1;omega);have a5:AI g n d a B:=E.o.d7 a1 (fun h=>by have:=(I.lt _ h).1;omega);have a9:=CV S;refine ⟨⟨⟨y.d8+1,y.l7,y.r8⟩,R,o++[Ah a y.d8],a8,by simp;omega,S,a5,?_,b0,a6,HF⟩,?_⟩
   ·rw [GJ,List.length_append];exact b1
   ·rw [a9,a2.o];simp only;omega
  ·have a4:(((Ah a y.d8).kind:Int)==1)=false:=by simp;omega
   have hv:V=(o,y):=by rw [←C.o,D6 r]
   subst hv;clear C r;go_wp2_with fail;refine (AJ b g n d y a _ i.o c.o z).mono ?_;rintro e wk ⟨rfl,m⟩;have J:=i.o.d7 m (fun q=>q);have A:=c.o.d7 m (fun q=>q);have t:=Ac H m (fun _ _ q=>q);have G:=F.t8 m;clear i c H F m;go_wp2_with fail;refine (Au b g n d 11 y a _ J A z).mono ?_;rintro e u ⟨rfl,p,l⟩;go_wp2_with fail;go_ret;refine ⟨_,rfl,?_,p,G.trans l⟩;exact Ac t l (fun j s=>by have:=(t.lt j s).1;omega)
structure VS where
 kind:Nat
 tg:PT
 sr:PT
 field:Nat
 args:List PT
def DN(s:VS)(a:Value):Array Value:=#[.int .i64 s.kind,.string s.tg.d9,.int .i64 s.tg.f8,.string s.sr.d9,.int .i64 s.sr.f8,.int .i64 s.field,a,.slice none 0 0]
abbrev Ms:Array Value:=#[.int .i64 0,.string {data:=#[]},.int .i64 0,.string {data:=#[]},.int .i64 0,.int .i64 0,.slice none 0 0,.slice none 0 0]
structure Fw(b g n cap:Nat)(toks:List PT)(x:PS)(w0 w:World):Prop where
 pa:AH b g n cap x w
 pt:AI g n cap toks w
 i8:Aq w0.heap.size Ms 144 w
 d7:Ab (fun k=>k=b) w0 w
 bl:b<w0.heap.size
theorem Fw.start{b g n a d x w}(c:AH b g n a x w)(e:AI g n a d w):Fw b g n a d x w (w.alloc (.cells Ms 144)):=
 ⟨Aq.alloc c _,e.d7 ((Ab.refl (fun _=>False) _).alloc _) (fun q=>q),Aq.new _ _ _,(Ab.refl _ _).alloc _,Ad c⟩
theorem Fw.call{b g n a e x i f w d}(h:Fw b g n a e x f w)(j:AH b g n a i d)(c:Ab (fun k=>k=b) w d):Fw b g n a e i f d:=
 ⟨j,h.pt.d7 c (h.pt.ne h.pa (by decide)),h.i8.d7 c (by have:=h.bl;omega),h.d7.trans c,h.bl⟩
theorem Fw.quiet{b g n c d x f w e}(h:Fw b g n c d x f w)(a:Ab (fun _=>False) w e):Fw b g n c d x f e:=
 ⟨Aq.d7 h.pa a (fun q=>q),h.pt.d7 a (fun q=>q),h.i8.d7 a (fun q=>q),h.d7.t8 a,h.bl⟩
def DW(b g n d:Nat)(w:World)(r:VS×PS)(e:Ending)(a:World):Prop:=
 ∃c,e=.returned (.agg (DN r.1 c))∧a.ownsRow w.heap.size 120 2 c r.1.args.length (Ba r.1.args)∧AH b g n d r.2 a∧Ab (fun k=>k=b) w a
def EE(a:List PT)(n:Nat)(x:PS):VS×PS:=
 let b:=Ae a n 17 (Ae a n 10 x)
 let c:=Ae a n 11 (Ae a n 1 b)
 (⟨8,A7,Av a 1 b,0,(A0 a n c).1⟩,(A0 a n c).2)
theorem Ft(b g n i o d w)(a:AH b g n i o w)(ht:AI g n i d w)(V:o.d8<n)(j:(Ah d (n-1)).kind=0):
 Calls Tryz.prog 83 #[.pointer (some ⟨b,0,none⟩)] w fun e w'=>DW b g n i w (EE d n o) e w':=by
 obtain ⟨P,G⟩:∃y,Ae d n 10 o=y:=⟨_,rfl⟩;obtain ⟨K,H⟩:∃y,Ae d n 17 P=y:=⟨_,rfl⟩;obtain ⟨Q,I⟩:∃y,Ae d n 1 K=y:=⟨_,rfl⟩;obtain ⟨m,O⟩:∃y,Av d 1 K=y:=⟨_,rfl⟩;obtain ⟨R,J⟩:∃y,Ae d n 11 Q=y:=⟨_,rfl⟩;obtain ⟨l5,x5,M⟩:∃l y,A0 d n R=(l,y):=⟨_,_,rfl⟩;have W:P.d8<n:=by rw [←G];exact AE j V
 have Y:K.d8<n:=by rw [←H];exact AE j W
 have Z:Q.d8<n:=by rw [←I];exact AE j Y
 have a0:R.d8<n:=by rw [←J];exact AE j Z
 have hv:EE d n o=(⟨8,A7,m,0,l5⟩,x5):=by simp only [EE,G,H,I,O,J,M]
 rw [hv];have C:=Aa (Fw.start a ht);have X1:=Aa G;have X2:=Aa H;have X3:=Aa I;have K3:=Aa O;have X4:=Aa J;have X5:=Aa M;have HZ:=Aa j;clear G H I O J M hv j a ht;go_enter Tryz.func83,Tryz.ntmps83;go_wp2_with fail;refine (Au b g n i 10 o d _ C.o.pa C.o.pt V).mono ?_;rw [X1.o];rintro e w1 ⟨rfl,a,c⟩;have D:=Aa (C.o.call a c);clear a c C;go_wp2_with fail;refine (Au b g n i 17 P d _ D.o.pa D.o.pt W).mono ?_;rw [X2.o];rintro e w2 ⟨rfl,a,c⟩;have E:=Aa (D.o.call a c);clear a c D;go_wp2_with fail;refine (Bq b g n i K d _ E.o.pa E.o.pt Y).mono ?_;rw [X3.o,K3.o];rintro e w3 ⟨rfl,a,c⟩;have L:=Aa (E.o.call a c);clear a c E;unfold Fu;have a3:=Ad L.o.pa;have S:=Aa (Aq.new w3 #[.string m.d9,.int .i64 m.f8] 120);have F:=Aa (L.o.quiet ((Ab.refl _ _).alloc (.cells #[.string m.d9,.int .i64 m.f8] 120)));clear L;go_wp2_with fail;refine (Au b g n i 11 Q d _ F.o.pa F.o.pt Z).mono ?_;rw [X4.o];rintro e w4 ⟨rfl,a,c⟩;have f:=Aa (F.o.call a c);have B:=Aa (S.o.d7 c (by omega));clear a c F S;have n0:=B.o.cell 0;have n1:=B.o.cell 1;simp only [Ni,Ng,Nh] at n0 n1;have l4:=Ad B.o;have p:=f.o.i8.cell 0;have r:=f.o.i8.cell 1;have s:=f.o.i8.cell 2;have t:=f.o.i8.cell 3;have u:=f.o.i8.cell 4;have x:=f.o.i8.cell 5;have z:=f.o.i8.cell 6;have A:=f.o.i8.cell 7;have qf:=f.o.i8.frozen;have ql:=Ad f.o.i8;simp only [Ni,Ng,Nh] at p r s t u x z A;go_wp2_with fail;go_region_with (go_at_call 65;refine (E9 b g n i R d _ (f.o.quiet (by repeat (first | exact Ab.refl _ _ | refine Ab.drew ?_ | refine Ab.drewN ?_ _ | refine Ab.alloc ?_ _))).pa (f.o.quiet (by repeat (first | exact Ab.refl _ _ | refine Ab.drew ?_ | refine Ab.drewN ?_ _ | refine Ab.alloc ?_ _))).pt a0 HZ.o).mono ?_;rw [X5.o];rintro e w5 ⟨v5,rfl,N,a,c⟩;obtain ⟨va,vl,vc,rfl⟩:=Af N;have h:=Aa ((f.o.quiet (by repeat (first | exact Ab.refl _ _ | refine Ab.drew ?_ | refine Ab.drewN ?_ _ | refine Ab.alloc ?_ _))).call a c);have T:=Aa ((Aq.d7 (X:=fun _=>False) B.o (by repeat (first | exact Ab.refl _ _ | refine Ab.drew ?_ | refine Ab.drewN ?_ _ | refine Ab.alloc ?_ _)) (fun q=>q)).d7 c (by omega));have U:=Aa (Ar N (B':=w.heap.size) (by have:=f.o.d7.size;simp;omega));have a1:=T.o.cell 0;have a2:=T.o.cell 1;simp only [Ni,Ng,Nh] at a1 a2;clear a c N p r s t u x z A qf ql;have p:=h.o.i8.cell 0;have r:=h.o.i8.cell 1;have s:=h.o.i8.cell 2;have t:=h.o.i8.cell 3;have u:=h.o.i8.cell 4;have x:=h.o.i8.cell 5;have z:=h.o.i8.cell 6;have A:=h.o.i8.cell 7;have qf:=h.o.i8.frozen;have ql:=Ad h.o.i8;simp only [Ni,Ng,Nh] at p r s t u x z A);all_goals
  go_wp2;refine bodyPost_ret (v:=.agg (DN ⟨8,A7,m,0,l5⟩ (.slice va vl vc))) (by simp [results,Tryz.results83,go_sem,DN,A7,p,r,s,t,u,x,z,A];try rfl) rfl ⟨(.slice va vl vc),rfl,?_,?_,?_⟩
  ·refine Ac (X:=fun k=>k=w.heap.size) U.o ?_ (Az U.o h.o.i8 (by decide));iterate 8 refine Ab.i7 ?_ _ _
   exact Ab.refl _ _
  ·refine Aq.d7 (X:=fun k=>k=w.heap.size) h.o.pa ?_ (by have:=h.o.bl;omega);iterate 8 refine Ab.i7 ?_ _ _
   exact Ab.refl _ _
  ·iterate 8 refine Ab.l9 ?_ _ _ (Nat.le_refl _)
   exact h.o.d7
end Go.Proofs.YtmaankfbhhbeoaaGreatDoor

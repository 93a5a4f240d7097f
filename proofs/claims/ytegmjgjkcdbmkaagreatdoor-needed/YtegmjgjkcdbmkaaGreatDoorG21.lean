/- One of the texts of the proof: MbA MbB MbC MbE MbF RwA RwB RwC. -/
import Derived.Test.YtegmjgjkcdbmkaaGreatDoorG36
import Derived.Maps.RangeWalk
import Derived.Test.YtegmjgjkcdbmkaaGreatDoorShelf
import Derived.Sort.OwnSorted
set_option maxRecDepth 100000
set_option maxHeartbeats 4000000
namespace Go.Proofs.YtegmjgjkcdbmkaaGreatDoor
open Go.RowKit Go.Maps Go.Sort
def QE(P:List PFn)(i j:Nat):ByteArray:=(Ap P i).l8[j]?.getD ⟨#[]⟩
def GQ(P:List PFn)(t:Tg):List UInt8:=
 if t.kind=1 then Lib.decDigits t.aV++[46]++Lib.decDigits t.aX
 else if t.kind=2 then 64::(Ap P t.aV).name.data.toList
 else (Ap P t.aV).name.data.toList++[46]++(QE P t.aV t.aX).data.toList
def Kh(P:List PFn)(t:Tg):Prop:=(t.kind=0∧t.aV<P.length∧t.aX<(Ap P t.aV).l8.length)∨(t.kind=1∧t.aV≤4000∧t.aX≤3)∨(t.kind=2∧t.aV<P.length∧t.aX=0)
structure PnOk(P:List PFn):Prop where
 name:∀i,(Ap P i).name.size≤4000
 l8:∀i j,(QE P i j).size≤4000
def JR(n:Nat):ByteArray:=⟨(Lib.decDigits n).toArray⟩
def ItOk(w:World):Prop:=∀(n:Nat) (W:World),n≤4000→Ab (fun _=>False) w W→Calls Tryz.prog 89 #[.int .i64 n] W fun e a=>e=.returned (.string (JR n))∧Ab (fun _=>False) W a
theorem SY(B:Nat)(J:Value)(r v o:Nat)(P:List PFn)(t:Tg)(w:World)(i:Bh B w J P)(k:Ms P)(g:PnOk P)(ht:Kh P t)(p:ItOk w)(W:0<P.length):
 Calls Tryz.prog 88 #[.agg #[J,.int .i64 r,.int .i64 v,.int .i64 o],.agg #[.int .i64 t.kind,.int .i64 t.aV,.int .i64 t.aX]] w fun e w'=>e=.returned (.string ⟨(GQ P t).toArray⟩)∧Ab (fun _=>False) w w':=by
 obtain ⟨A,y,rfl,b0⟩:=i.form W;have a7:=k.bA;rcases ht with ⟨b,h,D⟩ | ⟨b,h,D⟩ | ⟨b,h,_⟩
 ·have N:((t.kind:Int)==1)=false:=by simp [b]
  have k2:((t.kind:Int)==2)=false:=by simp [b]
  obtain ⟨vv,sv,c,d,j⟩:=i.get h;rw [←RC h] at c d j;obtain ⟨va,vl,vc,rfl⟩:=Ad d;have a3:=Aq d;subst a3;obtain ⟨f,rfl⟩:=AA d (by omega);have b3:=(d.lt f rfl).2;obtain ⟨sa,sc,rfl,_⟩:=j.form;have I:=d.cellAt t.aX (by omega);rw [List.getElem?_map,List.getElem?_eq_getElem D] at I;simp only [Option.map_some] at I;have z:=c 0 (by decide);have T:=c 1 (by decide);have U:=c 2 (by decide);have V:=c 3 (by decide);simp only [MR,dJ,dK,Nat.add_zero] at z T U V;have a1:=g.name t.aV;have a2:=g.l8 t.aV t.aX;have a8:=k.l8 t.aV;have C:QE P t.aV t.aX=(Ap P t.aV).l8[t.aX]:=by unfold QE;rw [List.getElem?_eq_getElem D];rfl
  have m:dN ((Ap P t.aV).name++{data:=#[46]}++(Ap P t.aV).l8[t.aX]=⟨(GQ P t).toArray⟩):=FN (by unfold GQ;rw [if_neg (by omega),if_neg (by omega),C];simp)
  rw [C] at a2;generalize (⟨(GQ P t).toArray⟩:ByteArray)=G at*;generalize (Ap P t.aV).l8[t.aX]=vt at*;generalize (Ap P t.aV).name=u at*;have a0:(t.aV:Int)<(P.length:Int):=by omega
  have a9:(t.aX:Int)<((Ap P t.aV).l8.length:Int):=by omega
  have L:¬(9223372036854775807<u.size+1):=by omega
  have Y:¬(9223372036854775807<u.size+1+vt.size):=by omega
  have g1:f≠w.heap.size:=by omega
  have g2:f≠w.heap.size+1:=by omega
  have g3:f≠w.heap.size+1+1:=by omega
  have g4:f<w.heap.size+1:=by omega
  have g5:f<w.heap.size+1+1:=by omega
  clear c d j i k g p C b;go_enter Tryz.func88,Tryz.ntmps88;go_wp2_with fail;go_region;go_wp2_with fail;go_ret;exact ⟨congrArg (fun s=>Ending.returned (Value.string s)) m.o,(by repeat (first | exact Ab.refl _ _ | refine Ab.drew ?_ | refine Ab.drewN ?_ _ | refine Ab.alloc ?_ _))⟩
 ·have N:((t.kind:Int)==1)=true:=by simp [b]
  have a5:(JR t.aV).size≤4001:=by have:=Hw t.aV;simp only [JR,ByteArray.size,List.size_toArray];omega
  have a6:(JR t.aX).size≤4:=by have:=Hw t.aX;simp only [JR,ByteArray.size,List.size_toArray];omega
  have m:dN (JR t.aV++{data:=#[46]}++JR t.aX=⟨(GQ P t).toArray⟩):=FN (by unfold GQ JR;rw [if_pos b];simp)
  have Z:t.aX≤4000:=by omega
  have F:=Aa p;generalize (⟨(GQ P t).toArray⟩:ByteArray)=G at*;have L:¬(9223372036854775807<(JR t.aV).size+1):=by omega
  have Y:¬(9223372036854775807<(JR t.aV).size+1+(JR t.aX).size):=by omega
  clear i k g p b;go_enter Tryz.func88,Tryz.ntmps88;go_wp2_with fail;have l:=Ak.new (w.alloc (.cells #[.slice (some ⟨A,0,none⟩) P.length y,.int .i64 r,.int .i64 v,.int .i64 o] 89)) #[.int .i64 t.kind,.int .i64 t.aV,.int .i64 t.aX] 179;have M:(w.alloc (.cells #[.slice (some ⟨A,0,none⟩) P.length y,.int .i64 r,.int .i64 v,.int .i64 o] 89)).heap.size=w.heap.size+1:=by simp
  rw [M] at l;have K:=((Ab.refl (fun _=>False) w).alloc (.cells #[.slice (some ⟨A,0,none⟩) P.length y,.int .i64 r,.int .i64 v,.int .i64 o] 89)).alloc (.cells #[.int .i64 t.kind,.int .i64 t.aV,.int .i64 t.aX] 179);have x:=Aa K;generalize World.alloc (World.alloc w _) _=R at*;have S:=l.cell 1;have H:=l.cell 2;have lb:=Ae l;simp only [dM,dJ,dK] at S H;have O:=True.intro;clear l M K;go_region_law (first
   | (go_simp;go_at_call 89;have _t:=O;refine (F.o _ _ (by omega) (x.o.trans ?_)).mono ?_;exact (by repeat (first | exact Ab.refl _ _ | refine Ab.drew ?_ | refine Ab.drewN ?_ _ | refine Ab.alloc ?_ _));rintro e Q ⟨rfl,n⟩;have E:=Aa (Ab.trans (X:=fun _=>False) (a:=R) (by repeat (first | exact Ab.refl _ _ | refine Ab.drew ?_ | refine Ab.drewN ?_ _ | refine Ab.alloc ?_ _)) n);have a4:Q.cell? ⟨w.heap.size+1,2,none⟩=some (.int .i64 t.aX):=(World.cell?_of_block (E.o.block _ lb (fun q=>q))).trans H;clear n O;dsimp only)
   | (go_simp;go_at_call 89;refine (F.o _ _ Z (x.o.trans (E.o.trans ?_))).mono ?_;exact (by repeat (first | exact Ab.refl _ _ | refine Ab.drew ?_ | refine Ab.drewN ?_ _ | refine Ab.alloc ?_ _));rintro e w8 ⟨rfl,n⟩;have o8:=Aa (Ab.trans (X:=fun _=>False) (a:=Q) (by repeat (first | exact Ab.refl _ _ | refine Ab.drew ?_ | refine Ab.drewN ?_ _ | refine Ab.alloc ?_ _)) n);clear n;dsimp only))
  all_goals
   go_wp2_with fail;go_ret;exact ⟨congrArg (fun s=>Ending.returned (Value.string s)) m.o,(x.o.trans E.o).trans o8.o⟩
 ·have N:((t.kind:Int)==1)=false:=by simp [b]
  have k2:((t.kind:Int)==2)=true:=by simp [b]
  obtain ⟨vv,sv,c,d,j⟩:=i.get h;rw [←RC h] at c d j;have z:=c 0 (by decide);simp only [MR,dJ,Nat.add_zero] at z;have a1:=g.name t.aV;have m:dN ((⟨#[64]⟩:ByteArray)++(Ap P t.aV).name=⟨(GQ P t).toArray⟩):=FN (by unfold GQ;rw [if_neg (by omega),if_pos b];simp)
  generalize (⟨(GQ P t).toArray⟩:ByteArray)=G at*;generalize (Ap P t.aV).name=u at*;have a0:(t.aV:Int)<(P.length:Int):=by omega
  have L:¬(9223372036854775807<1+u.size):=by omega
  clear c d j i k g p b;go_enter Tryz.func88,Tryz.ntmps88;go_wp2_with fail;first | go_quiet (fail) | skip
  go_wp2_with fail;go_ret;exact ⟨congrArg (fun s=>Ending.returned (Value.string s)) m.o,(by repeat (first | exact Ab.refl _ _ | refine Ab.drew ?_ | refine Ab.drewN ?_ _ | refine Ab.alloc ?_ _))⟩
def XX:Prop:=∀(B g c:Nat) (l:List ByteArray) (W:World),Au B W (.slice (some ⟨g,0,none⟩) l.length c) l→l.length≤1000000→Calls Tryz.prog 90 #[.slice (some ⟨g,0,none⟩) l.length c] W fun e f=>e=.returned (.tuple #[])∧∃d,Au B f (.slice (some ⟨g,0,none⟩) l.length c) d∧d.Perm l∧d.Pairwise (fun a b=>ZU b a=false)∧Ab (fun k=>k=g) W f
theorem Kh.ok{P t}(h:Kh P t)(a:Ms P):Zc t:=by
 have b:=a.bA;have c:=a.l8 t.aV;unfold Zc;rcases h with h | h | h
 ·omega
 ·omega
 ·omega
theorem XG{P t}(a:Ms P)(b:PnOk P)(h:Kh P t):(⟨(GQ P t).toArray⟩:ByteArray).size≤20000:=by
 have c:(Ap P t.aV).name.data.toList.length≤4000:=Nat.le_trans (Nat.le_of_eq Array.length_toList) (b.name t.aV);have d:(QE P t.aV t.aX).data.toList.length≤4000:=Nat.le_trans (Nat.le_of_eq Array.length_toList) (b.l8 t.aV t.aX);have e:=Hw t.aV;have f:=Hw t.aX;have g:=a.bA;have i:=a.l8 t.aV;show (GQ P t).toArray.size≤20000;rw [List.size_toArray];unfold GQ;rcases h with h | h | h
 ·rw [if_neg (by omega),if_neg (by omega)];simp only [List.length_append,List.length_cons,List.length_nil];omega
 ·rw [if_pos (by omega)];simp only [List.length_append,List.length_cons,List.length_nil];omega
 ·rw [if_neg (by omega),if_pos (by omega)];simp only [List.length_cons];omega
def Ud(b:ByteArray):Prop:=∀x,x∈b.data.toList→97≤x.toNat
def aH(t:PT):Prop:=t.kind=1→Ud t.a9
def Sb(l:List PT):Prop:=∀t,t∈l→aH t
theorem KJ:Ud ByteArray.empty:=fun x a=>absurd a (by show¬x∈([]:List UInt8);simp)
theorem Sb.snoc{l t}(h:Sb l)(b:aH t):Sb (l++[t]):=by
 intro u d;rcases List.mem_append.1 d with a | a
 ·exact h u a
 ·rw [List.mem_singleton.1 a];exact b
theorem NY{s a b}(h:∀k,a≤k→k<b→97≤bt s k):Ud (s.extract a b):=by intro x d;rw [ByteArray.data_extract,Array.mem_toList_iff,Array.mem_iff_getElem] at d;obtain ⟨i,e,rfl⟩:=d;rw [Array.getElem_extract];have f:i<(s.data.extract a b).size:=e;rw [Array.size_extract] at f;have q:=h (a+i) (by omega) (by omega);unfold bt at q;rw [Array.getElem?_eq_getElem (by omega)] at q;exact q
theorem SN{s p}(h:F7 (Utf8.decode s p).1=true):∀k,p≤k→k<p+(Utf8.decode s p).2→97≤bt s k:=by
 intro k g a;rw [IW] at h a;have b:∀r:Nat,F7 r=true→97≤r∧r≤255:=fun r q=>by unfold F7 at q;simp only [Bool.or_eq_true,Bool.and_eq_true,decide_eq_true_eq] at q;omega
 split at h
 ·rename_i d;rw [if_pos d] at a;have:=b _ h;simp only at this a;have:k=p:=by omega
  subst this;omega
 ·rename_i d;rw [if_neg d] at a;split at h
  ·rename_i e;rw [if_pos e] at a;split at h
   ·rename_i f;rw [if_pos f] at a;simp only at a;have:k=p∨k=p+1:=by omega
    rcases this with rfl | rfl
    ·omega
    ·omega
   ·exact absurd (b _ h) (by simp)
  ·split at h
   ·split at h
    ·have:=b _ h;simp only at this;omega
    ·exact absurd (b _ h) (by simp)
   ·split at h
    ·split at h
     ·have:=b _ h;simp only at this;omega
     ·exact absurd (b _ h) (by simp)
    ·exact absurd (b _ h) (by simp)
structure GR(s:ByteArray)(p:Nat)(x:Sc):Prop where
 wd:Sb x.aU
 rm:x.rem=true→x.n6=0
 lt:0<x.n6→∀k,x.start≤k→k<p→97≤bt s k
theorem GR.bH{s p x}(h:GR s p x):Sb (CC s p x).aU∧(CC s p x).n6=0:=by
 unfold Proofs.YtegmjgjkcdbmkaaGreatDoor.CC;split
 ·rename_i a;exact ⟨h.wd.snoc (fun _=>NY (h.lt a)),rfl⟩
 ·exact ⟨h.wd,rfl⟩
theorem SU(r):Bc r≠1:=by
 unfold Bc;repeat' split
 all_goals decide
theorem TO{s p x}(h:GR s p x)(a:(AI s p (Utf8.decode s p).1 x).2.2=true):GR s (p+(Utf8.decode s p).2) (AI s p (Utf8.decode s p).1 x).1:=by
 unfold AI at a⊢;split at a
 ·cases a
 rename_i n;rw [if_neg n];split at a
 ·rename_i b;rw [if_pos b];have q:=h.rm b;exact ⟨h.wd,fun _=>q,fun r=>by simp only at r;omega⟩
 rename_i b;rw [if_neg b];split at a
 ·rename_i d;rw [if_pos d];split at a
  ·cases a
  rename_i m;rw [if_neg m];refine ⟨h.wd,fun q=>absurd q b,fun _ k j o=>?_⟩;rcases Nat.lt_or_ge k p with q | q
  ·simp only [BG] at j;split at j
   ·omega
   ·exact h.lt (by omega) k j q
  ·exact SN d k q o
 ·rename_i d;rw [if_neg d];obtain ⟨e,f⟩:=h.bH;unfold CR at a⊢;split at a
  ·rename_i g;rw [if_pos g];exact ⟨e,fun _=>f,fun q=>by simp only at q;omega⟩
  rename_i g;rw [if_neg g];split at a
  ·rename_i i;rw [if_pos i];exact ⟨e,fun _=>f,fun q=>by simp only at q;omega⟩
  rename_i i;rw [if_neg i];split at a
  ·cases a
  rename_i l;rw [if_neg l];exact ⟨e.snoc (fun q=>absurd q (SU _)),fun _=>f,fun q=>by simp only at q;omega⟩
theorem JH(s:ByteArray):∀(f p:Nat) (x y:Sc),s.size-p≤f→GR s p x→Aw s f p x=.inr y→∃q,s.size≤q∧GR s q y
 | 0,p,x,y,a,h,e=>by have:=Sum.inr.inj e;subst this;exact ⟨p,by omega,h⟩
 | f+1,p,x,y,a,h,e=>by
   unfold Aw at e;split at e
   ·rename_i d;split at e
    ·rename_i b;have:=Fp s p d;exact JH s f _ _ y (by omega) (TO h b) e
    ·cases e
   ·have:=Sum.inr.inj e;subst this;exact ⟨p,by omega,h⟩
theorem Qp{s y}(h:Aw s s.size 0 ⟨[],false,0,0⟩=.inr y):Sb (AH s y):=by obtain ⟨q,j,a⟩:=JH s _ _ _ _ (by omega) ⟨fun _ g=>absurd g (by simp),fun _=>rfl,fun q=>by simp only at q;omega⟩ h;have e:GR s s.size y:=⟨a.wd,a.rm,fun b k d i=>a.lt b k d (by omega)⟩;exact e.bH.1.snoc (fun f=>absurd (show (0:Nat)=1 from f) (by decide))
section
variable {toks : List PT} {Q : ByteArray → Prop} (H : ∀ t, t ∈ toks → t.kind = 1 → Q t.a9) (c : Q ByteArray.empty)
include H c
theorem Vz{p:Nat}(h:(Ag toks p).kind=1):Q (Ag toks p).a9:=by
 rcases Nat.lt_or_ge p toks.length with q | q
 ·have e:Ag toks p=toks[p]:=by unfold Ag;rw [List.getElem?_eq_getElem q];rfl
  rw [e] at h⊢;exact H _ (List.getElem_mem _) h
 ·unfold Ag;rw [List.getElem?_eq_none q];exact c
theorem Gx(x:PS):Q (Ax toks 1 x).a9:=by
 unfold Ax;split
 ·rename_i h;exact Vz H c h
 ·exact c
theorem Rx:∀(f:Nat) (x:PS) (a:List PT),(∀t,t∈a→Q t.a9)→∀t,t∈(CJ toks f x a).1→Q t.a9
 | 0,_,_,h=>h
 | f+1,x,a,h=>by
   rw [CJ];split
   ·rename_i b;refine Rx f _ _ (fun t d=>?_);rcases List.mem_append.1 d with q | q
    ·exact h t q
    ·rw [List.mem_singleton.1 q];exact Vz H c b
   ·exact h
theorem Ta(n:Nat)(x:PS):∀t,t∈(A6 toks n x).1→Q t.a9:=by unfold A6;exact Rx H c _ _ _ (fun t a=>absurd a List.not_mem_nil)
theorem Tl(n:Nat)(x:PS):Q (AF toks n x).1.tg.a9:=by
 unfold AF;split
 ·exact Gx H c _
 ·split
  ·exact c
  ·split
   ·exact Gx H c _
   ·exact Gx H c _
omit H c in
theorem UK:∀(a b:List TS),dL (a++b)=dL a++dL b
 | [],b=>by simp [dL]
 | t::a,b=>by simp [dL,UK a b]
theorem Kl(n:Nat):∀f:Nat,(∀(x:PS) (d:List TS),(∀s,s∈dL d→Q s)→∀s,s∈dL (AB toks n f x d).1→Q s)∧(∀(x:PS),∀s,s∈dS (AV toks n f x).1→Q s)
 | 0=>⟨fun x d h=>by rw [AB];exact h,fun x s a=>by rw [AV] at a;simp only [dS,dB,Dh,if_true,List.append_nil,List.mem_singleton] at a;subst a;exact c⟩
 | f+1=>by
   obtain ⟨b,e⟩:=Kl n f;have b:=fun x=>b x [] (fun s a=>absurd a (by simp [dL]))
   refine ⟨fun x d h=>?_,fun x s a=>?_⟩
   ·rw [AB];split
    ·refine (Kl n f).1 _ _ (fun s a=>?_);rw [UK] at a;rcases List.mem_append.1 a with q | q
     ·exact h s q
     ·simp only [dL,List.append_nil] at q;exact e _ s q
    ·exact h
   ·rw [AV] at a;split at a
    ·simp only at a;split at a
     ·simp only [dS,dB,Dh,List.append_nil,List.mem_append] at a;rcases a with q | q | q
      ·exact absurd q (by simp)
      ·exact b _ s q
      ·exact b _ s q
     ·simp only [dS,dB,Dh,List.append_nil,List.mem_append] at a;rcases a with q | q
      ·exact absurd q (by simp)
      ·exact b _ s q
    ·split at a
     ·simp only [dS,dB,Dh,List.append_nil,List.mem_append] at a;rcases a with q | q
      ·exact absurd q (by simp)
      ·exact b _ s q
     ·simp only [dS,dB,List.append_nil] at a;split at a
      ·rw [List.mem_singleton] at a;subst a;exact Tl H c n x
      ·exact absurd a List.not_mem_nil
def Uo(Q:ByteArray→Prop)(t:TF):Prop:=Q t.name.a9∧(∀p,p∈t.i8→Q p.a9)∧∀s,s∈dL t.v8→Q s
theorem U3(n:Nat)(x:PS):Uo Q (Hh toks n x).1:=by unfold Hh;exact ⟨Gx H c _,Ta H c n _,(Kl H c n _).1 _ [] (fun s a=>absurd a (by simp [dL]))⟩
theorem Rj(n:Nat):∀(f:Nat) (x:PS) (a:List TF),(∀t,t∈a→Uo Q t)→∀t,t∈(CZ toks n f x a).1→Uo Q t
 | 0,_,_,h=>by rw [CZ];exact h
 | f+1,x,a,h=>by
   rw [CZ];split
   ·refine Rj n f _ _ (fun t b=>?_);rcases List.mem_append.1 b with q | q
    ·exact h t q
    ·rw [List.mem_singleton.1 q];exact U3 H c n x
   ·exact h
theorem Vv(n:Nat)(x:PS):∀t,t∈(CM toks n x).1→Uo Q t:=by unfold CM;refine Rj H c n n _ _ (fun t a=>?_);rw [List.mem_singleton.1 a];exact U3 H c n x
end
mutual
def ZN:TS→Prop
 | .mk s bl=>s.field≤3∧aF bl
def aF:List (Nat×List TS)→Prop
 | []=>True
 | (_,ts)::r=>R3 ts∧aF r
def R3:List TS→Prop
 | []=>True
 | t::ts=>ZN t∧R3 ts
end
theorem WT(t:PT):GE t≤3:=by
 unfold GE;repeat' split
 all_goals omega
theorem XI(l:List PT)(n:Nat)(x:PS):(Bw l n x).1.field≤3:=by
 unfold Bw;split
 ·exact Nat.zero_le _
 ·split
  ·unfold DM;simp only;split
   ·exact WT _
   ·exact Nat.zero_le _
  ·split
   ·exact Nat.zero_le _
   ·split
    ·exact Nat.zero_le _
    ·split
     ·exact Nat.zero_le _
     ·split
      ·exact Nat.zero_le _
      ·exact Nat.zero_le _
theorem Tj(l:List PT)(n:Nat)(x:PS):(AF l n x).1.field≤3:=by
 unfold AF;split
 ·exact Nat.zero_le _
 ·split
  ·exact Nat.zero_le _
  ·split
   ·exact Nat.zero_le _
   ·exact XI _ _ _
theorem QN:∀(a b:List TS),R3 a→R3 b→R3 (a++b)
 | [],_,_,h=>h
 | _::a,b,h,k=>⟨h.1,QN a b h.2 k⟩
theorem Nn(l:List PT)(n:Nat):∀f:Nat,(∀(x:PS) (b:List TS),R3 b→R3 (AB l n f x b).1)∧(∀(x:PS),ZN (AV l n f x).1)
 | 0=>⟨fun x b h=>by rw [AB];exact h,fun x=>by rw [AV];exact ⟨Nat.zero_le _,trivial⟩⟩
 | f+1=>by
   obtain ⟨a,c⟩:=Nn l n f;refine ⟨fun x b h=>?_,fun x=>?_⟩
   ·rw [AB];split
    ·exact a _ _ (QN _ _ h ⟨c _,trivial⟩)
    ·exact h
   ·rw [AV];split
    ·simp only;split
     ·exact ⟨Nat.zero_le _,a _ [] trivial,a _ [] trivial,trivial⟩
     ·exact ⟨Nat.zero_le _,a _ [] trivial,trivial⟩
    ·split
     ·exact ⟨Nat.zero_le _,a _ [] trivial,trivial⟩
     ·exact ⟨Tj _ _ _,trivial⟩
theorem U0(l:List PT)(n:Nat)(x:PS):R3 (Hh l n x).1.v8:=by unfold Hh;exact (Nn l n _).1 _ [] trivial
theorem Ri(l:List PT)(n:Nat):∀(f:Nat) (x:PS) (a:List TF),(∀t,t∈a→R3 t.v8)→∀t,t∈(CZ l n f x a).1→R3 t.v8
 | 0,_,_,h=>by rw [CZ];exact h
 | f+1,x,a,h=>by
   rw [CZ];split
   ·refine Ri l n f _ _ (fun t b=>?_);rcases List.mem_append.1 b with q | q
    ·exact h t q
    ·rw [List.mem_singleton.1 q];exact U0 l n x
   ·exact h
theorem Vu(l:List PT)(n:Nat)(x:PS):∀t,t∈(CM l n x).1→R3 t.v8:=by unfold CM;refine Ri l n n _ _ (fun t a=>?_);rw [List.mem_singleton.1 a];exact U0 l n x
theorem MW:∀(a:List TS),CQ a=(a.map Ez).sum
 | []=>rfl
 | t::a=>by simp only [CQ,List.map_cons,List.sum_cons,MW a]
theorem BS.sz{l:List PT}:∀{d i j:Nat} {t:TS},BS l d i j t→Ez t+i≤j
 | 0,_,_,_,h=>h.elim
 | d+1,i,j,.mk s v,h=>by
   obtain ⟨w,x,u⟩:=h;have C:∀a b n,CH (BS l d) a b n→CQ n+a≤b:=fun a b n r=>by rw [MW];exact Hu (fun _ _ _ q=>q.sz) r
   rcases u with ⟨rfl,_⟩ | ⟨k,n,m,rfl,_,c,e,f⟩ | ⟨k,n,m,y,A,z,rfl,_,c,e,f,g,h⟩
   ·simp only [Ez,LG];omega
   ·have:=C _ _ _ e;simp only [Ez,LG];omega
   ·have:=C _ _ _ e;have:=C _ _ _ g;simp only [Ez,LG];omega
theorem Jn.sz{l:List PT}{d i j:Nat}{t:TF}(h:Jn l d i j t):CQ t.v8+i≤j:=by
 obtain ⟨r,v,c,m,e,f,g,a,k,b,n⟩:=h.w;have s:=a.le;have u:CQ t.v8+(c+1)≤m:=by rw [MW];exact Hu (fun _ _ _ q=>q.sz) b
 omega
mutual
def ZR:TS→Prop
 | .mk s bl=>(s.kind≠7→s.kind≠8→s.args=[])∧s.args.length≤4000∧s.field≤3∧aI bl
def aI:List (Nat×List TS)→Prop
 | []=>True
 | (_,ts)::r=>Yr ts∧aI r
def Yr:List TS→Prop
 | []=>True
 | t::ts=>ZR t∧Yr ts
end
theorem QG:∀{a:List TS},(∀t,t∈a→ZN t→ZR t)→R3 a→Yr a
 | [],_,_=>trivial
 | t::_,h,k=>⟨h t (List.mem_cons_self ..) k.1,QG (fun u b=>h u (List.mem_cons_of_mem _ b)) k.2⟩
theorem BS.wf{l:List PT}:∀{d i j:Nat} {t:TS},BS l d i j t→ZN t→ZR t
 | 0,_,_,_,h,_=>h.elim
 | d+1,i,j,.mk s D,h,n=>by
   obtain ⟨E,F,w⟩:=h;have C:∀a b u,CH (BS l d) a b u→R3 u→Yr u:=fun a b u r=>QG (fun t A n=>by obtain ⟨x,y,q⟩:=r.each t A;exact q.wf n)
   rcases w with ⟨rfl,_,B,z,_⟩ | ⟨k,u,m,rfl,v,c,e,f⟩ | ⟨k,u,m,G,I,H,rfl,v,c,e,f,g,h⟩
   ·exact ⟨z,B.al,n.1,trivial⟩
   ·rcases v with rfl | rfl
    ·exact ⟨fun _ _=>rfl,Nat.zero_le _,n.1,C _ _ _ e n.2.1,trivial⟩
    ·exact ⟨fun _ _=>rfl,Nat.zero_le _,n.1,C _ _ _ e n.2.1,trivial⟩
   ·subst v;exact ⟨fun _ _=>rfl,Nat.zero_le _,n.1,C _ _ _ e n.2.1,C _ _ _ g n.2.2.1,trivial⟩
mutual
theorem Zv(k:Nat):∀t:TS,nK k t≤Ez t
 | .mk s bl=>by have:=Yc k bl;simp only [nK,Ez];split<;>omega
theorem Yc(k:Nat):∀bl:List (Nat×List TS),nB k bl≤LG bl
 | []=>Nat.le_refl _
 | (_,ts)::r=>by have:=JA k ts;have:=Yc k r;simp only [nB,LG];omega
theorem JA(k:Nat):∀ts:List TS,nL k ts≤CQ ts
 | []=>Nat.le_refl _
 | t::ts=>by have:=Zv k t;have:=JA k ts;simp only [nL,CQ];omega
end
section
variable {N : Nat} {l : List PT} (H : TksOk N l) (o : N ≤ 4000) (p : l.length ≤ 4001)
include H o p
theorem Vw(c:List TF)(y:Nat)(x:PS)(e:CM l l.length ⟨0,false,0⟩=(c,y,x))(w:x.m8=false):
 (c.map fun t=>CQ t.v8).sum≤4000∧∀t,t∈c→Yr t.v8:=by
 have F:=H.pos;have k:=Mf H o p (by rw [e];exact w);have h:=Vu l l.length ⟨0,false,0⟩;rw [e] at k h;obtain ⟨d,_,_⟩:=k;simp only at d;refine ⟨?_,fun t n=>?_⟩
 ·have:=Hu (f:=fun t:TF=>CQ t.v8) (fun _ _ _ q=>q.sz) d;omega
 ·obtain ⟨i,j,g⟩:=d.each t n;obtain ⟨I,J,G,m,z,A,B,C,D,r,E⟩:=g.w;exact QG (fun u v s=>by obtain ⟨a,b,q⟩:=r.each u v;exact q.wf s) (h t n)
end
structure Sa(V F L:Nat)(par:List Nat)(s:AY):Prop where
 kind:s.kind≤12
 tg:s.kind≠0→s.kind≠10→s.kind≠11→s.kind≠12→s.aQ<V
 sr:s.kind=2∨s.kind=3∨s.kind=5∨s.kind=6∨s.kind=8∨s.kind=9∨s.kind=10→s.r9<V
 func:s.kind=4∨s.kind=7→s.r9<F
 many:s.kind=7→par[s.r9]?.getD 0=s.args.length
 args:∀a,a∈s.args→a<V
 bA:s.args.length≤4000
 field:s.field≤3
 m9:s.m9≤4000
 next:s.next≤L
 taken:s.taken≤L
 t5:s.aQ≤5000
 s5:s.r9≤5000
theorem OZ(l:List ByteArray)(s:ByteArray):vx l s≤l.length:=by have:=(Db l s 0).2.2;unfold vx;omega
theorem TD{fn:List ByteArray}{par:List Nat}{s:VS}{b:Bd}{a V L:Nat}(r:s.kind≤10)(h:ZP fn par s b.d9)(m:s.kind≠7→s.kind≠8→s.args=[])(n:s.args.length≤4000)(o:s.field≤3)(c:b.d9.length≤V)(p:V≤12)(hF:fn.length≤12)(i:a≤L)(k:s.kind=1→b.pl+1≤4000)(j:s.kind=8→b.ca+1≤4000):Sa V fn.length L par {Az fn s b with next:=a}:=by
 have u:=OZ b.d9 s.tg.a9;have v:=OZ b.d9 s.sr.a9;have w:=OZ fn s.sr.a9;refine ⟨by simp only [Az];omega,fun f g _ _=>?_,fun q=>?_,fun q=>?_,fun q=>?_,fun x d=>?_,by simp only [Az,List.length_map];exact n,o,?_,i,Nat.zero_le _,?_,?_⟩
 ·simp only [Az] at f g⊢;rw [if_neg f];have:=(O8 (h.tg f g)).1;omega
 ·simp only [Az] at q⊢;rw [if_neg (by omega)];have:=(O8 (h.sr q)).1;omega
 ·simp only [Az] at q⊢;rw [if_pos q];exact (O8 (h.func q)).1
 ·simp only [Az,List.length_map] at q⊢;rw [if_pos (.inr q)];exact h.many q
 ·simp only [Az] at d;by_cases q:s.kind=7∨s.kind=8
  ·obtain ⟨t,l,rfl⟩:=List.mem_map.1 d;have:=(O8 (h.args q t l)).1;omega
  ·rw [m (fun e=>q (.inl e)) (fun e=>q (.inr e))] at d;simp at d
 ·simp only [Az];split
  ·exact k (by assumption)
  ·split
   ·exact j (by assumption)
   ·exact Nat.zero_le _
 ·simp only [Az];split<;>omega
 ·simp only [Az];split<;>omega
theorem RK{fn:List ByteArray}{par:List Nat}{s:VS}{b:Bd}{a V L:Nat}(l:s.kind=11∨s.kind=12)(j:s.kind≠7→s.kind≠8→s.args=[])(k:s.field≤3)(c:b.d9.length≤12)(g:a≤L):Sa V fn.length L par {Az fn s b with next:=a}:=by
 have o:=OZ b.d9 s.tg.a9;have p:=OZ b.d9 s.sr.a9;have d:({Az fn s b with next:=a}:AY).kind=s.kind:=rfl;have e:({Az fn s b with next:=a}:AY).args=[]:=by simp only [Az];rw [j (by omega) (by omega)];rfl
 refine ⟨by rw [d];omega,fun m n h i=>by rw [d] at h i;omega,fun q=>by rw [d] at q;omega,fun q=>by rw [d] at q;omega,fun q=>by rw [d] at q;omega,fun x f=>by rw [e] at f;simp at f,by rw [e];simp,k,?_,g,Nat.zero_le _,?_,?_⟩
 ·simp only [Az];rw [if_neg (by omega),if_neg (by omega)];exact Nat.zero_le _
 ·simp only [Az];rw [if_neg (by omega)];omega
 ·simp only [Az];rw [if_neg (by omega)];omega
theorem KN{l:List AY}{i:Nat}{f:AY→AY}{s:AY}(h:s∈l.modify i f):s∈l∨∃u,u∈l∧s=f u:=by
 obtain ⟨j,a,rfl⟩:=List.mem_iff_getElem.1 h;rw [List.getElem_modify];split
 ·exact .inr ⟨_,List.getElem_mem _,rfl⟩
 ·exact .inl (List.getElem_mem _)
section
variable {fn : List ByteArray} {par : List Nat} {V L : Nat} (c : V ≤ 12) (hF : fn.length ≤ 12)
theorem Qv{b:Bd}{i n:Nat}(a:n≤L)(h:∀s,s∈b.b9→Sa V fn.length L par s):∀s,s∈(b.tk i n).b9→Sa V fn.length L par s:=by
 intro s d;rcases KN d with q | ⟨u,q,rfl⟩
 ·exact h s q
 ·have k:=h u q;exact ⟨k.kind,k.tg,k.sr,k.func,k.many,k.args,k.bA,k.field,k.m9,k.next,a,k.t5,k.s5⟩
theorem YU{b:Bd}{i n:Nat}(a:n≤L)(h:∀s,s∈b.b9→Sa V fn.length L par s):∀s,s∈(b.nx i n).b9→Sa V fn.length L par s:=by
 intro s d;rcases KN d with q | ⟨u,q,rfl⟩
 ·exact h s q
 ·have k:=h u q;exact ⟨k.kind,k.tg,k.sr,k.func,k.many,k.args,k.bA,k.field,k.m9,a,k.taken,k.t5,k.s5⟩
theorem VZ{b:Bd}{s:VS}{a:Nat}(h:∀s,s∈b.b9→Sa V fn.length L par s)(k:Sa V fn.length L par {Az fn s b with next:=a}):∀u,u∈(Am fn s a b).b9→Sa V fn.length L par u:=by
 intro u d;rw [Bi] at d;rcases List.mem_append.1 d with q | q
 ·exact h u q
 ·rw [List.mem_singleton.1 q];exact k
theorem Il{ts:List TS}{a n:Nat}{b:Bd}(d:a≤n)(e:b.b9.length≤n):AJ ts a b≤n:=by unfold AJ;split<;>omega
include c hF
mutual
theorem NR:∀(t:TS) (a:Nat) (b:Bd),Yn fn par t b.d9→ZR t→(b.d9++dS t).length≤V→a≤L→b.b9.length+Ez t≤L→b.pl+nK 1 t≤4000→b.ca+nK 8 t≤4000→(∀s,s∈b.b9→Sa V fn.length L par s)→∀s,s∈(BP fn t a b).b9→Sa V fn.length L par s
 | .mk s [],a,b,ho,hw,hn,ha,hl,hp,hc,h=>by
   have hn':b.d9.length≤V:=by rw [List.length_append] at hn;omega
   simp only [nK,nB] at hp hc;rw [BP];exact VZ h (TD ho.1 ho.2 hw.1 hw.2.1 hw.2.2.1 hn' c hF ha (fun q=>by rw [if_pos q] at hp;omega) (fun q=>by rw [if_pos q] at hc;omega))
 | .mk s [(_,ts)],a,b,ho,hw,hn,ha,hl,hp,hc,h=>by
   have hn':b.d9.length≤V:=by rw [List.length_append] at hn;omega
   have hab:=Ef fn s a b ho.1;have hlen:(Am fn s a b).b9.length=b.b9.length+1:=by rw [Bi];simp
   have hA:=VZ h (RK (V:=V) (L:=L) (par:=par) (a:=a) ho.1 hw.1 hw.2.2.1 (by omega) ha);simp only [nK,nB] at hp hc;simp only [Ez,LG] at hl;have hn2:(((Am fn s a b).d9)++dL ts).length≤V:=by rw [hab.1];have hk:=ho.1;simp only [dS,dB,List.append_nil,List.length_append] at hn;rw [if_neg (by omega)] at hn;simpa using hn
   have hko:IM fn par ts (Am fn s a b).d9:=by rw [hab.1];exact ho.2
   have I:=fun a' ha'=>FZ ts a' (Am fn s a b) hko hw.2.2.2.1 hn2 ha' (by omega) (by rw [hab.2.1];omega) (by rw [hab.2.2];omega) hA
   rw [BP];split
   ·exact Qv (Il ha (by omega)) (I a ha)
   ·split
    ·exact Qv (Il (by omega) (by omega)) (I _ (by omega))
    ·exact hA
 | .mk s [(_,ts),(_,ts2)],a,b,ho,hw,hn,ha,hl,hp,hc,h=>by
   have hn':b.d9.length≤V:=by rw [List.length_append] at hn;omega
   have hab:=Ef fn s a b (.inl ho.1);have hlen:(Am fn s a b).b9.length=b.b9.length+1:=by rw [Bi];simp
   have hA:=VZ h (RK (V:=V) (L:=L) (par:=par) (a:=a) (.inl ho.1) hw.1 hw.2.2.1 (by omega) ha);simp only [nK,nB] at hp hc;simp only [Ez,LG] at hl;simp only [dS,dB,List.append_nil,List.length_append] at hn;rw [if_neg (by have:=ho.1;omega)] at hn;simp only [List.length_nil] at hn;have hko:IM fn par ts (Am fn s a b).d9:=by rw [hab.1];exact ho.2.1
   have L1:=DI ts a (Am fn s a b) hko;have I:=FZ ts a (Am fn s a b) hko hw.2.2.2.1 (by rw [hab.1,List.length_append];omega) ha (by omega) (by rw [hab.2.1];omega) (by rw [hab.2.2];omega) hA;have I2:=Qv (i:=b.b9.length) (Il (ts:=ts) (b:=Am fn s a b) ha (by omega)) I;rw [BP,if_pos ho.1];simp only;have e1:((AP fn ts a (Am fn s a b)).tk b.b9.length (AJ ts a (Am fn s a b))).d9=b.d9++dL ts:=by show (AP fn ts a (Am fn s a b)).d9=_;rw [L1.d9,hab.1]
   have e2:((AP fn ts a (Am fn s a b)).tk b.b9.length (AJ ts a (Am fn s a b))).b9.length=b.b9.length+1+CQ ts:=by rw [Lf,L1.len,hlen]
   have e3:((AP fn ts a (Am fn s a b)).tk b.b9.length (AJ ts a (Am fn s a b))).pl=b.pl+nL 1 ts:=by show (AP fn ts a (Am fn s a b)).pl=_;rw [L1.pl,hab.2.1]
   have e4:((AP fn ts a (Am fn s a b)).tk b.b9.length (AJ ts a (Am fn s a b))).ca=b.ca+nL 8 ts:=by show (AP fn ts a (Am fn s a b)).ca=_;rw [L1.ca,hab.2.2]
   refine YU (Il ha (by omega)) (FZ ts2 a _ (by rw [e1];exact ho.2.2) hw.2.2.2.2.1 (by rw [e1];simp only [List.length_append];omega) ha (by omega) (by omega) (by omega) I2)
 | .mk _ (_::_::_::_),_,_,ho,_,_,_,_,_,_,_=>ho.elim
theorem FZ:∀(ts:List TS) (a:Nat) (b:Bd),IM fn par ts b.d9→Yr ts→(b.d9++dL ts).length≤V→a≤L→b.b9.length+CQ ts≤L→b.pl+nL 1 ts≤4000→b.ca+nL 8 ts≤4000→(∀s,s∈b.b9→Sa V fn.length L par s)→∀s,s∈(AP fn ts a b).b9→Sa V fn.length L par s
 | [],_,_,_,_,_,_,_,_,_,h=>by have _h1:=c;have _h2:=hF;rw [AP];exact h
 | [t],a,b,ho,hw,hn,ha,hl,hp,hc,h=>by simp only [dL,List.append_nil] at hn;simp only [CQ,nL,Nat.add_zero] at hl hp hc;rw [AP];exact NR t a b ho.1 hw.1 hn ha hl hp hc h
 | t::t2::ts,a,b,ho,hw,hn,ha,hl,hp,hc,h=>by
   rw [dL,←List.append_assoc] at hn;have hz:CQ (t::t2::ts)=Ez t+CQ (t2::ts):=rfl;have h1:nL 1 (t::t2::ts)=nK 1 t+nL 1 (t2::ts):=rfl;have h8:nL 8 (t::t2::ts)=nK 8 t+nL 8 (t2::ts):=rfl;have L1:=J6 t (b.b9.length+Ez t) b ho.1;have hn1:(b.d9++dS t).length≤V:=by rw [List.length_append] at hn;omega
   have I:=NR t (b.b9.length+Ez t) b ho.1 hw.1 hn1 (by omega) (by omega) (by omega) (by omega) h;rw [AP];exact FZ (t2::ts) a _ (by rw [L1.d9];exact ho.2) hw.2 (by rw [L1.d9];exact hn) ha (by rw [L1.len];omega) (by rw [L1.pl];omega) (by rw [L1.ca];omega) I
end
end
theorem Q8:∀(n:Nat) (x:UInt8),x∈Lib.decDigits n→48≤x.toNat∧x.toNat≤57:=by
 intro n;induction n using Nat.strongRecOn with
 | _ n c=>
   intro x a;have b:∀d:Nat,d<10→(UInt8.ofNat (48+d)).toNat=48+d:=by decide
   rw [Lib.decDigits] at a;split at a
   ·rename_i h;rw [List.mem_singleton] at a;subst a;rw [b n h];omega
   ·rename_i h;rcases List.mem_append.1 a with q | q
    ·exact c (n / 10) (by omega) x q
    ·rw [List.mem_singleton] at q;subst q;rw [b (n % 10) (by omega)];omega
theorem UN(n):∃x l,Lib.decDigits n=x::l∧48≤x.toNat∧x.toNat≤57:=by
 cases h:Lib.decDigits n with
 | nil=>
   rw [Lib.decDigits] at h;split at h
   ·cases h
   ·exact absurd h (by simp)
 | cons x l=>exact ⟨x,l,rfl,Q8 n x (by rw [h];simp)⟩
structure NmP(P:List PFn):Prop where
 nl:∀i,Ud (Ap P i).name
 vl:∀i j,Ud (QE P i j)
 inj:∀i j,i<P.length→j<P.length→(Ap P i).name=(Ap P j).name→i=j
 dD:∀i,(Ap P i).l8.Nodup
structure GoodP(c:List TF):Prop where
 bP:Z0 c
 sum:(c.map fun t=>CQ t.v8).sum≤4000
 wf:∀t,t∈c→Yr t.v8
 cT:∀t,t∈c→Uo (fun b=>Ud b∧b.size≤4000) t
def DU(c:List TF):List ByteArray:=c.map fun f=>f.name.a9
def Zy(c:List TF):List Nat:=c.map fun f=>f.i8.length
def sK(k:Nat)(l:List TF)(i:Nat):Nat:=((l.take i).map fun t=>nL k t.v8).sum
theorem Ol{fn:List ByteArray}{par:List Nat}:∀(l:List TF) (b a i:Nat) (h:i<l.length),(∀t,t∈l→IM fn par t.v8 (t.i8.map fun p=>p.a9))→(Bu fn l b a)[i]? =some (CL fn l[i] (b+sK 1 l i) (a+sK 8 l i))
 | [],_,_,i,h,_=>by simp at h
 | t::l,b,a,0,_,_=>by simp [Bu,sK]
 | t::l,b,a,i+1,h,d=>by obtain ⟨_,e,f,_⟩:=KU (fn:=fn) (par:=par) t b a (d t (List.mem_cons_self ..));have I:=Ol (fn:=fn) (par:=par) l (b+nL 1 t.v8) (a+nL 8 t.v8) i (by simpa using h) (fun t g=>d t (List.mem_cons_of_mem _ g));rw [Bu,e,f,dK,I];simp only [sK,List.take_succ_cons,List.map_cons,List.sum_cons,List.getElem_cons_succ,Nat.add_assoc]
theorem Ff{fn:List ByteArray}:∀(l:List TF) (b a:Nat),(Bu fn l b a).length=l.length
 | [],_,_=>rfl
 | t::l,b,a=>by rw [Bu,List.length_cons,Ff l,List.length_cons]
theorem Ws:∀(l:List TF) (b a i:Nat) (h:i<l.length),(Yj l b a)[i]? =some ⟨Dx l[i],l[i].i8.length,l[i].v8,b+sK 1 l i,a+sK 8 l i⟩
 | [],_,_,i,h=>by simp at h
 | t::l,b,a,0,_=>by simp [Yj,sK,Dx]
 | t::l,b,a,i+1,h=>by have I:=Ws l (b+nL 1 t.v8) (a+nL 8 t.v8) i (by simpa using h);rw [Yj,dK,I];simp only [sK,List.take_succ_cons,List.map_cons,List.sum_cons,List.getElem_cons_succ,Nat.add_assoc]
theorem RU:∀(l:List TF) (b a:Nat),(Yj l b a).length=l.length
 | [],_,_=>rfl
 | t::l,b,a=>by rw [Yj,List.length_cons,RU l,List.length_cons]
theorem VN(k:Nat):∀(l:List TF) (i:Nat) (h:i<l.length),sK k l i+nL k l[i].v8≤(l.map fun t=>CQ t.v8).sum
 | [],i,h=>by simp at h
 | t::l,0,_=>by have:=JA k t.v8;simp only [sK,List.take_zero,List.map_nil,List.sum_nil,List.getElem_cons_zero,List.map_cons,List.sum_cons];omega
 | t::l,i+1,h=>by have I:=VN k l i (by simpa using h);have:=JA k t.v8;simp only [sK,List.take_succ_cons,List.map_cons,List.sum_cons,List.getElem_cons_succ] at I⊢;omega
theorem Rs{f:TF→Nat}:∀{l:List TF} {t:TF},t∈l→f t≤(l.map f).sum
 | [],_,h=>by simp at h
 | a::l,t,h=>by
   simp only [List.map_cons,List.sum_cons];rcases List.mem_cons.1 h with rfl | q
   ·omega
   ·have:=Rs (f:=f) q;omega
section
variable {c : List TF} (G : GoodP c)
include G
theorem GoodP.cZ{t:TF}(h:t∈c):CQ t.v8≤4000:=Nat.le_trans (Rs (f:=fun t=>CQ t.v8) h) G.sum
theorem GoodP.pf(i:Nat)(h:i<c.length):Ap (Bu (DU c) c 0 0) i=CL (DU c) c[i] (sK 1 c i) (sK 8 c i):=by unfold Ap;rw [Ol (fn:=DU c) (par:=Zy c) c 0 0 i h G.bP.ok,Nat.zero_add,Nat.zero_add];rfl
omit G in
theorem Gr(c:List TF)(i:Nat)(h:¬i<c.length):Ap (Bu (DU c) c 0 0) i=⟨⟨#[]⟩,[],0,[]⟩:=by unfold Ap;rw [List.getElem?_eq_none (by rw [Ff];omega)];rfl
omit G in
theorem aM(c:List TF)(i:Nat)(h:i<c.length):Da (Yj c 0 0) i=⟨Dx c[i],c[i].i8.length,c[i].v8,sK 1 c i,sK 8 c i⟩:=by unfold Da;rw [Ws c 0 0 i h,Nat.zero_add,Nat.zero_add];rfl
omit G in
theorem ZY(c:List TF)(i:Nat)(h:¬i<c.length):Da (Yj c 0 0) i=⟨[],0,[],0,0⟩:=by unfold Da;rw [List.getElem?_eq_none (by rw [RU];omega)];rfl
theorem GoodP.one(i:Nat)(h:i<c.length):(Ap (Bu (DU c) c 0 0) i).name=c[i].name.a9∧(Ap (Bu (DU c) c 0 0) i).l8=Dx c[i]∧(Ap (Bu (DU c) c 0 0) i).i8=c[i].i8.length∧(Ap (Bu (DU c) c 0 0) i).b9.length=CQ c[i].v8:=by rw [G.pf i h];obtain ⟨a,_,_,b,_⟩:=KU (fn:=DU c) (par:=Zy c) c[i] (sK 1 c i) (sK 8 c i) (G.bP.ok _ (List.getElem_mem _));exact ⟨rfl,a,rfl,b⟩
theorem GoodP.cQ:Ms (Bu (DU c) c 0 0):=by
 have x:=Ff (fn:=DU c) c 0 0;have k:=G.bP.bA;refine ⟨by omega,fun i=>?_,fun i=>?_,fun i=>?_,fun i w s b=>?_⟩
 ·by_cases h:i<c.length
  ·rw [(G.one i h).2.1];exact (G.bP.l8 _ (List.getElem_mem _)).2
  ·rw [Gr c i h];exact Nat.zero_le _
 ·by_cases h:i<c.length
  ·rw [(G.one i h).2.1,(G.one i h).2.2.1];simp [Dx]
  ·rw [Gr c i h];exact Nat.le_refl _
 ·by_cases h:i<c.length
  ·rw [(G.one i h).2.2.2];have:=G.cZ (List.getElem_mem h);omega
  ·rw [Gr c i h];exact Nat.zero_le _
 ·have h:i<c.length:=by omega
  have d:c[i]∈c:=List.getElem_mem _;obtain ⟨z,e,A,g⟩:=G.one i h;have m:=G.bP.l8 _ d;have t:=VN 1 c i h;have u:=VN 8 c i h;have y:=G.sum;have l:s∈(AP (DU c) c[i].v8 (CQ c[i].v8) (QU c[i] (sK 1 c i) (sK 8 c i))).b9:=by rw [G.pf i h] at b;exact b
  have K:=FZ (fn:=DU c) (par:=Zy c) (V:=(Dx c[i]).length) (L:=CQ c[i].v8) m.2 (by unfold DU;rw [List.length_map];exact k) c[i].v8 (CQ c[i].v8) (QU c[i] (sK 1 c i) (sK 8 c i)) (G.bP.ok _ d) (G.wf _ d) (Nat.le_refl _) (Nat.le_refl _) (by simp [QU]) (by show sK 1 c i+_≤4000;omega) (by show sK 8 c i+_≤4000;omega) (fun s b=>by simp [QU] at b) s l;have v:(DU c).length=c.length:=by unfold DU;rw [List.length_map]
  refine ⟨K.kind,fun n o p r=>by rw [e];exact K.tg n o p r,fun q=>by rw [e];exact K.sr q,fun q=>by have:=K.func q;omega,fun q=>?_,fun a j=>by rw [e];exact K.args a j,K.bA,K.field,K.m9,by rw [g];exact K.next,by rw [g];exact K.taken,K.t5,K.s5⟩;have f:s.r9<c.length:=by have:=K.func (.inr q);omega
  rw [(G.one _ f).2.2.1,←K.many q];unfold Zy;rw [List.getElem?_map,List.getElem?_eq_getElem f];rfl
theorem GoodP.var{i:Nat}(h:i<c.length){s:ByteArray}(b:s∈Dx c[i]):Ud s∧s.size≤4000:=by
 obtain ⟨_,d,e⟩:=G.cT _ (List.getElem_mem h);rcases List.mem_append.1 b with q | q
 ·obtain ⟨p,a,rfl⟩:=List.mem_map.1 q;exact d p a
 ·exact e s q
theorem GoodP.vn(i j:Nat):Ud (QE (Bu (DU c) c 0 0) i j)∧(QE (Bu (DU c) c 0 0) i j).size≤4000:=by
 have z:Ud (⟨#[]⟩:ByteArray)∧(⟨#[]⟩:ByteArray).size≤4000:=⟨KJ,by decide⟩;unfold QE;by_cases h:i<c.length
 ·rw [(G.one i h).2.1];by_cases a:j<(Dx c[i]).length
  ·rw [List.getElem?_eq_getElem a];exact G.var h (List.getElem_mem _)
  ·rw [List.getElem?_eq_none (by omega)];exact z
 ·rw [Gr c i h];simp only [List.getElem?_nil,Option.getD_none];exact z
theorem GoodP.nm(i:Nat):Ud (Ap (Bu (DU c) c 0 0) i).name∧(Ap (Bu (DU c) c 0 0) i).name.size≤4000:=by
 by_cases h:i<c.length
 ·rw [(G.one i h).1];exact (G.cT _ (List.getElem_mem h)).1
 ·rw [Gr c i h];exact ⟨KJ,by decide⟩
theorem GoodP.cX:PnOk (Bu (DU c) c 0 0):=⟨fun i=>(G.nm i).2,fun i j=>(G.vn i j).2⟩
theorem GoodP.dA:NmP (Bu (DU c) c 0 0):=by
 refine ⟨fun i=>(G.nm i).1,fun i j=>(G.vn i j).1,fun i j a b e=>?_,fun i=>?_⟩
 ·rw [Ff] at a b;rw [(G.one i a).1,(G.one j b).1] at e;have d:=G.bP.d9 i a;have f:=G.bP.d9 j b;rw [e,f] at d;omega
 ·by_cases h:i<c.length
  ·rw [(G.one i h).2.1];exact (G.bP.l8 _ (List.getElem_mem _)).1
  ·rw [Gr c i h];exact List.nodup_nil
theorem GoodP.cY{d:Nat}(b:∀t,t∈c→∀s,s∈t.v8→Na d s):Wz d c:=by
 refine ⟨G.bP.bA,G.bP.d9,fun t h=>(G.cT t h).1.2,fun t h p a=>((G.cT t h).2.1 p a).2,fun t h=>?_,fun t h=>?_,b,G.bP.ok,fun t h=>G.cZ h,?_,?_⟩
 ·exact (List.nodup_append.1 (G.bP.l8 t h).1).1
 ·have:=(G.bP.l8 t h).2;simp only [Dx,List.length_append,List.length_map] at this;omega
 ·refine Nat.le_trans ?_ G.sum;have:∀l:List TF,(l.map fun t=>nL 1 t.v8).sum≤(l.map fun t=>CQ t.v8).sum:=by
   intro l;induction l with
   | nil=>exact Nat.le_refl _
   | cons t l e=>have:=JA 1 t.v8;simp only [List.map_cons,List.sum_cons];omega
  exact this c
 ·refine Nat.le_trans ?_ G.sum;have:∀l:List TF,(l.map fun t=>nL 8 t.v8).sum≤(l.map fun t=>CQ t.v8).sum:=by
   intro l;induction l with
   | nil=>exact Nat.le_refl _
   | cons t l e=>have:=JA 8 t.v8;simp only [List.map_cons,List.sum_cons];omega
  exact this c
end
theorem Ab.grow{X:Nat→Prop}(w b):Ab X w (grow w b):=
 ⟨rfl,rfl,rfl,by simp,fun k a _=>heap_grow_old _ _ a⟩
theorem Zp(w)(a:Lib.TabIs Tryz.prog w "internal/strconv.uint64pow10" .u64 Lib.pow10Tab):ItOk w:=by
 intro n W h d;have f:Lib.TabIs Tryz.prog W "internal/strconv.uint64pow10" .u64 Lib.pow10Tab:=by
  unfold Lib.TabIs World.var? at a⊢;cases b:Tryz.prog.globalNamed "internal/strconv.uint64pow10" with
  | none=>rw [b] at a;cases a
  | some g=>
    rw [b] at a;simp only [Option.bind_some] at a⊢;have c:g<w.heap.size:=by
     rcases Nat.lt_or_ge g w.heap.size with q | q
     ·exact q
     ·rw [Array.getElem?_eq_none q] at a;cases a
    rw [d.block g c (fun q=>q)];exact a
 refine (Tryz.strconv_Itoa (n:Int) (by omega) (by omega) W f).mono ?_;rintro e j ⟨rfl,k,i,rfl⟩;refine ⟨?_,((Ab.refl _ W).drewN k).trans (Ab.grow _ _)⟩;have:Lib.itoa (n:Int)=Lib.decDigits n:=by unfold Lib.itoa;simp
 rw [this];rfl
theorem YV:XX:=by
 intro B g c l W H N;obtain ⟨O,G⟩:=H;rcases G with ⟨q,_⟩ | ⟨M,K,L,q,D,m,i,j,z,A⟩
 ·cases q
 cases q;have J:(l.map (fun b=>b.data.toList)).map encStr=l.map Value.string:=by rw [List.map_map];exact List.map_congr_left (fun b _=>by simp [encStr])
 have f:(l.map (fun b=>b.data.toList)).length=l.length:=by simp
 have C:Holds encStr W g 0 (l.map (fun b=>b.data.toList)).toArray:=holds_of_block m (by rw [f,J];simpa using A);have E:g<W.heap.size:=lt_of_block m;have r:=Tryz.slices_Sort_string g 0 c (l.map (fun b=>b.data.toList)) W C E (by rw [f];omega);rw [f] at r;refine r.mono ?_;rintro e P ⟨rfl,n,t,rfl⟩;obtain ⟨d,p⟩:∃d,(l.map (fun b=>b.data.toList)).mergeSort (fun x y=>decide (x≤y))=d:=⟨_,rfl⟩;have o:d.Perm (l.map (fun b=>b.data.toList)):=by rw [←p];exact List.mergeSort_perm _ _
 have I:d.Pairwise (fun x y=>decide (x≤y)=true):=by rw [←p];exact List.pairwise_mergeSort (fun a b c i j=>by simp only [decide_eq_true_eq] at*;exact List.le_trans i j) (fun a b=>by simp only [Bool.or_eq_true,decide_eq_true_eq];exact List.le_total a b) _
 rw [p];refine ⟨rfl,d.map (fun s=>⟨s.toArray⟩),?_,?_,?_,Ab.grown (Ab.refl _ W) (grownBy_sorted _) (fun k F=>by cases F;exact .inl rfl)⟩
 ·have h:=ownsRow_sorted (w:=W) (base:=B) (n:=n) (os:=t) (ts:=d) (ss:=l.map (fun b=>b.data.toList)) o.length_eq D m (by rw [f];exact i) j z;rw [f] at h;unfold Au;have u:(d.map (fun s=>(⟨s.toArray⟩:ByteArray))).length=l.length:=by rw [List.length_map,o.length_eq,f]
  have v:(d.map (fun s=>(⟨s.toArray⟩:ByteArray))).map Value.string=d.map encStr:=by rw [List.map_map];rfl
  rw [u,v];exact h
 ·have h:=o.map (fun s=>(⟨s.toArray⟩:ByteArray));rw [List.map_map] at h;have e:l.map ((fun s=>(⟨s.toArray⟩:ByteArray)) ∘ fun b=>b.data.toList)=l:=by
   conv=>rhs;rw [←List.map_id l]
   exact List.map_congr_left (fun b _=>by simp)
  rw [e] at h;exact h
 ·rw [List.pairwise_map];refine I.imp (fun {a b} h=>?_);simp only [decide_eq_true_eq] at h;unfold ZU;simp only [decide_eq_false_iff_not];exact h
end Go.Proofs.YtegmjgjkcdbmkaaGreatDoor

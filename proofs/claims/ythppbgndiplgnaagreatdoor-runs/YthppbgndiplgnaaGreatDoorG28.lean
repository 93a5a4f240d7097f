/- One of the texts of the proof of runs_card_holds: RuA RuB MaB. -/
import Derived.Test.YthppbgndiplgnaaGreatDoorG16
import Derived.Test.YthppbgndiplgnaaGreatDoorG27
import Derived.Lib.ItoaNum
import Derived.Sort.Walk0
import Derived.Deep.AppendSrc
set_option maxRecDepth 100000
set_option maxHeartbeats 1000000
namespace Go.Proofs.YthppbgndiplgnaaGreatDoor
open Go.RowKit Go.Maps
abbrev Ve:ByteArray:=⟨#[48,49,50,51,52,53,54,55,56,57]⟩
theorem Q6:∀n:Nat,n<10→(Ve.extract n (n+1)).data.toList=[UInt8.ofNat (48+n)]:=by decide+kernel
theorem CV{s:ByteArray}{l:List UInt8}(h:s.data.toList=l):s=⟨l.toArray⟩:=by subst h;cases s;simp
theorem DP:∀n:Nat,(Lib.decDigits n).length≤n+1:=by
 intro n;induction n using Nat.strongRecOn with
 | ind n a=>
   rw [Lib.decDigits];split
   ·simp
   ·have:=a (n / 10) (by omega);simp only [aZ,bP];omega
theorem SR(r:Nat)(h:r<10)(W:World):(Instr.sliceAt 9 (.string Ve) (some (.int .i64 (r:Int))) (some (.int .i64 ((r:Int)+1))) none).run Tryz.prog W=.ok (.string (Ve.extract r (r+1))) W:=by
 have e:r=0∨r=1∨r=2∨r=3∨r=4∨r=5∨r=6∨r=7∨r=8∨r=9:=by omega
 rcases e with rfl | rfl | rfl | rfl | rfl | rfl | rfl | rfl | rfl | rfl<;>(show _=_)<;>kernel_rfl
theorem Oo:∀(n:Nat),n≤100000→∀(w:World),Calls Tryz.prog 94 #[.int .i64 n] w fun e t=>e=.returned (.string ⟨(Lib.decDigits n).toArray⟩)∧∃m,t=w.drewN m:=by
 intro n;induction n using Nat.strongRecOn with
 | ind n g=>
   intro v w;by_cases h:n<10
   ·have k:decide ((n:Int)<10)=true:=by simp;omega
    have c:dJ (Ve.extract n (n+1)=⟨(Lib.decDigits n).toArray⟩):=CV (by rw [Q6 n h,Lib.decDigits_one h]);clear g;go_enter Tryz.func94,Tryz.ntmps94;go_wp2;go_ret;exact ⟨congrArg (fun s=>Ending.returned (Value.string s)) c.o,0,rfl⟩
   ·have k:decide ((n:Int)<10)=false:=by simp;omega
    obtain ⟨L,d⟩:∃L,Lib.decDigits (n / 10)=L:=⟨_,rfl⟩;have l:=DP (n / 10);have a:=g (n / 10) (by omega) (by omega);rw [d] at l a;have a:=Aa a;obtain ⟨r,i⟩:∃r,n % 10=r:=⟨_,rfl⟩;have j:r<10:=by omega
    have o:=SR r j;obtain ⟨x,f⟩:∃x,Ve.extract r (r+1)=x:=⟨_,rfl⟩;have b:=Q6 r j;have A:x.size=1:=by
     have:x.data.toList.length=1:=by rw [←f,b];rfl
     simpa using this
    rw [f] at b o;have c:dJ ((⟨L.toArray⟩:ByteArray)++x=⟨(Lib.decDigits n).toArray⟩):=CV (by
     have e:Lib.decDigits n=Lib.decDigits (n / 10)++[UInt8.ofNat (48+n % 10)]:=by conv=>lhs;rw [Lib.decDigits,dif_neg h]
     rw [e,i,d];simp only [ByteArray.data_append,Array.toList_append,b])
    have p:dJ ((n:Int) / 10=((n / 10:Nat):Int)):=by show _=_;omega
    have q:dJ (IntKind.i64.wrap ((n:Int) / 10)=((n / 10:Nat):Int)):=by show _=_;rw [IntKind.wrap_i64];omega
    have z:(n:Int).tmod 10=(r:Int):=by rw [Int.tmod_eq_emod_of_nonneg (by omega)];omega
    have y:IntKind.i64.wrap ((r:Int)+1)=(r:Int)+1:=by rw [IntKind.wrap_i64];omega
    have u:¬9223372036854775807<L.length+1:=by omega
    clear g i d f b;go_enter Tryz.func94,Tryz.ntmps94;go_wp2;go_quiet ((go_at_call 94;(first | rw [q.o] | rw [p.o]);exact Calls.quiet_of (a.o _)));go_wp2;go_ret;exact ⟨congrArg (fun s=>Ending.returned (Value.string s)) c.o,nq,rfl⟩
def IN(a b:ByteArray):Bool:=decide (a.data.toList<b.data.toList)
def D3:List ByteArray→ByteArray→List ByteArray
 | [],s=>[s]
 | a::l,s=>if IN a s then a::D3 l s else if a=s then a::l else s::a::l
theorem IJ{P}(w){f j o a}{Q:Exit→Act→World→Prop}(p:o.guard=none)(s x t)
 (r:o.op=.call {callee:=.builtin .append,args:=#[s,x],argTypes:=#[t,t]})
 (k e i B)(d:P.underlying t=some (.slice e))(q:P.info? e=some i)(g b n C)(y:a.eval s=.slice (some ⟨g,0,none⟩) n b)(u:w.ownsRow k e B (.slice (some ⟨g,0,none⟩) n b) n C)
 (c)(A:a.eval x=.slice none 0 c)(h:wpList P f Q j (a.put o.dst (.slice (some ⟨g,0,none⟩) n b)) w):wpList P f Q (o::j) a w:=
 wpList_plain p fun K m=>by
  have H:n≤b:=by
   rcases u.2 with ⟨l,_⟩ | ⟨F,D,E,z,_,_,G,_⟩
   ·simp at l
   ·simp only [Value.slice.injEq] at z;omega
  have v:=run_append_room_src (P:=P) w t t o.type e i d q g 0 n b (.slice none 0 c) 0 [] (Src.ofNil w d c) (by omega) (by simp) (by simp);unfold Oper.wp;simp [execOp,r,resolve,invoke,builtin,y,A,v,Result.andThen];exact m _ _ h
theorem Sd{w:World}{B:Nat}{e:TypeId}{f:Nat}{v:Value}{n:Nat}{i:List Value}(h:w.ownsRow B e f v (n+1) i):∃g c,v=.slice (some ⟨g,0,none⟩) (n+1) c:=by
 rcases h.2 with ⟨_,k⟩ | ⟨b,a,j,d,_⟩
 ·omega
 ·exact ⟨b,a,d⟩
theorem MO{w:World}{B:Nat}{e:TypeId}{d:Nat}{g l c n:Nat}{f:List Value}(h:w.ownsRow B e d (.slice (some ⟨g,0,none⟩) l c) n f):n≤c:=by
 rcases h.2 with ⟨a,_⟩ | ⟨k,i,j,b,_,_,m,_⟩
 ·simp at a
 ·simp only [Value.slice.injEq] at b;omega
theorem OK{B w g n c l}(h:AB B w (.slice (some ⟨g,0,none⟩) n c) l)(k):∀j u,((l.drop k).map Value.string)[j]? =some u→w.cell? ((⟨g,k,none⟩:Addr).add j)=some u:=by
 intro j u a;have d:=Ah h;subst d;rw [bY,List.getElem?_drop] at a;have e:k+j<l.length:=by
  rcases cJ (k+j) l.length with q | q
  ·exact q
  ·rw [bV q] at a;cases a
 have b:=h.cellAt (k+j) (by omega);rw [bY] at b;rw [Addr.add_lit,b];exact a
theorem V0{l:List ByteArray}{s:ByteArray}{k:Nat}(h:k<l.length)(a:IN l[k] s=true):l.take k++D3 (l.drop k) s=l.take (k+1)++D3 (l.drop (k+1)) s:=by rw [bG h,D3,cU a,cA h,cX];rfl
theorem VZ{l:List ByteArray}{s:ByteArray}{k:Nat}(h:k<l.length)(b:IN l[k] s=false)(a:l[k]=s):D3 (l.drop k) s=l.drop k:=by rw [bG h,D3,cT (by simp [b]),cU a]
theorem V3{l:List ByteArray}{s:ByteArray}{k:Nat}(h:k<l.length)(b:IN l[k] s=false)(a:l[k]≠s):D3 (l.drop k) s=s::l.drop k:=by rw [bG h,D3,cT (by simp [b]),cT a]
theorem Kw(B v l s w)(h:AB B w v l)(hl:l.length≤1000000):
 Calls Tryz.prog 69 #[v,.string s] w fun e w'=>∃n,e=.returned n∧AB w.heap.size w' n (D3 l s)∧Ab (fun _=>False) w w':=by
 obtain ⟨A,t,F,G,H⟩:=info_parts Tryz.infoStr;obtain ⟨va,vl,N,rfl⟩:=Ad h;have b0:=Ah h;subst b0;obtain ⟨V,Z⟩:∃V,D3 l s=V:=⟨_,rfl⟩;rw [Z];have HV:dJ (l.take 0++D3 (l.drop 0) s=V):=Z;have HR:=Aa h;clear Z h;go_enter Tryz.func69,Tryz.ntmps69;go_wp2;go_loopw [5,6] (fun ov i wr=>∃k:Nat,k≤l.length∧i=.int .i64 k∧dJ (wr.ownsRow w.heap.size 9 1 ov k ((l.take k).map Value.string))∧dJ (Ab (fun _=>False) w wr)∧dJ (l.take k++D3 (l.drop k) s=V)) (fun _ i _=>l.length-(intOf i).toNat)
 case atStart=>exact ⟨0,by omega,rfl,bE _ _ _ _,Ab.refl _ _,HV⟩
 case round=>
  obtain ⟨k,hk,rfl,d,E,K⟩:=hrel;clear HV;have D:AB B wr (.slice va l.length N) l:=Ac HR.o E.o (fun _ _ q=>q);by_cases S:k<l.length
  ·obtain ⟨g,rfl⟩:=As D (by omega);have c:=D.cellAt k (by omega);rw [bY,aY S] at c;simp only [Option.map_some] at c;have lg:=(D.lt g rfl).2;have b5:=(HR.o.lt g rfl).2;have a2:Op.bytesLess l[k].toList s.toList=IN l[k] s:=by unfold IN;rw [bytesLess_eq,Lib.toList_data,Lib.toList_data]
   cases J:IN l[k] s with
   | true=>
     rw [J] at a2;have p:=Aa ((V0 S J).symm.trans K.o);have a9:=Aa (cA S);generalize l[k]=a at*;have l0:=E.o.size;clear K J;go_wp2_with (at_builtin;refine cD _ rfl _ _ 22 rfl w.heap.size 9 A (.string ByteArray.empty) 1 16 Tryz.underlying22 t F G H rfl (by decide) _ _ _ rfl (d.o.alloc _) ⟨wr.heap.size,0,none⟩ 1 1 [.string a] rfl rfl (cell_one_new _ _ _) (fun x b=>by simp at b;subst b;rfl) (by unfold maxLen;omega) (by omega) (by simp;omega) ?_;intro n C z r T);have a4:=Aa z;have a6:=Aa (Ab.grown (E.o.alloc _) r (fun j f=>.inr (d.o.lt j f).1));clear z r T d E;go_wp2;go_roundw
     case rel=>exact ⟨k+1,by omega,by go_num,by rw [a9.o,dD];exact a4,a6,p⟩
     case measure=>simp [intOf];omega
   | false=>
     rw [J] at a2;have b3:=MO D;have b4:¬N=k:=by omega
     have hz:=E.o.size;by_cases P:l[k]=s
     ·have a7:(l[k].toList==s.toList)=true:=by rw [P];simp
      have p:dJ (l.take k++l.drop k=V):=by rw [←VZ S J P];exact K.o
      have W:=Aa D;generalize l[k]=a at*;clear K J P D;go_wp2_with (at_builtin;refine cD _ rfl _ _ 22 rfl w.heap.size 9 A (.string ByteArray.empty) 1 16 Tryz.underlying22 t F G H rfl (by decide) _ _ _ rfl d.o ⟨g,k,none⟩ (l.length-k) (N-k) ((l.drop k).map Value.string) rfl (by simp) (OK W.o k) (fun x b=>by obtain ⟨y,_,rfl⟩:=cG.1 b;rfl) (by unfold maxLen;omega) (by omega) (by omega) ?_;intro n C z r T);go_wp2;go_ret;refine ⟨n,rfl,?_,Ab.grown E.o r (fun j f=>.inr (d.o.lt j f).1)⟩;unfold AB;rw [←p.o,dD];have e:(l.take k++l.drop k).length=k+(l.length-k):=by simp;omega
      rw [e];exact z
     ·have a7:(l[k].toList==s.toList)=false:=by
       cases hq:(l[k].toList==s.toList) with
       | false=>rfl
       | true=>exact dC (Ex (by simpa using hq)) P
      have p:dJ (l.take k++s::l.drop k=V):=by rw [←V3 S J P];exact K.o
      have W:=Aa D
      generalize l[k]=a at*
      clear K J P D
      have I:True:=trivial
      have a5:∀Y,(wr.alloc (.cells #[.string s] 9)).grownBy Y u5.ownBlock→AB B Y (.slice (some ⟨g,0,none⟩) l.length N) l:=fun Y hg=>Ac W.o (X:=fun j=>u5.ownBlock=some j) (Ab.grown ((Ab.refl _ _).alloc _) hg (fun j f=>.inl f)) (fun j f q=>by simp [Value.ownBlock] at f;subst f;have:=(d.o.lt _ q).1;omega)
      go_wp2_with (first | (at_builtin;have _t:=I;refine cD _ rfl _ _ 22 rfl w.heap.size 9 A (.string ByteArray.empty) 1 16 Tryz.underlying22 t F G H rfl (by decide) _ _ _ rfl (d.o.alloc _) ⟨wr.heap.size,0,none⟩ 1 1 [.string s] rfl rfl (cell_one_new _ _ _) (fun x b=>by simp at b;subst b;rfl) (by unfold maxLen;omega) (by omega) (by simp;omega) ?_;intro M L m o a0;clear I) | (at_builtin;refine cD _ rfl _ _ 22 rfl w.heap.size 9 A (.string ByteArray.empty) 1 16 Tryz.underlying22 t F G H rfl (by decide) _ _ _ rfl m ⟨g,k,none⟩ (l.length-k) (N-k) ((l.drop k).map Value.string) rfl (by simp) (OK (a5 _ o) k) (fun x b=>by obtain ⟨y,_,rfl⟩:=cG.1 b;rfl) (by unfold maxLen;omega) (by omega) (by have:=o.size;simp at this;omega) ?_;intro n C z r T))
      go_wp2
      go_ret
      refine ⟨n,rfl,?_,Ab.grown (Ab.grown (E.o.alloc _) o (fun j f=>.inr (d.o.lt j f).1)) r (fun j f=>.inr (m.lt j f).1)⟩
      unfold AB
      have e:V.length=k+1+(l.length-k):=by rw [←p.o];simp;omega
      have e2:V.map Value.string=(l.take k).map Value.string++[.string s]++(l.drop k).map Value.string:=by rw [←p.o];simp
      rw [e,e2]
      exact z
  ·have e:k=l.length:=by omega
   subst e;have p:l++[s]=V:=by have:=K.o;simpa [D3] using this
   have p:=Aa p;have hz:=E.o.size;have d:wr.ownsRow w.heap.size 9 1 u5 l.length (l.map Value.string):=by have:=d.o;simpa using this
   have d:=Aa d;clear K;have I:True:=trivial;have a1:∀(n:Value) (L C:World) (M:Value),(wr.alloc (.cells #[.string s] 9)).grownBy L u5.ownBlock→L.ownsRow w.heap.size 9 1 M (l.length+1) (l.map Value.string++[.string s])→L.grownBy C M.ownBlock→C.ownsRow w.heap.size 9 1 n (l.length+1) (l.map Value.string++[.string s])→AB w.heap.size C n V∧Ab (fun _=>False) w C:=by intro n L C M h1 O h3 h4;refine ⟨?_,Ab.grown (Ab.grown (E.o.alloc _) h1 (fun j f=>.inr (d.o.lt j f).1)) h3 (fun j f=>.inr (O.lt j f).1)⟩;unfold AB;rw [←p.o];simpa using h4
   have U:=Aa a1;clear a1;rcases D.2 with ⟨O,h0⟩ | ⟨g,b1,b2,a3,_⟩
   ·simp only [Value.slice.injEq] at O;obtain ⟨rfl,O,rfl⟩:=O;have a8:l=[]:=List.eq_nil_of_length_eq_zero O;subst a8;simp only [bM,List.map_nil,cR,cB] at U d p⊢;go_wp2_with (first | (at_builtin;have _t:=I;refine cD _ rfl _ _ 22 rfl w.heap.size 9 A (.string ByteArray.empty) 1 16 Tryz.underlying22 t F G H rfl (by decide) _ _ _ rfl (d.o.alloc _) ⟨wr.heap.size,0,none⟩ 1 1 [.string s] rfl rfl (cell_one_new _ _ _) (fun x b=>by simp at b;subst b;rfl) (by unfold maxLen;omega) (by omega) (by simp;omega) ?_;intro M L m o a0;clear I) | (at_builtin;obtain ⟨g2,c2,rfl⟩:=Sd m;refine IJ _ rfl _ _ 22 rfl w.heap.size 9 A 1 Tryz.underlying22 t g2 c2 1 _ rfl m 0 rfl ?_));go_wp2;go_ret;obtain ⟨Q,R⟩:=U.o _ _ _ _ o m (World.grownBy.refl _ _) m;exact ⟨_,rfl,Q,R⟩
   ·simp only [Value.slice.injEq] at a3;obtain ⟨rfl,_,rfl⟩:=a3;by_cases hc:N=l.length
    ·subst hc;go_wp2_with (first | (at_builtin;have _t:=I;refine cD _ rfl _ _ 22 rfl w.heap.size 9 A (.string ByteArray.empty) 1 16 Tryz.underlying22 t F G H rfl (by decide) _ _ _ rfl (d.o.alloc _) ⟨wr.heap.size,0,none⟩ 1 1 [.string s] rfl rfl (cell_one_new _ _ _) (fun x b=>by simp at b;subst b;rfl) (by unfold maxLen;omega) (by omega) (by simp;omega) ?_;intro M L m o a0;clear I) | (at_builtin;refine cD _ rfl _ _ 22 rfl w.heap.size 9 A (.string ByteArray.empty) 1 16 Tryz.underlying22 t F G H rfl (by decide) _ _ _ rfl m ⟨g,0,none⟩ 0 0 [] rfl rfl (fun j u hu=>by simp at hu) (fun x b=>by simp at b) (by unfold maxLen;omega) (by omega) (by have:=o.size;simp at this;omega) ?_;intro n C z r T));go_wp2;go_ret;obtain ⟨Q,R⟩:=U.o _ _ _ _ o m r (by simpa using z);exact ⟨_,rfl,Q,R⟩
    ·go_wp2_with (first | (at_builtin;have _t:=I;refine cD _ rfl _ _ 22 rfl w.heap.size 9 A (.string ByteArray.empty) 1 16 Tryz.underlying22 t F G H rfl (by decide) _ _ _ rfl (d.o.alloc _) ⟨wr.heap.size,0,none⟩ 1 1 [.string s] rfl rfl (cell_one_new _ _ _) (fun x b=>by simp at b;subst b;rfl) (by unfold maxLen;omega) (by omega) (by simp;omega) ?_;intro M L m o a0;clear I) | (at_builtin;refine cD _ rfl _ _ 22 rfl w.heap.size 9 A (.string ByteArray.empty) 1 16 Tryz.underlying22 t F G H rfl (by decide) _ _ _ rfl m ⟨g,l.length,none⟩ 0 (N-l.length) [] rfl rfl (fun j u hu=>by simp at hu) (fun x b=>by simp at b) (by unfold maxLen;omega) (by omega) (by have:=o.size;simp at this;omega) ?_;intro n C z r T));go_wp2;go_ret;obtain ⟨Q,R⟩:=U.o _ _ _ _ o m r (by simpa using z);exact ⟨_,rfl,Q,R⟩
def G7(a:List ByteArray)(i:Nat):ByteArray:=a[i]?.getD ByteArray.empty
def OU(X:List XF)(f i:Nat):ByteArray:=(Aq X f).m9[i]?.getD ByteArray.empty
def Vt(a:List ByteArray)(X:List XF)(t:Tg):List UInt8:=
 if t.kind=1 then Lib.decDigits t.Yj++[46]++Lib.decDigits t.Yk
 else if t.kind=2 then 64::(G7 a t.Yj).data.toList
 else (G7 a t.Yj).data.toList++[46]++(OU X t.Yj t.Yk).data.toList
def MZ(a:List ByteArray)(X:List XF)(t:Tg):ByteArray:=⟨(Vt a X t).toArray⟩
def XO(a:List ByteArray)(X:List XF)(p:Tg×Tg):List UInt8:=Vt a X p.1++[62]++Vt a X p.2
def XN(a:List ByteArray)(e:Nat×Nat):List UInt8:=[33]++Lib.decDigits e.1++[62]++(G7 a e.2).data.toList
def Xh(a:List ByteArray)(X:List XF)(p:Tg×Tg):ByteArray:=⟨(XO a X p).toArray⟩
def Xg(a:List ByteArray)(e:Nat×Nat):ByteArray:=⟨(XN a e).toArray⟩
theorem L3{a b c}(h:IN a b=true)(k:IN b c=true):IN a c=true:=by unfold IN at*;simp only [cQ] at*;exact List.lt_trans h k
theorem Hu(a):IN a a=false:=by unfold IN;simp only [decide_eq_false_iff_not];exact List.lt_irrefl _
theorem LZ{a b}(h:IN a b=false)(c:a≠b):IN b a=true:=by
 unfold IN at*;simp only [cQ,decide_eq_false_iff_not] at*;rcases List.le_iff_lt_or_eq.1 (List.not_lt.1 h) with q | q
 ·exact q
 ·exact dC (ByteArray.ext (Array.toList_inj.1 q.symm)) c
theorem Iz(s x:ByteArray):∀l:List ByteArray,x∈D3 l s↔x=s∨x∈l
 | []=>by simp [D3]
 | a::l=>by
   rw [D3];split
   ·rw [cM,Iz s x l,cM];constructor
    ·rintro (h | h | h)
     ·exact .inr (.inl h)
     ·exact .inl h
     ·exact .inr (.inr h)
    ·rintro (h | h | h)
     ·exact .inr (.inl h)
     ·exact .inl h
     ·exact .inr (.inr h)
   ·split
    ·rename_i h;subst h;constructor
     ·exact .inr
     ·rintro (h | h)
      ·rw [h];exact cS ..
      ·exact h
    ·exact cM
theorem Kz(s:ByteArray):∀l:List ByteArray,(D3 l s).length≤l.length+1
 | []=>by simp [D3]
 | a::l=>by
   rw [D3];have:=Kz s l;split
   ·simp only [aX];omega
   ·split<;>simp only [aX]<;>omega
theorem GE(s:ByteArray):∀l:List ByteArray,l.Pairwise (fun a b=>IN a b=true)→(D3 l s).Pairwise (fun a b=>IN a b=true)
 | [],_=>by simp [D3]
 | a::l,h=>by
   obtain ⟨e,g⟩:=List.pairwise_cons.1 h;rw [D3];split
   ·rename_i d;refine List.pairwise_cons.2 ⟨fun b c=>?_,GE s l g⟩;rcases (Iz s b l).1 c with q | q
    ·rw [q];exact d
    ·exact e b q
   ·rename_i d;split
    ·exact h
    ·rename_i i;have f:=LZ (by simpa using d) i;refine List.pairwise_cons.2 ⟨fun b c=>?_,h⟩;rcases cM.1 c with q | q
     ·rw [q];exact f
     ·exact L3 f (e b q)
structure Ek(fn:List ByteArray)(X:List XF)(seen:List ByteArray)(pts:List (Tg×Tg))(ent:List (Nat×Nat)):Prop where
 sorted:seen.Pairwise (fun a b=>IN a b=true)
 i7:∀x,x∈seen↔(∃p,p∈pts∧x=Xh fn X p)∨(∃e,e∈ent∧x=Xg fn e)
 len:seen.length≤pts.length+ent.length
theorem Ek.none(a X):Ek a X [] [] []:=⟨List.Pairwise.nil,fun x=>by simp,by simp⟩
theorem Ek.Z0{b X c f d}(h:Ek b X c f d)(p):Ek b X (D3 c (Xh b X p)) (p::f) d:=by
 refine ⟨GE _ _ h.sorted,fun x=>?_,?_⟩
 ·rw [Iz,h.i7];constructor
  ·rintro (q | ⟨r,a,q⟩ | ⟨r,a,q⟩)
   ·exact .inl ⟨p,cS ..,q⟩
   ·exact .inl ⟨r,bN _ a,q⟩
   ·exact .inr ⟨r,a,q⟩
  ·rintro (⟨r,a,q⟩ | ⟨r,a,q⟩)
   ·rcases cM.1 a with e | e
    ·subst e;exact .inl q
    ·exact .inr (.inl ⟨r,e,q⟩)
   ·exact .inr (.inr ⟨r,a,q⟩)
 ·have:=Kz (Xh b X p) c;have:=h.len;simp only [aX];omega
theorem Ek.entry{b X d g f}(h:Ek b X d g f)(e):Ek b X (D3 d (Xg b e)) g (e::f):=by
 refine ⟨GE _ _ h.sorted,fun x=>?_,?_⟩
 ·rw [Iz,h.i7];constructor
  ·rintro (q | ⟨r,a,q⟩ | ⟨r,a,q⟩)
   ·exact .inr ⟨e,cS ..,q⟩
   ·exact .inl ⟨r,a,q⟩
   ·exact .inr ⟨r,bN _ a,q⟩
  ·rintro (⟨r,a,q⟩ | ⟨r,a,q⟩)
   ·exact .inr (.inl ⟨r,a,q⟩)
   ·rcases cM.1 a with c | c
    ·subst c;exact .inl q
    ·exact .inr (.inr ⟨r,c,q⟩)
 ·have:=Kz (Xg b e) d;have:=h.len;simp only [aX];omega
def DD(v:Vl):Int:=if v.kind=0 then 0 else if v.kind=1 then -(v.y6:Int)-1 else (v.y6:Int)+1
def VT(i:Nat)(t:Tg):Int:=if t.kind=1 then (i:Int)-t.Yk else -1
def XY(t:Tg):Int:=if t.kind=1 then t.Yk else 0
def Tb(a:List ByteArray)(X:List XF)(i:Nat)(c:Cl):List Value:=[.string (MZ a X c.nm),.int .i64 (DD c.v),.int .i64 (VT i c.nm),.int .i64 (XY c.nm)]
def Jb(a:List ByteArray)(X:List XF)(m:List Cl):List Value:=(m.mapIdx (Tb a X)).flatten
theorem Xw(a:List ByteArray)(X:List XF)(m:List Cl):∀c,c∈m.mapIdx (Tb a X)→c.length=4:=by intro c b;obtain ⟨i,d,rfl⟩:=bS.1 b;rw [List.getElem_mapIdx];rfl
theorem QT(a X m){i j}(b:i<m.length)(c:j<4):(Jb a X m)[i*4+j]? =(Tb a X i m[i])[j]? :=by unfold Jb;rw [BN (Xw a X m) (by simpa using b) c,List.getElem_mapIdx]
theorem Ud(a X m){i}(b:i<m.length)(v):(Jb a X m).set (i*4+1) (.int .i64 (DD v))=Jb a X (m.set i ⟨m[i].nm,v⟩):=by
 unfold Jb;rw [DS (Xw a X m) (by simpa using b) (by decide)];congr 1;apply cO
 ·simp
 ·intro k c d;simp only [List.getElem_set,List.getElem_mapIdx];split
  ·rename_i e;subst e;rfl
  ·rfl
theorem Uc(a X m l):Jb a X (m++l)=Jb a X m++(l.mapIdx (fun i=>Tb a X (i+m.length))).flatten:=by unfold Jb;rw [List.mapIdx_append,List.flatten_append]
theorem RO(a X m c):Jb a X (m++[c])=Jb a X m++Tb a X m.length c:=by rw [Uc];simp
def RX(c B:Nat)(w:World)(k:Nat):Prop:=k=c∨(B≤k∧∃a b,w.heap[k]? =some (.cells a 123 b))
def Be(a B:Nat)(w b:World):Prop:=Ab (RX a B w) w b
theorem Be.refl(a B w):Be a B w w:=Ab.refl _ _
theorem Be.trans{f B:Nat}{a b c:World}(h:Be f B a b)(k:Be f B b c):Be f B a c:=by
 refine ⟨k.os.trans h.os,k.tape.trans h.tape,k.output.trans h.output,bJ h.size k.size,fun i g d=>?_⟩;have e:=h.block i g d;rw [k.block i (bL g h.size) ?_,e];rintro (q | ⟨m,j,l,q⟩)
 ·exact d (.inl q)
 ·rw [e] at q;exact d (.inr ⟨m,j,l,q⟩)
theorem Be.Yu{c B a b}(h:Ab (fun k=>k=c) a b):Be c B a b:=h.mono (fun _ _ q=>.inl q)
theorem Be.s8{c B a b}(h:Ab (fun _=>False) a b):Be c B a b:=h.mono (fun _ _ q=>q.elim)
theorem Be.l9{e B b c t w f}(h:Be e B w f)(d:Ar b c t w)(g:b≠e)(i:t≠123):Ar b c t f:=by
 refine d.f8 h ?_;rintro (q | ⟨_,j,k,q⟩)
 ·exact g q
 ·have a:w.heap[b]? =_:=d;rw [q] at a;simp only [bA,bH] at a;exact i a.2.1.symm
theorem Be.row{d B b e f v n i w g}(h:Be d B w g)(p:w.ownsRow b e f v n i){j}(o:Ar d j 39 w)(l:e≠39)(m:e≠123):g.ownsRow b e f v n i:=by
 refine Am p h ?_;rintro k r t (q | ⟨_,s,u,q⟩) c
 ·subst q;have a:w.heap[k]? =_:=o;rw [c] at a;simp only [bA,bH] at a;exact l a.2.1
 ·rw [c] at q;simp only [bA,bH] at q;exact m q.2.1
structure Ls(pb B:Nat)(U:Nat→Prop)(fv sv:Value)(rf:List RF)(fs:List FS)(pl ca:Nat)(w:World):Prop where
 pr:Cr pb fv sv pl ca w
 fn:Cp B w fv rf
 st:BA B U w sv fs
theorem Ls.ZY{l B n m u o}{U:Nat→Prop}{s x v r w y}(h:Ls l B U s x v r u o w)(f:Be m n w y){z}(D:Ar m z 39 w):Ls l B U s x v r u o y:=by
 have d:∀(k:Nat) (b:Array Value) (t:TypeId) (c:Nat×Nat),RX m n w k→w.heap[k]? =some (.cells b t c)→t=39∨t=123:=by
  rintro k b t c (q | ⟨_,L,M,q⟩) a
  ·subst q;have g:w.heap[k]? =_:=D;rw [a] at g;simp only [bA,bH] at g;exact .inl g.2.1
  ·rw [a] at q;simp only [bA,bH] at q;exact .inr q.2.1
 refine ⟨h.pr.l9.f8 f (fun q=>?_),h.fn.f8 f (fun k a q=>?_) (fun k b t c q a=>?_),?_⟩
 ·have:=d l _ _ _ q h.pr;revert this;decide
 ·obtain ⟨p,j,_⟩:=h.fn;rcases j.2 with ⟨I,_⟩ | ⟨N,J,K,H,_,E,_⟩
  ·rw [I] at a;simp [Value.ownBlock] at a
  ·rw [H] at a;simp [Value.ownBlock] at a;subst a;have:=d _ _ _ _ q E;revert this;decide
 ·rcases d k b t c q a with e | e<;>(rw [e];decide)
 ·obtain ⟨p,j,F,G⟩:=h.st;refine ⟨p,Am j f (fun k b c q a=>?_),F,fun i A C=>(G i A C).f8 f (fun k b t c q a=>?_)⟩
  ·have:=d k b _ c q a;revert this;decide
  ·rcases d k b t c q a with e | e<;>(rw [e];decide)
def F7(d:Nat)(b:Value)(a:ByteArray)(S:RS)(c:Value):Array Value:=
 #[.pointer (some ⟨d,0,none⟩),b,.string a,.int .i64 S.left,.int .i64 S.m8,.int .i64 S.Yl,.int .i64 S.Yi,c,.int .i64 (DD S.YA)]
structure Dk(rb pb B:Nat)(fn:List ByteArray)(X:List XF)(S:RS)(mv nv:Value)(ch:ByteArray)(seen:List ByteArray)(w:World):Prop where
 l9:Ar rb (F7 pb mv ch S nv) 39 w
 Yz:ch.data.toList=S.c.ch
 i7:w.ownsRow B 123 4 mv S.c.i7.length (Jb fn X S.c.i7)
 row:AB B w nv seen
 sn:Ek fn X seen S.c.Ys S.c.Yr
 lb:B≤rb
def A7(f e B:Nat)(b:List ByteArray)(X:List XF)(S:RS)(w:World):Prop:=∃c d a g,Dk f e B b X S c d a g w
abbrev WC(v:Vl):Value:=.agg #[.int .i64 v.kind,.int .i64 v.y6]
def Pk(c:Cl):List Value:=[.int .i64 c.nm.kind,.int .i64 c.nm.Yj,.int .i64 c.nm.Yk,.int .i64 c.v.kind,.int .i64 c.v.y6]
def Ta(m:List Cl):List Value:=(m.map Pk).flatten
def TT(f:Hi):List Value:=[.int .i64 f.fn,.int .i64 f.base,.int .i64 f.i8,.int .i64 f.answer]
def Nd(l:List Hi):List Value:=(l.reverse.map TT).flatten
theorem XX(m:List Cl):∀c,c∈m.map Pk→c.length=5:=by intro c a;obtain ⟨i,_,rfl⟩:=cG.1 a;rfl
theorem X8(m:List Hi):∀c,c∈m.map TT→c.length=4:=by intro c a;obtain ⟨i,_,rfl⟩:=cG.1 a;rfl
theorem WK(m){i j}(a:i<m.length)(b:j<5):(Ta m)[i*5+j]? =(Pk m[i])[j]? :=by unfold Ta;rw [BN (XX m) (by simpa using a) b,cH]
theorem Tx(m c):Ta (m++[c])=Ta m++Pk c:=by unfold Ta;simp
theorem Pt(l){i j}(b:i<l.length)(a:j<4):(Nd l)[(l.length-1-i)*4+j]? =(TT l[i])[j]? :=by unfold Nd;rw [BN (X8 l.reverse) (by simp;omega) a,cH,List.getElem_reverse];congr 3;omega
theorem Im(l f):Nd (f::l)=Nd l++TT f:=by unfold Nd;simp
theorem VK(m){i}(a:i<m.length)(v):((Ta m).set (i*5+3) (.int .i64 v.kind)).set (i*5+4) (.int .i64 v.y6)=Ta (m.set i ⟨m[i].nm,v⟩):=by
 unfold Ta;rw [DS (XX m) (by simpa using a) (by decide),DS (i:=i) ?_ (by simpa using a) (by decide)]
 ·congr 1;apply cO
  ·simp
  ·intro k d f;simp only [List.getElem_set,cH];split
   ·rename_i e;subst e;simp [Pk]
   ·rename_i e;rfl
 ·intro c b;obtain ⟨k,g,rfl⟩:=bS.1 b;rw [List.getElem_set];split
  ·rw [cY];simp [Pk]
  ·rw [cH];rfl
def MX(d e b B:Nat)(w:World)(k:Nat):Prop:=k=d∨k=e∨k=b∨(B≤k∧∃a t c,w.heap[k]? =some (.cells a t c)∧(t=151∨t=143))
def Ci(b c a B:Nat)(w d:World):Prop:=Ab (MX b c a B w) w d
theorem Ci.refl(b c a B w):Ci b c a B w w:=Ab.refl _ _
theorem Ci.trans{g j f B:Nat}{a b c:World}(h:Ci g j f B a b)(k:Ci g j f B b c):Ci g j f B a c:=by
 refine ⟨k.os.trans h.os,k.tape.trans h.tape,k.output.trans h.output,bJ h.size k.size,fun i l d=>?_⟩;have e:=h.block i l d;rw [k.block i (bL l h.size) ?_,e];rintro (q | q | q | ⟨o,m,t,n,q,r⟩)
 ·exact d (.inl q)
 ·exact d (.inr (.inl q))
 ·exact d (.inr (.inr (.inl q)))
 ·rw [e] at q;exact d (.inr (.inr (.inr ⟨o,m,t,n,q,r⟩)))
theorem Ci.s8{d e c B a b}(h:Ab (fun _=>False) a b):Ci d e c B a b:=h.mono (fun _ _ q=>q.elim)
def Iy(e:Value)(f i b:Nat)(a:ByteArray)(g j:Value)(d h c:Nat):Array Value:=
 #[e,.int .i64 f,.int .i64 i,.int .i64 b,.string a,g,j,.int .i64 d,.map (some h),.map (some c)]
structure CD(mb pm em B:Nat)(fv:Value)(mn pn cn:Nat)(m:Mc)(mv rv:Value)(ch:ByteArray)(w:World):Prop where
 l9:Ar mb (Iy fv mn pn cn ch mv rv m.Yi pm em) 84 w
 Yz:ch.data.toList=m.c.ch
 i7:w.ownsRow B 151 5 mv m.c.i7.length (Ta m.c.i7)
 Yw:w.ownsRow B 143 4 rv m.u8.length (Nd m.u8)
 Ys:DM 163 UX pm m.c.Ys w
 Yr:DM 166 TI em m.c.Yr w
 lb:B≤mb
 ne:pm≠em
def CM(e h c B:Nat)(d:Value)(f i b:Nat)(m:Mc)(w:World):Prop:=∃g j a,CD e h c B d f i b m g j a w
theorem CD.p6{f j d B g k c e i l m b w n}(h:CD f j d B e g k c m i l b w)(a:Ab (fun _=>False) w n):CD f j d B e g k c m i l b n:=
 ⟨h.l9.f8 a (fun q=>q),h.Yz,Ac h.i7 a (fun _ _ q=>q),Ac h.Yw a (fun _ _ q=>q),h.Ys.f8 a (fun q=>q),h.Yr.f8 a (fun q=>q),h.lb,h.ne⟩
theorem CM.p6{d f b B e g a c m w i}(h:CM d f b B c e g a m w)(k:Ab (fun _=>False) w i):CM d f b B c e g a m i:=by obtain ⟨l,n,j,h⟩:=h;exact ⟨l,n,j,h.p6 k⟩
theorem CD.Y3{d e c B B' s v g j u x m f w}(h:CD d e c B j s v g m u x f w){k i t l}(b:w.heap[k]? =some (.cells i t l))(n:t≠84)(o:t≠151)(p:t≠143):¬MX d e c B' w k:=by
 rintro (q | q | q | ⟨_,y,A,z,q,r⟩)
 ·subst q;have a:=h.l9;unfold Ar at a;rw [b] at a;simp only [bA,bH] at a;exact n a.2.1
 ·exact h.Ys.ne b q.symm
 ·exact h.Yr.ne b q.symm
 ·rw [b] at q;simp only [bA,bH] at q;rw [←q.2.1] at r;exact r.elim o p
theorem Ci.l9{e f c B p q i b j m a t w g}(o:Ci e f c B w g)(h:CM e f c B j p q i m w)(d:Ar b a t w)(k:t≠84)(l:t≠151)(n:t≠143):Ar b a t g:=by obtain ⟨s,u,r,h⟩:=h;exact d.f8 o (h.Y3 d k l n)
theorem Ci.row{c d b B a x y j l m e f v n i w g}(s:Ci c d b B w g)(h:CM c d b B l x y j m w)(u:w.ownsRow a e f v n i)(o:e≠84)(p:e≠151)(r:e≠143):g.ownsRow a e f v n i:=by obtain ⟨D,E,z,h⟩:=h;exact Am u s (fun k A C q t=>h.Y3 t o p r q)
theorem CD.wrote{a d b B g l e f j n m m' o ch' w}(h:CD a d b B f g l e m j n o w)(i x)(p:Iy f g l e ch' j n m'.Yi d b=(Iy f g l e o j n m.Yi d b).setIfInBounds i x)(r:ch'.data.toList=m'.c.ch)(u:m'.c.i7=m.c.i7)(v:m'.c.Ys=m.c.Ys)(s:m'.c.Yr=m.c.Yr)(t:m'.u8=m.u8):
 CD a d b B f g l e m' j n ch' (w.setCell ⟨a,i,none⟩ x)∧Ci a d b B w (w.setCell ⟨a,i,none⟩ x):=by
 have c:Ab (fun k=>k=a) w (w.setCell ⟨a,i,none⟩ x):=(Ab.refl _ _).p7 i _;refine ⟨⟨by rw [p];exact h.l9.set i x,r,?_,?_,?_,?_,h.lb,h.ne⟩,c.mono (fun _ _ q=>.inl q)⟩
 ·rw [u];exact Ac h.i7 c (Ap h.i7 h.l9 (by decide))
 ·rw [t];exact Ac h.Yw c (Ap h.Yw h.l9 (by decide))
 ·rw [v];exact h.Ys.f8 c (h.Ys.ne h.l9)
 ·rw [s];exact h.Yr.f8 c (h.Yr.ne h.l9)
def Mc.hold(m:Mc)(c:Nat)(v:Vl):Mc:={m with c:={m.c with i7:=m.c.i7.set c ⟨(Ak m.c.i7 c).nm,v⟩}}
theorem CD.hold{b j d B u x r g n p s l m o w}(h:CD b j d B s u x r m (.slice (some ⟨g,0,none⟩) n p) l o w){c}(t:c<m.c.i7.length)(v):
 CD b j d B s u x r (m.hold c v) (.slice (some ⟨g,0,none⟩) n p) l o ((w.setCell ⟨g,c*5+3,none⟩ (.int .i64 v.kind)).setCell ⟨g,c*5+3+1,none⟩ (.int .i64 v.y6))∧Ci b j d B w ((w.setCell ⟨g,c*5+3,none⟩ (.int .i64 v.kind)).setCell ⟨g,c*5+3+1,none⟩ (.int .i64 v.y6)):=by
 have F:=Ah h.i7;subst F;obtain ⟨y,f⟩:=BO h.i7;have C:g≠b:=Ap h.i7 h.l9 (by decide) g rfl;have D:∀k,l.ownBlock=some k→k≠g:=Ap h.Yw f (by decide);have z:=(h.i7.lt g rfl).1;have a:Ab (fun k=>k=g) w ((w.setCell ⟨g,c*5+3,none⟩ (.int .i64 v.kind)).setCell ⟨g,c*5+3+1,none⟩ (.int .i64 v.y6)):=((Ab.refl _ _).p7 _ _).p7 _ _;have A:Ci b j d B w ((w.setCell ⟨g,c*5+3,none⟩ (.int .i64 v.kind)).setCell ⟨g,c*5+3+1,none⟩ (.int .i64 v.y6)):=a.mono (fun k _ q=>by subst q;exact .inr (.inr (.inr ⟨z,y,_,_,f,.inl rfl⟩)));have i:=((h.i7.stored (c*5+3) (.int .i64 v.kind)).1.stored (c*5+3+1) (.int .i64 v.y6)).1;have e:=VK m.c.i7 t v;rw [←AV t] at e;have i:World.ownsRow _ B 151 5 _ m.c.i7.length (((Ta m.c.i7).set (c*5+3) (.int .i64 v.kind)).set (c*5+4) (.int .i64 v.y6)):=i;rw [e] at i;have E:(m.hold c v).c.i7.length=m.c.i7.length:=by simp [Mc.hold]
 refine ⟨⟨h.l9.f8 a (fun q=>C q.symm),h.Yz,?_,Ac h.Yw a D,h.Ys.f8 a (h.Ys.ne f),h.Yr.f8 a (h.Yr.ne f),h.lb,h.ne⟩,A⟩;rw [E];exact i
theorem CD.cell{d s l B r t k g n i o u m f w}(h:CD d s l B o r t k m (.slice (some ⟨g,0,none⟩) n i) u f w){c}(a:c<m.c.i7.length):
 (∀j,j<5→w.cell? ⟨g,c*5+j,none⟩=(Pk (Ak m.c.i7 c))[j]?)∧(∀j,w.frozen? ⟨g,j,none⟩=false)∧n=m.c.i7.length∧g<w.heap.size∧g≠d:=by
 have q:=Ah h.i7;subst q;obtain ⟨v,b⟩:=BO h.i7;refine ⟨fun j p=>?_,fun j=>Aw b j,rfl,Ae b,Ap h.i7 h.l9 (by decide) g rfl⟩;have e:=h.i7.cellAt (c*5+j) (by omega);rw [e,WK m.c.i7 a p,AV a]
end Go.Proofs.YthppbgndiplgnaaGreatDoor

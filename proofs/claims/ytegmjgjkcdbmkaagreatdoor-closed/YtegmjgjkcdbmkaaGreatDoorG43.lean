/- One of the texts of the proof: MbF RuA. -/
import Derived.Test.YtegmjgjkcdbmkaaGreatDoorG44
import Derived.Test.YtegmjgjkcdbmkaaGreatDoorG21
set_option maxRecDepth 100000
set_option maxHeartbeats 1000000
namespace Go.Proofs.YtegmjgjkcdbmkaaGreatDoor
open Go.RowKit
abbrev Wa:ByteArray:=⟨#[48,49,50,51,52,53,54,55,56,57]⟩
theorem RN:∀n:Nat,n<10→(Wa.extract n (n+1)).data.toList=[UInt8.ofNat (48+n)]:=by decide+kernel
theorem TQ(r:Nat)(h:r<10)(W:World):(Instr.sliceAt 9 (.string Wa) (some (.int .i64 (r:Int))) (some (.int .i64 ((r:Int)+1))) none).run Tryz.prog W=.ok (.string (Wa.extract r (r+1))) W:=by
 have e:r=0∨r=1∨r=2∨r=3∨r=4∨r=5∨r=6∨r=7∨r=8∨r=9:=by omega
 rcases e with rfl | rfl | rfl | rfl | rfl | rfl | rfl | rfl | rfl | rfl<;>(show _=_)<;>kernel_rfl
def Yw(l:List UInt8):Nat:=l.foldl (fun a d=>10*a+(d.toNat-48)) 0
theorem Rb:∀n:Nat,Yw (Lib.decDigits n)=n:=by
 intro n;induction n using Nat.strongRecOn with
 | _ n b=>
   have a:∀d:Nat,d<10→(UInt8.ofNat (48+d)).toNat=48+d:=by decide
   rw [Lib.decDigits];split
   ·rename_i h;simp only [Yw,List.foldl_cons,List.foldl_nil];rw [a n h];omega
   ·rename_i h;have e:=b (n / 10) (by omega);unfold Yw at e⊢;rw [List.foldl_append,e];simp only [List.foldl_cons,List.foldl_nil];rw [a (n % 10) (by omega)];omega
theorem Q9{a b}(h:Lib.decDigits a=Lib.decDigits b):a=b:=by rw [←Rb a,←Rb b,h]
theorem PC{c:UInt8}:∀{a e b d:List UInt8},c∉a→c∉e→a++[c]++b=e++[c]++d→a=e∧b=d
 | [],[],b,d,_,_,h=>by simpa using h
 | [],y::e,b,d,_,g,h=>by simp at h;exact absurd h.1 (fun q=>g (by simp [q]))
 | x::a,[],b,d,f,_,h=>by simp at h;exact absurd h.1 (fun q=>f (by simp [q]))
 | x::a,y::e,b,d,f,g,h=>by simp only [List.cons_append,List.cons.injEq] at h;obtain ⟨i,j⟩:=PC (fun q=>f (List.mem_cons_of_mem _ q)) (fun q=>g (List.mem_cons_of_mem _ q)) h.2;exact ⟨by rw [h.1,i],j⟩
theorem Rq{b}(h:Ud b){c}(a:c.toNat<97):c∉b.data.toList:=fun q=>by have:=h c q;omega
theorem Ra(n){c}(a:c.toNat<48∨57<c.toNat):c∉Lib.decDigits n:=fun q=>by have:=Q8 n c q;omega
theorem Km{a b:ByteArray}(h:a.data.toList=b.data.toList):a=b:=by cases a;cases b;simp only at h;have:=Array.toList_inj.1 h;subst this;rfl
theorem OR{P}(h:NmP P)(t):∃x l,GQ P t=x::l∧(t.kind=1→48≤x.toNat∧x.toNat≤57)∧(t.kind=2→x=64)∧(t.kind≠1→t.kind≠2→x.toNat=46∨97≤x.toNat):=by
 unfold GQ;split
 ·rename_i c;obtain ⟨x,l,e,f⟩:=UN t.aV;exact ⟨x,l++[46]++Lib.decDigits t.aX,by rw [e];simp,fun _=>f,fun q=>by omega,fun q=>absurd c q⟩
 ·rename_i b;split
  ·rename_i a;exact ⟨64,_,rfl,fun q=>absurd q b,fun _=>rfl,fun _ q=>absurd a q⟩
  ·rename_i a;cases d:(Ap P t.aV).name.data.toList with
   | nil=>exact ⟨46,_,rfl,fun q=>absurd q b,fun q=>absurd q a,fun _ _=>.inl rfl⟩
   | cons x l=>exact ⟨x,_,rfl,fun q=>absurd q b,fun q=>absurd q a,fun _ _=>.inr (h.nl t.aV x (by rw [d];simp))⟩
theorem Vm{l:List ByteArray}(h:l.Nodup){i j:Nat}(a:i<l.length)(b:j<l.length)(e:l[i]=l[j]):i=j:=by
 have c:=List.pairwise_iff_getElem.1 h;rcases Nat.lt_trichotomy i j with q | q | q
 ·exact absurd e (c i j a b q)
 ·exact q
 ·exact absurd e.symm (c j i b a q)
theorem XE{P}(h:NmP P){s t}(J:Kh P s)(K:Kh P t)(e:GQ P s=GQ P t):s=t:=by
 obtain ⟨x,l,p,A,B,C⟩:=OR h s;obtain ⟨y,m,q,D,E,F⟩:=OR h t;rw [p,q] at e;have G:x=y:=by simpa using (List.cons.inj e).1
 subst G;have e:GQ P s=GQ P t:=by rw [p,q];exact e
 have L:(64:UInt8).toNat=64:=by decide
 rcases J with ⟨a,f,c⟩ | ⟨a,f,c⟩ | ⟨a,f,c⟩<;>rcases K with ⟨b,g,d⟩ | ⟨b,g,d⟩ | ⟨b,g,d⟩
 ·unfold GQ at e;rw [if_neg (by omega),if_neg (by omega),if_neg (by omega),if_neg (by omega)] at e;obtain ⟨j,k⟩:=PC (Rq (h.nl _) (by decide)) (Rq (h.nl _) (by decide)) e;have i:=h.inj _ _ f g (Km j);obtain ⟨u,o,r⟩:=s;obtain ⟨w,z,v⟩:=t;simp only at*;subst i a b;have n:=Km k;unfold QE at n;rw [List.getElem?_eq_getElem c,List.getElem?_eq_getElem d] at n;have:=Vm (h.dD o) c d n;subst this;rfl
 ·have:=C (by omega) (by omega);have:=D b;omega
 ·have:=C (by omega) (by omega);have:=E b;subst this;omega
 ·have:=F (by omega) (by omega);have:=A a;omega
 ·unfold GQ at e;rw [if_pos a,if_pos b] at e;obtain ⟨j,k⟩:=PC (Ra _ (by decide)) (Ra _ (by decide)) e;have H:=Q9 j;have I:=Q9 k;obtain ⟨u,o,r⟩:=s;obtain ⟨w,z,v⟩:=t;simp only at*;subst H I a b;rfl
 ·have:=A a;have:=E b;subst this;omega
 ·have:=F (by omega) (by omega);have:=B a;subst this;omega
 ·have:=D b;have:=B a;subst this;omega
 ·unfold GQ at e;rw [if_neg (by omega),if_pos a,if_neg (by omega),if_pos b] at e;have i:=h.inj _ _ f g (Km (List.cons.inj e).2);obtain ⟨u,o,r⟩:=s;obtain ⟨w,z,v⟩:=t;simp only at*;subst i a b c d;rfl
theorem YJ{a b:List UInt8}(h:(⟨a.toArray⟩:ByteArray)=⟨b.toArray⟩):a=b:=by have:=congrArg (fun x:ByteArray=>x.data.toList) h;simpa using this
end Go.Proofs.YtegmjgjkcdbmkaaGreatDoor

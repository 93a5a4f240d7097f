/- One of the texts of the proof: MaA MaE MaI. -/
import Derived.Test.YtegmjgjkcdbmkaaGreatDoorG12
import Derived.DeepKeys4
set_option maxRecDepth 100000
set_option maxHeartbeats 4000000
namespace Go.Proofs.YtegmjgjkcdbmkaaGreatDoor
open Go.RowKit Go.Maps
def Zc(t:Tg):Prop:=t.kind≤2∧t.aV≤200000∧t.aX≤200000
theorem Fe{w:World}{B:Nat}{e:TypeId}{s:Nat}{v:Value}{n:Nat}{i:List Value}(h:w.ownsRow B e s v n i){k:Nat}(a:v.ownBlock=some k):B≤k∧∃b c,w.heap[k]? =some (.cells b e c):=by
 refine ⟨(h.lt k a).1,?_⟩;rcases h.2 with ⟨g,_⟩ | ⟨m,j,l,f,_,d,_⟩
 ·rw [g] at a;simp [Value.ownBlock] at a
 ·rw [f] at a;simp [Value.ownBlock] at a;subst a;exact ⟨_,_,d⟩
structure Z7(P:List PFn)(f:PFn)(s:AY):Prop where
 kind:s.kind≤12
 tg:s.kind≠0→s.kind≠10→s.kind≠11→s.kind≠12→s.aQ<f.l8.length
 sr:s.kind=2∨s.kind=3∨s.kind=5∨s.kind=6∨s.kind=8∨s.kind=9∨s.kind=10→s.r9<f.l8.length
 func:s.kind=4∨s.kind=7→s.r9<P.length
 many:s.kind=7→(Ap P s.r9).i8=s.args.length
 args:∀a,a∈s.args→a<f.l8.length
 bA:s.args.length≤4000
 field:s.field≤3
 m9:s.m9≤4000
 next:s.next≤f.b9.length
 taken:s.taken≤f.b9.length
 t5:s.aQ≤5000
 s5:s.r9≤5000
structure Ms(P:List PFn):Prop where
 bA:P.length≤4001
 l8:∀i,(Ap P i).l8.length≤12
 bX:∀i,(Ap P i).i8≤(Ap P i).l8.length
 many:∀i,(Ap P i).b9.length≤4001
 ok:∀i,i<P.length→∀s,s∈(Ap P i).b9→Z7 P (Ap P i) s
end Go.Proofs.YtegmjgjkcdbmkaaGreatDoor

/- Part of the proof: MaA MaE MaI. -/
import Derived.Test.YtaningfhibkemaaGreatDoorG17
import Derived.DeepKeys4
set_option maxRecDepth 100000
set_option maxHeartbeats 4000000
namespace Go.Proofs.YtaningfhibkemaaGreatDoor
open Go.RowKit Go.Maps Go.Proofs.Tryz
def Z8(t:Tg):Prop:=t.kind<=2/\t.cP<=200000/\t.cT<=200000
theorem Cu{w:World}{B:Nat}{e:TypeId}{s:Nat}{v:Value}{n:Nat}{i:List Value}(h:w.ownsRow B e s v n i){k:Nat}(a:v.ownBlock=some k):B<=k/\∃b c,w.heap[k]? =some (.cells b e c):=by
 refine⟨(h.lt k a).1,?_⟩;rcases h.2 with⟨g,_⟩|⟨m,j,l,f,_,d,_⟩
 .rw[g]at a;simp[Value.ownBlock]at a
 .rw[f]at a;simp[Value.ownBlock]at a;subst a;exact⟨_,_,d⟩
structure Z7(P:List PFn)(f:PFn)(s:Bb):Prop where
 kind:s.kind<=12
 tg:s.kind≠0->s.kind≠10->s.kind≠11->s.kind≠12->s.cO<f.t8.length
 sr:s.kind=2\/s.kind=3\/s.kind=5\/s.kind=6\/s.kind=8\/s.kind=9\/s.kind=10->s.cC<f.t8.length
 func:s.kind=4\/s.kind=7->s.cC<P.length
 many:s.kind=7->(As P s.cC).u9=s.args.length
 args:∀a,a∈s.args->a<f.t8.length
 cR:s.args.length<=4000
 field:s.field<=3
 cA:s.cA<=4000
 next:s.next<=f.r9.length
 taken:s.taken<=f.r9.length
 t5:s.cO<=5000
 s5:s.cC<=5000
structure NR(P:List PFn):Prop where
 cR:P.length<=4001
 t8:∀i,(As P i).t8.length<=12
 dX:∀i,(As P i).u9<=(As P i).t8.length
 many:∀i,(As P i).r9.length<=4001
 ok:∀i,i<P.length->∀s,s∈(As P i).r9->Z7 P (As P i) s

/- Part of the proof: MaA MaE MaI. -/
import Derived.Test.YtaningfhibkemaaGreatDoorG13
import Derived.DeepKeys4
set_option maxRecDepth 100000
set_option maxHeartbeats 4000000
namespace Go.Proofs.YtaningfhibkemaaGreatDoor
open Go.RowKit Go.Maps Go.Proofs.Tryz
open Option renaming none->Z,some->T
open Value renaming int->G,slice->Y
open IntKind renaming i64->A
def aJ(t:Tg):Prop:=t.kind<=2/\t.cZ<=200000/\t.dE<=200000
theorem CB{w:World}{B:Nat}{e:TypeId}{s:Nat}{v:Value}{n:Nat}{i:List Value}(h:w.ownsRow B e s v n i){k:Nat}(a:v.ownBlock=T k):B<=k/\∃b c,w.heap[k]? =T (.cells b e c):=by
 refine⟨(h.lt k a).1,?_⟩;rcases h.2 with⟨g,_⟩|⟨m,j,l,f,_,d,_⟩
 .rw[g]at a;simp[Value.ownBlock]at a
 .rw[f]at a;simp[Value.ownBlock]at a;subst a;exact⟨_,_,d⟩
structure aI(P:List PFn)(f:PFn)(s:Be):Prop where
 kind:s.kind<=12
 tg:s.kind≠0->s.kind≠10->s.kind≠11->s.kind≠12->s.cY<f.t8.length
 sr:s.kind=2\/s.kind=3\/s.kind=5\/s.kind=6\/s.kind=8\/s.kind=9\/s.kind=10->s.cM<f.t8.length
 func:s.kind=4\/s.kind=7->s.cM<P.length
 many:s.kind=7->(As P s.cM).u9=s.args.length
 args:∀a,a∈s.args->a<f.t8.length
 dC:s.args.length<=4000
 field:s.field<=3
 cK:s.cK<=4000
 next:s.next<=f.r9.length
 taken:s.taken<=f.r9.length
 t5:s.cY<=5000
 s5:s.cM<=5000
structure Oa(P:List PFn):Prop where
 dC:P.length<=4001
 t8:∀i,(As P i).t8.length<=12
 eH:∀i,(As P i).u9<=(As P i).t8.length
 many:∀i,(As P i).r9.length<=4001
 ok:∀i,i<P.length->∀s,s∈(As P i).r9->aI P (As P i) s

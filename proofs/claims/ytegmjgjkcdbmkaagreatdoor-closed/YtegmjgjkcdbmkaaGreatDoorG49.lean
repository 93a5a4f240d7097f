/- One of the texts of the proof: ClE. -/
import Derived.Test.YtegmjgjkcdbmkaaGreatDoorG48
import Derived.Test.YtegmjgjkcdbmkaaGreatDoorG41
import Derived.Test.YtegmjgjkcdbmkaaGreatDoorG47
set_option maxRecDepth 100000
namespace Go.Proofs.YtegmjgjkcdbmkaaGreatDoor
open Go.ChangeShapes Go.WideShapes Go.ChangeAt Go.RowKit
theorem Nr(b:Os)(a:Array Value):laidMetH Tryz.prog Rows.closedRow.laid ((World.doorLaid Tryz.prog 400 b).forCall (fun _ _=>0) ⟨#[],a,[]⟩).memory:=
 laidMetH_of_parts3 (fuel:=8) (laidMet_of_run' 8 (by kernel_rfl) (by kernel_rfl)) (by kernel_rfl) (by kernel_rfl)
theorem Lu(c:Os)(K:c.Started)(H:Type)(b:TypeId×Value→H):
 ReturnsInHanded {} Tryz.checked c 3 .any (fun w a=>(Rows.closedSpec.pre b Tryz.prog Tryz.f3 [] false w a∧laidMetH Tryz.prog Rows.closedRow.laid w)∧sizedMet b Tryz.prog Tryz.f3 (OpenSpec.ofChange Rows.closedSpec) false w a)
  (Rows.closedSpec.post b Tryz.prog Tryz.f3 false true false false):=by
 refine returnsInHanded_of_change_and (C:=Tryz.checked) (X:=fun w _=>laidMetH Tryz.prog Rows.closedRow.laid w) (fun _ _ _ B h=>h.of_heap B) Tryz.own K (by kernel_rfl) Tryz.func3
  (ChangeSpec.witness_shaped (enc:=b) (C:=Tryz.checked) (os:=c) (X:=fun w _=>laidMetH Tryz.prog Rows.closedRow.laid w) false (World.doorLaid Tryz.prog 400 c) #[.slice none 0 0] 8 rfl (World.shaped_of_RefB (by kernel_rfl) (by kernel_rfl)) (by kernel_rfl) (by kernel_rfl) (by kernel_rfl) (Nr c _)) ?_
 intro W s a u Q O r m _ _ y _;have o:∀(j:Nat) t v,Tryz.f3.params[j]? =some t→a[j]? =some v→Value.okWide Tryz.prog W .any s t v:=r;have f:=m;obtain ⟨p,q,l,z,rfl,R,S⟩:=m;have k:DataW.TrodAll b Tryz.prog W 0 (fun _=>true) true Tryz.f3.params.toList a.toList u p:=l;rw [Tryz.params3] at k o;obtain ⟨L,g,rfl,rfl,i⟩:=trodAll_one k;obtain ⟨rfl,rfl⟩:=trodVars_none z;obtain ⟨N,T,P,rfl⟩:=okWide_slice Tryz.underlying22 (o 0 22 L rfl rfl);obtain ⟨J,D,G⟩:=P9 rfl i;clear l r;simp only [List.append_nil] at f;have E:∀x∈p,x.block<W.heap.size:=fun x I=>by simpa using f.lt x I
 refine (Px W.heap.size W W (Xd W y) _ J D G).mono fun e M ⟨A,F⟩=>?_
 have n:=F.below (fun _ q=>q.elim);subst A;have d:Rows.closedSpec.fn H ([g]++[])={results:=[.lit (.bool true)],args:=[g]}:=rfl;refine ⟨_,rfl,_,_,_,[],p,[],f,?_,?_,by rw [d];rfl,n.frame _,fun h=>by cases h⟩
 ·rw [d];exact trodAll_mk1 (shut_bool Tryz.underlying4 true)
 ·rw [d];exact trodAll_mk1 (Below.trod Tryz.laidOut (by kernel_rfl) (of_decide_eq_true (by kernel_rfl)) i n E)
end Go.Proofs.YtegmjgjkcdbmkaaGreatDoor

/- One of the texts of the proof: OrH. -/
import Derived.Test.YtegmjgjkcdbmkaaGreatDoorG41
import Derived.Test.YtegmjgjkcdbmkaaGreatDoorG59
set_option maxRecDepth 100000
namespace Go.Proofs.YtegmjgjkcdbmkaaGreatDoor
open Go.ChangeShapes Go.WideShapes Go.ChangeAt Go.RowKit
theorem fT(b:Os)(a:Array Value):laidMetH Tryz.prog Rows.orderedRow.laid ((World.doorLaid Tryz.prog 400 b).forCall (fun _ _=>0) ⟨#[],a,[]⟩).memory:=
 laidMetH_of_parts3 (fuel:=8) (laidMet_of_run' 8 (by kernel_rfl) (by kernel_rfl)) (by kernel_rfl) (by kernel_rfl)
theorem fQ(c:Os)(S:c.Started)(H:Type)(b:TypeId×Value→H):
 ReturnsInHanded {} Tryz.checked c 6 .any (fun w a=>(Rows.orderedSpec.pre b Tryz.prog Tryz.f6 [] false w a∧laidMetH Tryz.prog Rows.orderedRow.laid w)∧sizedMet b Tryz.prog Tryz.f6 (OpenSpec.ofChange Rows.orderedSpec) false w a)
  (Rows.orderedSpec.post b Tryz.prog Tryz.f6 false true false false):=by
 refine returnsInHanded_of_change_and (C:=Tryz.checked) (X:=fun w _=>laidMetH Tryz.prog Rows.orderedRow.laid w) (fun _ _ _ I h=>h.of_heap I) Tryz.own S (by kernel_rfl) Tryz.func6
  (ChangeSpec.witness_shaped (enc:=b) (C:=Tryz.checked) (os:=c) (X:=fun w _=>laidMetH Tryz.prog Rows.orderedRow.laid w) false (World.doorLaid Tryz.prog 400 c) #[.slice none 0 0,.slice none 0 0] 8 rfl (World.shaped_of_RefB (by kernel_rfl) (by kernel_rfl)) (by kernel_rfl) (by kernel_rfl) (by kernel_rfl) (fT c _)) ?_
 intro W B a D gs a2 y u _ _ E _;have i:∀(j:Nat) t v,Tryz.f6.params[j]? =some t→a[j]? =some v→Value.okWide Tryz.prog W .any B t v:=y;have d:=u;obtain ⟨p,q,s,F,rfl,a5,a6⟩:=u;have r:DataW.TrodAll b Tryz.prog W 0 (fun _=>true) true Tryz.f6.params.toList a.toList D p:=s;rw [Tryz.params6] at r i;obtain ⟨T,U,l,m,z,A,rfl,rfl,rfl,n,o⟩:=trodAll_two r;obtain ⟨rfl,rfl⟩:=trodVars_none F;obtain ⟨Y,a7,a3,rfl⟩:=okWide_slice Tryz.underlying22 (i 0 22 T rfl rfl);obtain ⟨Z,a8,a4,rfl⟩:=okWide_slice Tryz.underlying37 (i 1 37 U rfl rfl);obtain ⟨Q,J,O⟩:=P9 rfl n;obtain ⟨R,M,P⟩:=fZ rfl o;clear s y;simp only [List.append_nil] at d;have K:∀x∈z,x.block<W.heap.size:=fun x k=>by simpa using d.lt x (by simp [k])
 have L:∀x∈A,x.block<W.heap.size:=fun x k=>by simpa using d.lt x (by simp [k])
 refine (fU W.heap.size W W (Xd W E) _ _ Q R J M O P).mono fun e V ⟨G,N⟩=>?_
 have g:=N.below (fun _ q=>q.elim);subst G;have f:Rows.orderedSpec.fn H ([l,m]++[])={results:=[.lit (.bool true)],args:=[l,m]}:=rfl;refine ⟨_,rfl,_,_,_,[],z++A,[],d,?_,?_,by rw [f];rfl,g.frame _,fun h=>by cases h⟩
 ·rw [f];exact trodAll_mk1 (shut_bool Tryz.underlying4 true)
 ·rw [f];exact trodAll_mk2 (Below.trod Tryz.laidOut (by kernel_rfl) (of_decide_eq_true (by kernel_rfl)) n g K) (Below.trod Tryz.laidOut (by kernel_rfl) (of_decide_eq_true (by kernel_rfl)) o g L)
end Go.Proofs.YtegmjgjkcdbmkaaGreatDoor

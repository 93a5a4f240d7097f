/- One of the texts of the proof: PrH. -/
import Derived.Test.YtegmjgjkcdbmkaaGreatDoorS42
import Derived.Test.YtegmjgjkcdbmkaaGreatDoorP09
set_option maxRecDepth 100000
namespace Go.Proofs.YtegmjgjkcdbmkaaGreatDoor
open Go.ChangeShapes Go.WideShapes Go.ChangeAt Go.RowKit
open Go.ChangeMaps (open_string shut_string)
theorem sL(b:Os)(a:Array Value):laidMetH Tryz.prog Rows.printedRow.laid ((World.doorLaid Tryz.prog 400 b).forCall (fun _ _=>0) ⟨#[],a,[]⟩).memory:=
 laidMetH_of_parts3 (fuel:=8) (laidMet_of_run' 8 (by kernel_rfl) (by kernel_rfl)) (by kernel_rfl) (by kernel_rfl)
theorem sE(c:Os)(P:c.Started)(H:Type)(b:TypeId×Value→H):
 ReturnsInHanded {} Tryz.checked c 7 .any (fun w a=>(Rows.printedSpec.pre b Tryz.prog Tryz.f7 [] false w a∧laidMetH Tryz.prog Rows.printedRow.laid w)∧sizedMet b Tryz.prog Tryz.f7 (OpenSpec.ofChange Rows.printedSpec) false w a)
  (Rows.printedSpec.post b Tryz.prog Tryz.f7 false true false false):=by
 refine returnsInHanded_of_change_and (C:=Tryz.checked) (X:=fun w _=>laidMetH Tryz.prog Rows.printedRow.laid w) (fun _ _ _ I h=>h.of_heap I) Tryz.own P (by kernel_rfl) Tryz.func7
  (ChangeSpec.witness_shaped (enc:=b) (C:=Tryz.checked) (os:=c) (X:=fun w _=>laidMetH Tryz.prog Rows.printedRow.laid w) false (World.doorLaid Tryz.prog 400 c) #[.slice none 0 0,.string ⟨#[]⟩,.int .i64 0] 8 rfl (World.shaped_of_RefB (by kernel_rfl) (by kernel_rfl)) (by kernel_rfl) (by kernel_rfl) (by kernel_rfl) (sL c _)) ?_
 intro W A a B gs Z y s _ _ r _;have d:∀(j:Nat) t v,Tryz.f7.params[j]? =some t→a[j]? =some v→Value.okWide Tryz.prog W .any A t v:=y;have g:=s;obtain ⟨p,q,o,F,rfl,a2,a3⟩:=s;have n:DataW.TrodAll b Tryz.prog W 0 (fun _=>true) true Tryz.f7.params.toList a.toList B p:=o;rw [Tryz.params7] at n d;obtain ⟨Q,R,S,l,d1,d2,z,p1,p2,rfl,rfl,rfl,m,D,E⟩:=trodAll_three n;obtain ⟨rfl,rfl⟩:=trodVars_none F;obtain ⟨k,rfl,rfl,rfl,U⟩:=open_string Tryz.underlying9 (d 1 9 R rfl rfl) D;obtain ⟨i,rfl,rfl,rfl,T⟩:=open_int Tryz.underlying3 (d 2 3 S rfl rfl) E;obtain ⟨Y,a4,a1,rfl⟩:=okWide_slice Tryz.underlying22 (d 0 22 Q rfl rfl);obtain ⟨O,J,M⟩:=P9 rfl m;clear o y;simp only [List.append_nil] at g;have K:∀x∈z,x.block<W.heap.size:=fun x N=>by simpa using g.lt x (by simp [N])
 refine (sM W.heap.size W W (Xd W r) (lF W r) _ O k i J M).mono fun e V ⟨G,L⟩=>?_
 have u:=L.below (fun _ q=>q.elim);subst G;have f:Rows.printedSpec.fn H ([l,.lit (.string k.data.toList),.lit (.int .i64 i)]++[])={results:=[.lit (.bool true)],args:=[l,.lit (.string k.data.toList),.lit (.int .i64 i)]}:=rfl;refine ⟨_,rfl,_,_,_,[],z++([]++[]),[],g,?_,?_,by rw [f];rfl,u.frame _,fun h=>by cases h⟩
 ·rw [f];exact trodAll_mk1 (shut_bool Tryz.underlying4 true)
 ·rw [f];exact trodAll_mk3 (Below.trod Tryz.laidOut (by kernel_rfl) (of_decide_eq_true (by kernel_rfl)) m u K) (shut_string Tryz.underlying9 U) (shut_int Tryz.underlying3 T)
end Go.Proofs.YtegmjgjkcdbmkaaGreatDoor

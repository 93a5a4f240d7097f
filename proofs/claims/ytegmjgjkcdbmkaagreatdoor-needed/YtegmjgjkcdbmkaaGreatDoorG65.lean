/- One of the texts of the proof: NeH. -/
import Derived.Test.YtegmjgjkcdbmkaaGreatDoorG48
import Derived.Test.YtegmjgjkcdbmkaaGreatDoorG41
import Derived.Test.YtegmjgjkcdbmkaaGreatDoorG64
set_option maxRecDepth 100000
namespace Go.Proofs.YtegmjgjkcdbmkaaGreatDoor
open Go.ChangeShapes Go.WideShapes Go.ChangeAt Go.RowKit
theorem gS(b:Os)(a:Array Value):laidMetH Tryz.prog Rows.neededRow.laid ((World.doorLaid Tryz.prog 400 b).forCall (fun _ _=>0) ⟨#[],a,[]⟩).memory:=
 laidMetH_of_parts3 (fuel:=8) (laidMet_of_run' 8 (by kernel_rfl) (by kernel_rfl)) (by kernel_rfl) (by kernel_rfl)
theorem gN(c:Os)(O:c.Started)(H:Type)(b:TypeId×Value→H):
 ReturnsInHanded {} Tryz.checked c 4 .any (fun w a=>(Rows.neededSpec.pre b Tryz.prog Tryz.f4 [] false w a∧laidMetH Tryz.prog Rows.neededRow.laid w)∧sizedMet b Tryz.prog Tryz.f4 (OpenSpec.ofChange Rows.neededSpec) false w a)
  (Rows.neededSpec.post b Tryz.prog Tryz.f4 false true false false):=by
 refine returnsInHanded_of_change_and (C:=Tryz.checked) (X:=fun w _=>laidMetH Tryz.prog Rows.neededRow.laid w) (fun _ _ _ G h=>h.of_heap G) Tryz.own O (by kernel_rfl) Tryz.func4
  (ChangeSpec.witness_shaped (enc:=b) (C:=Tryz.checked) (os:=c) (X:=fun w _=>laidMetH Tryz.prog Rows.neededRow.laid w) false (World.doorLaid Tryz.prog 400 c) #[.slice none 0 0,.int .i64 0] 8 rfl (World.shaped_of_RefB (by kernel_rfl) (by kernel_rfl)) (by kernel_rfl) (by kernel_rfl) (by kernel_rfl) (gS c _)) ?_
 intro W z a A Y T s o _ _ D _;have g:∀(j:Nat) t v,Tryz.f4.params[j]? =some t→a[j]? =some v→Value.okWide Tryz.prog W .any z t v:=s;have f:=o;obtain ⟨p,q,n,E,rfl,Z,a1⟩:=o;have m:DataW.TrodAll b Tryz.prog W 0 (fun _=>true) true Tryz.f4.params.toList a.toList A p:=n;rw [Tryz.params4] at m g;obtain ⟨P,Q,k,V,u,p1,rfl,rfl,rfl,l,B⟩:=trodAll_two m;obtain ⟨rfl,rfl⟩:=trodVars_none E;obtain ⟨i,rfl,rfl,rfl,y⟩:=open_int Tryz.underlying3 (g 1 3 Q rfl rfl) B;obtain ⟨S,a2,U,rfl⟩:=okWide_slice Tryz.underlying22 (g 0 22 P rfl rfl);obtain ⟨N,I,L⟩:=P9 rfl l;clear n s;simp only [List.append_nil] at f;have J:∀x∈u,x.block<W.heap.size:=fun x M=>by simpa using f.lt x (by simp [M])
 refine (gU W.heap.size W W (Xd W D) _ N i I L (ZJ y)).mono fun e R ⟨F,K⟩=>?_
 have r:=K.below (fun _ q=>q.elim);subst F;have d:Rows.neededSpec.fn H ([k,.lit (.int .i64 i)]++[])={results:=[.lit (.bool true)],args:=[k,.lit (.int .i64 i)]}:=rfl;refine ⟨_,rfl,_,_,_,[],u++[],[],f,?_,?_,by rw [d];rfl,r.frame _,fun h=>by cases h⟩
 ·rw [d];exact trodAll_mk1 (shut_bool Tryz.underlying4 true)
 ·rw [d];exact trodAll_mk2 (Below.trod Tryz.laidOut (by kernel_rfl) (of_decide_eq_true (by kernel_rfl)) l r J) (shut_int Tryz.underlying3 y)
end Go.Proofs.YtegmjgjkcdbmkaaGreatDoor

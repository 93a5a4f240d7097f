/- One of the texts of the proof of cut_card_holds: CuE. -/
import Derived.Test.YtegmjgjkcdbmkaaGreatDoorG09
set_option maxRecDepth 100000
namespace Go.Proofs.YtegmjgjkcdbmkaaGreatDoor
open Go.ChangeShapes Go.WideShapes Go.ChangeAt Go.RowKit
theorem I2(b:Os)(a:Array Value):laidMetH Tryz.prog Rows.cutRow.laid ((World.doorLaid Tryz.prog 400 b).forCall (fun _ _=>0) ⟨#[],a,[]⟩).memory:=
 laidMetH_of_parts3 (fuel:=8) (laidMet_of_run' 8 (by kernel_rfl) (by kernel_rfl)) (by kernel_rfl) (by kernel_rfl)
theorem FL(c:Os)(P:c.Started)(H:Type)(b:TypeId×Value→H):
 ReturnsInHanded {} Tryz.checked c 8 .any (fun w a=>(Rows.cutSpec.pre b Tryz.prog Tryz.f8 [] false w a∧laidMetH Tryz.prog Rows.cutRow.laid w)∧sizedMet b Tryz.prog Tryz.f8 (OpenSpec.ofChange Rows.cutSpec) false w a)
  (Rows.cutSpec.post b Tryz.prog Tryz.f8 false true false false):=by
 refine returnsInHanded_of_change_and (C:=Tryz.checked) (X:=fun w _=>laidMetH Tryz.prog Rows.cutRow.laid w) (fun _ _ _ J h=>h.of_heap J) Tryz.own P (by kernel_rfl) Tryz.func8
  (ChangeSpec.witness_shaped (enc:=b) (C:=Tryz.checked) (os:=c) (X:=fun w _=>laidMetH Tryz.prog Rows.cutRow.laid w) false (World.doorLaid Tryz.prog 400 c) #[.slice none 0 0,.int .i64 0,.int .i64 0] 8 rfl (World.shaped_of_RefB (by kernel_rfl) (by kernel_rfl)) (by kernel_rfl) (by kernel_rfl) (by kernel_rfl) (I2 c _)) ?_
 intro W B a D gs V u r _ _ _ _;have d:∀(j:Nat) t v,Tryz.f8.params[j]? =some t→a[j]? =some v→Value.okWide Tryz.prog W .any B t v:=u;have g:=r;obtain ⟨p,q,o,G,rfl,a1,a2⟩:=r;have n:DataW.TrodAll b Tryz.prog W 0 (fun _=>true) true Tryz.f8.params.toList a.toList D p:=o;rw [Tryz.params8] at n d;obtain ⟨Q,R,S,l,Z,d2,y,p1,p2,rfl,rfl,rfl,m,E,F⟩:=trodAll_three n;obtain ⟨rfl,rfl⟩:=trodVars_none G;obtain ⟨i,rfl,rfl,rfl,z⟩:=open_int Tryz.underlying3 (d 1 3 R rfl rfl) E;obtain ⟨k,rfl,rfl,rfl,A⟩:=open_int Tryz.underlying3 (d 2 3 S rfl rfl) F;obtain ⟨U,a3,Y,rfl⟩:=okWide_slice Tryz.underlying22 (d 0 22 Q rfl rfl);obtain ⟨O,K,M⟩:=FS rfl m;clear o u;simp only [List.append_nil] at g;have L:∀x∈y,x.block<W.heap.size:=fun x N=>by simpa using g.lt x N
 refine (J4 _ O i k W K M (J0 z) (J0 A)).mono fun e T ⟨I,s⟩=>?_
 subst I;have f:Rows.cutSpec.fn H ([l,.lit (.int .i64 i),.lit (.int .i64 k)]++[])={results:=[.lit (.bool true)],args:=[l,.lit (.int .i64 i),.lit (.int .i64 k)]}:=rfl;refine ⟨_,rfl,_,_,_,[],y++([]++[]),[],g,?_,?_,by rw [f];rfl,s.frame _,fun h=>by cases h⟩
 ·rw [f];exact trodAll_mk1 (shut_bool Tryz.underlying4 true)
 ·rw [f];exact trodAll_mk3 (Below.trod Tryz.laidOut (by kernel_rfl) (of_decide_eq_true (by kernel_rfl)) m s L) (shut_int Tryz.underlying3 z) (shut_int Tryz.underlying3 A)
end Go.Proofs.YtegmjgjkcdbmkaaGreatDoor

/- Part of the proof: LuJ. -/
import Derived.Test.YtaningfhibkemaaGreatDoorG35
import Derived.SizedLaws
import Derived.Carry
import Derived.LaidMore
import Derived.OpenShut
set_option maxRecDepth 100000
namespace Go.Proofs.YtaningfhibkemaaGreatDoor
open Go.ChangeShapes Go.WideShapes Go.ChangeAt Go.RowKit Go.Proofs.Tryz
open Go.ChangeMaps (open_string shut_string)
open Option renaming none->Z,some->T
open Value renaming int->G,slice->Y
open IntKind renaming i64->A
theorem Tryz.rown:ownKnob Tryz.prog.godebug=Z:=by kernel_rfl
theorem WY(b:Os)(a:Array Value):laidMetH prog Rows.resultsRow.laid ((World.doorLaid prog 400 b).forCall (fun _ _=>0) ⟨#[],a,[]⟩).memory:=
 laidMetH_of_parts3 (fuel:=8) (laidMet_of_run' 8 (by kernel_rfl) (by kernel_rfl)) (by kernel_rfl) (by kernel_rfl)
theorem Mu(d:Os)(I:d.Started)(H:Type)(c:TypeId×Value->H):
 ReturnsInHanded {} Tryz.checked d 3 .any (fun w b=>(Rows.resultsSpec.pre c prog Tryz.f3 [] false w b/\laidMetH prog Rows.resultsRow.laid w)/\sizedMet c prog Tryz.f3 (OpenSpec.ofChange Rows.resultsSpec) false w b)
  (Rows.resultsSpec.post c prog Tryz.f3 false true false false):=by
 refine returnsInHanded_of_change_and (C:=Tryz.checked) (X:=fun w _=>laidMetH prog Rows.resultsRow.laid w) (fun _ _ _ F h=>h.of_heap F) Tryz.rown I (by kernel_rfl) func3
  (ChangeSpec.witness_shaped (enc:=c) (C:=Tryz.checked) (os:=d) (X:=fun w _=>laidMetH prog Rows.resultsRow.laid w) false (World.doorLaid prog 400 d) #[.string ⟨#[]⟩] 8 rfl (World.shaped_of_RefB (by kernel_rfl) (by kernel_rfl)) (by kernel_rfl) (by kernel_rfl) (by kernel_rfl) (WY d _)) ?_
 intro a u b x P M r l _ _ f _;have o:∀(j:Nat) t v,Tryz.f3.params[j]? =T t->b[j]? =T v->Value.okWide prog a .any u t v:=r;have m:=l;obtain⟨p,q,k,z,rfl,Q,R⟩:=l;have i:DataW.TrodAll c prog a 0 (fun _=>true) true Tryz.f3.params.toList b.toList x p:=k;rw[Tryz.params3]at i o;obtain⟨K,N,rfl,rfl,y⟩:=trodAll_one i;obtain⟨rfl,rfl⟩:=trodVars_none z;obtain⟨s,rfl,rfl,rfl,n⟩:=open_string underlying9 (o 0 9 K rfl rfl) y;clear k r;simp only[iZ]at m;refine(QE s n a (UR a f) (WZ a f) aO (YR ZU) (QD a f).1 (QD a f).2).mono fun e L ⟨E,B⟩=>?_
 subst E;have g:Rows.resultsSpec.fn H ([.lit (.string s.data.toList)]++[])={results:=[.lit (.bool true)],args:=[.lit (.string s.data.toList)]}:=rfl;refine⟨_,rfl,_,_,_,[],[],[],m,?_,?_,by rw[g];rfl,B.frame _,fun h=>by cases h⟩
 .rw[g];exact trodAll_mk1 (shut_bool underlying4 true)
 .rw[g];exact trodAll_mk1 (shut_string underlying9 n)

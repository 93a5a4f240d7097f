/- Part of the proof: LuJ. -/
import Derived.Test.YtaningfhibkemaaGreatDoorG46
import Derived.SizedLaws
import Derived.Carry
import Derived.LaidMore
import Derived.OpenShut
set_option maxRecDepth 100000
namespace Go.Proofs.YtaningfhibkemaaGreatDoor
open Go.ChangeShapes Go.WideShapes Go.ChangeAt Go.RowKit Go.Proofs.Tryz
open Go.ChangeMaps (open_string shut_string)
theorem Tryz.rown:ownKnob Tryz.prog.godebug=none:=jW
theorem WM(b:Os)(a:Array Value):laidMetH prog Rows.resultsRow.laid ((World.doorLaid prog 400 b).forCall (fun _ _=>0) ⟨#[],a,[]⟩).memory:=
 laidMetH_of_parts3 (fuel:=8) (laidMet_of_run' 8 jW jW) jW jW
theorem Ml(d:Os)(F:d.Started)(H:Type)(c:TypeId×Value->H):
 ReturnsInHanded {} Tryz.checked d 3 .any (fun w b=>(Rows.resultsSpec.pre c prog Tryz.f3 [] false w b/\laidMetH prog Rows.resultsRow.laid w)/\sizedMet c prog Tryz.f3 (OpenSpec.ofChange Rows.resultsSpec) false w b)
  (Rows.resultsSpec.post c prog Tryz.f3 false true false false):=by
 refine returnsInHanded_of_change_and (C:=Tryz.checked) (X:=fun w _=>laidMetH prog Rows.resultsRow.laid w) (fun _ _ _ E h=>h.of_heap E) Tryz.rown F jW func3
  (ChangeSpec.witness_shaped (enc:=c) (C:=Tryz.checked) (os:=d) (X:=fun w _=>laidMetH prog Rows.resultsRow.laid w) false (World.doorLaid prog 400 d) #[.string ⟨#[]⟩] 8 rfl (World.shaped_of_RefB jW jW) jW jW jW (WM d _)) ?_
 intro a u b x M K r l _ _ f _;have o:∀(j:Nat) t v,Tryz.f3.params[j]? =some t->b[j]? =some v->Value.okWide prog a .any u t v:=r;have m:=l;obtain⟨p,q,k,z,rfl,N,P⟩:=l;have i:DataW.TrodAll c prog a 0 (fun _=>true) true Tryz.f3.params.toList b.toList x p:=k;rw[Tryz.params3]at i o;obtain⟨G,L,rfl,rfl,y⟩:=trodAll_one i;obtain⟨rfl,rfl⟩:=trodVars_none z;obtain⟨s,rfl,rfl,rfl,n⟩:=open_string underlying9 (o 0 9 G rfl rfl) y;clear k r;simp only[iP]at m;refine(Qv s n a (UH a f) (WN a f) aD (YG ZJ) (Qu a f).1 (Qu a f).2).mono fun e I ⟨B,A⟩=>?_
 subst B;have g:Rows.resultsSpec.fn H ([.lit (.string s.data.toList)]++[])={results:=[.lit (.bool true)],args:=[.lit (.string s.data.toList)]}:=rfl;refine⟨_,rfl,_,_,_,[],[],[],m,?_,?_,by rw[g];rfl,A.frame _,fun h=>by cases h⟩
 .rw[g];exact trodAll_mk1 (shut_bool underlying4 true)
 .rw[g];exact trodAll_mk1 (shut_string underlying9 n)

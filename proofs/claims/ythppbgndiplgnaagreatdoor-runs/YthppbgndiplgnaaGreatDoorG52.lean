/- For every text, all choices and any number of steps Runs returns true, and its arguments read behind the call as before it (P2, P3, P5: Run tells of every text what is wrong first, and where; of a program how its run ends, behind how many steps, and all that was seen, each once, in order of their bytes, as the document's own runner tells it; twice, the first answer's list being written full by its owner). Condition: the listed package-level variables of Go's library are laid as the program's text lays them (the card ties them). -/
import Derived.Test.YthppbgndiplgnaaGreatDoorG51
import Derived.SizedLaws
import Derived.Carry
import Derived.LaidMore
import Derived.OpenShut
import Derived.Test.YthppbgndiplgnaaGreatDoorTie
import Derived.Test.YthppbgndiplgnaaGreatDoorCards
import Derived.SevenTiedAt
set_option maxRecDepth 100000
set_option maxHeartbeats 4000000
namespace Go.Proofs.YthppbgndiplgnaaGreatDoor
open Go.ChangeShapes Go.WideShapes Go.ChangeAt Go.RowKit Go
open Go.ChangeMaps (open_string shut_string)
theorem Tryz.own:ownKnob Tryz.prog.godebug=none:=by kernel_rfl
theorem Tryz.laidOut:laidOutB Tryz.prog=true:=by kernel_rfl
theorem SD(b a):laidMetH Tryz.prog Rows.runsRow.laid ((World.doorLaid Tryz.prog 400 b).forCall (fun _ _=>0) ⟨#[],a,[]⟩).memory:=
 laidMetH_of_parts3 (fuel:=8) (laidMet_of_run' 8 (by kernel_rfl) (by kernel_rfl)) (by kernel_rfl) (by kernel_rfl)
theorem OE(d:Os)(J:d.Started)(H:Type)(b:TypeId×Value→H):
 ReturnsInHanded {} Tryz.checked d 3 .any (fun w a=>(Rows.runsSpec.pre b Tryz.prog Tryz.f3 [] false w a∧laidMetH Tryz.prog Rows.runsRow.laid w)∧sizedMet b Tryz.prog Tryz.f3 (OpenSpec.ofChange Rows.runsSpec) false w a)
  (Rows.runsSpec.post b Tryz.prog Tryz.f3 false true false false):=by
 refine returnsInHanded_of_change_and (C:=Tryz.checked) (X:=fun w _=>laidMetH Tryz.prog Rows.runsRow.laid w) (fun _ _ _ I h=>h.of_heap I) Tryz.own J (by kernel_rfl) Tryz.func3
  (ChangeSpec.witness_shaped (enc:=b) (C:=Tryz.checked) (os:=d) (X:=fun w _=>laidMetH Tryz.prog Rows.runsRow.laid w) false (World.doorLaid Tryz.prog 400 d) #[.string ⟨#[]⟩,.string ⟨#[]⟩,.int .i64 0] 8 rfl (World.shaped_of_RefB (by kernel_rfl) (by kernel_rfl)) (by kernel_rfl) (by kernel_rfl) (by kernel_rfl) (SD d _)) ?_
 intro W x a y T P u m _ _ l _;have f:∀(j:Nat) t v,Tryz.f3.params[j]? =some t→a[j]? =some v→Value.okWide Tryz.prog W .any x t v:=u;have o:=m;obtain ⟨p,q,k,D,rfl,U,V⟩:=m;have i:DataW.TrodAll b Tryz.prog W 0 (fun _=>true) true Tryz.f3.params.toList a.toList y p:=k;rw [Tryz.params3] at i f;obtain ⟨K,L,M,Q,R,S,Y,Z,p2,rfl,rfl,rfl,z,A,B⟩:=trodAll_three i;obtain ⟨rfl,rfl⟩:=trodVars_none D;obtain ⟨s,rfl,rfl,rfl,r⟩:=open_string Tryz.underlying9 (f 0 9 K rfl rfl) z;obtain ⟨c,rfl,rfl,rfl,F⟩:=open_string Tryz.underlying9 (f 1 9 L rfl rfl) A;obtain ⟨n,rfl,rfl,rfl,N⟩:=open_int Tryz.underlying3 (f 2 3 M rfl rfl) B;clear k u;simp only [cC] at o;refine (UP s c n r W (Qg W l) (SI W l)).mono fun e O ⟨G,E⟩=>?_
 subst G;have g:Rows.runsSpec.fn H ([.lit (.string s.data.toList),.lit (.string c.data.toList),.lit (.int .i64 n)]++[])={results:=[.lit (.bool true)],args:=[.lit (.string s.data.toList),.lit (.string c.data.toList),.lit (.int .i64 n)]}:=rfl;refine ⟨_,rfl,_,_,_,[],[]++([]++[]),[],o,?_,?_,by rw [g];rfl,E.frame _,fun h=>by cases h⟩
 ·rw [g];exact trodAll_mk1 (shut_bool Tryz.underlying4 true)
 ·rw [g];exact trodAll_mk3 (shut_string Tryz.underlying9 r) (shut_string Tryz.underlying9 F) (shut_int Tryz.underlying3 N)
theorem AZ{a b}(h:a=true)(k:b=true):(a && b)=true:=by rw [h,k];rfl
theorem Qf:joinedFacts Tryz.pinned.checked.prog 3 Tryz.f3 Rows.runsSpec Rows.runsRow=true:=by
 unfold joinedFacts;exact AZ (AZ (AZ (AZ (AZ (AZ (AZ (AZ (AZ (AZ (AZ (AZ (AZ (AZ (AZ (AZ (AZ (AZ (AZ (AZ (AZ (AZ (AZ (AZ (AZ (AZ (AZ (AZ (AZ (AZ (AZ
  (by as_aux_lemma=>kernel_rfl) (by as_aux_lemma=>kernel_rfl))
  (by as_aux_lemma=>kernel_rfl))
  (by as_aux_lemma=>kernel_rfl))
  (by as_aux_lemma=>kernel_rfl))
  (by as_aux_lemma=>kernel_rfl))
  (by as_aux_lemma=>kernel_rfl))
  (by as_aux_lemma=>kernel_rfl))
  (by as_aux_lemma=>kernel_rfl))
  (by as_aux_lemma=>kernel_rfl))
  (by as_aux_lemma=>kernel_rfl))
  (by as_aux_lemma=>kernel_rfl))
  (by as_aux_lemma=>kernel_rfl))
  (by as_aux_lemma=>kernel_rfl))
  (by as_aux_lemma=>kernel_rfl))
  (by as_aux_lemma=>kernel_rfl))
  (by as_aux_lemma=>kernel_rfl))
  (by as_aux_lemma=>kernel_rfl))
  (by as_aux_lemma=>kernel_rfl))
  (by as_aux_lemma=>kernel_rfl))
  (by as_aux_lemma=>kernel_rfl))
  (by as_aux_lemma=>kernel_rfl))
  (by as_aux_lemma=>kernel_rfl))
  (by as_aux_lemma=>kernel_rfl))
  (by as_aux_lemma=>kernel_rfl))
  (by as_aux_lemma=>kernel_rfl))
  (by as_aux_lemma=>kernel_rfl))
  (by as_aux_lemma=>kernel_rfl))
  (by as_aux_lemma=>kernel_rfl))
  (by as_aux_lemma=>kernel_rfl))
  (by as_aux_lemma=>kernel_rfl))
  (by as_aux_lemma=>kernel_rfl)
theorem Qh:Rows.RunsSaid:=
 OpenClaim.holds_of_wide 3 Tryz.f3 rfl rfl rfl rfl rfl rfl rfl ⟨rfl,rfl,rfl,rfl,rfl⟩ rfl rfl rfl rfl rfl (by kernel_rfl) Tryz.func3 Qf
  (of_decide_eq_true (by kernel_rfl)) (by unfold Func.isWrapper;first | (rw [cU (by decide+kernel)];kernel_rfl) | (rw [cT (by decide+kernel)];exact ⟨rfl,rfl⟩))
  (fun b c H a _=>OE b c H a)
theorem runs_card_holds:Rows.RunsCardSaid:=
 Claim7.holds_tied_plain_at .later [] [.data,.data,.data,.sentinel,.sentinel] true Rows.runsCard.stood.harness true
  Qh (fun _ h=>by cases h) (by kernel_rfl) (fun _ h=>by cases h) runs_row_tie rfl ⟨rfl,rfl⟩ (by kernel_rfl) rfl
  (fun f b d e=>by
    obtain rfl:f=3:=dE ((show Tryz.prog.funcNamed "pointsman/pointsmanlaw.Runs" =some 3 by kernel_rfl).symm.trans d) |>.symm
    obtain rfl:b=Tryz.f3:=(dE (Tryz.func3.symm.trans e)).symm;exact ⟨by kernel_rfl,fun j t a=>by
     rw [Tryz.params3] at a;have g:t∈[9,9,3]:=by simpa using Array.mem_of_getElem? a
     have c:([9,9,3].all fun u=>!Tryz.prog.wantsStandIn u)=true:=by kernel_rfl
     exact (show Tryz.prog.wantsStandIn t=false by simpa using List.all_eq_true.1 c t g)⟩)
  (by kernel_rfl)
#print axioms runs_card_holds
end Go.Proofs.YthppbgndiplgnaaGreatDoor

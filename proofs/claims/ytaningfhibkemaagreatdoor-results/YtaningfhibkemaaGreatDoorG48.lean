/- Part of the proof: LuK. -/
import Derived.Test.YtaningfhibkemaaGreatDoorG47
set_option maxHeartbeats 4000000
namespace Go.Proofs.YtaningfhibkemaaGreatDoor
open Go.ChangeShapes Go.WideShapes Go.ChangeAt Go.RowKit Go.Proofs.Tryz
open Go.ChangeMaps (open_string shut_string)
theorem AV{a b:Bool}(h:a=true)(k:b=true):(a && b)=true:=by rw[h,k];rfl
theorem MS:joinedFacts Tryz.pinned.checked.prog 3 Tryz.f3 Rows.resultsSpec Rows.resultsRow=true:=by
 unfold joinedFacts;exact AV (AV (AV (AV (AV (AV (AV (AV (AV (AV (AV (AV (AV (AV (AV (AV (AV (AV (AV (AV (AV (AV (AV (AV (AV (AV (AV (AV (AV (AV (AV
  kA kA)
  kA)
  kA)
  kA)
  kA)
  kA)
  kA)
  kA)
  kA)
  kA)
  kA)
  kA)
  kA)
  kA)
  kA)
  kA)
  kA)
  kA)
  kA)
  kA)
  kA)
  kA)
  kA)
  kA)
  kA)
  kA)
  kA)
  kA)
  kA)
  kA)
  kA
theorem MT:Rows.ResultsSaid:=
 OpenClaim.holds_of_wide 3 Tryz.f3 rfl rfl rfl rfl rfl rfl rfl ⟨rfl,rfl,rfl,rfl,rfl⟩ rfl rfl rfl rfl rfl jW func3 MS
  (of_decide_eq_true jW) (by unfold Func.isWrapper;first|(rw[jH (by decide+kernel)];kernel_rfl)|(rw[jG (by decide+kernel)];exact⟨rfl,rfl⟩))
  (fun b c H a _=>Ml b c H a)

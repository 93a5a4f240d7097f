/- TxH: told at each. -/
import Derived.Test.YtgbmakpdjdigmaaGreatDoorG50
import Derived.MakeChecks

/- Texts: the row's statement, out of texts_lifted (a text of its own, its closed facts one by one: the kernel's memory). -/
namespace Go.Proofs.YtgbmakpdjdigmaaGreatDoor
open Go.ChangeShapes Go.WideShapes Go.ChangeAt Go.RowKit
open Go.ChangeMaps (open_string shut_string)

theorem and_mkT {a b : Bool} (h : a = true) (k : b = true) : (a && b) = true := by rw [h, k]; rfl

set_option maxHeartbeats 4000000 in
theorem texts_facts : joinedFacts Tryz.pinned.checked.prog 3 Tryz.f3 Rows.textsSpec Rows.textsRow = true := by
  unfold joinedFacts
  exact and_mkT (and_mkT (and_mkT (and_mkT (and_mkT (and_mkT (and_mkT (and_mkT (and_mkT (and_mkT (and_mkT (and_mkT (and_mkT (and_mkT (and_mkT (and_mkT (and_mkT (and_mkT (and_mkT (and_mkT (and_mkT (and_mkT (and_mkT (and_mkT (and_mkT (and_mkT (and_mkT (and_mkT (and_mkT (and_mkT (and_mkT
    (by as_aux_lemma => kernel_rfl) (by as_aux_lemma => kernel_rfl))
    (by as_aux_lemma => kernel_rfl))
    (by as_aux_lemma => kernel_rfl))
    (by as_aux_lemma => kernel_rfl))
    (by as_aux_lemma => kernel_rfl))
    (by as_aux_lemma => kernel_rfl))
    (by as_aux_lemma => kernel_rfl))
    (by as_aux_lemma => kernel_rfl))
    (by as_aux_lemma => kernel_rfl))
    (by as_aux_lemma => kernel_rfl))
    (by as_aux_lemma => kernel_rfl))
    (by as_aux_lemma => kernel_rfl))
    (by as_aux_lemma => kernel_rfl))
    (by as_aux_lemma => kernel_rfl))
    (by as_aux_lemma => kernel_rfl))
    (by as_aux_lemma => kernel_rfl))
    (by as_aux_lemma => kernel_rfl))
    (by as_aux_lemma => kernel_rfl))
    (by as_aux_lemma => kernel_rfl))
    (by as_aux_lemma => kernel_rfl))
    (by as_aux_lemma => kernel_rfl))
    (by as_aux_lemma => kernel_rfl))
    (by as_aux_lemma => kernel_rfl))
    (by as_aux_lemma => kernel_rfl))
    (by as_aux_lemma => kernel_rfl))
    (by as_aux_lemma => kernel_rfl))
    (by as_aux_lemma => kernel_rfl))
    (by as_aux_lemma => kernel_rfl))
    (by as_aux_lemma => kernel_rfl))
    (by as_aux_lemma => kernel_rfl))
    (by as_aux_lemma => kernel_rfl)

set_option maxHeartbeats 4000000 in
theorem texts_holds : Rows.TextsSaid :=
  OpenClaim.holds_of_wide 3 Tryz.f3 rfl rfl rfl rfl rfl rfl rfl ⟨rfl, rfl, rfl, rfl, rfl⟩ rfl rfl rfl rfl rfl (by kernel_rfl) Tryz.func3 texts_facts
    (of_decide_eq_true (by kernel_rfl)) (by unfold Func.isWrapper; first | (rw [if_pos (by decide +kernel)]; kernel_rfl) | (rw [if_neg (by decide +kernel)]; exact ⟨rfl, rfl⟩))
    (fun os started H enc _ => texts_lifted os started H enc)

end Go.Proofs.YtgbmakpdjdigmaaGreatDoor

/- TxC: told at each. -/
import Derived.Test.YtgbmakpdjdigmaaGreatDoorG51
import Derived.Test.YtgbmakpdjdigmaaGreatDoorTie
import Derived.Test.YtgbmakpdjdigmaaGreatDoorCards
import Derived.SevenTiedAt

/- For every text Texts returns true, and the text reads behind the call as before it (P3, P4: Print of every text tells its tokens, a space between each two, or what is wrong first, and where, as the document's own reader tells it). Condition: the listed package-level variables of Go's library are laid as the program's text lays them (the card ties them). -/
namespace Go.Proofs.YtgbmakpdjdigmaaGreatDoor
open Go

theorem texts_card_holds : Rows.TextsCardSaid :=
  Claim7.holds_tied_plain_at .later [] [.data, .data, .data, .sentinel, .sentinel] true Rows.textsCard.stood.harness true
    texts_holds (fun _ h => by cases h) (by kernel_rfl) (fun _ h => by cases h) texts_row_tie rfl ⟨rfl, rfl⟩ (by kernel_rfl) rfl
    (fun f fn hf hfn => by
      obtain rfl : f = 3 := Option.some.inj ((show Tryz.prog.funcNamed "pointsman/pointsmanlaw.Texts" = some 3 by kernel_rfl).symm.trans hf) |>.symm
      obtain rfl : fn = Tryz.f3 := (Option.some.inj (Tryz.func3.symm.trans hfn)).symm
      exact ⟨by kernel_rfl, fun j t ht => by
        rw [Tryz.params3] at ht
        have hm : t ∈ [9] := by simpa using Array.mem_of_getElem? ht
        have hall : ([9].all fun u => !Tryz.prog.wantsStandIn u) = true := by kernel_rfl
        exact (show Tryz.prog.wantsStandIn t = false by simpa using List.all_eq_true.1 hall t hm)⟩)
    (by kernel_rfl)
#print axioms texts_card_holds

end Go.Proofs.YtgbmakpdjdigmaaGreatDoor

/- pointsmankeep's Cut: whatever lines, whatever numbers: it returns true; nothing old is turned. -/
import Derived.Test.YtgbmakpdjdigmaaGreatDoorKpE
import Derived.Test.YtgbmakpdjdigmaaGreatDoorCuP
namespace Go.Proofs.YtgbmakpdjdigmaaGreatDoor
open Go.RowKit

theorem box_below {b : Nat} {cs : Array Value} {t : TypeId} {w w' : World} (h : Box b cs t w) (hb : Below w.heap.size w w') : Box b cs t w' := by
  show w'.heap[b]? = _
  rw [hb.block b (blk_lt h)]
  exact h
set_option maxRecDepth 100000 in
set_option maxHeartbeats 2000000 in
theorem cut_any (lv : Value) (ls : List Ln) (at' extra : Int) (w : World) (hl : LnAt lv ls w) (hok : ∀ l ∈ ls, l.Ok) (h1 : i64ok at') (h2 : i64ok extra) :
    Calls Tryz.prog 11 #[lv, .int .i64 at', .int .i64 extra] w fun e w' => e = .returned (.bool true) ∧ Below w.heap.size w w' := by
  have a1 := h1.1
  have a2 := h1.2
  have x1 := h2.1
  have x2 := h2.2
  obtain ⟨n, hn⟩ : ∃ n, pickN at' 8 = n := ⟨_, rfl⟩
  have hn8 : n < 8 := by rw [← hn]; exact pickN_lt _ _ (by omega)
  have HN := hide1 hn
  clear hn h1 h2
  go_enter Tryz.func11, Tryz.ntmps11
  go_wp2_with fail
  refine (prog_any lv ls w hl hok).mono ?_
  rintro e w1 ⟨⟨s, va, vl, vc, pl, ca, rfl, hr, hz, hh⟩, ho⟩
  have hb1 := hide1 ((ho.below (fun _ h => h.elim)).alloc ho.size (.cells #[.string s, .slice va vl vc, .int .i64 pl, .int .i64 ca] 56))
  have B1 := hide1 (Box.new w1 #[.string s, .slice va vl vc, .int .i64 pl, .int .i64 ca] 56)
  have hs9 := head_size hh
  have HH := hide1 hh
  have HR := hide1 hr
  obtain ⟨i, hi⟩ : ∃ i, pickN extra (s.size + 1) = i := ⟨_, rfl⟩
  have hi8 : i < s.size + 1 := by rw [← hi]; exact pickN_lt _ _ (by omega)
  have HI := hide1 hi
  have hzo := ho.size
  have F1 := hide1 (refused_head (s.extract 0 (2 + n)) (2 + n) (by omega) (by omega) (head_take hh (by omega)))
  have F2 := hide1 (ff_text (i := i) (by omega) hz hr)
  clear hr hh hi ho hl hok
  go_wp2_with (first | (go_at_call 27; refine (pick_any at' 8 a1 a2 (by omega) (by omega) _).mono ?_; rw [HN.out]; rintro e w' ⟨rfl, hw⟩; have hw := hw.symm; subst hw))
  have hzw : w.heap.size ≤ (w1.alloc (.cells #[.string s, .slice va vl vc, .int .i64 pl, .int .i64 ca] 56)).heap.size := hb1.out.size
  refine (print_refused _ 3 (2 + n) F1.out (by omega) _).mono ?_
  rintro e w2 ⟨rfl, h2⟩
  have B2 := hide1 (box_below B1.out h2)
  have W2 := hide1 (hb1.out.trans (h2.mono hzw))
  have z2 := W2.out.size
  have b2 := blk_lt B2.out
  clear h2 hb1 B1
  go_wp2_with fail
  refine (run_refused _ _ 9 3 (2 + n) F1.out (by omega) _).mono ?_
  rintro e w3 ⟨rfl, h3⟩
  have B3 := hide1 (box_below B2.out h3)
  have W3 := hide1 (W2.out.trans (h3.mono z2))
  have z3 := W3.out.size
  have b3 := blk_lt B3.out
  clear h3 B2 W2
  go_wp2_with fail
  have B4 := hide1 (B3.out.alloc (.cells #[.int .i64 0, .int .i64 0, .slice none 0 0] 35))
  have W4 := hide1 (W3.out.alloc z3 (.cells #[.int .i64 0, .int .i64 0, .slice none 0 0] 35))
  have z4 := W4.out.size
  refine (analyse_refused _ 3 (2 + n) F1.out (by omega) _).mono ?_
  rintro e w5 ⟨rfl, h5⟩
  have B5 := hide1 (box_below B4.out h5)
  have W5 := hide1 (W4.out.trans (h5.mono z4))
  have z5 := W5.out.size
  have b5 := blk_lt B5.out
  have c0 := B5.out.cell 0
  simp only [List.getElem?_toArray, List.getElem?_cons_zero] at c0
  clear h5 B4 W4 B3 W3
  go_wp2_with (first | (go_at_call 27; refine (pick_any extra (s.size + 1) x1 x2 (by omega) (by omega) _).mono ?_; rw [HI.out]; rintro e w' ⟨rfl, hw⟩; have hw := hw.symm; subst hw))
  have hi1 : (i : Int) ≤ (s.size : Int) := by omega
  have hi0 : (0 : Int) ≤ (i : Int) := by omega
  have hix : i ≤ s.size := by omega
  go_region
  go_wp2_with fail
  refine (print_refused _ 2 i F2.out (by omega) _).mono ?_
  rintro e w6 ⟨rfl, h6⟩
  have W6 := hide1 ((W5.out.trans (⟨rfl, rfl, rfl, Nat.le_refl _, fun _ _ => rfl⟩ : Below w.heap.size w5 w5.drew)).trans (h6.mono z5))
  have z6 := W6.out.size
  clear h6 W5
  go_wp2_with fail
  refine (analyse_refused _ 2 i F2.out (by omega) _).mono ?_
  rintro e w7 ⟨rfl, h7⟩
  have W7 := hide1 (W6.out.trans (h7.mono z6))
  clear h7 W6
  go_wp2
  go_ret
  exact ⟨rfl, W7.out⟩

end Go.Proofs.YtgbmakpdjdigmaaGreatDoor

/- LexF: told at each. -/
import Derived.Test.YtgbmakpdjdigmaaGreatDoorG20

/- The reference's Tokens: of a text of at most 4000 bytes it returns the place that lexRun tells, or a new slice that holds lexRun's tokens and the end; nothing old is turned. -/
namespace Go.Proofs.YtgbmakpdjdigmaaGreatDoor
open Go.RowKit

theorem Tryz.infoTk : (Tryz.prog.info? 114).map (fun i => (i.zero, i.size, i.bytes)) = some (some (.agg #[.string ByteArray.empty, .int .i64 0, .int .i64 0]), 3, 32) := by kernel_rfl

theorem cell_three_new (w : World) (a b c : Value) (t : TypeId) : ∀ j u, [a, b, c][j]? = some u → (w.alloc (.cells #[a, b, c] t)).cell? ((⟨w.heap.size, 0, none⟩ : Addr).add j) = some u := by
  intro j u h
  rcases j with _ | _ | _ | j
  · simp at h; subst h; simp [Addr.add]
  · simpa [Addr.add] using h
  · simpa [Addr.add] using h
  · simp at h

theorem cell_three_at {w : World} {g : Nat} (hg : g = w.heap.size) (a b c : Value) (t : TypeId) : ∀ j u, [a, b, c][j]? = some u → (w.alloc (.cells #[a, b, c] t)).cell? ((⟨g, 0, none⟩ : Addr).add j) = some u := by
  subst hg
  exact cell_three_new w a b c t

/-- What Tokens leaves. -/
def tokPost (w : World) (s : ByteArray) (V : Nat ⊕ List Tk) (e : Ending) (w' : World) : Prop :=
  match V with
  | .inl p => e = .returned (.tuple #[.slice none 0 0, .int .i64 p, .bool false]) ∧ Below w.heap.size w w'
  | .inr l => ∃ v, e = .returned (.tuple #[v, .int .i64 0, .bool true]) ∧ w'.ownsRow w.heap.size 114 3 v (l.length + 1) (tksCells (l ++ [⟨ByteArray.empty, s.size, 0⟩])) ∧ Below w.heap.size w w'

set_option maxRecDepth 100000 in
set_option maxHeartbeats 2000000 in
theorem reftokens_any (s : ByteArray) (hs : s.size ≤ 4000) (w : World) :
    Calls Tryz.prog 44 #[.string s] w fun e w' => tokPost w s (lexRun s s.size 0 []) e w' := by
  obtain ⟨i0, hi, hz0, hz1, hz2⟩ := info_parts Tryz.infoTk
  generalize hV : lexRun s s.size 0 [] = V
  have HV : Hid (lexRun s s.size 0 [] = V) := hV
  clear hV
  go_enter Tryz.func44, Tryz.ntmps44
  go_wp2
  go_loopw [5, 6] (fun v j wr => ∃ (k f : Nat) (acc : List Tk), k ≤ s.size ∧ acc.length ≤ k ∧ j = .int .i64 k ∧ wr.ownsRow w.heap.size 114 3 v acc.length (tksCells acc) ∧ Below w.heap.size w wr ∧ s.size - k ≤ f ∧ Hid (lexRun s f k acc = V)) (fun _ j _ => s.size - (intOf j).toNat)
  case atStart => exact ⟨0, s.size, [], by omega, by simp, rfl, World.ownsRow_nil _ _ _ _, Below.refl _ _, by omega, HV⟩
  case round =>
    obtain ⟨k, f, acc, hk, hacc, rfl, hown, hbw, hf', HC⟩ := hrel
    clear HV
    by_cases hlt : k < s.size
    · have hle := chr_le s k hlt
      by_cases hn : (chr s k).2 = 0
      · have hv : V = .inl k := by rw [← HC.out, lexRun_bad (p := k) hf' hlt (by unfold lexStep; rw [if_pos hn])]
        subst hv
        have hn' : (((chr s k).2 : Int) == 0) = true := by simp [hn]
        clear HC hn
        go_wp2_with (first | (go_at_call 82; refine (char_any _ _ ?_ ?_ _).mono ?_; exact hlt; exact hs; rintro e w' ⟨rfl, hw⟩; have hw := hw.symm; subst hw) | (go_at_call 83; refine (letter_any _ _).mono ?_; rintro e w' ⟨rfl, hw⟩; have hw := hw.symm; subst hw) | (go_at_call 84; refine (sign_any _ _).mono ?_; rintro e w' ⟨rfl, hw⟩; have hw := hw.symm; subst hw))
        go_ret3
        exact ⟨rfl, hbw⟩
      · have hn' : (((chr s k).2 : Int) == 0) = false := by simp [hn]
        by_cases h32 : (chr s k).1 = 32 ∨ (chr s k).1 = 9 ∨ (chr s k).1 = 10
        · obtain ⟨f', hf1, hf2⟩ := lexRun_go (acc := acc) hf' hlt (t := none) (j := k + 1) (by unfold lexStep; rw [if_neg hn, if_pos h32])
          have HF : Hid (lexRun s f' (k + 1) acc = V) := by rw [show acc = acc ++ (none : Option Tk).toList from by simp, ← hf2]; exact HC.out
          clear HC hf2
          rcases h32 with h32 | h32 | h32
          · have e1 : (((chr s k).1 : Int) == 32) = true := by simp [h32]
            clear h32
            go_wp2_with (first | (go_at_call 82; refine (char_any _ _ ?_ ?_ _).mono ?_; exact hlt; exact hs; rintro e w' ⟨rfl, hw⟩; have hw := hw.symm; subst hw) | (go_at_call 83; refine (letter_any _ _).mono ?_; rintro e w' ⟨rfl, hw⟩; have hw := hw.symm; subst hw) | (go_at_call 84; refine (sign_any _ _).mono ?_; rintro e w' ⟨rfl, hw⟩; have hw := hw.symm; subst hw))
            go_roundw
            case rel => exact ⟨k + 1, f', acc, by omega, by omega, by go_num, hown, hbw, hf1, HF⟩
            case measure => simp [intOf]; omega
          · have e1 : (((chr s k).1 : Int) == 32) = false := by simp [h32]
            have e2 : (((chr s k).1 : Int) == 9) = true := by simp [h32]
            clear h32
            go_wp2_with (first | (go_at_call 82; refine (char_any _ _ ?_ ?_ _).mono ?_; exact hlt; exact hs; rintro e w' ⟨rfl, hw⟩; have hw := hw.symm; subst hw) | (go_at_call 83; refine (letter_any _ _).mono ?_; rintro e w' ⟨rfl, hw⟩; have hw := hw.symm; subst hw) | (go_at_call 84; refine (sign_any _ _).mono ?_; rintro e w' ⟨rfl, hw⟩; have hw := hw.symm; subst hw))
            go_roundw
            case rel => exact ⟨k + 1, f', acc, by omega, by omega, by go_num, hown, hbw, hf1, HF⟩
            case measure => simp [intOf]; omega
          · have e1 : (((chr s k).1 : Int) == 32) = false := by simp [h32]
            have e2 : (((chr s k).1 : Int) == 9) = false := by simp [h32]
            have e3 : (((chr s k).1 : Int) == 10) = true := by simp [h32]
            clear h32
            go_wp2_with (first | (go_at_call 82; refine (char_any _ _ ?_ ?_ _).mono ?_; exact hlt; exact hs; rintro e w' ⟨rfl, hw⟩; have hw := hw.symm; subst hw) | (go_at_call 83; refine (letter_any _ _).mono ?_; rintro e w' ⟨rfl, hw⟩; have hw := hw.symm; subst hw) | (go_at_call 84; refine (sign_any _ _).mono ?_; rintro e w' ⟨rfl, hw⟩; have hw := hw.symm; subst hw))
            go_roundw
            case rel => exact ⟨k + 1, f', acc, by omega, by omega, by go_num, hown, hbw, hf1, HF⟩
            case measure => simp [intOf]; omega
        · have e1 : (((chr s k).1 : Int) == 32) = false := by simp; omega
          have e2 : (((chr s k).1 : Int) == 9) = false := by simp; omega
          have e3 : (((chr s k).1 : Int) == 10) = false := by simp; omega
          by_cases h35 : (chr s k).1 = 35
          · have e4 : (((chr s k).1 : Int) == 35) = true := by simp [h35]
            have hcl := cmt_le s s.size k hk
            by_cases hcb : (cmt s s.size k).2 = true
            · have hst : lexStep s k = .inr (none, (cmt s s.size k).1) := by unfold lexStep; rw [if_neg hn, if_neg h32, if_pos h35, if_pos hcb]
              have hadv := lexStep_adv hlt hst
              obtain ⟨f', hf1, hf2⟩ := lexRun_go (acc := acc) hf' hlt hst
              have HF : Hid (lexRun s f' (cmt s s.size k).1 acc = V) := by rw [show acc = acc ++ (none : Option Tk).toList from by simp, ← hf2]; exact HC.out
              clear HC hf2 hst h35 h32 hn
              go_wp2_with (first | (go_at_call 82; refine (char_any _ _ ?_ ?_ _).mono ?_; exact hlt; exact hs; rintro e w' ⟨rfl, hw⟩; have hw := hw.symm; subst hw) | (go_at_call 83; refine (letter_any _ _).mono ?_; rintro e w' ⟨rfl, hw⟩; have hw := hw.symm; subst hw) | (go_at_call 84; refine (sign_any _ _).mono ?_; rintro e w' ⟨rfl, hw⟩; have hw := hw.symm; subst hw) | (go_at_call 85; refine (comment_any s k s.size ?_ ?_ ?_ _).mono ?_; exact hk; exact hs; omega; rintro e w' ⟨rfl, hw⟩; have hw := hw.symm; subst hw))
              go_roundw
              case rel => exact ⟨(cmt s s.size k).1, f', acc, by omega, by omega, by go_num, hown, hbw, hf1, HF⟩
              case measure => simp [intOf]; omega
            · have hv : V = .inl (cmt s s.size k).1 := by rw [← HC.out, lexRun_bad (p := (cmt s s.size k).1) hf' hlt (by unfold lexStep; rw [if_neg hn, if_neg h32, if_pos h35, if_neg hcb])]
              subst hv
              have hcb' : (cmt s s.size k).2 = false := by simpa using hcb
              clear HC h35 h32 hn hcb
              go_wp2_with (first | (go_at_call 82; refine (char_any _ _ ?_ ?_ _).mono ?_; exact hlt; exact hs; rintro e w' ⟨rfl, hw⟩; have hw := hw.symm; subst hw) | (go_at_call 83; refine (letter_any _ _).mono ?_; rintro e w' ⟨rfl, hw⟩; have hw := hw.symm; subst hw) | (go_at_call 84; refine (sign_any _ _).mono ?_; rintro e w' ⟨rfl, hw⟩; have hw := hw.symm; subst hw) | (go_at_call 85; refine (comment_any s k s.size ?_ ?_ ?_ _).mono ?_; exact hk; exact hs; omega; rintro e w' ⟨rfl, hw⟩; have hw := hw.symm; subst hw))
              go_ret3
              exact ⟨rfl, hbw⟩
          · have e4 : (((chr s k).1 : Int) == 35) = false := by simp; omega
            by_cases hl : letB (chr s k).1 = true
            · have hwl := wrd_le s s.size k 0 hk
              have hwf := wrd_first hlt hn hl
              by_cases hkw : kwB (s.extract k (wrd s s.size k 0).1).toList = true
              · obtain ⟨f', hf1, hf2⟩ := lexRun_go (acc := acc) hf' hlt (t := some ⟨s.extract k (wrd s s.size k 0).1, k, 2⟩) (j := (wrd s s.size k 0).1) (by unfold lexStep; rw [if_neg hn, if_neg h32, if_neg h35, if_pos hl, if_pos hkw])
                have HF : Hid (lexRun s f' (wrd s s.size k 0).1 (acc ++ [⟨s.extract k (wrd s s.size k 0).1, k, 2⟩]) = V) := by rw [show [(⟨s.extract k (wrd s s.size k 0).1, k, 2⟩ : Tk)] = (some (⟨s.extract k (wrd s s.size k 0).1, k, 2⟩ : Tk)).toList from by simp, ← hf2]; exact HC.out
                clear HC hf2 h35 h32 hn
                go_wp2_with (first | (go_at_call 82; refine (char_any _ _ ?_ ?_ _).mono ?_; exact hlt; exact hs; rintro e w' ⟨rfl, hw⟩; have hw := hw.symm; subst hw) | (go_at_call 83; refine (letter_any _ _).mono ?_; rintro e w' ⟨rfl, hw⟩; have hw := hw.symm; subst hw) | (go_at_call 84; refine (sign_any _ _).mono ?_; rintro e w' ⟨rfl, hw⟩; have hw := hw.symm; subst hw) | (go_at_call 86; refine (word_any s k s.size ?_ ?_ ?_ _).mono ?_; exact hk; exact hs; omega; rintro e w' ⟨rfl, hw⟩; have hw := hw.symm; subst hw) | (go_at_call 87; refine (keyword_any _ _).mono ?_; rintro e w' ⟨rfl, hw⟩; have hw := hw.symm; subst hw) | (at_builtin; refine wpList_append_own _ rfl _ _ 27 rfl w.heap.size 114 i0 (.agg #[.string ByteArray.empty, .int .i64 0, .int .i64 0]) 3 32 Tryz.underlying27 hi hz0 hz1 hz2 rfl (by decide) _ _ _ rfl ((hown.alloc _).alloc _) ⟨wr.heap.size + 1, 0, none⟩ 1 1 [.string (s.extract k (wrd s s.size k 0).1), .int .i64 (k : Int), .int .i64 2] rfl rfl (cell_three_at (by simp) _ _ _ _) (fun x hx => by simp at hx; rcases hx with rfl | rfl | rfl <;> rfl) (by unfold maxLen; omega) (by omega) (by have := hbw.size; simp; omega) ?_; intro v' w3 hown' hgrow3 hnil3))
                have hbw3 : Below w.heap.size w w3 := Below.grown ((hbw.alloc hbw.size _).alloc (by have := hbw.size; simp; omega) _) hgrow3 (by have := hbw.size; simp; omega) (fun j hj => (hown.lt j hj).1)
                clear hgrow3 hnil3
                go_wp2
                go_roundw
                case rel => exact ⟨(wrd s s.size k 0).1, f', acc ++ [⟨s.extract k (wrd s s.size k 0).1, k, 2⟩], by omega, by simp; omega, by go_num, by rw [tksCells_snoc, List.length_append]; exact hown', hbw3, hf1, HF⟩
                case measure => simp [intOf]; omega
              · have hkw' : kwB (s.extract k (wrd s s.size k 0).1).toList = false := by simpa using hkw
                by_cases hmany : 8 < (wrd s s.size k 0).2
                · have hv : V = .inl k := by rw [← HC.out, lexRun_bad (p := k) hf' hlt (by unfold lexStep; rw [if_neg hn, if_neg h32, if_neg h35, if_pos hl, if_neg hkw, if_pos hmany])]
                  subst hv
                  clear HC h35 h32 hn hkw
                  go_wp2_with (first | (go_at_call 82; refine (char_any _ _ ?_ ?_ _).mono ?_; exact hlt; exact hs; rintro e w' ⟨rfl, hw⟩; have hw := hw.symm; subst hw) | (go_at_call 83; refine (letter_any _ _).mono ?_; rintro e w' ⟨rfl, hw⟩; have hw := hw.symm; subst hw) | (go_at_call 84; refine (sign_any _ _).mono ?_; rintro e w' ⟨rfl, hw⟩; have hw := hw.symm; subst hw) | (go_at_call 86; refine (word_any s k s.size ?_ ?_ ?_ _).mono ?_; exact hk; exact hs; omega; rintro e w' ⟨rfl, hw⟩; have hw := hw.symm; subst hw) | (go_at_call 87; refine (keyword_any _ _).mono ?_; rintro e w' ⟨rfl, hw⟩; have hw := hw.symm; subst hw))
                  go_ret3
                  exact ⟨rfl, hbw.alloc hbw.size _⟩
                · obtain ⟨f', hf1, hf2⟩ := lexRun_go (acc := acc) hf' hlt (t := some ⟨s.extract k (wrd s s.size k 0).1, k, 1⟩) (j := (wrd s s.size k 0).1) (by unfold lexStep; rw [if_neg hn, if_neg h32, if_neg h35, if_pos hl, if_neg hkw, if_neg hmany])
                  have HF : Hid (lexRun s f' (wrd s s.size k 0).1 (acc ++ [⟨s.extract k (wrd s s.size k 0).1, k, 1⟩]) = V) := by rw [show [(⟨s.extract k (wrd s s.size k 0).1, k, 1⟩ : Tk)] = (some (⟨s.extract k (wrd s s.size k 0).1, k, 1⟩ : Tk)).toList from by simp, ← hf2]; exact HC.out
                  clear HC hf2 h35 h32 hn hkw
                  go_wp2_with (first | (go_at_call 82; refine (char_any _ _ ?_ ?_ _).mono ?_; exact hlt; exact hs; rintro e w' ⟨rfl, hw⟩; have hw := hw.symm; subst hw) | (go_at_call 83; refine (letter_any _ _).mono ?_; rintro e w' ⟨rfl, hw⟩; have hw := hw.symm; subst hw) | (go_at_call 84; refine (sign_any _ _).mono ?_; rintro e w' ⟨rfl, hw⟩; have hw := hw.symm; subst hw) | (go_at_call 86; refine (word_any s k s.size ?_ ?_ ?_ _).mono ?_; exact hk; exact hs; omega; rintro e w' ⟨rfl, hw⟩; have hw := hw.symm; subst hw) | (go_at_call 87; refine (keyword_any _ _).mono ?_; rintro e w' ⟨rfl, hw⟩; have hw := hw.symm; subst hw) | (at_builtin; refine wpList_append_own _ rfl _ _ 27 rfl w.heap.size 114 i0 (.agg #[.string ByteArray.empty, .int .i64 0, .int .i64 0]) 3 32 Tryz.underlying27 hi hz0 hz1 hz2 rfl (by decide) _ _ _ rfl ((hown.alloc _).alloc _) ⟨wr.heap.size + 1, 0, none⟩ 1 1 [.string (s.extract k (wrd s s.size k 0).1), .int .i64 (k : Int), .int .i64 1] rfl rfl (cell_three_at (by simp) _ _ _ _) (fun x hx => by simp at hx; rcases hx with rfl | rfl | rfl <;> rfl) (by unfold maxLen; omega) (by omega) (by have := hbw.size; simp; omega) ?_; intro v' w3 hown' hgrow3 hnil3))
                  have hbw3 : Below w.heap.size w w3 := Below.grown ((hbw.alloc hbw.size _).alloc (by have := hbw.size; simp; omega) _) hgrow3 (by have := hbw.size; simp; omega) (fun j hj => (hown.lt j hj).1)
                  clear hgrow3 hnil3
                  go_wp2
                  go_roundw
                  case rel => exact ⟨(wrd s s.size k 0).1, f', acc ++ [⟨s.extract k (wrd s s.size k 0).1, k, 1⟩], by omega, by simp; omega, by go_num, by rw [tksCells_snoc, List.length_append]; exact hown', hbw3, hf1, HF⟩
                  case measure => simp [intOf]; omega
            · have hl' : letB (chr s k).1 = false := by simpa using hl
              by_cases hdg : 48 ≤ (chr s k).1 ∧ (chr s k).1 ≤ 51
              · have hd1 : 48 ≤ (chr s k).1 := hdg.1
                have hd2 : (chr s k).1 ≤ 51 := hdg.2
                obtain ⟨f', hf1, hf2⟩ := lexRun_go (acc := acc) hf' hlt (t := some ⟨s.extract k (k + 1), k, 3⟩) (j := k + 1) (by unfold lexStep; rw [if_neg hn, if_neg h32, if_neg h35, if_neg hl, if_pos hdg])
                have HF : Hid (lexRun s f' (k + 1) (acc ++ [⟨s.extract k (k + 1), k, 3⟩]) = V) := by rw [show [(⟨s.extract k (k + 1), k, 3⟩ : Tk)] = (some (⟨s.extract k (k + 1), k, 3⟩ : Tk)).toList from by simp, ← hf2]; exact HC.out
                clear HC hf2 h35 h32 hn hl hdg
                go_wp2_with (first | (go_at_call 82; refine (char_any _ _ ?_ ?_ _).mono ?_; exact hlt; exact hs; rintro e w' ⟨rfl, hw⟩; have hw := hw.symm; subst hw) | (go_at_call 83; refine (letter_any _ _).mono ?_; rintro e w' ⟨rfl, hw⟩; have hw := hw.symm; subst hw) | (go_at_call 84; refine (sign_any _ _).mono ?_; rintro e w' ⟨rfl, hw⟩; have hw := hw.symm; subst hw) | (at_builtin; refine wpList_append_own _ rfl _ _ 27 rfl w.heap.size 114 i0 (.agg #[.string ByteArray.empty, .int .i64 0, .int .i64 0]) 3 32 Tryz.underlying27 hi hz0 hz1 hz2 rfl (by decide) _ _ _ rfl (hown.alloc _) ⟨wr.heap.size, 0, none⟩ 1 1 [.string (s.extract k (k + 1)), .int .i64 (k : Int), .int .i64 3] rfl rfl (cell_three_at (by simp) _ _ _ _) (fun x hx => by simp at hx; rcases hx with rfl | rfl | rfl <;> rfl) (by unfold maxLen; omega) (by omega) (by have := hbw.size; simp; omega) ?_; intro v' w3 hown' hgrow3 hnil3))
                have hbw3 : Below w.heap.size w w3 := Below.grown (hbw.alloc hbw.size _) hgrow3 (by have := hbw.size; simp; omega) (fun j hj => (hown.lt j hj).1)
                clear hgrow3 hnil3
                go_wp2
                go_roundw
                case rel => exact ⟨k + 1, f', acc ++ [⟨s.extract k (k + 1), k, 3⟩], by omega, by simp; omega, by go_num, by rw [tksCells_snoc, List.length_append]; exact hown', hbw3, hf1, HF⟩
                case measure => simp [intOf]; omega
              · have hdd : (chr s k).1 < 48 ∨ 51 < (chr s k).1 := by omega
                by_cases hsg : signB (chr s k).1 = true
                · obtain ⟨f', hf1, hf2⟩ := lexRun_go (acc := acc) hf' hlt (t := some ⟨s.extract k (k + 1), k, 4⟩) (j := k + 1) (by unfold lexStep; rw [if_neg hn, if_neg h32, if_neg h35, if_neg hl, if_neg hdg, if_pos hsg])
                  have HF : Hid (lexRun s f' (k + 1) (acc ++ [⟨s.extract k (k + 1), k, 4⟩]) = V) := by rw [show [(⟨s.extract k (k + 1), k, 4⟩ : Tk)] = (some (⟨s.extract k (k + 1), k, 4⟩ : Tk)).toList from by simp, ← hf2]; exact HC.out
                  clear HC hf2 h35 h32 hn hl hdg
                  rcases hdd with hdd | hdd
                  all_goals
                    go_wp2_with (first | (go_at_call 82; refine (char_any _ _ ?_ ?_ _).mono ?_; exact hlt; exact hs; rintro e w' ⟨rfl, hw⟩; have hw := hw.symm; subst hw) | (go_at_call 83; refine (letter_any _ _).mono ?_; rintro e w' ⟨rfl, hw⟩; have hw := hw.symm; subst hw) | (go_at_call 84; refine (sign_any _ _).mono ?_; rintro e w' ⟨rfl, hw⟩; have hw := hw.symm; subst hw) | (at_builtin; refine wpList_append_own _ rfl _ _ 27 rfl w.heap.size 114 i0 (.agg #[.string ByteArray.empty, .int .i64 0, .int .i64 0]) 3 32 Tryz.underlying27 hi hz0 hz1 hz2 rfl (by decide) _ _ _ rfl (hown.alloc _) ⟨wr.heap.size, 0, none⟩ 1 1 [.string (s.extract k (k + 1)), .int .i64 (k : Int), .int .i64 4] rfl rfl (cell_three_at (by simp) _ _ _ _) (fun x hx => by simp at hx; rcases hx with rfl | rfl | rfl <;> rfl) (by unfold maxLen; omega) (by omega) (by have := hbw.size; simp; omega) ?_; intro v' w3 hown' hgrow3 hnil3))
                    have hbw3 : Below w.heap.size w w3 := Below.grown (hbw.alloc hbw.size _) hgrow3 (by have := hbw.size; simp; omega) (fun j hj => (hown.lt j hj).1)
                    clear hgrow3 hnil3
                    go_wp2
                    go_roundw
                    case rel => exact ⟨k + 1, f', acc ++ [⟨s.extract k (k + 1), k, 4⟩], by omega, by simp; omega, by go_num, by rw [tksCells_snoc, List.length_append]; exact hown', hbw3, hf1, HF⟩
                    case measure => simp [intOf]; omega
                · have hv : V = .inl k := by rw [← HC.out, lexRun_bad (p := k) hf' hlt (by unfold lexStep; rw [if_neg hn, if_neg h32, if_neg h35, if_neg hl, if_neg hdg, if_neg hsg])]
                  subst hv
                  have hsg' : signB (chr s k).1 = false := by simpa using hsg
                  clear HC h35 h32 hn hl hdg hsg
                  rcases hdd with hdd | hdd
                  all_goals
                    go_wp2_with (first | (go_at_call 82; refine (char_any _ _ ?_ ?_ _).mono ?_; exact hlt; exact hs; rintro e w' ⟨rfl, hw⟩; have hw := hw.symm; subst hw) | (go_at_call 83; refine (letter_any _ _).mono ?_; rintro e w' ⟨rfl, hw⟩; have hw := hw.symm; subst hw) | (go_at_call 84; refine (sign_any _ _).mono ?_; rintro e w' ⟨rfl, hw⟩; have hw := hw.symm; subst hw))
                    go_ret3
                    exact ⟨rfl, hbw⟩
    · have hv : V = .inr acc := by rw [← HC.out, lexRun_end hlt]
      subst hv
      clear HC
      go_wp2_with ((at_builtin; refine wpList_append_own _ rfl _ _ 27 rfl w.heap.size 114 i0 (.agg #[.string ByteArray.empty, .int .i64 0, .int .i64 0]) 3 32 Tryz.underlying27 hi hz0 hz1 hz2 rfl (by decide) _ _ _ rfl (hown.alloc _) ⟨wr.heap.size, 0, none⟩ 1 1 [.string ByteArray.empty, .int .i64 (s.size : Int), .int .i64 0] rfl rfl (cell_three_at (by simp) _ _ _ _) (fun x hx => by simp at hx; rcases hx with rfl | rfl | rfl <;> rfl) (by unfold maxLen; omega) (by omega) (by have := hbw.size; simp; omega) ?_; intro v' w3 hown' hgrow3 hnil3))
      have hbw3 : Below w.heap.size w w3 := Below.grown (hbw.alloc hbw.size _) hgrow3 (by have := hbw.size; simp; omega) (fun j hj => (hown.lt j hj).1)
      go_wp2
      go_ret3
      exact ⟨v', rfl, by rw [tksCells_snoc]; exact hown', hbw3⟩

end Go.Proofs.YtgbmakpdjdigmaaGreatDoor

/- Where a text is refused by its tokens, or at their end by the parser, Print, Run and Analyse tell the error and the place, and nothing else; nothing old is turned. Texts of at most 4000 bytes. -/
import Derived.Test.YtafjaljiliddnaaGreatDoorPaE
namespace Go.Proofs.YtafjaljiliddnaaGreatDoor
open Go.RowKit

abbrev zPr : Value := .agg #[.slice none 0 0, .int .i64 0]
/-- The text is refused by readText, whatever memory is. -/
def Refused (s : ByteArray) (err place : Nat) : Prop := ∀ w : World, Calls Tryz.prog 30 #[.string s] w fun e w' => e = .returned (.tuple #[.slice none 0 0, zPr, .int .i64 err, .int .i64 place]) ∧ Below w.heap.size w w'

set_option maxRecDepth 100000 in
set_option maxHeartbeats 1000000 in
theorem refused_text (s : ByteArray) (p : Nat) (hs : s.size ≤ 4000) (h : scanRun s s.size 0 x0 = .inl p) : Refused s 2 p := by
  intro w
  have H := hide1 h
  clear h
  go_enter Tryz.func30, Tryz.ntmps30
  go_wp2_with fail
  refine (tokens_any s hs _).mono ?_
  rw [H.out]
  rintro e w2 ⟨rfl, hb⟩
  have hz := hb.size
  simp at hz
  have hb2 : Below w.heap.size w w2 := ((Below.refl _ _).alloc (Nat.le_refl _) _).trans (hb.mono (by simp))
  have hB2 : Box w.heap.size #[.slice none 0 0, .int .i64 0] 85 w2 := by
    show w2.heap[w.heap.size]? = _
    rw [hb.block _ (by simp)]
    exact heap_alloc_new w _
  have b0 := hB2.cell 0
  have b1 := hB2.cell 1
  have bf := hB2.frozen
  simp only [List.getElem?_toArray, List.getElem?_cons_zero, List.getElem?_cons_succ] at b0 b1
  clear hb hB2
  go_wp2
  refine bodyPost_ret (v := .tuple #[.slice none 0 0, zPr, .int .i64 2, .int .i64 p]) (by simp [results, Tryz.results30, go_sem, b0, b1]) rfl ⟨rfl, ?_⟩
  exact (hb2.setCell (p := ⟨w.heap.size, 0, none⟩) (Nat.le_refl _) _).setCell (p := ⟨w.heap.size, 1, none⟩) (Nat.le_refl _) _

set_option maxRecDepth 100000 in
set_option maxHeartbeats 1000000 in
theorem refused_parse (s : ByteArray) (x : Sc) (x3 : PS) (hs : s.size ≤ 4000) (h : scanRun s s.size 0 x0 = .inr x) (hz : (ptAt (scanEnd s x) ((scanEnd s x).length - 1)).kind = 0)
    (hx3 : (namesP (scanEnd s x) (scanEnd s x).length (takeP (scanEnd s x) (scanEnd s x).length 1 (takeP (scanEnd s x) (scanEnd s x).length 3 ⟨0, false, 0⟩))).2 = x3) (he : AtEnd (scanEnd s x) (scanEnd s x).length x3) : Refused s 3 (failP (scanEnd s x) (scanEnd s x).length x3).wrong := by
  intro w
  have H := hide1 h
  have HZ := hide1 hz
  have HE := hide1 he
  have X3 := hide1 hx3
  have hl : 0 < (scanEnd s x).length := by simp [scanEnd]
  have HD := hide1 (scanEnd_dig h)
  clear h hz he hx3
  obtain ⟨q, hq⟩ : ∃ q, (failP (scanEnd s x) (scanEnd s x).length x3).wrong = q := ⟨_, rfl⟩
  rw [hq]
  have HQ := hide1 hq
  clear hq
  generalize hT : scanEnd s x = toks at *
  have HT := hide1 hT
  clear hT
  go_enter Tryz.func30, Tryz.ntmps30
  go_wp2_with fail
  refine (tokens_any s hs _).mono ?_
  rw [H.out]
  rintro e w2 ⟨v, rfl, hown, hlen, hb⟩
  rw [HT.out] at hown hlen
  have hz := hb.size
  simp at hz
  have hb2 : Below w.heap.size w w2 := ((Below.refl _ _).alloc (Nat.le_refl _) _).trans (hb.mono (by simp))
  have hB2 : Box w.heap.size #[.slice none 0 0, .int .i64 0] 85 w2 := by
    show w2.heap[w.heap.size]? = _
    rw [hb.block _ (by simp)]
    exact heap_alloc_new w _
  obtain ⟨va, vl, vc, rfl⟩ := owns_form hown
  obtain ⟨g, rfl⟩ := own_some hown hl
  have hvl := own_len hown
  subst hvl
  have hrow : PtRow g toks.length vc toks w2 := ⟨ownsRow_base hown (by omega), rfl, hlen, HD.out⟩
  have HB2 := hide1 hB2
  have HW2 := hide1 hb2
  clear hb hB2 hb2 hown
  go_wp2_with fail
  refine (parse_end g toks.length vc x3 toks w2 hrow hl HZ.out X3.out HE.out).mono ?_
  rw [HQ.out]
  rintro e w3 ⟨rfl, hb3⟩
  have hz3 := hb3.size
  have hB3 : Box w.heap.size #[.slice none 0 0, .int .i64 0] 85 w3 := by
    show w3.heap[w.heap.size]? = _
    rw [hb3.block _ (by omega)]
    exact HB2.out
  have HW3 := hide1 (HW2.out.trans (hb3.mono (by omega)))
  have b0 := hB3.cell 0
  have b1 := hB3.cell 1
  have bf := hB3.frozen
  simp only [List.getElem?_toArray, List.getElem?_cons_zero, List.getElem?_cons_succ] at b0 b1
  have l3 := blk_lt hB3
  clear hb3 hB3 HB2 HW2 hrow
  go_wp2
  refine bodyPost_ret (v := .tuple #[.slice none 0 0, zPr, .int .i64 3, .int .i64 q]) (by simp [results, Tryz.results30, go_sem, b0, b1, l3]) rfl ⟨rfl, ?_⟩
  exact ((HW3.out.setCell (p := ⟨w.heap.size, 0, none⟩) (Nat.le_refl _) _).setCell (p := ⟨w.heap.size, 1, none⟩) (Nat.le_refl _) _).alloc (by simp; omega) _

set_option maxRecDepth 100000 in
set_option maxHeartbeats 1000000 in
theorem print_refused (s : ByteArray) (err p : Nat) (h : Refused s err p) (he : err ≠ 0) (w : World) :
    Calls Tryz.prog 13 #[.string s] w fun e w' => e = .returned (.tuple #[.string { data := #[] }, .int .i64 err, .int .i64 p]) ∧ Below w.heap.size w w' := by
  have he' : ((err : Int) != 0) = true := by simp; omega
  go_enter Tryz.func13, Tryz.ntmps13
  go_wp2_with fail
  refine (h _).mono ?_
  rintro e w2 ⟨rfl, hb⟩
  have hz := hb.size
  go_wp2
  go_ret3
  exact ⟨rfl, hb.alloc (by omega) _⟩

set_option maxRecDepth 100000 in
set_option maxHeartbeats 1000000 in
theorem run_refused (s c : ByteArray) (k : Int) (err p : Nat) (h : Refused s err p) (he : err ≠ 0) (w : World) :
    Calls Tryz.prog 17 #[.string s, .string c, .int .i64 k] w fun e w' => e = .returned (.tuple #[.agg #[.int .i64 0, .int .i64 0, .slice none 0 0], .int .i64 err, .int .i64 p]) ∧ Below w.heap.size w w' := by
  have he' : ((err : Int) != 0) = true := by simp; omega
  go_enter Tryz.func17, Tryz.ntmps17
  go_wp2_with fail
  refine (h _).mono ?_
  rintro e w2 ⟨rfl, hb⟩
  have hz := hb.size
  simp at hz
  have hb2 : Below w.heap.size w w2 := ((Below.refl _ _).alloc (Nat.le_refl _) _).trans (hb.mono (by simp))
  have hB2 : Box w.heap.size #[.int .i64 0, .int .i64 0, .slice none 0 0] 35 w2 := by
    show w2.heap[w.heap.size]? = _
    rw [hb.block _ (by simp)]
    exact heap_alloc_new w _
  have b0 := hB2.cell 0
  have b1 := hB2.cell 1
  have b2 := hB2.cell 2
  have bf := hB2.frozen
  simp only [List.getElem?_toArray, List.getElem?_cons_zero, List.getElem?_cons_succ] at b0 b1 b2
  have l3 := blk_lt hB2
  clear hb hB2
  go_wp2
  refine bodyPost_ret (v := .tuple #[.agg #[.int .i64 0, .int .i64 0, .slice none 0 0], .int .i64 err, .int .i64 p]) (by simp [results, Tryz.results17, go_sem, b0, b1, b2, l3]) rfl ⟨rfl, ?_⟩
  exact (((hb2.setCell (p := ⟨w.heap.size, 0, none⟩) (Nat.le_refl _) _).setCell (p := ⟨w.heap.size, 1, none⟩) (Nat.le_refl _) _).setCell (p := ⟨w.heap.size, 2, none⟩) (Nat.le_refl _) _).alloc (by simp; omega) _

set_option maxRecDepth 100000 in
set_option maxHeartbeats 1000000 in
theorem analyse_refused (s : ByteArray) (err p : Nat) (h : Refused s err p) (he : err ≠ 0) (w : World) :
    Calls Tryz.prog 29 #[.string s] w fun e w' => e = .returned (.tuple #[.pointer none, .int .i64 err, .int .i64 p]) ∧ Below w.heap.size w w' := by
  have he' : ((err : Int) != 0) = true := by simp; omega
  go_enter Tryz.func29, Tryz.ntmps29
  go_wp2_with fail
  refine (h _).mono ?_
  rintro e w2 ⟨rfl, hb⟩
  have hz := hb.size
  go_wp2
  go_ret3
  exact ⟨rfl, hb.alloc (by omega) _⟩

end Go.Proofs.YtafjaljiliddnaaGreatDoor

/- RdA RdB RdC: told at each. -/
import Derived.Test.YtgbmakpdjdigmaaGreatDoorG20
import Derived.Test.YtgbmakpdjdigmaaGreatDoorG02
import Derived.RegionTactic
import Derived.ChangeAlike
import Derived.BigRegion
import Derived.Deep.QuietTactic
import Derived.BigQuiet

/- Plain mathematics and memory words for the reference's reader: its state, where it lies, what a call may turn. No condition. -/
namespace Go.Proofs.YtgbmakpdjdigmaaGreatDoor
open Go.RowKit

/-- A statement of the reference's flat list. -/
structure FS where
  kind : Nat
  p : Tk
  q : Tk
  field : Nat
  args : List Tk
  place : Nat
  body : List Nat
  other : List Nat
  br : Int
  br2 : Int
  inn : Nat

/-- The reader's state, and the program's, but for its functions. -/
structure Rd where
  cur : Nat
  bad : Option Nat
  stmts : List FS
  places : Nat
  calls : Nat
def badI : Option Nat → Int
  | none => -1
  | some b => b
def tkNo : Tk := ⟨ByteArray.empty, 0, 0⟩
def tokAt (l : List Tk) (i : Nat) : Tk := l[i]?.getD tkNo

/-- The reader lies at block rb: its tokens' slice, its place, what is wrong, its program's block. -/
def RdBlk (rb pb g n cap : Nat) (cur : Nat) (bad : Option Nat) (w : World) : Prop :=
  w.heap[rb]? = some (.cells #[.slice (some ⟨g, 0, none⟩) n cap, .int .i64 cur, .int .i64 (badI bad), .pointer (some ⟨pb, 0, none⟩)] 174 (0, 0))
/-- The tokens lie at block g. -/
def TokRow (g n cap : Nat) (toks : List Tk) (w : World) : Prop := w.ownsRow 0 114 3 (.slice (some ⟨g, 0, none⟩) n cap) n (tksCells toks) ∧ n = toks.length ∧ n ≤ 4001
theorem tksCells_at {l : List Tk} {i : Nat} (h : i < l.length) : (tksCells l)[i * 3]? = some (.string (tokAt l i).text) ∧ (tksCells l)[i * 3 + 1]? = some (.int .i64 (tokAt l i).pos) ∧ (tksCells l)[i * 3 + 2]? = some (.int .i64 (tokAt l i).sort) := by
  induction l generalizing i with
  | nil => simp at h
  | cons t l ih =>
    cases i with
    | zero => simp [tksCells, tkCells, tokAt]
    | succ i =>
      have := ih (i := i) (by simpa using h)
      simp only [tksCells, List.flatMap_cons, tokAt, List.getElem?_cons_succ] at this ⊢
      have e : ∀ j, (tkCells t ++ List.flatMap tkCells l)[(i + 1) * 3 + j]? = (List.flatMap tkCells l)[i * 3 + j]? := by
        intro j
        rw [List.getElem?_append_right (by simp [tkCells]; omega)]
        congr 1
        simp [tkCells]; omega
      exact ⟨by rw [show (i + 1) * 3 = (i + 1) * 3 + 0 from rfl, e]; exact this.1, by rw [e]; exact this.2.1, by rw [e]; exact this.2.2⟩
theorem TokRow.cells {g n cap : Nat} {toks : List Tk} {w : World} (h : TokRow g n cap toks w) {i : Nat} (hi : i < n) :
    w.cell? ⟨g, i * 3, none⟩ = some (.string (tokAt toks i).text) ∧ w.cell? ⟨g, i * 3 + 1, none⟩ = some (.int .i64 (tokAt toks i).pos) ∧ w.cell? ⟨g, i * 3 + 2, none⟩ = some (.int .i64 (tokAt toks i).sort) := by
  have hn := h.2.1
  have hc := tksCells_at (l := toks) (i := i) (by omega)
  exact ⟨by rw [h.1.cellAt _ (by omega)]; exact hc.1, by rw [h.1.cellAt _ (by omega)]; exact hc.2.1, by rw [h.1.cellAt _ (by omega)]; exact hc.2.2⟩
end Go.Proofs.YtgbmakpdjdigmaaGreatDoor

/- The reference's reader: next, fail, eat and get: what each answers, and the reader's block behind it; nothing else is turned. The reader lies at rb, its tokens at g, its place within them. -/
namespace Go.Proofs.YtgbmakpdjdigmaaGreatDoor
open Go.RowKit

/-- Is a token this word or sign? -/
def isTk (t : Tk) (l : List UInt8) : Bool := t.text.toList == l && (t.sort == 2 || t.sort == 4)
def nextB (bad : Option Nat) (t : Tk) (l : List UInt8) : Bool := bad.isNone && isTk t l

set_option maxRecDepth 100000 in
set_option maxHeartbeats 400000 in
theorem next_any (rb pb g n cap cur : Nat) (bad : Option Nat) (toks : List Tk) (s : ByteArray) (w : World) (hr : RdBlk rb pb g n cap cur bad w) (ht : TokRow g n cap toks w) (hc : cur < n) :
    Calls Tryz.prog 126 #[.pointer (some ⟨rb, 0, none⟩), .string s] w fun e w' => e = .returned (.bool (nextB bad (tokAt toks cur) s.toList)) ∧ Only (fun _ => False) w w' := by
  obtain ⟨t0, t1, t2⟩ := ht.cells hc
  have hn := ht.2.2
  have r0 := blk_cell hr 0
  have r1 := blk_cell hr 1
  have r2 := blk_cell hr 2
  simp only [List.getElem?_toArray, List.getElem?_cons_zero, List.getElem?_cons_succ] at r0 r1 r2
  have lr := blk_lt hr
  have lg : g < w.heap.size := (ht.1.lt g rfl).2
  clear hr ht
  have fin : Only (fun _ => False) w ((w.alloc (.cells #[.string (tokAt toks cur).text, .int .i64 (tokAt toks cur).pos, .int .i64 (tokAt toks cur).sort] 114)).drew) := ((Only.refl _ _).alloc _).drew
  generalize tokAt toks cur = t at *
  cases bad with
  | some b =>
    have hb : decide ((b : Int) < 0) = false := by simp
    simp only [badI] at r2
    have hv : nextB (some b) t s.toList = false := rfl
    rw [hv]
    clear hv
    go_enter Tryz.func126, Tryz.ntmps126
    go_wp2
    go_region
    go_wp2
    go_ret
    exact ⟨rfl, fin⟩
  | none =>
    simp only [badI] at r2
    by_cases he : t.text.toList = s.toList
    · have he' : (t.text.toList == s.toList) = true := by simp [he]
      by_cases h2 : t.sort = 2
      · have h2' : ((t.sort : Int) == 2) = true := by simp [h2]
        have hv : nextB none t s.toList = true := by simp [nextB, isTk, he, h2]
        rw [hv]
        clear hv he h2
        go_enter Tryz.func126, Tryz.ntmps126
        go_wp2
        go_region
        go_wp2
        go_ret
        exact ⟨rfl, fin⟩
      · have h2' : ((t.sort : Int) == 2) = false := by simp; omega
        by_cases h4 : t.sort = 4
        · have h4' : ((t.sort : Int) == 4) = true := by simp [h4]
          have hv : nextB none t s.toList = true := by simp [nextB, isTk, he, h4]
          rw [hv]
          clear hv he h2 h4
          go_enter Tryz.func126, Tryz.ntmps126
          go_wp2
          go_region
          go_wp2
          go_ret
          exact ⟨rfl, fin⟩
        · have h4' : ((t.sort : Int) == 4) = false := by simp; omega
          have hv : nextB none t s.toList = false := by simp [nextB, isTk, h2, h4]
          rw [hv]
          clear hv he h2 h4
          go_enter Tryz.func126, Tryz.ntmps126
          go_wp2
          go_region
          go_wp2
          go_ret
          exact ⟨rfl, fin⟩
    · have he' : (t.text.toList == s.toList) = false := by simp [he]
      have hv : nextB none t s.toList = false := by simp [nextB, isTk, he]
      rw [hv]
      clear hv he
      go_enter Tryz.func126, Tryz.ntmps126
      go_wp2
      go_region
      go_wp2
      go_ret
      exact ⟨rfl, fin⟩

def failO (bad : Option Nat) (p : Nat) : Option Nat := match bad with | none => some p | some b => some b

set_option maxRecDepth 100000 in
set_option maxHeartbeats 400000 in
theorem fail_any (rb pb g n cap cur : Nat) (bad : Option Nat) (toks : List Tk) (w : World) (hr : RdBlk rb pb g n cap cur bad w) (ht : TokRow g n cap toks w) (hc : cur < n) :
    Calls Tryz.prog 127 #[.pointer (some ⟨rb, 0, none⟩)] w fun e w' => e = .returned (.tuple #[]) ∧ RdBlk rb pb g n cap cur (failO bad (tokAt toks cur).pos) w' ∧ Only (fun k => k = rb) w w' := by
  obtain ⟨t0, t1, t2⟩ := ht.cells hc
  have hn := ht.2.2
  have r0 := blk_cell hr 0
  have r1 := blk_cell hr 1
  have r2 := blk_cell hr 2
  have f2 := blk_frozen hr 2
  simp only [List.getElem?_toArray, List.getElem?_cons_zero, List.getElem?_cons_succ] at r0 r1 r2
  have lr := blk_lt hr
  have lg : g < w.heap.size := (ht.1.lt g rfl).2
  have H := hr
  have HR : Hid (RdBlk rb pb g n cap cur bad w) := H
  clear hr ht H
  cases bad with
  | some b =>
    have hb : decide ((b : Int) < 0) = false := by simp
    simp only [badI] at r2
    go_enter Tryz.func127, Tryz.ntmps127
    go_wp2
    go_end0
    exact ⟨rfl, HR.out, Only.refl _ _⟩
  | none =>
    simp only [badI] at r2
    go_enter Tryz.func127, Tryz.ntmps127
    go_wp2
    go_region
    go_wp2
    go_end0
    refine ⟨rfl, ?_, ((Only.refl (fun k => k = rb) w).setCell (p := ⟨rb, 2, none⟩) (.inl rfl) _).drew⟩
    exact setCell_blk (w := w.drew) HR.out 2 _

theorem RdBlk.only {rb pb g n cap cur : Nat} {bad : Option Nat} {X : Nat → Prop} {w w' : World} (h : RdBlk rb pb g n cap cur bad w) (ho : Only X w w') (hx : ¬ X rb) : RdBlk rb pb g n cap cur bad w' := by
  unfold RdBlk at h ⊢
  rw [ho.block rb (blk_lt h) hx]; exact h
theorem TokRow.only {g n cap : Nat} {toks : List Tk} {X : Nat → Prop} {w w' : World} (h : TokRow g n cap toks w) (ho : Only X w w') (hx : ¬ X g) : TokRow g n cap toks w' :=
  ⟨ownsRow_only h.1 ho (fun k hk => by simp [Value.ownBlock] at hk; subst hk; exact hx), h.2⟩
/-- A block of tokens is no block of a reader. -/
theorem TokRow.ne {g n cap rb : Nat} {toks : List Tk} {w : World} (h : TokRow g n cap toks w) {cs : Array Value} {t : TypeId} {fz : Nat × Nat} (hr : w.heap[rb]? = some (.cells cs t fz)) (ht : t ≠ 114) : g ≠ rb := by
  rintro rfl
  rcases h.1.2 with ⟨h2, _⟩ | ⟨g', cap', cur', hv, _, hh, _⟩
  · simp at h2
  · simp only [Value.slice.injEq, Option.some.injEq, Addr.mk.injEq] at hv
    rw [← hv.1.1, hr] at hh
    simp only [Option.some.injEq, Obj.cells.injEq] at hh
    exact ht hh.2.1

def eatR (toks : List Tk) (cur : Nat) (bad : Option Nat) (l : List UInt8) : Nat × Option Nat :=
  if nextB bad (tokAt toks cur) l = true then (cur + 1, bad) else (cur, failO bad (tokAt toks cur).pos)

set_option maxRecDepth 100000 in
set_option maxHeartbeats 400000 in
theorem eat_any (rb pb g n cap cur : Nat) (bad : Option Nat) (toks : List Tk) (s : ByteArray) (w : World) (hr : RdBlk rb pb g n cap cur bad w) (ht : TokRow g n cap toks w) (hc : cur < n) :
    Calls Tryz.prog 88 #[.pointer (some ⟨rb, 0, none⟩), .string s] w fun e w' => e = .returned (.tuple #[]) ∧ RdBlk rb pb g n cap (eatR toks cur bad s.toList).1 (eatR toks cur bad s.toList).2 w' ∧ Only (fun k => k = rb) w w' := by
  have hne := ht.ne hr (by decide)
  have hn := ht.2.2
  unfold eatR
  cases hb : nextB bad (tokAt toks cur) s.toList with
  | false =>
    have HB := hb
    have HBH : Hid (nextB bad (tokAt toks cur) s.toList = false) := HB
    clear hb HB
    go_enter Tryz.func88, Tryz.ntmps88
    go_wp2_with fail
    refine (next_any rb pb g n cap cur bad toks s w hr ht hc).mono ?_
    rintro e w1 ⟨rfl, ho1⟩
    rw [HBH.out]
    have hr1 := hr.only ho1 (fun h => h)
    have ht1 := ht.only ho1 (fun h => h)
    go_wp2_with fail
    refine (fail_any rb pb g n cap cur bad toks w1 hr1 ht1 hc).mono ?_
    rintro e w2 ⟨rfl, hr2, ho2⟩
    go_wp2_with fail
    go_end0
    exact ⟨rfl, by simpa using hr2, (ho1.mono (fun _ _ h => h.elim)).trans ho2⟩
  | true =>
    have HBH : Hid (nextB bad (tokAt toks cur) s.toList = true) := hb
    clear hb
    go_enter Tryz.func88, Tryz.ntmps88
    go_wp2_with fail
    refine (next_any rb pb g n cap cur bad toks s w hr ht hc).mono ?_
    rintro e w1 ⟨rfl, ho1⟩
    rw [HBH.out]
    have hr1 := hr.only ho1 (fun h => h)
    have r1 := blk_cell hr1 1
    have f1 := blk_frozen hr1 1
    simp only [List.getElem?_toArray, List.getElem?_cons_zero, List.getElem?_cons_succ] at r1
    have HR : Hid (RdBlk rb pb g n cap cur bad w1) := hr1
    clear hr1 hr ht
    go_wp2
    go_end0
    refine ⟨rfl, ?_, (ho1.mono (fun _ _ h => h.elim)).trans ((Only.refl (fun k => k = rb) w1).setCell (p := ⟨rb, 1, none⟩) (.inl rfl) _)⟩
    have := setCell_blk (w := w1) HR.out 1 (.int .i64 ((cur : Int) + 1))
    simpa [RdBlk] using this

theorem eat_l (rb pb g n cap cur : Nat) (bad : Option Nat) (toks : List Tk) (s : ByteArray) (l : List UInt8) (hl : s.toList = l) (w : World) (hr : RdBlk rb pb g n cap cur bad w) (ht : TokRow g n cap toks w) (hc : cur < n) :
    Calls Tryz.prog 88 #[.pointer (some ⟨rb, 0, none⟩), .string s] w fun e w' => e = .returned (.tuple #[]) ∧ RdBlk rb pb g n cap (eatR toks cur bad l).1 (eatR toks cur bad l).2 w' ∧ Only (fun k => k = rb) w w' := by
  subst hl
  exact eat_any rb pb g n cap cur bad toks s w hr ht hc
theorem next_l (rb pb g n cap cur : Nat) (bad : Option Nat) (toks : List Tk) (s : ByteArray) (l : List UInt8) (hl : s.toList = l) (w : World) (hr : RdBlk rb pb g n cap cur bad w) (ht : TokRow g n cap toks w) (hc : cur < n) :
    Calls Tryz.prog 126 #[.pointer (some ⟨rb, 0, none⟩), .string s] w fun e w' => e = .returned (.bool (nextB bad (tokAt toks cur) l)) ∧ Only (fun _ => False) w w' := by
  subst hl
  exact next_any rb pb g n cap cur bad toks s w hr ht hc
theorem eatR_cur {toks : List Tk} {n cur : Nat} {bad : Option Nat} {l : List UInt8} (hz : (tokAt toks (n - 1)).sort = 0) (hc : cur < n) : cur ≤ (eatR toks cur bad l).1 ∧ (eatR toks cur bad l).1 < n := by
  unfold eatR
  split
  · rename_i h
    have hne : cur ≠ n - 1 := by
      rintro rfl
      simp [nextB, isTk, hz] at h
    exact ⟨by simp, by simp only; omega⟩
  · exact ⟨Nat.le_refl _, hc⟩

end Go.Proofs.YtgbmakpdjdigmaaGreatDoor

/- The reference's reader: get: the token it gives, the reader's block behind it; nothing else is turned. -/
namespace Go.Proofs.YtgbmakpdjdigmaaGreatDoor
open Go.RowKit

def tkV (t : Tk) : Value := .agg #[.string t.text, .int .i64 t.pos, .int .i64 t.sort]
def getR (toks : List Tk) (cur : Nat) (bad : Option Nat) (sort : Nat) : Tk × Nat × Option Nat :=
  if bad.isNone = true ∧ (tokAt toks cur).sort = sort then (tokAt toks cur, cur + 1, bad) else (tkNo, cur, failO bad (tokAt toks cur).pos)

set_option maxRecDepth 100000 in
set_option maxHeartbeats 400000 in
theorem get_any (rb pb g n cap cur sort : Nat) (bad : Option Nat) (toks : List Tk) (w : World) (hr : RdBlk rb pb g n cap cur bad w) (ht : TokRow g n cap toks w) (hc : cur < n) :
    Calls Tryz.prog 89 #[.pointer (some ⟨rb, 0, none⟩), .int .i64 sort] w fun e w' => e = .returned (tkV (getR toks cur bad sort).1) ∧ RdBlk rb pb g n cap (getR toks cur bad sort).2.1 (getR toks cur bad sort).2.2 w' ∧ Only (fun k => k = rb) w w' := by
  obtain ⟨t0, t1, t2⟩ := ht.cells hc
  have hne := ht.ne hr (by decide)
  have hn := ht.2.2
  have r0 := blk_cell hr 0
  have r1 := blk_cell hr 1
  have r2 := blk_cell hr 2
  have f1 := blk_frozen hr 1
  simp only [List.getElem?_toArray, List.getElem?_cons_zero, List.getElem?_cons_succ] at r0 r1 r2
  have lr := blk_lt hr
  have lg : g < w.heap.size := (ht.1.lt g rfl).2
  have HR : Hid (RdBlk rb pb g n cap cur bad w) := hr
  have HT : Hid (TokRow g n cap toks w) := ht
  clear hr ht
  cases bad with
  | some b =>
    have hb : decide ((0 : Int) ≤ (b : Int)) = true := by simp
    simp only [badI] at r2
    have hv : getR toks cur (some b) sort = (tkNo, cur, some b) := by simp [getR, failO]
    rw [hv]
    clear hv
    generalize tokAt toks cur = t at *
    go_enter Tryz.func89, Tryz.ntmps89
    go_wp2
    go_region
    go_wp2_with fail
    refine (fail_any rb pb g n cap cur (some b) toks _ ?_ ?_ hc).mono ?_
    · exact (HR.out).only (((((Only.refl (fun _ => False) w).alloc _).alloc _)).drew) (fun h => h)
    · exact (HT.out).only (((((Only.refl (fun _ => False) w).alloc _).alloc _)).drew) (fun h => h)
    rintro e w2 ⟨rfl, hr2, ho2⟩
    have hB : w2.heap[w.heap.size]? = some (.cells #[.string { data := #[] }, .int .i64 0, .int .i64 0] 114 (0, 0)) := by
      rw [ho2.block w.heap.size (by simp; omega) (by omega)]
      exact (Below.heap_alloc _ _ _ (by simp)).trans (heap_alloc_new w _)
    have c0 := blk_cell hB 0
    have c1 := blk_cell hB 1
    have c2 := blk_cell hB 2
    have g0 := blk_frozen hB 0
    have g1 := blk_frozen hB 1
    have g2 := blk_frozen hB 2
    simp only [List.getElem?_toArray, List.getElem?_cons_zero, List.getElem?_cons_succ] at c0 c1 c2
    have l2 := blk_lt hB
    have HR2 : Hid (RdBlk rb pb g n cap cur (some b) w2) := hr2
    have HO2 := (((Only.refl (fun k => k = rb) w).alloc _).alloc _).drew.trans ho2
    clear hr2 ho2 hB
    go_wp2
    refine bodyPost_ret (v := tkV tkNo) (by simp [results, Tryz.results89, go_sem, tkV, tkNo, c0, c1, c2]; rfl) rfl ⟨rfl, ?_, ?_⟩
    · exact HR2.out.only (X := fun k => k = w.heap.size) (by repeat (first | exact Only.refl _ _ | refine Only.drew ?_ | refine Only.alloc ?_ _ | refine Only.set_at ?_ _ _)) (by omega)
    · repeat (first | exact HO2 | refine Only.drew ?_ | refine Only.alloc ?_ _ | refine Only.set_new ?_ _ _ (Nat.le_refl _))
  | none =>
    simp only [badI] at r2
    by_cases hs : (tokAt toks cur).sort = sort
    · have hs' : (((tokAt toks cur).sort : Int) != (sort : Int)) = false := by simp [hs]
      have hv : getR toks cur none sort = (tokAt toks cur, cur + 1, none) := by simp [getR, hs]
      rw [hv]
      clear hv hs
      generalize tokAt toks cur = t at *
      go_enter Tryz.func89, Tryz.ntmps89
      go_wp2
      go_region
      go_wp2
      refine bodyPost_ret (v := tkV t) (by simp [results, Tryz.results89, go_sem, tkV]) rfl ⟨rfl, ?_, ?_⟩
      · refine RdBlk.only (X := fun _ => False) (w := w.setCell ⟨rb, 1, none⟩ (.int .i64 ((cur : Int) + 1))) ?_ (((Only.refl _ _).alloc _).alloc _).drew (fun h => h)
        have := setCell_blk (w := w) HR.out 1 (.int .i64 ((cur : Int) + 1))
        simpa [RdBlk] using this
      · repeat (first | exact Only.refl _ _ | refine Only.drew ?_ | refine Only.alloc ?_ _ | refine Only.set_at ?_ _ _)
    · have hs' : (((tokAt toks cur).sort : Int) != (sort : Int)) = true := by simp; omega
      have hv : getR toks cur none sort = (tkNo, cur, failO none (tokAt toks cur).pos) := by simp [getR, hs]
      rw [hv]
      clear hv hs
      have HP : Hid (failO none (tokAt toks cur).pos = some (tokAt toks cur).pos) := rfl
      generalize ht : tokAt toks cur = t at *
      have HTT : Hid (tokAt toks cur = t) := ht
      clear ht
      go_enter Tryz.func89, Tryz.ntmps89
      go_wp2
      go_region
      go_wp2_with fail
      refine (fail_any rb pb g n cap cur none toks _ ?_ ?_ hc).mono ?_
      · exact (HR.out).only (((((Only.refl (fun _ => False) w).alloc _).alloc _)).drew) (fun h => h)
      · exact (HT.out).only (((((Only.refl (fun _ => False) w).alloc _).alloc _)).drew) (fun h => h)
      rw [HTT.out]
      rintro e w2 ⟨rfl, hr2, ho2⟩
      have hB : w2.heap[w.heap.size]? = some (.cells #[.string { data := #[] }, .int .i64 0, .int .i64 0] 114 (0, 0)) := by
        rw [ho2.block w.heap.size (by simp; omega) (by omega)]
        exact (Below.heap_alloc _ _ _ (by simp)).trans (heap_alloc_new w _)
      have c0 := blk_cell hB 0
      have c1 := blk_cell hB 1
      have c2 := blk_cell hB 2
      have g0 := blk_frozen hB 0
      have g1 := blk_frozen hB 1
      have g2 := blk_frozen hB 2
      simp only [List.getElem?_toArray, List.getElem?_cons_zero, List.getElem?_cons_succ] at c0 c1 c2
      have l2 := blk_lt hB
      have HR2 : Hid (RdBlk rb pb g n cap cur (failO none t.pos) w2) := hr2
      have HO2 := (((Only.refl (fun k => k = rb) w).alloc _).alloc _).drew.trans ho2
      clear hr2 ho2 hB
      go_wp2
      refine bodyPost_ret (v := tkV tkNo) (by simp [results, Tryz.results89, go_sem, tkV, tkNo, c0, c1, c2]; rfl) rfl ⟨rfl, ?_, ?_⟩
      · exact HR2.out.only (X := fun k => k = w.heap.size) (by repeat (first | exact Only.refl _ _ | refine Only.drew ?_ | refine Only.alloc ?_ _ | refine Only.set_at ?_ _ _)) (by omega)
      · repeat (first | exact HO2 | refine Only.drew ?_ | refine Only.alloc ?_ _ | refine Only.set_new ?_ _ _ (Nat.le_refl _))

end Go.Proofs.YtgbmakpdjdigmaaGreatDoor

/- Plain words for pointsmankeep's prog: lines in memory (LnAt), the program that is made (PF), how many lines belong to a function. No condition. -/
import Derived.Test.YtgbmakpdjdigmaaGreatDoorKpC
import Derived.Test.YtgbmakpdjdigmaaGreatDoorG01
namespace Go.Proofs.YtgbmakpdjdigmaaGreatDoor
open Go.RowKit

/-- The lines lie in memory. -/
structure LnRow (g off : Nat) (ls : List Ln) (w : World) : Prop where
  lt : ls ≠ [] → g < w.heap.size
  c0 : ∀ i (h : i < ls.length), w.cell? ⟨g, off + i * 6, none⟩ = some (.int .i64 ls[i].a0)
  c1 : ∀ i (h : i < ls.length), w.cell? ⟨g, off + i * 6 + 1, none⟩ = some (.int .i64 ls[i].a1)
  c2 : ∀ i (h : i < ls.length), w.cell? ⟨g, off + i * 6 + 2, none⟩ = some (.int .i64 ls[i].a2)
  c3 : ∀ i (h : i < ls.length), w.cell? ⟨g, off + i * 6 + 3, none⟩ = some (.int .i64 ls[i].a3)
  c4 : ∀ i (h : i < ls.length), w.cell? ⟨g, off + i * 6 + 4, none⟩ = some (.int .i64 ls[i].a4)
  c5 : ∀ i (h : i < ls.length), w.cell? ⟨g, off + i * 6 + 5, none⟩ = some (.int .i64 ls[i].a5)
theorem LnRow.only {g off : Nat} {ls : List Ln} {w w' : World} (h : LnRow g off ls w) (ho : Only (fun _ => False) w w') : LnRow g off ls w' := by
  have k : ∀ o, ls ≠ [] → w'.cell? ⟨g, o, none⟩ = w.cell? ⟨g, o, none⟩ := fun o hn => World.cell?_of_block (ho.block g (h.lt hn) (fun q => q))
  have e : ∀ i, i < ls.length → ls ≠ [] := fun i hi e => by subst e; simp at hi
  exact ⟨fun hn => Nat.lt_of_lt_of_le (h.lt hn) ho.size, fun i hi => (k _ (e i hi)).trans (h.c0 i hi), fun i hi => (k _ (e i hi)).trans (h.c1 i hi), fun i hi => (k _ (e i hi)).trans (h.c2 i hi), fun i hi => (k _ (e i hi)).trans (h.c3 i hi), fun i hi => (k _ (e i hi)).trans (h.c4 i hi), fun i hi => (k _ (e i hi)).trans (h.c5 i hi)⟩
/-- The slice of lines. -/
def LnAt (lv : Value) (ls : List Ln) (w : World) : Prop := ∃ (a : Option Addr) (cap : Nat), lv = .slice a ls.length cap ∧ ls.length ≤ cap ∧ (ls = [] ∨ ∃ g off, a = some ⟨g, off, none⟩ ∧ LnRow g off ls w)

abbrev pr0 : Array Value := #[.string { data := #[] }, .slice none 0 0, .int .i64 0, .int .i64 0]
/-- The program that is being made. -/
structure PF (w : World) (s : ByteArray) (v : Value) (pl ca : Int) (m : Nat) (wr : World) : Prop where
  out : Box (w.heap.size + 1) #[.string s, v, .int .i64 pl, .int .i64 ca] 56 wr
  res : Box w.heap.size pr0 56 wr
  row : ∃ xs, wr.ownsRow w.heap.size 68 8 v m xs
  only : Only (fun _ => False) w wr
theorem PF.quiet {w : World} {s : ByteArray} {v : Value} {pl ca : Int} {m : Nat} {wr wx : World} (h : PF w s v pl ca m wr) (ho : Only (fun _ => False) wr wx) : PF w s v pl ca m wx := by
  obtain ⟨xs, hr⟩ := h.row
  exact ⟨h.out.only ho (fun q => q), h.res.only ho (fun q => q), ⟨xs, ownsRow_only hr ho (fun _ _ q => q)⟩, h.only.tr0 ho⟩
theorem Only.set_far {w wr : World} {b i : Nat} {u : Value} (h : Only (fun _ => False) w wr) (hb : w.heap.size ≤ b) : Only (fun _ => False) w (wr.setCell ⟨b, i, none⟩ u) := h.set_new i u hb
theorem PF.set {w : World} {s : ByteArray} {v : Value} {pl ca : Int} {m : Nat} {wr : World} (h : PF w s v pl ca m wr) (s' : ByteArray) : PF w s' v pl ca m (wr.setCell ⟨w.heap.size + 1, 0, none⟩ (.string s')) := by
  obtain ⟨xs, hr⟩ := h.row
  have ho := (Only.refl (fun k => k = w.heap.size + 1) wr).set_at 0 (.string s')
  refine ⟨?_, h.res.only ho (by omega), ⟨xs, ownsRow_only hr ho (own_ne hr h.out (by decide))⟩, h.only.set_far (by omega)⟩
  have := h.out.set 0 (.string s')
  simpa using this
theorem PF.set2 {w : World} {s : ByteArray} {v : Value} {pl ca : Int} {m : Nat} {wr : World} (h : PF w s v pl ca m wr) (n : Int) : PF w s v n ca m (wr.setCell ⟨w.heap.size + 1, 2, none⟩ (.int .i64 n)) := by
  obtain ⟨xs, hr⟩ := h.row
  have ho := (Only.refl (fun k => k = w.heap.size + 1) wr).set_at 2 (.int .i64 n)
  refine ⟨?_, h.res.only ho (by omega), ⟨xs, ownsRow_only hr ho (own_ne hr h.out (by decide))⟩, h.only.set_far (by omega)⟩
  have := h.out.set 2 (.int .i64 n)
  simpa using this
theorem PF.set3 {w : World} {s : ByteArray} {v : Value} {pl ca : Int} {m : Nat} {wr : World} (h : PF w s v pl ca m wr) (n : Int) : PF w s v pl n m (wr.setCell ⟨w.heap.size + 1, 3, none⟩ (.int .i64 n)) := by
  obtain ⟨xs, hr⟩ := h.row
  have ho := (Only.refl (fun k => k = w.heap.size + 1) wr).set_at 3 (.int .i64 n)
  refine ⟨?_, h.res.only ho (by omega), ⟨xs, ownsRow_only hr ho (own_ne hr h.out (by decide))⟩, h.only.set_far (by omega)⟩
  have := h.out.set 3 (.int .i64 n)
  simpa using this

/-- Of how many lines, of the first sixty, is the function's number below f? Of how many of the first i is it f? -/
def cntA (ls : List Ln) (f : Nat) : Nat := (ls.take 60).countP (fun l => decide (pickN l.a0 4 < f))
def cntB (ls : List Ln) (f i : Nat) : Nat := (ls.take i).countP (fun l => decide (pickN l.a0 4 = f))
theorem cntA_le (ls : List Ln) (f : Nat) : cntA ls f ≤ 60 := Nat.le_trans (List.countP_le_length) (by simp; omega)
theorem cnt_sum (ls : List Ln) (f : Nat) : cntA ls f + cntB ls f 60 = cntA ls (f + 1) := by
  unfold cntA cntB
  induction ls.take 60 with
  | nil => rfl
  | cons a l ih =>
    simp only [List.countP_cons]
    by_cases h1 : pickN a.a0 4 < f
    · simp [h1, show ¬ pickN a.a0 4 = f from by omega, show pickN a.a0 4 < f + 1 from by omega]; omega
    · by_cases h2 : pickN a.a0 4 = f
      · simp [h2]; omega
      · simp [h1, h2, show ¬ pickN a.a0 4 < f + 1 from by omega]; omega
theorem cntB_snoc (ls : List Ln) (f i : Nat) (h : i < ls.length) : cntB ls f (i + 1) = cntB ls f i + (if pickN ls[i].a0 4 = f then 1 else 0) := by
  unfold cntB
  rw [List.take_succ_eq_append_getElem h, List.countP_append, List.countP_cons, List.countP_nil]
  simp
theorem cntB_end (ls : List Ln) (f i : Nat) (h : ¬ (i < ls.length ∧ i < 60)) (h2 : i ≤ 60) : cntB ls f i = cntB ls f 60 := by
  unfold cntB
  by_cases hi : i < ls.length
  · have : i = 60 := by omega
    rw [this]
  · rw [List.take_of_length_le (by omega), List.take_of_length_le (by omega)]
/-- What holds of the text ahead of function f. -/
structure TxA (ls : List Ln) (f : Nat) (l : List UInt8) : Prop where
  run : runA 0 l = some 0
  len : l.length ≤ 60 * f + 36 * cntA ls f
  head : 0 < f → headL <+: l
  nil : f = 0 → l = []

end Go.Proofs.YtgbmakpdjdigmaaGreatDoor

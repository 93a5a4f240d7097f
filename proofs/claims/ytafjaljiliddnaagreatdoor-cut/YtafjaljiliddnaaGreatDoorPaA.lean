/- The program's parser: its state, where it lies; kind and fail: what each answers, and the parser behind it; nothing else is turned. The next token lies within the tokens. -/
import Derived.Test.YtafjaljiliddnaaGreatDoorScI
import Derived.Test.YtafjaljiliddnaaGreatDoorScJ
namespace Go.Proofs.YtafjaljiliddnaaGreatDoor
open Go.RowKit

/-- The parser's state. -/
structure PS where
  next : Nat
  failed : Bool
  wrong : Nat
def ptNo : PT := ⟨0, ByteArray.empty, 0⟩
def ptAt (l : List PT) (i : Nat) : PT := l[i]?.getD ptNo
def failP (toks : List PT) (n : Nat) (x : PS) : PS := ⟨n - 1, true, if x.failed then x.wrong else (ptAt toks x.next).place⟩
def takeP (toks : List PT) (n k : Nat) (x : PS) : PS := if (ptAt toks x.next).kind = k then (if k = 0 then x else ⟨x.next + 1, x.failed, x.wrong⟩) else failP toks n x
def takeV (toks : List PT) (k : Nat) (x : PS) : PT := if (ptAt toks x.next).kind = k then ptAt toks x.next else ptNo
/-- The parser lies at block b. -/
def PaBlk (b g n cap : Nat) (x : PS) (w : World) : Prop := Box b #[.slice (some ⟨g, 0, none⟩) n cap, .int .i64 x.next, .bool x.failed, .int .i64 x.wrong] 220 w
/-- The tokens lie at block g. -/
def PtRow (g n cap : Nat) (toks : List PT) (w : World) : Prop := w.ownsRow 0 145 3 (.slice (some ⟨g, 0, none⟩) n cap) n (ptsCells toks) ∧ n = toks.length ∧ n ≤ 4001 ∧ DigOk toks
theorem ptsCells_at {l : List PT} {i : Nat} (h : i < l.length) : (ptsCells l)[i * 3]? = some (.int .i64 (ptAt l i).kind) ∧ (ptsCells l)[i * 3 + 1]? = some (.string (ptAt l i).text) ∧ (ptsCells l)[i * 3 + 2]? = some (.int .i64 (ptAt l i).place) := by
  induction l generalizing i with
  | nil => simp at h
  | cons t l ih =>
    cases i with
    | zero => simp [ptsCells, ptCells, ptAt]
    | succ i =>
      have := ih (i := i) (by simpa using h)
      simp only [ptsCells, List.flatMap_cons, ptAt, List.getElem?_cons_succ] at this ⊢
      have e : ∀ j, (ptCells t ++ List.flatMap ptCells l)[(i + 1) * 3 + j]? = (List.flatMap ptCells l)[i * 3 + j]? := by
        intro j
        rw [List.getElem?_append_right (by simp [ptCells]; omega)]
        congr 1
        simp [ptCells]; omega
      exact ⟨by rw [show (i + 1) * 3 = (i + 1) * 3 + 0 from rfl, e]; exact this.1, by rw [e]; exact this.2.1, by rw [e]; exact this.2.2⟩
theorem PtRow.cells {g n cap : Nat} {toks : List PT} {w : World} (h : PtRow g n cap toks w) {i : Nat} (hi : i < n) :
    w.cell? ⟨g, i * 3, none⟩ = some (.int .i64 (ptAt toks i).kind) ∧ w.cell? ⟨g, i * 3 + 1, none⟩ = some (.string (ptAt toks i).text) ∧ w.cell? ⟨g, i * 3 + 2, none⟩ = some (.int .i64 (ptAt toks i).place) := by
  have hn := h.2.1
  have hc := ptsCells_at (l := toks) (i := i) (by omega)
  exact ⟨by rw [h.1.cellAt _ (by omega)]; exact hc.1, by rw [h.1.cellAt _ (by omega)]; exact hc.2.1, by rw [h.1.cellAt _ (by omega)]; exact hc.2.2⟩
theorem PtRow.only {g n cap : Nat} {toks : List PT} {X : Nat → Prop} {w w' : World} (h : PtRow g n cap toks w) (ho : Only X w w') (hx : ¬ X g) : PtRow g n cap toks w' :=
  ⟨ownsRow_only h.1 ho (fun k hk => by simp [Value.ownBlock] at hk; subst hk; exact hx), h.2⟩
theorem PtRow.ne {g n cap b : Nat} {toks : List PT} {w : World} (h : PtRow g n cap toks w) {cs : Array Value} {t : TypeId} {fz : Nat × Nat} (hr : w.heap[b]? = some (.cells cs t fz)) (ht : t ≠ 145) : g ≠ b := fun e => own_ne h.1 hr ht g rfl e
theorem PtRow.lt {g n cap : Nat} {toks : List PT} {w : World} (h : PtRow g n cap toks w) : g < w.heap.size := (h.1.lt g rfl).2

set_option maxRecDepth 100000 in
set_option maxHeartbeats 400000 in
theorem kind_any (b g n cap : Nat) (x : PS) (toks : List PT) (w : World) (hr : PaBlk b g n cap x w) (ht : PtRow g n cap toks w) (hc : x.next < n) :
    Calls Tryz.prog 155 #[.pointer (some ⟨b, 0, none⟩)] w fun e w' => e = .returned (.int .i64 (ptAt toks x.next).kind) ∧ Only (fun _ => False) w w' := by
  obtain ⟨t0, t1, t2⟩ := ht.cells hc
  have hn := ht.2.2.1
  have r0 := blk_cell hr 0
  have r1 := blk_cell hr 1
  simp only [List.getElem?_toArray, List.getElem?_cons_zero, List.getElem?_cons_succ] at r0 r1
  have lr := blk_lt hr
  have lg := ht.lt
  clear hr ht
  generalize ptAt toks x.next = t at *
  go_enter Tryz.func155, Tryz.ntmps155
  go_wp2
  go_region
  go_wp2
  go_ret
  exact ⟨rfl, (by repeat (first | exact Only.refl _ _ | refine Only.drew ?_ | refine Only.drewN ?_ _ | refine Only.alloc ?_ _))⟩

set_option maxRecDepth 100000 in
set_option maxHeartbeats 400000 in
theorem pfail_any (b g n cap : Nat) (x : PS) (toks : List PT) (w : World) (hr : PaBlk b g n cap x w) (ht : PtRow g n cap toks w) (hc : x.next < n) :
    Calls Tryz.prog 194 #[.pointer (some ⟨b, 0, none⟩)] w fun e w' => e = .returned (.tuple #[]) ∧ PaBlk b g n cap (failP toks n x) w' ∧ Only (fun k => k = b) w w' := by
  obtain ⟨t0, t1, t2⟩ := ht.cells hc
  have hn := ht.2.2.1
  have r0 := blk_cell hr 0
  have r1 := blk_cell hr 1
  have r2 := blk_cell hr 2
  have r3 := blk_cell hr 3
  have ff := fun i => blk_frozen hr i
  simp only [List.getElem?_toArray, List.getElem?_cons_zero, List.getElem?_cons_succ] at r0 r1 r2 r3
  have lr := blk_lt hr
  have lg := ht.lt
  have hne := ht.ne hr (by decide)
  have HR := hide1 hr
  clear hr ht
  have hn1 : ((n : Int) - 1) = ((n - 1 : Nat) : Int) := by omega
  have HN := hide1 hn1
  clear hn1
  unfold failP
  generalize ptAt toks x.next = t at *
  cases hf : x.failed with
  | true =>
    rw [hf] at r2
    have HF := hide1 hf
    clear hf
    go_enter Tryz.func194, Tryz.ntmps194
    go_wp2
    go_end0
    refine ⟨rfl, ?_, (Only.refl _ _).set_at 1 _⟩
    have := Box.set HR.out 1 (.int .i64 ((n : Int) - 1))
    rw [HN.out] at this ⊢
    simpa [PaBlk, HF.out] using this
  | false =>
    rw [hf] at r2
    have HF := hide1 hf
    clear hf
    go_enter Tryz.func194, Tryz.ntmps194
    go_wp2
    go_region
    go_wp2
    go_end0
    refine ⟨rfl, ?_, ?_⟩
    · have := Box.only (((Box.set (w := w) HR.out 2 (.bool true)).set 3 (.int .i64 t.place)).set 1 (.int .i64 ((n : Int) - 1))) ((Only.refl (fun _ => False) _).drew) (fun q => q)
      rw [HN.out] at this ⊢
      simpa [PaBlk] using this
    · exact (((((Only.refl (fun k => k = b) w).drew).set_at 2 _).set_at 3 _).set_at 1 _)

end Go.Proofs.YtafjaljiliddnaaGreatDoor

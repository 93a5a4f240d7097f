/- ScI PaA PaB PaC: told at each. -/
import Derived.Test.YtgbmakpdjdigmaaGreatDoorG03
import Derived.Test.YtgbmakpdjdigmaaGreatDoorG01
import Derived.Lib.OthersKept

/- The program's Tokens: of a text it returns ErrLong, or ErrText and the place that scanRun tells, or a new slice that holds its tokens and the end; nothing old is turned. -/
namespace Go.Proofs.YtgbmakpdjdigmaaGreatDoor
open Go.RowKit

/-- What Tokens leaves. -/
def ptPost (w : World) (s : ByteArray) (V : Nat ⊕ Sc) (e : Ending) (w' : World) : Prop :=
  match V with
  | .inl p => e = .returned (.tuple #[.slice none 0 0, .int .i64 2, .int .i64 p]) ∧ Below w.heap.size w w'
  | .inr x => ∃ v, e = .returned (.tuple #[v, .int .i64 0, .int .i64 0]) ∧ w'.ownsRow w.heap.size 165 3 v (scanEnd s x).length (ptsCells (scanEnd s x)) ∧ (scanEnd s x).length ≤ 4001 ∧ Below w.heap.size w w'

theorem iter_pos {w : World} {k : Nat} {s : ByteArray} {p : Nat} (h : w.heap[k]? = some (.stringIter s p)) : w.iterPos k = p := by simp [World.iterPos, h]
theorem only_iterAt (w : World) (k : Nat) (s : ByteArray) (p : Nat) : Only (fun j => j = k) w (w.iterAt k s p) := by
  have h := Lib.below_iterAt (Below.refl 0 w) (k := k) (Nat.zero_le _) s p
  exact ⟨h.os, h.tape, h.output, h.size, fun j _ hj => Lib.iterAt_other _ _ _ _ _ (fun e => hj e)⟩
theorem own_iter {w : World} {B : Nat} {e : TypeId} {size : Nat} {v : Value} {n : Nat} {xs : List Value} (h : w.ownsRow B e size v n xs) {b : Nat} {s : ByteArray} {p : Nat} (hb : w.heap[b]? = some (.stringIter s p)) : ∀ k, v.ownBlock = some k → k ≠ b := by
  rintro k hk rfl
  rcases h.2 with ⟨h2, _⟩ | ⟨g', cap', cur', hv, _, hh, _⟩
  · rw [h2] at hk; simp [Value.ownBlock] at hk
  · rw [hv] at hk
    simp [Value.ownBlock] at hk
    subst hk
    rw [hb] at hh
    cases hh
theorem ScS.iter {B b k : Nat} {s t : ByteArray} {v : Value} {x : Sc} {w : World} {p q : Nat} (h : ScS B b s v x w) (hk : w.heap[k]? = some (.stringIter t p)) (hb : b ≠ k) : ScS B b s v x (w.iterAt k t q) :=
  ⟨h.1.only (only_iterAt _ _ _ _) hb, ownsRow_only h.2 (only_iterAt _ _ _ _) (own_iter h.2 hk)⟩
theorem Fr.iter {b k : Nat} {B : Nat} {s t : ByteArray} {v v' : Value} {x : Sc} {w w' : World} {p : Nat} (h : Fr b v v' w w') (hs : ScS B b s v x w) (hk : w.heap[k]? = some (.stringIter t p)) (hb : b ≠ k) : w'.heap[k]? = some (.stringIter t p) := by
  rw [h.only.block k (blk_lt hk) ?_]
  · exact hk
  · rintro (q | q)
    · exact hb q.symm
    · exact own_iter hs.2 hk k q rfl
theorem Fr.below {b : Nat} {B : Nat} {s : ByteArray} {v v' : Value} {x : Sc} {w w' : World} (h : Fr b v v' w w') (hs : ScS B b s v x w) (hB : B ≤ w.heap.size) (hb : B ≤ b) : Below B w w' :=
  h.only.belowB hB (fun k hk => hk.elim (fun e => by omega) (fun q => (hs.2.lt k q).1))

set_option maxRecDepth 100000 in
set_option maxHeartbeats 1000000 in
theorem tokens_long (s : ByteArray) (hs : 4000 < s.size) (hm : s.size ≤ maxLen) (w : World) :
    Calls Tryz.prog 78 #[.string s] w fun e w' => e = .returned (.tuple #[.slice none 0 0, .int .i64 1, .int .i64 0]) ∧ w' = w := by
  unfold maxLen at hm
  go_enter Tryz.func78, Tryz.ntmps78
  go_wp2
  go_ret3
  exact ⟨rfl, rfl⟩

set_option maxRecDepth 100000 in
set_option maxHeartbeats 1000000 in
theorem tokens_any (s : ByteArray) (hs : s.size ≤ 4000) (w : World) :
    Calls Tryz.prog 78 #[.string s] w fun e w' => ptPost w s (scanRun s s.size 0 x0) e w' := by
  generalize hV : scanRun s s.size 0 x0 = V
  have HV : Hid (scanRun s s.size 0 x0 = V) := hV
  clear hV
  go_enter Tryz.func78, Tryz.ntmps78
  go_wp2
  go_loopw [6, 7, 8, 9] (fun _ _ _ _ wr => ∃ (pos q f : Nat) (v : Value) (x : Sc), wr.heap[w.heap.size + 1]? = some (.stringIter s pos) ∧ ScS w.heap.size w.heap.size s v x wr ∧ Below w.heap.size w wr ∧ s.size - pos ≤ f ∧ ScOk q x ∧ q ≤ pos ∧ q ≤ s.size ∧ Hid (scanRun s f pos x = V)) (fun _ _ _ _ wr => s.size - wr.iterPos (w.heap.size + 1))
  case atStart =>
    refine ⟨0, 0, s.size, .slice none 0 0, x0, ?_, ?_, ?_, by omega, ⟨Nat.le_refl _, by simp, by simp⟩, Nat.le_refl _, Nat.zero_le _, HV⟩
    · have := World.iter_heap (w.alloc (.cells #[.string s, .slice none 0 0, .bool false, .int .i64 0, .int .i64 0] 231)) s 0
      simpa using this
    · exact ⟨(Box.new w #[.string s, .slice none 0 0, .bool false, .int .i64 0, .int .i64 0] 231).alloc _, World.ownsRow_nil _ _ _ _⟩
    · exact ((Below.refl _ _).alloc (Nat.le_refl _) _).alloc (by simp) _
  case round =>
    obtain ⟨pos, q, f, v, x, hit, hsc, hbw, hf, hok, hq1, hq2, HC⟩ := hrel
    clear HV
    have hpos0 := iter_pos hit
    have hzw := hbw.size
    by_cases hp : pos < s.size
    · have hnx : ∀ ty, (Instr.next (.pointer (some ⟨w.heap.size + 1, 0, none⟩)) true ty).run Tryz.prog wr = _ := fun ty => Lib.run_next_any_at wr (w.heap.size + 1) s pos ty hit hp
      have hit2 := Lib.iterAt_heap wr (w.heap.size + 1) s pos (pos + (Utf8.decode s pos).2) hit
      have hbw2 := Lib.below_iterAt hbw (k := w.heap.size + 1) (by omega) s (pos + (Utf8.decode s pos).2)
      have hsc2 := hsc.iter (q := pos + (Utf8.decode s pos).2) hit (by omega)
      have hwd := decode_pos s pos hp
      have hok2 := hok.more hq1
      generalize wr.iterAt (w.heap.size + 1) s (pos + (Utf8.decode s pos).2) = W1 at *
      have hz1 := hbw2.size
      obtain ⟨y, hy⟩ : ∃ y, takeS s pos (Utf8.decode s pos).1 x = y := ⟨_, rfl⟩
      have HY := hide1 hy
      have HOK := hide1 hok2
      have HSC := hide1 hsc2
      have HIT := hide1 hit2
      have HBW := hide1 hbw2
      clear hit hsc hbw hok hok2 hsc2 hit2 hbw2 hy
      obtain ⟨y1, y2, y3⟩ := y
      cases y3 with
      | true =>
        go_wp2_with (go_at_call 115; refine (take_any w.heap.size w.heap.size s v x pos (Utf8.decode s pos).1 _ hs HSC.out hz1 hp HOK.out).mono ?_; rw [HY.out]; rintro e w2 ⟨rfl, v2, h1, h2⟩)
        obtain ⟨f', hf', he⟩ := scanRun_go (x := x) hf hp (by rw [HY.out])
        rw [HY.out] at he
        have hok3 : ScOk (pos + 1) y1 := by have := takeS_ok (s := s) (r := (Utf8.decode s pos).1) HOK.out (by rw [HY.out]); rw [HY.out] at this; exact this
        have hit3 := h2.iter HSC.out HIT.out (by omega)
        go_roundw
        case rel => exact ⟨pos + (Utf8.decode s pos).2, pos + 1, f', v2, y1, hit3, h1, HBW.out.trans (h2.below HSC.out hz1 (Nat.le_refl _)), hf', hok3, by omega, by omega, by show _ = _; rw [← he]; exact HC.out⟩
        case measure => rw [iter_pos hit3, hpos0]; omega
      | false =>
        go_wp2_with (go_at_call 115; refine (take_any w.heap.size w.heap.size s v x pos (Utf8.decode s pos).1 _ hs HSC.out hz1 hp HOK.out).mono ?_; rw [HY.out]; rintro e w2 ⟨rfl, v2, h1, h2⟩)
        go_ret3
        have hv : V = .inl y2 := by
          have := scanRun_bad (x := x) hf hp (by rw [HY.out])
          rw [HY.out] at this
          rw [← HC.out, this]
        subst hv
        exact ⟨rfl, HBW.out.trans (h2.below HSC.out hz1 (Nat.le_refl _))⟩
    · have hnx : ∀ ty, (Instr.next (.pointer (some ⟨w.heap.size + 1, 0, none⟩)) true ty).run Tryz.prog wr = _ := fun ty => Lib.run_next_end_at wr (w.heap.size + 1) s pos ty hit hp
      have hv : V = .inr x := by rw [← HC.out, scanRun_end hp]
      subst hv
      have HSC := hide1 hsc
      have HBW := hide1 hbw
      have hoke := hok.more hq2
      have HOK := hide1 hoke
      clear hit hsc hbw hok HC hoke
      have hm3 := (HOK.out.endW (s := s)).many
      go_wp2_with (first
        | (go_at_call 116; refine (endWord_any w.heap.size w.heap.size s v x s.size _ hs HSC.out hzw (Nat.le_refl _) HOK.out).mono ?_; rintro e w1 ⟨rfl, v1, h1, h2⟩; have hz2 := h2.only.size)
        | (go_at_call 117; refine (add_any w.heap.size w.heap.size s v1 (endW s s.size x) 0 s.size s.size _ hs h1 (by omega) (Nat.le_refl _) (Nat.le_refl _) (by omega)).mono ?_; rintro e w2 ⟨rfl, v2, h3, h4⟩; have c1 := h3.1.cell 1; simp only [List.getElem?_toArray, List.getElem?_cons_zero, List.getElem?_cons_succ] at c1; obtain ⟨va, vl, vc, rfl⟩ := owns_form h3.2))
      go_ret3
      refine ⟨_, rfl, ?_, ?_, ?_⟩
      · have := h3.2
        simpa [scanEnd, pushT] using this
      · simp [scanEnd]; omega
      · exact (HBW.out.trans (h2.below HSC.out hzw (Nat.le_refl _))).trans (h4.below h1 (by omega) (Nat.le_refl _))

end Go.Proofs.YtgbmakpdjdigmaaGreatDoor

/- The program's parser: its state, where it lies; kind and fail: what each answers, and the parser behind it; nothing else is turned. The next token lies within the tokens. -/
namespace Go.Proofs.YtgbmakpdjdigmaaGreatDoor
open Go.RowKit

/-- The parser's state. -/
structure PS where
  next : Nat
  failed : Bool
  wrong : Nat
def ptNo : PT := ⟨0, ByteArray.empty, 0⟩
def ptAt (l : List PT) (i : Nat) : PT := l[i]?.getD ptNo
def failP (toks : List PT) (n : Nat) (x : PS) : PS := ⟨n - 1, true, if x.failed then x.wrong else (ptAt toks x.next).place⟩
def takeP (toks : List PT) (n k : Nat) (x : PS) : PS := if (ptAt toks x.next).kind = k then (if k = 0 then x else ⟨x.next + 1, x.failed, x.wrong⟩) else failP toks n x
def takeV (toks : List PT) (k : Nat) (x : PS) : PT := if (ptAt toks x.next).kind = k then ptAt toks x.next else ptNo
/-- The parser lies at block b. -/
def PaBlk (b g n cap : Nat) (x : PS) (w : World) : Prop := Box b #[.slice (some ⟨g, 0, none⟩) n cap, .int .i64 x.next, .bool x.failed, .int .i64 x.wrong] 236 w
/-- The tokens lie at block g. -/
def PtRow (g n cap : Nat) (toks : List PT) (w : World) : Prop := w.ownsRow 0 165 3 (.slice (some ⟨g, 0, none⟩) n cap) n (ptsCells toks) ∧ n = toks.length ∧ n ≤ 4001 ∧ DigOk toks
theorem ptsCells_at {l : List PT} {i : Nat} (h : i < l.length) : (ptsCells l)[i * 3]? = some (.int .i64 (ptAt l i).kind) ∧ (ptsCells l)[i * 3 + 1]? = some (.string (ptAt l i).text) ∧ (ptsCells l)[i * 3 + 2]? = some (.int .i64 (ptAt l i).place) := by
  induction l generalizing i with
  | nil => simp at h
  | cons t l ih =>
    cases i with
    | zero => simp [ptsCells, ptCells, ptAt]
    | succ i =>
      have := ih (i := i) (by simpa using h)
      simp only [ptsCells, List.flatMap_cons, ptAt, List.getElem?_cons_succ] at this ⊢
      have e : ∀ j, (ptCells t ++ List.flatMap ptCells l)[(i + 1) * 3 + j]? = (List.flatMap ptCells l)[i * 3 + j]? := by
        intro j
        rw [List.getElem?_append_right (by simp [ptCells]; omega)]
        congr 1
        simp [ptCells]; omega
      exact ⟨by rw [show (i + 1) * 3 = (i + 1) * 3 + 0 from rfl, e]; exact this.1, by rw [e]; exact this.2.1, by rw [e]; exact this.2.2⟩
theorem PtRow.cells {g n cap : Nat} {toks : List PT} {w : World} (h : PtRow g n cap toks w) {i : Nat} (hi : i < n) :
    w.cell? ⟨g, i * 3, none⟩ = some (.int .i64 (ptAt toks i).kind) ∧ w.cell? ⟨g, i * 3 + 1, none⟩ = some (.string (ptAt toks i).text) ∧ w.cell? ⟨g, i * 3 + 2, none⟩ = some (.int .i64 (ptAt toks i).place) := by
  have hn := h.2.1
  have hc := ptsCells_at (l := toks) (i := i) (by omega)
  exact ⟨by rw [h.1.cellAt _ (by omega)]; exact hc.1, by rw [h.1.cellAt _ (by omega)]; exact hc.2.1, by rw [h.1.cellAt _ (by omega)]; exact hc.2.2⟩
theorem PtRow.only {g n cap : Nat} {toks : List PT} {X : Nat → Prop} {w w' : World} (h : PtRow g n cap toks w) (ho : Only X w w') (hx : ¬ X g) : PtRow g n cap toks w' :=
  ⟨ownsRow_only h.1 ho (fun k hk => by simp [Value.ownBlock] at hk; subst hk; exact hx), h.2⟩
theorem PtRow.ne {g n cap b : Nat} {toks : List PT} {w : World} (h : PtRow g n cap toks w) {cs : Array Value} {t : TypeId} {fz : Nat × Nat} (hr : w.heap[b]? = some (.cells cs t fz)) (ht : t ≠ 165) : g ≠ b := fun e => own_ne h.1 hr ht g rfl e
theorem PtRow.lt {g n cap : Nat} {toks : List PT} {w : World} (h : PtRow g n cap toks w) : g < w.heap.size := (h.1.lt g rfl).2

set_option maxRecDepth 100000 in
set_option maxHeartbeats 400000 in
theorem kind_any (b g n cap : Nat) (x : PS) (toks : List PT) (w : World) (hr : PaBlk b g n cap x w) (ht : PtRow g n cap toks w) (hc : x.next < n) :
    Calls Tryz.prog 173 #[.pointer (some ⟨b, 0, none⟩)] w fun e w' => e = .returned (.int .i64 (ptAt toks x.next).kind) ∧ Only (fun _ => False) w w' := by
  obtain ⟨t0, t1, t2⟩ := ht.cells hc
  have hn := ht.2.2.1
  have r0 := blk_cell hr 0
  have r1 := blk_cell hr 1
  simp only [List.getElem?_toArray, List.getElem?_cons_zero, List.getElem?_cons_succ] at r0 r1
  have lr := blk_lt hr
  have lg := ht.lt
  clear hr ht
  generalize ptAt toks x.next = t at *
  go_enter Tryz.func173, Tryz.ntmps173
  go_wp2
  go_region
  go_wp2
  go_ret
  exact ⟨rfl, (by repeat (first | exact Only.refl _ _ | refine Only.drew ?_ | refine Only.drewN ?_ _ | refine Only.alloc ?_ _))⟩

set_option maxRecDepth 100000 in
set_option maxHeartbeats 400000 in
theorem pfail_any (b g n cap : Nat) (x : PS) (toks : List PT) (w : World) (hr : PaBlk b g n cap x w) (ht : PtRow g n cap toks w) (hc : x.next < n) :
    Calls Tryz.prog 210 #[.pointer (some ⟨b, 0, none⟩)] w fun e w' => e = .returned (.tuple #[]) ∧ PaBlk b g n cap (failP toks n x) w' ∧ Only (fun k => k = b) w w' := by
  obtain ⟨t0, t1, t2⟩ := ht.cells hc
  have hn := ht.2.2.1
  have r0 := blk_cell hr 0
  have r1 := blk_cell hr 1
  have r2 := blk_cell hr 2
  have r3 := blk_cell hr 3
  have ff := fun i => blk_frozen hr i
  simp only [List.getElem?_toArray, List.getElem?_cons_zero, List.getElem?_cons_succ] at r0 r1 r2 r3
  have lr := blk_lt hr
  have lg := ht.lt
  have hne := ht.ne hr (by decide)
  have HR := hide1 hr
  clear hr ht
  have hn1 : ((n : Int) - 1) = ((n - 1 : Nat) : Int) := by omega
  have HN := hide1 hn1
  clear hn1
  unfold failP
  generalize ptAt toks x.next = t at *
  cases hf : x.failed with
  | true =>
    rw [hf] at r2
    have HF := hide1 hf
    clear hf
    go_enter Tryz.func210, Tryz.ntmps210
    go_wp2
    go_end0
    refine ⟨rfl, ?_, (Only.refl _ _).set_at 1 _⟩
    have := Box.set HR.out 1 (.int .i64 ((n : Int) - 1))
    rw [HN.out] at this ⊢
    simpa [PaBlk, HF.out] using this
  | false =>
    rw [hf] at r2
    have HF := hide1 hf
    clear hf
    go_enter Tryz.func210, Tryz.ntmps210
    go_wp2
    go_region
    go_wp2
    go_end0
    refine ⟨rfl, ?_, ?_⟩
    · have := Box.only (((Box.set (w := w) HR.out 2 (.bool true)).set 3 (.int .i64 t.place)).set 1 (.int .i64 ((n : Int) - 1))) ((Only.refl (fun _ => False) _).drew) (fun q => q)
      rw [HN.out] at this ⊢
      simpa [PaBlk] using this
    · exact (((((Only.refl (fun k => k = b) w).drew).set_at 2 _).set_at 3 _).set_at 1 _)

end Go.Proofs.YtgbmakpdjdigmaaGreatDoor

/- The program's parser: take: the token it gives, and the parser behind it; nothing else is turned. -/
namespace Go.Proofs.YtgbmakpdjdigmaaGreatDoor
open Go.RowKit

def ptV (t : PT) : Value := .agg #[.int .i64 t.kind, .string t.text, .int .i64 t.place]

set_option maxRecDepth 100000 in
set_option maxHeartbeats 1000000 in
theorem ptake_any (b g n cap k : Nat) (x : PS) (toks : List PT) (w : World) (hr : PaBlk b g n cap x w) (ht : PtRow g n cap toks w) (hc : x.next < n) :
    Calls Tryz.prog 174 #[.pointer (some ⟨b, 0, none⟩), .int .i64 k] w fun e w' => e = .returned (ptV (takeV toks k x)) ∧ PaBlk b g n cap (takeP toks n k x) w' ∧ Only (fun k => k = b) w w' := by
  obtain ⟨t0, t1, t2⟩ := ht.cells hc
  have hn := ht.2.2.1
  have r0 := blk_cell hr 0
  have r1 := blk_cell hr 1
  have ff := fun i => blk_frozen hr i
  simp only [List.getElem?_toArray, List.getElem?_cons_zero, List.getElem?_cons_succ] at r0 r1
  have lr := blk_lt hr
  have lg := ht.lt
  have hne := ht.ne hr (by decide)
  have HR := hide1 hr
  have HT := hide1 ht
  clear hr ht
  by_cases hk : (ptAt toks x.next).kind = k
  · have hv : takeV toks k x = ptAt toks x.next := by simp [takeV, hk]
    rw [hv]
    have hk' : (((ptAt toks x.next).kind : Int) != (k : Int)) = false := by simp [hk]
    by_cases h0 : k = 0
    · have hp : takeP toks n k x = x := by simp [takeP, hk, h0]
      rw [hp]
      have h0' : ((k : Int) != 0) = false := by simp [h0]
      clear hv hp hk h0
      generalize ptAt toks x.next = t at *
      go_enter Tryz.func174, Tryz.ntmps174
      go_wp2
      go_region
      go_wp2
      refine bodyPost_ret (v := ptV t) (by simp [results, Tryz.results174, go_sem, ptV]) rfl ⟨rfl, ?_, ?_⟩
      · exact Box.only (X := fun _ => False) HR.out (by repeat (first | exact Only.refl _ _ | refine Only.drew ?_ | refine Only.drewN ?_ _ | refine Only.alloc ?_ _)) (fun q => q)
      · exact (by repeat (first | exact Only.refl _ _ | refine Only.drew ?_ | refine Only.drewN ?_ _ | refine Only.alloc ?_ _))
    · have hp : takeP toks n k x = ⟨x.next + 1, x.failed, x.wrong⟩ := by simp [takeP, hk, h0]
      rw [hp]
      have h0' : ((k : Int) != 0) = true := by simp [h0]
      clear hv hp hk h0
      generalize ptAt toks x.next = t at *
      go_enter Tryz.func174, Tryz.ntmps174
      go_wp2
      go_region
      go_wp2
      refine bodyPost_ret (v := ptV t) (by simp [results, Tryz.results174, go_sem, ptV]) rfl ⟨rfl, ?_, ?_⟩
      · have := Box.only (X := fun _ => False) (Box.set HR.out 1 (.int .i64 ((x.next : Int) + 1))) ((((Only.refl _ _).alloc (.cells #[.int .i64 t.kind, .string t.text, .int .i64 t.place] 165)).alloc (.cells #[.int .i64 t.kind, .string t.text, .int .i64 t.place] 165)).drew) (fun q => q)
        simpa [PaBlk] using this
      · exact (((((Only.refl (fun k => k = b) w).set_at 1 _).alloc _).alloc _).drew)
  · have hv : takeV toks k x = ptNo := by simp [takeV, hk]
    have hp : takeP toks n k x = failP toks n x := by simp [takeP, hk]
    rw [hv, hp]
    have hk' : (((ptAt toks x.next).kind : Int) != (k : Int)) = true := by simp; omega
    clear hv hp hk
    generalize ptAt toks x.next = t at *
    go_enter Tryz.func174, Tryz.ntmps174
    go_wp2
    go_region
    go_wp2_with fail
    refine (pfail_any b g n cap x toks _ ?_ ?_ hc).mono ?_
    · exact Box.only (X := fun _ => False) HR.out (by repeat (first | exact Only.refl _ _ | refine Only.drew ?_ | refine Only.drewN ?_ _ | refine Only.alloc ?_ _)) (fun q => q)
    · exact HT.out.only (X := fun _ => False) (by repeat (first | exact Only.refl _ _ | refine Only.drew ?_ | refine Only.drewN ?_ _ | refine Only.alloc ?_ _)) (fun q => q)
    rintro e w2 ⟨rfl, hr2, ho2⟩
    have hB : w2.heap[w.heap.size]? = some (.cells #[.int .i64 0, .string { data := #[] }, .int .i64 0] 165 (0, 0)) := by
      rw [ho2.block w.heap.size (by simp; omega) (by omega)]
      exact (Below.heap_alloc _ _ _ (by simp)).trans (heap_alloc_new w _)
    have c0 := blk_cell hB 0
    have c1 := blk_cell hB 1
    have c2 := blk_cell hB 2
    have g0 := fun i => blk_frozen hB i
    simp only [List.getElem?_toArray, List.getElem?_cons_zero, List.getElem?_cons_succ] at c0 c1 c2
    have l2 := blk_lt hB
    have HR2 := hide1 hr2
    have HO2 := (((Only.refl (fun k => k = b) w).alloc _).alloc _).drew.trans ho2
    clear hr2 ho2 hB
    go_wp2
    refine bodyPost_ret (v := ptV ptNo) (by simp [results, Tryz.results174, go_sem, ptV, ptNo, c0, c1, c2]; rfl) rfl ⟨rfl, ?_, ?_⟩
    · exact Box.only (X := fun k => k = w.heap.size) HR2.out (by repeat (first | exact Only.refl _ _ | refine Only.drew ?_ | refine Only.alloc ?_ _ | refine Only.set_at ?_ _ _)) (by omega)
    · repeat (first | exact HO2 | refine Only.drew ?_ | refine Only.alloc ?_ _ | refine Only.set_new ?_ _ _ (Nat.le_refl _))

end Go.Proofs.YtgbmakpdjdigmaaGreatDoor

/- The program's parser: name and names: what each gives, and the parser behind it; nothing else is turned. -/
namespace Go.Proofs.YtgbmakpdjdigmaaGreatDoor
open Go.RowKit

def nmV (t : PT) : Value := .agg #[.string t.text, .int .i64 t.place]
def nmCells (t : PT) : List Value := [.string t.text, .int .i64 t.place]
def nmsCells (l : List PT) : List Value := l.flatMap nmCells
theorem nmsCells_snoc (l : List PT) (t : PT) : nmsCells (l ++ [t]) = nmsCells l ++ nmCells t := by simp [nmsCells]

set_option maxRecDepth 100000 in
set_option maxHeartbeats 1000000 in
theorem name_any (b g n cap : Nat) (x : PS) (toks : List PT) (w : World) (hr : PaBlk b g n cap x w) (ht : PtRow g n cap toks w) (hc : x.next < n) :
    Calls Tryz.prog 207 #[.pointer (some ⟨b, 0, none⟩)] w fun e w' => e = .returned (nmV (takeV toks 1 x)) ∧ PaBlk b g n cap (takeP toks n 1 x) w' ∧ Only (fun k => k = b) w w' := by
  have lr := blk_lt hr
  obtain ⟨t, ht'⟩ : ∃ t, takeV toks 1 x = t := ⟨_, rfl⟩
  obtain ⟨y, hy'⟩ : ∃ y, takeP toks n 1 x = y := ⟨_, rfl⟩
  rw [ht', hy']
  have HT' := hide1 ht'
  have HY' := hide1 hy'
  clear ht' hy'
  go_enter Tryz.func207, Tryz.ntmps207
  go_wp2_with fail
  refine (ptake_any b g n cap 1 x toks _ (Box.alloc hr _) (ht.only ((Only.refl (fun _ => False) _).alloc _) (fun q => q)) hc).mono ?_
  rw [HT'.out, HY'.out]
  rintro e w2 ⟨rfl, hr2, ho2⟩
  have hB : w2.heap[w.heap.size]? = some (.cells #[.string { data := #[] }, .int .i64 0] 197 (0, 0)) := by
    rw [ho2.block w.heap.size (by simp) (by omega)]
    exact heap_alloc_new w _
  have c0 := blk_cell hB 0
  have c1 := blk_cell hB 1
  have g0 := fun i => blk_frozen hB i
  simp only [List.getElem?_toArray, List.getElem?_cons_zero, List.getElem?_cons_succ] at c0 c1
  have l2 := blk_lt hB
  have HR2 := hide1 hr2
  have HO2 := ((Only.refl (fun k => k = b) w).alloc _).trans ho2
  clear hr2 ho2 hB hr ht
  unfold ptV
  go_wp2
  refine bodyPost_ret (v := nmV t) (by simp [results, Tryz.results207, go_sem, nmV, c0, c1, l2]) rfl ⟨rfl, ?_, ?_⟩
  · exact Box.only (X := fun k => k = w.heap.size) HR2.out (by repeat (first | exact Only.refl _ _ | refine Only.drew ?_ | refine Only.alloc ?_ _ | refine Only.set_at ?_ _ _)) (by omega)
  · repeat (first | exact HO2 | refine Only.drew ?_ | refine Only.alloc ?_ _ | refine Only.set_new ?_ _ _ (Nat.le_refl _))

/-- Names from a place on, behind those that are there. -/
def nmsR (toks : List PT) : Nat → PS → List PT → List PT × PS
  | 0, x, acc => (acc, x)
  | f + 1, x, acc => if (ptAt toks x.next).kind = 1 then nmsR toks f ⟨x.next + 1, x.failed, x.wrong⟩ (acc ++ [ptAt toks x.next]) else (acc, x)
theorem nmsR_stop {toks : List PT} {f : Nat} {x : PS} {acc : List PT} (h : ¬ (ptAt toks x.next).kind = 1) : nmsR toks f x acc = (acc, x) := by
  cases f with
  | zero => rfl
  | succ f => simp only [nmsR, if_neg h]
theorem nmsR_go {toks : List PT} {f n : Nat} {x : PS} {acc : List PT} (hf : n - 1 - x.next ≤ f) (hc : x.next < n) (hz : (ptAt toks (n - 1)).kind = 0) (h : (ptAt toks x.next).kind = 1) :
    x.next + 1 < n ∧ ∃ f', n - 1 - (x.next + 1) ≤ f' ∧ nmsR toks f x acc = nmsR toks f' ⟨x.next + 1, x.failed, x.wrong⟩ (acc ++ [ptAt toks x.next]) := by
  have hne : x.next ≠ n - 1 := by intro e; rw [e, hz] at h; omega
  refine ⟨by omega, ?_⟩
  cases f with
  | zero => omega
  | succ f => exact ⟨f, by omega, by simp only [nmsR]; rw [if_pos h]⟩
theorem takeP_lt {toks : List PT} {n k : Nat} {x : PS} (hz : (ptAt toks (n - 1)).kind = 0) (hc : x.next < n) : (takeP toks n k x).next < n := by
  unfold takeP
  split
  · rename_i h
    split
    · exact hc
    · rename_i h0
      have hne : x.next ≠ n - 1 := by intro e; rw [e, hz] at h; omega
      show x.next + 1 < n
      omega
  · show n - 1 < n
    omega
theorem nmsR_lt {toks : List PT} {n : Nat} (hz : (ptAt toks (n - 1)).kind = 0) : ∀ (f : Nat) (x : PS) (acc : List PT), x.next < n → (nmsR toks f x acc).2.next < n
  | 0, x, acc, h => h
  | f + 1, x, acc, h => by
    simp only [nmsR]
    split
    · rename_i hb
      have hne : x.next ≠ n - 1 := by intro e; rw [e, hz] at hb; omega
      exact nmsR_lt hz f _ _ (by show x.next + 1 < n; omega)
    · exact h
/-- What names gives. -/
def namesP (toks : List PT) (n : Nat) (x : PS) : List PT × PS :=
  ((nmsR toks toks.length (takeP toks n 10 x) []).1, takeP toks n 11 (nmsR toks toks.length (takeP toks n 10 x) []).2)
theorem namesP_lt {toks : List PT} {n : Nat} {x : PS} (hz : (ptAt toks (n - 1)).kind = 0) (hc : x.next < n) : (namesP toks n x).2.next < n :=
  takeP_lt hz (nmsR_lt hz _ _ _ (takeP_lt hz hc))
def paNext (b : Nat) (w : World) : Nat := match w.cell? ⟨b, 1, none⟩ with | some v => (intOf v).toNat | none => 0
theorem paNext_of {b g n cap : Nat} {x : PS} {w : World} (h : PaBlk b g n cap x w) : paNext b w = x.next := by
  have := blk_cell h 1
  simp only [List.getElem?_toArray, List.getElem?_cons_zero, List.getElem?_cons_succ] at this
  simp [paNext, this, intOf]

theorem Tryz.infoNm : (Tryz.prog.info? 197).map (fun i => (i.zero, i.size, i.bytes)) = some (some (.agg #[.string ByteArray.empty, .int .i64 0]), 2, 24) := by kernel_rfl

set_option maxRecDepth 100000 in
set_option maxHeartbeats 1000000 in
theorem names_any (b g n cap : Nat) (x : PS) (toks : List PT) (w : World) (hr : PaBlk b g n cap x w) (ht : PtRow g n cap toks w) (hc : x.next < n) (hz : (ptAt toks (n - 1)).kind = 0) :
    Calls Tryz.prog 208 #[.pointer (some ⟨b, 0, none⟩)] w fun e w' => ∃ v, e = .returned v ∧ w'.ownsRow w.heap.size 197 2 v (namesP toks n x).1.length (nmsCells (namesP toks n x).1) ∧ PaBlk b g n cap (namesP toks n x).2 w' ∧ Only (fun k => k = b) w w' := by
  obtain ⟨i0, hi, hz0, hz1, hz2⟩ := info_parts Tryz.infoNm
  have hn := ht.2.2.1
  have hnl := ht.2.1
  have hne := ht.ne hr (by decide)
  have lr := blk_lt hr
  have lg := ht.lt
  have hlt := takeP_lt (k := 10) hz hc
  unfold namesP
  generalize hV : nmsR toks toks.length (takeP toks n 10 x) [] = V
  have HV : Hid (nmsR toks toks.length (takeP toks n 10 x) [] = V) := hV
  have HZ := hide1 hz
  have HT := hide1 ht
  have HNL := hide1 hnl
  have HR := hide1 hr
  clear hV hz ht hnl hr
  go_enter Tryz.func208, Tryz.ntmps208
  go_wp2_with fail
  refine (ptake_any b g n cap 10 x toks _ HR.out HT.out hc).mono ?_
  rintro e w1 ⟨rfl, hr1, ho1⟩
  generalize takeP toks n 10 x = x1 at hr1 HV hlt
  have HR1 := hide1 hr1
  have HT1 := hide1 (HT.out.only ho1 hne)
  clear hr1 HR HT
  go_wp2_with fail
  go_loopw [3] (fun v wr => ∃ (y : PS) (f : Nat) (acc : List PT), y.next < n ∧ acc.length ≤ y.next ∧ Hid (PaBlk b g n cap y wr) ∧ Hid (PtRow g n cap toks wr) ∧ wr.ownsRow w.heap.size 197 2 v acc.length (nmsCells acc) ∧ Only (fun k => k = b) w wr ∧ n - 1 - y.next ≤ f ∧ Hid (nmsR toks f y acc = V)) (fun _ wr => n - paNext b wr)
  case atStart => exact ⟨x1, toks.length, [], hlt, by simp, HR1, HT1, World.ownsRow_nil _ _ _ _, ho1, by have := HNL.out; omega, HV⟩
  case round =>
    obtain ⟨y, f, acc, hk, hacc, hr, ht, hown, ho, hf, HC⟩ := hrel
    clear HV HR1 HT1 ho1 hlt
    have HCR := hide1 (paNext_of hr.out)
    by_cases h1 : (ptAt toks y.next).kind = 1
    · have h1' : (((ptAt toks y.next).kind : Int) == 1) = true := by simp [h1]
      obtain ⟨hk1, f', hf1, hf2⟩ := nmsR_go (acc := acc) hf hk HZ.out h1
      have HF : Hid (nmsR toks f' ⟨y.next + 1, y.failed, y.wrong⟩ (acc ++ [ptAt toks y.next]) = V) := by rw [← hf2]; exact HC.out
      have HG : Hid (takeV toks 1 y = ptAt toks y.next ∧ takeP toks n 1 y = ⟨y.next + 1, y.failed, y.wrong⟩) := ⟨by simp [takeV, h1], by simp [takeP, h1]⟩
      clear HC hf2 h1
      go_wp2_with fail
      refine (kind_any b g n cap y toks _ hr.out ht.out hk).mono ?_
      rintro e wk ⟨rfl, hok⟩
      have hrk := hr.out.only hok (fun q => q)
      have htk := ht.out.only hok (fun q => q)
      have hownk := ownsRow_only hown hok (fun _ _ q => q)
      have hoK := ho.tr0 hok
      clear hr ht hown ho hok
      go_wp2_with fail
      refine (name_any b g n cap y toks _ hrk htk hk).mono ?_
      rw [HG.out.1, HG.out.2]
      rintro e w1 ⟨rfl, hr1, ho1⟩
      have hown1 := ownsRow_only hownk ho1 (fun j hj => by have := (hownk.lt j hj).1; omega)
      have hot1 := hoK.trans ho1
      have HR1 := hide1 hr1
      have HT1 := hide1 (htk.only ho1 hne)
      have hs1 := hot1.size
      have lr1 : b < w1.heap.size := blk_lt hr1
      clear hr1 ho1 hrk htk hownk hoK
      unfold nmV
      go_wp2_with (at_builtin; refine wpList_append_own _ rfl _ _ 198 rfl w.heap.size 197 i0 (.agg #[.string ByteArray.empty, .int .i64 0]) 2 24 Tryz.underlying198 hi hz0 hz1 hz2 rfl (by decide) _ _ _ rfl (hown1.alloc _) ⟨w1.heap.size, 0, none⟩ 1 1 [.string (ptAt toks y.next).text, .int .i64 ((ptAt toks y.next).place : Int)] rfl rfl (cells_new rfl _ _) (fun x hx => by simp at hx; rcases hx with rfl | rfl <;> rfl) (by unfold maxLen; omega) (by omega) (by simp; omega) ?_; intro v' w3 hown' hgrow3 hnil3)
      have hg3 : (w1.alloc (.cells #[.string (ptAt toks y.next).text, .int .i64 ((ptAt toks y.next).place : Int)] 197)).grownBy w3 u3.ownBlock := hgrow3
      have hw3 : Only (fun k => u3.ownBlock = some k) w1 w3 := Only.grown ((Only.refl _ _).alloc _) hg3 (fun j hj => .inl hj)
      have hot3 : Only (fun k => k = b) w w3 := Only.grown (hot1.alloc _) hg3 (fun j hj => .inr (hown1.lt j hj).1)
      have hR3 : PaBlk b g n cap ⟨y.next + 1, y.failed, y.wrong⟩ w3 := Box.only HR1.out hw3 (fun h => by have := (hown1.lt _ h).1; omega)
      have hT3 : PtRow g n cap toks w3 := HT1.out.only hw3 (fun h => by have := (hown1.lt _ h).1; omega)
      have hn3 := paNext_of hR3
      refine ⟨⟨⟨y.next + 1, y.failed, y.wrong⟩, f', acc ++ [ptAt toks y.next], hk1, by simp; omega, hR3, hT3, ?_, hot3, hf1, HF⟩, ?_⟩
      · rw [nmsCells_snoc, List.length_append]; exact hown'
      · rw [hn3, HCR.out]; simp only; omega
    · have h1' : (((ptAt toks y.next).kind : Int) == 1) = false := by simp; omega
      have hv : V = (acc, y) := by rw [← HC.out, nmsR_stop h1]
      subst hv
      clear HC h1
      go_wp2_with fail
      refine (kind_any b g n cap y toks _ hr.out ht.out hk).mono ?_
      rintro e wk ⟨rfl, hok⟩
      have hrk := hr.out.only hok (fun q => q)
      have htk := ht.out.only hok (fun q => q)
      have hownk := ownsRow_only hown hok (fun _ _ q => q)
      have hoK := ho.tr0 hok
      clear hr ht hown ho hok
      go_wp2_with fail
      refine (ptake_any b g n cap 11 y toks _ hrk htk hk).mono ?_
      rintro e w1 ⟨rfl, hr1, ho1⟩
      go_wp2_with fail
      go_ret
      refine ⟨_, rfl, ?_, hr1, hoK.trans ho1⟩
      exact ownsRow_only hownk ho1 (fun j hj => by have := (hownk.lt j hj).1; omega)

end Go.Proofs.YtgbmakpdjdigmaaGreatDoor

/- RdD RdE: told at each. -/
import Derived.Test.YtgbmakpdjdigmaaGreatDoorG22
import Derived.Test.YtgbmakpdjdigmaaGreatDoorG21

/- The reference's reader: list: the names it gives, in new memory, and the reader's block behind it; nothing else is turned. -/
namespace Go.Proofs.YtgbmakpdjdigmaaGreatDoor
open Go.RowKit

/-- Names from a place on, behind those that are there. -/
def lstR (toks : List Tk) : Nat → Nat → Option Nat → List Tk → List Tk × Nat × Option Nat
  | 0, cur, bad, acc => (acc, cur, bad)
  | f + 1, cur, bad, acc => if bad = none ∧ (tokAt toks cur).sort = 1 then lstR toks f (cur + 1) bad (acc ++ [tokAt toks cur]) else (acc, cur, bad)
theorem lstR_stop {toks : List Tk} {f cur : Nat} {bad : Option Nat} {acc : List Tk} (h : ¬ (bad = none ∧ (tokAt toks cur).sort = 1)) : lstR toks f cur bad acc = (acc, cur, bad) := by
  cases f with
  | zero => rfl
  | succ f => simp only [lstR, if_neg h]
theorem lstR_go {toks : List Tk} {f cur n : Nat} {bad : Option Nat} {acc : List Tk} (hf : n - 1 - cur ≤ f) (hc : cur < n) (hz : (tokAt toks (n - 1)).sort = 0) (h : bad = none ∧ (tokAt toks cur).sort = 1) :
    cur + 1 < n ∧ ∃ f', n - 1 - (cur + 1) ≤ f' ∧ lstR toks f cur bad acc = lstR toks f' (cur + 1) bad (acc ++ [tokAt toks cur]) := by
  have hne : cur ≠ n - 1 := by rintro rfl; rw [hz] at h; omega
  refine ⟨by omega, ?_⟩
  cases f with
  | zero => omega
  | succ f => exact ⟨f, by omega, by simp only [lstR]; rw [if_pos h]⟩
theorem lstR_cur {toks : List Tk} {n : Nat} (hz : (tokAt toks (n - 1)).sort = 0) : ∀ (f cur : Nat) (bad : Option Nat) (acc : List Tk), cur < n → cur ≤ (lstR toks f cur bad acc).2.1 ∧ (lstR toks f cur bad acc).2.1 < n ∧ (lstR toks f cur bad acc).2.2 = bad
  | 0, cur, bad, acc, h => by unfold lstR; exact ⟨Nat.le_refl _, h, rfl⟩
  | f + 1, cur, bad, acc, h => by
    simp only [lstR]
    split
    · rename_i hb
      have hne : cur ≠ n - 1 := by rintro rfl; rw [hz] at hb; omega
      have := lstR_cur hz f (cur + 1) bad (acc ++ [tokAt toks cur]) (by omega)
      exact ⟨by omega, this.2⟩
    · exact ⟨Nat.le_refl _, h, rfl⟩

def rdCur (rb : Nat) (w : World) : Nat := match w.cell? ⟨rb, 1, none⟩ with | some v => (intOf v).toNat | none => 0
theorem rdCur_of {rb pb g n cap cur : Nat} {bad : Option Nat} {w : World} (h : RdBlk rb pb g n cap cur bad w) : rdCur rb w = cur := by
  have := blk_cell h 1
  simp only [List.getElem?_toArray, List.getElem?_cons_zero, List.getElem?_cons_succ] at this
  simp [rdCur, this, intOf]

/-- What list answers. -/
def listR (toks : List Tk) (cur : Nat) (bad : Option Nat) : List Tk × Nat × Option Nat :=
  ((lstR toks toks.length cur bad []).1, eatR toks (lstR toks toks.length cur bad []).2.1 (lstR toks toks.length cur bad []).2.2 [41])

set_option maxRecDepth 100000 in
set_option maxHeartbeats 1000000 in
theorem list_any (rb pb g n cap cur : Nat) (bad : Option Nat) (toks : List Tk) (w : World) (hr : RdBlk rb pb g n cap cur bad w) (ht : TokRow g n cap toks w) (hc : cur < n) (hz : (tokAt toks (n - 1)).sort = 0) :
    Calls Tryz.prog 90 #[.pointer (some ⟨rb, 0, none⟩)] w fun e w' => ∃ v, e = .returned v ∧ w'.ownsRow w.heap.size 114 3 v (listR toks cur bad).1.length (tksCells (listR toks cur bad).1) ∧ RdBlk rb pb g n cap (listR toks cur bad).2.1 (listR toks cur bad).2.2 w' ∧ Only (fun k => k = rb) w w' := by
  obtain ⟨i0, hi, hz0, hz1, hz2⟩ := info_parts Tryz.infoTk
  have hn := ht.2.2
  have hnl := ht.2.1
  have hne := ht.ne hr (by decide)
  have lr := blk_lt hr
  have lg : g < w.heap.size := (ht.1.lt g rfl).2
  unfold listR
  generalize hV : lstR toks toks.length cur bad [] = V
  have HV : Hid (lstR toks toks.length cur bad [] = V) := hV
  have HZ : Hid ((tokAt toks (n - 1)).sort = 0) := hz
  have HR : Hid (RdBlk rb pb g n cap cur bad w) := hr
  have HT : Hid (TokRow g n cap toks w) := ht
  have HNL : Hid (n = toks.length) := hnl
  clear hV hz hr ht hnl
  go_enter Tryz.func90, Tryz.ntmps90
  go_wp2
  go_loopw [3] (fun v wr => ∃ (k f : Nat) (acc : List Tk), k < n ∧ acc.length ≤ k ∧ Hid (RdBlk rb pb g n cap k bad wr) ∧ Hid (TokRow g n cap toks wr) ∧ wr.ownsRow w.heap.size 114 3 v acc.length (tksCells acc) ∧ Only (fun k => k = rb) w wr ∧ n - 1 - k ≤ f ∧ Hid (lstR toks f k bad acc = V)) (fun _ wr => n - rdCur rb wr)
  case atStart => exact ⟨cur, toks.length, [], hc, by simp, HR, HT, World.ownsRow_nil _ _ _ _, Only.refl _ _, by have := HNL.out; omega, HV⟩
  case round =>
    obtain ⟨k, f, acc, hk, hacc, hr, ht, hown, ho, hf, HC⟩ := hrel
    clear HV HR HT
    obtain ⟨t0, t1, t2⟩ := ht.out.cells hk
    have r0 := blk_cell hr.out 0
    have r1 := blk_cell hr.out 1
    have r2 := blk_cell hr.out 2
    simp only [List.getElem?_toArray, List.getElem?_cons_zero, List.getElem?_cons_succ] at r0 r1 r2
    have hcr := rdCur_of hr.out
    have HCR : Hid (rdCur rb wr = k) := hcr
    clear hcr
    cases bad with
    | some b =>
      simp only [badI] at r2
      have hb : decide ((b : Int) < 0) = false := by simp
      have hv : V = (acc, k, some b) := by rw [← HC.out, lstR_stop (by simp)]
      subst hv
      clear HC
      go_wp2_with fail
      go_quiet (fail)
      go_wp2_with fail
      refine (eat_l rb pb g n cap k (some b) toks _ [41] (by simp) (wr.drewN nq) hr.out ht.out hk).mono ?_
      rintro e w1 ⟨rfl, hr1, ho1⟩
      go_wp2_with fail
      go_ret
      refine ⟨_, rfl, ?_, hr1, (ho.drewN nq).trans ho1⟩
      exact ownsRow_only (w := wr.drewN nq) hown ho1 (fun j hj => by have := (hown.lt j hj).1; omega)
    | none =>
      simp only [badI] at r2
      by_cases h1 : (tokAt toks k).sort = 1
      · have h1' : (((tokAt toks k).sort : Int) == 1) = true := by simp [h1]
        obtain ⟨hk1, f', hf1, hf2⟩ := lstR_go (acc := acc) hf hk HZ.out ⟨rfl, h1⟩
        have HF : Hid (lstR toks f' (k + 1) none (acc ++ [tokAt toks k]) = V) := by rw [← hf2]; exact HC.out
        have HG : Hid (getR toks k none 1 = (tokAt toks k, k + 1, none)) := by show _ = _; simp [getR, h1]
        clear HC hf2 h1
        go_wp2_with fail
        go_quiet (fail)
        go_wp2_with fail
        refine (get_any rb pb g n cap k 1 none toks (wr.drewN nq) hr.out ht.out hk).mono ?_
        rw [HG.out]
        rintro e w1 ⟨rfl, hr1, ho1⟩
        have hown1 := ownsRow_only (w := wr.drewN nq) hown ho1 (fun j hj => by have := (hown.lt j hj).1; omega)
        have hot1 := (ho.drewN nq).trans ho1
        have HR1 : Hid (RdBlk rb pb g n cap (k + 1) none w1) := hr1
        have HT1 : Hid (TokRow g n cap toks w1) := (TokRow.only (w := wr.drewN nq) ht.out ho1 hne)
        have hs1 := hot1.size
        have lr1 : rb < w1.heap.size := blk_lt hr1
        clear hr1 ho1 t0 t1 t2 r0 r1 r2 hr ht h1'
        unfold tkV
        go_wp2_with (at_builtin; refine wpList_append_own _ rfl _ _ 27 rfl w.heap.size 114 i0 (.agg #[.string ByteArray.empty, .int .i64 0, .int .i64 0]) 3 32 Tryz.underlying27 hi hz0 hz1 hz2 rfl (by decide) _ _ _ rfl ((hown1.alloc _).alloc _) ⟨w1.heap.size + 1, 0, none⟩ 1 1 [.string (tokAt toks k).text, .int .i64 ((tokAt toks k).pos : Int), .int .i64 ((tokAt toks k).sort : Int)] rfl rfl (cell_three_at (by simp) _ _ _ _) (fun x hx => by simp at hx; rcases hx with rfl | rfl | rfl <;> rfl) (by unfold maxLen; omega) (by omega) (by simp; omega) ?_; intro v' w3 hown' hgrow3 hnil3)
        have hot3 : Only (fun k => k = rb) w w3 := Only.grown ((hot1.alloc _).alloc _) hgrow3 (fun j hj => .inr (hown1.lt j hj).1)
        have hgx : ∀ j, j < w1.heap.size → some j ≠ u3.ownBlock → w3.heap[j]? = w1.heap[j]? := fun j hj hjn => (hgrow3.block j (by simp; omega) hjn).trans ((Below.heap_alloc _ _ _ (by simp; omega)).trans (Below.heap_alloc _ _ _ hj))
        have HR3 : Hid (RdBlk rb pb g n cap (k + 1) none w3) := by
          show _ = _
          rw [hgx rb lr1 (fun h => by have := (hown1.lt _ h.symm).1; omega)]
          exact HR1.out
        have HT3 : Hid (TokRow g n cap toks w3) := by
          refine TokRow.only (w := w1) (X := fun j => u3.ownBlock = some j) HT1.out ?_ (fun h => by have := (hown1.lt _ h).1; omega)
          exact Only.grown (((Only.refl _ _).alloc _).alloc _) hgrow3 (fun j hj => .inl hj)
        have HO3 : Hid (w3.ownsRow w.heap.size 114 3 v' (acc.length + 1) (tksCells acc ++ tkCells (tokAt toks k))) := hown'
        have HCR3 : Hid (rdCur rb w3 = k + 1) := rdCur_of HR3.out
        clear hgrow3 hnil3 hown' hgx hown hown1 HR1 HT1 hot1
        go_wp2
        go_roundw
        case rel => exact ⟨k + 1, f', acc ++ [tokAt toks k], hk1, by simp; omega, HR3, HT3, by rw [tksCells_snoc, List.length_append]; exact HO3.out, hot3, hf1, HF⟩
        case measure => rw [HCR3.out, HCR.out]; omega
      · have h1' : (((tokAt toks k).sort : Int) == 1) = false := by simp; omega
        have hv : V = (acc, k, none) := by rw [← HC.out, lstR_stop (fun h => h1 h.2)]
        subst hv
        clear HC
        go_wp2_with fail
        go_quiet (fail)
        go_wp2_with fail
        refine (eat_l rb pb g n cap k none toks _ [41] (by simp) (wr.drewN nq) hr.out ht.out hk).mono ?_
        rintro e w1 ⟨rfl, hr1, ho1⟩
        go_wp2_with fail
        go_ret
        refine ⟨_, rfl, ?_, hr1, (ho.drewN nq).trans ho1⟩
        exact ownsRow_only (w := wr.drewN nq) hown ho1 (fun j hj => by have := (hown.lt j hj).1; omega)

end Go.Proofs.YtgbmakpdjdigmaaGreatDoor

/- Plain mathematics: what the reference's reader.value answers (valS); and the memory that its walk stands in (VF). No condition. -/
namespace Go.Proofs.YtgbmakpdjdigmaaGreatDoor
open Go.RowKit

/-- A token's text, if it is a keyword or a sign. -/
def wordOf (t : Tk) : List UInt8 := if t.sort = 2 ∨ t.sort = 4 then t.text.toList else []
/-- The reader's place, what is wrong, how many places and calls there are. -/
structure St where
  cur : Nat
  bad : Option Nat
  pl : Nat
  ca : Nat
def eatS (toks : List Tk) (l : List UInt8) (x : St) : St := ⟨(eatR toks x.cur x.bad l).1, (eatR toks x.cur x.bad l).2, x.pl, x.ca⟩
def getS (toks : List Tk) (sort : Nat) (x : St) : Tk × St := ((getR toks x.cur x.bad sort).1, ⟨(getR toks x.cur x.bad sort).2.1, (getR toks x.cur x.bad sort).2.2, x.pl, x.ca⟩)
def listS (toks : List Tk) (x : St) : List Tk × St := ((listR toks x.cur x.bad).1, ⟨(listR toks x.cur x.bad).2.1, (listR toks x.cur x.bad).2.2, x.pl, x.ca⟩)
theorem getR_cur {toks : List Tk} {n cur sort : Nat} {bad : Option Nat} (hz : (tokAt toks (n - 1)).sort = 0) (hs : sort ≠ 0) (hc : cur < n) : cur ≤ (getR toks cur bad sort).2.1 ∧ (getR toks cur bad sort).2.1 < n := by
  unfold getR
  split
  · rename_i h
    have hne : cur ≠ n - 1 := by rintro rfl; rw [hz] at h; omega
    exact ⟨by simp, by simp only; omega⟩
  · exact ⟨Nat.le_refl _, hc⟩
theorem listR_cur {toks : List Tk} {n cur : Nat} {bad : Option Nat} (hz : (tokAt toks (n - 1)).sort = 0) (hc : cur < n) : cur ≤ (listR toks cur bad).2.1 ∧ (listR toks cur bad).2.1 < n := by
  have h1 := lstR_cur hz toks.length cur bad [] hc
  have h2 := eatR_cur (bad := (lstR toks toks.length cur bad []).2.2) (l := [41]) hz h1.2.1
  unfold listR
  exact ⟨Nat.le_trans h1.1 h2.1, h2.2⟩
/-- A digit's number; f0 where it is none. -/
def digK (l : List UInt8) (f0 : Nat) : Nat → Nat
  | 0 => f0
  | k + 1 => if l = [UInt8.ofNat (48 + k)] then k else digK l f0 k
def valS (toks : List Tk) (x : St) (s : FS) : FS × St :=
  if wordOf (tokAt toks x.cur) = [110, 101, 119] then
    let x1 := eatS toks [110, 101, 119] x
    ({ s with kind := 2, place := x1.pl + 1 }, { x1 with pl := x1.pl + 1 })
  else if wordOf (tokAt toks x.cur) = [38] then
    let x1 := eatS toks [38] x
    let y2 := getS toks 1 x1
    if nextB y2.2.bad (tokAt toks y2.2.cur) [46] = true then
      let x3 := eatS toks [46] y2.2
      let y4 := getS toks 3 x3
      ({ s with kind := 4, q := y2.1, field := digK y4.1.text.toList s.field 4 }, y4.2)
    else ({ s with kind := 3, q := y2.1 }, y2.2)
  else if wordOf (tokAt toks x.cur) = [42] then
    let x1 := eatS toks [42] x
    let y2 := getS toks 1 x1
    ({ s with kind := 5, q := y2.1 }, y2.2)
  else if wordOf (tokAt toks x.cur) = [64] then
    let x1 := eatS toks [64] x
    let y2 := getS toks 1 x1
    ({ s with kind := 6, q := y2.1 }, y2.2)
  else if wordOf (tokAt toks x.cur) = [40] then
    let x1 := eatS toks [40] x
    let x2 := eatS toks [42] x1
    let y3 := getS toks 1 x2
    let x4 := eatS toks [41] y3.2
    let x5 := eatS toks [40] x4
    let x6 : St := { x5 with ca := x5.ca + 1 }
    let y7 := listS toks x6
    ({ s with kind := 9, q := y3.1, place := x6.ca, args := y7.1 }, y7.2)
  else
    let y1 := getS toks 1 x
    if nextB y1.2.bad (tokAt toks y1.2.cur) [40] = true then
      let x2 := eatS toks [40] y1.2
      let y3 := listS toks x2
      ({ s with kind := 8, q := y1.1, args := y3.1 }, y3.2)
    else ({ s with kind := 7, q := y1.1 }, y1.2)

/-- The cells of a statement, its three slices given. -/
def fsA (s : FS) (av bv ov : Value) : Array Value :=
  #[.int .i64 s.kind, .string s.p.text, .int .i64 s.p.pos, .int .i64 s.p.sort, .string s.q.text, .int .i64 s.q.pos, .int .i64 s.q.sort, .int .i64 s.field, av, .int .i64 s.place, bv, ov, .int .i64 s.br, .int .i64 s.br2, .int .i64 s.inn]

/-- The program lies at pb. -/
def PrBlk (pb : Nat) (fv sv : Value) (pl ca : Nat) (w : World) : Prop := w.heap[pb]? = some (.cells #[fv, sv, .int .i64 pl, .int .i64 ca] 112 (0, 0))
theorem PrBlk.box {pb : Nat} {fv sv : Value} {pl ca : Nat} {w : World} (h : PrBlk pb fv sv pl ca w) : Box pb #[fv, sv, .int .i64 pl, .int .i64 ca] 112 w := h
theorem RdBlk.box {rb pb g n cap cur : Nat} {bad : Option Nat} {w : World} (h : RdBlk rb pb g n cap cur bad w) : Box rb #[.slice (some ⟨g, 0, none⟩) n cap, .int .i64 cur, .int .i64 (badI bad), .pointer (some ⟨pb, 0, none⟩)] 174 w := h
/-- What the walk of value stands in. -/
structure VF (rb pb sb ob g n cap : Nat) (toks : List Tk) (fv sv : Value) (x : St) (sc oc : Array Value) (w : World) : Prop where
  rd : RdBlk rb pb g n cap x.cur x.bad w
  tk : TokRow g n cap toks w
  pr : PrBlk pb fv sv x.pl x.ca w
  sx : Box sb sc 183 w
  ox : Box ob oc 183 w
  ne : sb ≠ ob
section
variable {rb pb sb ob g n cap : Nat} {toks : List Tk} {fv sv : Value} {x : St} {sc oc : Array Value} {w w' : World}
theorem VF.nes (h : VF rb pb sb ob g n cap toks fv sv x sc oc w) : g ≠ rb ∧ pb ≠ rb ∧ sb ≠ rb ∧ ob ≠ rb ∧ g ≠ pb ∧ sb ≠ pb ∧ ob ≠ pb ∧ g ≠ sb ∧ g ≠ ob :=
  ⟨h.tk.ne h.rd (by decide), h.pr.box.ne h.rd.box (by decide), h.sx.ne h.rd.box (by decide), h.ox.ne h.rd.box (by decide), h.tk.ne h.pr (by decide), h.sx.ne h.pr.box (by decide), h.ox.ne h.pr.box (by decide), h.tk.ne h.sx (by decide), h.tk.ne h.ox (by decide)⟩
theorem VF.call {c : Nat} {b : Option Nat} (h : VF rb pb sb ob g n cap toks fv sv x sc oc w) (ho : Only (fun k => k = rb) w w') (hr : RdBlk rb pb g n cap c b w') : VF rb pb sb ob g n cap toks fv sv ⟨c, b, x.pl, x.ca⟩ sc oc w' := by
  have hn := h.nes
  exact ⟨hr, h.tk.only ho hn.1, h.pr.box.only ho hn.2.1, h.sx.only ho hn.2.2.1, h.ox.only ho hn.2.2.2.1, h.ne⟩
theorem VF.quiet (h : VF rb pb sb ob g n cap toks fv sv x sc oc w) (ho : Only (fun _ => False) w w') : VF rb pb sb ob g n cap toks fv sv x sc oc w' :=
  ⟨h.rd.only ho (fun q => q), h.tk.only ho (fun q => q), h.pr.box.only ho (fun q => q), h.sx.only ho (fun q => q), h.ox.only ho (fun q => q), h.ne⟩
theorem VF.setS (h : VF rb pb sb ob g n cap toks fv sv x sc oc w) (i : Nat) (u : Value) : VF rb pb sb ob g n cap toks fv sv x (sc.setIfInBounds i u) oc (w.setCell ⟨sb, i, none⟩ u) := by
  have hn := h.nes
  exact ⟨h.rd.box.setOther i u hn.2.2.1.symm, h.tk.only ((Only.refl (fun k => k = sb) w).set_at i u) hn.2.2.2.2.2.2.2.1, h.pr.box.setOther i u hn.2.2.2.2.2.1.symm, h.sx.set i u, h.ox.setOther i u h.ne.symm, h.ne⟩
theorem VF.setO (h : VF rb pb sb ob g n cap toks fv sv x sc oc w) (i : Nat) (u : Value) : VF rb pb sb ob g n cap toks fv sv x sc (oc.setIfInBounds i u) (w.setCell ⟨ob, i, none⟩ u) := by
  have hn := h.nes
  exact ⟨h.rd.box.setOther i u hn.2.2.2.1.symm, h.tk.only ((Only.refl (fun k => k = ob) w).set_at i u) hn.2.2.2.2.2.2.2.2, h.pr.box.setOther i u hn.2.2.2.2.2.2.1.symm, h.sx.setOther i u h.ne, h.ox.set i u, h.ne⟩
theorem VF.setPl (h : VF rb pb sb ob g n cap toks fv sv x sc oc w) (m : Nat) : VF rb pb sb ob g n cap toks fv sv ⟨x.cur, x.bad, m, x.ca⟩ sc oc (w.setCell ⟨pb, 2, none⟩ (.int .i64 m)) := by
  have hn := h.nes
  exact ⟨h.rd.box.setOther 2 _ hn.2.1.symm, h.tk.only ((Only.refl (fun k => k = pb) w).set_at 2 _) hn.2.2.2.2.1, h.pr.box.set 2 _, h.sx.setOther 2 _ hn.2.2.2.2.2.1, h.ox.setOther 2 _ hn.2.2.2.2.2.2.1, h.ne⟩
theorem VF.setPl1 (h : VF rb pb sb ob g n cap toks fv sv x sc oc w) {u : Int} {m : Nat} (hu : u = m) : VF rb pb sb ob g n cap toks fv sv ⟨x.cur, x.bad, m, x.ca⟩ sc oc (w.setCell ⟨pb, 2, none⟩ (.int .i64 u)) := by subst hu; exact h.setPl m
theorem VF.setCa (h : VF rb pb sb ob g n cap toks fv sv x sc oc w) (m : Nat) : VF rb pb sb ob g n cap toks fv sv ⟨x.cur, x.bad, x.pl, m⟩ sc oc (w.setCell ⟨pb, 3, none⟩ (.int .i64 m)) := by
  have hn := h.nes
  exact ⟨h.rd.box.setOther 3 _ hn.2.1.symm, h.tk.only ((Only.refl (fun k => k = pb) w).set_at 3 _) hn.2.2.2.2.1, h.pr.box.set 3 _, h.sx.setOther 3 _ hn.2.2.2.2.2.1, h.ox.setOther 3 _ hn.2.2.2.2.2.2.1, h.ne⟩
theorem VF.setCa1 (h : VF rb pb sb ob g n cap toks fv sv x sc oc w) {u : Int} {m : Nat} (hu : u = m) : VF rb pb sb ob g n cap toks fv sv ⟨x.cur, x.bad, x.pl, m⟩ sc oc (w.setCell ⟨pb, 3, none⟩ (.int .i64 u)) := by subst hu; exact h.setCa m
theorem VF.eat {L : List UInt8} {x' : St} (h : VF rb pb sb ob g n cap toks fv sv x sc oc w) (hx : eatS toks L x = x') (ho : Only (fun k => k = rb) w w') (hr : RdBlk rb pb g n cap (eatR toks x.cur x.bad L).1 (eatR toks x.cur x.bad L).2 w') : VF rb pb sb ob g n cap toks fv sv x' sc oc w' := by subst hx; exact h.call ho hr
theorem VF.get {k : Nat} {q : Tk} {x' : St} (h : VF rb pb sb ob g n cap toks fv sv x sc oc w) (hx : getS toks k x = (q, x')) (ho : Only (fun k => k = rb) w w') (hr : RdBlk rb pb g n cap (getR toks x.cur x.bad k).2.1 (getR toks x.cur x.bad k).2.2 w') : VF rb pb sb ob g n cap toks fv sv x' sc oc w' := by
  have e : x' = ⟨(getR toks x.cur x.bad k).2.1, (getR toks x.cur x.bad k).2.2, x.pl, x.ca⟩ := (congrArg Prod.snd hx).symm
  subst e; exact h.call ho hr
theorem VF.list {q : List Tk} {x' : St} (h : VF rb pb sb ob g n cap toks fv sv x sc oc w) (hx : listS toks x = (q, x')) (ho : Only (fun k => k = rb) w w') (hr : RdBlk rb pb g n cap (listR toks x.cur x.bad).2.1 (listR toks x.cur x.bad).2.2 w') : VF rb pb sb ob g n cap toks fv sv x' sc oc w' := by
  have e : x' = ⟨(listR toks x.cur x.bad).2.1, (listR toks x.cur x.bad).2.2, x.pl, x.ca⟩ := (congrArg Prod.snd hx).symm
  subst e; exact h.call ho hr
end
theorem Only.set_in {X : Nat → Prop} {b : Nat} {a w : World} (h : Only X a w) (i : Nat) (u : Value) (hb : X b) : Only X a (w.setCell ⟨b, i, none⟩ u) := h.setCell (.inl hb) u
theorem eatS_cur {toks : List Tk} {n : Nat} {x x' : St} {L : List UInt8} (hx : eatS toks L x = x') (hz : (tokAt toks (n - 1)).sort = 0) (hc : x.cur < n) : x'.cur < n := by subst hx; exact (eatR_cur hz hc).2
theorem getS_cur {toks : List Tk} {n k : Nat} {x x' : St} {q : Tk} (hx : getS toks k x = (q, x')) (hk : k ≠ 0) (hz : (tokAt toks (n - 1)).sort = 0) (hc : x.cur < n) : x'.cur < n := by
  have e : x'.cur = (getR toks x.cur x.bad k).2.1 := congrArg (fun z => z.2.cur) hx.symm
  rw [e]; exact (getR_cur hz hk hc).2
theorem listS_cur {toks : List Tk} {n : Nat} {x x' : St} {q : List Tk} (hx : listS toks x = (q, x')) (hz : (tokAt toks (n - 1)).sort = 0) (hc : x.cur < n) : x'.cur < n := by
  have e : x'.cur = (listR toks x.cur x.bad).2.1 := congrArg (fun z => z.2.cur) hx.symm
  rw [e]; exact (listR_cur hz hc).2
theorem Only.set_p {rb pb : Nat} {a w : World} (h : Only (fun k => k = rb ∨ k = pb) a w) (i : Nat) (u : Value) : Only (fun k => k = rb ∨ k = pb) a (w.setCell ⟨pb, i, none⟩ u) := h.setCell (.inr rfl |> .inl) u
abbrev nilS : Value := .slice none 0 0
/-- What value leaves. -/
def valPost (rb pb g n cap : Nat) (toks : List Tk) (fv sv : Value) (w : World) (r : FS × St) (e : Ending) (w' : World) : Prop :=
  ∃ av, e = .returned (.agg (fsA r.1 av nilS nilS)) ∧ w'.ownsRow w.heap.size 114 3 av r.1.args.length (tksCells r.1.args) ∧ RdBlk rb pb g n cap r.2.cur r.2.bad w' ∧ TokRow g n cap toks w' ∧ PrBlk pb fv sv r.2.pl r.2.ca w' ∧ Only (fun k => k = rb ∨ k = pb) w w'
abbrev zS : Array Value := #[.int .i64 0, .string { data := #[] }, .int .i64 0, .int .i64 0, .string { data := #[] }, .int .i64 0, .int .i64 0, .int .i64 0, nilS, .int .i64 0, nilS, nilS, .int .i64 0, .int .i64 0, .int .i64 0]

end Go.Proofs.YtgbmakpdjdigmaaGreatDoor

/- TrC TrD: told at each. -/
import Derived.Test.YtgbmakpdjdigmaaGreatDoorG05

/- The program's parser: value: the statement that an assignment's value gives, but for its target. -/
namespace Go.Proofs.YtgbmakpdjdigmaaGreatDoor
open Go.RowKit

def valP (toks : List PT) (n : Nat) (x : PS) : VS × PS :=
  if (ptAt toks x.next).kind = 5 then (⟨1, ptNo, ptNo, 0, []⟩, takeP toks n 5 x)
  else if (ptAt toks x.next).kind = 16 then addrP toks n x
  else if (ptAt toks x.next).kind = 17 then (⟨5, ptNo, takeV toks 1 (takeP toks n 17 x), 0, []⟩, takeP toks n 1 (takeP toks n 17 x))
  else if (ptAt toks x.next).kind = 18 then (⟨4, ptNo, takeV toks 1 (takeP toks n 18 x), 0, []⟩, takeP toks n 1 (takeP toks n 18 x))
  else if (ptAt toks x.next).kind = 10 then callP toks n x
  else if (ptAt toks (takeP toks n 1 x).next).kind = 10 then (⟨7, ptNo, takeV toks 1 x, 0, (namesP toks n (takeP toks n 1 x)).1⟩, (namesP toks n (takeP toks n 1 x)).2)
  else (⟨6, ptNo, takeV toks 1 x, 0, []⟩, takeP toks n 1 x)

set_option maxRecDepth 100000 in
set_option maxHeartbeats 1000000 in
theorem value_new (b g n cap : Nat) (x0 : PS) (toks : List PT) (w : World) (hr : PaBlk b g n cap x0 w) (ht : PtRow g n cap toks w) (hc0 : x0.next < n) (hk : (ptAt toks x0.next).kind = 5) :
    Calls Tryz.prog 255 #[.pointer (some ⟨b, 0, none⟩)] w fun e w' => vPost b g n cap w (valP toks n x0) e w' := by
  obtain ⟨x1, h1⟩ : ∃ y, takeP toks n 5 x0 = y := ⟨_, rfl⟩
  have hv : valP toks n x0 = (⟨1, ptNo, ptNo, 0, []⟩, x1) := by simp only [valP, if_pos hk, h1]
  rw [hv]
  have F0 := hide1 (PFm.start hr ht)
  have HK := hide1 hk
  have X1 := hide1 h1
  clear h1 hv hr ht hk
  go_enter Tryz.func255, Tryz.ntmps255
  go_wp2_with fail
  refine (kind_any b g n cap x0 toks _ F0.out.pa F0.out.pt hc0).mono ?_
  rw [HK.out]
  rintro e w0 ⟨rfl, ho⟩
  have F0' := hide1 (F0.out.quiet ho)
  clear ho F0
  have F0 := F0'
  clear F0'
  go_wp2_with fail
  refine (ptake_any b g n cap 5 x0 toks _ F0.out.pa F0.out.pt hc0).mono ?_
  rw [X1.out]
  rintro e w1 ⟨rfl, hr, ho⟩
  have F1 := hide1 (F0.out.call hr ho)
  clear hr ho F0
  have q0 := F1.out.res.cell 0
  have q1 := F1.out.res.cell 1
  have q2 := F1.out.res.cell 2
  have q3 := F1.out.res.cell 3
  have q4 := F1.out.res.cell 4
  have q5 := F1.out.res.cell 5
  have q6 := F1.out.res.cell 6
  have q7 := F1.out.res.cell 7
  have qf := F1.out.res.frozen
  have ql := blk_lt F1.out.res
  simp only [List.getElem?_toArray, List.getElem?_cons_zero, List.getElem?_cons_succ] at q0 q1 q2 q3 q4 q5 q6 q7
  go_wp2
  have R : w1.ownsRow w.heap.size 197 2 (.slice none 0 0) 0 [] := World.ownsRow_nil _ _ _ _
  refine bodyPost_ret (v := .agg (vsC ⟨1, ptNo, ptNo, 0, []⟩ (.slice none 0 0))) (by simp [results, Tryz.results255, go_sem, vsC, ptNo, q0, q1, q2, q3, q4, q5, q6, q7]; try rfl) rfl ⟨(.slice none 0 0), rfl, ?_, ?_, ?_⟩
  · refine ownsRow_only (X := fun k => k = w.heap.size) R ?_ (own_ne R F1.out.res (by decide))
    iterate 8 refine Only.set_at ?_ _ _
    exact Only.refl _ _
  · refine Box.only (X := fun k => k = w.heap.size) F1.out.pa ?_ (by have := F1.out.bl; omega)
    iterate 8 refine Only.set_at ?_ _ _
    exact Only.refl _ _
  · iterate 8 refine Only.set_new ?_ _ _ (Nat.le_refl _)
    exact F1.out.only

set_option maxRecDepth 100000 in
set_option maxHeartbeats 1000000 in
theorem value_two (b g n cap : Nat) (x0 : PS) (toks : List PT) (w : World) (hr : PaBlk b g n cap x0 w) (ht : PtRow g n cap toks w) (hc0 : x0.next < n) (hz : (ptAt toks (n - 1)).kind = 0) (hk : (ptAt toks x0.next).kind = 17 ∨ (ptAt toks x0.next).kind = 18) :
    Calls Tryz.prog 255 #[.pointer (some ⟨b, 0, none⟩)] w fun e w' => vPost b g n cap w (valP toks n x0) e w' := by
  rcases hk with hk | hk
  · obtain ⟨x1, h1⟩ : ∃ y, takeP toks n 17 x0 = y := ⟨_, rfl⟩
    obtain ⟨x2, h2⟩ : ∃ y, takeP toks n 1 x1 = y := ⟨_, rfl⟩
    obtain ⟨t2, k2⟩ : ∃ y, takeV toks 1 x1 = y := ⟨_, rfl⟩
    have hv : valP toks n x0 = (⟨5, ptNo, t2, 0, []⟩, x2) := by simp [valP, hk, h1, h2, k2]
    rw [hv]
    have hc1 : x1.next < n := by rw [← h1]; exact takeP_lt hz hc0
    have F0 := hide1 (PFm.start hr ht)
    have HK := hide1 hk
    have X1 := hide1 h1
    have X2 := hide1 h2
    have K2 := hide1 k2
    clear h1 h2 k2 hv hr ht hk hz
    go_enter Tryz.func255, Tryz.ntmps255
    go_wp2_with fail
    refine (kind_any b g n cap x0 toks _ F0.out.pa F0.out.pt hc0).mono ?_
    rw [HK.out]
    rintro e w0 ⟨rfl, ho⟩
    have F0' := hide1 (F0.out.quiet ho)
    clear ho F0
    have F0 := F0'
    clear F0'
    go_wp2_with fail
    refine (ptake_any b g n cap 17 x0 toks _ F0.out.pa F0.out.pt hc0).mono ?_
    rw [X1.out]
    rintro e w1 ⟨rfl, hr, ho⟩
    have F1 := hide1 (F0.out.call hr ho)
    clear hr ho F0
    go_wp2_with fail
    refine (name_any b g n cap x1 toks _ F1.out.pa F1.out.pt hc1).mono ?_
    rw [X2.out, K2.out]
    rintro e w2 ⟨rfl, hr, ho⟩
    have F2 := hide1 (F1.out.call hr ho)
    clear hr ho F1
    have q0 := F2.out.res.cell 0
    have q1 := F2.out.res.cell 1
    have q2 := F2.out.res.cell 2
    have q3 := F2.out.res.cell 3
    have q4 := F2.out.res.cell 4
    have q5 := F2.out.res.cell 5
    have q6 := F2.out.res.cell 6
    have q7 := F2.out.res.cell 7
    have qf := F2.out.res.frozen
    have ql := blk_lt F2.out.res
    simp only [List.getElem?_toArray, List.getElem?_cons_zero, List.getElem?_cons_succ] at q0 q1 q2 q3 q4 q5 q6 q7
    unfold nmV
    go_wp2
    have R : w2.ownsRow w.heap.size 197 2 (.slice none 0 0) 0 [] := World.ownsRow_nil _ _ _ _
    refine bodyPost_ret (v := .agg (vsC ⟨5, ptNo, t2, 0, []⟩ (.slice none 0 0))) (by simp [results, Tryz.results255, go_sem, vsC, ptNo, q0, q1, q2, q3, q4, q5, q6, q7]; try rfl) rfl ⟨(.slice none 0 0), rfl, ?_, ?_, ?_⟩
    · refine ownsRow_only (X := fun k => k = w.heap.size) R ?_ (own_ne R F2.out.res (by decide))
      iterate 8 refine Only.set_at ?_ _ _
      exact Only.refl _ _
    · refine Box.only (X := fun k => k = w.heap.size) F2.out.pa ?_ (by have := F2.out.bl; omega)
      iterate 8 refine Only.set_at ?_ _ _
      exact Only.refl _ _
    · iterate 8 refine Only.set_new ?_ _ _ (Nat.le_refl _)
      exact F2.out.only
  · obtain ⟨x1, h1⟩ : ∃ y, takeP toks n 18 x0 = y := ⟨_, rfl⟩
    obtain ⟨x2, h2⟩ : ∃ y, takeP toks n 1 x1 = y := ⟨_, rfl⟩
    obtain ⟨t2, k2⟩ : ∃ y, takeV toks 1 x1 = y := ⟨_, rfl⟩
    have hv : valP toks n x0 = (⟨4, ptNo, t2, 0, []⟩, x2) := by simp [valP, hk, h1, h2, k2]
    rw [hv]
    have hc1 : x1.next < n := by rw [← h1]; exact takeP_lt hz hc0
    have F0 := hide1 (PFm.start hr ht)
    have HK := hide1 hk
    have X1 := hide1 h1
    have X2 := hide1 h2
    have K2 := hide1 k2
    clear h1 h2 k2 hv hr ht hk hz
    go_enter Tryz.func255, Tryz.ntmps255
    go_wp2_with fail
    refine (kind_any b g n cap x0 toks _ F0.out.pa F0.out.pt hc0).mono ?_
    rw [HK.out]
    rintro e w0 ⟨rfl, ho⟩
    have F0' := hide1 (F0.out.quiet ho)
    clear ho F0
    have F0 := F0'
    clear F0'
    go_wp2_with fail
    refine (ptake_any b g n cap 18 x0 toks _ F0.out.pa F0.out.pt hc0).mono ?_
    rw [X1.out]
    rintro e w1 ⟨rfl, hr, ho⟩
    have F1 := hide1 (F0.out.call hr ho)
    clear hr ho F0
    go_wp2_with fail
    refine (name_any b g n cap x1 toks _ F1.out.pa F1.out.pt hc1).mono ?_
    rw [X2.out, K2.out]
    rintro e w2 ⟨rfl, hr, ho⟩
    have F2 := hide1 (F1.out.call hr ho)
    clear hr ho F1
    have q0 := F2.out.res.cell 0
    have q1 := F2.out.res.cell 1
    have q2 := F2.out.res.cell 2
    have q3 := F2.out.res.cell 3
    have q4 := F2.out.res.cell 4
    have q5 := F2.out.res.cell 5
    have q6 := F2.out.res.cell 6
    have q7 := F2.out.res.cell 7
    have qf := F2.out.res.frozen
    have ql := blk_lt F2.out.res
    simp only [List.getElem?_toArray, List.getElem?_cons_zero, List.getElem?_cons_succ] at q0 q1 q2 q3 q4 q5 q6 q7
    unfold nmV
    go_wp2
    have R : w2.ownsRow w.heap.size 197 2 (.slice none 0 0) 0 [] := World.ownsRow_nil _ _ _ _
    refine bodyPost_ret (v := .agg (vsC ⟨4, ptNo, t2, 0, []⟩ (.slice none 0 0))) (by simp [results, Tryz.results255, go_sem, vsC, ptNo, q0, q1, q2, q3, q4, q5, q6, q7]; try rfl) rfl ⟨(.slice none 0 0), rfl, ?_, ?_, ?_⟩
    · refine ownsRow_only (X := fun k => k = w.heap.size) R ?_ (own_ne R F2.out.res (by decide))
      iterate 8 refine Only.set_at ?_ _ _
      exact Only.refl _ _
    · refine Box.only (X := fun k => k = w.heap.size) F2.out.pa ?_ (by have := F2.out.bl; omega)
      iterate 8 refine Only.set_at ?_ _ _
      exact Only.refl _ _
    · iterate 8 refine Only.set_new ?_ _ _ (Nat.le_refl _)
      exact F2.out.only

set_option maxRecDepth 100000 in
set_option maxHeartbeats 1000000 in
theorem value_sub (B0 : Nat) (w00 : World) (hF : FieldOk B0 w00) (b g n cap : Nat) (x0 : PS) (toks : List PT) (w : World) (hb : B0 ≤ b) (hG : Below B0 w00 w) (hB : B0 ≤ w.heap.size) (hr : PaBlk b g n cap x0 w) (ht : PtRow g n cap toks w) (hc0 : x0.next < n) (hz : (ptAt toks (n - 1)).kind = 0) (hk : (ptAt toks x0.next).kind = 16 ∨ (ptAt toks x0.next).kind = 10) :
    Calls Tryz.prog 255 #[.pointer (some ⟨b, 0, none⟩)] w fun e w' => vPost b g n cap w (valP toks n x0) e w' := by
  have HG := hide1 hG
  have HF := hide1 hF
  have HZ := hide1 hz
  rcases hk with hk | hk
  · obtain ⟨s1, x1, h1⟩ : ∃ s y, addrP toks n x0 = (s, y) := ⟨_, _, rfl⟩
    have hv : valP toks n x0 = (s1, x1) := by simp [valP, hk, h1]
    rw [hv]
    have F0 := hide1 (PFm.start hr ht)
    have HK := hide1 hk
    have X1 := hide1 h1
    clear h1 hv hr ht hk hz hG hF
    go_enter Tryz.func255, Tryz.ntmps255
    go_wp2_with fail
    refine (kind_any b g n cap x0 toks _ F0.out.pa F0.out.pt hc0).mono ?_
    rw [HK.out]
    rintro e w0 ⟨rfl, ho⟩
    have F0' := hide1 (F0.out.quiet ho)
    clear ho F0
    have F0 := F0'
    clear F0'
    have hz0 := F0.out.only.size
    go_wp2_with fail
    refine (address_any B0 w00 HF.out b g n cap x0 toks _ hb (Only.keeps HG.out F0.out.only hB hb) (by omega) F0.out.pa F0.out.pt hc0 HZ.out).mono ?_
    rw [X1.out]
    rintro e w1 ⟨av, rfl, hown, hr, ho⟩
    obtain ⟨va, vl, vc, rfl⟩ := owns_form hown
    have F1 := hide1 (F0.out.call hr ho)
    have HW := hide1 (ownsRow_base hown (B' := w.heap.size) (by omega))
    clear hr ho hown F0
    have q0 := F1.out.res.cell 0
    have q1 := F1.out.res.cell 1
    have q2 := F1.out.res.cell 2
    have q3 := F1.out.res.cell 3
    have q4 := F1.out.res.cell 4
    have q5 := F1.out.res.cell 5
    have q6 := F1.out.res.cell 6
    have q7 := F1.out.res.cell 7
    have qf := F1.out.res.frozen
    have ql := blk_lt F1.out.res
    simp only [List.getElem?_toArray, List.getElem?_cons_zero, List.getElem?_cons_succ] at q0 q1 q2 q3 q4 q5 q6 q7
    unfold vsC
    go_wp2
    refine bodyPost_ret (v := .agg (vsC s1 (.slice va vl vc))) (by simp [results, Tryz.results255, go_sem, vsC, q0, q1, q2, q3, q4, q5, q6, q7]) rfl ⟨(.slice va vl vc), rfl, ?_, ?_, ?_⟩
    · refine ownsRow_only (X := fun k => k = w.heap.size) HW.out ?_ (own_ne HW.out F1.out.res (by decide))
      iterate 8 refine Only.set_at ?_ _ _
      exact Only.refl _ _
    · refine Box.only (X := fun k => k = w.heap.size) F1.out.pa ?_ (by have := F1.out.bl; omega)
      iterate 8 refine Only.set_at ?_ _ _
      exact Only.refl _ _
    · iterate 8 refine Only.set_new ?_ _ _ (Nat.le_refl _)
      exact F1.out.only
  · obtain ⟨s1, x1, h1⟩ : ∃ s y, callP toks n x0 = (s, y) := ⟨_, _, rfl⟩
    have hv : valP toks n x0 = (s1, x1) := by simp [valP, hk, h1]
    rw [hv]
    have F0 := hide1 (PFm.start hr ht)
    have HK := hide1 hk
    have X1 := hide1 h1
    clear h1 hv hr ht hk hz hG hF
    go_enter Tryz.func255, Tryz.ntmps255
    go_wp2_with fail
    refine (kind_any b g n cap x0 toks _ F0.out.pa F0.out.pt hc0).mono ?_
    rw [HK.out]
    rintro e w0 ⟨rfl, ho⟩
    have F0' := hide1 (F0.out.quiet ho)
    clear ho F0
    have F0 := F0'
    clear F0'
    have hz0 := F0.out.only.size
    go_wp2_with fail
    refine (callThrough_any b g n cap x0 toks _ F0.out.pa F0.out.pt hc0 HZ.out).mono ?_
    rw [X1.out]
    rintro e w1 ⟨av, rfl, hown, hr, ho⟩
    obtain ⟨va, vl, vc, rfl⟩ := owns_form hown
    have F1 := hide1 (F0.out.call hr ho)
    have HW := hide1 (ownsRow_base hown (B' := w.heap.size) (by omega))
    clear hr ho hown F0
    have q0 := F1.out.res.cell 0
    have q1 := F1.out.res.cell 1
    have q2 := F1.out.res.cell 2
    have q3 := F1.out.res.cell 3
    have q4 := F1.out.res.cell 4
    have q5 := F1.out.res.cell 5
    have q6 := F1.out.res.cell 6
    have q7 := F1.out.res.cell 7
    have qf := F1.out.res.frozen
    have ql := blk_lt F1.out.res
    simp only [List.getElem?_toArray, List.getElem?_cons_zero, List.getElem?_cons_succ] at q0 q1 q2 q3 q4 q5 q6 q7
    unfold vsC
    go_wp2
    refine bodyPost_ret (v := .agg (vsC s1 (.slice va vl vc))) (by simp [results, Tryz.results255, go_sem, vsC, q0, q1, q2, q3, q4, q5, q6, q7]) rfl ⟨(.slice va vl vc), rfl, ?_, ?_, ?_⟩
    · refine ownsRow_only (X := fun k => k = w.heap.size) HW.out ?_ (own_ne HW.out F1.out.res (by decide))
      iterate 8 refine Only.set_at ?_ _ _
      exact Only.refl _ _
    · refine Box.only (X := fun k => k = w.heap.size) F1.out.pa ?_ (by have := F1.out.bl; omega)
      iterate 8 refine Only.set_at ?_ _ _
      exact Only.refl _ _
    · iterate 8 refine Only.set_new ?_ _ _ (Nat.le_refl _)
      exact F1.out.only


set_option maxRecDepth 100000 in
set_option maxHeartbeats 1000000 in
theorem value_name (b g n cap : Nat) (x0 : PS) (toks : List PT) (w : World) (hr : PaBlk b g n cap x0 w) (ht : PtRow g n cap toks w) (hc0 : x0.next < n) (hz : (ptAt toks (n - 1)).kind = 0)
    (k5 : (ptAt toks x0.next).kind ≠ 5) (k16 : (ptAt toks x0.next).kind ≠ 16) (k17 : (ptAt toks x0.next).kind ≠ 17) (k18 : (ptAt toks x0.next).kind ≠ 18) (k10 : (ptAt toks x0.next).kind ≠ 10) :
    Calls Tryz.prog 255 #[.pointer (some ⟨b, 0, none⟩)] w fun e w' => vPost b g n cap w (valP toks n x0) e w' := by
  obtain ⟨x1, h1⟩ : ∃ y, takeP toks n 1 x0 = y := ⟨_, rfl⟩
  obtain ⟨t1, k1⟩ : ∃ y, takeV toks 1 x0 = y := ⟨_, rfl⟩
  obtain ⟨l2, x2, h2⟩ : ∃ l y, namesP toks n x1 = (l, y) := ⟨_, _, rfl⟩
  have hc1 : x1.next < n := by rw [← h1]; exact takeP_lt hz hc0
  have F0 := hide1 (PFm.start hr ht)
  have X1 := hide1 h1
  have X2 := hide1 h2
  have K1 := hide1 k1
  have HZ := hide1 hz
  have hv : valP toks n x0 = if (ptAt toks x1.next).kind = 10 then (⟨7, ptNo, t1, 0, l2⟩, x2) else (⟨6, ptNo, t1, 0, []⟩, x1) := by simp [valP, k5, k16, k17, k18, k10, h1, h2, k1]
  rw [hv]
  obtain ⟨kk, hkk⟩ : ∃ k, (ptAt toks x0.next).kind = k := ⟨_, rfl⟩
  rw [hkk] at k5 k16 k17 k18 k10
  have HK := hide1 hkk
  have j5 : ((kk : Int) == 5) = false := by simp; omega
  have j16 : ((kk : Int) == 16) = false := by simp; omega
  have j17 : ((kk : Int) == 17) = false := by simp; omega
  have j18 : ((kk : Int) == 18) = false := by simp; omega
  have j10 : ((kk : Int) == 10) = false := by simp; omega
  clear h1 h2 k1 hv hr ht hz hkk k5 k16 k17 k18 k10
  by_cases hd : (ptAt toks x1.next).kind = 10
  · rw [if_pos hd]
    have hd' : (((ptAt toks x1.next).kind : Int) == 10) = true := by simp [hd]
    clear hd
    go_enter Tryz.func255, Tryz.ntmps255
    go_wp2_with fail
    refine (kind_any b g n cap x0 toks _ F0.out.pa F0.out.pt hc0).mono ?_
    rw [HK.out]
    rintro e w0 ⟨rfl, ho⟩
    have F0' := hide1 (F0.out.quiet ho)
    clear ho F0
    have F0 := F0'
    clear F0'
    go_wp2_with fail
    refine (name_any b g n cap x0 toks _ F0.out.pa F0.out.pt hc0).mono ?_
    rw [X1.out, K1.out]
    rintro e w1 ⟨rfl, hr, ho⟩
    have F1 := hide1 (F0.out.call hr ho)
    clear hr ho F0
    unfold nmV
    have hl1 := blk_lt F1.out.pa
    have B1 := hide1 (Box.new w1 #[.string t1.text, .int .i64 t1.place] 197)
    have G1 := hide1 (F1.out.quiet ((Only.refl _ _).alloc (.cells #[.string t1.text, .int .i64 t1.place] 197)))
    clear F1
    go_wp2_with fail
    refine (kind_any b g n cap x1 toks _ G1.out.pa G1.out.pt hc1).mono ?_
    rintro e wk ⟨rfl, ho⟩
    have F1 := hide1 (G1.out.quiet ho)
    have C1 := hide1 (B1.out.only ho (fun q => q))
    clear ho G1 B1
    have n0 := C1.out.cell 0
    have n1 := C1.out.cell 1
    simp only [List.getElem?_toArray, List.getElem?_cons_zero, List.getElem?_cons_succ] at n0 n1
    have l1 := blk_lt C1.out
    have q0 := F1.out.res.cell 0
    have q1 := F1.out.res.cell 1
    have q2 := F1.out.res.cell 2
    have q3 := F1.out.res.cell 3
    have q4 := F1.out.res.cell 4
    have q5 := F1.out.res.cell 5
    have q6 := F1.out.res.cell 6
    have q7 := F1.out.res.cell 7
    have qf := F1.out.res.frozen
    have ql := blk_lt F1.out.res
    simp only [List.getElem?_toArray, List.getElem?_cons_zero, List.getElem?_cons_succ] at q0 q1 q2 q3 q4 q5 q6 q7
    go_wp2_with fail
    go_region_with (go_at_call 208; refine (names_any b g n cap x1 toks _ (F1.out.quiet (by repeat (first | exact Only.refl _ _ | refine Only.drew ?_ | refine Only.drewN ?_ _ | refine Only.alloc ?_ _))).pa (F1.out.quiet (by repeat (first | exact Only.refl _ _ | refine Only.drew ?_ | refine Only.drewN ?_ _ | refine Only.alloc ?_ _))).pt hc1 HZ.out).mono ?_; rw [X2.out]; rintro e w5 ⟨v5, rfl, hown, hr, ho⟩; obtain ⟨va, vl, vc, rfl⟩ := owns_form hown; have F5 := hide1 ((F1.out.quiet (by repeat (first | exact Only.refl _ _ | refine Only.drew ?_ | refine Only.drewN ?_ _ | refine Only.alloc ?_ _))).call hr ho); have B5 := hide1 ((Box.only (X := fun _ => False) C1.out (by repeat (first | exact Only.refl _ _ | refine Only.drew ?_ | refine Only.drewN ?_ _ | refine Only.alloc ?_ _)) (fun q => q)).only ho (by omega)); have HW := hide1 (ownsRow_base hown (B' := w.heap.size) (by have := F1.out.only.size; simp; omega)); have n0' := B5.out.cell 0; have n1' := B5.out.cell 1; simp only [List.getElem?_toArray, List.getElem?_cons_zero, List.getElem?_cons_succ] at n0' n1'; clear hr ho hown q0 q1 q2 q3 q4 q5 q6 q7 qf ql; have q0 := F5.out.res.cell 0; have q1 := F5.out.res.cell 1; have q2 := F5.out.res.cell 2; have q3 := F5.out.res.cell 3; have q4 := F5.out.res.cell 4; have q5 := F5.out.res.cell 5; have q6 := F5.out.res.cell 6; have q7 := F5.out.res.cell 7; have qf := F5.out.res.frozen; have ql := blk_lt F5.out.res; simp only [List.getElem?_toArray, List.getElem?_cons_zero, List.getElem?_cons_succ] at q0 q1 q2 q3 q4 q5 q6 q7)
    all_goals
      go_wp2
      refine bodyPost_ret (v := .agg (vsC ⟨7, ptNo, t1, 0, l2⟩ (.slice va vl vc))) (by simp [results, Tryz.results255, go_sem, vsC, ptNo, q0, q1, q2, q3, q4, q5, q6, q7]; try rfl) rfl ⟨(.slice va vl vc), rfl, ?_, ?_, ?_⟩
      · refine ownsRow_only (X := fun k => k = w.heap.size) HW.out ?_ (own_ne HW.out F5.out.res (by decide))
        iterate 8 refine Only.set_at ?_ _ _
        exact Only.refl _ _
      · refine Box.only (X := fun k => k = w.heap.size) F5.out.pa ?_ (by have := F5.out.bl; omega)
        iterate 8 refine Only.set_at ?_ _ _
        exact Only.refl _ _
      · iterate 8 refine Only.set_new ?_ _ _ (Nat.le_refl _)
        exact F5.out.only
  · rw [if_neg hd]
    have hd' : (((ptAt toks x1.next).kind : Int) == 10) = false := by simp; omega
    clear hd
    go_enter Tryz.func255, Tryz.ntmps255
    go_wp2_with fail
    refine (kind_any b g n cap x0 toks _ F0.out.pa F0.out.pt hc0).mono ?_
    rw [HK.out]
    rintro e w0 ⟨rfl, ho⟩
    have F0' := hide1 (F0.out.quiet ho)
    clear ho F0
    have F0 := F0'
    clear F0'
    go_wp2_with fail
    refine (name_any b g n cap x0 toks _ F0.out.pa F0.out.pt hc0).mono ?_
    rw [X1.out, K1.out]
    rintro e w1 ⟨rfl, hr, ho⟩
    have F1 := hide1 (F0.out.call hr ho)
    clear hr ho F0
    unfold nmV
    have hl1 := blk_lt F1.out.pa
    have B1 := hide1 (Box.new w1 #[.string t1.text, .int .i64 t1.place] 197)
    have G1 := hide1 (F1.out.quiet ((Only.refl _ _).alloc (.cells #[.string t1.text, .int .i64 t1.place] 197)))
    clear F1
    go_wp2_with fail
    refine (kind_any b g n cap x1 toks _ G1.out.pa G1.out.pt hc1).mono ?_
    rintro e wk ⟨rfl, ho⟩
    have F1 := hide1 (G1.out.quiet ho)
    have C1 := hide1 (B1.out.only ho (fun q => q))
    clear ho G1 B1
    have n0 := C1.out.cell 0
    have n1 := C1.out.cell 1
    simp only [List.getElem?_toArray, List.getElem?_cons_zero, List.getElem?_cons_succ] at n0 n1
    have l1 := blk_lt C1.out
    have q0 := F1.out.res.cell 0
    have q1 := F1.out.res.cell 1
    have q2 := F1.out.res.cell 2
    have q3 := F1.out.res.cell 3
    have q4 := F1.out.res.cell 4
    have q5 := F1.out.res.cell 5
    have q6 := F1.out.res.cell 6
    have q7 := F1.out.res.cell 7
    have qf := F1.out.res.frozen
    have ql := blk_lt F1.out.res
    simp only [List.getElem?_toArray, List.getElem?_cons_zero, List.getElem?_cons_succ] at q0 q1 q2 q3 q4 q5 q6 q7
    go_wp2
    have R : wk.ownsRow w.heap.size 197 2 (.slice none 0 0) 0 [] := World.ownsRow_nil _ _ _ _
    refine bodyPost_ret (v := .agg (vsC ⟨6, ptNo, t1, 0, []⟩ (.slice none 0 0))) (by simp [results, Tryz.results255, go_sem, vsC, ptNo, q0, q1, q2, q3, q4, q5, q6, q7]; try rfl) rfl ⟨(.slice none 0 0), rfl, ?_, ?_, ?_⟩
    · refine ownsRow_only (X := fun k => k = w.heap.size) R ?_ (own_ne R F1.out.res (by decide))
      iterate 8 refine Only.set_at ?_ _ _
      exact Only.refl _ _
    · refine Box.only (X := fun k => k = w.heap.size) F1.out.pa ?_ (by have := F1.out.bl; omega)
      iterate 8 refine Only.set_at ?_ _ _
      exact Only.refl _ _
    · iterate 8 refine Only.set_new ?_ _ _ (Nat.le_refl _)
      exact F1.out.only

theorem value_all (B0 : Nat) (w00 : World) (hF : FieldOk B0 w00) (b g n cap : Nat) (x0 : PS) (toks : List PT) (w : World) (hb : B0 ≤ b) (hG : Below B0 w00 w) (hB : B0 ≤ w.heap.size) (hr : PaBlk b g n cap x0 w) (ht : PtRow g n cap toks w) (hc0 : x0.next < n) (hz : (ptAt toks (n - 1)).kind = 0) :
    Calls Tryz.prog 255 #[.pointer (some ⟨b, 0, none⟩)] w fun e w' => vPost b g n cap w (valP toks n x0) e w' := by
  by_cases h5 : (ptAt toks x0.next).kind = 5
  · exact value_new b g n cap x0 toks w hr ht hc0 h5
  · by_cases h16 : (ptAt toks x0.next).kind = 16
    · exact value_sub B0 w00 hF b g n cap x0 toks w hb hG hB hr ht hc0 hz (.inl h16)
    · by_cases h17 : (ptAt toks x0.next).kind = 17
      · exact value_two b g n cap x0 toks w hr ht hc0 hz (.inl h17)
      · by_cases h18 : (ptAt toks x0.next).kind = 18
        · exact value_two b g n cap x0 toks w hr ht hc0 hz (.inr h18)
        · by_cases h10 : (ptAt toks x0.next).kind = 10
          · exact value_sub B0 w00 hF b g n cap x0 toks w hb hG hB hr ht hc0 hz (.inr h10)
          · exact value_name b g n cap x0 toks w hr ht hc0 hz h5 h16 h17 h18 h10

end Go.Proofs.YtgbmakpdjdigmaaGreatDoor

/- The program's parser: plain: a statement without blocks, up to its semicolon. -/
namespace Go.Proofs.YtgbmakpdjdigmaaGreatDoor
open Go.RowKit

def plainP (toks : List PT) (n : Nat) (x : PS) : VS × PS :=
  if (ptAt toks x.next).kind = 4 then (⟨0, takeV toks 1 (takeP toks n 4 x), ptNo, 0, []⟩, takeP toks n 1 (takeP toks n 4 x))
  else if (ptAt toks x.next).kind = 6 then (⟨10, ptNo, takeV toks 1 (takeP toks n 6 x), 0, []⟩, takeP toks n 1 (takeP toks n 6 x))
  else if (ptAt toks x.next).kind = 17 then
    let x1 := takeP toks n 17 x
    let x3 := takeP toks n 15 (takeP toks n 1 x1)
    (⟨9, takeV toks 1 x1, takeV toks 1 x3, 0, []⟩, takeP toks n 1 x3)
  else
    let x2 := takeP toks n 15 (takeP toks n 1 x)
    ({ (valP toks n x2).1 with tg := takeV toks 1 x }, (valP toks n x2).2)

set_option maxRecDepth 100000 in
set_option maxHeartbeats 1000000 in
theorem plain_one (b g n cap : Nat) (x0 : PS) (toks : List PT) (w : World) (hr : PaBlk b g n cap x0 w) (ht : PtRow g n cap toks w) (hc0 : x0.next < n) (hz : (ptAt toks (n - 1)).kind = 0) (hk : (ptAt toks x0.next).kind = 4 ∨ (ptAt toks x0.next).kind = 6) :
    Calls Tryz.prog 249 #[.pointer (some ⟨b, 0, none⟩)] w fun e w' => vPost b g n cap w (plainP toks n x0) e w' := by
  rcases hk with hk | hk
  · obtain ⟨x1, h1⟩ : ∃ y, takeP toks n 4 x0 = y := ⟨_, rfl⟩
    obtain ⟨x2, h2⟩ : ∃ y, takeP toks n 1 x1 = y := ⟨_, rfl⟩
    obtain ⟨t2, k2⟩ : ∃ y, takeV toks 1 x1 = y := ⟨_, rfl⟩
    have hv : plainP toks n x0 = (⟨0, t2, ptNo, 0, []⟩, x2) := by simp [plainP, hk, h1, h2, k2]
    rw [hv]
    have hc1 : x1.next < n := by rw [← h1]; exact takeP_lt hz hc0
    have F0 := hide1 (PFm.start hr ht)
    have HK := hide1 hk
    have X1 := hide1 h1
    have X2 := hide1 h2
    have K2 := hide1 k2
    clear h1 h2 k2 hv hr ht hk hz
    go_enter Tryz.func249, Tryz.ntmps249
    go_wp2_with fail
    refine (kind_any b g n cap x0 toks _ F0.out.pa F0.out.pt hc0).mono ?_
    rw [HK.out]
    rintro e w0 ⟨rfl, ho⟩
    have F0' := hide1 (F0.out.quiet ho)
    clear ho F0
    have F0 := F0'
    clear F0'
    go_wp2_with fail
    refine (ptake_any b g n cap 4 x0 toks _ F0.out.pa F0.out.pt hc0).mono ?_
    rw [X1.out]
    rintro e w1 ⟨rfl, hr, ho⟩
    have F1 := hide1 (F0.out.call hr ho)
    clear hr ho F0
    go_wp2_with fail
    refine (name_any b g n cap x1 toks _ F1.out.pa F1.out.pt hc1).mono ?_
    rw [X2.out, K2.out]
    rintro e w2 ⟨rfl, hr, ho⟩
    have F2 := hide1 (F1.out.call hr ho)
    clear hr ho F1
    have q0 := F2.out.res.cell 0
    have q1 := F2.out.res.cell 1
    have q2 := F2.out.res.cell 2
    have q3 := F2.out.res.cell 3
    have q4 := F2.out.res.cell 4
    have q5 := F2.out.res.cell 5
    have q6 := F2.out.res.cell 6
    have q7 := F2.out.res.cell 7
    have qf := F2.out.res.frozen
    have ql := blk_lt F2.out.res
    simp only [List.getElem?_toArray, List.getElem?_cons_zero, List.getElem?_cons_succ] at q0 q1 q2 q3 q4 q5 q6 q7
    unfold nmV
    go_wp2
    have R : w2.ownsRow w.heap.size 197 2 (.slice none 0 0) 0 [] := World.ownsRow_nil _ _ _ _
    refine bodyPost_ret (v := .agg (vsC ⟨0, t2, ptNo, 0, []⟩ (.slice none 0 0))) (by simp [results, Tryz.results249, go_sem, vsC, ptNo, q0, q1, q2, q3, q4, q5, q6, q7]; try rfl) rfl ⟨(.slice none 0 0), rfl, ?_, ?_, ?_⟩
    · refine ownsRow_only (X := fun k => k = w.heap.size) R ?_ (own_ne R F2.out.res (by decide))
      iterate 8 refine Only.set_at ?_ _ _
      exact Only.refl _ _
    · refine Box.only (X := fun k => k = w.heap.size) F2.out.pa ?_ (by have := F2.out.bl; omega)
      iterate 8 refine Only.set_at ?_ _ _
      exact Only.refl _ _
    · iterate 8 refine Only.set_new ?_ _ _ (Nat.le_refl _)
      exact F2.out.only
  · obtain ⟨x1, h1⟩ : ∃ y, takeP toks n 6 x0 = y := ⟨_, rfl⟩
    obtain ⟨x2, h2⟩ : ∃ y, takeP toks n 1 x1 = y := ⟨_, rfl⟩
    obtain ⟨t2, k2⟩ : ∃ y, takeV toks 1 x1 = y := ⟨_, rfl⟩
    have hv : plainP toks n x0 = (⟨10, ptNo, t2, 0, []⟩, x2) := by simp [plainP, hk, h1, h2, k2]
    rw [hv]
    have hc1 : x1.next < n := by rw [← h1]; exact takeP_lt hz hc0
    have F0 := hide1 (PFm.start hr ht)
    have HK := hide1 hk
    have X1 := hide1 h1
    have X2 := hide1 h2
    have K2 := hide1 k2
    clear h1 h2 k2 hv hr ht hk hz
    go_enter Tryz.func249, Tryz.ntmps249
    go_wp2_with fail
    refine (kind_any b g n cap x0 toks _ F0.out.pa F0.out.pt hc0).mono ?_
    rw [HK.out]
    rintro e w0 ⟨rfl, ho⟩
    have F0' := hide1 (F0.out.quiet ho)
    clear ho F0
    have F0 := F0'
    clear F0'
    go_wp2_with fail
    refine (ptake_any b g n cap 6 x0 toks _ F0.out.pa F0.out.pt hc0).mono ?_
    rw [X1.out]
    rintro e w1 ⟨rfl, hr, ho⟩
    have F1 := hide1 (F0.out.call hr ho)
    clear hr ho F0
    go_wp2_with fail
    refine (name_any b g n cap x1 toks _ F1.out.pa F1.out.pt hc1).mono ?_
    rw [X2.out, K2.out]
    rintro e w2 ⟨rfl, hr, ho⟩
    have F2 := hide1 (F1.out.call hr ho)
    clear hr ho F1
    have q0 := F2.out.res.cell 0
    have q1 := F2.out.res.cell 1
    have q2 := F2.out.res.cell 2
    have q3 := F2.out.res.cell 3
    have q4 := F2.out.res.cell 4
    have q5 := F2.out.res.cell 5
    have q6 := F2.out.res.cell 6
    have q7 := F2.out.res.cell 7
    have qf := F2.out.res.frozen
    have ql := blk_lt F2.out.res
    simp only [List.getElem?_toArray, List.getElem?_cons_zero, List.getElem?_cons_succ] at q0 q1 q2 q3 q4 q5 q6 q7
    unfold nmV
    go_wp2
    have R : w2.ownsRow w.heap.size 197 2 (.slice none 0 0) 0 [] := World.ownsRow_nil _ _ _ _
    refine bodyPost_ret (v := .agg (vsC ⟨10, ptNo, t2, 0, []⟩ (.slice none 0 0))) (by simp [results, Tryz.results249, go_sem, vsC, ptNo, q0, q1, q2, q3, q4, q5, q6, q7]; try rfl) rfl ⟨(.slice none 0 0), rfl, ?_, ?_, ?_⟩
    · refine ownsRow_only (X := fun k => k = w.heap.size) R ?_ (own_ne R F2.out.res (by decide))
      iterate 8 refine Only.set_at ?_ _ _
      exact Only.refl _ _
    · refine Box.only (X := fun k => k = w.heap.size) F2.out.pa ?_ (by have := F2.out.bl; omega)
      iterate 8 refine Only.set_at ?_ _ _
      exact Only.refl _ _
    · iterate 8 refine Only.set_new ?_ _ _ (Nat.le_refl _)
      exact F2.out.only

set_option maxRecDepth 100000 in
set_option maxHeartbeats 1000000 in
theorem plain_star (b g n cap : Nat) (x0 : PS) (toks : List PT) (w : World) (hr : PaBlk b g n cap x0 w) (ht : PtRow g n cap toks w) (hc0 : x0.next < n) (hz : (ptAt toks (n - 1)).kind = 0) (hk : (ptAt toks x0.next).kind = 17) :
    Calls Tryz.prog 249 #[.pointer (some ⟨b, 0, none⟩)] w fun e w' => vPost b g n cap w (plainP toks n x0) e w' := by
  obtain ⟨x1, h1⟩ : ∃ y, takeP toks n 17 x0 = y := ⟨_, rfl⟩
  obtain ⟨x2, h2⟩ : ∃ y, takeP toks n 1 x1 = y := ⟨_, rfl⟩
  obtain ⟨t2, k2⟩ : ∃ y, takeV toks 1 x1 = y := ⟨_, rfl⟩
  obtain ⟨x3, h3⟩ : ∃ y, takeP toks n 15 x2 = y := ⟨_, rfl⟩
  obtain ⟨x4, h4⟩ : ∃ y, takeP toks n 1 x3 = y := ⟨_, rfl⟩
  obtain ⟨t4, k4⟩ : ∃ y, takeV toks 1 x3 = y := ⟨_, rfl⟩
  have hv : plainP toks n x0 = (⟨9, t2, t4, 0, []⟩, x4) := by simp [plainP, hk, h1, h2, k2, h3, h4, k4]
  rw [hv]
  have hc1 : x1.next < n := by rw [← h1]; exact takeP_lt hz hc0
  have hc2 : x2.next < n := by rw [← h2]; exact takeP_lt hz hc1
  have hc3 : x3.next < n := by rw [← h3]; exact takeP_lt hz hc2
  have F0 := hide1 (PFm.start hr ht)
  have HK := hide1 hk
  have X1 := hide1 h1
  have X2 := hide1 h2
  have K2 := hide1 k2
  have X3 := hide1 h3
  have X4 := hide1 h4
  have K4 := hide1 k4
  clear h1 h2 k2 h3 h4 k4 hv hr ht hk hz
  go_enter Tryz.func249, Tryz.ntmps249
  go_wp2_with fail
  refine (kind_any b g n cap x0 toks _ F0.out.pa F0.out.pt hc0).mono ?_
  rw [HK.out]
  rintro e w0 ⟨rfl, ho⟩
  have F0' := hide1 (F0.out.quiet ho)
  clear ho F0
  have F0 := F0'
  clear F0'
  go_wp2_with fail
  refine (ptake_any b g n cap 17 x0 toks _ F0.out.pa F0.out.pt hc0).mono ?_
  rw [X1.out]
  rintro e w1 ⟨rfl, hr, ho⟩
  have F1 := hide1 (F0.out.call hr ho)
  clear hr ho F0
  go_wp2_with fail
  refine (name_any b g n cap x1 toks _ F1.out.pa F1.out.pt hc1).mono ?_
  rw [X2.out, K2.out]
  rintro e w2 ⟨rfl, hr, ho⟩
  have F2 := hide1 (F1.out.call hr ho)
  clear hr ho F1
  unfold nmV
  have hl2 := blk_lt F2.out.pa
  have B2 := hide1 (Box.new w2 #[.string t2.text, .int .i64 t2.place] 197)
  have G2 := hide1 (F2.out.quiet ((Only.refl _ _).alloc (.cells #[.string t2.text, .int .i64 t2.place] 197)))
  clear F2
  go_wp2_with fail
  refine (ptake_any b g n cap 15 x2 toks _ G2.out.pa G2.out.pt hc2).mono ?_
  rw [X3.out]
  rintro e w3 ⟨rfl, hr, ho⟩
  have F3 := hide1 (G2.out.call hr ho)
  have B3 := hide1 (B2.out.only ho (by omega))
  clear hr ho G2 B2
  have n0 := B3.out.cell 0
  have n1 := B3.out.cell 1
  simp only [List.getElem?_toArray, List.getElem?_cons_zero, List.getElem?_cons_succ] at n0 n1
  have l3 := blk_lt B3.out
  have q0 := F3.out.res.cell 0
  have q1 := F3.out.res.cell 1
  have q2 := F3.out.res.cell 2
  have q3 := F3.out.res.cell 3
  have q4 := F3.out.res.cell 4
  have q5 := F3.out.res.cell 5
  have q6 := F3.out.res.cell 6
  have q7 := F3.out.res.cell 7
  have qf := F3.out.res.frozen
  have ql := blk_lt F3.out.res
  simp only [List.getElem?_toArray, List.getElem?_cons_zero, List.getElem?_cons_succ] at q0 q1 q2 q3 q4 q5 q6 q7
  go_wp2_with fail
  go_region_with (go_at_call 207; refine (name_any b g n cap x3 toks _ (F3.out.quiet (by repeat (first | exact Only.refl _ _ | refine Only.drew ?_ | refine Only.drewN ?_ _ | refine Only.alloc ?_ _))).pa (F3.out.quiet (by repeat (first | exact Only.refl _ _ | refine Only.drew ?_ | refine Only.drewN ?_ _ | refine Only.alloc ?_ _))).pt hc3).mono ?_; rw [X4.out, K4.out]; rintro e w5 ⟨rfl, hr, ho⟩; have F5 := hide1 ((F3.out.quiet (by repeat (first | exact Only.refl _ _ | refine Only.drew ?_ | refine Only.drewN ?_ _ | refine Only.alloc ?_ _))).call hr ho); have B5 := hide1 ((Box.only (X := fun _ => False) B3.out (by repeat (first | exact Only.refl _ _ | refine Only.drew ?_ | refine Only.drewN ?_ _ | refine Only.alloc ?_ _)) (fun q => q)).only ho (by omega)); have n0' := B5.out.cell 0; have n1' := B5.out.cell 1; simp only [List.getElem?_toArray, List.getElem?_cons_zero, List.getElem?_cons_succ] at n0' n1'; unfold nmV; clear hr ho q0 q1 q2 q3 q4 q5 q6 q7 qf ql; have q0 := F5.out.res.cell 0; have q1 := F5.out.res.cell 1; have q2 := F5.out.res.cell 2; have q3 := F5.out.res.cell 3; have q4 := F5.out.res.cell 4; have q5 := F5.out.res.cell 5; have q6 := F5.out.res.cell 6; have q7 := F5.out.res.cell 7; have qf := F5.out.res.frozen; have ql := blk_lt F5.out.res; simp only [List.getElem?_toArray, List.getElem?_cons_zero, List.getElem?_cons_succ] at q0 q1 q2 q3 q4 q5 q6 q7)
  all_goals
    go_wp2
    have R : w5.ownsRow w.heap.size 197 2 (.slice none 0 0) 0 [] := World.ownsRow_nil _ _ _ _
    refine bodyPost_ret (v := .agg (vsC ⟨9, t2, t4, 0, []⟩ (.slice none 0 0))) (by simp [results, Tryz.results249, go_sem, vsC, q0, q1, q2, q3, q4, q5, q6, q7]) rfl ⟨(.slice none 0 0), rfl, ?_, ?_, ?_⟩
    · refine ownsRow_only (X := fun k => k = w.heap.size) R ?_ (own_ne R F5.out.res (by decide))
      iterate 8 refine Only.set_at ?_ _ _
      exact Only.refl _ _
    · refine Box.only (X := fun k => k = w.heap.size) F5.out.pa ?_ (by have := F5.out.bl; omega)
      iterate 8 refine Only.set_at ?_ _ _
      exact Only.refl _ _
    · iterate 8 refine Only.set_new ?_ _ _ (Nat.le_refl _)
      exact F5.out.only

set_option maxRecDepth 100000 in
set_option maxHeartbeats 1000000 in
theorem plain_set (B0 : Nat) (w00 : World) (hF : FieldOk B0 w00) (b g n cap : Nat) (x0 : PS) (toks : List PT) (w : World) (hb : B0 ≤ b) (hG : Below B0 w00 w) (hB : B0 ≤ w.heap.size) (hr : PaBlk b g n cap x0 w) (ht : PtRow g n cap toks w) (hc0 : x0.next < n) (hz : (ptAt toks (n - 1)).kind = 0)
    (k4 : (ptAt toks x0.next).kind ≠ 4) (k6 : (ptAt toks x0.next).kind ≠ 6) (k17 : (ptAt toks x0.next).kind ≠ 17) :
    Calls Tryz.prog 249 #[.pointer (some ⟨b, 0, none⟩)] w fun e w' => vPost b g n cap w (plainP toks n x0) e w' := by
  obtain ⟨x1, h1⟩ : ∃ y, takeP toks n 1 x0 = y := ⟨_, rfl⟩
  obtain ⟨t1, k1⟩ : ∃ y, takeV toks 1 x0 = y := ⟨_, rfl⟩
  obtain ⟨x2, h2⟩ : ∃ y, takeP toks n 15 x1 = y := ⟨_, rfl⟩
  obtain ⟨s3, x3, h3⟩ : ∃ s y, valP toks n x2 = (s, y) := ⟨_, _, rfl⟩
  have hv : plainP toks n x0 = ({ s3 with tg := t1 }, x3) := by simp [plainP, k4, k6, k17, h1, k1, h2, h3]
  rw [hv]
  have hc1 : x1.next < n := by rw [← h1]; exact takeP_lt hz hc0
  have hc2 : x2.next < n := by rw [← h2]; exact takeP_lt hz hc1
  have F0 := hide1 (PFm.start hr ht)
  have HG := hide1 hG
  have HF := hide1 hF
  have HZ := hide1 hz
  have X1 := hide1 h1
  have K1 := hide1 k1
  have X2 := hide1 h2
  have X3 := hide1 h3
  obtain ⟨kk, hkk⟩ : ∃ k, (ptAt toks x0.next).kind = k := ⟨_, rfl⟩
  rw [hkk] at k4 k6 k17
  have HK := hide1 hkk
  have j4 : ((kk : Int) == 4) = false := by simp; omega
  have j6 : ((kk : Int) == 6) = false := by simp; omega
  have j17 : ((kk : Int) == 17) = false := by simp; omega
  clear h1 k1 h2 h3 hv hr ht hz hkk k4 k6 k17 hG hF
  go_enter Tryz.func249, Tryz.ntmps249
  go_wp2_with fail
  refine (kind_any b g n cap x0 toks _ F0.out.pa F0.out.pt hc0).mono ?_
  rw [HK.out]
  rintro e w0 ⟨rfl, ho⟩
  have F0' := hide1 (F0.out.quiet ho)
  clear ho F0
  have F0 := F0'
  clear F0'
  go_wp2_with fail
  refine (name_any b g n cap x0 toks _ F0.out.pa F0.out.pt hc0).mono ?_
  rw [X1.out, K1.out]
  rintro e w1 ⟨rfl, hr, ho⟩
  have F1 := hide1 (F0.out.call hr ho)
  clear hr ho F0
  unfold nmV
  have hl1 := blk_lt F1.out.pa
  have B1 := hide1 (Box.new w1 #[.string t1.text, .int .i64 t1.place] 197)
  have G1 := hide1 (F1.out.quiet ((Only.refl _ _).alloc (.cells #[.string t1.text, .int .i64 t1.place] 197)))
  clear F1
  go_wp2_with fail
  refine (ptake_any b g n cap 15 x1 toks _ G1.out.pa G1.out.pt hc1).mono ?_
  rw [X2.out]
  rintro e w2 ⟨rfl, hr, ho⟩
  have F2 := hide1 (G1.out.call hr ho)
  have B2 := hide1 (B1.out.only ho (by omega))
  clear hr ho G1 B1
  have hz2 := F2.out.only.size
  have l2 := blk_lt B2.out
  have l2' := blk_lt F2.out.pa
  go_wp2_with fail
  refine (value_all B0 w00 HF.out b g n cap x2 toks _ hb (Only.keeps HG.out F2.out.only hB hb) (by omega) F2.out.pa F2.out.pt hc2 HZ.out).mono ?_
  rw [X3.out]
  rintro e w3 ⟨av, rfl, hown, hr, ho⟩
  obtain ⟨va, vl, vc, rfl⟩ := owns_form hown
  have F3 := hide1 (F2.out.call hr ho)
  have B3 := hide1 (B2.out.only ho (by omega))
  have HW := hide1 (ownsRow_base hown (B' := w.heap.size) (by omega))
  clear hr ho hown F2 B2
  have n0 := B3.out.cell 0
  have n1 := B3.out.cell 1
  simp only [List.getElem?_toArray, List.getElem?_cons_zero, List.getElem?_cons_succ] at n0 n1
  have l3 := blk_lt B3.out
  have q0 := F3.out.res.cell 0
  have q1 := F3.out.res.cell 1
  have q2 := F3.out.res.cell 2
  have q3 := F3.out.res.cell 3
  have q4 := F3.out.res.cell 4
  have q5 := F3.out.res.cell 5
  have q6 := F3.out.res.cell 6
  have q7 := F3.out.res.cell 7
  have qf := F3.out.res.frozen
  have ql := blk_lt F3.out.res
  simp only [List.getElem?_toArray, List.getElem?_cons_zero, List.getElem?_cons_succ] at q0 q1 q2 q3 q4 q5 q6 q7
  unfold vsC
  go_wp2
  refine bodyPost_ret (v := .agg (vsC { s3 with tg := t1 } (.slice va vl vc))) (by simp [results, Tryz.results249, go_sem, vsC, q0, q1, q2, q3, q4, q5, q6, q7, ql]) rfl ⟨.slice va vl vc, rfl, ?_, ?_, ?_⟩
  · refine ownsRow_only (X := fun k => k = w.heap.size) HW.out ?_ (own_ne HW.out F3.out.res (by decide))
    refine Only.alloc ?_ _
    iterate 8 refine Only.set_at ?_ _ _
    exact Only.refl _ _
  · refine Box.only (X := fun k => k = w.heap.size) F3.out.pa ?_ (by have := F3.out.bl; omega)
    refine Only.alloc ?_ _
    iterate 8 refine Only.set_at ?_ _ _
    exact Only.refl _ _
  · refine Only.alloc ?_ _
    iterate 8 refine Only.set_new ?_ _ _ (Nat.le_refl _)
    exact F3.out.only

theorem plain_all (B0 : Nat) (w00 : World) (hF : FieldOk B0 w00) (b g n cap : Nat) (x0 : PS) (toks : List PT) (w : World) (hb : B0 ≤ b) (hG : Below B0 w00 w) (hB : B0 ≤ w.heap.size) (hr : PaBlk b g n cap x0 w) (ht : PtRow g n cap toks w) (hc0 : x0.next < n) (hz : (ptAt toks (n - 1)).kind = 0) :
    Calls Tryz.prog 249 #[.pointer (some ⟨b, 0, none⟩)] w fun e w' => vPost b g n cap w (plainP toks n x0) e w' := by
  by_cases h4 : (ptAt toks x0.next).kind = 4
  · exact plain_one b g n cap x0 toks w hr ht hc0 hz (.inl h4)
  · by_cases h6 : (ptAt toks x0.next).kind = 6
    · exact plain_one b g n cap x0 toks w hr ht hc0 hz (.inr h6)
    · by_cases h17 : (ptAt toks x0.next).kind = 17
      · exact plain_star b g n cap x0 toks w hr ht hc0 hz h17
      · exact plain_set B0 w00 hF b g n cap x0 toks w hb hG hB hr ht hc0 hz h4 h6 h17

end Go.Proofs.YtgbmakpdjdigmaaGreatDoor

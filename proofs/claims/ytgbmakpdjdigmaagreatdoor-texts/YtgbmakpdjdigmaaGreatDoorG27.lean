/- RdG4 RdG5: told at each. -/
import Derived.Test.YtgbmakpdjdigmaaGreatDoorG23

/- The reference's reader.value at the sign 40: what it answers, and memory behind it. -/
namespace Go.Proofs.YtgbmakpdjdigmaaGreatDoor
open Go.RowKit

set_option maxRecDepth 100000 in
set_option maxHeartbeats 4000000 in
theorem value_par (rb pb g n cap : Nat) (toks : List Tk) (fv sv : Value) (x0 : St) (s : FS) (w : World) (hr : RdBlk rb pb g n cap x0.cur x0.bad w) (ht : TokRow g n cap toks w) (hp : PrBlk pb fv sv x0.pl x0.ca w) (hc0 : x0.cur < n) (hz : (tokAt toks (n - 1)).sort = 0) (ha : s.args = []) (hca : x0.ca ≤ 4001)
    (hw : wordOf (tokAt toks x0.cur) = [40]) :
    Calls Tryz.prog 179 #[.pointer (some ⟨rb, 0, none⟩), .agg (fsA s nilS nilS nilS)] w fun e w' => valPost rb pb g n cap toks fv sv w (valS toks x0 s) e w' := by
  have hn := ht.2.2
  have lr := blk_lt hr
  have lp := blk_lt hp
  have HV0 : Hid (VF rb pb w.heap.size (w.heap.size + 1) g n cap toks fv sv x0 (fsA s nilS nilS nilS) zS ((w.alloc (.cells (fsA s nilS nilS nilS) 183)).alloc (.cells zS 183))) :=
    ⟨(hr.box.alloc _).alloc _, (ht.only (((Only.refl (fun _ => False) w).alloc _).alloc _) (fun q => q)), (hp.box.alloc _).alloc _, (Box.new _ _ _).alloc _, by have := Box.new (w.alloc (.cells (fsA s nilS nilS nilS) 183)) zS 183; simpa using this, by omega⟩
  have HO0 : Hid (Only (fun k => k = rb ∨ k = pb) w ((w.alloc (.cells (fsA s nilS nilS nilS) 183)).alloc (.cells zS 183))) := ((Only.refl _ _).alloc _).alloc _
  obtain ⟨y, hy⟩ : ∃ y, valS toks x0 s = y := ⟨_, rfl⟩
  rw [hy]
  have HY : Hid (valS toks x0 s = y) := hy
  have HZ : Hid ((tokAt toks (n - 1)).sort = 0) := hz
  have HA : Hid (s.args = []) := ha
  clear hy hr ht hp hz ha
  have HW := hide1 hw
  unfold wordOf at hw
  generalize ht : tokAt toks x0.cur = t at hw
  have HT : Hid (tokAt toks x0.cur = t) := ht
  clear ht
  split at hw
  · rename_i hs
    have e0 : (t.text.toList == [110, 101, 119]) = false := by simp [hw]
    have e1 : (t.text.toList == [38]) = false := by simp [hw]
    have e2 : (t.text.toList == [42]) = false := by simp [hw]
    have e3 : (t.text.toList == [64]) = false := by simp [hw]
    have e4 : (t.text.toList == [40]) = true := by simp [hw]
    clear hw
    have hs2 : (((t.sort : Int) == 2) = true) ∨ (((t.sort : Int) == 2) = false ∧ ((t.sort : Int) == 4) = true) := by
      rcases hs with hs | hs
      · left; simp [hs]
      · right; simp [hs]
    clear hs
    rcases hs2 with hs2 | ⟨hs2, hs4⟩
    all_goals
      go_enter Tryz.func179, Tryz.ntmps179
      go_wp2
      generalize (w.alloc (.cells (fsA s nilS nilS nilS) 183)).alloc (.cells zS 183) = W0 at HV0 HO0 ⊢
      obtain ⟨t0, t1, t2⟩ := HV0.out.tk.cells hc0
      rw [HT.out] at t0 t1 t2
      have r0 := HV0.out.rd.box.cell 0
      have r1 := HV0.out.rd.box.cell 1
      simp only [List.getElem?_toArray, List.getElem?_cons_zero, List.getElem?_cons_succ] at r0 r1
      have l0 := blk_lt HV0.out.rd
      have l1 : g < W0.heap.size := (HV0.out.tk.1.lt g rfl).2
      have ls : w.heap.size < W0.heap.size := blk_lt HV0.out.sx
      have lo : w.heap.size + 1 < W0.heap.size := blk_lt HV0.out.ox
      have fa := HV0.out.sx.frozen
      have a0 := HV0.out.sx.cell 0
      simp [fsA] at a0
      go_region
      go_wp2_with fail
      clear t0 t1 t2 r0 r1 l0 l1 ls lo fa a0
      obtain ⟨x1, hx1⟩ : ∃ z, eatS toks [40] x0 = z := ⟨_, rfl⟩
      refine (eat_l rb pb g n cap x0.cur x0.bad toks _ [40] (by simp) _ ?_ ?_ hc0).mono ?_
      · exact (HV0.out.quiet (by repeat (first | exact Only.refl _ _ | refine Only.drew ?_ | refine Only.drewN ?_ _ | refine Only.alloc ?_ _))).rd
      · exact (HV0.out.quiet (by repeat (first | exact Only.refl _ _ | refine Only.drew ?_ | refine Only.drewN ?_ _ | refine Only.alloc ?_ _))).tk
      rintro e w1 ⟨rfl, hr, ho⟩
      have HV1 := hide1 ((HV0.out.quiet (by repeat (first | exact Only.refl _ _ | refine Only.drew ?_ | refine Only.drewN ?_ _ | refine Only.alloc ?_ _))).eat hx1 ho hr)
      have HO1 : Hid (Only (fun k => k = rb ∨ k = pb) w w1) := Only.tr (by (repeat (first | refine Only.set_new ?_ _ _ (by omega) | refine Only.set_p ?_ _ _ | refine Only.alloc ?_ _ | refine Only.drew ?_ | refine Only.drewN ?_ _)); exact HO0.out) ho
      have hc1 : x1.cur < n := eatS_cur hx1 HZ.out hc0
      have HX1 := hide1 hx1
      clear hr ho hx1 HV0 HO0
      have HV1' := HV1.out
      have a4 := HV1'.sx.cell 4
      have a5 := HV1'.sx.cell 5
      have a6 := HV1'.sx.cell 6
      have a0 := HV1'.sx.cell 0
      have fa := HV1'.sx.frozen
      simp [fsA] at a0 a4 a5 a6
      clear HV1'
      go_wp2_with fail
      obtain ⟨x2, hx2⟩ : ∃ z, eatS toks [42] x1 = z := ⟨_, rfl⟩
      refine (eat_l rb pb g n cap x1.cur x1.bad toks _ [42] (by simp) _ ?_ ?_ hc1).mono ?_
      · exact (HV1.out.setS 0 (.int .i64 9)).rd
      · exact (HV1.out.setS 0 (.int .i64 9)).tk
      rintro e w2 ⟨rfl, hr, ho⟩
      have HV2 := hide1 ((HV1.out.setS 0 (.int .i64 9)).eat hx2 ho hr)
      have HO2 : Hid (Only (fun k => k = rb ∨ k = pb) w w2) := Only.tr (by (repeat (first | refine Only.set_new ?_ _ _ (by omega) | refine Only.set_p ?_ _ _ | refine Only.alloc ?_ _ | refine Only.drew ?_ | refine Only.drewN ?_ _)); exact HO1.out) ho
      have hc2 : x2.cur < n := eatS_cur hx2 HZ.out hc1
      have HX2 := hide1 hx2
      clear hr ho hx2 HV1 HO1
      clear a0 a4 a5 a6 fa
      go_wp2_with fail
      obtain ⟨q3, x3, hx3⟩ : ∃ q z, getS toks 1 x2 = (q, z) := ⟨_, _, rfl⟩
      refine (get_any rb pb g n cap x2.cur 1 x2.bad toks _ ?_ ?_ hc2).mono ?_
      · exact (HV2.out).rd
      · exact (HV2.out).tk
      rw [show (getR toks x2.cur x2.bad 1).1 = q3 from congrArg Prod.fst hx3]
      rintro e w3 ⟨rfl, hr, ho⟩
      have HV3 := hide1 ((HV2.out).get hx3 ho hr)
      have HO3 : Hid (Only (fun k => k = rb ∨ k = pb) w w3) := Only.tr (by (repeat (first | refine Only.set_new ?_ _ _ (by omega) | refine Only.set_p ?_ _ _ | refine Only.alloc ?_ _ | refine Only.drew ?_ | refine Only.drewN ?_ _)); exact HO2.out) ho
      have hc3 : x3.cur < n := getS_cur hx3 (by decide) HZ.out hc2
      have HX3 := hide1 hx3
      clear hr ho hx3 HV2 HO2
      unfold tkV
      have HV3' := HV3.out
      have a4 := HV3'.sx.cell 4
      have a5 := HV3'.sx.cell 5
      have a6 := HV3'.sx.cell 6
      have a0 := HV3'.sx.cell 0
      have fa := HV3'.sx.frozen
      simp [fsA] at a0 a4 a5 a6
      clear HV3'
      go_wp2_with fail
      obtain ⟨x4, hx4⟩ : ∃ z, eatS toks [41] x3 = z := ⟨_, rfl⟩
      refine (eat_l rb pb g n cap x3.cur x3.bad toks _ [41] (by simp) _ ?_ ?_ hc3).mono ?_
      · exact (((HV3.out.setS 4 (.string q3.text)).setS 5 (.int .i64 q3.pos)).setS 6 (.int .i64 q3.sort)).rd
      · exact (((HV3.out.setS 4 (.string q3.text)).setS 5 (.int .i64 q3.pos)).setS 6 (.int .i64 q3.sort)).tk
      rintro e w4 ⟨rfl, hr, ho⟩
      have HV4 := hide1 ((((HV3.out.setS 4 (.string q3.text)).setS 5 (.int .i64 q3.pos)).setS 6 (.int .i64 q3.sort)).eat hx4 ho hr)
      have HO4 : Hid (Only (fun k => k = rb ∨ k = pb) w w4) := Only.tr (by (repeat (first | refine Only.set_new ?_ _ _ (by omega) | refine Only.set_p ?_ _ _ | refine Only.alloc ?_ _ | refine Only.drew ?_ | refine Only.drewN ?_ _)); exact HO3.out) ho
      have hc4 : x4.cur < n := eatS_cur hx4 HZ.out hc3
      have HX4 := hide1 hx4
      clear hr ho hx4 HV3 HO3
      clear a0 a4 a5 a6 fa
      go_wp2_with fail
      obtain ⟨x5, hx5⟩ : ∃ z, eatS toks [40] x4 = z := ⟨_, rfl⟩
      refine (eat_l rb pb g n cap x4.cur x4.bad toks _ [40] (by simp) _ ?_ ?_ hc4).mono ?_
      · exact (HV4.out).rd
      · exact (HV4.out).tk
      rintro e w5 ⟨rfl, hr, ho⟩
      have HV5 := hide1 ((HV4.out).eat hx5 ho hr)
      have HO5 : Hid (Only (fun k => k = rb ∨ k = pb) w w5) := Only.tr (by (repeat (first | refine Only.set_new ?_ _ _ (by omega) | refine Only.set_p ?_ _ _ | refine Only.alloc ?_ _ | refine Only.drew ?_ | refine Only.drewN ?_ _)); exact HO4.out) ho
      have hc5 : x5.cur < n := eatS_cur hx5 HZ.out hc4
      have HX5 := hide1 hx5
      clear hr ho hx5 HV4 HO4
      have hca5 : x5.ca = x0.ca := by
        have h1 : x1.ca = x0.ca := by rw [← HX1.out]; rfl
        have h2 : x2.ca = x1.ca := by rw [← HX2.out]; rfl
        have h3 : x3.ca = x2.ca := by have := congrArg (fun z => z.2.ca) HX3.out; exact this.symm
        have h4 : x4.ca = x3.ca := by rw [← HX4.out]; rfl
        have h5 : x5.ca = x4.ca := by rw [← HX5.out]; rfl
        omega
      have hca5' : x5.ca ≤ 4001 := by omega
      clear hca5
      have HV5' := HV5.out
      obtain ⟨n1, n2, n3, n4, n5, n6, n7, n8, n9⟩ := HV5'.nes
      have p0 := HV5'.rd.box.cell 3
      have p1 := HV5'.pr.box.cell 3
      have p2 := HV5'.pr.box.frozen 3
      have a9 := HV5'.sx.cell 9
      have fa := HV5'.sx.frozen
      simp [fsA] at p0 p1 a9
      clear HV5'
      go_wp2_with fail
      obtain ⟨x6, hx6⟩ : ∃ z : St, (⟨x5.cur, x5.bad, x5.pl, x5.ca + 1⟩ : St) = z := ⟨_, rfl⟩
      have hc6 : x6.cur < n := by rw [← hx6]; exact hc5
      have HX6 := hide1 hx6
      have HV6 := hide1 ((HV5.out.setCa1 (u := (x5.ca : Int) + 1) (m := x5.ca + 1) (by omega)).setS 9 (.int .i64 ((x5.ca : Int) + 1)))
      rw [hx6] at HV6
      have HO6 := HO5
      clear hx6 HV5 HO5 p0 p1 p2 a9 fa n1 n2 n3 n4 n5 n6 n7 n8 n9
      obtain ⟨q7, x7, hx7⟩ : ∃ q z, listS toks x6 = (q, z) := ⟨_, _, rfl⟩
      refine (list_any rb pb g n cap x6.cur x6.bad toks _ ?_ ?_ hc6 HZ.out).mono ?_
      · exact (HV6.out).rd
      · exact (HV6.out).tk
      rw [show (listR toks x6.cur x6.bad).1 = q7 from congrArg Prod.fst hx7]
      rintro e w7 ⟨v7, rfl, hown, hr, ho⟩
      have HL7 := hide1 (ownsRow_base hown (B' := w.heap.size + 2) (by have := blk_lt (HV6.out).ox; omega))
      obtain ⟨va7, vl7, vc7, rfl⟩ := owns_form hown
      have HV7 := hide1 ((HV6.out).list hx7 ho hr)
      have HO7 : Hid (Only (fun k => k = rb ∨ k = pb) w w7) := Only.tr (by (repeat (first | refine Only.set_new ?_ _ _ (by omega) | refine Only.set_p ?_ _ _ | refine Only.alloc ?_ _ | refine Only.drew ?_ | refine Only.drewN ?_ _)); exact HO6.out) ho
      have hc7 : x7.cur < n := listS_cur hx7 HZ.out hc6
      have HX7 := hide1 hx7
      clear hr ho hx7 HV6 HO6 hown
      have hy : y = ({ s with kind := 9, q := q3, place := x5.ca + 1, args := q7 }, x7) := by rw [← HY.out]; unfold valS; simp [HW.out, HX1.out, HX2.out, HX3.out, HX4.out, HX5.out, HX6.out, HX7.out]
      subst hy
      have HV' := HV7.out
      obtain ⟨n1, n2, n3, n4, n5, n6, n7, n8, n9⟩ := HV'.nes
      have a0 := HV'.sx.cell 0
      have a1 := HV'.sx.cell 1
      have a2 := HV'.sx.cell 2
      have a3 := HV'.sx.cell 3
      have a4 := HV'.sx.cell 4
      have a5 := HV'.sx.cell 5
      have a6 := HV'.sx.cell 6
      have a7 := HV'.sx.cell 7
      have a8 := HV'.sx.cell 8
      have a9 := HV'.sx.cell 9
      have a10 := HV'.sx.cell 10
      have a11 := HV'.sx.cell 11
      have a12 := HV'.sx.cell 12
      have a13 := HV'.sx.cell 13
      have a14 := HV'.sx.cell 14
      have o0 := HV'.ox.cell 0
      have o1 := HV'.ox.cell 1
      have o2 := HV'.ox.cell 2
      have o3 := HV'.ox.cell 3
      have o4 := HV'.ox.cell 4
      have o5 := HV'.ox.cell 5
      have o6 := HV'.ox.cell 6
      have o7 := HV'.ox.cell 7
      have o8 := HV'.ox.cell 8
      have o9 := HV'.ox.cell 9
      have o10 := HV'.ox.cell 10
      have o11 := HV'.ox.cell 11
      have o12 := HV'.ox.cell 12
      have o13 := HV'.ox.cell 13
      have o14 := HV'.ox.cell 14
      have fa := HV'.sx.frozen
      have fo := HV'.ox.frozen
      simp [fsA] at a0 a1 a2 a3 a4 a5 a6 a7 a8 a9 a10 a11 a12 a13 a14 o0 o1 o2 o3 o4 o5 o6 o7 o8 o9 o10 o11 o12 o13 o14
      clear HV' HY
      go_wp2
      refine bodyPost_ret (v := .agg (fsA { s with kind := 9, q := q3, place := x5.ca + 1, args := q7 } (.slice va7 vl7 vc7) nilS nilS)) (by simp [results, Tryz.results179, go_sem, fsA, o0, o1, o2, o3, o4, o5, o6, o7, o8, o9, o10, o11, o12, o13, o14]) rfl ?_
      have F := HV7.out.setS 8 (.slice va7 vl7 vc7)
      refine ⟨(.slice va7 vl7 vc7), rfl, ?_, F.rd.only (X := fun k => k = w.heap.size + 1) ?_ (by omega), F.tk.only (X := fun k => k = w.heap.size + 1) ?_ (by omega), F.pr.box.only (X := fun k => k = w.heap.size + 1) ?_ (by omega), ?_⟩
      · exact ownsRow_base (ownsRow_only (X := fun k => k = w.heap.size ∨ k = w.heap.size + 1) HL7.out (by (repeat refine Only.set_in ?_ _ _ (by simp)); exact Only.refl _ _) (fun k hk h => by have := (HL7.out.lt k hk).1; omega)) (by omega)
      · iterate 15 refine Only.set_at ?_ _ _
        exact Only.refl _ _
      · iterate 15 refine Only.set_at ?_ _ _
        exact Only.refl _ _
      · iterate 15 refine Only.set_at ?_ _ _
        exact Only.refl _ _
      · exact (by (repeat (first | refine Only.set_new ?_ _ _ (by omega) | refine Only.set_p ?_ _ _ | refine Only.alloc ?_ _ | refine Only.drew ?_ | refine Only.drewN ?_ _)); exact HO7.out)
  · simp at hw

end Go.Proofs.YtgbmakpdjdigmaaGreatDoor

/- The reference's reader.value at a name, no parenthesis behind it: what it answers, and memory behind it. -/
namespace Go.Proofs.YtgbmakpdjdigmaaGreatDoor
open Go.RowKit

set_option maxRecDepth 100000 in
set_option maxHeartbeats 4000000 in
theorem rvalue_name (rb pb g n cap : Nat) (toks : List Tk) (fv sv : Value) (x0 : St) (s : FS) (w : World) (hr : RdBlk rb pb g n cap x0.cur x0.bad w) (ht : TokRow g n cap toks w) (hp : PrBlk pb fv sv x0.pl x0.ca w) (hc0 : x0.cur < n) (hz : (tokAt toks (n - 1)).sort = 0) (ha : s.args = [])
    (hw0 : wordOf (tokAt toks x0.cur) ≠ [110, 101, 119]) (hw1 : wordOf (tokAt toks x0.cur) ≠ [38]) (hw2 : wordOf (tokAt toks x0.cur) ≠ [42]) (hw3 : wordOf (tokAt toks x0.cur) ≠ [64]) (hw4 : wordOf (tokAt toks x0.cur) ≠ [40])
    (hd : nextB (getS toks 1 x0).2.bad (tokAt toks (getS toks 1 x0).2.cur) [40] = false) :
    Calls Tryz.prog 179 #[.pointer (some ⟨rb, 0, none⟩), .agg (fsA s nilS nilS nilS)] w fun e w' => valPost rb pb g n cap toks fv sv w (valS toks x0 s) e w' := by
  have HD := hide1 hd
  have HW := hide1 (And.intro hw0 (And.intro hw1 (And.intro hw2 (And.intro hw3 hw4))))
  clear hd
  have hn := ht.2.2
  have lr := blk_lt hr
  have lp := blk_lt hp
  have HV0 : Hid (VF rb pb w.heap.size (w.heap.size + 1) g n cap toks fv sv x0 (fsA s nilS nilS nilS) zS ((w.alloc (.cells (fsA s nilS nilS nilS) 183)).alloc (.cells zS 183))) :=
    ⟨(hr.box.alloc _).alloc _, (ht.only (((Only.refl (fun _ => False) w).alloc _).alloc _) (fun q => q)), (hp.box.alloc _).alloc _, (Box.new _ _ _).alloc _, by have := Box.new (w.alloc (.cells (fsA s nilS nilS nilS) 183)) zS 183; simpa using this, by omega⟩
  have HO0 : Hid (Only (fun k => k = rb ∨ k = pb) w ((w.alloc (.cells (fsA s nilS nilS nilS) 183)).alloc (.cells zS 183))) := ((Only.refl _ _).alloc _).alloc _
  obtain ⟨y, hy⟩ : ∃ y, valS toks x0 s = y := ⟨_, rfl⟩
  rw [hy]
  have HY : Hid (valS toks x0 s = y) := hy
  have HZ : Hid ((tokAt toks (n - 1)).sort = 0) := hz
  have HA : Hid (s.args = []) := ha
  clear hy hr ht hp hz ha
  unfold wordOf at hw0 hw1 hw2 hw3 hw4
  generalize ht : tokAt toks x0.cur = t at hw0 hw1 hw2 hw3 hw4
  have HT : Hid (tokAt toks x0.cur = t) := ht
  clear ht
  have hcase : (((t.sort : Int) == 2) = true ∧ (t.text.toList == [110, 101, 119]) = false ∧ (t.text.toList == [38]) = false ∧ (t.text.toList == [42]) = false ∧ (t.text.toList == [64]) = false ∧ (t.text.toList == [40]) = false) ∨ (((t.sort : Int) == 2) = false ∧ ((t.sort : Int) == 4) = true ∧ (t.text.toList == [110, 101, 119]) = false ∧ (t.text.toList == [38]) = false ∧ (t.text.toList == [42]) = false ∧ (t.text.toList == [64]) = false ∧ (t.text.toList == [40]) = false) ∨ (((t.sort : Int) == 2) = false ∧ ((t.sort : Int) == 4) = false) := by
    by_cases h2 : t.sort = 2
    · rw [if_pos (.inl h2)] at hw0 hw1 hw2 hw3 hw4
      left; simp [h2, hw0, hw1, hw2, hw3, hw4]
    · by_cases h4 : t.sort = 4
      · rw [if_pos (.inr h4)] at hw0 hw1 hw2 hw3 hw4
        right; left; simp [h4, hw0, hw1, hw2, hw3, hw4]
      · right; right; simp; omega
  clear hw0 hw1 hw2 hw3 hw4
  rcases hcase with ⟨hs2, e0, e1, e2, e3, e4⟩ | ⟨hs2, hs4, e0, e1, e2, e3, e4⟩ | ⟨hs2, hs4⟩
  all_goals
    go_enter Tryz.func179, Tryz.ntmps179
    go_wp2
    generalize (w.alloc (.cells (fsA s nilS nilS nilS) 183)).alloc (.cells zS 183) = W0 at HV0 HO0 ⊢
    obtain ⟨t0, t1, t2⟩ := HV0.out.tk.cells hc0
    rw [HT.out] at t0 t1 t2
    have r0 := HV0.out.rd.box.cell 0
    have r1 := HV0.out.rd.box.cell 1
    simp only [List.getElem?_toArray, List.getElem?_cons_zero, List.getElem?_cons_succ] at r0 r1
    have l0 := blk_lt HV0.out.rd
    have l1 : g < W0.heap.size := (HV0.out.tk.1.lt g rfl).2
    have ls : w.heap.size < W0.heap.size := blk_lt HV0.out.sx
    have lo : w.heap.size + 1 < W0.heap.size := blk_lt HV0.out.ox
    have fa := HV0.out.sx.frozen
    have a0 := HV0.out.sx.cell 0
    simp [fsA] at a0
    go_region
    go_wp2_with fail
    clear t0 t1 t2 r0 r1 l0 l1 ls lo fa a0
    obtain ⟨q1, x1, hx1⟩ : ∃ q z, getS toks 1 x0 = (q, z) := ⟨_, _, rfl⟩
    refine (get_any rb pb g n cap x0.cur 1 x0.bad toks _ ?_ ?_ hc0).mono ?_
    · exact ((HV0.out.setS 0 (.int .i64 7)).quiet (by repeat (first | exact Only.refl _ _ | refine Only.drew ?_ | refine Only.drewN ?_ _ | refine Only.alloc ?_ _))).rd
    · exact ((HV0.out.setS 0 (.int .i64 7)).quiet (by repeat (first | exact Only.refl _ _ | refine Only.drew ?_ | refine Only.drewN ?_ _ | refine Only.alloc ?_ _))).tk
    rw [show (getR toks x0.cur x0.bad 1).1 = q1 from congrArg Prod.fst hx1]
    rintro e w1 ⟨rfl, hr, ho⟩
    have HV1 := hide1 (((HV0.out.setS 0 (.int .i64 7)).quiet (by repeat (first | exact Only.refl _ _ | refine Only.drew ?_ | refine Only.drewN ?_ _ | refine Only.alloc ?_ _))).get hx1 ho hr)
    have HO1 : Hid (Only (fun k => k = rb ∨ k = pb) w w1) := Only.tr (by (repeat (first | refine Only.set_new ?_ _ _ (by omega) | refine Only.set_p ?_ _ _ | refine Only.alloc ?_ _ | refine Only.drew ?_ | refine Only.drewN ?_ _)); exact HO0.out) ho
    have hc1 : x1.cur < n := getS_cur hx1 (by decide) HZ.out hc0
    have HX1 := hide1 hx1
    clear hr ho hx1 HV0 HO0
    unfold tkV
    have HV1' := HV1.out
    have a4 := HV1'.sx.cell 4
    have a5 := HV1'.sx.cell 5
    have a6 := HV1'.sx.cell 6
    have a0 := HV1'.sx.cell 0
    have fa := HV1'.sx.frozen
    simp [fsA] at a0 a4 a5 a6
    clear HV1'
    have HD1 : Hid (nextB x1.bad (tokAt toks x1.cur) [40] = false) := by have := HD.out; rw [HX1.out] at this; exact this
    clear HD
    go_wp2_with fail
    refine (next_l rb pb g n cap x1.cur x1.bad toks _ [40] (by simp) _ ?_ ?_ hc1).mono ?_
    · exact (((HV1.out.setS 4 (.string q1.text)).setS 5 (.int .i64 q1.pos)).setS 6 (.int .i64 q1.sort)).rd
    · exact (((HV1.out.setS 4 (.string q1.text)).setS 5 (.int .i64 q1.pos)).setS 6 (.int .i64 q1.sort)).tk
    rw [HD1.out]
    rintro e wn ⟨rfl, ho⟩
    have HVn := hide1 ((((HV1.out.setS 4 (.string q1.text)).setS 5 (.int .i64 q1.pos)).setS 6 (.int .i64 q1.sort)).quiet ho)
    have HOn : Hid (Only (fun k => k = rb ∨ k = pb) w wn) := Only.tr0 (by (repeat (first | refine Only.set_new ?_ _ _ (by omega) | refine Only.set_p ?_ _ _ | refine Only.alloc ?_ _ | refine Only.drew ?_ | refine Only.drewN ?_ _)); exact HO1.out) ho
    clear ho HV1 HO1
    have HV1 := HVn
    have HO1 := HOn
    clear HVn HOn
    clear a0 a4 a5 a6 fa
    have hy : y = ({ s with kind := 7, q := q1 }, x1) := by rw [← HY.out]; unfold valS; simp [HX1.out, HD1.out, HW.out.1, HW.out.2.1, HW.out.2.2.1, HW.out.2.2.2.1, HW.out.2.2.2.2]
    subst hy
    have HV' := HV1.out
    obtain ⟨n1, n2, n3, n4, n5, n6, n7, n8, n9⟩ := HV'.nes
    have a0 := HV'.sx.cell 0
    have a1 := HV'.sx.cell 1
    have a2 := HV'.sx.cell 2
    have a3 := HV'.sx.cell 3
    have a4 := HV'.sx.cell 4
    have a5 := HV'.sx.cell 5
    have a6 := HV'.sx.cell 6
    have a7 := HV'.sx.cell 7
    have a8 := HV'.sx.cell 8
    have a9 := HV'.sx.cell 9
    have a10 := HV'.sx.cell 10
    have a11 := HV'.sx.cell 11
    have a12 := HV'.sx.cell 12
    have a13 := HV'.sx.cell 13
    have a14 := HV'.sx.cell 14
    have o0 := HV'.ox.cell 0
    have o1 := HV'.ox.cell 1
    have o2 := HV'.ox.cell 2
    have o3 := HV'.ox.cell 3
    have o4 := HV'.ox.cell 4
    have o5 := HV'.ox.cell 5
    have o6 := HV'.ox.cell 6
    have o7 := HV'.ox.cell 7
    have o8 := HV'.ox.cell 8
    have o9 := HV'.ox.cell 9
    have o10 := HV'.ox.cell 10
    have o11 := HV'.ox.cell 11
    have o12 := HV'.ox.cell 12
    have o13 := HV'.ox.cell 13
    have o14 := HV'.ox.cell 14
    have fa := HV'.sx.frozen
    have fo := HV'.ox.frozen
    simp [fsA] at a0 a1 a2 a3 a4 a5 a6 a7 a8 a9 a10 a11 a12 a13 a14 o0 o1 o2 o3 o4 o5 o6 o7 o8 o9 o10 o11 o12 o13 o14
    clear HV' HY
    go_wp2
    refine bodyPost_ret (v := .agg (fsA { s with kind := 7, q := q1 } nilS nilS nilS)) (by simp [results, Tryz.results179, go_sem, fsA, o0, o1, o2, o3, o4, o5, o6, o7, o8, o9, o10, o11, o12, o13, o14]) rfl ?_
    have F := HV1.out
    refine ⟨nilS, rfl, ?_, F.rd.only (X := fun k => k = w.heap.size + 1) ?_ (by omega), F.tk.only (X := fun k => k = w.heap.size + 1) ?_ (by omega), F.pr.box.only (X := fun k => k = w.heap.size + 1) ?_ (by omega), ?_⟩
    · simp only [HA.out]; exact World.ownsRow_nil _ _ _ _
    · iterate 15 refine Only.set_at ?_ _ _
      exact Only.refl _ _
    · iterate 15 refine Only.set_at ?_ _ _
      exact Only.refl _ _
    · iterate 15 refine Only.set_at ?_ _ _
      exact Only.refl _ _
    · exact (by (repeat (first | refine Only.set_new ?_ _ _ (by omega) | refine Only.set_p ?_ _ _ | refine Only.alloc ?_ _ | refine Only.drew ?_ | refine Only.drewN ?_ _)); exact HO1.out)

end Go.Proofs.YtgbmakpdjdigmaaGreatDoor

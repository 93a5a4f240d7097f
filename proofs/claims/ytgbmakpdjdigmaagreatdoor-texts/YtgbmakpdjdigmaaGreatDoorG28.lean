/- RdG6: told at each. -/
import Derived.Test.YtgbmakpdjdigmaaGreatDoorG23

/- The reference's reader.value at the sign 38, a dot behind it: what it answers, and memory behind it. -/
namespace Go.Proofs.YtgbmakpdjdigmaaGreatDoor
open Go.RowKit

theorem dig0 : (({ data := #[48, 49, 50, 51] } : ByteArray).extract 0 1).toList = [48] := by decide +kernel
theorem dig1 : (({ data := #[48, 49, 50, 51] } : ByteArray).extract 1 2).toList = [49] := by decide +kernel
theorem dig2 : (({ data := #[48, 49, 50, 51] } : ByteArray).extract 2 3).toList = [50] := by decide +kernel
theorem dig3 : (({ data := #[48, 49, 50, 51] } : ByteArray).extract 3 4).toList = [51] := by decide +kernel

set_option maxRecDepth 100000 in
set_option maxHeartbeats 4000000 in
theorem value_dot (rb pb g n cap : Nat) (toks : List Tk) (fv sv : Value) (x0 : St) (s : FS) (w : World) (hr : RdBlk rb pb g n cap x0.cur x0.bad w) (ht : TokRow g n cap toks w) (hp : PrBlk pb fv sv x0.pl x0.ca w) (hc0 : x0.cur < n) (hz : (tokAt toks (n - 1)).sort = 0) (ha : s.args = [])
    (hw : wordOf (tokAt toks x0.cur) = [38]) (hd : nextB (getS toks 1 (eatS toks [38] x0)).2.bad (tokAt toks (getS toks 1 (eatS toks [38] x0)).2.cur) [46] = true) :
    Calls Tryz.prog 179 #[.pointer (some ⟨rb, 0, none⟩), .agg (fsA s nilS nilS nilS)] w fun e w' => valPost rb pb g n cap toks fv sv w (valS toks x0 s) e w' := by
  have HD := hide1 hd
  clear hd
  have hn := ht.2.2
  have lr := blk_lt hr
  have lp := blk_lt hp
  have HV0 : Hid (VF rb pb w.heap.size (w.heap.size + 1) g n cap toks fv sv x0 (fsA s nilS nilS nilS) zS ((w.alloc (.cells (fsA s nilS nilS nilS) 183)).alloc (.cells zS 183))) :=
    ⟨(hr.box.alloc _).alloc _, (ht.only (((Only.refl (fun _ => False) w).alloc _).alloc _) (fun q => q)), (hp.box.alloc _).alloc _, (Box.new _ _ _).alloc _, by have := Box.new (w.alloc (.cells (fsA s nilS nilS nilS) 183)) zS 183; simpa using this, by omega⟩
  have HO0 : Hid (Only (fun k => k = rb ∨ k = pb) w ((w.alloc (.cells (fsA s nilS nilS nilS) 183)).alloc (.cells zS 183))) := ((Only.refl _ _).alloc _).alloc _
  obtain ⟨y, hy⟩ : ∃ y, valS toks x0 s = y := ⟨_, rfl⟩
  rw [hy]
  have HY : Hid (valS toks x0 s = y) := hy
  have HZ : Hid ((tokAt toks (n - 1)).sort = 0) := hz
  have HA : Hid (s.args = []) := ha
  clear hy hr ht hp hz ha
  have HW := hide1 hw
  unfold wordOf at hw
  generalize ht : tokAt toks x0.cur = t at hw
  have HT : Hid (tokAt toks x0.cur = t) := ht
  clear ht
  split at hw
  · rename_i hs
    have e0 : (t.text.toList == [110, 101, 119]) = false := by simp [hw]
    have e1 : (t.text.toList == [38]) = true := by simp [hw]
    clear hw
    have hs2 : (((t.sort : Int) == 2) = true) ∨ (((t.sort : Int) == 2) = false ∧ ((t.sort : Int) == 4) = true) := by
      rcases hs with hs | hs
      · left; simp [hs]
      · right; simp [hs]
    clear hs
    rcases hs2 with hs2 | ⟨hs2, hs4⟩
    all_goals
      go_enter Tryz.func179, Tryz.ntmps179
      go_wp2
      generalize (w.alloc (.cells (fsA s nilS nilS nilS) 183)).alloc (.cells zS 183) = W0 at HV0 HO0 ⊢
      obtain ⟨t0, t1, t2⟩ := HV0.out.tk.cells hc0
      rw [HT.out] at t0 t1 t2
      have r0 := HV0.out.rd.box.cell 0
      have r1 := HV0.out.rd.box.cell 1
      simp only [List.getElem?_toArray, List.getElem?_cons_zero, List.getElem?_cons_succ] at r0 r1
      have l0 := blk_lt HV0.out.rd
      have l1 : g < W0.heap.size := (HV0.out.tk.1.lt g rfl).2
      have ls : w.heap.size < W0.heap.size := blk_lt HV0.out.sx
      have lo : w.heap.size + 1 < W0.heap.size := blk_lt HV0.out.ox
      have fa := HV0.out.sx.frozen
      have a0 := HV0.out.sx.cell 0
      simp [fsA] at a0
      go_region
      go_wp2_with fail
      clear t0 t1 t2 r0 r1 l0 l1 ls lo fa a0
      obtain ⟨x1, hx1⟩ : ∃ z, eatS toks [38] x0 = z := ⟨_, rfl⟩
      refine (eat_l rb pb g n cap x0.cur x0.bad toks _ [38] (by simp) _ ?_ ?_ hc0).mono ?_
      · exact (HV0.out.quiet (by repeat (first | exact Only.refl _ _ | refine Only.drew ?_ | refine Only.drewN ?_ _ | refine Only.alloc ?_ _))).rd
      · exact (HV0.out.quiet (by repeat (first | exact Only.refl _ _ | refine Only.drew ?_ | refine Only.drewN ?_ _ | refine Only.alloc ?_ _))).tk
      rintro e w1 ⟨rfl, hr, ho⟩
      have HV1 := hide1 ((HV0.out.quiet (by repeat (first | exact Only.refl _ _ | refine Only.drew ?_ | refine Only.drewN ?_ _ | refine Only.alloc ?_ _))).eat hx1 ho hr)
      have HO1 : Hid (Only (fun k => k = rb ∨ k = pb) w w1) := Only.tr (by (repeat (first | refine Only.set_new ?_ _ _ (by omega) | refine Only.set_p ?_ _ _ | refine Only.alloc ?_ _ | refine Only.drew ?_ | refine Only.drewN ?_ _)); exact HO0.out) ho
      have hc1 : x1.cur < n := eatS_cur hx1 HZ.out hc0
      have HX1 := hide1 hx1
      clear hr ho hx1 HV0 HO0
      have HV1' := HV1.out
      have a4 := HV1'.sx.cell 4
      have a5 := HV1'.sx.cell 5
      have a6 := HV1'.sx.cell 6
      have a0 := HV1'.sx.cell 0
      have fa := HV1'.sx.frozen
      simp [fsA] at a0 a4 a5 a6
      clear HV1'
      go_wp2_with fail
      obtain ⟨q2, x2, hx2⟩ : ∃ q z, getS toks 1 x1 = (q, z) := ⟨_, _, rfl⟩
      refine (get_any rb pb g n cap x1.cur 1 x1.bad toks _ ?_ ?_ hc1).mono ?_
      · exact (HV1.out.setS 0 (.int .i64 3)).rd
      · exact (HV1.out.setS 0 (.int .i64 3)).tk
      rw [show (getR toks x1.cur x1.bad 1).1 = q2 from congrArg Prod.fst hx2]
      rintro e w2 ⟨rfl, hr, ho⟩
      have HV2 := hide1 ((HV1.out.setS 0 (.int .i64 3)).get hx2 ho hr)
      have HO2 : Hid (Only (fun k => k = rb ∨ k = pb) w w2) := Only.tr (by (repeat (first | refine Only.set_new ?_ _ _ (by omega) | refine Only.set_p ?_ _ _ | refine Only.alloc ?_ _ | refine Only.drew ?_ | refine Only.drewN ?_ _)); exact HO1.out) ho
      have hc2 : x2.cur < n := getS_cur hx2 (by decide) HZ.out hc1
      have HX2 := hide1 hx2
      clear hr ho hx2 HV1 HO1
      unfold tkV
      clear a0 a4 a5 a6 fa
      have HV2' := HV2.out
      have a4 := HV2'.sx.cell 4
      have a5 := HV2'.sx.cell 5
      have a6 := HV2'.sx.cell 6
      have a0 := HV2'.sx.cell 0
      have fa := HV2'.sx.frozen
      simp [fsA] at a0 a4 a5 a6
      clear HV2'
      have HD2 : Hid (nextB x2.bad (tokAt toks x2.cur) [46] = true) := by have := HD.out; rw [HX1.out, HX2.out] at this; exact this
      clear HD
      go_wp2_with fail
      refine (next_l rb pb g n cap x2.cur x2.bad toks _ [46] (by simp) _ ?_ ?_ hc2).mono ?_
      · exact (((HV2.out.setS 4 (.string q2.text)).setS 5 (.int .i64 q2.pos)).setS 6 (.int .i64 q2.sort)).rd
      · exact (((HV2.out.setS 4 (.string q2.text)).setS 5 (.int .i64 q2.pos)).setS 6 (.int .i64 q2.sort)).tk
      rw [HD2.out]
      rintro e wn ⟨rfl, ho⟩
      have HVn := hide1 ((((HV2.out.setS 4 (.string q2.text)).setS 5 (.int .i64 q2.pos)).setS 6 (.int .i64 q2.sort)).quiet ho)
      have HOn : Hid (Only (fun k => k = rb ∨ k = pb) w wn) := Only.tr0 (by (repeat (first | refine Only.set_new ?_ _ _ (by omega) | refine Only.set_p ?_ _ _ | refine Only.alloc ?_ _ | refine Only.drew ?_ | refine Only.drewN ?_ _)); exact HO2.out) ho
      clear ho HV2 HO2
      have HV2 := HVn
      have HO2 := HOn
      clear HVn HOn
      clear a0 a4 a5 a6 fa
      go_wp2_with fail
      obtain ⟨x3, hx3⟩ : ∃ z, eatS toks [46] x2 = z := ⟨_, rfl⟩
      refine (eat_l rb pb g n cap x2.cur x2.bad toks _ [46] (by simp) _ ?_ ?_ hc2).mono ?_
      · exact (HV2.out).rd
      · exact (HV2.out).tk
      rintro e w3 ⟨rfl, hr, ho⟩
      have HV3 := hide1 ((HV2.out).eat hx3 ho hr)
      have HO3 : Hid (Only (fun k => k = rb ∨ k = pb) w w3) := Only.tr (by (repeat (first | refine Only.set_new ?_ _ _ (by omega) | refine Only.set_p ?_ _ _ | refine Only.alloc ?_ _ | refine Only.drew ?_ | refine Only.drewN ?_ _)); exact HO2.out) ho
      have hc3 : x3.cur < n := eatS_cur hx3 HZ.out hc2
      have HX3 := hide1 hx3
      clear hr ho hx3 HV2 HO2
      have HV3' := HV3.out
      have a0 := HV3'.sx.cell 0
      have fa := HV3'.sx.frozen
      simp [fsA] at a0
      clear HV3'
      go_wp2_with fail
      obtain ⟨q4, x4, hx4⟩ : ∃ q z, getS toks 3 x3 = (q, z) := ⟨_, _, rfl⟩
      refine (get_any rb pb g n cap x3.cur 3 x3.bad toks _ ?_ ?_ hc3).mono ?_
      · exact (HV3.out.setS 0 (.int .i64 4)).rd
      · exact (HV3.out.setS 0 (.int .i64 4)).tk
      rw [show (getR toks x3.cur x3.bad 3).1 = q4 from congrArg Prod.fst hx4]
      rintro e w4 ⟨rfl, hr, ho⟩
      have HV4 := hide1 ((HV3.out.setS 0 (.int .i64 4)).get hx4 ho hr)
      have HO4 : Hid (Only (fun k => k = rb ∨ k = pb) w w4) := Only.tr (by (repeat (first | refine Only.set_new ?_ _ _ (by omega) | refine Only.set_p ?_ _ _ | refine Only.alloc ?_ _ | refine Only.drew ?_ | refine Only.drewN ?_ _)); exact HO3.out) ho
      have hc4 : x4.cur < n := getS_cur hx4 (by decide) HZ.out hc3
      have HX4 := hide1 hx4
      clear hr ho hx4 HV3 HO3
      unfold tkV
      clear a0 fa
      have hy : y = ({ s with kind := 4, q := q2, field := digK q4.text.toList s.field 4 }, x4) := by rw [← HY.out]; unfold valS; simp [HW.out, HX1.out, HX2.out, HD2.out, HX3.out, HX4.out]
      subst hy
      clear HY
      go_wp2
      go_loopw [9] (fun kv wr => ∃ k : Nat, k ≤ 4 ∧ kv = .int .i64 k ∧ Hid (VF rb pb w.heap.size (w.heap.size + 1) g n cap toks fv sv x4 (fsA { s with kind := 4, q := q2, field := digK q4.text.toList s.field k } nilS nilS nilS) zS wr) ∧ Hid (Box w4.heap.size #[.string q4.text, .int .i64 q4.pos, .int .i64 q4.sort] 114 wr) ∧ Hid (Only (fun k => k = rb ∨ k = pb) w wr)) (fun kv _ => 4 - (intOf kv).toNat)
      case atStart => exact ⟨0, by omega, rfl, HV4.out.quiet ((Only.refl _ _).alloc _), Box.new _ _ _, HO4.out.alloc _⟩
      case round =>
        obtain ⟨k, hk, rfl, HVr, HB, HOr⟩ := hrel
        clear HV4 HO4
        have hkk : k = 0 ∨ k = 1 ∨ k = 2 ∨ k = 3 ∨ k = 4 := by omega
        rcases hkk with rfl | rfl | rfl | rfl | rfl
        · have b0 := HB.out.cell 0
          have a7 := HVr.out.sx.cell 7
          have fa := HVr.out.sx.frozen
          simp [fsA] at b0 a7
          have hd0 := dig0
          by_cases hl : q4.text.toList = [48]
          · have hq : (q4.text.toList == (({ data := #[48, 49, 50, 51] } : ByteArray).extract 0 1).toList) = true := by rw [hd0, hl]; rfl
            have hdg : digK q4.text.toList s.field 1 = 0 := by simp [digK, hl]
            have HDG := hide1 hdg
            have HNE := hide1 (HB.out.ne HVr.out.sx (by decide))
            clear hd0 hl hdg
            go_wp2_with fail
            go_quiet (fail)
            go_wp2_with fail
            have HVs : Hid (VF rb pb w.heap.size (w.heap.size + 1) g n cap toks fv sv x4 (fsA { s with kind := 4, q := q2, field := digK q4.text.toList s.field 1 } nilS nilS nilS) zS ((wr.drewN nq).setCell ⟨w.heap.size, 7, none⟩ (.int .i64 0))) := by rw [HDG.out]; exact (HVr.out.quiet ((Only.refl _ _).drewN nq)).setS 7 (.int .i64 0)
            have HBs := hide1 ((HB.out.only ((Only.refl (fun _ => False) _).drewN nq) (fun q => q)).setOther 7 (.int .i64 0) HNE.out)
            have HOs := hide1 ((HOr.out.drewN nq).set_new (b := w.heap.size) 7 (.int .i64 0) (Nat.le_refl _))
            clear HVr HB HOr
            go_roundw
            case rel => exact ⟨1, by omega, rfl, HVs, HBs, HOs⟩
            case measure => simp [intOf]
          · have hq : (q4.text.toList == (({ data := #[48, 49, 50, 51] } : ByteArray).extract 0 1).toList) = false := by rw [hd0]; simp [hl]
            have hdg : digK q4.text.toList s.field 1 = digK q4.text.toList s.field 0 := by simp [digK, hl]
            have HDG := hide1 hdg
            clear hd0 hl hdg
            go_wp2_with fail
            go_quiet (fail)
            go_wp2_with fail
            have HVs : Hid (VF rb pb w.heap.size (w.heap.size + 1) g n cap toks fv sv x4 (fsA { s with kind := 4, q := q2, field := digK q4.text.toList s.field 1 } nilS nilS nilS) zS (wr.drewN nq)) := by rw [HDG.out]; exact HVr.out.quiet ((Only.refl _ _).drewN nq)
            have HBs := hide1 (HB.out.only ((Only.refl (fun _ => False) _).drewN nq) (fun q => q))
            have HOs := hide1 (HOr.out.drewN nq)
            clear HVr HB HOr
            go_roundw
            case rel => exact ⟨1, by omega, rfl, HVs, HBs, HOs⟩
            case measure => simp [intOf]
        · have b0 := HB.out.cell 0
          have a7 := HVr.out.sx.cell 7
          have fa := HVr.out.sx.frozen
          simp [fsA] at b0 a7
          have hd1 := dig1
          by_cases hl : q4.text.toList = [49]
          · have hq : (q4.text.toList == (({ data := #[48, 49, 50, 51] } : ByteArray).extract 1 2).toList) = true := by rw [hd1, hl]; rfl
            have hdg : digK q4.text.toList s.field 2 = 1 := by simp [digK, hl]
            have HDG := hide1 hdg
            have HNE := hide1 (HB.out.ne HVr.out.sx (by decide))
            clear hd1 hl hdg
            go_wp2_with fail
            go_quiet (fail)
            go_wp2_with fail
            have HVs : Hid (VF rb pb w.heap.size (w.heap.size + 1) g n cap toks fv sv x4 (fsA { s with kind := 4, q := q2, field := digK q4.text.toList s.field 2 } nilS nilS nilS) zS ((wr.drewN nq).setCell ⟨w.heap.size, 7, none⟩ (.int .i64 1))) := by rw [HDG.out]; exact (HVr.out.quiet ((Only.refl _ _).drewN nq)).setS 7 (.int .i64 1)
            have HBs := hide1 ((HB.out.only ((Only.refl (fun _ => False) _).drewN nq) (fun q => q)).setOther 7 (.int .i64 1) HNE.out)
            have HOs := hide1 ((HOr.out.drewN nq).set_new (b := w.heap.size) 7 (.int .i64 1) (Nat.le_refl _))
            clear HVr HB HOr
            go_roundw
            case rel => exact ⟨2, by omega, rfl, HVs, HBs, HOs⟩
            case measure => simp [intOf]
          · have hq : (q4.text.toList == (({ data := #[48, 49, 50, 51] } : ByteArray).extract 1 2).toList) = false := by rw [hd1]; simp [hl]
            have hdg : digK q4.text.toList s.field 2 = digK q4.text.toList s.field 1 := by simp [digK, hl]
            have HDG := hide1 hdg
            clear hd1 hl hdg
            go_wp2_with fail
            go_quiet (fail)
            go_wp2_with fail
            have HVs : Hid (VF rb pb w.heap.size (w.heap.size + 1) g n cap toks fv sv x4 (fsA { s with kind := 4, q := q2, field := digK q4.text.toList s.field 2 } nilS nilS nilS) zS (wr.drewN nq)) := by rw [HDG.out]; exact HVr.out.quiet ((Only.refl _ _).drewN nq)
            have HBs := hide1 (HB.out.only ((Only.refl (fun _ => False) _).drewN nq) (fun q => q))
            have HOs := hide1 (HOr.out.drewN nq)
            clear HVr HB HOr
            go_roundw
            case rel => exact ⟨2, by omega, rfl, HVs, HBs, HOs⟩
            case measure => simp [intOf]
        · have b0 := HB.out.cell 0
          have a7 := HVr.out.sx.cell 7
          have fa := HVr.out.sx.frozen
          simp [fsA] at b0 a7
          have hd2 := dig2
          by_cases hl : q4.text.toList = [50]
          · have hq : (q4.text.toList == (({ data := #[48, 49, 50, 51] } : ByteArray).extract 2 3).toList) = true := by rw [hd2, hl]; rfl
            have hdg : digK q4.text.toList s.field 3 = 2 := by simp [digK, hl]
            have HDG := hide1 hdg
            have HNE := hide1 (HB.out.ne HVr.out.sx (by decide))
            clear hd2 hl hdg
            go_wp2_with fail
            go_quiet (fail)
            go_wp2_with fail
            have HVs : Hid (VF rb pb w.heap.size (w.heap.size + 1) g n cap toks fv sv x4 (fsA { s with kind := 4, q := q2, field := digK q4.text.toList s.field 3 } nilS nilS nilS) zS ((wr.drewN nq).setCell ⟨w.heap.size, 7, none⟩ (.int .i64 2))) := by rw [HDG.out]; exact (HVr.out.quiet ((Only.refl _ _).drewN nq)).setS 7 (.int .i64 2)
            have HBs := hide1 ((HB.out.only ((Only.refl (fun _ => False) _).drewN nq) (fun q => q)).setOther 7 (.int .i64 2) HNE.out)
            have HOs := hide1 ((HOr.out.drewN nq).set_new (b := w.heap.size) 7 (.int .i64 2) (Nat.le_refl _))
            clear HVr HB HOr
            go_roundw
            case rel => exact ⟨3, by omega, rfl, HVs, HBs, HOs⟩
            case measure => simp [intOf]
          · have hq : (q4.text.toList == (({ data := #[48, 49, 50, 51] } : ByteArray).extract 2 3).toList) = false := by rw [hd2]; simp [hl]
            have hdg : digK q4.text.toList s.field 3 = digK q4.text.toList s.field 2 := by simp [digK, hl]
            have HDG := hide1 hdg
            clear hd2 hl hdg
            go_wp2_with fail
            go_quiet (fail)
            go_wp2_with fail
            have HVs : Hid (VF rb pb w.heap.size (w.heap.size + 1) g n cap toks fv sv x4 (fsA { s with kind := 4, q := q2, field := digK q4.text.toList s.field 3 } nilS nilS nilS) zS (wr.drewN nq)) := by rw [HDG.out]; exact HVr.out.quiet ((Only.refl _ _).drewN nq)
            have HBs := hide1 (HB.out.only ((Only.refl (fun _ => False) _).drewN nq) (fun q => q))
            have HOs := hide1 (HOr.out.drewN nq)
            clear HVr HB HOr
            go_roundw
            case rel => exact ⟨3, by omega, rfl, HVs, HBs, HOs⟩
            case measure => simp [intOf]
        · have b0 := HB.out.cell 0
          have a7 := HVr.out.sx.cell 7
          have fa := HVr.out.sx.frozen
          simp [fsA] at b0 a7
          have hd3 := dig3
          by_cases hl : q4.text.toList = [51]
          · have hq : (q4.text.toList == (({ data := #[48, 49, 50, 51] } : ByteArray).extract 3 4).toList) = true := by rw [hd3, hl]; rfl
            have hdg : digK q4.text.toList s.field 4 = 3 := by simp [digK, hl]
            have HDG := hide1 hdg
            have HNE := hide1 (HB.out.ne HVr.out.sx (by decide))
            clear hd3 hl hdg
            go_wp2_with fail
            go_quiet (fail)
            go_wp2_with fail
            have HVs : Hid (VF rb pb w.heap.size (w.heap.size + 1) g n cap toks fv sv x4 (fsA { s with kind := 4, q := q2, field := digK q4.text.toList s.field 4 } nilS nilS nilS) zS ((wr.drewN nq).setCell ⟨w.heap.size, 7, none⟩ (.int .i64 3))) := by rw [HDG.out]; exact (HVr.out.quiet ((Only.refl _ _).drewN nq)).setS 7 (.int .i64 3)
            have HBs := hide1 ((HB.out.only ((Only.refl (fun _ => False) _).drewN nq) (fun q => q)).setOther 7 (.int .i64 3) HNE.out)
            have HOs := hide1 ((HOr.out.drewN nq).set_new (b := w.heap.size) 7 (.int .i64 3) (Nat.le_refl _))
            clear HVr HB HOr
            go_roundw
            case rel => exact ⟨4, by omega, rfl, HVs, HBs, HOs⟩
            case measure => simp [intOf]
          · have hq : (q4.text.toList == (({ data := #[48, 49, 50, 51] } : ByteArray).extract 3 4).toList) = false := by rw [hd3]; simp [hl]
            have hdg : digK q4.text.toList s.field 4 = digK q4.text.toList s.field 3 := by simp [digK, hl]
            have HDG := hide1 hdg
            clear hd3 hl hdg
            go_wp2_with fail
            go_quiet (fail)
            go_wp2_with fail
            have HVs : Hid (VF rb pb w.heap.size (w.heap.size + 1) g n cap toks fv sv x4 (fsA { s with kind := 4, q := q2, field := digK q4.text.toList s.field 4 } nilS nilS nilS) zS (wr.drewN nq)) := by rw [HDG.out]; exact HVr.out.quiet ((Only.refl _ _).drewN nq)
            have HBs := hide1 (HB.out.only ((Only.refl (fun _ => False) _).drewN nq) (fun q => q))
            have HOs := hide1 (HOr.out.drewN nq)
            clear HVr HB HOr
            go_roundw
            case rel => exact ⟨4, by omega, rfl, HVs, HBs, HOs⟩
            case measure => simp [intOf]
        · have HV4 := HVr
          have HO4 := HOr
          clear HVr HOr HB
          have HV' := HV4.out
          obtain ⟨n1, n2, n3, n4, n5, n6, n7, n8, n9⟩ := HV'.nes
          have a0 := HV'.sx.cell 0
          have a1 := HV'.sx.cell 1
          have a2 := HV'.sx.cell 2
          have a3 := HV'.sx.cell 3
          have a4 := HV'.sx.cell 4
          have a5 := HV'.sx.cell 5
          have a6 := HV'.sx.cell 6
          have a7 := HV'.sx.cell 7
          have a8 := HV'.sx.cell 8
          have a9 := HV'.sx.cell 9
          have a10 := HV'.sx.cell 10
          have a11 := HV'.sx.cell 11
          have a12 := HV'.sx.cell 12
          have a13 := HV'.sx.cell 13
          have a14 := HV'.sx.cell 14
          have o0 := HV'.ox.cell 0
          have o1 := HV'.ox.cell 1
          have o2 := HV'.ox.cell 2
          have o3 := HV'.ox.cell 3
          have o4 := HV'.ox.cell 4
          have o5 := HV'.ox.cell 5
          have o6 := HV'.ox.cell 6
          have o7 := HV'.ox.cell 7
          have o8 := HV'.ox.cell 8
          have o9 := HV'.ox.cell 9
          have o10 := HV'.ox.cell 10
          have o11 := HV'.ox.cell 11
          have o12 := HV'.ox.cell 12
          have o13 := HV'.ox.cell 13
          have o14 := HV'.ox.cell 14
          have fa := HV'.sx.frozen
          have fo := HV'.ox.frozen
          simp [fsA] at a0 a1 a2 a3 a4 a5 a6 a7 a8 a9 a10 a11 a12 a13 a14 o0 o1 o2 o3 o4 o5 o6 o7 o8 o9 o10 o11 o12 o13 o14
          clear HV'
          go_wp2
          refine bodyPost_ret (v := .agg (fsA { s with kind := 4, q := q2, field := digK q4.text.toList s.field 4 } nilS nilS nilS)) (by simp [results, Tryz.results179, go_sem, fsA, o0, o1, o2, o3, o4, o5, o6, o7, o8, o9, o10, o11, o12, o13, o14]) rfl ?_
          have F := HV4.out
          refine ⟨nilS, rfl, ?_, F.rd.only (X := fun k => k = w.heap.size + 1) ?_ (by omega), F.tk.only (X := fun k => k = w.heap.size + 1) ?_ (by omega), F.pr.box.only (X := fun k => k = w.heap.size + 1) ?_ (by omega), ?_⟩
          · simp only [HA.out]; exact World.ownsRow_nil _ _ _ _
          · iterate 15 refine Only.set_at ?_ _ _
            exact Only.refl _ _
          · iterate 15 refine Only.set_at ?_ _ _
            exact Only.refl _ _
          · iterate 15 refine Only.set_at ?_ _ _
            exact Only.refl _ _
          · exact (by (repeat (first | refine Only.set_new ?_ _ _ (by omega) | refine Only.set_p ?_ _ _ | refine Only.alloc ?_ _ | refine Only.drew ?_ | refine Only.drewN ?_ _)); exact HO4.out)
  · simp at hw

end Go.Proofs.YtgbmakpdjdigmaaGreatDoor

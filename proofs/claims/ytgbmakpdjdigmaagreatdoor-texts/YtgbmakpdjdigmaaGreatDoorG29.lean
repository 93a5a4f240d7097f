/- RdG7 RdH: told at each. -/
import Derived.Test.YtgbmakpdjdigmaaGreatDoorG23
import Derived.Test.YtgbmakpdjdigmaaGreatDoorG25
import Derived.Test.YtgbmakpdjdigmaaGreatDoorG26
import Derived.Test.YtgbmakpdjdigmaaGreatDoorG27
import Derived.Test.YtgbmakpdjdigmaaGreatDoorG28

/- The reference's reader.value at a name, a parenthesis behind it: what it answers, and memory behind it. -/
namespace Go.Proofs.YtgbmakpdjdigmaaGreatDoor
open Go.RowKit

set_option maxRecDepth 100000 in
set_option maxHeartbeats 4000000 in
theorem value_call (rb pb g n cap : Nat) (toks : List Tk) (fv sv : Value) (x0 : St) (s : FS) (w : World) (hr : RdBlk rb pb g n cap x0.cur x0.bad w) (ht : TokRow g n cap toks w) (hp : PrBlk pb fv sv x0.pl x0.ca w) (hc0 : x0.cur < n) (hz : (tokAt toks (n - 1)).sort = 0) (ha : s.args = [])
    (hw0 : wordOf (tokAt toks x0.cur) ≠ [110, 101, 119]) (hw1 : wordOf (tokAt toks x0.cur) ≠ [38]) (hw2 : wordOf (tokAt toks x0.cur) ≠ [42]) (hw3 : wordOf (tokAt toks x0.cur) ≠ [64]) (hw4 : wordOf (tokAt toks x0.cur) ≠ [40])
    (hd : nextB (getS toks 1 x0).2.bad (tokAt toks (getS toks 1 x0).2.cur) [40] = true) :
    Calls Tryz.prog 179 #[.pointer (some ⟨rb, 0, none⟩), .agg (fsA s nilS nilS nilS)] w fun e w' => valPost rb pb g n cap toks fv sv w (valS toks x0 s) e w' := by
  have HD := hide1 hd
  have HW := hide1 (And.intro hw0 (And.intro hw1 (And.intro hw2 (And.intro hw3 hw4))))
  clear hd
  have hn := ht.2.2
  have lr := blk_lt hr
  have lp := blk_lt hp
  have HV0 : Hid (VF rb pb w.heap.size (w.heap.size + 1) g n cap toks fv sv x0 (fsA s nilS nilS nilS) zS ((w.alloc (.cells (fsA s nilS nilS nilS) 183)).alloc (.cells zS 183))) :=
    ⟨(hr.box.alloc _).alloc _, (ht.only (((Only.refl (fun _ => False) w).alloc _).alloc _) (fun q => q)), (hp.box.alloc _).alloc _, (Box.new _ _ _).alloc _, by have := Box.new (w.alloc (.cells (fsA s nilS nilS nilS) 183)) zS 183; simpa using this, by omega⟩
  have HO0 : Hid (Only (fun k => k = rb ∨ k = pb) w ((w.alloc (.cells (fsA s nilS nilS nilS) 183)).alloc (.cells zS 183))) := ((Only.refl _ _).alloc _).alloc _
  obtain ⟨y, hy⟩ : ∃ y, valS toks x0 s = y := ⟨_, rfl⟩
  rw [hy]
  have HY : Hid (valS toks x0 s = y) := hy
  have HZ : Hid ((tokAt toks (n - 1)).sort = 0) := hz
  have HA : Hid (s.args = []) := ha
  clear hy hr ht hp hz ha
  unfold wordOf at hw0 hw1 hw2 hw3 hw4
  generalize ht : tokAt toks x0.cur = t at hw0 hw1 hw2 hw3 hw4
  have HT : Hid (tokAt toks x0.cur = t) := ht
  clear ht
  have hcase : (((t.sort : Int) == 2) = true ∧ (t.text.toList == [110, 101, 119]) = false ∧ (t.text.toList == [38]) = false ∧ (t.text.toList == [42]) = false ∧ (t.text.toList == [64]) = false ∧ (t.text.toList == [40]) = false) ∨ (((t.sort : Int) == 2) = false ∧ ((t.sort : Int) == 4) = true ∧ (t.text.toList == [110, 101, 119]) = false ∧ (t.text.toList == [38]) = false ∧ (t.text.toList == [42]) = false ∧ (t.text.toList == [64]) = false ∧ (t.text.toList == [40]) = false) ∨ (((t.sort : Int) == 2) = false ∧ ((t.sort : Int) == 4) = false) := by
    by_cases h2 : t.sort = 2
    · rw [if_pos (.inl h2)] at hw0 hw1 hw2 hw3 hw4
      left; simp [h2, hw0, hw1, hw2, hw3, hw4]
    · by_cases h4 : t.sort = 4
      · rw [if_pos (.inr h4)] at hw0 hw1 hw2 hw3 hw4
        right; left; simp [h4, hw0, hw1, hw2, hw3, hw4]
      · right; right; simp; omega
  clear hw0 hw1 hw2 hw3 hw4
  rcases hcase with ⟨hs2, e0, e1, e2, e3, e4⟩ | ⟨hs2, hs4, e0, e1, e2, e3, e4⟩ | ⟨hs2, hs4⟩
  all_goals
    go_enter Tryz.func179, Tryz.ntmps179
    go_wp2
    generalize (w.alloc (.cells (fsA s nilS nilS nilS) 183)).alloc (.cells zS 183) = W0 at HV0 HO0 ⊢
    obtain ⟨t0, t1, t2⟩ := HV0.out.tk.cells hc0
    rw [HT.out] at t0 t1 t2
    have r0 := HV0.out.rd.box.cell 0
    have r1 := HV0.out.rd.box.cell 1
    simp only [List.getElem?_toArray, List.getElem?_cons_zero, List.getElem?_cons_succ] at r0 r1
    have l0 := blk_lt HV0.out.rd
    have l1 : g < W0.heap.size := (HV0.out.tk.1.lt g rfl).2
    have ls : w.heap.size < W0.heap.size := blk_lt HV0.out.sx
    have lo : w.heap.size + 1 < W0.heap.size := blk_lt HV0.out.ox
    have fa := HV0.out.sx.frozen
    have a0 := HV0.out.sx.cell 0
    simp [fsA] at a0
    go_region
    go_wp2_with fail
    clear t0 t1 t2 r0 r1 l0 l1 ls lo fa a0
    obtain ⟨q1, x1, hx1⟩ : ∃ q z, getS toks 1 x0 = (q, z) := ⟨_, _, rfl⟩
    refine (get_any rb pb g n cap x0.cur 1 x0.bad toks _ ?_ ?_ hc0).mono ?_
    · exact ((HV0.out.setS 0 (.int .i64 7)).quiet (by repeat (first | exact Only.refl _ _ | refine Only.drew ?_ | refine Only.drewN ?_ _ | refine Only.alloc ?_ _))).rd
    · exact ((HV0.out.setS 0 (.int .i64 7)).quiet (by repeat (first | exact Only.refl _ _ | refine Only.drew ?_ | refine Only.drewN ?_ _ | refine Only.alloc ?_ _))).tk
    rw [show (getR toks x0.cur x0.bad 1).1 = q1 from congrArg Prod.fst hx1]
    rintro e w1 ⟨rfl, hr, ho⟩
    have HV1 := hide1 (((HV0.out.setS 0 (.int .i64 7)).quiet (by repeat (first | exact Only.refl _ _ | refine Only.drew ?_ | refine Only.drewN ?_ _ | refine Only.alloc ?_ _))).get hx1 ho hr)
    have HO1 : Hid (Only (fun k => k = rb ∨ k = pb) w w1) := Only.tr (by (repeat (first | refine Only.set_new ?_ _ _ (by omega) | refine Only.set_p ?_ _ _ | refine Only.alloc ?_ _ | refine Only.drew ?_ | refine Only.drewN ?_ _)); exact HO0.out) ho
    have hc1 : x1.cur < n := getS_cur hx1 (by decide) HZ.out hc0
    have HX1 := hide1 hx1
    clear hr ho hx1 HV0 HO0
    unfold tkV
    have HV1' := HV1.out
    have a4 := HV1'.sx.cell 4
    have a5 := HV1'.sx.cell 5
    have a6 := HV1'.sx.cell 6
    have a0 := HV1'.sx.cell 0
    have fa := HV1'.sx.frozen
    simp [fsA] at a0 a4 a5 a6
    clear HV1'
    have HD1 : Hid (nextB x1.bad (tokAt toks x1.cur) [40] = true) := by have := HD.out; rw [HX1.out] at this; exact this
    clear HD
    go_wp2_with fail
    refine (next_l rb pb g n cap x1.cur x1.bad toks _ [40] (by simp) _ ?_ ?_ hc1).mono ?_
    · exact (((HV1.out.setS 4 (.string q1.text)).setS 5 (.int .i64 q1.pos)).setS 6 (.int .i64 q1.sort)).rd
    · exact (((HV1.out.setS 4 (.string q1.text)).setS 5 (.int .i64 q1.pos)).setS 6 (.int .i64 q1.sort)).tk
    rw [HD1.out]
    rintro e wn ⟨rfl, ho⟩
    have HVn := hide1 ((((HV1.out.setS 4 (.string q1.text)).setS 5 (.int .i64 q1.pos)).setS 6 (.int .i64 q1.sort)).quiet ho)
    have HOn : Hid (Only (fun k => k = rb ∨ k = pb) w wn) := Only.tr0 (by (repeat (first | refine Only.set_new ?_ _ _ (by omega) | refine Only.set_p ?_ _ _ | refine Only.alloc ?_ _ | refine Only.drew ?_ | refine Only.drewN ?_ _)); exact HO1.out) ho
    clear ho HV1 HO1
    have HV1 := HVn
    have HO1 := HOn
    clear HVn HOn
    clear a0 a4 a5 a6 fa
    go_wp2_with fail
    obtain ⟨x2, hx2⟩ : ∃ z, eatS toks [40] x1 = z := ⟨_, rfl⟩
    refine (eat_l rb pb g n cap x1.cur x1.bad toks _ [40] (by simp) _ ?_ ?_ hc1).mono ?_
    · exact (HV1.out).rd
    · exact (HV1.out).tk
    rintro e w2 ⟨rfl, hr, ho⟩
    have HV2 := hide1 ((HV1.out).eat hx2 ho hr)
    have HO2 : Hid (Only (fun k => k = rb ∨ k = pb) w w2) := Only.tr (by (repeat (first | refine Only.set_new ?_ _ _ (by omega) | refine Only.set_p ?_ _ _ | refine Only.alloc ?_ _ | refine Only.drew ?_ | refine Only.drewN ?_ _)); exact HO1.out) ho
    have hc2 : x2.cur < n := eatS_cur hx2 HZ.out hc1
    have HX2 := hide1 hx2
    clear hr ho hx2 HV1 HO1
    have HV2' := HV2.out
    have a0 := HV2'.sx.cell 0
    have fa := HV2'.sx.frozen
    simp [fsA] at a0
    clear HV2'
    go_wp2_with fail
    obtain ⟨q3, x3, hx3⟩ : ∃ q z, listS toks x2 = (q, z) := ⟨_, _, rfl⟩
    refine (list_any rb pb g n cap x2.cur x2.bad toks _ ?_ ?_ hc2 HZ.out).mono ?_
    · exact (HV2.out.setS 0 (.int .i64 8)).rd
    · exact (HV2.out.setS 0 (.int .i64 8)).tk
    rw [show (listR toks x2.cur x2.bad).1 = q3 from congrArg Prod.fst hx3]
    rintro e w3 ⟨v3, rfl, hown, hr, ho⟩
    have HL3 := hide1 (ownsRow_base hown (B' := w.heap.size + 2) (by have := blk_lt (HV2.out.setS 0 (.int .i64 8)).ox; omega))
    obtain ⟨va3, vl3, vc3, rfl⟩ := owns_form hown
    have HV3 := hide1 ((HV2.out.setS 0 (.int .i64 8)).list hx3 ho hr)
    have HO3 : Hid (Only (fun k => k = rb ∨ k = pb) w w3) := Only.tr (by (repeat (first | refine Only.set_new ?_ _ _ (by omega) | refine Only.set_p ?_ _ _ | refine Only.alloc ?_ _ | refine Only.drew ?_ | refine Only.drewN ?_ _)); exact HO2.out) ho
    have hc3 : x3.cur < n := listS_cur hx3 HZ.out hc2
    have HX3 := hide1 hx3
    clear hr ho hx3 HV2 HO2 hown
    clear a0 fa
    have hy : y = ({ s with kind := 8, q := q1, args := q3 }, x3) := by rw [← HY.out]; unfold valS; simp [HX1.out, HD1.out, HX2.out, HX3.out, HW.out.1, HW.out.2.1, HW.out.2.2.1, HW.out.2.2.2.1, HW.out.2.2.2.2]
    subst hy
    have HV' := HV3.out
    obtain ⟨n1, n2, n3, n4, n5, n6, n7, n8, n9⟩ := HV'.nes
    have a0 := HV'.sx.cell 0
    have a1 := HV'.sx.cell 1
    have a2 := HV'.sx.cell 2
    have a3 := HV'.sx.cell 3
    have a4 := HV'.sx.cell 4
    have a5 := HV'.sx.cell 5
    have a6 := HV'.sx.cell 6
    have a7 := HV'.sx.cell 7
    have a8 := HV'.sx.cell 8
    have a9 := HV'.sx.cell 9
    have a10 := HV'.sx.cell 10
    have a11 := HV'.sx.cell 11
    have a12 := HV'.sx.cell 12
    have a13 := HV'.sx.cell 13
    have a14 := HV'.sx.cell 14
    have o0 := HV'.ox.cell 0
    have o1 := HV'.ox.cell 1
    have o2 := HV'.ox.cell 2
    have o3 := HV'.ox.cell 3
    have o4 := HV'.ox.cell 4
    have o5 := HV'.ox.cell 5
    have o6 := HV'.ox.cell 6
    have o7 := HV'.ox.cell 7
    have o8 := HV'.ox.cell 8
    have o9 := HV'.ox.cell 9
    have o10 := HV'.ox.cell 10
    have o11 := HV'.ox.cell 11
    have o12 := HV'.ox.cell 12
    have o13 := HV'.ox.cell 13
    have o14 := HV'.ox.cell 14
    have fa := HV'.sx.frozen
    have fo := HV'.ox.frozen
    simp [fsA] at a0 a1 a2 a3 a4 a5 a6 a7 a8 a9 a10 a11 a12 a13 a14 o0 o1 o2 o3 o4 o5 o6 o7 o8 o9 o10 o11 o12 o13 o14
    clear HV' HY
    go_wp2
    refine bodyPost_ret (v := .agg (fsA { s with kind := 8, q := q1, args := q3 } (.slice va3 vl3 vc3) nilS nilS)) (by simp [results, Tryz.results179, go_sem, fsA, o0, o1, o2, o3, o4, o5, o6, o7, o8, o9, o10, o11, o12, o13, o14]) rfl ?_
    have F := HV3.out.setS 8 (.slice va3 vl3 vc3)
    refine ⟨(.slice va3 vl3 vc3), rfl, ?_, F.rd.only (X := fun k => k = w.heap.size + 1) ?_ (by omega), F.tk.only (X := fun k => k = w.heap.size + 1) ?_ (by omega), F.pr.box.only (X := fun k => k = w.heap.size + 1) ?_ (by omega), ?_⟩
    · exact ownsRow_base (ownsRow_only (X := fun k => k = w.heap.size ∨ k = w.heap.size + 1) HL3.out (by (repeat refine Only.set_in ?_ _ _ (by simp)); exact Only.refl _ _) (fun k hk h => by have := (HL3.out.lt k hk).1; omega)) (by omega)
    · iterate 15 refine Only.set_at ?_ _ _
      exact Only.refl _ _
    · iterate 15 refine Only.set_at ?_ _ _
      exact Only.refl _ _
    · iterate 15 refine Only.set_at ?_ _ _
      exact Only.refl _ _
    · exact (by (repeat (first | refine Only.set_new ?_ _ _ (by omega) | refine Only.set_p ?_ _ _ | refine Only.alloc ?_ _ | refine Only.drew ?_ | refine Only.drewN ?_ _)); exact HO3.out)

end Go.Proofs.YtgbmakpdjdigmaaGreatDoor

/- The reference's reader.value at whatever token: what it answers (valS), and memory behind it: the reader at rb, the program at pb, the tokens at g; at most 4001 tokens, places and calls. -/
namespace Go.Proofs.YtgbmakpdjdigmaaGreatDoor
open Go.RowKit

theorem value_any (rb pb g n cap : Nat) (toks : List Tk) (fv sv : Value) (x : St) (s : FS) (w : World) (hr : RdBlk rb pb g n cap x.cur x.bad w) (ht : TokRow g n cap toks w) (hp : PrBlk pb fv sv x.pl x.ca w) (hc : x.cur < n) (hz : (tokAt toks (n - 1)).sort = 0) (ha : s.args = []) (hpl : x.pl ≤ 4001) (hca : x.ca ≤ 4001) :
    Calls Tryz.prog 179 #[.pointer (some ⟨rb, 0, none⟩), .agg (fsA s nilS nilS nilS)] w fun e w' => valPost rb pb g n cap toks fv sv w (valS toks x s) e w' := by
  by_cases h0 : wordOf (tokAt toks x.cur) = [110, 101, 119]
  · exact rvalue_new rb pb g n cap toks fv sv x s w hr ht hp hc hz ha hpl h0
  · by_cases h1 : wordOf (tokAt toks x.cur) = [38]
    · cases hd : nextB (getS toks 1 (eatS toks [38] x)).2.bad (tokAt toks (getS toks 1 (eatS toks [38] x)).2.cur) [46] with
      | false => exact value_amp rb pb g n cap toks fv sv x s w hr ht hp hc hz ha h1 hd
      | true => exact value_dot rb pb g n cap toks fv sv x s w hr ht hp hc hz ha h1 hd
    · by_cases h2 : wordOf (tokAt toks x.cur) = [42]
      · exact value_star rb pb g n cap toks fv sv x s w hr ht hp hc hz ha h2
      · by_cases h3 : wordOf (tokAt toks x.cur) = [64]
        · exact value_at rb pb g n cap toks fv sv x s w hr ht hp hc hz ha h3
        · by_cases h4 : wordOf (tokAt toks x.cur) = [40]
          · exact value_par rb pb g n cap toks fv sv x s w hr ht hp hc hz ha hca h4
          · cases hd : nextB (getS toks 1 x).2.bad (tokAt toks (getS toks 1 x).2.cur) [40] with
            | false => exact rvalue_name rb pb g n cap toks fv sv x s w hr ht hp hc hz ha h0 h1 h2 h3 h4 hd
            | true => exact value_call rb pb g n cap toks fv sv x s w hr ht hp hc hz ha h0 h1 h2 h3 h4 hd

end Go.Proofs.YtgbmakpdjdigmaaGreatDoor

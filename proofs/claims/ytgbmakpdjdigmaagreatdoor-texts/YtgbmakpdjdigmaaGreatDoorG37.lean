/- RdP3: told at each. -/
import Derived.Test.YtgbmakpdjdigmaaGreatDoorG31

/- The reference's reader.stmt at if, an else behind it, out of what stmt answers at less fuel. -/
namespace Go.Proofs.YtgbmakpdjdigmaaGreatDoor
open Go.RowKit

set_option maxRecDepth 100000 in
set_option maxHeartbeats 4000000 in
theorem stmt_else (f : Nat) (ih : ∀ k, k ≤ f → StmtOk k) (rb pb g n cap B inn : Nat) (U : Nat → Prop) (toks : List Tk) (fv sv : Value) (x0 : St) (fs : List FS) (w : World) (hr : RdBlk rb pb g n cap x0.cur x0.bad w) (ht : TokRow g n cap toks w) (hp : PrBlk pb fv sv x0.pl x0.ca w) (hst : StRow B U w sv fs) (hB : B ≤ w.heap.size) (hfs : fs.length ≤ 4001) (hc0 : x0.cur < n) (hz : (tokAt toks (n - 1)).sort = 0) (hU : ∀ k, U k → k < w.heap.size) (hinv : Inv n x0 fs.length) (hb0 : x0.bad = none) (hfu : 2 * (n - x0.cur) ≤ f + 1)
    (hw : wordOf (tokAt toks x0.cur) = ifL) (hd : nextB (eatS toks [125] (rStmts toks f inn (eatS toks [123] (eatS toks [63] (eatS toks ifL x0))) (fs ++ [zFS 0 0]) []).2.1).bad (tokAt toks (eatS toks [125] (rStmts toks f inn (eatS toks [123] (eatS toks [63] (eatS toks ifL x0))) (fs ++ [zFS 0 0]) []).2.1).cur) elseL = true) :
    Calls Tryz.prog 128 #[.pointer (some ⟨rb, 0, none⟩), .int .i64 inn] w fun e w' => stPost rb pb g n cap B U toks fv sv w (rStmt toks (f + 1) inn x0 fs) e w' := by
  have HD := hide1 hd
  clear hd
  have IH := hide1 ih
  have HUL := hide1 hU
  have HINV := hide1 hinv
  have HB0 := hide1 hb0
  clear ih hU hinv hb0
  obtain ⟨i0, hi, hz0, hz1, hz2⟩ := info_parts Tryz.infoSt
  obtain ⟨cs, hrow, hcl, hrep⟩ := hst
  have hn := ht.2.2
  have r3 := hr.box.cell 3
  have p1 := hp.box.cell 1
  have f1 := hp.box.frozen 1
  simp at r3 p1
  obtain ⟨sa, sl, sc, hsv⟩ := owns_form hrow
  subst hsv
  have hsl := own_len hrow
  subst hsl
  have lr := blk_lt hr
  have lp := blk_lt hp
  have hnep : pb ≠ rb := hp.box.ne hr.box (by decide)
  have HNR := hide1 (own_ne hrow hr (by decide))
  have HNP := hide1 (own_ne hrow hp (by decide))
  have HR := hide1 hr
  have HTR := hide1 ht
  have HP := hide1 hp
  have HREP := hide1 hrep
  have HCL := hide1 hcl
  have HZ := hide1 hz
  clear hr ht hp hrep hcl hz
  obtain ⟨y, hy⟩ : ∃ y, rStmt toks (f + 1) inn x0 fs = y := ⟨_, rfl⟩
  rw [hy]
  have HY := hide1 hy
  clear hy
  have HW := hide1 hw
  unfold wordOf at hw
  generalize ht : tokAt toks x0.cur = t at hw
  have HT : Hid (tokAt toks x0.cur = t) := ht
  clear ht
  split at hw
  · rename_i hs
    have e0 : (t.text.toList == [105, 102]) = true := by simp [hw]
    clear hw
    have hs2 : (((t.sort : Int) == 2) = true) ∨ (((t.sort : Int) == 2) = false ∧ ((t.sort : Int) == 4) = true) := by
      rcases hs with hs | hs
      · left; simp [hs]
      · right; simp [hs]
    clear hs
    go_enter Tryz.func128, Tryz.ntmps128
    go_wp2
    go_cut [] (fun wx => Grew rb pb g n cap B U toks fv (.slice sa fs.length sc) x0 fs w wx)
    case first =>
      go_region_law (refine step_append_own rfl _ _ 110 rfl B 183 i0 (.agg zS) 15 184 Tryz.underlying110 hi hz0 hz1 hz2 rfl (by decide) _ _ _ rfl (hrow.alloc _) ⟨w.heap.size, 0, none⟩ 1 1 zS.toList rfl rfl (cells_new rfl _ _) zS_one (by decide) (by unfold maxLen; omega) (by omega) (by simp; omega) ?_; intro v' w3 hown' hgrow3 hnew3; have q1 : w3.cell? ⟨pb, 1, none⟩ = some (.slice sa fs.length sc) := (World.cell?_of_block (hgrow3.block pb (by simp; omega) (fun h => HNP.out pb h.symm rfl))).trans (by rw [← p1]; exact World.cell?_of_block (Below.heap_alloc _ _ _ lp)); have q2 : w3.frozen? ⟨pb, 1, none⟩ = false := (World.frozen?_of_block (hgrow3.block pb (by simp; omega) (fun h => HNP.out pb h.symm rfl))).trans (by rw [← f1]; exact World.frozen?_of_block (Below.heap_alloc _ _ _ lp)); have q3 : w3.cell? ⟨rb, 3, none⟩ = some (.pointer (some ⟨pb, 0, none⟩)) := (World.cell?_of_block (hgrow3.block rb (by simp; omega) (fun h => HNR.out rb h.symm rfl))).trans (by rw [← r3]; exact World.cell?_of_block (Below.heap_alloc _ _ _ lr)); obtain ⟨va, vl, vc, rfl⟩ := owns_form hown')
      all_goals
        go_wp2_with fail
        go_meet
        case rel => exact stmt_grow HR.out HTR.out HP.out hrow HCL.out HREP.out (((Only.refl _ _).alloc _).drew) hown' hgrow3 (fun k hk => (hnew3 k hk).imp id (fun q => by simp at q; omega))
    case rest =>
      obtain ⟨va, vl, vc, hr, ht, hp, hst, hfr⟩ := hcut
      have hsb : w.heap.size ≤ wc.heap.size := hfr.only.size
      clear HNR HNP HR HTR HP HREP HCL hrow r3 p1 f1 lr lp hnep
      have HS0 : Hid (SF rb pb wc.heap.size g n cap B U toks fv (.slice va vl vc) x0 (fs ++ [zFS 0 0]) (sInit inn) (wc.alloc (.cells (sInit inn) 183))) :=
        ⟨hr.box.alloc _, ht.only ((Only.refl (fun _ => False) wc).alloc _) (fun q => q), hp.box.alloc _, Box.new _ _ _, hst.only ((Only.refl (fun _ => False) wc).alloc _) (fun _ _ q => q) (fun _ _ _ _ q => q.elim), fun k hk => by obtain ⟨cs', hrow', _⟩ := hst; have := (hrow'.lt k hk).2; omega⟩
      have HF0 : Hid (Frm rb pb (.slice sa fs.length sc) (.slice va vl vc) w (wc.alloc (.cells (sInit inn) 183))) := hfr.alloc _
      clear hr ht hp hst hfr
      go_wp2
      generalize wc.alloc (.cells (sInit inn) 183) = W0 at HS0 HF0 ⊢
      obtain ⟨t0, t1, t2⟩ := HS0.out.tk.cells hc0
      rw [HT.out] at t0 t1 t2
      have r0 := HS0.out.rd.box.cell 0
      have r1 := HS0.out.rd.box.cell 1
      simp at r0 r1
      have l0 := blk_lt HS0.out.rd
      have l1 : g < W0.heap.size := (HS0.out.tk.1.lt g rfl).2
      have ls : wc.heap.size < W0.heap.size := blk_lt HS0.out.sx
      go_region
      rcases hs2 with hs2 | ⟨hs2, hs4⟩
      all_goals
        go_wp2_with fail
        clear t0 t1 t2 r0 r1 l0 l1
        obtain ⟨x1, hx1⟩ : ∃ z, eatS toks ifL x0 = z := ⟨_, rfl⟩
        refine (eat_l rb pb g n cap x0.cur x0.bad toks _ ifL (by simpa using e0) _ ?_ ?_ hc0).mono ?_
        · exact (HS0.out.quiet (by repeat (first | exact Only.refl _ _ | refine Only.drew ?_ | refine Only.drewN ?_ _ | refine Only.alloc ?_ _))).rd
        · exact (HS0.out.quiet (by repeat (first | exact Only.refl _ _ | refine Only.drew ?_ | refine Only.drewN ?_ _ | refine Only.alloc ?_ _))).tk
        rintro e w1 ⟨rfl, hr, ho⟩
        have HS1 := hide1 ((HS0.out.quiet (by repeat (first | exact Only.refl _ _ | refine Only.drew ?_ | refine Only.drewN ?_ _ | refine Only.alloc ?_ _))).eat hx1 ho hr)
        have HF1 := hide1 (Frm.tr (rb := rb) (pb := pb) (sv := .slice sa fs.length sc) (sv' := .slice va vl vc) (w := w) (by (repeat (first | refine Frm.set_new ?_ _ _ (by omega) | refine Frm.alloc ?_ _ | refine Frm.drew ?_ | refine Frm.drewN ?_ _)); exact HF0.out) ho)
        have hc1 : x1.cur < n := eatS_cur hx1 HZ.out hc0
        have HX1 := hide1 hx1
        clear hr ho hx1 HS0 HF0
        go_wp2_with fail
        obtain ⟨x2, hx2⟩ : ∃ z, eatS toks [63] x1 = z := ⟨_, rfl⟩
        refine (eat_l rb pb g n cap x1.cur x1.bad toks _ [63] (by simp) _ ?_ ?_ hc1).mono ?_
        · exact (HS1.out).rd
        · exact (HS1.out).tk
        rintro e w2 ⟨rfl, hr, ho⟩
        have HS2 := hide1 ((HS1.out).eat hx2 ho hr)
        have HF2 := hide1 (Frm.tr (rb := rb) (pb := pb) (sv := .slice sa fs.length sc) (sv' := .slice va vl vc) (w := w) (by (repeat (first | refine Frm.set_new ?_ _ _ (by omega) | refine Frm.alloc ?_ _ | refine Frm.drew ?_ | refine Frm.drewN ?_ _)); exact HF1.out) ho)
        have hc2 : x2.cur < n := eatS_cur hx2 HZ.out hc1
        have HX2 := hide1 hx2
        clear hr ho hx2 HS1 HF1
        have HS2' := HS2.out
        have a0 := HS2'.sx.cell 0
        have fa := HS2'.sx.frozen
        simp at a0
        clear HS2'
        go_wp2_with fail
        clear a0 fa
        have HSX := hide1 (HS2.out.setS 0 (.int .i64 13))
        have HFX : Hid (Frm rb pb (.slice sa fs.length sc) (.slice va vl vc) w (w2.setCell ⟨wc.heap.size, 0, none⟩ (.int .i64 13))) := HF2.out.set_new 0 _ hsb
        have G2 : Goes0 2 x0 x2 := by
          have q := (eatS_goes toks ifL x0).trans (eatS_goes toks [63] (eatS toks ifL x0))
          rw [HX1.out, HX2.out] at q
          exact q
        have HI2 : Hid (Inv n x2 (fs ++ [zFS 0 0]).length) := by
          obtain ⟨g1, g2, g3, g4⟩ := G2
          obtain ⟨h1, h2, h3, h4, h5⟩ := HINV.out
          have h6 := h5 HB0.out
          refine ⟨hc2, by omega, by omega, by simp; omega, fun e => ?_⟩
          have := g4 e
          simp only [List.length_append, List.length_cons, List.length_nil]
          omega
        have HFU : Hid (x2.bad = none → 2 * (n - x2.cur) ≤ f) := fun e => by have := G2.2.2.2 e; omega
        clear G2 HS2 HF2
        obtain ⟨ro, rx, rf, hrr⟩ : ∃ a b c, rStmts toks f inn (eatS toks [123] x2) (fs ++ [zFS 0 0]) [] = (a, b, c) := ⟨_, _, _, rfl⟩
        obtain ⟨x3, hx3⟩ : ∃ z, eatS toks [125] rx = z := ⟨_, rfl⟩
        obtain ⟨p3, hp3⟩ : ∃ z, (tokAt toks x2.cur).pos = z := ⟨_, rfl⟩
        have HLEN : Hid (fs.length < rf.length) := by
          have hcb : (eatS toks [123] x2).cur < n := eatS_cur rfl HZ.out hc2
          have q := ((both_prog HZ.out f).1 inn (eatS toks [123] x2) (fs ++ [zFS 0 0]) [] (HI2.out.goes0 (eatS_goes toks [123] x2) hcb)).2.2
          rw [hrr] at q
          simp only [List.length_append, List.length_cons, List.length_nil] at q
          show _ < _
          omega
        have hBx : B ≤ (w2.setCell ⟨wc.heap.size, 0, none⟩ (.int .i64 13)).heap.size := by have := HFX.out.only.size; omega
        have hszx := HFX.out.only.size
        refine (block_any f IH.out rb pb g n cap B inn U toks fv (.slice va vl vc) x2 (fs ++ [zFS 0 0]) _ HSX.out.rd HSX.out.tk HSX.out.pr HSX.out.st (fun k hk => by have := HUL.out k hk; omega) hBx HZ.out HI2.out HFU.out).mono ?_
        rw [hrr, hp3]
        simp only [hx3]
        rintro e w3 ⟨sv2, bv, U2, hu1, hu2, hu3, rfl, hbi, hr3, ht3, hpp3, hst3, hfr3⟩
        obtain ⟨b1, b2, b3, hbv⟩ := owns_form hbi
        subst hbv
        obtain ⟨d1, d2, d3, hdv⟩ : ∃ a l c, sv2 = .slice a l c := by obtain ⟨cs', hrow', _⟩ := hst3; exact owns_form hrow'
        subst hdv
        have hsbx : wc.heap.size < (w2.setCell ⟨wc.heap.size, 0, none⟩ (.int .i64 13)).heap.size := blk_lt HSX.out.sx
        have HS3 : Hid (SF rb pb wc.heap.size g n cap B U2 toks fv (.slice d1 d2 d3) x3 rf ((sInit inn).setIfInBounds 0 (.int .i64 13)) w3) := by
          refine ⟨hr3, ht3, hpp3, HSX.out.sx.only hfr3.only ?_, hst3, ?_⟩
          · have hn := HSX.out.nes
            rintro (q | q | q)
            · exact hn.2.2.1 q
            · exact hn.2.2.2.2.1 q
            · exact HSX.out.nb _ q rfl
          · intro k hk
            rcases hfr3.own k hk with q | q
            · exact HSX.out.nb k q
            · omega
        have HC3 : Hid (x3.cur < n) := by
          rw [← hx3]
          refine eatS_cur rfl HZ.out ?_
          have hcb : (eatS toks [123] x2).cur < n := eatS_cur rfl HZ.out hc2
          have q := ((both_prog HZ.out f).1 inn (eatS toks [123] x2) (fs ++ [zFS 0 0]) [] (HI2.out.goes0 (eatS_goes toks [123] x2) hcb)).1.1
          rw [hrr] at q
          exact q
        have HI3X : Hid (Inv n x3 rf.length) := by
          have hcb : (eatS toks [123] x2).cur < n := eatS_cur rfl HZ.out hc2
          have q := ((both_prog HZ.out f).1 inn (eatS toks [123] x2) (fs ++ [zFS 0 0]) [] (HI2.out.goes0 (eatS_goes toks [123] x2) hcb)).1
          rw [hrr] at q
          have q2 := q.goes0 (eatS_goes toks [125] rx) (eatS_cur rfl HZ.out q.1)
          rw [hx3] at q2
          exact q2
        have HGE : Hid (x3.bad = none → 2 * (n - x3.cur) ≤ f) := by
          intro e
          have hcb : (eatS toks [123] x2).cur < n := eatS_cur rfl HZ.out hc2
          have q := ((both_prog HZ.out f).1 inn (eatS toks [123] x2) (fs ++ [zFS 0 0]) [] (HI2.out.goes0 (eatS_goes toks [123] x2) hcb)).2.1
          rw [hrr] at q
          have q1 := eatS_goes toks [123] x2
          have q2 := eatS_goes toks [125] rx
          rw [hx3] at q2
          have q3 := (eatS_goes toks ifL x0).trans (eatS_goes toks [63] (eatS toks ifL x0))
          rw [HX1.out, HX2.out] at q3
          have r1 := q1.1
          have r2 := q2.2.2.2 e
          have r3 := q3.1
          simp only at q
          omega
        have HF3 := hide1 (HFX.out.trans hfr3)
        have HBI3 : Hid (IntsAt B w3 (.slice b1 b2 b3) ro) := ownsRow_base hbi hBx
        have HU : Hid ((∀ k, U k → U2 k) ∧ (∀ k, U2 k → U k ∨ w.heap.size ≤ k) ∧ ∀ k, Value.ownBlock (.slice b1 b2 b3) = some k → U k ∨ w.heap.size ≤ k) :=
          ⟨hu1, fun k h => (hu2 k h).imp id (fun q => by omega), fun k h => .inr (by have := (hbi.lt k h).1; omega)⟩
        have HNB : Hid (∀ k, Value.ownBlock (.slice b1 b2 b3) = some k → k ≠ wc.heap.size) := fun k h => by have := (hbi.lt k h).1; omega
        clear hu1 hu2 hu3 hbi hr3 ht3 hpp3 hst3 hfr3 HSX HFX hBx hszx hsbx HI2 HFU
        have HD3 : Hid (nextB x3.bad (tokAt toks x3.cur) elseL = true) := by have := HD.out; rw [HX1.out, HX2.out, hrr] at this; simp only [hx3] at this; exact this
        clear HD
        have HI3 : Hid (Inv n x3 rf.length) := HI3X.out
        have HRR := hide1 hrr
        have HX3 := hide1 hx3
        have HP3 := hide1 hp3
        clear hrr hx3 hp3
        have HS3' := HS3.out
        have a0 := HS3'.sx.cell 0
        have a10 := HS3'.sx.cell 10
        have a12 := HS3'.sx.cell 12
        have fa := HS3'.sx.frozen
        simp at a0 a10 a12
        clear HS3'
        have hc3 : x3.cur < n := HC3.out
        go_wp2_with fail
        have HSY := hide1 (((HS3.out.setS 12 (.int .i64 p3)).setS 10 (.slice b1 b2 b3)).setS 0 (.int .i64 12))
        have HFY := hide1 (((HF3.out.set_new 12 (.int .i64 p3) hsb).set_new 10 (.slice b1 b2 b3) hsb).set_new 0 (.int .i64 12) hsb)
        have HBY := hide1 (ownsRow_only HBI3.out ((((Only.refl (fun k => k = wc.heap.size) w3).set_at 12 (.int .i64 p3)).set_at 10 (.slice b1 b2 b3)).set_at 0 (.int .i64 12)) (fun k hk => HNB.out k hk))
        refine (next_l rb pb g n cap x3.cur x3.bad toks _ elseL (by simp) _ HSY.out.rd HSY.out.tk hc3).mono ?_
        rw [HD3.out]
        rintro e w4b ⟨rfl, ho⟩
        have HS4 := hide1 (HSY.out.quiet ho)
        have HF4 := hide1 (HFY.out.trans (Frm.ofOnly (ho.mono (fun _ _ q => q.elim))))
        have HBI : Hid (IntsAt B w4b (.slice b1 b2 b3) ro) := ownsRow_only HBY.out ho (fun _ _ q => q)
        clear HSY HFY HBY ho a0 a10 a12 fa
        go_wp2_with fail
        obtain ⟨x4, hx4⟩ : ∃ z, eatS toks elseL x3 = z := ⟨_, rfl⟩
        refine (eat_l rb pb g n cap x3.cur x3.bad toks _ elseL (by simp) _ HS4.out.rd HS4.out.tk hc3).mono ?_
        rintro e w5 ⟨rfl, hr, ho⟩
        have HS5 := hide1 (HS4.out.eat hx4 ho hr)
        have HF5 := hide1 (HF4.out.tr ho)
        have HB5 : Hid (IntsAt B w5 (.slice b1 b2 b3) ro) := ownsRow_typed HBI.out ho (fun k ds fz hk => typ_ne HS4.out.rd.box (by decide) k ds fz hk)
        have hc4 : x4.cur < n := eatS_cur hx4 HZ.out hc3
        have G4 : Goes0 1 x3 x4 := by have q := eatS_goes toks elseL x3; rw [hx4] at q; exact q
        have HI4 : Hid (Inv n x4 rf.length) := HI3.out.goes0 G4 hc4
        have HFU4 : Hid (x4.bad = none → 2 * (n - x4.cur) ≤ f) := fun e => by have q := G4.2.2.2 e; have := HGE.out q.1; omega
        have HX4 := hide1 hx4
        clear hr ho hx4 G4 HS4 HF4 HBI
        go_wp2_with fail
        obtain ⟨so, sx, sf, hss⟩ : ∃ a b c, rStmts toks f inn (eatS toks [123] x4) rf [] = (a, b, c) := ⟨_, _, _, rfl⟩
        obtain ⟨x5, hx5⟩ : ∃ z, eatS toks [125] sx = z := ⟨_, rfl⟩
        obtain ⟨p5, hp5⟩ : ∃ z, (tokAt toks x4.cur).pos = z := ⟨_, rfl⟩
        have HLEN2 : Hid (fs.length < sf.length) := by
          have hcb : (eatS toks [123] x4).cur < n := eatS_cur rfl HZ.out hc4
          have q := ((both_prog HZ.out f).1 inn (eatS toks [123] x4) rf [] (HI4.out.goes0 (eatS_goes toks [123] x4) hcb)).2.2
          rw [hss] at q
          simp only at q
          have := HLEN.out
          show _ < _
          omega
        have hsz5 := HF5.out.only.size
        refine (block_any f IH.out rb pb g n cap B inn (fun k => U2 k ∧ k < w5.heap.size) toks fv (.slice d1 d2 d3) x4 rf _ HS5.out.rd HS5.out.tk HS5.out.pr HS5.out.st.below (fun k hk => hk.2) (by omega) HZ.out HI4.out HFU4.out).mono ?_
        rw [hss, hp5]
        simp only [hx5]
        rintro e w6 ⟨sv6, ov, U6, hu1, hu2, hu3, rfl, hoi6, hr6, ht6, hpp6, hst6, hfr6⟩
        obtain ⟨c1, c2, c3, hcv⟩ := owns_form hoi6
        subst hcv
        obtain ⟨f1, f2, f3, hfv⟩ : ∃ a l c, sv6 = .slice a l c := by obtain ⟨cs', hrow', _⟩ := hst6; exact owns_form hrow'
        subst hfv
        have hsb5 : wc.heap.size < w5.heap.size := blk_lt HS5.out.sx
        have hsx6 := HS5.out.sx.only hfr6.only (by
          have hn := HS5.out.nes
          rintro (q | q | q)
          · exact hn.2.2.1 q
          · exact hn.2.2.2.2.1 q
          · exact HS5.out.nb _ q rfl)
        have hnb6 : ∀ k, Value.ownBlock (.slice f1 f2 f3) = some k → k ≠ wc.heap.size := by
          intro k hk
          rcases hfr6.own k hk with q | q
          · exact HS5.out.nb k q
          · omega
        have HS6 := hide1 (SF.mk (x := x5) hr6 ht6 hpp6 hsx6 hst6 hnb6)
        have HF6 := hide1 (HF5.out.trans hfr6)
        have HB6 := hide1 (ints_frm HB5.out HS5.out.rd HS5.out.pr HS5.out.st hfr6)
        have HO6 : Hid (IntsAt B w6 (.slice c1 c2 c3) so) := ownsRow_base hoi6 (by omega)
        have HU6 : Hid ((∀ k, U k → U6 k) ∧ (∀ k, U6 k → U k ∨ w.heap.size ≤ k) ∧ ∀ k, Value.ownBlock (.slice c1 c2 c3) = some k → U k ∨ w.heap.size ≤ k) :=
          ⟨fun k h => hu1 k ⟨HU.out.1 k h, by have := HUL.out k h; omega⟩, fun k h => (hu2 k h).elim (fun q => HU.out.2.1 k q.1) (fun q => .inr (by omega)), fun k h => .inr (by have := (hoi6.lt k h).1; omega)⟩
        have HNO : Hid (∀ k, Value.ownBlock (.slice c1 c2 c3) = some k → k ≠ wc.heap.size) := fun k h => by have := (hoi6.lt k h).1; omega
        have hy : y = (fs.length, x5, sf.set fs.length { zFS inn (-1) with kind := 12, br := p3, body := ro, br2 := p5, other := so }) := by rw [← HY.out]; rw [rStmt, HW.out]; simp [HX1.out, HX2.out, HRR.out, HX3.out, HP3.out, HD3.out, HX4.out, hss, hx5, hp5]
        have HYE := hide1 hy
        clear HY hy hss hx5 hp5 hu1 hu2 hu3 hoi6 hr6 ht6 hpp6 hst6 hfr6 hsx6 hnb6 HS5 HF5 HB5 HRR HX3 HP3 HX4 HD3 HI3 HI4 HFU4 HC3 HGE HI3X HS3 HF3 HBI3
        have HS6' := HS6.out
        have a11 := HS6'.sx.cell 11
        have a13 := HS6'.sx.cell 13
        have fa := HS6'.sx.frozen
        simp at a11 a13
        clear HS6'
        go_wp2_with fail
        clear a11 a13 fa
        have HS4 := hide1 ((HS6.out.setS 13 (.int .i64 p5)).setS 11 (.slice c1 c2 c3))
        have HF4 := hide1 ((HF6.out.set_new 13 (.int .i64 p5) hsb).set_new 11 (.slice c1 c2 c3) hsb)
        have HBI : Hid (IntsAt B ((w6.setCell ⟨wc.heap.size, 13, none⟩ (.int .i64 p5)).setCell ⟨wc.heap.size, 11, none⟩ (.slice c1 c2 c3)) (.slice b1 b2 b3) ro) := ownsRow_only HB6.out (((Only.refl (fun k => k = wc.heap.size) w6).set_at 13 (.int .i64 p5)).set_at 11 (.slice c1 c2 c3)) (fun k hk => HNB.out k hk)
        have HOI : Hid (IntsAt B ((w6.setCell ⟨wc.heap.size, 13, none⟩ (.int .i64 p5)).setCell ⟨wc.heap.size, 11, none⟩ (.slice c1 c2 c3)) (.slice c1 c2 c3) so) := ownsRow_only HO6.out (((Only.refl (fun k => k = wc.heap.size) w6).set_at 13 (.int .i64 p5)).set_at 11 (.slice c1 c2 c3)) (fun k hk => HNO.out k hk)
        generalize (w6.setCell ⟨wc.heap.size, 13, none⟩ (.int .i64 p5)).setCell ⟨wc.heap.size, 11, none⟩ (.slice c1 c2 c3) = w4b at HS4 HF4 HBI HOI ⊢
        clear HS6 HF6 HB6 HO6 HNO HNB
        have HS' := HS4.out
        obtain ⟨cs', hrow', hl', hrep'⟩ := HS'.st
        have HST := hide1 HS'.st
        obtain ⟨gg, hgg⟩ := own_some hrow' (by have := HLEN2.out; omega)
        subst hgg
        have hfl : fs.length < sf.length := HLEN2.out
        have gz := own_frozen hrow'
        obtain ⟨g0, k0⟩ := own_cell hrow' fs.length hfl 0 (by decide)
        obtain ⟨g1, k1⟩ := own_cell hrow' fs.length hfl 1 (by decide)
        obtain ⟨g2, k2⟩ := own_cell hrow' fs.length hfl 2 (by decide)
        obtain ⟨g3, k3⟩ := own_cell hrow' fs.length hfl 3 (by decide)
        obtain ⟨g4, k4⟩ := own_cell hrow' fs.length hfl 4 (by decide)
        obtain ⟨g5, k5⟩ := own_cell hrow' fs.length hfl 5 (by decide)
        obtain ⟨g6, k6⟩ := own_cell hrow' fs.length hfl 6 (by decide)
        obtain ⟨g7, k7⟩ := own_cell hrow' fs.length hfl 7 (by decide)
        obtain ⟨g8, k8⟩ := own_cell hrow' fs.length hfl 8 (by decide)
        obtain ⟨g9, k9⟩ := own_cell hrow' fs.length hfl 9 (by decide)
        obtain ⟨g10, k10⟩ := own_cell hrow' fs.length hfl 10 (by decide)
        obtain ⟨g11, k11⟩ := own_cell hrow' fs.length hfl 11 (by decide)
        obtain ⟨g12, k12⟩ := own_cell hrow' fs.length hfl 12 (by decide)
        obtain ⟨g13, k13⟩ := own_cell hrow' fs.length hfl 13 (by decide)
        obtain ⟨g14, k14⟩ := own_cell hrow' fs.length hfl 14 (by decide)
        simp only [Nat.add_zero] at k0
        have hvl := own_len hrow'
        have hvl' : fs.length < f2 := by omega
        clear hvl
        have a0 := HS'.sx.cell 0
        have a1 := HS'.sx.cell 1
        have a2 := HS'.sx.cell 2
        have a3 := HS'.sx.cell 3
        have a4 := HS'.sx.cell 4
        have a5 := HS'.sx.cell 5
        have a6 := HS'.sx.cell 6
        have a7 := HS'.sx.cell 7
        have a8 := HS'.sx.cell 8
        have a9 := HS'.sx.cell 9
        have a10 := HS'.sx.cell 10
        have a11 := HS'.sx.cell 11
        have a12 := HS'.sx.cell 12
        have a13 := HS'.sx.cell 13
        have a14 := HS'.sx.cell 14
        have r3 := HS'.rd.box.cell 3
        have p1 := HS'.pr.box.cell 1
        simp at a0 a1 a2 a3 a4 a5 a6 a7 a8 a9 a10 a11 a12 a13 a14 r3 p1
        have hne1 := HS'.svne gg rfl
        obtain ⟨m1, m2, m3⟩ := hne1
        have hgt : g ≠ gg := by obtain ⟨cur, hcur⟩ := own_blk hrow'; exact HS'.tk.ne hcur (by decide)
        clear HS' hrow' hl' hrep' hfl
        go_wp2
        go_region
        go_wp2
        go_ret
        rw [HYE.out]
        obtain ⟨U4, hU4⟩ : ∃ U4 : Nat → Prop, U4 = fun k => U6 k ∨ Value.ownBlock (.slice b1 b2 b3) = some k ∨ Value.ownBlock (.slice c1 c2 c3) = some k := ⟨_, rfl⟩
        have hrp : FsRep B U4 w4b [.int .i64 12, .string { data := #[] }, .int .i64 0, .int .i64 0, .string { data := #[] }, .int .i64 0, .int .i64 0, .int .i64 0, nilS, .int .i64 0, .slice b1 b2 b3, .slice c1 c2 c3, .int .i64 p3, .int .i64 p5, .int .i64 inn] { zFS inn (-1) with kind := 12, br := p3, body := ro, br2 := p5, other := so } := ⟨nilS, .slice b1 b2 b3, .slice c1 c2 c3, rfl, World.ownsRow_nil _ _ _ _, HBI.out, HOI.out, fun k hk => by rw [hU4]; right; simpa [Value.ownBlock] using hk⟩
        have F := (HST.out.more (U' := U4) (fun k h => by rw [hU4]; exact .inl h)).put (i := fs.length) HLEN2.out hrp
        have O := only_put15 w4b gg (fs.length * 15) [.int .i64 12, .string { data := #[] }, .int .i64 0, .int .i64 0, .string { data := #[] }, .int .i64 0, .int .i64 0, .int .i64 0, nilS, .int .i64 0, .slice b1 b2 b3, .slice c1 c2 c3, .int .i64 p3, .int .i64 p5, .int .i64 inn]
        have HS' := HS4.out
        have G1 := HS'.rd.only O (fun q => m1 q.symm)
        have G2 := HS'.tk.only O hgt
        have G3 := HS'.pr.box.only O (fun q => m2 q.symm)
        have G4 := HF4.out.put rfl O
        rw [put15_lit] at F G1 G2 G3 G4
        have D0 : ∀ W : World, Only (fun _ => False) W W.drew := fun W => (Only.refl _ W).drew
        refine ⟨.slice (some ⟨gg, 0, none⟩) f2 f3, U4, fun k h => by rw [hU4]; exact .inl (HU6.out.1 k h), fun k h => by rw [hU4] at h; exact h.elim (HU6.out.2.1 k) (fun q => q.elim (HU.out.2.2 k) (HU6.out.2.2 k)), rfl, ?_, ?_, ?_, ?_, ?_⟩
        · exact G1.only (D0 _) (fun q => q)
        · exact G2.only (D0 _) (fun q => q)
        · exact G3.only (D0 _) (fun q => q)
        · exact F.only (D0 _) (fun _ _ q => q) (fun _ _ _ _ q => q.elim)
        · exact G4.drew
  · simp at hw

end Go.Proofs.YtgbmakpdjdigmaaGreatDoor

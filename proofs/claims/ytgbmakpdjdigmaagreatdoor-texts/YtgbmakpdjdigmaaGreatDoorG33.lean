/- RdL3: told at each. -/
import Derived.Test.YtgbmakpdjdigmaaGreatDoorG30

/- The reference's reader.stmt at the sign 42. -/
namespace Go.Proofs.YtgbmakpdjdigmaaGreatDoor
open Go.RowKit

set_option maxRecDepth 100000 in
set_option maxHeartbeats 2000000 in
theorem stmt_star (rb pb g n cap B inn : Nat) (U : Nat → Prop) (toks : List Tk) (fv sv : Value) (x0 : St) (fs : List FS) (w : World) (hr : RdBlk rb pb g n cap x0.cur x0.bad w) (ht : TokRow g n cap toks w) (hp : PrBlk pb fv sv x0.pl x0.ca w) (hst : StRow B U w sv fs) (hB : B ≤ w.heap.size) (hfs : fs.length ≤ 4001) (hc0 : x0.cur < n) (hz : (tokAt toks (n - 1)).sort = 0) (f : Nat)
    (hw : wordOf (tokAt toks x0.cur) = [42]) :
    Calls Tryz.prog 128 #[.pointer (some ⟨rb, 0, none⟩), .int .i64 inn] w fun e w' => stPost rb pb g n cap B U toks fv sv w (rStmt toks (f + 1) inn x0 fs) e w' := by
  obtain ⟨i0, hi, hz0, hz1, hz2⟩ := info_parts Tryz.infoSt
  obtain ⟨cs, hrow, hcl, hrep⟩ := hst
  have hn := ht.2.2
  have r3 := hr.box.cell 3
  have p1 := hp.box.cell 1
  have f1 := hp.box.frozen 1
  simp at r3 p1
  obtain ⟨sa, sl, sc, hsv⟩ := owns_form hrow
  subst hsv
  have hsl := own_len hrow
  subst hsl
  have lr := blk_lt hr
  have lp := blk_lt hp
  have hnep : pb ≠ rb := hp.box.ne hr.box (by decide)
  have HNR := hide1 (own_ne hrow hr (by decide))
  have HNP := hide1 (own_ne hrow hp (by decide))
  have HR := hide1 hr
  have HTR := hide1 ht
  have HP := hide1 hp
  have HREP := hide1 hrep
  have HCL := hide1 hcl
  have HZ := hide1 hz
  clear hr ht hp hrep hcl hz
  obtain ⟨y, hy⟩ : ∃ y, rStmt toks (f + 1) inn x0 fs = y := ⟨_, rfl⟩
  rw [hy]
  have HY := hide1 hy
  clear hy
  have HW := hide1 hw
  unfold wordOf at hw
  generalize ht : tokAt toks x0.cur = t at hw
  have HT : Hid (tokAt toks x0.cur = t) := ht
  clear ht
  split at hw
  · rename_i hs
    have e0 : (t.text.toList == [105, 102]) = false := by simp [hw]
    have e1 : (t.text.toList == [119, 104, 105, 108, 101]) = false := by simp [hw]
    have e2 : (t.text.toList == [118, 97, 114]) = false := by simp [hw]
    have e3 : (t.text.toList == [114, 101, 116, 117, 114, 110]) = false := by simp [hw]
    have e4 : (t.text.toList == [42]) = true := by simp [hw]
    clear hw
    have hs2 : (((t.sort : Int) == 2) = true) ∨ (((t.sort : Int) == 2) = false ∧ ((t.sort : Int) == 4) = true) := by
      rcases hs with hs | hs
      · left; simp [hs]
      · right; simp [hs]
    clear hs
    go_enter Tryz.func128, Tryz.ntmps128
    go_wp2
    go_cut [] (fun wx => Grew rb pb g n cap B U toks fv (.slice sa fs.length sc) x0 fs w wx)
    case first =>
      go_region_law (refine step_append_own rfl _ _ 110 rfl B 183 i0 (.agg zS) 15 184 Tryz.underlying110 hi hz0 hz1 hz2 rfl (by decide) _ _ _ rfl (hrow.alloc _) ⟨w.heap.size, 0, none⟩ 1 1 zS.toList rfl rfl (cells_new rfl _ _) zS_one (by decide) (by unfold maxLen; omega) (by omega) (by simp; omega) ?_; intro v' w3 hown' hgrow3 hnew3; have q1 : w3.cell? ⟨pb, 1, none⟩ = some (.slice sa fs.length sc) := (World.cell?_of_block (hgrow3.block pb (by simp; omega) (fun h => HNP.out pb h.symm rfl))).trans (by rw [← p1]; exact World.cell?_of_block (Below.heap_alloc _ _ _ lp)); have q2 : w3.frozen? ⟨pb, 1, none⟩ = false := (World.frozen?_of_block (hgrow3.block pb (by simp; omega) (fun h => HNP.out pb h.symm rfl))).trans (by rw [← f1]; exact World.frozen?_of_block (Below.heap_alloc _ _ _ lp)); have q3 : w3.cell? ⟨rb, 3, none⟩ = some (.pointer (some ⟨pb, 0, none⟩)) := (World.cell?_of_block (hgrow3.block rb (by simp; omega) (fun h => HNR.out rb h.symm rfl))).trans (by rw [← r3]; exact World.cell?_of_block (Below.heap_alloc _ _ _ lr)); obtain ⟨va, vl, vc, rfl⟩ := owns_form hown')
      all_goals
        go_wp2_with fail
        go_meet
        case rel => exact stmt_grow HR.out HTR.out HP.out hrow HCL.out HREP.out (((Only.refl _ _).alloc _).drew) hown' hgrow3 (fun k hk => (hnew3 k hk).imp id (fun q => by simp at q; omega))
    case rest =>
      obtain ⟨va, vl, vc, hr, ht, hp, hst, hfr⟩ := hcut
      have hsb : w.heap.size ≤ wc.heap.size := hfr.only.size
      clear HNR HNP HR HTR HP HREP HCL hrow r3 p1 f1 lr lp hnep
      have HS0 : Hid (SF rb pb wc.heap.size g n cap B U toks fv (.slice va vl vc) x0 (fs ++ [zFS 0 0]) (sInit inn) (wc.alloc (.cells (sInit inn) 183))) :=
        ⟨hr.box.alloc _, ht.only ((Only.refl (fun _ => False) wc).alloc _) (fun q => q), hp.box.alloc _, Box.new _ _ _, hst.only ((Only.refl (fun _ => False) wc).alloc _) (fun _ _ q => q) (fun _ _ _ _ q => q.elim), fun k hk => by obtain ⟨cs', hrow', _⟩ := hst; have := (hrow'.lt k hk).2; omega⟩
      have HF0 : Hid (Frm rb pb (.slice sa fs.length sc) (.slice va vl vc) w (wc.alloc (.cells (sInit inn) 183))) := hfr.alloc _
      clear hr ht hp hst hfr
      go_wp2
      generalize wc.alloc (.cells (sInit inn) 183) = W0 at HS0 HF0 ⊢
      obtain ⟨t0, t1, t2⟩ := HS0.out.tk.cells hc0
      rw [HT.out] at t0 t1 t2
      have r0 := HS0.out.rd.box.cell 0
      have r1 := HS0.out.rd.box.cell 1
      simp at r0 r1
      have l0 := blk_lt HS0.out.rd
      have l1 : g < W0.heap.size := (HS0.out.tk.1.lt g rfl).2
      have ls : wc.heap.size < W0.heap.size := blk_lt HS0.out.sx
      go_region
      rcases hs2 with hs2 | ⟨hs2, hs4⟩
      all_goals
        go_wp2_with fail
        clear t0 t1 t2 r0 r1 l0 l1
        obtain ⟨x1, hx1⟩ : ∃ z, eatS toks [42] x0 = z := ⟨_, rfl⟩
        refine (eat_l rb pb g n cap x0.cur x0.bad toks _ [42] (by simp) _ ?_ ?_ hc0).mono ?_
        · exact (HS0.out.quiet (by repeat (first | exact Only.refl _ _ | refine Only.drew ?_ | refine Only.drewN ?_ _ | refine Only.alloc ?_ _))).rd
        · exact (HS0.out.quiet (by repeat (first | exact Only.refl _ _ | refine Only.drew ?_ | refine Only.drewN ?_ _ | refine Only.alloc ?_ _))).tk
        rintro e w1 ⟨rfl, hr, ho⟩
        have HS1 := hide1 ((HS0.out.quiet (by repeat (first | exact Only.refl _ _ | refine Only.drew ?_ | refine Only.drewN ?_ _ | refine Only.alloc ?_ _))).eat hx1 ho hr)
        have HF1 := hide1 (Frm.tr (rb := rb) (pb := pb) (sv := .slice sa fs.length sc) (sv' := .slice va vl vc) (w := w) (by (repeat (first | refine Frm.set_new ?_ _ _ (by omega) | refine Frm.alloc ?_ _ | refine Frm.drew ?_ | refine Frm.drewN ?_ _)); exact HF0.out) ho)
        have hc1 : x1.cur < n := eatS_cur hx1 HZ.out hc0
        have HX1 := hide1 hx1
        clear hr ho hx1 HS0 HF0
        have HS1' := HS1.out
        have a0 := HS1'.sx.cell 0
        have a1 := HS1'.sx.cell 1
        have a2 := HS1'.sx.cell 2
        have a3 := HS1'.sx.cell 3
        have a4 := HS1'.sx.cell 4
        have a5 := HS1'.sx.cell 5
        have a6 := HS1'.sx.cell 6
        have fa := HS1'.sx.frozen
        simp at a0 a1 a2 a3 a4 a5 a6
        clear HS1'
        go_wp2_with fail
        obtain ⟨q2, x2, hx2⟩ : ∃ q z, getS toks 1 x1 = (q, z) := ⟨_, _, rfl⟩
        refine (get_any rb pb g n cap x1.cur 1 x1.bad toks _ ?_ ?_ hc1).mono ?_
        · exact (HS1.out.setS 0 (.int .i64 10)).rd
        · exact (HS1.out.setS 0 (.int .i64 10)).tk
        rw [show (getR toks x1.cur x1.bad 1).1 = q2 from congrArg Prod.fst hx2]
        rintro e w2 ⟨rfl, hr, ho⟩
        have HS2 := hide1 ((HS1.out.setS 0 (.int .i64 10)).get hx2 ho hr)
        have HF2 := hide1 (Frm.tr (rb := rb) (pb := pb) (sv := .slice sa fs.length sc) (sv' := .slice va vl vc) (w := w) (by (repeat (first | refine Frm.set_new ?_ _ _ (by omega) | refine Frm.alloc ?_ _ | refine Frm.drew ?_ | refine Frm.drewN ?_ _)); exact HF1.out) ho)
        have hc2 : x2.cur < n := getS_cur hx2 (by decide) HZ.out hc1
        have HX2 := hide1 hx2
        clear hr ho hx2 HS1 HF1
        unfold tkV
        clear a0 a1 a2 a3 a4 a5 a6 fa
        have HS2' := HS2.out
        have a0 := HS2'.sx.cell 0
        have a1 := HS2'.sx.cell 1
        have a2 := HS2'.sx.cell 2
        have a3 := HS2'.sx.cell 3
        have a4 := HS2'.sx.cell 4
        have a5 := HS2'.sx.cell 5
        have a6 := HS2'.sx.cell 6
        have fa := HS2'.sx.frozen
        simp at a0 a1 a2 a3 a4 a5 a6
        clear HS2'
        go_wp2_with fail
        obtain ⟨x3, hx3⟩ : ∃ z, eatS toks [61] x2 = z := ⟨_, rfl⟩
        refine (eat_l rb pb g n cap x2.cur x2.bad toks _ [61] (by simp) _ ?_ ?_ hc2).mono ?_
        · exact (((HS2.out.setS 1 (.string q2.text)).setS 2 (.int .i64 q2.pos)).setS 3 (.int .i64 q2.sort)).rd
        · exact (((HS2.out.setS 1 (.string q2.text)).setS 2 (.int .i64 q2.pos)).setS 3 (.int .i64 q2.sort)).tk
        rintro e w3 ⟨rfl, hr, ho⟩
        have HS3 := hide1 ((((HS2.out.setS 1 (.string q2.text)).setS 2 (.int .i64 q2.pos)).setS 3 (.int .i64 q2.sort)).eat hx3 ho hr)
        have HF3 := hide1 (Frm.tr (rb := rb) (pb := pb) (sv := .slice sa fs.length sc) (sv' := .slice va vl vc) (w := w) (by (repeat (first | refine Frm.set_new ?_ _ _ (by omega) | refine Frm.alloc ?_ _ | refine Frm.drew ?_ | refine Frm.drewN ?_ _)); exact HF2.out) ho)
        have hc3 : x3.cur < n := eatS_cur hx3 HZ.out hc2
        have HX3 := hide1 hx3
        clear hr ho hx3 HS2 HF2
        clear a0 a1 a2 a3 a4 a5 a6 fa
        go_wp2_with fail
        obtain ⟨q4, x4, hx4⟩ : ∃ q z, getS toks 1 x3 = (q, z) := ⟨_, _, rfl⟩
        refine (get_any rb pb g n cap x3.cur 1 x3.bad toks _ ?_ ?_ hc3).mono ?_
        · exact (HS3.out).rd
        · exact (HS3.out).tk
        rw [show (getR toks x3.cur x3.bad 1).1 = q4 from congrArg Prod.fst hx4]
        rintro e w4 ⟨rfl, hr, ho⟩
        have HS4 := hide1 ((HS3.out).get hx4 ho hr)
        have HF4 := hide1 (Frm.tr (rb := rb) (pb := pb) (sv := .slice sa fs.length sc) (sv' := .slice va vl vc) (w := w) (by (repeat (first | refine Frm.set_new ?_ _ _ (by omega) | refine Frm.alloc ?_ _ | refine Frm.drew ?_ | refine Frm.drewN ?_ _)); exact HF3.out) ho)
        have hc4 : x4.cur < n := getS_cur hx4 (by decide) HZ.out hc3
        have HX4 := hide1 hx4
        clear hr ho hx4 HS3 HF3
        unfold tkV
        have HS4' := HS4.out
        have a0 := HS4'.sx.cell 0
        have a1 := HS4'.sx.cell 1
        have a2 := HS4'.sx.cell 2
        have a3 := HS4'.sx.cell 3
        have a4 := HS4'.sx.cell 4
        have a5 := HS4'.sx.cell 5
        have a6 := HS4'.sx.cell 6
        have fa := HS4'.sx.frozen
        simp at a0 a1 a2 a3 a4 a5 a6
        clear HS4'
        go_wp2_with fail
        obtain ⟨x5, hx5⟩ : ∃ z, eatS toks [59] x4 = z := ⟨_, rfl⟩
        refine (eat_l rb pb g n cap x4.cur x4.bad toks _ [59] (by simp) _ ?_ ?_ hc4).mono ?_
        · exact (((HS4.out.setS 4 (.string q4.text)).setS 5 (.int .i64 q4.pos)).setS 6 (.int .i64 q4.sort)).rd
        · exact (((HS4.out.setS 4 (.string q4.text)).setS 5 (.int .i64 q4.pos)).setS 6 (.int .i64 q4.sort)).tk
        rintro e w5 ⟨rfl, hr, ho⟩
        have HS5 := hide1 ((((HS4.out.setS 4 (.string q4.text)).setS 5 (.int .i64 q4.pos)).setS 6 (.int .i64 q4.sort)).eat hx5 ho hr)
        have HF5 := hide1 (Frm.tr (rb := rb) (pb := pb) (sv := .slice sa fs.length sc) (sv' := .slice va vl vc) (w := w) (by (repeat (first | refine Frm.set_new ?_ _ _ (by omega) | refine Frm.alloc ?_ _ | refine Frm.drew ?_ | refine Frm.drewN ?_ _)); exact HF4.out) ho)
        have hc5 : x5.cur < n := eatS_cur hx5 HZ.out hc4
        have HX5 := hide1 hx5
        clear hr ho hx5 HS4 HF4
        clear a0 a1 a2 a3 a4 a5 a6 fa
        have hy : y = (fs.length, x5, (fs ++ [zFS 0 0]).set fs.length { zFS inn (-1) with kind := 10, p := q2, q := q4 }) := by rw [← HY.out]; simp [rStmt, plainS, HW.out, HX1.out, HX2.out, HX3.out, HX4.out, HX5.out]
        have HYE := hide1 hy
        clear HY hy
        have HS' := HS5.out
        obtain ⟨cs', hrow', hl', hrep'⟩ := HS'.st
        have HST := hide1 HS'.st
        obtain ⟨gg, hgg⟩ := own_some hrow' (by simp)
        subst hgg
        have hfl : fs.length < (fs ++ [zFS 0 0]).length := by simp
        have gz := own_frozen hrow'
        obtain ⟨g0, k0⟩ := own_cell hrow' fs.length hfl 0 (by decide)
        obtain ⟨g1, k1⟩ := own_cell hrow' fs.length hfl 1 (by decide)
        obtain ⟨g2, k2⟩ := own_cell hrow' fs.length hfl 2 (by decide)
        obtain ⟨g3, k3⟩ := own_cell hrow' fs.length hfl 3 (by decide)
        obtain ⟨g4, k4⟩ := own_cell hrow' fs.length hfl 4 (by decide)
        obtain ⟨g5, k5⟩ := own_cell hrow' fs.length hfl 5 (by decide)
        obtain ⟨g6, k6⟩ := own_cell hrow' fs.length hfl 6 (by decide)
        obtain ⟨g7, k7⟩ := own_cell hrow' fs.length hfl 7 (by decide)
        obtain ⟨g8, k8⟩ := own_cell hrow' fs.length hfl 8 (by decide)
        obtain ⟨g9, k9⟩ := own_cell hrow' fs.length hfl 9 (by decide)
        obtain ⟨g10, k10⟩ := own_cell hrow' fs.length hfl 10 (by decide)
        obtain ⟨g11, k11⟩ := own_cell hrow' fs.length hfl 11 (by decide)
        obtain ⟨g12, k12⟩ := own_cell hrow' fs.length hfl 12 (by decide)
        obtain ⟨g13, k13⟩ := own_cell hrow' fs.length hfl 13 (by decide)
        obtain ⟨g14, k14⟩ := own_cell hrow' fs.length hfl 14 (by decide)
        simp only [Nat.add_zero] at k0
        have hvl := own_len hrow'
        have hvl' : fs.length < vl := by omega
        clear hvl
        have a0 := HS'.sx.cell 0
        have a1 := HS'.sx.cell 1
        have a2 := HS'.sx.cell 2
        have a3 := HS'.sx.cell 3
        have a4 := HS'.sx.cell 4
        have a5 := HS'.sx.cell 5
        have a6 := HS'.sx.cell 6
        have a7 := HS'.sx.cell 7
        have a8 := HS'.sx.cell 8
        have a9 := HS'.sx.cell 9
        have a10 := HS'.sx.cell 10
        have a11 := HS'.sx.cell 11
        have a12 := HS'.sx.cell 12
        have a13 := HS'.sx.cell 13
        have a14 := HS'.sx.cell 14
        have r3 := HS'.rd.box.cell 3
        have p1 := HS'.pr.box.cell 1
        simp at a0 a1 a2 a3 a4 a5 a6 a7 a8 a9 a10 a11 a12 a13 a14 r3 p1
        have hne1 := HS'.svne gg rfl
        obtain ⟨m1, m2, m3⟩ := hne1
        have hgt : g ≠ gg := by obtain ⟨cur, hcur⟩ := own_blk hrow'; exact HS'.tk.ne hcur (by decide)
        clear HS' hrow' hl' hrep' hfl
        go_wp2
        go_region
        go_wp2
        go_ret
        rw [HYE.out]
        have hrp : FsRep B U w5 [.int .i64 10, .string q2.text, .int .i64 q2.pos, .int .i64 q2.sort, .string q4.text, .int .i64 q4.pos, .int .i64 q4.sort, .int .i64 0, nilS, .int .i64 0, nilS, nilS, .int .i64 (-1), .int .i64 (-1), .int .i64 inn] { zFS inn (-1) with kind := 10, p := q2, q := q4 } := ⟨nilS, nilS, nilS, rfl, World.ownsRow_nil _ _ _ _, World.ownsRow_nil _ _ _ _, World.ownsRow_nil _ _ _ _, fun k hk => by simp [Value.ownBlock] at hk⟩
        have F := HST.out.put (i := fs.length) (by simp) hrp
        have O := only_put15 w5 gg (fs.length * 15) [.int .i64 10, .string q2.text, .int .i64 q2.pos, .int .i64 q2.sort, .string q4.text, .int .i64 q4.pos, .int .i64 q4.sort, .int .i64 0, nilS, .int .i64 0, nilS, nilS, .int .i64 (-1), .int .i64 (-1), .int .i64 inn]
        have HS' := HS5.out
        have G1 := HS'.rd.only O (fun q => m1 q.symm)
        have G2 := HS'.tk.only O hgt
        have G3 := HS'.pr.box.only O (fun q => m2 q.symm)
        have G4 := HF5.out.put rfl O
        rw [put15_lit] at F G1 G2 G3 G4
        have D0 : ∀ W : World, Only (fun _ => False) W W.drew := fun W => (Only.refl _ W).drew
        refine ⟨.slice (some ⟨gg, 0, none⟩) vl vc, U, fun _ h => h, fun _ h => .inl h, rfl, ?_, ?_, ?_, ?_, ?_⟩
        · exact G1.only (D0 _) (fun q => q)
        · exact G2.only (D0 _) (fun q => q)
        · exact G3.only (D0 _) (fun q => q)
        · exact F.only (D0 _) (fun _ _ q => q) (fun _ _ _ _ q => q.elim)
        · exact G4.drew
  · simp at hw

end Go.Proofs.YtgbmakpdjdigmaaGreatDoor

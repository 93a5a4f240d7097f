/- CkK: told at each. -/
import Derived.Test.YtgbmakpdjdigmaaGreatDoorG15

/- The program's checker: function. -/
namespace Go.Proofs.YtgbmakpdjdigmaaGreatDoor
open Go.RowKit Go.Maps

/-- A function's variables, its parameters first; then its statements. -/
def funC (F : DataW Unit) (fns : List TF) (d idx : Nat) (t : TF) (c : CS) : CS :=
  let e1 := if 12 ≤ idx then repC 4 t.name.place c else c
  let e2 := if idxOf F t.name.text = idx then e1 else repC 5 t.name.place e1
  (ckB F fns d 1 (t.place, t.sts) (parsC t.params (.map [], e2))).2
/-- What the walk of function stands in ahead of its map. -/
structure FnF (b d : Nat) (U : Nat → Prop) (fs : Value) (fns : List TF) (stop : Int) (mf nf : Nat) (F : DataW Unit) (mv : Value) (fa : Array Value) (w : World) (c : CS) (W : World) : Prop where
  blk : CkBlk b fs stop (.map (some mf)) mv c W
  fmap : MapAt mf nf F W
  rows : PRow d U W fs fns
  box : Box w.heap.size fa 203 W
  only : Only (fun k => k = b) w W
theorem FnF.step {b d : Nat} {U : Nat → Prop} {fs : Value} {fns : List TF} {stop : Int} {mf nf : Nat} {F : DataW Unit} {mv : Value} {fa : Array Value} {w W W' : World} {c c' : CS} (h : FnF b d U fs fns stop mf nf F mv fa w c W) (ub : ¬ U b) (lb : b < w.heap.size) (hb : CkBlk b fs stop (.map (some mf)) mv c' W') (ho : Only (fun k => k = b) W W') : FnF b d U fs fns stop mf nf F mv fa w c' W' :=
  ⟨hb, h.fmap.only ho (h.fmap.ne h.blk), h.rows.only ho (fun _ hk q => ub (q ▸ hk)), Box.only h.box ho (by omega), h.only.trans ho⟩
theorem FnF.quiet {b d : Nat} {U : Nat → Prop} {fs : Value} {fns : List TF} {stop : Int} {mf nf : Nat} {F : DataW Unit} {mv : Value} {fa : Array Value} {w W W' : World} {c : CS} (h : FnF b d U fs fns stop mf nf F mv fa w c W) (ho : Only (fun _ => False) W W') : FnF b d U fs fns stop mf nf F mv fa w c W' :=
  ⟨Box.only h.blk ho (fun q => q), h.fmap.only ho (fun q => q), h.rows.only ho (fun _ _ q => q), Box.only h.box ho (fun q => q), h.only.trans (ho.mono (fun _ _ q => q.elim))⟩
theorem FnF.made {b d : Nat} {U : Nat → Prop} {fs : Value} {fns : List TF} {stop : Int} {mf nf : Nat} {F : DataW Unit} {mv : Value} {fa : Array Value} {w W : World} {c : CS} (h : FnF b d U fs fns stop mf nf F mv fa w c W) (ub : ¬ U b) (lb : b < w.heap.size) (hU : ∀ k, U k → k < w.heap.size) (fin : FnsIn F fns.length) (few : fns.length ≤ 4001) :
    Ck b d U fs fns stop mf nf W.heap.size 0 F (.map []) c ((W.alloc (.map #[] 0)).setCell ⟨b, 3, none⟩ (.map (some W.heap.size))) ∧ Box w.heap.size fa 203 ((W.alloc (.map #[] 0)).setCell ⟨b, 3, none⟩ (.map (some W.heap.size))) ∧ Only (fun k => k = b) w ((W.alloc (.map #[] 0)).setCell ⟨b, 3, none⟩ (.map (some W.heap.size))) := by
  have ho : Only (fun k => k = b) W ((W.alloc (.map #[] 0)).setCell ⟨b, 3, none⟩ (.map (some W.heap.size))) := ((Only.refl _ W).alloc _).set_at 3 _
  have hz := h.only.size
  have hf := World.ownsMap.lt h.fmap
  refine ⟨⟨?_, ?_, h.fmap.only ho (h.fmap.ne h.blk), h.rows.only ho (fun _ hk q => ub (q ▸ hk)), fin, few, by omega, ub, fun q => by have := hU _ q; omega⟩, Box.only h.box ho (by omega), h.only.trans ho⟩
  · have := Box.set (Box.alloc h.blk (.map #[] 0)) 3 (.map (some W.heap.size))
    simpa [CkBlk] using this
  · have := World.ownsMap_made (H := Unit) W Tryz.prog 9 (plainElem Tryz.prog 3)
    exact MapAt.only this ((Only.refl (fun k => k = b) _).set_at 3 _) (by omega)

set_option maxRecDepth 100000 in
set_option maxHeartbeats 4000000 in
theorem cfun_any (b d idx : Nat) (U : Nat → Prop) (fs : Value) (fns : List TF) (stop : Int) (mf nf : Nat) (F : DataW Unit) (c : CS) (mv : Value) (w : World) (hr : CkBlk b fs stop (.map (some mf)) mv c w) (hm : MapAt mf nf F w) (hp : PRow d U w fs fns) (fin : FnsIn F fns.length) (few : fns.length ≤ 4001) (ub : ¬ U b) (hU : ∀ k, U k → k < w.heap.size) (hlt : idx < fns.length)
    (hO : ∀ t, t ∈ fns[idx].sts → TOk d t) (hnm : fns[idx].name.text.size ≤ 4000) (hpr : ∀ t, t ∈ fns[idx].params → t.text.size ≤ 4000 ∧ t.place ≤ 4000) (hct : fns[idx].params.length + (fns[idx].sts.map (cntS d)).sum ≤ 4000) (hd : 1 + d ≤ 4001) (hl : fns[idx].sts.length ≤ 4000) :
    Calls Tryz.prog 120 #[.pointer (some ⟨b, 0, none⟩), .int .i64 idx] w fun e w' => e = .returned (.tuple #[]) ∧ (∃ m', CkBlk b fs stop (.map (some mf)) (.map (some m')) (funC F fns d idx fns[idx] c) w') ∧ Only (fun k => k = b) w w' := by
  have hfl := hp
  obtain ⟨css, p1, _⟩ := hfl
  obtain ⟨va, vl, vc, rfl⟩ := owns_form p1
  obtain ⟨g, rfl⟩ := own_some p1 (by omega)
  have hvl := own_len p1
  subst hvl
  have lg := (p1.lt g rfl).2
  obtain ⟨av, sv, hcell, hav, hau, htr⟩ := hp.get hlt
  obtain ⟨a1, l1, c1, rfl⟩ := owns_form hav
  have hal := own_len hav
  subst hal
  have htr' := htr
  obtain ⟨css2, p2, _⟩ := htr'
  obtain ⟨a2, l2, c2, rfl⟩ := owns_form p2
  have f0 := hcell 0 (by omega)
  have f1 := hcell 1 (by omega)
  have f2 := hcell 2 (by omega)
  have f3 := hcell 3 (by omega)
  have f4 := hcell 4 (by omega)
  simp only [fnC, List.getElem?_toArray, List.getElem?_cons_zero, List.getElem?_cons_succ, Nat.add_zero] at f0 f1 f2 f3 f4
  clear p1 p2 hcell
  have r0 := blk_cell hr 0
  have r2 := blk_cell hr 2
  simp only [List.getElem?_toArray, List.getElem?_cons_zero, List.getElem?_cons_succ] at r0 r2
  have lb := blk_lt hr
  have hmm := @run_makeMap Tryz.prog
  generalize fns[idx] = t at *
  have q0 := (Only.refl (fun _ => False) w).alloc (.cells #[.string t.name.text, .int .i64 t.name.place, .slice a1 t.params.length c1, .int .i64 t.place, .slice a2 l2 c2] 203)
  have F0 := hide1 (show FnF b d U _ fns stop mf nf F mv #[.string t.name.text, .int .i64 t.name.place, .slice a1 t.params.length c1, .int .i64 t.place, .slice a2 l2 c2] w c (w.alloc (.cells #[.string t.name.text, .int .i64 t.name.place, .slice a1 t.params.length c1, .int .i64 t.place, .slice a2 l2 c2] 203)) from ⟨Box.only hr q0 (fun q => q), hm.only q0 (fun q => q), hp.only q0 (fun _ _ q => q), Box.new w _ _, q0.mono (fun _ _ q => q.elim)⟩)
  have HA := hide1 hav
  have HT := hide1 htr
  have HO := hide1 hO
  have HAU := hide1 hau
  clear hr hm hp hav htr hO hau q0
  by_cases h12 : 12 ≤ idx
  · have h12' : (12 : Int) ≤ (idx : Int) := by omega
    obtain ⟨e1, he1⟩ : ∃ e1, repC 4 t.name.place c = e1 := ⟨_, rfl⟩
    have E1 := hide1 (show (if 12 ≤ idx then repC 4 t.name.place c else c) = e1 by rw [if_pos h12]; exact he1)
    have E0 := hide1 he1
    clear he1 h12
    go_enter Tryz.func120, Tryz.ntmps120
    go_wp2_with (go_at_call 122; refine (report_any b 4 t.name.place _ stop (.map (some mf)) mv c _ F0.out.blk).mono ?_)
    rw [E0.out]
    rintro e W ⟨rfl, kw, ow⟩
    have FW := hide1 (F0.out.step ub lb kw ow)
    clear kw ow F0 r0 r2 f0 f1 f2 f3 f4
    go_wp2
    have i0 := blk_cell FW.out.box 0
    have i1 := blk_cell FW.out.box 1
    have i2 := blk_cell FW.out.box 2
    have i3 := blk_cell FW.out.box 3
    have i4 := blk_cell FW.out.box 4
    simp only [List.getElem?_toArray, List.getElem?_cons_zero, List.getElem?_cons_succ] at i0 i1 i2 i3 i4
    have w2c := blk_cell FW.out.blk 2
    simp only [List.getElem?_toArray, List.getElem?_cons_zero, List.getElem?_cons_succ] at w2c
    have lw := FW.out.only.size
    have hlook := look0_any (w := W.drew) (FW.out.fmap.only ((Only.refl (fun _ => False) W).drew) (fun q => q)) fin hnm
    by_cases hx : idxOf F t.name.text = idx
    · have hx' : (((idxOf F t.name.text : Nat) : Int) != (idx : Int)) = false := by simp [hx]
      obtain ⟨e2, he2⟩ : ∃ e2, e1 = e2 := ⟨_, rfl⟩
      obtain ⟨R, hR⟩ : ∃ R, parsC t.params (.map [], e2) = R := ⟨_, rfl⟩
      have HR : Hid ((t.params.drop 0).foldl (fun x t => (declD x.1 t, declC x.1 t x.2)) (.map [], e2) = R) := hR
      have hfc : funC F fns d idx t c = (ckB F fns d 1 (t.place, t.sts) R).2 := by unfold funC; dsimp only; rw [E1.out, if_pos hx, he2, hR]
      have HFC := hide1 hfc
      subst he2
      clear hfc hR hx
      go_region
      have FB := hide1 (FW.out.quiet ((Only.refl (fun _ => False) W).drew))
      generalize W.drew = V at *
      clear hlook FW i0 i1 i2 i3 i4 w2c lw
      have b3 := blk_cell FB.out.blk 3
      have bf := fun i => blk_frozen FB.out.blk i
      have lv := FB.out.only.size
      have lvb := blk_lt FB.out.box
      have j0 := blk_cell FB.out.box 0
      have j1 := blk_cell FB.out.box 1
      have j2 := blk_cell FB.out.box 2
      have j3 := blk_cell FB.out.box 3
      have j4 := blk_cell FB.out.box 4
      simp only [List.getElem?_toArray, List.getElem?_cons_zero, List.getElem?_cons_succ] at j0 j1 j2 j3 j4
      simp only [List.getElem?_toArray, List.getElem?_cons_zero, List.getElem?_cons_succ] at b3
      have hmd := FB.out.made ub lb hU fin few
      have KX := hide1 hmd.1
      have BX := hide1 hmd.2.1
      have OX := hide1 hmd.2.2
      clear hmd
      have xq : ∀ i, (V.alloc (.map #[] 0)).cell? ⟨b, i, none⟩ = V.cell? ⟨b, i, none⟩ := fun i => World.cell?_of_block (w := V) (((Only.refl (fun _ => False) V).alloc (.map #[] 0)).block b (by omega) (fun q => q))
      have x3 := xq 3
      rw [b3] at x3
      have xf := fun i => blk_frozen (Box.alloc FB.out.blk (.map #[] 0)) i
      have z2 := blk_cell BX.out 2
      simp only [List.getElem?_toArray, List.getElem?_cons_zero, List.getElem?_cons_succ] at z2
      clear xq
      go_wp2
      generalize (V.alloc (.map #[] 0)).setCell ⟨b, 3, none⟩ (.map (some V.heap.size)) = X at *
      go_loopw [44] (fun i wr => ∃ (k : Nat) (D1 : DataW Unit) (e1 : CS), k ≤ t.params.length ∧ i = .int .i64 k ∧ Hid (Ck b d U (.slice (some ⟨g, 0, none⟩) fns.length vc) fns stop mf nf V.heap.size k F D1 e1 wr) ∧ Hid (Only (fun k => k = b ∨ k = V.heap.size) w wr) ∧ Hid (Box w.heap.size #[.string t.name.text, .int .i64 t.name.place, .slice a1 t.params.length c1, .int .i64 t.place, .slice a2 l2 c2] 203 wr) ∧ Hid ((t.params.drop k).foldl (fun x t => (declD x.1 t, declC x.1 t x.2)) (D1, e1) = R)) (fun i _ => t.params.length - (intOf i).toNat)
      case atStart => exact ⟨0, .map [], e1, by omega, rfl, KX, hide1 (OX.out.mono (fun _ _ q => .inl q)), BX, HR⟩
      case round =>
        obtain ⟨k, D1, e1, hkl, rfl, k1, o1, x1, hv1⟩ := hrel
        clear KX OX BX HR
        have hav : ∀ j, U j → ¬ (j = b ∨ j = V.heap.size) := fun j hj q => q.elim (fun e => ub (e ▸ hj)) (fun e => by have := hU j hj; omega)
        have l0 := o1.out.size
        by_cases hk : k < t.params.length
        · have hA1 := ownsRow_only HA.out o1.out (fun j hj => hav j (HAU.out j hj))
          obtain ⟨ga, rfl⟩ := own_some hA1 (by omega)
          have lga := (hA1.lt ga rfl).2
          have ha := nmsCells_at hk
          have n0 := hA1.cellAt (k * 2) (by omega)
          have n1 := hA1.cellAt (k * 2 + 1) (by omega)
          rw [ha.1] at n0
          rw [ha.2] at n1
          have hst := hide1 (foldS_step (fun x t => (declD x.1 t, declC x.1 t x.2)) t.params k hk (D1, e1))
          have hok := hpr t.params[k] (List.getElem_mem _)
          clear ha hA1
          generalize t.params[k] = u at *
          have AL := hide1 ((Only.refl (fun _ => False) wr).alloc (.cells #[.string u.text, .int .i64 u.place] 197))
          go_wp2_with (go_at_call 175; refine (declare_any b _ stop (.map (some mf)) V.heap.size k D1 e1 u _ (k1.out.quiet AL.out).blk (k1.out.quiet AL.out).vars hok.1 hok.2 (by omega)).mono ?_; rintro e w2 ⟨rfl, hb2, hv2, o2⟩)
          go_round
          case rel => exact ⟨k + 1, _, _, by omega, by go_num, hide1 ((k1.out.quiet AL.out).stepV hb2 hv2 o2), hide1 (o1.out.trans ((AL.out.mono (fun _ _ q => q.elim)).trans o2)), hide1 (Box.only (Box.only x1.out AL.out (fun q => q)) o2 (by omega)), hide1 (hst.out.symm.trans hv1.out)⟩
          case measure => simp [intOf]; omega
        · have e : k = t.params.length := by omega
          subst e
          have hv2 : (D1, e1) = R := by have := hv1.out; simpa using this
          subst hv2
          have y3 := blk_cell x1.out 3
          have y4 := blk_cell x1.out 4
          simp only [List.getElem?_toArray, List.getElem?_cons_zero, List.getElem?_cons_succ] at y3 y4
          go_wp2_with (go_at_call 176; refine (cblock_any d (cstmt_all d) b d 1 t.place U _ fns stop mf nf V.heap.size t.params.length F D1 e1 t.sts (.slice a2 l2 c2) _ k1.out (TRow.only HT.out o1.out hav) HO.out hct hd hl).mono ?_)
          rintro e w2 ⟨rfl, ⟨n2, _, k2⟩, o2⟩
          go_wp2
          go_end0
          exact ⟨rfl, ⟨V.heap.size, by rw [HFC.out]; exact k2.blk⟩, (o1.out.trans o2).mono (fun _ _ q => q.elim (fun e => e) (fun e => by omega))⟩
    · have hx' : (((idxOf F t.name.text : Nat) : Int) != (idx : Int)) = true := by simp; omega
      obtain ⟨e2, he2⟩ : ∃ e2, repC 5 t.name.place e1 = e2 := ⟨_, rfl⟩
      obtain ⟨R, hR⟩ : ∃ R, parsC t.params (.map [], e2) = R := ⟨_, rfl⟩
      have HR : Hid ((t.params.drop 0).foldl (fun x t => (declD x.1 t, declC x.1 t x.2)) (.map [], e2) = R) := hR
      have hfc : funC F fns d idx t c = (ckB F fns d 1 (t.place, t.sts) R).2 := by unfold funC; dsimp only; rw [E1.out, if_neg hx, he2, hR]
      have HFC := hide1 hfc
      have E2 := hide1 he2
      clear hfc hR hx he2
      go_region
      go_wp2_with (go_at_call 122; refine (report_any b 5 t.name.place _ stop (.map (some mf)) mv e1 _ (FW.out.quiet ((Only.refl (fun _ => False) W).drew)).blk).mono ?_)
      rw [E2.out]
      rintro e V ⟨rfl, kv, ov⟩
      have FB := hide1 ((FW.out.quiet ((Only.refl (fun _ => False) W).drew)).step ub lb kv ov)
      clear kv ov hlook FW i0 i1 i2 i3 i4 w2c lw
      have b3 := blk_cell FB.out.blk 3
      have bf := fun i => blk_frozen FB.out.blk i
      have lv := FB.out.only.size
      have lvb := blk_lt FB.out.box
      have j0 := blk_cell FB.out.box 0
      have j1 := blk_cell FB.out.box 1
      have j2 := blk_cell FB.out.box 2
      have j3 := blk_cell FB.out.box 3
      have j4 := blk_cell FB.out.box 4
      simp only [List.getElem?_toArray, List.getElem?_cons_zero, List.getElem?_cons_succ] at j0 j1 j2 j3 j4
      simp only [List.getElem?_toArray, List.getElem?_cons_zero, List.getElem?_cons_succ] at b3
      have hmd := FB.out.made ub lb hU fin few
      have KX := hide1 hmd.1
      have BX := hide1 hmd.2.1
      have OX := hide1 hmd.2.2
      clear hmd
      have xq : ∀ i, (V.alloc (.map #[] 0)).cell? ⟨b, i, none⟩ = V.cell? ⟨b, i, none⟩ := fun i => World.cell?_of_block (w := V) (((Only.refl (fun _ => False) V).alloc (.map #[] 0)).block b (by omega) (fun q => q))
      have x3 := xq 3
      rw [b3] at x3
      have xf := fun i => blk_frozen (Box.alloc FB.out.blk (.map #[] 0)) i
      have z2 := blk_cell BX.out 2
      simp only [List.getElem?_toArray, List.getElem?_cons_zero, List.getElem?_cons_succ] at z2
      clear xq
      go_wp2
      generalize (V.alloc (.map #[] 0)).setCell ⟨b, 3, none⟩ (.map (some V.heap.size)) = X at *
      go_loopw [44] (fun i wr => ∃ (k : Nat) (D1 : DataW Unit) (e1 : CS), k ≤ t.params.length ∧ i = .int .i64 k ∧ Hid (Ck b d U (.slice (some ⟨g, 0, none⟩) fns.length vc) fns stop mf nf V.heap.size k F D1 e1 wr) ∧ Hid (Only (fun k => k = b ∨ k = V.heap.size) w wr) ∧ Hid (Box w.heap.size #[.string t.name.text, .int .i64 t.name.place, .slice a1 t.params.length c1, .int .i64 t.place, .slice a2 l2 c2] 203 wr) ∧ Hid ((t.params.drop k).foldl (fun x t => (declD x.1 t, declC x.1 t x.2)) (D1, e1) = R)) (fun i _ => t.params.length - (intOf i).toNat)
      case atStart => exact ⟨0, .map [], e2, by omega, rfl, KX, hide1 (OX.out.mono (fun _ _ q => .inl q)), BX, HR⟩
      case round =>
        obtain ⟨k, D1, e1, hkl, rfl, k1, o1, x1, hv1⟩ := hrel
        clear KX OX BX HR
        have hav : ∀ j, U j → ¬ (j = b ∨ j = V.heap.size) := fun j hj q => q.elim (fun e => ub (e ▸ hj)) (fun e => by have := hU j hj; omega)
        have l0 := o1.out.size
        by_cases hk : k < t.params.length
        · have hA1 := ownsRow_only HA.out o1.out (fun j hj => hav j (HAU.out j hj))
          obtain ⟨ga, rfl⟩ := own_some hA1 (by omega)
          have lga := (hA1.lt ga rfl).2
          have ha := nmsCells_at hk
          have n0 := hA1.cellAt (k * 2) (by omega)
          have n1 := hA1.cellAt (k * 2 + 1) (by omega)
          rw [ha.1] at n0
          rw [ha.2] at n1
          have hst := hide1 (foldS_step (fun x t => (declD x.1 t, declC x.1 t x.2)) t.params k hk (D1, e1))
          have hok := hpr t.params[k] (List.getElem_mem _)
          clear ha hA1
          generalize t.params[k] = u at *
          have AL := hide1 ((Only.refl (fun _ => False) wr).alloc (.cells #[.string u.text, .int .i64 u.place] 197))
          go_wp2_with (go_at_call 175; refine (declare_any b _ stop (.map (some mf)) V.heap.size k D1 e1 u _ (k1.out.quiet AL.out).blk (k1.out.quiet AL.out).vars hok.1 hok.2 (by omega)).mono ?_; rintro e w2 ⟨rfl, hb2, hv2, o2⟩)
          go_round
          case rel => exact ⟨k + 1, _, _, by omega, by go_num, hide1 ((k1.out.quiet AL.out).stepV hb2 hv2 o2), hide1 (o1.out.trans ((AL.out.mono (fun _ _ q => q.elim)).trans o2)), hide1 (Box.only (Box.only x1.out AL.out (fun q => q)) o2 (by omega)), hide1 (hst.out.symm.trans hv1.out)⟩
          case measure => simp [intOf]; omega
        · have e : k = t.params.length := by omega
          subst e
          have hv2 : (D1, e1) = R := by have := hv1.out; simpa using this
          subst hv2
          have y3 := blk_cell x1.out 3
          have y4 := blk_cell x1.out 4
          simp only [List.getElem?_toArray, List.getElem?_cons_zero, List.getElem?_cons_succ] at y3 y4
          go_wp2_with (go_at_call 176; refine (cblock_any d (cstmt_all d) b d 1 t.place U _ fns stop mf nf V.heap.size t.params.length F D1 e1 t.sts (.slice a2 l2 c2) _ k1.out (TRow.only HT.out o1.out hav) HO.out hct hd hl).mono ?_)
          rintro e w2 ⟨rfl, ⟨n2, _, k2⟩, o2⟩
          go_wp2
          go_end0
          exact ⟨rfl, ⟨V.heap.size, by rw [HFC.out]; exact k2.blk⟩, (o1.out.trans o2).mono (fun _ _ q => q.elim (fun e => e) (fun e => by omega))⟩
  · have h12' : ¬ (12 : Int) ≤ (idx : Int) := by omega
    obtain ⟨e1, he1⟩ : ∃ e1, c = e1 := ⟨_, rfl⟩
    have E1 := hide1 (show (if 12 ≤ idx then repC 4 t.name.place c else c) = e1 by rw [if_neg h12]; exact he1)
    subst he1
    clear h12
    go_enter Tryz.func120, Tryz.ntmps120
    go_wp2
    have FW := F0
    clear F0 r0 r2 f0 f1 f2 f3 f4
    generalize w.alloc (.cells #[.string t.name.text, .int .i64 t.name.place, .slice a1 t.params.length c1, .int .i64 t.place, .slice a2 l2 c2] 203) = W at *
    have i0 := blk_cell FW.out.box 0
    have i1 := blk_cell FW.out.box 1
    have i2 := blk_cell FW.out.box 2
    have i3 := blk_cell FW.out.box 3
    have i4 := blk_cell FW.out.box 4
    simp only [List.getElem?_toArray, List.getElem?_cons_zero, List.getElem?_cons_succ] at i0 i1 i2 i3 i4
    have w2c := blk_cell FW.out.blk 2
    simp only [List.getElem?_toArray, List.getElem?_cons_zero, List.getElem?_cons_succ] at w2c
    have lw := FW.out.only.size
    have hlook := look0_any (w := W.drew) (FW.out.fmap.only ((Only.refl (fun _ => False) W).drew) (fun q => q)) fin hnm
    by_cases hx : idxOf F t.name.text = idx
    · have hx' : (((idxOf F t.name.text : Nat) : Int) != (idx : Int)) = false := by simp [hx]
      obtain ⟨e2, he2⟩ : ∃ e2, c = e2 := ⟨_, rfl⟩
      obtain ⟨R, hR⟩ : ∃ R, parsC t.params (.map [], e2) = R := ⟨_, rfl⟩
      have HR : Hid ((t.params.drop 0).foldl (fun x t => (declD x.1 t, declC x.1 t x.2)) (.map [], e2) = R) := hR
      have hfc : funC F fns d idx t c = (ckB F fns d 1 (t.place, t.sts) R).2 := by unfold funC; dsimp only; rw [E1.out, if_pos hx, he2, hR]
      have HFC := hide1 hfc
      subst he2
      clear hfc hR hx
      go_region
      have FB := hide1 (FW.out.quiet ((Only.refl (fun _ => False) W).drew))
      generalize W.drew = V at *
      clear hlook FW i0 i1 i2 i3 i4 w2c lw
      have b3 := blk_cell FB.out.blk 3
      have bf := fun i => blk_frozen FB.out.blk i
      have lv := FB.out.only.size
      have lvb := blk_lt FB.out.box
      have j0 := blk_cell FB.out.box 0
      have j1 := blk_cell FB.out.box 1
      have j2 := blk_cell FB.out.box 2
      have j3 := blk_cell FB.out.box 3
      have j4 := blk_cell FB.out.box 4
      simp only [List.getElem?_toArray, List.getElem?_cons_zero, List.getElem?_cons_succ] at j0 j1 j2 j3 j4
      simp only [List.getElem?_toArray, List.getElem?_cons_zero, List.getElem?_cons_succ] at b3
      have hmd := FB.out.made ub lb hU fin few
      have KX := hide1 hmd.1
      have BX := hide1 hmd.2.1
      have OX := hide1 hmd.2.2
      clear hmd
      have xq : ∀ i, (V.alloc (.map #[] 0)).cell? ⟨b, i, none⟩ = V.cell? ⟨b, i, none⟩ := fun i => World.cell?_of_block (w := V) (((Only.refl (fun _ => False) V).alloc (.map #[] 0)).block b (by omega) (fun q => q))
      have x3 := xq 3
      rw [b3] at x3
      have xf := fun i => blk_frozen (Box.alloc FB.out.blk (.map #[] 0)) i
      have z2 := blk_cell BX.out 2
      simp only [List.getElem?_toArray, List.getElem?_cons_zero, List.getElem?_cons_succ] at z2
      clear xq
      go_wp2
      generalize (V.alloc (.map #[] 0)).setCell ⟨b, 3, none⟩ (.map (some V.heap.size)) = X at *
      go_loopw [44] (fun i wr => ∃ (k : Nat) (D1 : DataW Unit) (e1 : CS), k ≤ t.params.length ∧ i = .int .i64 k ∧ Hid (Ck b d U (.slice (some ⟨g, 0, none⟩) fns.length vc) fns stop mf nf V.heap.size k F D1 e1 wr) ∧ Hid (Only (fun k => k = b ∨ k = V.heap.size) w wr) ∧ Hid (Box w.heap.size #[.string t.name.text, .int .i64 t.name.place, .slice a1 t.params.length c1, .int .i64 t.place, .slice a2 l2 c2] 203 wr) ∧ Hid ((t.params.drop k).foldl (fun x t => (declD x.1 t, declC x.1 t x.2)) (D1, e1) = R)) (fun i _ => t.params.length - (intOf i).toNat)
      case atStart => exact ⟨0, .map [], c, by omega, rfl, KX, hide1 (OX.out.mono (fun _ _ q => .inl q)), BX, HR⟩
      case round =>
        obtain ⟨k, D1, e1, hkl, rfl, k1, o1, x1, hv1⟩ := hrel
        clear KX OX BX HR
        have hav : ∀ j, U j → ¬ (j = b ∨ j = V.heap.size) := fun j hj q => q.elim (fun e => ub (e ▸ hj)) (fun e => by have := hU j hj; omega)
        have l0 := o1.out.size
        by_cases hk : k < t.params.length
        · have hA1 := ownsRow_only HA.out o1.out (fun j hj => hav j (HAU.out j hj))
          obtain ⟨ga, rfl⟩ := own_some hA1 (by omega)
          have lga := (hA1.lt ga rfl).2
          have ha := nmsCells_at hk
          have n0 := hA1.cellAt (k * 2) (by omega)
          have n1 := hA1.cellAt (k * 2 + 1) (by omega)
          rw [ha.1] at n0
          rw [ha.2] at n1
          have hst := hide1 (foldS_step (fun x t => (declD x.1 t, declC x.1 t x.2)) t.params k hk (D1, e1))
          have hok := hpr t.params[k] (List.getElem_mem _)
          clear ha hA1
          generalize t.params[k] = u at *
          have AL := hide1 ((Only.refl (fun _ => False) wr).alloc (.cells #[.string u.text, .int .i64 u.place] 197))
          go_wp2_with (go_at_call 175; refine (declare_any b _ stop (.map (some mf)) V.heap.size k D1 e1 u _ (k1.out.quiet AL.out).blk (k1.out.quiet AL.out).vars hok.1 hok.2 (by omega)).mono ?_; rintro e w2 ⟨rfl, hb2, hv2, o2⟩)
          go_round
          case rel => exact ⟨k + 1, _, _, by omega, by go_num, hide1 ((k1.out.quiet AL.out).stepV hb2 hv2 o2), hide1 (o1.out.trans ((AL.out.mono (fun _ _ q => q.elim)).trans o2)), hide1 (Box.only (Box.only x1.out AL.out (fun q => q)) o2 (by omega)), hide1 (hst.out.symm.trans hv1.out)⟩
          case measure => simp [intOf]; omega
        · have e : k = t.params.length := by omega
          subst e
          have hv2 : (D1, e1) = R := by have := hv1.out; simpa using this
          subst hv2
          have y3 := blk_cell x1.out 3
          have y4 := blk_cell x1.out 4
          simp only [List.getElem?_toArray, List.getElem?_cons_zero, List.getElem?_cons_succ] at y3 y4
          go_wp2_with (go_at_call 176; refine (cblock_any d (cstmt_all d) b d 1 t.place U _ fns stop mf nf V.heap.size t.params.length F D1 e1 t.sts (.slice a2 l2 c2) _ k1.out (TRow.only HT.out o1.out hav) HO.out hct hd hl).mono ?_)
          rintro e w2 ⟨rfl, ⟨n2, _, k2⟩, o2⟩
          go_wp2
          go_end0
          exact ⟨rfl, ⟨V.heap.size, by rw [HFC.out]; exact k2.blk⟩, (o1.out.trans o2).mono (fun _ _ q => q.elim (fun e => e) (fun e => by omega))⟩
    · have hx' : (((idxOf F t.name.text : Nat) : Int) != (idx : Int)) = true := by simp; omega
      obtain ⟨e2, he2⟩ : ∃ e2, repC 5 t.name.place c = e2 := ⟨_, rfl⟩
      obtain ⟨R, hR⟩ : ∃ R, parsC t.params (.map [], e2) = R := ⟨_, rfl⟩
      have HR : Hid ((t.params.drop 0).foldl (fun x t => (declD x.1 t, declC x.1 t x.2)) (.map [], e2) = R) := hR
      have hfc : funC F fns d idx t c = (ckB F fns d 1 (t.place, t.sts) R).2 := by unfold funC; dsimp only; rw [E1.out, if_neg hx, he2, hR]
      have HFC := hide1 hfc
      have E2 := hide1 he2
      clear hfc hR hx he2
      go_region
      go_wp2_with (go_at_call 122; refine (report_any b 5 t.name.place _ stop (.map (some mf)) mv c _ (FW.out.quiet ((Only.refl (fun _ => False) W).drew)).blk).mono ?_)
      rw [E2.out]
      rintro e V ⟨rfl, kv, ov⟩
      have FB := hide1 ((FW.out.quiet ((Only.refl (fun _ => False) W).drew)).step ub lb kv ov)
      clear kv ov hlook FW i0 i1 i2 i3 i4 w2c lw
      have b3 := blk_cell FB.out.blk 3
      have bf := fun i => blk_frozen FB.out.blk i
      have lv := FB.out.only.size
      have lvb := blk_lt FB.out.box
      have j0 := blk_cell FB.out.box 0
      have j1 := blk_cell FB.out.box 1
      have j2 := blk_cell FB.out.box 2
      have j3 := blk_cell FB.out.box 3
      have j4 := blk_cell FB.out.box 4
      simp only [List.getElem?_toArray, List.getElem?_cons_zero, List.getElem?_cons_succ] at j0 j1 j2 j3 j4
      simp only [List.getElem?_toArray, List.getElem?_cons_zero, List.getElem?_cons_succ] at b3
      have hmd := FB.out.made ub lb hU fin few
      have KX := hide1 hmd.1
      have BX := hide1 hmd.2.1
      have OX := hide1 hmd.2.2
      clear hmd
      have xq : ∀ i, (V.alloc (.map #[] 0)).cell? ⟨b, i, none⟩ = V.cell? ⟨b, i, none⟩ := fun i => World.cell?_of_block (w := V) (((Only.refl (fun _ => False) V).alloc (.map #[] 0)).block b (by omega) (fun q => q))
      have x3 := xq 3
      rw [b3] at x3
      have xf := fun i => blk_frozen (Box.alloc FB.out.blk (.map #[] 0)) i
      have z2 := blk_cell BX.out 2
      simp only [List.getElem?_toArray, List.getElem?_cons_zero, List.getElem?_cons_succ] at z2
      clear xq
      go_wp2
      generalize (V.alloc (.map #[] 0)).setCell ⟨b, 3, none⟩ (.map (some V.heap.size)) = X at *
      go_loopw [44] (fun i wr => ∃ (k : Nat) (D1 : DataW Unit) (e1 : CS), k ≤ t.params.length ∧ i = .int .i64 k ∧ Hid (Ck b d U (.slice (some ⟨g, 0, none⟩) fns.length vc) fns stop mf nf V.heap.size k F D1 e1 wr) ∧ Hid (Only (fun k => k = b ∨ k = V.heap.size) w wr) ∧ Hid (Box w.heap.size #[.string t.name.text, .int .i64 t.name.place, .slice a1 t.params.length c1, .int .i64 t.place, .slice a2 l2 c2] 203 wr) ∧ Hid ((t.params.drop k).foldl (fun x t => (declD x.1 t, declC x.1 t x.2)) (D1, e1) = R)) (fun i _ => t.params.length - (intOf i).toNat)
      case atStart => exact ⟨0, .map [], e2, by omega, rfl, KX, hide1 (OX.out.mono (fun _ _ q => .inl q)), BX, HR⟩
      case round =>
        obtain ⟨k, D1, e1, hkl, rfl, k1, o1, x1, hv1⟩ := hrel
        clear KX OX BX HR
        have hav : ∀ j, U j → ¬ (j = b ∨ j = V.heap.size) := fun j hj q => q.elim (fun e => ub (e ▸ hj)) (fun e => by have := hU j hj; omega)
        have l0 := o1.out.size
        by_cases hk : k < t.params.length
        · have hA1 := ownsRow_only HA.out o1.out (fun j hj => hav j (HAU.out j hj))
          obtain ⟨ga, rfl⟩ := own_some hA1 (by omega)
          have lga := (hA1.lt ga rfl).2
          have ha := nmsCells_at hk
          have n0 := hA1.cellAt (k * 2) (by omega)
          have n1 := hA1.cellAt (k * 2 + 1) (by omega)
          rw [ha.1] at n0
          rw [ha.2] at n1
          have hst := hide1 (foldS_step (fun x t => (declD x.1 t, declC x.1 t x.2)) t.params k hk (D1, e1))
          have hok := hpr t.params[k] (List.getElem_mem _)
          clear ha hA1
          generalize t.params[k] = u at *
          have AL := hide1 ((Only.refl (fun _ => False) wr).alloc (.cells #[.string u.text, .int .i64 u.place] 197))
          go_wp2_with (go_at_call 175; refine (declare_any b _ stop (.map (some mf)) V.heap.size k D1 e1 u _ (k1.out.quiet AL.out).blk (k1.out.quiet AL.out).vars hok.1 hok.2 (by omega)).mono ?_; rintro e w2 ⟨rfl, hb2, hv2, o2⟩)
          go_round
          case rel => exact ⟨k + 1, _, _, by omega, by go_num, hide1 ((k1.out.quiet AL.out).stepV hb2 hv2 o2), hide1 (o1.out.trans ((AL.out.mono (fun _ _ q => q.elim)).trans o2)), hide1 (Box.only (Box.only x1.out AL.out (fun q => q)) o2 (by omega)), hide1 (hst.out.symm.trans hv1.out)⟩
          case measure => simp [intOf]; omega
        · have e : k = t.params.length := by omega
          subst e
          have hv2 : (D1, e1) = R := by have := hv1.out; simpa using this
          subst hv2
          have y3 := blk_cell x1.out 3
          have y4 := blk_cell x1.out 4
          simp only [List.getElem?_toArray, List.getElem?_cons_zero, List.getElem?_cons_succ] at y3 y4
          go_wp2_with (go_at_call 176; refine (cblock_any d (cstmt_all d) b d 1 t.place U _ fns stop mf nf V.heap.size t.params.length F D1 e1 t.sts (.slice a2 l2 c2) _ k1.out (TRow.only HT.out o1.out hav) HO.out hct hd hl).mono ?_)
          rintro e w2 ⟨rfl, ⟨n2, _, k2⟩, o2⟩
          go_wp2
          go_end0
          exact ⟨rfl, ⟨V.heap.size, by rw [HFC.out]; exact k2.blk⟩, (o1.out.trans o2).mono (fun _ _ q => q.elim (fun e => e) (fun e => by omega))⟩

end Go.Proofs.YtgbmakpdjdigmaaGreatDoor

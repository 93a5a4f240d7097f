/- CkL: told at each. -/
import Derived.Test.YtgbmakpdjdigmaaGreatDoorG16
import Derived.Maps.Views

/- The program's checker: Program: the first fault of a parsed program, and its place. -/
namespace Go.Proofs.YtgbmakpdjdigmaaGreatDoor
open Go.RowKit Go.Maps

theorem keyS_key (s : ByteArray) : WideAt.IsKeyLit (keyS s) := by unfold keyS WideAt.IsKeyLit; trivial
theorem keyS_inj {a b : ByteArray} (h : keyS a = keyS b) : a = b := by
  unfold keyS at h
  simp only [Lit.string.injEq] at h
  exact ByteArray.ext (Array.toList_inj.1 h)
theorem firstR_map : ∀ (l : List TF) (k : Nat) (D : DataW Unit), IsMap D → IsMap (firstR l k D)
  | [], _, _, h => h
  | t :: l, k, D, h => by
    rw [firstR]
    refine firstR_map l (k + 1) _ ?_
    split
    · exact h
    · exact h.put _ _
theorem firstR_in (N : Nat) : ∀ (l : List TF) (k : Nat) (D : DataW Unit), IsMap D → k + l.length ≤ N → (∀ s, has D (keyS s) = true → ∃ j : Nat, j < N ∧ D.atKey (keyS s) (.lit (.int .i64 0)) = .lit (.int .i64 j)) → ∀ s, has (firstR l k D) (keyS s) = true → ∃ j : Nat, j < N ∧ (firstR l k D).atKey (keyS s) (.lit (.int .i64 0)) = .lit (.int .i64 j)
  | [], _, _, _, _, h => h
  | t :: l, k, D, hm, hk, h => by
    rw [firstR]
    simp only [List.length_cons] at hk
    by_cases hh : has D (keyS t.name.text) = true
    · rw [if_pos hh]
      exact firstR_in N l (k + 1) D hm (by omega) h
    · rw [if_neg hh]
      refine firstR_in N l (k + 1) _ (hm.put _ _) (by omega) (fun s hs => ?_)
      by_cases he : keyS s = keyS t.name.text
      · exact ⟨k, by omega, by rw [he]; exact atKey_put_same hm (keyS_key _) _ _⟩
      · rw [has_put_other he] at hs
        rw [atKey_put_other he]
        exact h s hs
theorem first_in (fns : List TF) : FnsIn (firstR fns 0 (.map [])) fns.length := fun s hs => firstR_in fns.length fns 0 _ isMap_empty (by omega) (fun s hs => by simp [has_eq] at hs) s hs
/-- All functions, one behind the other. -/
def allC (F : DataW Unit) (fns : List TF) (d : Nat) : List TF → Nat → CS → CS
  | [], _, c => c
  | t :: l, i, c => allC F fns d l (i + 1) (funC F fns d i t c)
theorem allC_step (F : DataW Unit) (fns : List TF) (d : Nat) (l : List TF) (i : Nat) (h : i < l.length) (c : CS) : allC F fns d (l.drop i) i c = allC F fns d (l.drop (i + 1)) (i + 1) (funC F fns d i l[i] c) := by
  rw [List.drop_eq_getElem_cons h]; rfl
def chkC (fns : List TF) (d stop : Nat) : CS :=
  if (has (firstR fns 0 (.map [])) (keyS ⟨#[109, 97, 105, 110]⟩) && parN fns (idxOf (firstR fns 0 (.map [])) ⟨#[109, 97, 105, 110]⟩) == 0) = true then allC (firstR fns 0 (.map [])) fns d fns 0 ⟨0, 0⟩
  else repC 6 stop (allC (firstR fns 0 (.map [])) fns d fns 0 ⟨0, 0⟩)
/-- What a parsed program keeps to. -/
structure THyp (d : Nat) (fns : List TF) : Prop where
  few : fns.length ≤ 4000
  dd : 1 + d ≤ 4001
  each : ∀ t, t ∈ fns → t.name.text.size ≤ 4000 ∧ (∀ s, s ∈ t.sts → TOk d s) ∧ (∀ p, p ∈ t.params → p.text.size ≤ 4000 ∧ p.place ≤ 4000) ∧ t.params.length + (t.sts.map (cntS d)).sum ≤ 4000 ∧ t.sts.length ≤ 4000
abbrev ck0 : Array Value := #[.slice none 0 0, .int .i64 0, .map none, .map none, .int .i64 0, .int .i64 0]

set_option maxRecDepth 100000 in
set_option maxHeartbeats 4000000 in
theorem check_any (d : Nat) (U : Nat → Prop) (fs : Value) (fns : List TF) (stop : Nat) (w : World) (hp : PRow d U w fs fns) (hU : ∀ k, U k → k < w.heap.size) (hy : THyp d fns) :
    Calls Tryz.prog 80 #[.agg #[fs, .int .i64 stop]] w fun e w' => e = .returned (.tuple #[.int .i64 (chkC fns d stop).fault, .int .i64 (chkC fns d stop).place]) ∧ Only (fun _ => False) w w' := by
  have hfl := hp
  obtain ⟨css, p1, _⟩ := hfl
  obtain ⟨va, vl, vc, rfl⟩ := owns_form p1
  have hvl := own_len p1
  subst hvl
  have hk := hy.few
  have hfin := first_in fns
  obtain ⟨F, hF⟩ : ∃ F, firstR fns 0 (.map []) = F := ⟨_, rfl⟩
  rw [hF] at hfin
  have hV : chkC fns d stop = (if (has F (keyS ⟨#[109, 97, 105, 110]⟩) && parN fns (idxOf F ⟨#[109, 97, 105, 110]⟩) == 0) = true then allC F fns d fns 0 ⟨0, 0⟩ else repC 6 stop (allC F fns d fns 0 ⟨0, 0⟩)) := by unfold chkC; rw [hF]
  rw [hV]
  obtain ⟨C, hC⟩ : ∃ C, allC F fns d fns 0 ⟨0, 0⟩ = C := ⟨_, rfl⟩
  rw [hC]
  have HC0 : Hid (allC F fns d (fns.drop 0) 0 ⟨0, 0⟩ = C) := hC
  obtain ⟨V, hVV⟩ : ∃ V, (if (has F (keyS ⟨#[109, 97, 105, 110]⟩) && parN fns (idxOf F ⟨#[109, 97, 105, 110]⟩) == 0) = true then C else repC 6 stop C) = V := ⟨_, rfl⟩
  rw [hVV]
  have HVV := hide1 hVV
  clear hVV
  have HP := hide1 hp
  have HY := hide1 hy
  have HL : Hid (∀ t, t ∈ fns → t.name.text.size ≤ 4000) := fun t ht => (hy.each t ht).1
  have HUL := hide1 hU
  have HFI := hide1 hfin
  have HFE := hide1 hF
  have HB0 : Hid (Box (w.heap.size + 1) ck0 240 ((w.alloc (.cells #[.slice va fns.length vc, .int .i64 stop] 98)).alloc (.cells ck0 240))) := by
    have := Box.new (w.alloc (.cells #[.slice va fns.length vc, .int .i64 stop] 98)) ck0 240
    exact hide1 (by simpa using this)
  have HA1 : Hid (Box w.heap.size #[.slice va fns.length vc, .int .i64 stop] 98 (w.alloc (.cells #[.slice va fns.length vc, .int .i64 stop] 98))) := Box.new _ _ _
  have HA2 : Hid (Box w.heap.size #[.slice va fns.length vc, .int .i64 stop] 98 ((w.alloc (.cells #[.slice va fns.length vc, .int .i64 stop] 98)).alloc (.cells ck0 240))) := HA1.out.alloc _
  have HOA1 : Hid (Only (fun _ => False) w (w.alloc (.cells #[.slice va fns.length vc, .int .i64 stop] 98)).drew) := ((Only.refl _ w).alloc _).drew
  have HOA2 : Hid (Only (fun _ => False) w ((w.alloc (.cells #[.slice va fns.length vc, .int .i64 stop] 98)).alloc (.cells ck0 240)).drew) := (((Only.refl _ w).alloc _).alloc _).drew
  clear hp p1 hy hV hC hfin hU hF
  go_enter Tryz.func80, Tryz.ntmps80
  go_wp2_with fail
  go_cut [4] (fun v wx => ∃ b M, v = .pointer (some ⟨b, 0, none⟩) ∧ w.heap.size ≤ b ∧ b ≠ w.heap.size ∧ CkBlk b (.slice va fns.length vc) stop (.map (some M)) (.map none) ⟨0, 0⟩ wx ∧ MapAt M fns.length F wx ∧ Box w.heap.size #[.slice va fns.length vc, .int .i64 stop] 98 wx ∧ Only (fun _ => False) w wx)
  case first =>
    go_region_with (go_at_call 119; refine (firstFunctions_any d U _ fns stop _ (HP.out.only (X := fun _ => False) (by repeat (first | exact Only.refl _ _ | refine Only.drew ?_ | refine Only.drewN ?_ _ | refine Only.alloc ?_ _)) (fun _ _ q => q)) HL.out hk).mono ?_; rw [HFE.out]; rintro e w2 ⟨M, rfl, hM, hm2, ho2⟩; have hax : Box w.heap.size #[.slice va fns.length vc, .int .i64 stop] 98 w2 := (by first | exact Box.only (X := fun _ => False) (Box.only (X := fun _ => False) HA1.out ((Only.refl (fun _ => False) _).drew) (fun q => q)) ho2 (fun q => q) | exact Box.only (X := fun _ => False) (Box.only (X := fun _ => False) HA2.out ((Only.refl (fun _ => False) _).drew) (fun q => q)) ho2 (fun q => q)); have y0 := hax.cell 0; have y1 := hax.cell 1; have yl := blk_lt hax; simp only [List.getElem?_toArray, List.getElem?_cons_zero, List.getElem?_cons_succ] at y0 y1; first | (have hbx := Box.only (X := fun _ => False) (Box.only (X := fun _ => False) HB0.out ((Only.refl (fun _ => False) _).drew) (fun q => q)) ho2 (fun q => q); have z0 := hbx.cell 0; have z1 := hbx.cell 1; have z2 := hbx.cell 2; have z3 := hbx.cell 3; have z4 := hbx.cell 4; have z5 := hbx.cell 5; have zf := hbx.frozen; have zl := blk_lt hbx; simp only [List.getElem?_toArray, List.getElem?_cons_zero, List.getElem?_cons_succ] at z0 z1 z2 z3 z4 z5) | skip)
    all_goals
      have hsz := ho2.size
      simp at hsz
      go_wp2_with fail
      go_meet
      case rel =>
        first
        | (have hbx' := hbx
           have hO := HOA2.out.tr0 ho2
           have hS : Only (fun k => k = w.heap.size + 1) w2 ((((((w2.setCell ⟨w.heap.size + 1, 0, none⟩ (.slice va fns.length vc)).setCell ⟨w.heap.size + 1, 1, none⟩ (.int .i64 stop)).setCell ⟨w.heap.size + 1, 2, none⟩ (.map (some M))).setCell ⟨w.heap.size + 1, 3, none⟩ (.map none)).setCell ⟨w.heap.size + 1, 4, none⟩ (.int .i64 0)).setCell ⟨w.heap.size + 1, 5, none⟩ (.int .i64 0)) := (((((((Only.refl _ w2).set_at 0 _).set_at 1 _).set_at 2 _).set_at 3 _).set_at 4 _).set_at 5 _)
           have hB := ((((((hbx.set 0 (.slice va fns.length vc)).set 1 (.int .i64 stop)).set 2 (.map (some M))).set 3 (.map none)).set 4 (.int .i64 0)).set 5 (.int .i64 0))
           exact ⟨w.heap.size + 1, M, rfl, by omega, by omega, hB, hm2.only hS (by simp at hM; omega), hax.only hS (by omega), ((hO.mono (fun _ _ q => q.elim)).trans hS).mono (fun j hj q => by omega)⟩)
        | (have hO := HOA1.out.tr0 ho2
           exact ⟨w2.heap.size, M, rfl, by omega, by omega, Box.new w2 _ _, hm2.only ((Only.refl (fun _ => False) w2).alloc _) (fun q => q), hax.alloc _, hO.alloc _⟩)
  case rest =>
    obtain ⟨b, M, rfl, hb1, hb2, hck, hm, hbx, ho⟩ := hcut
    have y0 := hbx.cell 0
    have yl := blk_lt hbx
    simp only [List.getElem?_toArray, List.getElem?_cons_zero] at y0
    have UB : Hid (¬ U b) := fun q => by have := HUL.out b q; omega
    have K0 := hide1 hck
    have M0 := hide1 hm
    have X0 := hide1 hbx
    have O0 := hide1 ho
    clear hck hm hbx ho
    go_wp2
    go_loopw [13] (fun i wr => ∃ (k : Nat) (c : CS) (mv : Value), k ≤ fns.length ∧ i = .int .i64 k ∧ Hid (CkBlk b (.slice va fns.length vc) stop (.map (some M)) mv c wr) ∧ Hid (MapAt M fns.length F wr) ∧ Hid (Box w.heap.size #[.slice va fns.length vc, .int .i64 stop] 98 wr) ∧ Hid (Only (fun _ => False) w wr) ∧ Hid (allC F fns d (fns.drop k) k c = C)) (fun i _ => fns.length - (intOf i).toNat)
    case atStart => exact ⟨0, _, _, by omega, rfl, K0, M0, X0, O0, HC0⟩
    case round =>
      clear K0 M0 X0 O0 HC0 y0 yl
      obtain ⟨k, c, mv, hkl, rfl, HK, HM, HX, HO, HC⟩ := hrel
      have HPR : Hid (PRow d U wr (.slice va fns.length vc) fns) := HP.out.only HO.out (fun _ _ q => q)
      have HULr : Hid (∀ k, U k → k < wr.heap.size) := fun k hk => Nat.lt_of_lt_of_le (HUL.out k hk) HO.out.size
      by_cases hlt : k < fns.length
      · have hst := allC_step F fns d fns k hlt c
        rw [HC.out] at hst
        have HST := hide1 hst
        have he := HY.out.each fns[k] (List.getElem_mem _)
        have HE := hide1 he
        clear hst HC he
        go_wp2_with fail
        refine (cfun_any b d k U _ fns stop M fns.length F c mv wr HK.out HM.out HPR.out HFI.out (by omega) UB.out HULr.out hlt HE.out.2.1 HE.out.1 HE.out.2.2.1 HE.out.2.2.2.1 HY.out.dd HE.out.2.2.2.2).mono ?_
        rintro e w2 ⟨rfl, ⟨m', hk2⟩, ho2⟩
        have HK2 := hide1 hk2
        have HM2 := hide1 (HM.out.only ho2 (HM.out.ne HK.out))
        have HX2 := hide1 (HX.out.only ho2 (fun q => hb2 q.symm))
        have HO2 : Hid (Only (fun _ => False) w w2) := ((HO.out.mono (fun _ _ q => q.elim)).trans ho2).mono (fun j hj q => by omega)
        clear hk2 ho2 HK HM HX HO
        go_wp2_with fail
        exact ⟨⟨k + 1, _, _, by omega, by go_num, HK2, HM2, HX2, HO2, HST.out.symm⟩, by simp [intOf]; omega⟩
      · have e : k = fns.length := by omega
        have hv2 : C = c := by have := HC.out; rw [e, List.drop_length] at this; exact this.symm
        subst hv2
        have hkl2 : decide ((k : Int) < (fns.length : Int)) = false := by simp; omega
        clear HC
        cases hmm : (has F (keyS ⟨#[109, 97, 105, 110]⟩) && parN fns (idxOf F ⟨#[109, 97, 105, 110]⟩) == 0) with
        | true =>
          have HMM := hide1 hmm
          clear hmm
          go_wp2_with fail
          refine (hasMain_any b d U _ fns stop mv M fns.length F C wr HK.out HM.out HPR.out HFI.out (by omega)).mono ?_
          rw [HMM.out]
          rintro e w2 ⟨rfl, ho2⟩
          have r4 := (Box.only HK.out ho2 (fun q => q)).cell 4
          have r5 := (Box.only HK.out ho2 (fun q => q)).cell 5
          have lb := blk_lt (Box.only HK.out ho2 (fun q => q))
          simp only [List.getElem?_toArray, List.getElem?_cons_zero, List.getElem?_cons_succ] at r4 r5
          have HO2 := hide1 (HO.out.tr0 ho2)
          clear ho2
          go_wp2_with fail
          go_region
          go_wp2
          go_ret2
          have hv9 : V = C := by rw [← HVV.out, if_pos HMM.out]
          rw [hv9]
          exact ⟨rfl, HO2.out.drew⟩
        | false =>
          have HMM := hide1 hmm
          clear hmm
          go_wp2_with fail
          refine (hasMain_any b d U _ fns stop mv M fns.length F C wr HK.out HM.out HPR.out HFI.out (by omega)).mono ?_
          rw [HMM.out]
          rintro e w2 ⟨rfl, ho2⟩
          have HK2 := hide1 (Box.only HK.out ho2 (fun q => q))
          have x1 := (Box.only HX.out ho2 (fun q => q)).cell 1
          have xl := blk_lt (Box.only HX.out ho2 (fun q => q))
          simp only [List.getElem?_toArray, List.getElem?_cons_zero, List.getElem?_cons_succ] at x1
          have HO2 := hide1 (HO.out.tr0 ho2)
          clear ho2 HK HM HX HO
          go_wp2_with fail
          refine (report_any b 6 stop _ stop (.map (some M)) mv C w2 HK2.out).mono ?_
          rintro e w3 ⟨rfl, hr3, ho3⟩
          have r4 := Box.cell hr3 4
          have r5 := Box.cell hr3 5
          have lb := blk_lt hr3
          simp only [List.getElem?_toArray, List.getElem?_cons_zero, List.getElem?_cons_succ] at r4 r5
          have HO3 : Hid (Only (fun _ => False) w w3) := ((HO2.out.mono (fun _ _ q => q.elim)).trans ho3).mono (fun j hj q => by omega)
          clear ho3 hr3 x1 xl
          go_wp2_with fail
          go_region
          go_wp2
          go_ret2
          have hv9 : V = repC 6 stop C := by rw [← HVV.out, if_neg (by rw [HMM.out]; decide)]
          rw [hv9]
          exact ⟨rfl, HO3.out.drew⟩

end Go.Proofs.YtgbmakpdjdigmaaGreatDoor

/- TrH TrI: told at each. -/
import Derived.Test.YtgbmakpdjdigmaaGreatDoorG07
import Derived.Test.YtgbmakpdjdigmaaGreatDoorG08
import Derived.Deep.RegionLaw

/- The program's parser: block, out of statement's contract with less fuel. -/
namespace Go.Proofs.YtgbmakpdjdigmaaGreatDoor
open Go.RowKit

theorem Tryz.infoTS : (Tryz.prog.info? 318).map (fun i => (i.zero, i.size, i.bytes)) = some (some (.agg vs0), 8, 112) := by kernel_rfl

theorem vsB_one (s : VS) (a a' : Option Addr) (l l' c c' : Nat) : ∀ u ∈ (vsB s (.slice a l c) (.slice a' l' c')).toList, u.oneCell' = true := by
  intro u hu
  simp [vsB] at hu
  rcases hu with rfl | rfl | rfl | rfl | rfl | rfl | rfl | rfl <;> rfl
set_option maxRecDepth 100000 in
set_option maxHeartbeats 2000000 in
theorem block_all (B0 : Nat) (w00 : World) (f : Nat) (ih : ∀ k, k ≤ f → TStmtOk B0 w00 k) (b g n cap : Nat) (x0 : PS) (toks : List PT) (w : World) (hb : B0 ≤ b) (hG : Below B0 w00 w) (hB : B0 ≤ w.heap.size) (hr : PaBlk b g n cap x0 w) (ht : PtRow g n cap toks w) (hc0 : x0.next < n) (hz : (ptAt toks (n - 1)).kind = 0) (hf : 2 * (n - (takeP toks n 12 x0).next) + 1 ≤ f) :
    Calls Tryz.prog 209 #[.pointer (some ⟨b, 0, none⟩)] w fun e w' => bPost b g n cap w (takeV toks 12 x0).place ((stmtsP toks n f (takeP toks n 12 x0) []).1, takeP toks n 13 (stmtsP toks n f (takeP toks n 12 x0) []).2) e w' := by
  obtain ⟨i0, hi, hz0, hz1, hz2⟩ := info_parts Tryz.infoTS
  have lr := blk_lt hr
  have lg := ht.lt
  have hn := ht.2.2.1
  have hne := ht.ne hr (by decide)
  have hc1 := takeP_lt (k := 12) hz hc0
  obtain ⟨x1, h1⟩ : ∃ y, takeP toks n 12 x0 = y := ⟨_, rfl⟩
  rw [h1] at hf hc1 ⊢
  obtain ⟨t, k1⟩ : ∃ y, takeV toks 12 x0 = y := ⟨_, rfl⟩
  rw [k1]
  obtain ⟨V, hV⟩ : ∃ V, stmtsP toks n f x1 [] = V := ⟨_, rfl⟩
  rw [hV]
  have X1 := hide1 h1
  have K1 := hide1 k1
  have HV := hide1 hV
  have HZ := hide1 hz
  have HG := hide1 hG
  have IH := hide1 ih
  clear h1 k1 hV hz hG ih
  go_enter Tryz.func209, Tryz.ntmps209
  go_wp2_with fail
  refine (ptake_any b g n cap 12 x0 toks _ (Box.alloc hr _) (ht.only ((Only.refl (fun _ => False) _).alloc _) (fun q => q)) hc0).mono ?_
  rw [X1.out, K1.out]
  rintro e w2 ⟨rfl, hr2, ho2⟩
  have hz2' := ho2.size
  simp at hz2'
  have HT2 := hide1 ((ht.only ((Only.refl (fun _ => False) _).alloc (.cells #[.int .i64 0, .slice none 0 0] 201)) (fun q => q)).only ho2 hne)
  have HB2 : Hid (Box w.heap.size #[.int .i64 0, .slice none 0 0] 201 w2) := (Box.new w _ _).only ho2 (by omega)
  have HO2 := hide1 (((Only.refl (fun k => k = b) w).alloc _).trans ho2)
  have HR2 := hide1 hr2
  have hlb1 : w.heap.size + 1 ≤ w2.heap.size := by omega
  clear hr2 ho2 hr ht
  unfold ptV
  have hfd := Tryz.placeOf
  go_wp2_with fail
  clear hfd
  go_loopw [] (fun wr => ∃ (x : PS) (f' d : Nat) (U : Nat → Prop) (sv : Value) (acc : List TS) (css : List (List Value)), x.next < n ∧ acc.length ≤ x.next ∧ f' ≤ f ∧ 2 * (n - x.next) + 1 ≤ f' ∧ Hid (PaBlk b g n cap x wr) ∧ Hid (PtRow g n cap toks wr) ∧ Hid (Box w.heap.size #[.int .i64 0, .slice none 0 0] 201 wr) ∧ Hid (Box w2.heap.size #[.int .i64 t.place, sv] 201 wr) ∧ Hid (BR w2.heap.size d U wr sv acc css) ∧ Hid (Only (fun k => k = b) w wr) ∧ Hid (stmtsP toks n f' x acc = V)) (fun wr => n - paNext b wr)
  case atStart =>
    exact ⟨x1, f, 0, fun _ => False, .slice none 0 0, [], [], hc1, by simp, Nat.le_refl _, hf, Box.alloc HR2.out _, HT2.out.only ((Only.refl (fun _ => False) _).alloc _) (fun q => q), Box.alloc HB2.out _, Box.new _ _ _, BR.nil _ _, HO2.out.alloc _, HV⟩
  case round =>
    clear HR2 HT2 HB2 HO2 HV
    obtain ⟨x, f', d, U, sv, acc, css, hx, hacc, hf1, hf2, hR, hT, hBx, hC, hBR, hO, HC⟩ := hrel
    have HCR := hide1 (paNext_of hR.out)
    by_cases hbk : beginK (ptAt toks x.next).kind
    · obtain ⟨f2, rfl⟩ : ∃ f2, f' = f2 + 1 := ⟨f' - 1, by omega⟩
      obtain ⟨t3, x3, h3⟩ : ∃ t y, stmtP toks n f2 x = (t, y) := ⟨_, _, rfl⟩
      have hC' : stmtsP toks n f2 x3 (acc ++ [t3]) = V := by
        have := HC.out
        rw [stmtsP, if_pos hbk, h3] at this
        exact this
      have hx3 : x.next + 1 ≤ x3.next ∧ x3.next < n := by
        have g1 := stmtP_goes (n := n) HZ.out f2 x hx
        rw [h3] at g1
        obtain ⟨f3, rfl⟩ : ∃ f3, f2 = f3 + 1 := ⟨f2 - 1, by omega⟩
        have g2 := stmtP_more HZ.out f3 hx hbk
        rw [h3] at g2
        exact ⟨g2, g1.2⟩
      have X3 := hide1 h3
      have HC2 := hide1 hC'
      have HBK := hide1 hbk
      have hdk : decide (beginK (ptAt toks x.next).kind) = true := by simp [hbk]
      have HDK := hide1 hdk
      clear HC h3 hC' hbk hdk
      go_wp2_with fail
      refine (begins_any b g n cap x toks _ hR.out hT.out hx).mono ?_
      rw [HDK.out]
      rintro e wk ⟨rfl, hok⟩
      have R1 := hide1 (Box.only hR.out hok (fun q => q))
      have T1 := hide1 (hT.out.only hok (fun q => q))
      have A1 := hide1 (hBx.out.only hok (fun q => q))
      have C1 := hide1 (hC.out.only hok (fun q => q))
      have B1 := hide1 (hBR.out.only hok (fun _ _ _ q => q))
      have O1 := hide1 (hO.out.tr0 hok)
      clear hR hT hBx hC hBR hO hok
      obtain ⟨va, vl, vc, rfl⟩ := owns_form B1.out.row
      have c1 := C1.out.cell 1
      have cf := C1.out.frozen 1
      have lc := blk_lt C1.out
      have lbk := blk_lt R1.out
      have hzk := O1.out.size
      simp only [List.getElem?_toArray, List.getElem?_cons_zero, List.getElem?_cons_succ] at c1
      have NC := hide1 (fun k (hk : Value.ownBlock (.slice va vl vc) = some k) => (B1.out.row.lt k hk).1)
      go_wp2_with fail
      go_region_law (first
        | (refine step_append_own rfl _ _ 199 rfl (w2.heap.size + 1) 318 i0 (.agg vs0) 8 112 Tryz.underlying199 hi hz0 hz1 hz2 rfl (by decide) _ _ _ rfl (B4.out.row.alloc _) ⟨w4.heap.size, 0, none⟩ 1 1 (vsB s4 (.slice aa al ac) (.slice ba bl bc)).toList rfl rfl (cells_new rfl _ _) (vsB_one _ _ _ _ _ _ _) (by decide) (by unfold maxLen; omega) (by omega) (by simp; omega) ?_; intro v' w5 hown' hgrow5 hnew5; have q1 : w5.cell? ⟨w2.heap.size, 1, none⟩ = some (.slice va vl vc) := (World.cell?_of_block (hgrow5.block w2.heap.size (by simp; omega) (fun h => by have := NC.out _ h.symm; omega))).trans (by rw [← c1']; exact World.cell?_of_block (Below.heap_alloc _ _ _ lc')); have q2 : w5.frozen? ⟨w2.heap.size, 1, none⟩ = false := (World.frozen?_of_block (hgrow5.block w2.heap.size (by simp; omega) (fun h => by have := NC.out _ h.symm; omega))).trans (by rw [← cf']; exact World.frozen?_of_block (Below.heap_alloc _ _ _ lc')); obtain ⟨va', vl', vc', rfl⟩ := owns_form hown')
        | (go_simp; go_at_call 232; refine (IH.out f2 (by omega) b g n cap x toks _ hb (Only.keeps HG.out (O1.out.tr0 (by repeat (first | exact Only.refl _ _ | refine Only.drew ?_ | refine Only.drewN ?_ _ | refine Only.alloc ?_ _))) hB hb) (by simp; omega) (Box.only (X := fun _ => False) R1.out (by repeat (first | exact Only.refl _ _ | refine Only.drew ?_ | refine Only.drewN ?_ _ | refine Only.alloc ?_ _)) (fun q => q)) (T1.out.only (X := fun _ => False) (by repeat (first | exact Only.refl _ _ | refine Only.drew ?_ | refine Only.drewN ?_ _ | refine Only.alloc ?_ _)) (fun q => q)) hx HZ.out HBK.out (by omega)).mono ?_; rw [X3.out]; rintro e w4 ⟨d4, U4, s4, av, bv, rfl, hrep, hU4, hr4, ho4⟩; obtain ⟨⟨aa, al, ac, rfl⟩, ⟨ba, bl, bc, rfl⟩⟩ := hrep.forms; have ho5 := Only.trans (X := fun k => k = b) (a := wk) (by repeat (first | exact Only.refl _ _ | refine Only.drew ?_ | refine Only.drewN ?_ _ | refine Only.alloc ?_ _)) ho4; have B4 := hide1 (B1.out.only ho5 (fun k h _ => by omega)); have C4 := hide1 (C1.out.only ho5 (by omega)); have c1' := C4.out.cell 1; have cf' := C4.out.frozen 1; have lc' := blk_lt C4.out; simp only [List.getElem?_toArray, List.getElem?_cons_zero, List.getElem?_cons_succ] at c1'; have hz4 := ho5.size; have HREP := hide1 hrep; have HU4 := hide1 hU4; have R4 := hide1 hr4; have O5 := hide1 ho5; clear hrep hU4 hr4 ho4 ho5; unfold vsB; dsimp only))
      all_goals
        have h45 : Only (fun k => Value.ownBlock (.slice va vl vc) = some k) w4 w5 := Only.grown ((Only.refl _ _).alloc _) hgrow5 (fun k hk => .inl hk)
        have hst := (Only.refl (fun k => k = w2.heap.size) w5).set_at 1 (.slice va' vl' vc')
        have hfar : ∀ j, j < w2.heap.size → ¬ Value.ownBlock (.slice va vl vc) = some j := fun j hj q => by have := NC.out j q; omega
        have hP := BR.push (u := .slice va' vl' vc') B4.out HREP.out (fun k hk => by have h1 := HU4.out k hk; simp only [World.size_drew] at h1; exact ⟨by omega, h1.2, fun q => by have := (B1.out.row.lt k q).2; omega⟩) ((Only.refl _ _).alloc _) hown' hgrow5 (fun k hk => (hnew5 k hk).imp id (fun q => by simp at q; omega))
        have hRF : PaBlk b g n cap x3 (w5.setCell ⟨w2.heap.size, 1, none⟩ (.slice va' vl' vc')) := (R4.out.only h45 (hfar b (by omega))).only hst (by omega)
        have hTF : PtRow g n cap toks (w5.setCell ⟨w2.heap.size, 1, none⟩ (.slice va' vl' vc')) := ((T1.out.only O5.out hne).only h45 (hfar g (by omega))).only hst (by omega)
        have hAF := ((A1.out.only O5.out (by omega)).only h45 (hfar w.heap.size (by omega))).only hst (by omega)
        have hCF : Box w2.heap.size #[.int .i64 t.place, .slice va' vl' vc'] 201 (w5.setCell ⟨w2.heap.size, 1, none⟩ (.slice va' vl' vc')) := by
          have := (C4.out.only h45 (fun q => by have := NC.out _ q; omega)).set 1 (.slice va' vl' vc')
          simpa using this
        have hOF : Only (fun k => k = b) w (w5.setCell ⟨w2.heap.size, 1, none⟩ (.slice va' vl' vc')) := (Only.grown ((O1.out.trans O5.out).alloc _) hgrow5 (fun k hk => .inr (by have := NC.out k hk; omega))).set_new 1 _ (by omega)
        have hNF := paNext_of hRF
        clear hown' hgrow5 hnew5 q1 q2 HREP HU4 B4 C4 R4 h45 hst
        go_wp2_with fail
        go_roundw
        case rel => exact ⟨x3, f2, _, _, _, acc ++ [t3], _, hx3.2, by simp; omega, by omega, by omega, hRF, hTF, hAF, hCF, hP, hOF, HC2⟩
        case measure => rw [hNF, HCR.out]; omega
    · have hv : V = (acc, x) := by
        rw [← HC.out]
        cases f' with
        | zero => rfl
        | succ f' => rw [stmtsP, if_neg hbk]
      subst hv
      have hdk : decide (beginK (ptAt toks x.next).kind) = false := by simp [hbk]
      have HDK := hide1 hdk
      clear HC hbk hdk
      go_wp2_with fail
      refine (begins_any b g n cap x toks _ hR.out hT.out hx).mono ?_
      rw [HDK.out]
      rintro e wk ⟨rfl, hok⟩
      have R1 := hide1 (Box.only hR.out hok (fun q => q))
      have T1 := hide1 (hT.out.only hok (fun q => q))
      have A1 := hide1 (hBx.out.only hok (fun q => q))
      have C1 := hide1 (hC.out.only hok (fun q => q))
      have B1 := hide1 (hBR.out.only hok (fun _ _ _ q => q))
      have O1 := hide1 (hO.out.tr0 hok)
      clear hR hT hBx hC hBR hO hok
      go_wp2_with fail
      refine (ptake_any b g n cap 13 x toks _ R1.out T1.out hx).mono ?_
      rintro e w4 ⟨rfl, hr4, ho4⟩
      have A4 := hide1 (A1.out.only ho4 (by omega))
      have C4 := hide1 (C1.out.only ho4 (by omega))
      have B4 := hide1 (B1.out.only ho4 (fun k h _ => by omega))
      have O4 := hide1 (O1.out.trans ho4)
      have R4 := hide1 hr4
      clear R1 T1 A1 C1 B1 O1 hr4 ho4
      obtain ⟨va, vl, vc, rfl⟩ := owns_form B4.out.row
      have b0 := A4.out.cell 0
      have b1 := A4.out.cell 1
      have bf := A4.out.frozen
      have d0 := C4.out.cell 0
      have d1 := C4.out.cell 1
      have lB := blk_lt A4.out
      have lC := blk_lt C4.out
      simp only [List.getElem?_toArray, List.getElem?_cons_zero, List.getElem?_cons_succ] at b0 b1 d0 d1
      go_wp2
      refine bodyPost_ret (v := .agg #[.int .i64 t.place, .slice va vl vc]) (by simp [results, Tryz.results209, go_sem, b0, b1]) rfl ?_
      have hs := ((Only.refl (fun k => k = w.heap.size) w4).set_at 0 (.int .i64 t.place)).set_at 1 (.slice va vl vc)
      have hB5 := B4.out.only hs (fun k h1 _ => by omega)
      refine ⟨d, fun k => U k ∨ Value.ownBlock (.slice va vl vc) = some k, _, rfl, ⟨css, ownsRow_base hB5.row (Nat.zero_le _), hB5.len, fun k hk => .inr hk, fun j g1 g2 => (hB5.rep j g1 g2).more (fun k hk => .inl hk)⟩, ?_, R4.out.only hs (by omega), (O4.out.set_new 0 _ (Nat.le_refl _)).set_new 1 _ (Nat.le_refl _)⟩
      intro k hk
      rcases hk with hk | hk
      · have := hB5.u k hk; exact ⟨by omega, this.2⟩
      · have := hB5.row.lt k hk; exact ⟨by omega, this.2⟩

end Go.Proofs.YtgbmakpdjdigmaaGreatDoor

/- The program's parser: repeat, out of statement's contract with less fuel. -/
namespace Go.Proofs.YtgbmakpdjdigmaaGreatDoor
open Go.RowKit

/-- A new row of one block. -/
theorem own_new2 {w : World} {j : Nat} (hj : j = w.heap.size) (a c : Value) : (w.alloc (.cells #[a, c] 201)).ownsRow 0 201 2 (.slice (some ⟨j, 0, none⟩) 1 1) 1 [a, c] := by
  subst hj
  exact ⟨rfl, .inr ⟨w.heap.size, 1, #[a, c], rfl, Nat.zero_le _, heap_alloc_new w _, Nat.le_refl _, by unfold maxLen; omega, rfl, rfl⟩⟩

set_option maxRecDepth 100000 in
set_option maxHeartbeats 2000000 in
theorem repeat_all (B0 : Nat) (w00 : World) (f : Nat) (ih : ∀ k, k ≤ f → TStmtOk B0 w00 k) (b g n cap : Nat) (x0 : PS) (toks : List PT) (w : World) (hb : B0 ≤ b) (hG : Below B0 w00 w) (hB : B0 ≤ w.heap.size) (hr : PaBlk b g n cap x0 w) (ht : PtRow g n cap toks w) (hc0 : x0.next < n) (hz : (ptAt toks (n - 1)).kind = 0) (hk : (ptAt toks x0.next).kind = 9) (hf : 2 * (n - x0.next) ≤ f + 1) :
    Calls Tryz.prog 248 #[.pointer (some ⟨b, 0, none⟩)] w fun e w' => sPost b g n cap w (stmtP toks n (f + 1) x0) e w' := by
  obtain ⟨x1, h1⟩ : ∃ y, takeP toks n 9 x0 = y := ⟨_, rfl⟩
  obtain ⟨x2, h2⟩ : ∃ y, takeP toks n 20 x1 = y := ⟨_, rfl⟩
  obtain ⟨p, hp⟩ : ∃ y, (takeV toks 12 x2).place = y := ⟨_, rfl⟩
  obtain ⟨l3, y3, h3⟩ : ∃ l y, stmtsP toks n f (takeP toks n 12 x2) [] = (l, y) := ⟨_, _, rfl⟩
  obtain ⟨x3, h4⟩ : ∃ y, takeP toks n 13 y3 = y := ⟨_, rfl⟩
  have hv : stmtP toks n (f + 1) x0 = (.mk (vsK 12) [(p, l3)], x3) := by
    rw [stmtP, if_neg (by omega), if_pos hk]
    simp only [h1, h2, hp, h3, h4]
  rw [hv]
  have e1 := takeP_more (n := n) hk (by omega)
  rw [h1] at e1
  have hc1 : x1.next < n := by rw [← h1]; exact takeP_lt hz hc0
  have g2 := takeP_goes hz 20 hc1
  rw [h2] at g2
  have hc2 := g2.2
  have g3 := takeP_goes hz 12 hc2
  have hf3 : 2 * (n - (takeP toks n 12 x2).next) + 1 ≤ f := by have := g2.1; have := g3.1; omega
  have F0 := hide1 (PFm.start hr ht)
  have HG := hide1 hG
  have IH := hide1 ih
  have HZ := hide1 hz
  have X1 := hide1 h1
  have X2 := hide1 h2
  have XP := hide1 hp
  have X3 := hide1 h3
  have X4 := hide1 h4
  clear h1 h2 hp h3 h4 hv hr ht hz hk hG ih g2 g3 e1
  go_enter Tryz.func248, Tryz.ntmps248
  go_wp2_with fail
  refine (ptake_any b g n cap 9 x0 toks _ F0.out.pa F0.out.pt hc0).mono ?_
  rw [X1.out]
  rintro e w1 ⟨rfl, hr, ho⟩
  have F1 := hide1 (F0.out.call hr ho)
  clear hr ho F0
  go_wp2_with fail
  refine (ptake_any b g n cap 20 x1 toks _ F1.out.pa F1.out.pt hc1).mono ?_
  rw [X2.out]
  rintro e w2 ⟨rfl, hr, ho⟩
  have F2 := hide1 (F1.out.call hr ho)
  clear hr ho F1
  have hz2 := F2.out.only.size
  have hlr := hide1 (blk_lt F2.out.res)
  go_wp2_with fail
  refine (block_all B0 w00 f IH.out b g n cap x2 toks _ hb (Only.keeps HG.out F2.out.only hB hb) (by omega) F2.out.pa F2.out.pt hc2 HZ.out hf3).mono ?_
  rw [XP.out, X3.out]
  simp only
  rw [X4.out]
  rintro e w3 ⟨d, U, sv, rfl, hT, hU, hr3, ho3⟩
  have hT' := hT
  obtain ⟨css, hrow, _⟩ := hT'
  obtain ⟨va, vl, vc, rfl⟩ := owns_form hrow
  have F3 := hide1 (F2.out.call hr3 ho3)
  have HT := hide1 hT
  have HU := hide1 hU
  have hz3 := ho3.size
  clear hT hU hr3 ho3 hrow F2
  have q0 := F3.out.res.cell 0
  have q1 := F3.out.res.cell 1
  have q2 := F3.out.res.cell 2
  have q3 := F3.out.res.cell 3
  have q4 := F3.out.res.cell 4
  have q5 := F3.out.res.cell 5
  have q6 := F3.out.res.cell 6
  have q7 := F3.out.res.cell 7
  have qf := F3.out.res.frozen
  have ql := blk_lt F3.out.res
  simp only [List.getElem?_toArray, List.getElem?_cons_zero, List.getElem?_cons_succ] at q0 q1 q2 q3 q4 q5 q6 q7
  go_wp2
  refine bodyPost_ret (v := .agg (vsB (vsK 12) (.slice none 0 0) (.slice (some ⟨w3.heap.size, 0, none⟩) 1 1))) (by simp [results, Tryz.results248, go_sem, vsB, vsK, ptNo, q0, q1, q2, q3, q4, q5, q6, q7, ql]; try rfl) rfl ?_
  have hne1 : b ≠ w.heap.size := by have := F3.out.bl; omega
  have hw2 : w.heap.size < w2.heap.size := by have := hlr.out; omega
  refine ⟨d + 1, fun k => U k ∨ k = w3.heap.size, vsK 12, _, _, rfl, ?_, ?_, ?_, ?_⟩
  · refine TRep.blocks (svs := [.slice va vl vc]) rfl (own_new2 (by simp) _ _) (fun k hk => .inr (by simp [Value.ownBlock] at hk; omega)) ?_
    intro i h h'
    have e : i = 0 := by simp at h; omega
    subst e
    refine TRow.more ?_ (fun k hk => .inl hk)
    refine HT.out.only (X := fun k => k = w.heap.size) ?_ (fun k hk => by have := (HU.out k hk).1; omega)
    refine Only.alloc ?_ _
    iterate 8 refine Only.set_at ?_ _ _
    exact Only.refl _ _
  · intro k hk
    simp only [World.size_alloc, World.size_setCell]
    rcases hk with hk | hk
    · have := HU.out k hk; omega
    · omega
  · refine Box.only (X := fun k => k = w.heap.size) F3.out.pa ?_ hne1
    refine Only.alloc ?_ _
    iterate 8 refine Only.set_at ?_ _ _
    exact Only.refl _ _
  · refine Only.alloc ?_ _
    iterate 8 refine Only.set_new ?_ _ _ (Nat.le_refl _)
    exact F3.out.only

end Go.Proofs.YtgbmakpdjdigmaaGreatDoor

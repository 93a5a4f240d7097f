/- TrJ TrK: told at each. -/
import Derived.Test.YtgbmakpdjdigmaaGreatDoorG09

/- The program's parser: choose, without else and with it, out of statement's contract with less fuel. -/
namespace Go.Proofs.YtgbmakpdjdigmaaGreatDoor
open Go.RowKit

theorem own_new2b {w : World} (a c : Value) : (w.alloc (.cells #[a, c] 201)).ownsRow w.heap.size 201 2 (.slice (some ⟨w.heap.size, 0, none⟩) 1 1) 1 [a, c] :=
  ⟨rfl, .inr ⟨w.heap.size, 1, #[a, c], rfl, Nat.le_refl _, heap_alloc_new w _, Nat.le_refl _, by unfold maxLen; omega, rfl, rfl⟩⟩
theorem Tryz.infoTB : (Tryz.prog.info? 201).map (fun i => (i.zero, i.size, i.bytes)) = some (some (.agg #[.int .i64 0, .slice none 0 0]), 2, 32) := by kernel_rfl


set_option maxRecDepth 100000 in
set_option maxHeartbeats 2000000 in
theorem choose_one (B0 : Nat) (w00 : World) (f : Nat) (ih : ∀ k, k ≤ f → TStmtOk B0 w00 k) (b g n cap : Nat) (x0 : PS) (toks : List PT) (w : World) (hb : B0 ≤ b) (hG : Below B0 w00 w) (hB : B0 ≤ w.heap.size) (hr : PaBlk b g n cap x0 w) (ht : PtRow g n cap toks w) (hc0 : x0.next < n) (hz : (ptAt toks (n - 1)).kind = 0) (hk : (ptAt toks x0.next).kind = 7) (hf : 2 * (n - x0.next) ≤ f + 1) :
    Calls Tryz.prog 247 #[.pointer (some ⟨b, 0, none⟩)] w fun e w' => sPost b g n cap w (stmtP toks n (f + 1) x0) e w' := by
  obtain ⟨x1, h1⟩ : ∃ y, takeP toks n 7 x0 = y := ⟨_, rfl⟩
  obtain ⟨x2, h2⟩ : ∃ y, takeP toks n 20 x1 = y := ⟨_, rfl⟩
  obtain ⟨p, hp⟩ : ∃ y, (takeV toks 12 x2).place = y := ⟨_, rfl⟩
  obtain ⟨l3, y3, h3⟩ : ∃ l y, stmtsP toks n f (takeP toks n 12 x2) [] = (l, y) := ⟨_, _, rfl⟩
  obtain ⟨x3, h4⟩ : ∃ y, takeP toks n 13 y3 = y := ⟨_, rfl⟩
  have e1 := takeP_more (n := n) hk (by omega)
  rw [h1] at e1
  have hc1 : x1.next < n := by rw [← h1]; exact takeP_lt hz hc0
  have g2 := takeP_goes hz 20 hc1
  rw [h2] at g2
  have hc2 := g2.2
  have g3 := takeP_goes hz 12 hc2
  have hf3 : 2 * (n - (takeP toks n 12 x2).next) + 1 ≤ f := by have := g2.1; have := g3.1; omega
  have g4 := stmtsP_goes hz f (takeP toks n 12 x2) [] g3.2
  rw [h3] at g4
  have g5 := takeP_goes hz 13 g4.2
  rw [h4] at g5
  have hc3 := g5.2
  have hn3 : x0.next + 1 ≤ x3.next := by have := g2.1; have := g3.1; have := g4.1; have := g5.1; omega
  have lg := ht.lt
  have F0 := hide1 (PFm.start hr ht)
  have HG := hide1 hG
  have IH := hide1 ih
  have HZ := hide1 hz
  have X1 := hide1 h1
  have X2 := hide1 h2
  have XP := hide1 hp
  have X3 := hide1 h3
  have X4 := hide1 h4
  by_cases h8 : (ptAt toks x3.next).kind = 8
  · obtain ⟨x4, k4⟩ : ∃ y, takeP toks n 8 x3 = y := ⟨_, rfl⟩
    obtain ⟨p2, hp2⟩ : ∃ y, (takeV toks 12 x4).place = y := ⟨_, rfl⟩
    obtain ⟨l5, y5, h5⟩ : ∃ l y, stmtsP toks n f (takeP toks n 12 x4) [] = (l, y) := ⟨_, _, rfl⟩
    obtain ⟨x6, h6⟩ : ∃ y, takeP toks n 13 y5 = y := ⟨_, rfl⟩
    have hv : stmtP toks n (f + 1) x0 = (.mk (vsK 11) [(p, l3), (p2, l5)], x6) := by
      rw [stmtP, if_pos hk]
      simp only [h1, h2, hp, h3, h4, if_pos h8, k4, hp2, h5, h6]
    rw [hv]
    have g6 := takeP_goes hz 8 hc3
    rw [k4] at g6
    have hc4 := g6.2
    have g7 := takeP_goes hz 12 hc4
    have hf5 : 2 * (n - (takeP toks n 12 x4).next) + 1 ≤ f := by have := g6.1; have := g7.1; omega
    have h8' : (((ptAt toks x3.next).kind : Int) == 8) = true := by simp [h8]
    have K4 := hide1 k4
    have XP2 := hide1 hp2
    have X5 := hide1 h5
    have X6 := hide1 h6
    obtain ⟨i0, hi, hz0, hz1, hz2'⟩ := info_parts Tryz.infoTB
    clear h1 h2 hp h3 h4 hv hr ht hz hk hG ih g2 g3 e1 g4 g5 h8 k4 hp2 h5 h6 g6 g7
    go_enter Tryz.func247, Tryz.ntmps247
    go_wp2_with fail
    refine (ptake_any b g n cap 7 x0 toks _ F0.out.pa F0.out.pt hc0).mono ?_
    rw [X1.out]
    rintro e w1 ⟨rfl, hr, ho⟩
    have F1 := hide1 (F0.out.call hr ho)
    clear hr ho F0
    go_wp2_with fail
    refine (ptake_any b g n cap 20 x1 toks _ F1.out.pa F1.out.pt hc1).mono ?_
    rw [X2.out]
    rintro e w2 ⟨rfl, hr, ho⟩
    have F2 := hide1 (F1.out.call hr ho)
    clear hr ho F1
    have hz2 := F2.out.only.size
    have hlr := blk_lt F2.out.res
    go_wp2_with fail
    refine (block_all B0 w00 f IH.out b g n cap x2 toks _ hb (Only.keeps HG.out F2.out.only hB hb) (by omega) F2.out.pa F2.out.pt hc2 HZ.out hf3).mono ?_
    rw [XP.out, X3.out]
    simp only
    rw [X4.out]
    rintro e w3 ⟨d, U, sv, rfl, hT, hU, hr3, ho3⟩
    have hT' := hT
    obtain ⟨css, hrow, _⟩ := hT'
    obtain ⟨va, vl, vc, rfl⟩ := owns_form hrow
    have hA := (Only.refl (fun _ => False) w3).alloc (.cells #[.int .i64 p, .slice va vl vc] 201)
    have F3 := hide1 ((F2.out.call hr3 ho3).quiet hA)
    have HT := hide1 (hT.only hA (fun _ _ q => q))
    have HU := hide1 hU
    have HR := hide1 (own_new2b (w := w3) (.int .i64 p) (.slice va vl vc))
    have hz3 := ho3.size
    clear hT hU hr3 ho3 hrow F2 hA
    go_wp2_with fail
    refine (kind_any b g n cap x3 toks _ F3.out.pa F3.out.pt hc3).mono ?_
    rintro e wk ⟨rfl, hok⟩
    have Fk := hide1 (F3.out.quiet hok)
    have HTk := hide1 (HT.out.only hok (fun _ _ q => q))
    have HRk := hide1 (ownsRow_only HR.out hok (fun _ _ q => q))
    have hzk := hok.size
    simp at hzk
    clear hok F3 HT HR
    go_wp2_with fail
    refine (ptake_any b g n cap 8 x3 toks _ Fk.out.pa Fk.out.pt hc3).mono ?_
    rw [K4.out]
    rintro e w4 ⟨rfl, hr4, ho4⟩
    have F4 := hide1 (Fk.out.call hr4 ho4)
    have hbl := Fk.out.bl
    have HT4 := hide1 (HTk.out.only ho4 (fun k hk => by have := (HU.out k hk).1; omega))
    have HR4 := hide1 (ownsRow_only HRk.out ho4 (fun k hk => by simp [Value.ownBlock] at hk; omega))
    have hz4 := ho4.size
    clear hr4 ho4 Fk HTk HRk
    go_wp2_with fail
    refine (block_all B0 w00 f IH.out b g n cap x4 toks _ hb (Only.keeps HG.out F4.out.only hB hb) (by omega) F4.out.pa F4.out.pt hc4 HZ.out hf5).mono ?_
    rw [XP2.out, X5.out]
    simp only
    rw [X6.out]
    rintro e w5 ⟨d5, U5, sv5, rfl, hT5, hU5, hr5, ho5⟩
    have hT' := hT5
    obtain ⟨css5, hrow5, _⟩ := hT'
    obtain ⟨wa, wl, wc', rfl⟩ := owns_form hrow5
    have F5 := hide1 (F4.out.call hr5 ho5)
    have HT5 := hide1 hT5
    have HU5 := hide1 hU5
    have HTa := hide1 (HT4.out.only ho5 (fun k hk => by have := (HU.out k hk).1; omega))
    have HRa := hide1 (ownsRow_only HR4.out ho5 (fun k hk => by simp [Value.ownBlock] at hk; omega))
    have hz5 := ho5.size
    clear hT5 hU5 hr5 ho5 hrow5 F4 HT4 HR4
    have hrowA := HRa.out
    go_wp2_with (at_builtin; refine wpList_append_own _ rfl _ _ 316 rfl w3.heap.size 201 i0 (.agg #[.int .i64 0, .slice none 0 0]) 2 32 Tryz.underlying316 hi hz0 hz1 hz2' rfl (by decide) _ _ _ rfl (hrowA.alloc _) ⟨w5.heap.size, 0, none⟩ 1 1 [.int .i64 p2, .slice wa wl wc'] rfl rfl (cells_new rfl _ _) (fun u hu => by simp at hu; rcases hu with rfl | rfl <;> rfl) (by unfold maxLen; omega) (by omega) (by simp; omega) ?_; intro v' w6 hown' hgrow6 hnil6; obtain ⟨ya, yl, yc, rfl⟩ := owns_form hown'; have hg6 : (w5.alloc (.cells #[.int .i64 p2, .slice wa wl wc'] 201)).grownBy w6 (some w3.heap.size) := hgrow6; have h56 : Only (fun k => k = w3.heap.size) w5 w6 := Only.grown ((Only.refl _ _).alloc _) hg6 (fun k hk => .inl (Option.some.inj hk).symm); have F6 := hide1 (PFm.mk (Box.only F5.out.pa h56 (by omega)) (F5.out.pt.only h56 (by omega)) (F5.out.res.only h56 (by omega)) (Only.grown (F5.out.only.alloc _) hg6 (fun k hk => .inr (by have := Option.some.inj hk; omega))) F5.out.bl); have q0 := F6.out.res.cell 0; have q1 := F6.out.res.cell 1; have q2 := F6.out.res.cell 2; have q3 := F6.out.res.cell 3; have q4 := F6.out.res.cell 4; have q5 := F6.out.res.cell 5; have q6 := F6.out.res.cell 6; have q7 := F6.out.res.cell 7; have qf := F6.out.res.frozen; have ql := blk_lt F6.out.res; simp only [List.getElem?_toArray, List.getElem?_cons_zero, List.getElem?_cons_succ] at q0 q1 q2 q3 q4 q5 q6 q7)
    refine bodyPost_ret (v := .agg (vsB (vsK 11) (.slice none 0 0) (.slice ya yl yc))) (by simp [results, Tryz.results247, go_sem, vsB, vsK, ptNo, q0, q1, q2, q3, q4, q5, q6, q7]; try rfl) rfl ?_
    have hne1 : b ≠ w.heap.size := by omega
    have hz6 := h56.size
    have T1 := HTa.out.only h56 (fun k hk => by have := (HU.out k hk).2; omega)
    have T2 := HT5.out.only h56 (fun k hk => by have := (HU5.out k hk).1; omega)
    refine ⟨max d d5 + 1, fun k => U k ∨ U5 k ∨ Value.ownBlock (.slice ya yl yc) = some k, vsK 11, _, _, rfl, ?_, ?_, ?_, ?_⟩
    · refine TRep.only (X := fun k => k = w.heap.size) (w := w6) ?_ ?_ ?_
      · refine TRep.blocks (svs := [.slice va vl vc, .slice wa wl wc']) rfl (ownsRow_base hown' (Nat.zero_le _)) (fun k hk => .inr (.inr hk)) ?_
        intro i h h'
        have e : i = 0 ∨ i = 1 := by simp at h; omega
        rcases e with rfl | rfl
        · exact (T1.more (fun k hk => .inl hk)).upTo (Nat.le_max_left _ _)
        · exact (T2.more (fun k hk => .inr (.inl hk))).upTo (Nat.le_max_right _ _)
      · iterate 8 refine Only.set_at ?_ _ _
        exact Only.refl _ _
      · intro k hk
        rcases hk with hk | hk | hk
        · have := (HU.out k hk).1; omega
        · have := (HU5.out k hk).1; omega
        · have := (hown'.lt k hk).1; omega
    · intro k hk
      simp only [World.size_setCell]
      rcases hk with hk | hk | hk
      · have := HU.out k hk; omega
      · have := HU5.out k hk; omega
      · have := hown'.lt k hk; omega
    · refine Box.only (X := fun k => k = w.heap.size) F6.out.pa ?_ hne1
      iterate 8 refine Only.set_at ?_ _ _
      exact Only.refl _ _
    · iterate 8 refine Only.set_new ?_ _ _ (Nat.le_refl _)
      exact F6.out.only
  · have hv : stmtP toks n (f + 1) x0 = (.mk (vsK 11) [(p, l3)], x3) := by
      rw [stmtP, if_pos hk]
      simp only [h1, h2, hp, h3, h4, if_neg h8]
    rw [hv]
    have h8' : (((ptAt toks x3.next).kind : Int) == 8) = false := by simp; omega
    clear h1 h2 hp h3 h4 hv hr ht hz hk hG ih g2 g3 e1 g4 g5 h8
    go_enter Tryz.func247, Tryz.ntmps247
    go_wp2_with fail
    refine (ptake_any b g n cap 7 x0 toks _ F0.out.pa F0.out.pt hc0).mono ?_
    rw [X1.out]
    rintro e w1 ⟨rfl, hr, ho⟩
    have F1 := hide1 (F0.out.call hr ho)
    clear hr ho F0
    go_wp2_with fail
    refine (ptake_any b g n cap 20 x1 toks _ F1.out.pa F1.out.pt hc1).mono ?_
    rw [X2.out]
    rintro e w2 ⟨rfl, hr, ho⟩
    have F2 := hide1 (F1.out.call hr ho)
    clear hr ho F1
    have hz2 := F2.out.only.size
    have hlr := blk_lt F2.out.res
    go_wp2_with fail
    refine (block_all B0 w00 f IH.out b g n cap x2 toks _ hb (Only.keeps HG.out F2.out.only hB hb) (by omega) F2.out.pa F2.out.pt hc2 HZ.out hf3).mono ?_
    rw [XP.out, X3.out]
    simp only
    rw [X4.out]
    rintro e w3 ⟨d, U, sv, rfl, hT, hU, hr3, ho3⟩
    have hT' := hT
    obtain ⟨css, hrow, _⟩ := hT'
    obtain ⟨va, vl, vc, rfl⟩ := owns_form hrow
    have hA := (Only.refl (fun _ => False) w3).alloc (.cells #[.int .i64 p, .slice va vl vc] 201)
    have F3 := hide1 ((F2.out.call hr3 ho3).quiet hA)
    have HT := hide1 (hT.only hA (fun _ _ q => q))
    have HU := hide1 hU
    have HR := hide1 (own_new2b (w := w3) (.int .i64 p) (.slice va vl vc))
    have hz3 := ho3.size
    clear hT hU hr3 ho3 hrow F2 hA
    go_wp2_with fail
    refine (kind_any b g n cap x3 toks _ F3.out.pa F3.out.pt hc3).mono ?_
    rintro e wk ⟨rfl, hok⟩
    have Fk := hide1 (F3.out.quiet hok)
    have HTk := hide1 (HT.out.only hok (fun _ _ q => q))
    have HRk := hide1 (ownsRow_only HR.out hok (fun _ _ q => q))
    have hzk := hok.size
    simp at hzk
    clear hok F3 HT HR
    have q0 := Fk.out.res.cell 0
    have q1 := Fk.out.res.cell 1
    have q2 := Fk.out.res.cell 2
    have q3 := Fk.out.res.cell 3
    have q4 := Fk.out.res.cell 4
    have q5 := Fk.out.res.cell 5
    have q6 := Fk.out.res.cell 6
    have q7 := Fk.out.res.cell 7
    have qf := Fk.out.res.frozen
    have ql := blk_lt Fk.out.res
    simp only [List.getElem?_toArray, List.getElem?_cons_zero, List.getElem?_cons_succ] at q0 q1 q2 q3 q4 q5 q6 q7
    go_wp2
    refine bodyPost_ret (v := .agg (vsB (vsK 11) (.slice none 0 0) (.slice (some ⟨w3.heap.size, 0, none⟩) 1 1))) (by simp [results, Tryz.results247, go_sem, vsB, vsK, ptNo, q0, q1, q2, q3, q4, q5, q6, q7]; try rfl) rfl ?_
    have hne1 : b ≠ w.heap.size := by have := Fk.out.bl; omega
    refine ⟨d + 1, fun k => U k ∨ k = w3.heap.size, vsK 11, _, _, rfl, ?_, ?_, ?_, ?_⟩
    · refine TRep.only (X := fun k => k = w.heap.size) (w := wk) ?_ ?_ (fun k hk => by rcases hk with hk | hk; have := (HU.out k hk).1; omega; omega)
      · refine TRep.blocks (svs := [.slice va vl vc]) rfl (ownsRow_base HRk.out (Nat.zero_le _)) (fun k hk => .inr (by simp [Value.ownBlock] at hk; omega)) ?_
        intro i h h'
        have e : i = 0 := by simp at h; omega
        subst e
        exact HTk.out.more (fun k hk => .inl hk)
      · iterate 8 refine Only.set_at ?_ _ _
        exact Only.refl _ _
    · intro k hk
      simp only [World.size_setCell]
      rcases hk with hk | hk
      · have := HU.out k hk; omega
      · omega
    · refine Box.only (X := fun k => k = w.heap.size) Fk.out.pa ?_ hne1
      iterate 8 refine Only.set_at ?_ _ _
      exact Only.refl _ _
    · iterate 8 refine Only.set_new ?_ _ _ (Nat.le_refl _)
      exact Fk.out.only

end Go.Proofs.YtgbmakpdjdigmaaGreatDoor

/- The program's parser: statement, by induction on the fuel, out of field's contract; block for every state. -/
namespace Go.Proofs.YtgbmakpdjdigmaaGreatDoor
open Go.RowKit


set_option maxRecDepth 100000 in
set_option maxHeartbeats 2000000 in
theorem statement_step (B0 : Nat) (w00 : World) (hF : FieldOk B0 w00) (f : Nat) (ih : ∀ k, k ≤ f → TStmtOk B0 w00 k) : TStmtOk B0 w00 (f + 1) := by
  intro b g n cap x0 toks w hb hG hB hr ht hc0 hz hbk hf
  have F0 := hide1 (PFm.start hr ht)
  have HG := hide1 hG
  have IH := hide1 ih
  have HZ := hide1 hz
  have HF := hide1 hF
  by_cases h7 : (ptAt toks x0.next).kind = 7
  · have HK := hide1 h7
    clear hr ht hz hG ih hF hbk
    obtain ⟨r, hr⟩ : ∃ r, stmtP toks n (f + 1) x0 = r := ⟨_, rfl⟩
    rw [hr]
    have HRR := hide1 hr
    have h7' := hide1 h7
    clear hr h7
    go_enter Tryz.func232, Tryz.ntmps232
    go_wp2_with fail
    refine (kind_any b g n cap x0 toks _ F0.out.pa F0.out.pt hc0).mono ?_
    rw [HK.out]
    rintro e w0 ⟨rfl, ho⟩
    have F0' := hide1 (F0.out.quiet ho)
    clear ho F0
    have F0 := F0'
    clear F0'
    have hz0 := F0.out.only.size
    have hlr := blk_lt F0.out.res
    go_wp2_with fail
    refine (choose_one B0 w00 f IH.out b g n cap x0 toks _ hb (Only.keeps HG.out F0.out.only hB hb) (by omega) F0.out.pa F0.out.pt hc0 HZ.out h7'.out hf).mono ?_
    rw [HRR.out]
    rintro e w1 ⟨d, U, s, av, bv, rfl, hrep, hU, hr1, ho1⟩
    obtain ⟨⟨aa, al, ac, rfl⟩, ⟨ba, bl, bc, rfl⟩⟩ := hrep.forms
    have F1 := hide1 (F0.out.call hr1 ho1)
    have HREP := hide1 hrep
    have HU := hide1 hU
    have hz1 := ho1.size
    clear hrep hU hr1 ho1 F0
    have q0 := F1.out.res.cell 0
    have q1 := F1.out.res.cell 1
    have q2 := F1.out.res.cell 2
    have q3 := F1.out.res.cell 3
    have q4 := F1.out.res.cell 4
    have q5 := F1.out.res.cell 5
    have q6 := F1.out.res.cell 6
    have q7 := F1.out.res.cell 7
    have qf := F1.out.res.frozen
    have ql := blk_lt F1.out.res
    simp only [List.getElem?_toArray, List.getElem?_cons_zero, List.getElem?_cons_succ] at q0 q1 q2 q3 q4 q5 q6 q7
    unfold vsB
    go_wp2
    refine bodyPost_ret (v := .agg (vsB s (.slice aa al ac) (.slice ba bl bc))) (by simp [results, Tryz.results232, go_sem, vsB, q0, q1, q2, q3, q4, q5, q6, q7]) rfl ?_
    have hne1 : b ≠ w.heap.size := by have := F1.out.bl; omega
    refine ⟨d, U, s, _, _, rfl, ?_, ?_, ?_, ?_⟩
    · refine HREP.out.only (X := fun k => k = w.heap.size) ?_ (fun k hk => by have := (HU.out k hk).1; omega)
      iterate 8 refine Only.set_at ?_ _ _
      exact Only.refl _ _
    · intro k hk
      simp only [World.size_setCell]
      have := HU.out k hk; omega
    · refine Box.only (X := fun k => k = w.heap.size) F1.out.pa ?_ hne1
      iterate 8 refine Only.set_at ?_ _ _
      exact Only.refl _ _
    · iterate 8 refine Only.set_new ?_ _ _ (Nat.le_refl _)
      exact F1.out.only
  · by_cases h9 : (ptAt toks x0.next).kind = 9
    · have HK := hide1 h9
      clear hr ht hz hG ih hF hbk
      obtain ⟨r, hr⟩ : ∃ r, stmtP toks n (f + 1) x0 = r := ⟨_, rfl⟩
      rw [hr]
      have HRR := hide1 hr
      have h9' := hide1 h9
      clear hr h9 h7
      go_enter Tryz.func232, Tryz.ntmps232
      go_wp2_with fail
      refine (kind_any b g n cap x0 toks _ F0.out.pa F0.out.pt hc0).mono ?_
      rw [HK.out]
      rintro e w0 ⟨rfl, ho⟩
      have F0' := hide1 (F0.out.quiet ho)
      clear ho F0
      have F0 := F0'
      clear F0'
      have hz0 := F0.out.only.size
      have hlr := blk_lt F0.out.res
      go_wp2_with fail
      refine (repeat_all B0 w00 f IH.out b g n cap x0 toks _ hb (Only.keeps HG.out F0.out.only hB hb) (by omega) F0.out.pa F0.out.pt hc0 HZ.out h9'.out hf).mono ?_
      rw [HRR.out]
      rintro e w1 ⟨d, U, s, av, bv, rfl, hrep, hU, hr1, ho1⟩
      obtain ⟨⟨aa, al, ac, rfl⟩, ⟨ba, bl, bc, rfl⟩⟩ := hrep.forms
      have F1 := hide1 (F0.out.call hr1 ho1)
      have HREP := hide1 hrep
      have HU := hide1 hU
      have hz1 := ho1.size
      clear hrep hU hr1 ho1 F0
      have q0 := F1.out.res.cell 0
      have q1 := F1.out.res.cell 1
      have q2 := F1.out.res.cell 2
      have q3 := F1.out.res.cell 3
      have q4 := F1.out.res.cell 4
      have q5 := F1.out.res.cell 5
      have q6 := F1.out.res.cell 6
      have q7 := F1.out.res.cell 7
      have qf := F1.out.res.frozen
      have ql := blk_lt F1.out.res
      simp only [List.getElem?_toArray, List.getElem?_cons_zero, List.getElem?_cons_succ] at q0 q1 q2 q3 q4 q5 q6 q7
      unfold vsB
      go_wp2
      refine bodyPost_ret (v := .agg (vsB s (.slice aa al ac) (.slice ba bl bc))) (by simp [results, Tryz.results232, go_sem, vsB, q0, q1, q2, q3, q4, q5, q6, q7]) rfl ?_
      have hne1 : b ≠ w.heap.size := by have := F1.out.bl; omega
      refine ⟨d, U, s, _, _, rfl, ?_, ?_, ?_, ?_⟩
      · refine HREP.out.only (X := fun k => k = w.heap.size) ?_ (fun k hk => by have := (HU.out k hk).1; omega)
        iterate 8 refine Only.set_at ?_ _ _
        exact Only.refl _ _
      · intro k hk
        simp only [World.size_setCell]
        have := HU.out k hk; omega
      · refine Box.only (X := fun k => k = w.heap.size) F1.out.pa ?_ hne1
        iterate 8 refine Only.set_at ?_ _ _
        exact Only.refl _ _
      · iterate 8 refine Only.set_new ?_ _ _ (Nat.le_refl _)
        exact F1.out.only
    · obtain ⟨s1, x1, h1⟩ : ∃ s y, plainP toks n x0 = (s, y) := ⟨_, _, rfl⟩
      obtain ⟨x2, h2⟩ : ∃ y, takeP toks n 14 x1 = y := ⟨_, rfl⟩
      have hv : stmtP toks n (f + 1) x0 = (.mk s1 [], x2) := by
        rw [stmtP, if_neg h7, if_neg h9, h1]
        simp only [h2]
      rw [hv]
      have g1 := plainP_goes hz hc0
      rw [h1] at g1
      have hc1 := g1.2
      obtain ⟨kk, hkk⟩ : ∃ k, (ptAt toks x0.next).kind = k := ⟨_, rfl⟩
      rw [hkk] at h7 h9
      have HK := hide1 hkk
      have j7 : ((kk : Int) == 7) = false := by simp; omega
      have j9 : ((kk : Int) == 9) = false := by simp; omega
      have X1 := hide1 h1
      have X2 := hide1 h2
      clear hr ht hz hG ih hF hbk h1 h2 hv hkk h7 h9 g1
      go_enter Tryz.func232, Tryz.ntmps232
      go_wp2_with fail
      refine (kind_any b g n cap x0 toks _ F0.out.pa F0.out.pt hc0).mono ?_
      rw [HK.out]
      rintro e w0 ⟨rfl, ho⟩
      have F0' := hide1 (F0.out.quiet ho)
      clear ho F0
      have F0 := F0'
      clear F0'
      have hz0 := F0.out.only.size
      have hlr := blk_lt F0.out.res
      go_wp2_with fail
      refine (plain_all B0 w00 HF.out b g n cap x0 toks _ hb (Only.keeps HG.out F0.out.only hB hb) (by omega) F0.out.pa F0.out.pt hc0 HZ.out).mono ?_
      rw [X1.out]
      rintro e w1 ⟨av, rfl, hown, hr1, ho1⟩
      obtain ⟨aa, al, ac, rfl⟩ := owns_form hown
      have hA := (Only.refl (fun _ => False) w1).alloc (.cells (vsC s1 (.slice aa al ac)) 318)
      have F1 := hide1 ((F0.out.call hr1 ho1).quiet hA)
      have L1 := hide1 (Box.new w1 (vsC s1 (.slice aa al ac)) 318)
      have O1 := hide1 (ownsRow_only hown hA (fun _ _ q => q))
      have hz1 := ho1.size
      have hlw : b < w1.heap.size := blk_lt hr1
      clear hown hr1 ho1 F0 hA
      unfold vsC at F1 L1 O1 ⊢
      go_wp2_with fail
      refine (ptake_any b g n cap 14 x1 toks _ F1.out.pa F1.out.pt hc1).mono ?_
      rw [X2.out]
      rintro e w2 ⟨rfl, hr2, ho2⟩
      have F2 := hide1 (F1.out.call hr2 ho2)
      have L2 := hide1 (L1.out.only ho2 (by omega))
      have O2 := hide1 (ownsRow_only O1.out ho2 (fun k hk => by have := (O1.out.lt k hk).1; have := F1.out.bl; omega))
      have hz2 := ho2.size
      simp at hz2
      clear hr2 ho2 F1 L1 O1
      have m0 := L2.out.cell 0
      have m1 := L2.out.cell 1
      have m2 := L2.out.cell 2
      have m3 := L2.out.cell 3
      have m4 := L2.out.cell 4
      have m5 := L2.out.cell 5
      have m6 := L2.out.cell 6
      have m7 := L2.out.cell 7
      simp only [List.getElem?_toArray, List.getElem?_cons_zero, List.getElem?_cons_succ] at m0 m1 m2 m3 m4 m5 m6 m7
      have q0 := F2.out.res.cell 0
      have q1 := F2.out.res.cell 1
      have q2 := F2.out.res.cell 2
      have q3 := F2.out.res.cell 3
      have q4 := F2.out.res.cell 4
      have q5 := F2.out.res.cell 5
      have q6 := F2.out.res.cell 6
      have q7 := F2.out.res.cell 7
      have qf := F2.out.res.frozen
      have ql := blk_lt F2.out.res
      simp only [List.getElem?_toArray, List.getElem?_cons_zero, List.getElem?_cons_succ] at q0 q1 q2 q3 q4 q5 q6 q7
      go_wp2
      refine bodyPost_ret (v := .agg (vsB s1 (.slice aa al ac) (.slice none 0 0))) (by simp [results, Tryz.results232, go_sem, vsB, q0, q1, q2, q3, q4, q5, q6, q7]) rfl ?_
      have hne1 : b ≠ w.heap.size := by have := F2.out.bl; omega
      refine ⟨1, fun k => Value.ownBlock (.slice aa al ac) = some k, s1, _, _, rfl, ?_, ?_, ?_, ?_⟩
      · refine TRep.only (X := fun k => k = w.heap.size) (w := w2) (TRep.flat (ownsRow_base O2.out (Nat.zero_le _)) (fun k hk => hk)) ?_ (fun k hk => by have := (O2.out.lt k hk).1; omega)
        iterate 8 refine Only.set_at ?_ _ _
        exact Only.refl _ _
      · intro k hk
        simp only [World.size_setCell]
        have := O2.out.lt k hk; omega
      · refine Box.only (X := fun k => k = w.heap.size) F2.out.pa ?_ hne1
        iterate 8 refine Only.set_at ?_ _ _
        exact Only.refl _ _
      · iterate 8 refine Only.set_new ?_ _ _ (Nat.le_refl _)
        exact F2.out.only

theorem statement_all (B0 : Nat) (w00 : World) (hF : FieldOk B0 w00) : ∀ f, ∀ k, k ≤ f → TStmtOk B0 w00 k
  | 0, k, hk => by
    intro b g n cap x toks w _ _ _ _ _ hc _ _ hf
    omega
  | f + 1, k, hk => by
    by_cases h : k ≤ f
    · exact statement_all B0 w00 hF f k h
    · have e : k = f + 1 := by omega
      subst e
      exact statement_step B0 w00 hF f (statement_all B0 w00 hF f)

end Go.Proofs.YtgbmakpdjdigmaaGreatDoor

/- RdN RdO: told at each. -/
import Derived.Test.YtgbmakpdjdigmaaGreatDoorG24
import Derived.Test.YtgbmakpdjdigmaaGreatDoorG30

/- Plain mathematics: a statement of the reference's reader leaves the bounds as they were asked (Inv), and takes a token at least where it finds no fault (rStmt_prog). The last token is the end. -/
namespace Go.Proofs.YtgbmakpdjdigmaaGreatDoor
open Go.RowKit

/-- The place lies within the tokens; places, calls and statements are no more than tokens taken (while there is no fault), and than there are tokens. -/
def Inv (n : Nat) (x : St) (m : Nat) : Prop := x.cur < n ∧ x.pl ≤ n ∧ x.ca ≤ n ∧ m ≤ n ∧ (x.bad = none → x.pl ≤ x.cur ∧ x.ca ≤ x.cur ∧ m ≤ x.cur)
theorem Inv.goes0 {n m k : Nat} {x y : St} (h : Inv n x m) (q : Goes0 k x y) (hy : y.cur < n) : Inv n y m := by
  obtain ⟨h1, h2, h3, h4, h5⟩ := h
  obtain ⟨q1, q2, q3, q4⟩ := q
  refine ⟨hy, by omega, by omega, h4, fun e => ?_⟩
  have a := q4 e
  have b := h5 a.1
  omega
theorem plainS_cur {toks : List Tk} {n : Nat} (hz : (tokAt toks (n - 1)).sort = 0) (inn : Nat) (x : St) (hc : x.cur < n) : (plainS toks inn x).2.cur < n := by
  have E : ∀ (L : List UInt8) (x : St), x.cur < n → (eatS toks L x).cur < n := fun L x h => eatS_cur rfl hz h
  have G : ∀ (k : Nat) (x : St), k ≠ 0 → x.cur < n → (getS toks k x).2.cur < n := fun k x hk h => getS_cur (q := (getS toks k x).1) rfl hk hz h
  unfold plainS
  split
  · exact G _ _ (by decide) (E _ _ hc)
  · split
    · exact G _ _ (by decide) (E _ _ hc)
    · split
      · exact G _ _ (by decide) (E _ _ (G _ _ (by decide) (E _ _ hc)))
      · exact valS_cur hz _ _ (E _ _ (G _ _ (by decide) hc))

theorem both_prog {toks : List Tk} {n : Nat} (hz : (tokAt toks (n - 1)).sort = 0) : ∀ f : Nat,
    (∀ (inn : Nat) (x : St) (fs : List FS) (out : List Nat), Inv n x fs.length → Inv n (rStmts toks f inn x fs out).2.1 (rStmts toks f inn x fs out).2.2.length ∧ x.cur ≤ (rStmts toks f inn x fs out).2.1.cur ∧ fs.length ≤ (rStmts toks f inn x fs out).2.2.length) ∧
    (∀ (inn : Nat) (x : St) (fs : List FS), Inv n x fs.length → x.bad = none → Inv n (rStmt toks f inn x fs).2.1 (rStmt toks f inn x fs).2.2.length ∧ x.cur ≤ (rStmt toks f inn x fs).2.1.cur ∧ fs.length ≤ (rStmt toks f inn x fs).2.2.length ∧ (f ≠ 0 → (rStmt toks f inn x fs).2.1.bad = none → x.cur < (rStmt toks f inn x fs).2.1.cur)) := by
  have E := eatS_goes toks
  have C : ∀ (L : List UInt8) (x : St), x.cur < n → (eatS toks L x).cur < n := fun L x h => eatS_cur rfl hz h
  intro f
  induction f with
  | zero =>
    refine ⟨fun inn x fs out h => ?_, fun inn x fs h _ => ?_⟩
    · rw [rStmts]; exact ⟨h, Nat.le_refl _, Nat.le_refl _⟩
    · rw [rStmt]; exact ⟨h, Nat.le_refl _, Nat.le_refl _, fun q => absurd rfl q⟩
  | succ f ih =>
    refine ⟨fun inn x fs out h => ?_, fun inn x fs h hb => ?_⟩
    · rw [rStmts]
      split
      · exact ⟨h, Nat.le_refl _, Nat.le_refl _⟩
      · rename_i hc
        have hb : x.bad = none := by
          cases hx : x.bad with
          | none => rfl
          | some b => exact absurd (.inl (by simp [hx])) hc
        obtain ⟨a1, a2, a3, _⟩ := ih.2 inn x fs h hb
        obtain ⟨b1, b2, b3⟩ := ih.1 inn _ _ (out ++ [(rStmt toks f inn x fs).1]) a1
        exact ⟨b1, Nat.le_trans a2 b2, Nat.le_trans a3 b3⟩
    · have hi := h
      obtain ⟨h1, h2, h3, h4, h5⟩ := h
      obtain ⟨p1, p2, p3⟩ := h5 hb
      rw [rStmt]
      split
      · simp only
        have G3 := ((E (wordOf (tokAt toks x.cur)) x).trans (E [63] _)).trans (E [123] (eatS toks [63] (eatS toks (wordOf (tokAt toks x.cur)) x)))
        have c2 := C [63] _ (C (wordOf (tokAt toks x.cur)) x h1)
        have c3 := C [123] _ c2
        generalize eatS toks [63] (eatS toks (wordOf (tokAt toks x.cur)) x) = x2 at *
        generalize eatS toks [123] x2 = xb at *
        have I0 : Inv n xb (fs ++ [zFS 0 0]).length := by
          obtain ⟨g1, g2, g3, g4⟩ := G3
          refine ⟨c3, by omega, by omega, by simp; omega, fun e => ?_⟩
          have := g4 e
          simp only [List.length_append, List.length_cons, List.length_nil]
          omega
        obtain ⟨a1, a2, a3⟩ := ih.1 inn xb (fs ++ [zFS 0 0]) [] I0
        generalize rStmts toks f inn xb (fs ++ [zFS 0 0]) [] = r at *
        have a3' : fs.length + 1 ≤ r.2.2.length := by simpa using a3
        have E3 := E [125] r.2.1
        have c4 := C [125] r.2.1 a1.1
        have I3 := a1.goes0 E3 c4
        generalize eatS toks [125] r.2.1 = x3 at *
        have g1 : xb.cur ≤ x3.cur := Nat.le_trans a2 E3.1
        have g2 : x3.bad = none → x.cur < x3.cur := fun e => by have q := E3.2.2.2 e; have := G3.1; omega
        split
        · split
          · have E5 := (E elseL x3).trans (E [123] (eatS toks elseL x3))
            have c5 := C [123] _ (C elseL x3 c4)
            generalize eatS toks elseL x3 = x4 at *
            generalize eatS toks [123] x4 = xd at *
            have I5 := I3.goes0 E5 c5
            obtain ⟨b1, b2, b3⟩ := ih.1 inn xd r.2.2 [] I5
            generalize rStmts toks f inn xd r.2.2 [] = r2 at *
            have E6 := E [125] r2.2.1
            have c6 := C [125] r2.2.1 b1.1
            have I6 := b1.goes0 E6 c6
            generalize eatS toks [125] r2.2.1 = x5 at *
            have := G3.1
            have := E5.1
            have := E6.1
            refine ⟨by simpa using I6, by simp only; omega, by simp only [List.length_set]; omega, fun _ e => ?_⟩
            have q := E6.2.2.2 e
            simp only
            omega
          · have := G3.1
            exact ⟨by simpa using I3, by simp only; omega, by simp only [List.length_set]; omega, fun _ e => g2 e⟩
        · have := G3.1
          exact ⟨by simpa using I3, by simp only; omega, by simp only [List.length_set]; omega, fun _ e => g2 e⟩
      · simp only
        have G2 := (plainS_goes toks inn x).ahead (E [59] (plainS toks inn x).2)
        have c2 := C [59] _ (plainS_cur hz inn x h1)
        generalize eatS toks [59] (plainS toks inn x).2 = x1 at *
        obtain ⟨g1, g2, g3, g4, g5, g6⟩ := G2
        refine ⟨⟨c2, by omega, by omega, by simp; omega, fun e => ?_⟩, g1, by simp, fun _ e => ?_⟩
        · have := g6 e
          simp only [List.length_set, List.length_append, List.length_cons, List.length_nil]
          omega
        · have := g6 e
          omega

end Go.Proofs.YtgbmakpdjdigmaaGreatDoor

/- The reference's reader.block, out of what stmt answers at less fuel: what it answers (rStmts between two braces), and memory behind it. -/
namespace Go.Proofs.YtgbmakpdjdigmaaGreatDoor
open Go.RowKit

def StmtOk (f : Nat) : Prop := ∀ (rb pb g n cap B inn : Nat) (U : Nat → Prop) (toks : List Tk) (fv sv : Value) (x : St) (fs : List FS) (w : World), RdBlk rb pb g n cap x.cur x.bad w → TokRow g n cap toks w → PrBlk pb fv sv x.pl x.ca w → StRow B U w sv fs → B ≤ w.heap.size → (tokAt toks (n - 1)).sort = 0 → Inv n x fs.length → x.bad = none → 2 * (n - x.cur) ≤ f →
  Calls Tryz.prog 128 #[.pointer (some ⟨rb, 0, none⟩), .int .i64 inn] w fun e w' => stPost rb pb g n cap B U toks fv sv w (rStmt toks f inn x fs) e w'

/-- What block leaves. -/
def blkPost (rb pb g n cap B : Nat) (U : Nat → Prop) (toks : List Tk) (fv sv : Value) (w : World) (p : Nat) (r : List Nat × St × List FS) (e : Ending) (w' : World) : Prop :=
  ∃ sv' bv U', (∀ k, U k → U' k) ∧ (∀ k, U' k → U k ∨ w.heap.size ≤ k) ∧ (∀ k, bv.ownBlock = some k → ¬ U' k) ∧ e = .returned (.tuple #[.int .i64 p, bv]) ∧ IntsAt w.heap.size w' bv r.1 ∧ RdBlk rb pb g n cap r.2.1.cur r.2.1.bad w' ∧ TokRow g n cap toks w' ∧ PrBlk pb fv sv' r.2.1.pl r.2.1.ca w' ∧ StRow B U' w' sv' r.2.2 ∧ Frm rb pb sv sv' w w'

def rdMeas (rb n : Nat) (w : World) : Nat := 2 * (n - rdCur rb w) + (match w.cell? ⟨rb, 2, none⟩ with | some v => if intOf v < 0 then 1 else 0 | none => 0)
theorem rdMeas_of {rb pb g n cap cur : Nat} {bad : Option Nat} {w : World} (h : RdBlk rb pb g n cap cur bad w) : rdMeas rb n w = 2 * (n - cur) + (if bad = none then 1 else 0) := by
  have h2 := blk_cell h 2
  simp only [List.getElem?_toArray, List.getElem?_cons_zero, List.getElem?_cons_succ] at h2
  unfold rdMeas
  rw [rdCur_of h, h2]
  cases bad with
  | none => rfl
  | some b =>
    have e : ¬ (intOf (Value.int .i64 (badI (some b))) < 0) := by show ¬ ((b : Int) < 0); omega
    simp only
    rw [if_neg e, if_neg (by simp)]
theorem StRow.below {B : Nat} {U : Nat → Prop} {w : World} {sv : Value} {fs : List FS} (h : StRow B U w sv fs) : StRow B (fun k => U k ∧ k < w.heap.size) w sv fs := by
  obtain ⟨cs, hrow, hl, hrep⟩ := h
  refine ⟨cs, hrow, hl, fun i h1 h2 => ?_⟩
  obtain ⟨av, bv, ov, hc, ha, hb, hov, hu⟩ := hrep i h1 h2
  refine ⟨av, bv, ov, hc, ha, hb, hov, fun k hk => ⟨hu k hk, ?_⟩⟩
  rcases hk with q | q | q
  · exact (ha.lt k q).2
  · exact (hb.lt k q).2
  · exact (hov.lt k q).2
theorem StRow.rb {rb pb g n cap c B : Nat} {U : Nat → Prop} {b : Option Nat} {sv : Value} {fs : List FS} {w w' : World} (h : StRow B U w sv fs) (hr : RdBlk rb pb g n cap c b w) (ho : Only (fun k => k = rb) w w') : StRow B U w' sv fs := by
  refine h.only ho (fun k hk => ?_) (fun k cs t fz hk hc => ?_)
  · obtain ⟨cs, hrow, _⟩ := h
    exact own_ne hrow hr (by decide) k hk
  · have hk : k = rb := hk
    subst hk
    have hr0 : w.heap[k]? = _ := hr
    rw [hc] at hr0
    simp only [Option.some.injEq, Obj.cells.injEq] at hr0
    rw [hr0.2.1]; decide
theorem StRow.still {B : Nat} {U : Nat → Prop} {sv : Value} {fs : List FS} {w w' : World} (h : StRow B U w sv fs) (ho : Only (fun _ => False) w w') : StRow B U w' sv fs := h.only ho (fun _ _ q => q) (fun _ _ _ _ q => q.elim)
theorem ints_frm {U : Nat → Prop} {rb pb g n cap c : Nat} {b : Option Nat} {B B' pl ca : Nat} {fv sv sv' v : Value} {l : List Nat} {fs : List FS} {w w' : World} (h : IntsAt B' w v l) (hr : RdBlk rb pb g n cap c b w) (hp : PrBlk pb fv sv pl ca w) (hst : StRow B U w sv fs) (hf : Frm rb pb sv sv' w w') : IntsAt B' w' v l := by
  obtain ⟨cs, hrow, _⟩ := hst
  refine ownsRow_typed h hf.only (fun k ds fz hk => ?_)
  rcases hk with hk | hk | hk
  · exact typ_ne hr.box (by decide) k ds fz hk
  · exact typ_ne hp.box (by decide) k ds fz hk
  · exact own_typ hrow (by decide) k ds fz hk
theorem Frm.owned {rb pb : Nat} {sv sv' v : Value} {w w1 w2 : World} (h : Frm rb pb sv sv' w w1) (ho : Only (fun k => v.ownBlock = some k) w1 w2) (hv : ∀ k, v.ownBlock = some k → w.heap.size ≤ k) : Frm rb pb sv sv' w w2 := by
  refine ⟨⟨ho.os.trans h.only.os, ho.tape.trans h.only.tape, ho.output.trans h.only.output, Nat.le_trans h.only.size ho.size, fun k hk hx => ?_⟩, h.own⟩
  rw [ho.block k (Nat.lt_of_lt_of_le hk h.only.size) (fun q => by have := hv k q; omega)]
  exact h.only.block k hk hx
theorem rStmts_stop {toks : List Tk} {k inn : Nat} {x : St} {fs : List FS} {out : List Nat} (h : x.bad ≠ none ∨ nextB x.bad (tokAt toks x.cur) [125] = true) : rStmts toks k inn x fs out = (out, x, fs) := by
  cases k with
  | zero => rw [rStmts]
  | succ k => rw [rStmts, if_pos h]

set_option maxRecDepth 100000 in
set_option maxHeartbeats 2000000 in
theorem block_any (f : Nat) (ih : ∀ k, k ≤ f → StmtOk k) (rb pb g n cap B inn : Nat) (U : Nat → Prop) (toks : List Tk) (fv sv : Value) (x0 : St) (fs : List FS) (w : World) (hr : RdBlk rb pb g n cap x0.cur x0.bad w) (ht : TokRow g n cap toks w) (hp : PrBlk pb fv sv x0.pl x0.ca w) (hst : StRow B U w sv fs) (hU : ∀ k, U k → k < w.heap.size) (hB : B ≤ w.heap.size) (hz : (tokAt toks (n - 1)).sort = 0) (hinv : Inv n x0 fs.length) (hf : x0.bad = none → 2 * (n - x0.cur) ≤ f) :
    Calls Tryz.prog 91 #[.pointer (some ⟨rb, 0, none⟩), .int .i64 inn] w fun e w' => blkPost rb pb g n cap B U toks fv sv w (tokAt toks x0.cur).pos ((rStmts toks f inn (eatS toks [123] x0) fs []).1, eatS toks [125] (rStmts toks f inn (eatS toks [123] x0) fs []).2.1, (rStmts toks f inn (eatS toks [123] x0) fs []).2.2) e w' := by
  obtain ⟨i0, hi, hz0, hz1, hz2⟩ := info_parts Tryz.infoInt
  have hc0 := hinv.1
  have hn := ht.2.2
  obtain ⟨t0, t1, t2⟩ := ht.cells hc0
  have r0 := hr.box.cell 0
  have r1 := hr.box.cell 1
  simp at r0 r1
  have lr := blk_lt hr
  have lp := blk_lt hp
  obtain ⟨V, hV⟩ : ∃ V, rStmts toks f inn (eatS toks [123] x0) fs [] = V := ⟨_, rfl⟩
  rw [hV]
  have HV := hide1 hV
  have HR := hide1 hr
  have HT := hide1 ht
  have HP := hide1 hp
  have HST := hide1 hst
  have HZ := hide1 hz
  have HINV := hide1 hinv
  have HFU := hide1 hf
  have IH := hide1 ih
  have HUL := hide1 hU
  clear hV hr ht hp hst hz hinv hf ih hU
  generalize hpos : (tokAt toks x0.cur).pos = pos at *
  clear hpos
  go_enter Tryz.func91, Tryz.ntmps91
  go_wp2
  go_quiet (fail)
  go_wp2_with fail
  refine (eat_l rb pb g n cap x0.cur x0.bad toks _ [123] (by simp) (w.drewN nq) HR.out HT.out hc0).mono ?_
  rintro e w1 ⟨rfl, hr, ho⟩
  obtain ⟨x1, hx1⟩ : ∃ z, eatS toks [123] x0 = z := ⟨_, rfl⟩
  have HX1 := hide1 hx1
  have hg := eatS_goes toks [123] x0
  have hc1 : x1.cur < n := eatS_cur hx1 HZ.out hc0
  rw [hx1] at hg
  have HI1 : Hid (Inv n x1 fs.length) := HINV.out.goes0 hg hc1
  have HU1 : Hid (x1.bad = none → 2 * (n - x1.cur) + 1 ≤ f) := fun e => by have q := hg.2.2.2 e; have := HFU.out q.1; omega
  have hrr : RdBlk rb pb g n cap x1.cur x1.bad w1 := by subst hx1; exact hr
  have HR1 := hide1 hrr
  have hneg := (HT.out.ne HR.out (by decide))
  have hnep : pb ≠ rb := HP.out.box.ne HR.out.box (by decide)
  have HT1 := hide1 (TokRow.only (w := w.drewN nq) HT.out ho hneg)
  have HP1 : Hid (PrBlk pb fv sv x1.pl x1.ca w1) := by
    have := PrBlk.box (w := w.drewN nq) HP.out
    have q := this.only ho hnep
    rw [hg.2.1, hg.2.2.1]
    exact q
  have HS1 := hide1 (StRow.rb (w := w.drewN nq) HST.out HR.out ho)
  have HF1 := hide1 ((Frm.refl rb pb sv w).drewN nq |>.tr ho)
  have HV1 : Hid (rStmts toks f inn x1 fs [] = V) := by rw [← hx1]; exact HV.out
  clear hr ho hx1 hrr hg HV HR HT HP HST HINV HFU t0 t1 t2 r0 r1
  go_wp2_with fail
  go_loopw [7] (fun v wr => ∃ (k : Nat) (x' : St) (fs' : List FS) (out : List Nat) (sv' : Value) (U' : Nat → Prop), Hid ((∀ k, U k → U' k) ∧ (∀ k, U' k → U k ∨ w.heap.size ≤ k) ∧ (∀ k, U' k → k < wr.heap.size) ∧ ∀ k, v.ownBlock = some k → ¬ U' k) ∧ Hid (RdBlk rb pb g n cap x'.cur x'.bad wr) ∧ Hid (TokRow g n cap toks wr) ∧ Hid (PrBlk pb fv sv' x'.pl x'.ca wr) ∧ Hid (StRow B U' wr sv' fs') ∧ Hid (Frm rb pb sv sv' w wr) ∧ Hid (IntsAt w.heap.size wr v out) ∧ Hid (Inv n x' fs'.length) ∧ Hid (x'.bad = none → 2 * (n - x'.cur) + 1 ≤ k ∧ out.length ≤ x'.cur) ∧ k ≤ f ∧ out.length ≤ n ∧ Hid (rStmts toks k inn x' fs' out = V)) (fun _ wr => rdMeas rb n wr)
  case atStart => exact ⟨f, x1, fs, [], sv, U, ⟨fun _ h => h, fun _ h => .inl h, fun k h => by have := HUL.out k h; have := HF1.out.only.size; omega, fun k h => by simp [Value.ownBlock] at h⟩, HR1, HT1, HP1, HS1, HF1, World.ownsRow_nil _ _ _ _, HI1, fun e => ⟨HU1.out e, by simp⟩, Nat.le_refl _, by simp, HV1⟩
  case round =>
    obtain ⟨k, x', fs', out, sv', U', HUU, HR, HT, HP, HS, HF, HN, HI, HU, hkf, hout, HC⟩ := hrel
    clear HR1 HT1 HP1 HS1 HF1 HI1 HU1 HV1 HX1
    have hc' := HI.out.1
    go_wp2_with fail
    refine (next_l rb pb g n cap x'.cur x'.bad toks _ [125] (by simp) wr HR.out HT.out hc').mono ?_
    rintro e w2 ⟨rfl, ho2⟩
    have HR2 := hide1 (HR.out.only ho2 (fun q => q))
    have HT2 := hide1 (HT.out.only ho2 (fun q => q))
    have HP2 : Hid (PrBlk pb fv sv' x'.pl x'.ca w2) := HP.out.box.only ho2 (fun q => q)
    have HS2 := hide1 (HS.out.still ho2)
    have HF2 := hide1 (HF.out.trans (Frm.ofOnly (ho2.mono (fun _ _ q => q.elim))))
    have HN2 : Hid (IntsAt w.heap.size w2 u7 out) := ownsRow_only HN.out ho2 (fun _ _ q => q)
    have HM := hide1 (rdMeas_of HR.out)
    clear HR HT HP HS HF HN ho2
    have r2 := HR2.out.box.cell 2
    simp at r2
    by_cases hstop : x'.bad ≠ none ∨ nextB x'.bad (tokAt toks x'.cur) [125] = true
    · have hv : V = (out, x', fs') := by rw [← HC.out, rStmts_stop hstop]
      subst hv
      have hcs : (∃ b : Nat, x'.bad = some b ∧ nextB x'.bad (tokAt toks x'.cur) [125] = false) ∨ nextB x'.bad (tokAt toks x'.cur) [125] = true := by
        cases hx : x'.bad with
        | none => right; rcases hstop with q | q; exact absurd hx q; rw [hx] at q; exact q
        | some b => left; exact ⟨b, rfl, rfl⟩
      clear hstop HC HU HM
      rcases hcs with ⟨b, hb, hnx⟩ | hnx
      · rw [hnx]
        rw [hb] at r2
        simp only [badI] at r2
        have hbb : decide ((0 : Int) ≤ (b : Int)) = true := by simp
        have HNX := hide1 hnx
        have HBB := hide1 hb
        clear hnx hb
        go_wp2_with fail
        refine (eat_l rb pb g n cap x'.cur x'.bad toks _ [125] (by simp) w2 HR2.out HT2.out hc').mono ?_
        rintro e w3 ⟨rfl, hr3, ho3⟩
        have HR3 := hide1 hr3
        have HO3 := hide1 ho3
        clear hr3 ho3
        go_wp2_with fail
        go_ret2
        refine ⟨sv', u7, U', HUU.out.1, HUU.out.2.1, HUU.out.2.2.2, rfl, ?_, HR3.out, HT2.out.only HO3.out hneg, HP2.out.box.only HO3.out hnep, HS2.out.rb HR2.out HO3.out, HF2.out.tr HO3.out⟩
        exact ownsRow_typed HN2.out HO3.out (fun k ds fz hk => typ_ne HR2.out.box (by decide) k ds fz hk)
      · rw [hnx]
        have HNX := hide1 hnx
        clear hnx
        go_wp2_with fail
        refine (eat_l rb pb g n cap x'.cur x'.bad toks _ [125] (by simp) w2 HR2.out HT2.out hc').mono ?_
        rintro e w3 ⟨rfl, hr3, ho3⟩
        have HR3 := hide1 hr3
        have HO3 := hide1 ho3
        clear hr3 ho3
        go_wp2_with fail
        go_ret2
        refine ⟨sv', u7, U', HUU.out.1, HUU.out.2.1, HUU.out.2.2.2, rfl, ?_, HR3.out, HT2.out.only HO3.out hneg, HP2.out.box.only HO3.out hnep, HS2.out.rb HR2.out HO3.out, HF2.out.tr HO3.out⟩
        exact ownsRow_typed HN2.out HO3.out (fun k ds fz hk => typ_ne HR2.out.box (by decide) k ds fz hk)
    · have hb : x'.bad = none := by
        cases hx : x'.bad with
        | none => rfl
        | some b => exact absurd (.inl (by simp [hx])) hstop
      have hnx : nextB x'.bad (tokAt toks x'.cur) [125] = false := by
        cases hq : nextB x'.bad (tokAt toks x'.cur) [125] with
        | false => rfl
        | true => exact absurd (.inr hq) hstop
      have hku := HU.out hb
      obtain ⟨k', hk'⟩ : ∃ k', k = k' + 1 := ⟨k - 1, by omega⟩
      subst hk'
      obtain ⟨ri, rx, rf, hrr⟩ : ∃ i x f, rStmt toks k' inn x' fs' = (i, x, f) := ⟨_, _, _, rfl⟩
      have HPR := hide1 ((both_prog HZ.out k').2 inn x' fs' HI.out hb)
      rw [hrr] at HPR
      have HC2 : Hid (rStmts toks k' inn rx rf (out ++ [ri]) = V) := by
        have := HC.out
        rw [rStmts, if_neg hstop, hrr] at this
        exact this
      rw [hnx]
      rw [hb] at r2
      simp only [badI] at r2
      have HB := hide1 hb
      have HRR := hide1 hrr
      have hsz2 : w.heap.size ≤ w2.heap.size := HF2.out.only.size
      clear hnx hb hstop HC HU hrr
      go_wp2_with fail
      refine (IH.out k' (by omega) rb pb g n cap B inn U' toks fv sv' x' fs' w2 HR2.out HT2.out HP2.out HS2.out (by omega) HZ.out HI.out HB.out (by omega)).mono ?_
      rw [HRR.out]
      rintro e w3 ⟨sv2, U2, hu1, hu2, rfl, hr3, ht3, hp3, hst3, hfr3⟩
      have hoi := ints_frm HN2.out HR2.out HP2.out HS2.out hfr3
      have hne3 := own_ne hoi hr3 (by decide)
      have hnp3 := own_ne hoi hp3 (by decide)
      have hs3 : w2.heap.size ≤ w3.heap.size := hfr3.only.size
      have HR3 := hide1 hr3
      have HT3 := hide1 ht3
      have HP3 := hide1 hp3
      have HS3 := hide1 hst3.below
      have HF3 := hide1 (HF2.out.trans hfr3)
      have HN3 := hide1 (And.intro hne3 hnp3)
      have HU3 : Hid ((∀ k, U k → U2 k ∧ k < w3.heap.size) ∧ (∀ k, U2 k ∧ k < w3.heap.size → U k ∨ w.heap.size ≤ k) ∧ ∀ k, u7.ownBlock = some k → ¬ (U2 k ∧ k < w3.heap.size)) := by
        refine ⟨fun k h => ⟨hu1 k (HUU.out.1 k h), ?_⟩, fun k h => ?_, fun k h q => ?_⟩
        · have := HUL.out k h
          omega
        · rcases hu2 k h.1 with q | q
          · exact HUU.out.2.1 k q
          · exact .inr (by omega)
        · rcases hu2 k q.1 with q' | q'
          · exact HUU.out.2.2.2 k h q'
          · have := (HN2.out.lt k h).2
            omega
      clear hu1 hu2 hr3 ht3 hp3 hst3 hfr3 hne3 hnp3 HN2 HR2 HT2 HP2 HS2 HF2 r2
      go_wp2_with (at_builtin; refine wpList_append_blk _ rfl _ _ 66 rfl w.heap.size 3 i0 (.int .i64 0) 1 8 Tryz.underlying66 hi hz0 hz1 hz2 rfl (by decide) _ _ _ rfl (hoi.alloc _) ⟨w3.heap.size, 0, none⟩ 1 1 [.int .i64 (ri : Int)] rfl rfl (cell_one_new _ _ _) (fun x hx => by simp at hx; subst hx; rfl) (by decide) (by unfold maxLen; omega) (by omega) (by simp; omega) ?_; intro v' w4 hown4 hgrow4 hnew4)
      have O4 : Only (fun k => u7.ownBlock = some k) w3 w4 := Only.grown ((Only.refl _ _).alloc _) hgrow4 (fun k hk => .inl hk)
      have HR4 := hide1 (HR3.out.only O4 (fun q => HN3.out.1 rb q rfl))
      have HT4 := hide1 (HT3.out.only O4 (own_two HT3.out.1 hoi (by decide) g rfl))
      have HP4 := hide1 (HP3.out.box.only O4 (fun q => HN3.out.2 pb q rfl))
      have HS4 := hide1 (HS3.out.onlyU O4 (fun k hk => by obtain ⟨cs, hrow, _⟩ := HS3.out; exact own_two hrow hoi (by decide) k hk) (fun k hk q => HU3.out.2.2 k q hk))
      have HF4 := hide1 (HF3.out.owned O4 (fun k hk => (hoi.lt k hk).1))
      have hk0 : k' ≠ 0 := by omega
      refine ⟨⟨k', rx, rf, out ++ [ri], sv2, fun k => U2 k ∧ k < w3.heap.size, ⟨HU3.out.1, HU3.out.2.1, fun k hk => by have := O4.size; omega, fun k hk q => ?_⟩, HR4, HT4, HP4, HS4, HF4, ?_, HPR.out.1, fun e => ?_, by omega, by simp; omega, HC2⟩, ?_⟩
      · rcases hnew4 k hk with q' | q'
        · exact HU3.out.2.2 k q' q
        · simp at q'
          omega
      · show World.ownsRow _ _ _ _ _ _ _
        rw [List.length_append, List.map_append]
        exact hown4
      · have := HPR.out.2.2.2 hk0 e
        simp only [List.length_append, List.length_cons, List.length_nil]
        omega
      · rw [rdMeas_of HR4.out, HM.out, if_pos HB.out]
        have g1 := HPR.out.2.1
        have g2 := HPR.out.2.2.2 hk0
        have g3 := HPR.out.1.1
        split
        · rename_i e
          have := g2 e
          omega
        · omega

end Go.Proofs.YtgbmakpdjdigmaaGreatDoor

/- ChH: told at each. -/
import Derived.Test.YtgbmakpdjdigmaaGreatDoorG46

/- The reference's Read: what it answers, of a text of at most 4000 bytes. -/
namespace Go.Proofs.YtgbmakpdjdigmaaGreatDoor
open Go.RowKit

def refT (s : ByteArray) (l : List Tk) : List Tk := l ++ [⟨ByteArray.empty, s.size, 0⟩]
def refP (s : ByteArray) (l : List Tk) : List RF × St × List FS := fnsR (refT s l) (2 * (l.length + 1)) (l.length + 1) ⟨0, none, 0, 0⟩ [] []
def refA (s : ByteArray) (l : List Tk) (d : Nat) (tfs : List TF) : List RF × CS := rallC (refP s l).1 d tfs 0 ((refP s l).1, ⟨0, 0⟩)
def refC (s : ByteArray) (l : List Tk) (d : Nat) (tfs : List TF) : CS := finC (refP s l).1 s.size (refA s l d tfs).2
/-- What Read leaves behind its checks. -/
def rdFin (w : World) (s : ByteArray) (l : List Tk) (fns : List RF) (fs : List FS) (x : St) (C : CS) (e : Ending) (w' : World) : Prop :=
  if C.fault = 0 then
    ∃ (pb B g cap : Nat) (U : Nat → Prop) (fv sv : Value), e = .returned (.tuple #[.pointer (some ⟨pb, 0, none⟩), .slice (some ⟨g, 0, none⟩) (l.length + 1) cap, .int .i64 0, .int .i64 0]) ∧ TokRow g (l.length + 1) cap (refT s l) w' ∧ w.heap.size ≤ g ∧ PrBlk pb fv sv x.pl x.ca w' ∧ w.heap.size ≤ pb ∧ FnRow B w' fv fns ∧ w.heap.size ≤ B ∧ StRow B U w' sv fs ∧ Below w.heap.size w w'
  else e = .returned (.tuple #[.pointer none, .slice none 0 0, .int .i64 C.fault, .int .i64 C.place]) ∧ Below w.heap.size w w'
/-- What Read leaves. -/
def rdPost (w : World) (s : ByteArray) (d : Nat) (tfs : List TF) (e : Ending) (w' : World) : Prop :=
  match lexRun s s.size 0 [] with
  | .inl p => e = .returned (.tuple #[.pointer none, .slice none 0 0, .int .i64 2, .int .i64 p]) ∧ Below w.heap.size w w'
  | .inr l => match (refP s l).2.1.bad with
    | some b => e = .returned (.tuple #[.pointer none, .slice none 0 0, .int .i64 3, .int .i64 b]) ∧ Below w.heap.size w w'
    | none => rdFin w s l (refA s l d tfs).1 (refP s l).2.2 (refP s l).2.1 (refC s l d tfs) e w'
structure ReG (pb wb B pl ca g n cap : Nat) (U : Nat → Prop) (toks : List Tk) (fv sv : Value) (fns : List RF) (fs : List FS) (fb : Nat) (fc : Array Value) (tv : Value) (takes : List Tk) (bv : Value) (body : List Nat) (c : CS) (w w' : World) : Prop where
  r : ReF pb wb B pl ca g n cap U toks fv sv fns fs c w w'
  box : Box fb fc 116 w'
  trow : TksAt B w' tv takes
  brow : IntsAt B w' bv body
theorem ReG.call {pb wb B pl ca g n cap : Nat} {U : Nat → Prop} {toks : List Tk} {fv sv : Value} {fns fns' : List RF} {fs : List FS} {fb : Nat} {fc : Array Value} {tv : Value} {takes : List Tk} {bv : Value} {body : List Nat} {c c' : CS} {w w1 w2 : World} (h : ReG pb wb B pl ca g n cap U toks fv sv fns fs fb fc tv takes bv body c w w1) (hB : w.heap.size ≤ B) (hwb : w.heap.size ≤ wb) (h1 : fb ≠ wb) (h2 : fv.ownBlock ≠ some fb) (hk : RK pb wb B pl ca U fv sv fns' fs c' w2) (hf : KFr wb B fv w1 w2) : ReG pb wb B pl ca g n cap U toks fv sv fns' fs fb fc tv takes bv body c' w w2 :=
  ⟨h.r.call hB hwb hk hf, hf.box h.box h1 h2 (by decide), hf.row h.trow h.r.k.wr h.r.k.fn (by decide) (by decide) (by decide), hf.row h.brow h.r.k.wr h.r.k.fn (by decide) (by decide) (by decide)⟩
theorem Only.toBelow {a b : World} (h : Only (fun _ => False) a b) : Below a.heap.size a b := h.below (fun _ q => q.elim)
theorem tokAt_params (l : List PT) (i : Nat) (h : i < l.length) : tokAt (l.map toTk) i = toTk l[i] := by
  unfold tokAt
  rw [List.getElem?_map, List.getElem?_eq_getElem h]; rfl
set_option maxRecDepth 100000 in
set_option maxHeartbeats 8000000 in
theorem refread_any (s : ByteArray) (hs : s.size ≤ 4000) (w : World) (d : Nat) (tfs : List TF) (hyp : ∀ l, lexRun s s.size 0 [] = .inr l → (refP s l).2.1.bad = none → RHyp d (refP s l).1 (refP s l).2.2 tfs) :
    Calls Tryz.prog 16 #[.string s] w fun e w' => rdPost w s d tfs e w' := by
  have h4 : decide ((4000 : Int) < (s.size : Int)) = false := by simp; omega
  unfold rdPost
  have HYP := hide1 hyp
  clear hyp
  cases hV : lexRun s s.size 0 [] with
  | inl p =>
    simp only
    have HV := hide1 hV
    clear hV
    go_enter Tryz.func16, Tryz.ntmps16
    go_wp2_with fail
    refine (reftokens_any s hs _).mono ?_
    rw [HV.out]
    rintro e w1 ⟨rfl, hb⟩
    go_wp2
    exact bodyPost_ret (v := .tuple #[.pointer none, .slice none 0 0, .int .i64 2, .int .i64 p]) (by simp [results, Tryz.results16, go_sem]) rfl ⟨rfl, hb⟩
  | inr l =>
    simp only
    have hyp := HYP.out l hV
    have hll := lexRun_len s s.size 0 [] l (by omega) hV
    simp only [List.length_nil] at hll
    have HV := hide1 hV
    clear hV HYP
    obtain ⟨P, hP⟩ : ∃ P, refP s l = P := ⟨_, rfl⟩
    have hPP : fnsR (refT s l) (2 * (l.length + 1)) (l.length + 1) ⟨0, none, 0, 0⟩ [] [] = P := hP
    obtain ⟨fns0, x0, fs⟩ := P
    obtain ⟨n, hn⟩ : ∃ n, l.length + 1 = n := ⟨_, rfl⟩
    obtain ⟨AL, hAL⟩ : ∃ a, rallC fns0 d tfs 0 (fns0, ⟨0, 0⟩) = a := ⟨_, rfl⟩
    have hA : refA s l d tfs = AL := by unfold refA; rw [hP]; exact hAL
    have hC : refC s l d tfs = finC fns0 s.size AL.2 := by unfold refC; rw [hA, hP]
    rw [hP] at hyp
    rw [hP, hA, hC]
    rw [hn] at hPP
    simp only at hyp ⊢
    have HPP := hide1 hPP
    have HAL : Hid (rallC fns0 d (tfs.drop 0) 0 (fns0, ⟨0, 0⟩) = AL) := hAL
    clear hP hPP hA hC hAL
    cases hbd : x0.bad with
    | some b =>
      have hbb : decide ((0 : Int) ≤ (b : Int)) = true := by simp
      have HBD := hide1 hbd
      clear hyp hbd
      simp only
      go_enter Tryz.func16, Tryz.ntmps16
      go_wp2_with fail
      refine (reftokens_any s hs _).mono ?_
      rw [HV.out]
      rintro e w1 ⟨v, rfl, hown, hb⟩
      rw [hn] at hown
      obtain ⟨va, vl, vc, rfl⟩ := owns_form hown
      have hvl := own_len hown
      subst hvl
      obtain ⟨g, rfl⟩ := own_some hown (by omega)
      have hgb := (hown.lt g rfl).1
      have HT : Hid (TokRow g vl vc (refT s l) w1) := ⟨ownsRow_base hown (Nat.zero_le _), by simp [refT]; omega, by omega⟩
      have hz : (tokAt (refT s l) (vl - 1)).sort = 0 := by
        unfold tokAt refT
        rw [show vl - 1 = l.length by omega, List.getElem?_append_right (Nat.le_refl _)]
        simp
      have HB1 := hide1 hb
      have hzw := hb.size
      clear hown hb
      go_wp2_with fail
      refine (refparse_any g vl vc (refT s l) w1 HT.out (by omega) hz).mono ?_
      rw [HPP.out]
      rintro e w2 ⟨fv, sv, U, rfl, hp, hst, hfn, ho⟩
      simp only at hp hst hfn ⊢
      have HB2 : Hid (Below w.heap.size w w2) := HB1.out.trans (ho.belowB hzw (fun _ q => q.elim))
      simp only [HBD.out, badI]
      go_wp2
      exact bodyPost_ret (v := .tuple #[.pointer none, .slice none 0 0, .int .i64 3, .int .i64 b]) (by simp [results, Tryz.results16, go_sem]) rfl ⟨rfl, HB2.out⟩
    | none =>
      have hy := hyp hbd
      have hlen := hy.len
      have hfew := hy.few
      have HY := hide1 hy
      have HBD := hide1 hbd
      clear hyp hbd hy
      simp only
      obtain ⟨C9, hC9⟩ : ∃ c, finC fns0 s.size AL.2 = c := ⟨_, rfl⟩
      rw [hC9]
      have HC9 := hide1 hC9
      clear hC9
      go_enter Tryz.func16, Tryz.ntmps16
      go_wp2_with fail
      refine (reftokens_any s hs _).mono ?_
      rw [HV.out]
      rintro e w1 ⟨v, rfl, hown, hb⟩
      rw [hn] at hown
      obtain ⟨va, vl, vc, rfl⟩ := owns_form hown
      have hvl := own_len hown
      subst hvl
      obtain ⟨g, rfl⟩ := own_some hown (by omega)
      have hgb := (hown.lt g rfl).1
      have HT : Hid (TokRow g vl vc (refT s l) w1) := ⟨ownsRow_base hown (Nat.zero_le _), by simp [refT]; omega, by omega⟩
      have hz : (tokAt (refT s l) (vl - 1)).sort = 0 := by
        unfold tokAt refT
        rw [show vl - 1 = l.length by omega, List.getElem?_append_right (Nat.le_refl _)]
        simp
      have HB1 := hide1 hb
      have hzw := hb.size
      clear hown hb
      go_wp2_with fail
      refine (refparse_any g vl vc (refT s l) w1 HT.out (by omega) hz).mono ?_
      rw [HPP.out]
      rintro e w2 ⟨fv, sv, U, rfl, hp, hst, hfn, ho⟩
      simp only at hp hst hfn ⊢
      have HB2 : Hid (Below w.heap.size w w2) := HB1.out.trans (ho.belowB hzw (fun _ q => q.elim))
      simp only [HBD.out, badI]
      have R0 : Hid (ReF w1.heap.size w2.heap.size w1.heap.size x0.pl x0.ca g vl vc U (refT s l) fv sv fns0 fs ⟨0, 0⟩ w1 (w2.alloc (.cells #[.int .i64 0, .int .i64 0] 108))) := by
        have h1 := (Only.refl (fun _ => False) w2).alloc (.cells #[.int .i64 0, .int .i64 0] 108)
        exact ⟨⟨hp.box.only h1 (fun q => q), hfn.still h1, hst.still h1, Box.new _ _ _⟩, (HT.out.only ho (fun q => q)).only h1 (fun q => q), ho.tr0 h1⟩
      have hwb : w1.heap.size ≤ w2.heap.size := ho.size
      obtain ⟨fa, fl, fc, rfl⟩ : ∃ a l c, fv = .slice a l c := by obtain ⟨_, h, _⟩ := hfn; exact owns_form h
      have hfl : fl = fns0.length := by obtain ⟨_, h, _⟩ := hfn; exact own_len h
      subst hfl
      have S0 : Hid (Same fns0 fns0 0) := ⟨rfl, fun j _ _ => ⟨rfl, rfl, rfl, rfl, fun _ => rfl⟩⟩
      clear hp hst hfn ho HT
      go_wp2
      generalize w2.heap.size = wb at *
      go_loopw [12] (fun i wr => ∃ (k : Nat) (fns : List RF) (c : CS), k ≤ fns0.length ∧ i = .int .i64 k ∧ Hid (ReF w1.heap.size wb w1.heap.size x0.pl x0.ca g vl vc U (refT s l) (.slice fa fns0.length fc) sv fns fs c w1 wr) ∧ Hid (Same fns0 fns k) ∧ Hid (rallC fns0 d (tfs.drop k) k (fns, c) = AL)) (fun i _ => fns0.length - (intOf i).toNat)
      case atStart => exact ⟨0, fns0, _, by omega, rfl, R0, S0, HAL⟩
      case round =>
        clear R0 S0 HAL
        obtain ⟨k, fns, c, hk, rfl, HR, HS, HC⟩ := hrel
        have p0 := HR.out.k.pr.box.cell 0
        simp at p0
        have lp := blk_lt HR.out.k.pr
        have lw := blk_lt HR.out.k.wr
        by_cases hlt : k < fns0.length
        · have hkt : k < tfs.length := by omega
          have hfr := HY.out.fr k hlt hkt
          have hk' : k < fns.length := by rw [HS.out.len]; exact hlt
          have hsm := HS.out.eq k hk' hlt
          have hstep := rallC_step fns0 d tfs k hkt (fns, c)
          rw [HC.out] at hstep
          generalize tfs[k] = t at *
          obtain ⟨gf, rfl⟩ : ∃ gf, fa = some ⟨gf, 0, none⟩ := by obtain ⟨_, h, _⟩ := HR.out.k.fn; exact own_some h (by rw [HS.out.len]; omega)
          have lgf : gf < wr.heap.size := by obtain ⟨_, h, _⟩ := HR.out.k.fn; exact (h.lt gf rfl).2
          obtain ⟨tv, bv, vv, hc, htv, hbv, hvv⟩ := HR.out.k.fn.get hk'
          have hf1 : fns[k].name = toTk t.name := hsm.1.trans hfr.name
          have hf2 : fns[k].takes = t.params.map toTk := hsm.2.1.trans hfr.takes
          have hf3 : All2 (Flat k d fs) fns[k].body t.sts := by rw [hsm.2.2.1]; exact hfr.body
          have hf4 : fns[k].vars = [] := (hsm.2.2.2.2 (Nat.le_refl _)).trans hfr.vars
          have hf5 : fns[k].body.length ≤ 4001 := by rw [hsm.2.2.1]; exact hfr.blen
          have HSELF := hide1 (wv_self hk' hf4)
          have hcnt := hfr.cnt
          generalize fns[k] = f at hc htv hbv hvv hf1 hf2 hf3 hf4 hf5
          obtain ⟨ta, tl, tc, rfl⟩ := owns_form htv
          have htl := own_len htv
          subst htl
          obtain ⟨ba, bl, bc, rfl⟩ := owns_form hbv
          have hbl := own_len hbv
          subst hbl
          obtain ⟨xa, xl, xc, rfl⟩ := owns_form hvv
          have e0 := hc 0 (by omega)
          have e1 := hc 1 (by omega)
          have e2 := hc 2 (by omega)
          have e3 := hc 3 (by omega)
          have e4 := hc 4 (by omega)
          have e5 := hc 5 (by omega)
          have e6 := hc 6 (by omega)
          simp only [rfA, List.getElem?_toArray, List.getElem?_cons_zero, List.getElem?_cons_succ, Nat.add_zero] at e0 e1 e2 e3 e4 e5 e6
          have hkl : (k : Int) < (fns0.length : Int) := by omega
          have hsw : wr.heap.size ≠ wb := by omega
          have hsf : Value.ownBlock (.slice (some ⟨gf, 0, none⟩) fns0.length fc) ≠ some wr.heap.size := fun q => by simp [Value.ownBlock] at q; omega
          have G0 : Hid (ReG w1.heap.size wb w1.heap.size x0.pl x0.ca g vl vc U (refT s l) (.slice (some ⟨gf, 0, none⟩) fns0.length fc) sv fns fs wr.heap.size #[.string f.name.text, .int .i64 f.name.pos, .int .i64 f.name.sort, .slice ta f.takes.length tc, .slice ba f.body.length bc, .int .i64 f.br, .slice xa xl xc] (.slice ta f.takes.length tc) f.takes (.slice ba f.body.length bc) f.body c w1 (wr.alloc (.cells #[.string f.name.text, .int .i64 f.name.pos, .int .i64 f.name.sort, .slice ta f.takes.length tc, .slice ba f.body.length bc, .int .i64 f.br, .slice xa xl xc] 116))) := by
            have h1 := (Only.refl (fun _ => False) wr).alloc (.cells #[.string f.name.text, .int .i64 f.name.pos, .int .i64 f.name.sort, .slice ta f.takes.length tc, .slice ba f.body.length bc, .int .i64 f.br, .slice xa xl xc] 116)
            exact ⟨⟨HR.out.k.still h1, HR.out.tk.only h1 (fun q => q), HR.out.only.tr0 h1⟩, Box.new _ _ _, ownsRow_only htv h1 (fun _ _ q => q), ownsRow_only hbv h1 (fun _ _ q => q)⟩
          have HSTP := hide1 hstep
          have HF1 := hide1 hf1
          have HF2 := hide1 hf2
          have HF3 := hide1 hf3
          have hin' : ∀ vs', k < (wv fns k vs').length := fun vs' => by rw [wv_length]; exact hk'
          have hn' : ∀ vs', (wv fns k vs').length ≤ 4001 := fun vs' => by rw [wv_length, HS.out.len]; exact hfew
          have hnf : fns.length ≤ 4001 := by rw [HS.out.len]; exact hfew
          clear hc htv hbv hvv hstep HC HR hfr hsm hf1 hf2 hf3 hf4
          by_cases h12 : 12 ≤ k
          · by_cases hzz : fiR (fns0.map fun f => f.name.text) f.name.text 0 = (k : Int)
            · have k12 : decide ((12 : Int) ≤ (k : Int)) = true := by simp; omega
              have hz' : ((fiR (fns0.map fun f => f.name.text) f.name.text 0 : Int) != (k : Int)) = false := by simp [hzz]
              have hh : rheadC fns0 k t c = addR 4 t.name.place c := by
                unfold rheadC
                rw [show t.name.text = f.name.text by rw [HF1.out]; rfl]
                rw [if_pos hzz, if_pos h12]
              have HH := hide1 hh
              clear hh
              have HPOS : Hid (((f.name.pos : Nat) : Int) = ((t.name.place : Nat) : Int)) := by rw [HF1.out]; rfl
              go_wp2_with fail
              obtain ⟨W0, HW0⟩ : ∃ W0, wr.alloc (.cells #[.string f.name.text, .int .i64 f.name.pos, .int .i64 f.name.sort, .slice ta f.takes.length tc, .slice ba f.body.length bc, .int .i64 f.br, .slice xa xl xc] 116) = W0 := ⟨_, rfl⟩
              rw [HW0] at G0 ⊢
              have b0 := G0.out.box.cell 0
              have b1 := G0.out.box.cell 1
              have b3 := G0.out.box.cell 3
              have b4 := G0.out.box.cell 4
              have lbx := blk_lt G0.out.box
              simp only [List.getElem?_toArray, List.getElem?_cons_zero, List.getElem?_cons_succ] at b0 b1 b3 b4
              have lpx := blk_lt G0.out.r.k.pr
              rw [HPOS.out]
              refine (radd_any wb 4 t.name.place c _ G0.out.r.k.wr).mono ?_
              rintro e w3 ⟨rfl, hr3, ho3⟩
              have G1 := hide1 (G0.out.call (Nat.le_refl _) hwb hsw hsf (G0.out.r.k.add hr3 ho3) (KFr.ofOnly ho3))
              clear hr3 ho3 b0 b1 b3 b4 lbx
              have b0 := G1.out.box.cell 0
              have b1 := G1.out.box.cell 1
              have b3 := G1.out.box.cell 3
              have b4 := G1.out.box.cell 4
              have lbx := blk_lt G1.out.box
              simp only [List.getElem?_toArray, List.getElem?_cons_zero, List.getElem?_cons_succ] at b0 b1 b3 b4
              have lpx := blk_lt G1.out.r.k.pr
              go_wp2_with fail
              refine (func_any w1.heap.size w1.heap.size x0.pl x0.ca _ sv fns f.name.text _ G1.out.r.k.pr G1.out.r.k.fn hnf).mono ?_
              rw [HS.out.names]
              rintro e w4 ⟨rfl, hw⟩
              have hw := hw.symm
              subst hw
              have G9 := G1
              obtain ⟨c9, hc9⟩ : ∃ c9, addR 4 t.name.place c = c9 := ⟨_, rfl⟩
              rw [hc9] at G9
              have H9 : Hid (rheadC fns0 k t c = c9) := by rw [HH.out]; exact hc9
              clear hc9 HH
              clear b0 b1 b3 b4 lbx
              obtain ⟨vp, cp, hvp⟩ : ∃ a b, rparsC t.params ([], c9) = (a, b) := ⟨_, _, rfl⟩
              have hvl := rparsC_len t.params ([], c9)
              rw [hvp] at hvl
              simp only [List.length_nil, Nat.zero_add] at hvl
              have htk : f.takes.length = t.params.length := by rw [HF2.out]; simp
              have HP0 : Hid (rparsC (t.params.drop 0) ([], c9) = (vp, cp)) := hvp
              have G9' := G9
              rw [← HSELF.out] at G9'
              have HEND : Hid (rallC fns0 d (tfs.drop (k + 1)) (k + 1) (wv fns k (rkL fns0 d 1 t.sts (vp, cp)).1, (rkL fns0 d 1 t.sts (vp, cp)).2) = AL) := by
                have := HSTP.out
                unfold rfunC at this
                simp only [H9.out, hvp] at this
                exact this.symm
              clear hvp HSTP
              go_wp2
              go_loopw [14] (fun j wr2 => ∃ (m : Nat) (vs : List ByteArray) (c2 : CS), m ≤ f.takes.length ∧ j = .int .i64 m ∧ Hid (ReG w1.heap.size wb w1.heap.size x0.pl x0.ca g vl vc U (refT s l) (.slice (some ⟨gf, 0, none⟩) fns0.length fc) sv (wv fns k vs) fs wr.heap.size #[.string f.name.text, .int .i64 f.name.pos, .int .i64 f.name.sort, .slice ta f.takes.length tc, .slice ba f.body.length bc, .int .i64 f.br, .slice xa xl xc] (.slice ta f.takes.length tc) f.takes (.slice ba f.body.length bc) f.body c2 w1 wr2) ∧ vs.length = m ∧ Hid (rparsC (t.params.drop m) (vs, c2) = (vp, cp))) (fun j _ => f.takes.length - (intOf j).toNat)
              case atStart => exact ⟨0, [], c9, by omega, rfl, G9', rfl, HP0⟩
              case round =>
                clear G9 G9' HP0
                obtain ⟨m, vs, c2, hm, rfl, HG, hvs, HQ⟩ := hrel
                have b3 := HG.out.box.cell 3
                have b4 := HG.out.box.cell 4
                simp only [List.getElem?_toArray, List.getElem?_cons_zero, List.getElem?_cons_succ] at b3 b4
                have lbx := blk_lt HG.out.box
                have lp2 := blk_lt HG.out.r.k.pr
                have lw2 := blk_lt HG.out.r.k.wr
                by_cases hml : m < f.takes.length
                · obtain ⟨gt, rfl⟩ := own_some HG.out.trow (by omega)
                  obtain ⟨t0, t1, t2⟩ := tksCells_cell HG.out.trow hml
                  have lgt := (HG.out.trow.lt gt rfl).2
                  have hmp : m < t.params.length := by omega
                  have hst := rpars_step t.params m hmp (vs, c2)
                  rw [HQ.out] at hst
                  have hta : tokAt f.takes m = toTk t.params[m] := by rw [HF2.out]; exact tokAt_params _ _ hmp
                  generalize tokAt f.takes m = q at t0 t1 t2 hta
                  have HQ2 : Hid (rparsC (t.params.drop (m + 1)) (vs ++ [q.text], declR vs q c2) = (vp, cp)) := by rw [hta]; exact hst.symm
                  have hlm : (m : Int) < (f.takes.length : Int) := by omega
                  have hvv : ((wv fns k vs)[k]'(hin' vs)).vars = vs := wv_vars (hin' vs)
                  have HVV := hide1 hvv
                  clear hst hta HQ hvv
                  go_wp2_with fail
                  refine (rdeclare_any w1.heap.size wb w1.heap.size x0.pl x0.ca k U _ sv (wv fns k vs) fs c2 q _ HG.out.r.k (hin' _) (hn' _) (by rw [HVV.out]; omega)).mono ?_
                  rw [wv_more, HVV.out]
                  rintro e w6 ⟨rfl, hk6, hf6⟩
                  have HG6 := hide1 (HG.out.call (Nat.le_refl _) hwb hsw hsf hk6 hf6)
                  clear hk6 hf6 HG
                  go_wp2_with fail
                  exact ⟨⟨m + 1, _, _, by omega, by go_num, HG6, by simp [hvs], HQ2⟩, by simp [intOf]; omega⟩
                · have e : m = t.params.length := by omega
                  have hq : vs = vp ∧ c2 = cp := by
                    have := HQ.out
                    rw [e, List.drop_length] at this
                    simpa [rparsC] using this
                  obtain ⟨rfl, rfl⟩ := hq
                  have hlm : decide ((m : Int) < (f.takes.length : Int)) = false := by simp; omega
                  clear HQ
                  go_wp2_with fail
                  refine (look_all d w1.heap.size wb w1.heap.size x0.pl x0.ca k 1 U _ sv _ fns fs f.body t.sts vs c2 _ HG.out.r.k HG.out.brow HF3.out hk' hnf HY.out.fsn (by omega) hf5 HY.out.ual (by have := HY.out.dd; omega)).mono ?_
                  rw [HS.out.rkL]
                  rintro e w7 ⟨rfl, hk7, hf7⟩
                  have HG7 := hide1 (HG.out.call (Nat.le_refl _) hwb hsw hsf hk7 hf7)
                  clear hk7 hf7 HG
                  go_wp2_with fail
                  exact ⟨⟨k + 1, _, _, by omega, by go_num, HG7.out.r, HS.out.next _, HEND⟩, by simp [intOf]; omega⟩
            · have k12 : decide ((12 : Int) ≤ (k : Int)) = true := by simp; omega
              have hz' : ((fiR (fns0.map fun f => f.name.text) f.name.text 0 : Int) != (k : Int)) = true := by simp [hzz]
              have hh : rheadC fns0 k t c = addR 5 t.name.place (addR 4 t.name.place c) := by
                unfold rheadC
                rw [show t.name.text = f.name.text by rw [HF1.out]; rfl]
                rw [if_neg hzz, if_pos h12]
              have HH := hide1 hh
              clear hh
              have HPOS : Hid (((f.name.pos : Nat) : Int) = ((t.name.place : Nat) : Int)) := by rw [HF1.out]; rfl
              go_wp2_with fail
              obtain ⟨W0, HW0⟩ : ∃ W0, wr.alloc (.cells #[.string f.name.text, .int .i64 f.name.pos, .int .i64 f.name.sort, .slice ta f.takes.length tc, .slice ba f.body.length bc, .int .i64 f.br, .slice xa xl xc] 116) = W0 := ⟨_, rfl⟩
              rw [HW0] at G0 ⊢
              have b0 := G0.out.box.cell 0
              have b1 := G0.out.box.cell 1
              have b3 := G0.out.box.cell 3
              have b4 := G0.out.box.cell 4
              have lbx := blk_lt G0.out.box
              simp only [List.getElem?_toArray, List.getElem?_cons_zero, List.getElem?_cons_succ] at b0 b1 b3 b4
              have lpx := blk_lt G0.out.r.k.pr
              rw [HPOS.out]
              refine (radd_any wb 4 t.name.place c _ G0.out.r.k.wr).mono ?_
              rintro e w3 ⟨rfl, hr3, ho3⟩
              have G1 := hide1 (G0.out.call (Nat.le_refl _) hwb hsw hsf (G0.out.r.k.add hr3 ho3) (KFr.ofOnly ho3))
              clear hr3 ho3 b0 b1 b3 b4 lbx
              have b0 := G1.out.box.cell 0
              have b1 := G1.out.box.cell 1
              have b3 := G1.out.box.cell 3
              have b4 := G1.out.box.cell 4
              have lbx := blk_lt G1.out.box
              simp only [List.getElem?_toArray, List.getElem?_cons_zero, List.getElem?_cons_succ] at b0 b1 b3 b4
              have lpx := blk_lt G1.out.r.k.pr
              go_wp2_with fail
              refine (func_any w1.heap.size w1.heap.size x0.pl x0.ca _ sv fns f.name.text _ G1.out.r.k.pr G1.out.r.k.fn hnf).mono ?_
              rw [HS.out.names]
              rintro e w4 ⟨rfl, hw⟩
              have hw := hw.symm
              subst hw
              go_wp2_with fail
              rw [HPOS.out]
              refine (radd_any wb 5 t.name.place (addR 4 t.name.place c) _ G1.out.r.k.wr).mono ?_
              rintro e w5 ⟨rfl, hr5, ho5⟩
              have G9 := hide1 (G1.out.call (Nat.le_refl _) hwb hsw hsf (G1.out.r.k.add hr5 ho5) (KFr.ofOnly ho5))
              clear hr5 ho5 b0 b1 b3 b4 lbx
              have b0 := G9.out.box.cell 0
              have b1 := G9.out.box.cell 1
              have b3 := G9.out.box.cell 3
              have b4 := G9.out.box.cell 4
              have lbx := blk_lt G9.out.box
              simp only [List.getElem?_toArray, List.getElem?_cons_zero, List.getElem?_cons_succ] at b0 b1 b3 b4
              have lpx := blk_lt G9.out.r.k.pr
              obtain ⟨c9, hc9⟩ : ∃ c9, addR 5 t.name.place (addR 4 t.name.place c) = c9 := ⟨_, rfl⟩
              rw [hc9] at G9
              have H9 : Hid (rheadC fns0 k t c = c9) := by rw [HH.out]; exact hc9
              clear hc9 HH
              clear b0 b1 b3 b4 lbx
              obtain ⟨vp, cp, hvp⟩ : ∃ a b, rparsC t.params ([], c9) = (a, b) := ⟨_, _, rfl⟩
              have hvl := rparsC_len t.params ([], c9)
              rw [hvp] at hvl
              simp only [List.length_nil, Nat.zero_add] at hvl
              have htk : f.takes.length = t.params.length := by rw [HF2.out]; simp
              have HP0 : Hid (rparsC (t.params.drop 0) ([], c9) = (vp, cp)) := hvp
              have G9' := G9
              rw [← HSELF.out] at G9'
              have HEND : Hid (rallC fns0 d (tfs.drop (k + 1)) (k + 1) (wv fns k (rkL fns0 d 1 t.sts (vp, cp)).1, (rkL fns0 d 1 t.sts (vp, cp)).2) = AL) := by
                have := HSTP.out
                unfold rfunC at this
                simp only [H9.out, hvp] at this
                exact this.symm
              clear hvp HSTP
              go_wp2
              go_loopw [14] (fun j wr2 => ∃ (m : Nat) (vs : List ByteArray) (c2 : CS), m ≤ f.takes.length ∧ j = .int .i64 m ∧ Hid (ReG w1.heap.size wb w1.heap.size x0.pl x0.ca g vl vc U (refT s l) (.slice (some ⟨gf, 0, none⟩) fns0.length fc) sv (wv fns k vs) fs wr.heap.size #[.string f.name.text, .int .i64 f.name.pos, .int .i64 f.name.sort, .slice ta f.takes.length tc, .slice ba f.body.length bc, .int .i64 f.br, .slice xa xl xc] (.slice ta f.takes.length tc) f.takes (.slice ba f.body.length bc) f.body c2 w1 wr2) ∧ vs.length = m ∧ Hid (rparsC (t.params.drop m) (vs, c2) = (vp, cp))) (fun j _ => f.takes.length - (intOf j).toNat)
              case atStart => exact ⟨0, [], c9, by omega, rfl, G9', rfl, HP0⟩
              case round =>
                clear G9 G9' HP0
                obtain ⟨m, vs, c2, hm, rfl, HG, hvs, HQ⟩ := hrel
                have b3 := HG.out.box.cell 3
                have b4 := HG.out.box.cell 4
                simp only [List.getElem?_toArray, List.getElem?_cons_zero, List.getElem?_cons_succ] at b3 b4
                have lbx := blk_lt HG.out.box
                have lp2 := blk_lt HG.out.r.k.pr
                have lw2 := blk_lt HG.out.r.k.wr
                by_cases hml : m < f.takes.length
                · obtain ⟨gt, rfl⟩ := own_some HG.out.trow (by omega)
                  obtain ⟨t0, t1, t2⟩ := tksCells_cell HG.out.trow hml
                  have lgt := (HG.out.trow.lt gt rfl).2
                  have hmp : m < t.params.length := by omega
                  have hst := rpars_step t.params m hmp (vs, c2)
                  rw [HQ.out] at hst
                  have hta : tokAt f.takes m = toTk t.params[m] := by rw [HF2.out]; exact tokAt_params _ _ hmp
                  generalize tokAt f.takes m = q at t0 t1 t2 hta
                  have HQ2 : Hid (rparsC (t.params.drop (m + 1)) (vs ++ [q.text], declR vs q c2) = (vp, cp)) := by rw [hta]; exact hst.symm
                  have hlm : (m : Int) < (f.takes.length : Int) := by omega
                  have hvv : ((wv fns k vs)[k]'(hin' vs)).vars = vs := wv_vars (hin' vs)
                  have HVV := hide1 hvv
                  clear hst hta HQ hvv
                  go_wp2_with fail
                  refine (rdeclare_any w1.heap.size wb w1.heap.size x0.pl x0.ca k U _ sv (wv fns k vs) fs c2 q _ HG.out.r.k (hin' _) (hn' _) (by rw [HVV.out]; omega)).mono ?_
                  rw [wv_more, HVV.out]
                  rintro e w6 ⟨rfl, hk6, hf6⟩
                  have HG6 := hide1 (HG.out.call (Nat.le_refl _) hwb hsw hsf hk6 hf6)
                  clear hk6 hf6 HG
                  go_wp2_with fail
                  exact ⟨⟨m + 1, _, _, by omega, by go_num, HG6, by simp [hvs], HQ2⟩, by simp [intOf]; omega⟩
                · have e : m = t.params.length := by omega
                  have hq : vs = vp ∧ c2 = cp := by
                    have := HQ.out
                    rw [e, List.drop_length] at this
                    simpa [rparsC] using this
                  obtain ⟨rfl, rfl⟩ := hq
                  have hlm : decide ((m : Int) < (f.takes.length : Int)) = false := by simp; omega
                  clear HQ
                  go_wp2_with fail
                  refine (look_all d w1.heap.size wb w1.heap.size x0.pl x0.ca k 1 U _ sv _ fns fs f.body t.sts vs c2 _ HG.out.r.k HG.out.brow HF3.out hk' hnf HY.out.fsn (by omega) hf5 HY.out.ual (by have := HY.out.dd; omega)).mono ?_
                  rw [HS.out.rkL]
                  rintro e w7 ⟨rfl, hk7, hf7⟩
                  have HG7 := hide1 (HG.out.call (Nat.le_refl _) hwb hsw hsf hk7 hf7)
                  clear hk7 hf7 HG
                  go_wp2_with fail
                  exact ⟨⟨k + 1, _, _, by omega, by go_num, HG7.out.r, HS.out.next _, HEND⟩, by simp [intOf]; omega⟩
          · by_cases hzz : fiR (fns0.map fun f => f.name.text) f.name.text 0 = (k : Int)
            · have k12 : decide ((12 : Int) ≤ (k : Int)) = false := by simp; omega
              have hz' : ((fiR (fns0.map fun f => f.name.text) f.name.text 0 : Int) != (k : Int)) = false := by simp [hzz]
              have hh : rheadC fns0 k t c = c := by
                unfold rheadC
                rw [show t.name.text = f.name.text by rw [HF1.out]; rfl]
                rw [if_pos hzz, if_neg h12]
              have HH := hide1 hh
              clear hh
              have HPOS : Hid (((f.name.pos : Nat) : Int) = ((t.name.place : Nat) : Int)) := by rw [HF1.out]; rfl
              go_wp2_with fail
              obtain ⟨W0, HW0⟩ : ∃ W0, wr.alloc (.cells #[.string f.name.text, .int .i64 f.name.pos, .int .i64 f.name.sort, .slice ta f.takes.length tc, .slice ba f.body.length bc, .int .i64 f.br, .slice xa xl xc] 116) = W0 := ⟨_, rfl⟩
              rw [HW0] at G0 ⊢
              have b0 := G0.out.box.cell 0
              have b1 := G0.out.box.cell 1
              have b3 := G0.out.box.cell 3
              have b4 := G0.out.box.cell 4
              have lbx := blk_lt G0.out.box
              simp only [List.getElem?_toArray, List.getElem?_cons_zero, List.getElem?_cons_succ] at b0 b1 b3 b4
              have lpx := blk_lt G0.out.r.k.pr
              refine (func_any w1.heap.size w1.heap.size x0.pl x0.ca _ sv fns f.name.text _ G0.out.r.k.pr G0.out.r.k.fn hnf).mono ?_
              rw [HS.out.names]
              rintro e w4 ⟨rfl, hw⟩
              have hw := hw.symm
              subst hw
              have G9 := G0
              obtain ⟨c9, hc9⟩ : ∃ c9, c = c9 := ⟨_, rfl⟩
              rw [hc9] at G9
              have H9 : Hid (rheadC fns0 k t c = c9) := by rw [HH.out]; exact hc9
              clear hc9 HH
              clear b0 b1 b3 b4 lbx
              obtain ⟨vp, cp, hvp⟩ : ∃ a b, rparsC t.params ([], c9) = (a, b) := ⟨_, _, rfl⟩
              have hvl := rparsC_len t.params ([], c9)
              rw [hvp] at hvl
              simp only [List.length_nil, Nat.zero_add] at hvl
              have htk : f.takes.length = t.params.length := by rw [HF2.out]; simp
              have HP0 : Hid (rparsC (t.params.drop 0) ([], c9) = (vp, cp)) := hvp
              have G9' := G9
              rw [← HSELF.out] at G9'
              have HEND : Hid (rallC fns0 d (tfs.drop (k + 1)) (k + 1) (wv fns k (rkL fns0 d 1 t.sts (vp, cp)).1, (rkL fns0 d 1 t.sts (vp, cp)).2) = AL) := by
                have := HSTP.out
                unfold rfunC at this
                simp only [H9.out, hvp] at this
                exact this.symm
              clear hvp HSTP
              go_wp2
              go_loopw [14] (fun j wr2 => ∃ (m : Nat) (vs : List ByteArray) (c2 : CS), m ≤ f.takes.length ∧ j = .int .i64 m ∧ Hid (ReG w1.heap.size wb w1.heap.size x0.pl x0.ca g vl vc U (refT s l) (.slice (some ⟨gf, 0, none⟩) fns0.length fc) sv (wv fns k vs) fs wr.heap.size #[.string f.name.text, .int .i64 f.name.pos, .int .i64 f.name.sort, .slice ta f.takes.length tc, .slice ba f.body.length bc, .int .i64 f.br, .slice xa xl xc] (.slice ta f.takes.length tc) f.takes (.slice ba f.body.length bc) f.body c2 w1 wr2) ∧ vs.length = m ∧ Hid (rparsC (t.params.drop m) (vs, c2) = (vp, cp))) (fun j _ => f.takes.length - (intOf j).toNat)
              case atStart => exact ⟨0, [], c9, by omega, rfl, G9', rfl, HP0⟩
              case round =>
                clear G9 G9' HP0
                obtain ⟨m, vs, c2, hm, rfl, HG, hvs, HQ⟩ := hrel
                have b3 := HG.out.box.cell 3
                have b4 := HG.out.box.cell 4
                simp only [List.getElem?_toArray, List.getElem?_cons_zero, List.getElem?_cons_succ] at b3 b4
                have lbx := blk_lt HG.out.box
                have lp2 := blk_lt HG.out.r.k.pr
                have lw2 := blk_lt HG.out.r.k.wr
                by_cases hml : m < f.takes.length
                · obtain ⟨gt, rfl⟩ := own_some HG.out.trow (by omega)
                  obtain ⟨t0, t1, t2⟩ := tksCells_cell HG.out.trow hml
                  have lgt := (HG.out.trow.lt gt rfl).2
                  have hmp : m < t.params.length := by omega
                  have hst := rpars_step t.params m hmp (vs, c2)
                  rw [HQ.out] at hst
                  have hta : tokAt f.takes m = toTk t.params[m] := by rw [HF2.out]; exact tokAt_params _ _ hmp
                  generalize tokAt f.takes m = q at t0 t1 t2 hta
                  have HQ2 : Hid (rparsC (t.params.drop (m + 1)) (vs ++ [q.text], declR vs q c2) = (vp, cp)) := by rw [hta]; exact hst.symm
                  have hlm : (m : Int) < (f.takes.length : Int) := by omega
                  have hvv : ((wv fns k vs)[k]'(hin' vs)).vars = vs := wv_vars (hin' vs)
                  have HVV := hide1 hvv
                  clear hst hta HQ hvv
                  go_wp2_with fail
                  refine (rdeclare_any w1.heap.size wb w1.heap.size x0.pl x0.ca k U _ sv (wv fns k vs) fs c2 q _ HG.out.r.k (hin' _) (hn' _) (by rw [HVV.out]; omega)).mono ?_
                  rw [wv_more, HVV.out]
                  rintro e w6 ⟨rfl, hk6, hf6⟩
                  have HG6 := hide1 (HG.out.call (Nat.le_refl _) hwb hsw hsf hk6 hf6)
                  clear hk6 hf6 HG
                  go_wp2_with fail
                  exact ⟨⟨m + 1, _, _, by omega, by go_num, HG6, by simp [hvs], HQ2⟩, by simp [intOf]; omega⟩
                · have e : m = t.params.length := by omega
                  have hq : vs = vp ∧ c2 = cp := by
                    have := HQ.out
                    rw [e, List.drop_length] at this
                    simpa [rparsC] using this
                  obtain ⟨rfl, rfl⟩ := hq
                  have hlm : decide ((m : Int) < (f.takes.length : Int)) = false := by simp; omega
                  clear HQ
                  go_wp2_with fail
                  refine (look_all d w1.heap.size wb w1.heap.size x0.pl x0.ca k 1 U _ sv _ fns fs f.body t.sts vs c2 _ HG.out.r.k HG.out.brow HF3.out hk' hnf HY.out.fsn (by omega) hf5 HY.out.ual (by have := HY.out.dd; omega)).mono ?_
                  rw [HS.out.rkL]
                  rintro e w7 ⟨rfl, hk7, hf7⟩
                  have HG7 := hide1 (HG.out.call (Nat.le_refl _) hwb hsw hsf hk7 hf7)
                  clear hk7 hf7 HG
                  go_wp2_with fail
                  exact ⟨⟨k + 1, _, _, by omega, by go_num, HG7.out.r, HS.out.next _, HEND⟩, by simp [intOf]; omega⟩
            · have k12 : decide ((12 : Int) ≤ (k : Int)) = false := by simp; omega
              have hz' : ((fiR (fns0.map fun f => f.name.text) f.name.text 0 : Int) != (k : Int)) = true := by simp [hzz]
              have hh : rheadC fns0 k t c = addR 5 t.name.place (c) := by
                unfold rheadC
                rw [show t.name.text = f.name.text by rw [HF1.out]; rfl]
                rw [if_neg hzz, if_neg h12]
              have HH := hide1 hh
              clear hh
              have HPOS : Hid (((f.name.pos : Nat) : Int) = ((t.name.place : Nat) : Int)) := by rw [HF1.out]; rfl
              go_wp2_with fail
              obtain ⟨W0, HW0⟩ : ∃ W0, wr.alloc (.cells #[.string f.name.text, .int .i64 f.name.pos, .int .i64 f.name.sort, .slice ta f.takes.length tc, .slice ba f.body.length bc, .int .i64 f.br, .slice xa xl xc] 116) = W0 := ⟨_, rfl⟩
              rw [HW0] at G0 ⊢
              have b0 := G0.out.box.cell 0
              have b1 := G0.out.box.cell 1
              have b3 := G0.out.box.cell 3
              have b4 := G0.out.box.cell 4
              have lbx := blk_lt G0.out.box
              simp only [List.getElem?_toArray, List.getElem?_cons_zero, List.getElem?_cons_succ] at b0 b1 b3 b4
              have lpx := blk_lt G0.out.r.k.pr
              refine (func_any w1.heap.size w1.heap.size x0.pl x0.ca _ sv fns f.name.text _ G0.out.r.k.pr G0.out.r.k.fn hnf).mono ?_
              rw [HS.out.names]
              rintro e w4 ⟨rfl, hw⟩
              have hw := hw.symm
              subst hw
              go_wp2_with fail
              rw [HPOS.out]
              refine (radd_any wb 5 t.name.place (c) _ G0.out.r.k.wr).mono ?_
              rintro e w5 ⟨rfl, hr5, ho5⟩
              have G9 := hide1 (G0.out.call (Nat.le_refl _) hwb hsw hsf (G0.out.r.k.add hr5 ho5) (KFr.ofOnly ho5))
              clear hr5 ho5 b0 b1 b3 b4 lbx
              have b0 := G9.out.box.cell 0
              have b1 := G9.out.box.cell 1
              have b3 := G9.out.box.cell 3
              have b4 := G9.out.box.cell 4
              have lbx := blk_lt G9.out.box
              simp only [List.getElem?_toArray, List.getElem?_cons_zero, List.getElem?_cons_succ] at b0 b1 b3 b4
              have lpx := blk_lt G9.out.r.k.pr
              obtain ⟨c9, hc9⟩ : ∃ c9, addR 5 t.name.place (c) = c9 := ⟨_, rfl⟩
              rw [hc9] at G9
              have H9 : Hid (rheadC fns0 k t c = c9) := by rw [HH.out]; exact hc9
              clear hc9 HH
              clear b0 b1 b3 b4 lbx
              obtain ⟨vp, cp, hvp⟩ : ∃ a b, rparsC t.params ([], c9) = (a, b) := ⟨_, _, rfl⟩
              have hvl := rparsC_len t.params ([], c9)
              rw [hvp] at hvl
              simp only [List.length_nil, Nat.zero_add] at hvl
              have htk : f.takes.length = t.params.length := by rw [HF2.out]; simp
              have HP0 : Hid (rparsC (t.params.drop 0) ([], c9) = (vp, cp)) := hvp
              have G9' := G9
              rw [← HSELF.out] at G9'
              have HEND : Hid (rallC fns0 d (tfs.drop (k + 1)) (k + 1) (wv fns k (rkL fns0 d 1 t.sts (vp, cp)).1, (rkL fns0 d 1 t.sts (vp, cp)).2) = AL) := by
                have := HSTP.out
                unfold rfunC at this
                simp only [H9.out, hvp] at this
                exact this.symm
              clear hvp HSTP
              go_wp2
              go_loopw [14] (fun j wr2 => ∃ (m : Nat) (vs : List ByteArray) (c2 : CS), m ≤ f.takes.length ∧ j = .int .i64 m ∧ Hid (ReG w1.heap.size wb w1.heap.size x0.pl x0.ca g vl vc U (refT s l) (.slice (some ⟨gf, 0, none⟩) fns0.length fc) sv (wv fns k vs) fs wr.heap.size #[.string f.name.text, .int .i64 f.name.pos, .int .i64 f.name.sort, .slice ta f.takes.length tc, .slice ba f.body.length bc, .int .i64 f.br, .slice xa xl xc] (.slice ta f.takes.length tc) f.takes (.slice ba f.body.length bc) f.body c2 w1 wr2) ∧ vs.length = m ∧ Hid (rparsC (t.params.drop m) (vs, c2) = (vp, cp))) (fun j _ => f.takes.length - (intOf j).toNat)
              case atStart => exact ⟨0, [], c9, by omega, rfl, G9', rfl, HP0⟩
              case round =>
                clear G9 G9' HP0
                obtain ⟨m, vs, c2, hm, rfl, HG, hvs, HQ⟩ := hrel
                have b3 := HG.out.box.cell 3
                have b4 := HG.out.box.cell 4
                simp only [List.getElem?_toArray, List.getElem?_cons_zero, List.getElem?_cons_succ] at b3 b4
                have lbx := blk_lt HG.out.box
                have lp2 := blk_lt HG.out.r.k.pr
                have lw2 := blk_lt HG.out.r.k.wr
                by_cases hml : m < f.takes.length
                · obtain ⟨gt, rfl⟩ := own_some HG.out.trow (by omega)
                  obtain ⟨t0, t1, t2⟩ := tksCells_cell HG.out.trow hml
                  have lgt := (HG.out.trow.lt gt rfl).2
                  have hmp : m < t.params.length := by omega
                  have hst := rpars_step t.params m hmp (vs, c2)
                  rw [HQ.out] at hst
                  have hta : tokAt f.takes m = toTk t.params[m] := by rw [HF2.out]; exact tokAt_params _ _ hmp
                  generalize tokAt f.takes m = q at t0 t1 t2 hta
                  have HQ2 : Hid (rparsC (t.params.drop (m + 1)) (vs ++ [q.text], declR vs q c2) = (vp, cp)) := by rw [hta]; exact hst.symm
                  have hlm : (m : Int) < (f.takes.length : Int) := by omega
                  have hvv : ((wv fns k vs)[k]'(hin' vs)).vars = vs := wv_vars (hin' vs)
                  have HVV := hide1 hvv
                  clear hst hta HQ hvv
                  go_wp2_with fail
                  refine (rdeclare_any w1.heap.size wb w1.heap.size x0.pl x0.ca k U _ sv (wv fns k vs) fs c2 q _ HG.out.r.k (hin' _) (hn' _) (by rw [HVV.out]; omega)).mono ?_
                  rw [wv_more, HVV.out]
                  rintro e w6 ⟨rfl, hk6, hf6⟩
                  have HG6 := hide1 (HG.out.call (Nat.le_refl _) hwb hsw hsf hk6 hf6)
                  clear hk6 hf6 HG
                  go_wp2_with fail
                  exact ⟨⟨m + 1, _, _, by omega, by go_num, HG6, by simp [hvs], HQ2⟩, by simp [intOf]; omega⟩
                · have e : m = t.params.length := by omega
                  have hq : vs = vp ∧ c2 = cp := by
                    have := HQ.out
                    rw [e, List.drop_length] at this
                    simpa [rparsC] using this
                  obtain ⟨rfl, rfl⟩ := hq
                  have hlm : decide ((m : Int) < (f.takes.length : Int)) = false := by simp; omega
                  clear HQ
                  go_wp2_with fail
                  refine (look_all d w1.heap.size wb w1.heap.size x0.pl x0.ca k 1 U _ sv _ fns fs f.body t.sts vs c2 _ HG.out.r.k HG.out.brow HF3.out hk' hnf HY.out.fsn (by omega) hf5 HY.out.ual (by have := HY.out.dd; omega)).mono ?_
                  rw [HS.out.rkL]
                  rintro e w7 ⟨rfl, hk7, hf7⟩
                  have HG7 := hide1 (HG.out.call (Nat.le_refl _) hwb hsw hsf hk7 hf7)
                  clear hk7 hf7 HG
                  go_wp2_with fail
                  exact ⟨⟨k + 1, _, _, by omega, by go_num, HG7.out.r, HS.out.next _, HEND⟩, by simp [intOf]; omega⟩
        · have e : k = fns0.length := by omega
          have hal : AL = (fns, c) := by have := HC.out; rw [e, hlen, List.drop_length] at this; exact this.symm
          subst hal
          have hkl2 : decide ((k : Int) < (fns0.length : Int)) = false := by simp; omega
          have hnf : fns.length ≤ 4001 := by rw [HS.out.len]; exact hfew
          have hC9 := HC9.out
          unfold finC at hC9
          have hmem := fiR_mem (fns0.map fun f => f.name.text) ⟨#[109, 97, 105, 110]⟩ 0
          clear HC HC9
          simp only at hC9
          by_cases hz0 : 0 ≤ fiR (fns0.map fun f => f.name.text) ⟨#[109, 97, 105, 110]⟩ 0
          · obtain ⟨i, hi⟩ : ∃ i : Nat, fiR (fns0.map fun f => f.name.text) ⟨#[109, 97, 105, 110]⟩ 0 = i := ⟨(fiR (fns0.map fun f => f.name.text) ⟨#[109, 97, 105, 110]⟩ 0).toNat, by omega⟩
            have hil : i < fns0.length := by have := hmem.2.2; simp only [List.length_map] at this; omega
            have hil' : i < fns.length := by rw [HS.out.len]; exact hil
            have hse := HS.out.eq i hil' hil
            obtain ⟨gf, rfl⟩ : ∃ gf, fa = some ⟨gf, 0, none⟩ := by obtain ⟨_, h, _⟩ := HR.out.k.fn; exact own_some h (by omega)
            have lgf : gf < wr.heap.size := by obtain ⟨_, h, _⟩ := HR.out.k.fn; exact (h.lt gf rfl).2
            obtain ⟨tv, bv, vv, hcc, htv, _, _⟩ := HR.out.k.fn.get hil'
            have e3 := hcc 3 (by omega)
            simp only [rfA, List.getElem?_toArray, List.getElem?_cons_zero, List.getElem?_cons_succ] at e3
            obtain ⟨ta, tl, tc, rfl⟩ := owns_form htv
            have htl := own_len htv
            have hgo : (((fns0.map fun f => f.takes.length)[i]?).getD 0 : Nat) = tl := by rw [List.getElem?_map, List.getElem?_eq_getElem hil, htl, hse.2.1]; rfl
            rw [hi] at hC9
            simp only [Int.toNat_natCast, hgo] at hC9
            have hii : (i : Int) < (fns0.length : Int) := by omega
            have hi0 : decide ((i : Int) < 0) = false := by simp
            clear hcc htv hse hgo hz0 hmem htl
            by_cases ht0 : tl = 0
            · rw [if_pos ⟨by omega, ht0⟩] at hC9
              have ht' : decide ((0 : Int) < (tl : Int)) = false := by simp; omega
              go_wp2_with fail
              refine (func_any w1.heap.size w1.heap.size x0.pl x0.ca _ sv fns ⟨#[109, 97, 105, 110]⟩ _ HR.out.k.pr HR.out.k.fn hnf).mono ?_
              rw [HS.out.names, hi]
              rintro e w9 ⟨rfl, hw⟩
              subst hw
              have R9 : Hid (ReF w1.heap.size wb w1.heap.size x0.pl x0.ca g vl vc U (refT s l) (.slice (some ⟨gf, 0, none⟩) fns0.length fc) sv fns fs C9 w1 w9) := by rw [← hC9]; exact HR.out
              clear hC9
              have r0 := Box.cell R9.out.k.wr 0
              have r1 := Box.cell R9.out.k.wr 1
              have lr9 := blk_lt R9.out.k.wr
              simp only [List.getElem?_toArray, List.getElem?_cons_zero, List.getElem?_cons_succ] at r0 r1
              have HB9 : Hid (∀ W', Only (fun _ => False) w9 W' → Below w.heap.size w W') := fun W' hW => HB1.out.trans ((R9.out.only.tr0 hW).belowB hzw (fun _ q => q.elim))
              by_cases hf0 : C9.fault = 0
              · have hf0' : ((C9.fault : Int) != 0) = false := by simp [hf0]
                have HF0 := hide1 hf0
                clear hf0
                go_wp2_with fail
                refine bodyPost_ret (v := .tuple #[.pointer (some ⟨w1.heap.size, 0, none⟩), .slice (some ⟨g, 0, none⟩) vl vc, .int .i64 0, .int .i64 0]) (by simp [results, Tryz.results16, go_sem]) rfl ?_
                unfold rdFin
                rw [if_pos HF0.out, hn]
                exact ⟨w1.heap.size, w1.heap.size, g, vc, U, _, sv, rfl, R9.out.tk, hgb, R9.out.k.pr, hzw, R9.out.k.fn, hzw, R9.out.k.st, HB9.out _ (Only.refl _ _)⟩
              · have hf0' : ((C9.fault : Int) != 0) = true := by simp [hf0]
                have HF0 := hide1 hf0
                clear hf0
                go_wp2_with fail
                go_region
                go_wp2
                refine bodyPost_ret (v := .tuple #[.pointer none, .slice none 0 0, .int .i64 C9.fault, .int .i64 C9.place]) (by simp [results, Tryz.results16, go_sem]) rfl ?_
                unfold rdFin
                rw [if_neg HF0.out]
                exact ⟨rfl, HB9.out _ (by repeat (first | exact Only.refl _ _ | refine Only.drew ?_ | refine Only.drewN ?_ _ | refine Only.alloc ?_ _))⟩
            · rw [if_neg (fun q => ht0 q.2)] at hC9
              have hc9 := hC9.symm
              have ht' : decide ((0 : Int) < (tl : Int)) = true := by simp; omega
              clear hC9
              go_wp2_with fail
              refine (func_any w1.heap.size w1.heap.size x0.pl x0.ca _ sv fns ⟨#[109, 97, 105, 110]⟩ _ HR.out.k.pr HR.out.k.fn hnf).mono ?_
              rw [HS.out.names, hi]
              rintro e w8 ⟨rfl, hw⟩
              have hw := hw.symm
              subst hw
              go_wp2_with fail
              refine (radd_any wb 6 s.size c _ HR.out.k.wr).mono ?_
              rintro e w9 ⟨rfl, hr9, ho9⟩
              have R9 : Hid (ReF w1.heap.size wb w1.heap.size x0.pl x0.ca g vl vc U (refT s l) (.slice (some ⟨gf, 0, none⟩) fns0.length fc) sv fns fs C9 w1 w9) := by
                rw [hc9]
                exact HR.out.call (Nat.le_refl _) hwb (HR.out.k.add hr9 ho9) (KFr.ofOnly ho9)
              clear hr9 ho9 p0 lp lw HR hc9
              have r0 := Box.cell R9.out.k.wr 0
              have r1 := Box.cell R9.out.k.wr 1
              have lr9 := blk_lt R9.out.k.wr
              simp only [List.getElem?_toArray, List.getElem?_cons_zero, List.getElem?_cons_succ] at r0 r1
              have HB9 : Hid (∀ W', Only (fun _ => False) w9 W' → Below w.heap.size w W') := fun W' hW => HB1.out.trans ((R9.out.only.tr0 hW).belowB hzw (fun _ q => q.elim))
              by_cases hf0 : C9.fault = 0
              · have hf0' : ((C9.fault : Int) != 0) = false := by simp [hf0]
                have HF0 := hide1 hf0
                clear hf0
                go_wp2_with fail
                refine bodyPost_ret (v := .tuple #[.pointer (some ⟨w1.heap.size, 0, none⟩), .slice (some ⟨g, 0, none⟩) vl vc, .int .i64 0, .int .i64 0]) (by simp [results, Tryz.results16, go_sem]) rfl ?_
                unfold rdFin
                rw [if_pos HF0.out, hn]
                exact ⟨w1.heap.size, w1.heap.size, g, vc, U, _, sv, rfl, R9.out.tk, hgb, R9.out.k.pr, hzw, R9.out.k.fn, hzw, R9.out.k.st, HB9.out _ (Only.refl _ _)⟩
              · have hf0' : ((C9.fault : Int) != 0) = true := by simp [hf0]
                have HF0 := hide1 hf0
                clear hf0
                go_wp2_with fail
                go_region
                go_wp2
                refine bodyPost_ret (v := .tuple #[.pointer none, .slice none 0 0, .int .i64 C9.fault, .int .i64 C9.place]) (by simp [results, Tryz.results16, go_sem]) rfl ?_
                unfold rdFin
                rw [if_neg HF0.out]
                exact ⟨rfl, HB9.out _ (by repeat (first | exact Only.refl _ _ | refine Only.drew ?_ | refine Only.drewN ?_ _ | refine Only.alloc ?_ _))⟩
          · have hi : fiR (fns0.map fun f => f.name.text) ⟨#[109, 97, 105, 110]⟩ 0 = -1 := by have := hmem.2.1; omega
            rw [if_neg (fun q => hz0 q.1)] at hC9
            have hc9 := hC9.symm
            clear hC9 hz0 hmem
            go_wp2_with fail
            refine (func_any w1.heap.size w1.heap.size x0.pl x0.ca _ sv fns ⟨#[109, 97, 105, 110]⟩ _ HR.out.k.pr HR.out.k.fn hnf).mono ?_
            rw [HS.out.names, hi]
            rintro e w8 ⟨rfl, hw⟩
            have hw := hw.symm
            subst hw
            go_wp2_with fail
            refine (radd_any wb 6 s.size c _ HR.out.k.wr).mono ?_
            rintro e w9 ⟨rfl, hr9, ho9⟩
            have R9 : Hid (ReF w1.heap.size wb w1.heap.size x0.pl x0.ca g vl vc U (refT s l) (.slice fa fns0.length fc) sv fns fs C9 w1 w9) := by
              rw [hc9]
              exact HR.out.call (Nat.le_refl _) hwb (HR.out.k.add hr9 ho9) (KFr.ofOnly ho9)
            clear hr9 ho9 p0 lp lw HR hc9
            have r0 := Box.cell R9.out.k.wr 0
            have r1 := Box.cell R9.out.k.wr 1
            have lr9 := blk_lt R9.out.k.wr
            simp only [List.getElem?_toArray, List.getElem?_cons_zero, List.getElem?_cons_succ] at r0 r1
            have HB9 : Hid (∀ W', Only (fun _ => False) w9 W' → Below w.heap.size w W') := fun W' hW => HB1.out.trans ((R9.out.only.tr0 hW).belowB hzw (fun _ q => q.elim))
            by_cases hf0 : C9.fault = 0
            · have hf0' : ((C9.fault : Int) != 0) = false := by simp [hf0]
              have HF0 := hide1 hf0
              clear hf0
              go_wp2_with fail
              refine bodyPost_ret (v := .tuple #[.pointer (some ⟨w1.heap.size, 0, none⟩), .slice (some ⟨g, 0, none⟩) vl vc, .int .i64 0, .int .i64 0]) (by simp [results, Tryz.results16, go_sem]) rfl ?_
              unfold rdFin
              rw [if_pos HF0.out, hn]
              exact ⟨w1.heap.size, w1.heap.size, g, vc, U, _, sv, rfl, R9.out.tk, hgb, R9.out.k.pr, hzw, R9.out.k.fn, hzw, R9.out.k.st, HB9.out _ (Only.refl _ _)⟩
            · have hf0' : ((C9.fault : Int) != 0) = true := by simp [hf0]
              have HF0 := hide1 hf0
              clear hf0
              go_wp2_with fail
              go_region
              go_wp2
              refine bodyPost_ret (v := .tuple #[.pointer none, .slice none 0 0, .int .i64 C9.fault, .int .i64 C9.place]) (by simp [results, Tryz.results16, go_sem]) rfl ?_
              unfold rdFin
              rw [if_neg HF0.out]
              exact ⟨rfl, HB9.out _ (by repeat (first | exact Only.refl _ _ | refine Only.drew ?_ | refine Only.drewN ?_ _ | refine Only.alloc ?_ _))⟩

end Go.Proofs.YtgbmakpdjdigmaaGreatDoor

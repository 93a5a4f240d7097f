/- CkD CkE: told at each. -/
import Derived.Test.YtgbmakpdjdigmaaGreatDoorG12
import Derived.Test.YtgbmakpdjdigmaaGreatDoorG11

/- The program's checker: the functions' row read; called. -/
namespace Go.Proofs.YtgbmakpdjdigmaaGreatDoor
open Go.RowKit Go.Maps

theorem flat_at : ∀ {css : List (List Value)} {s : Nat}, (∀ c, c ∈ css → c.length = s) → ∀ {j i : Nat} (hj : j < css.length), i < s → css.flatten[j * s + i]? = css[j][i]?
  | [], _, _, _, _, hj, _ => by simp at hj
  | c :: css, s, hs, 0, i, _, hi => by
    have hc := hs c (by simp)
    simp only [Nat.zero_mul, Nat.zero_add, List.flatten_cons, List.getElem_cons_zero]
    rw [List.getElem?_append_left (by omega)]
  | c :: css, s, hs, j + 1, i, hj, hi => by
    have hc := hs c (by simp)
    have hj' : j < css.length := by simpa using hj
    have e : (j + 1) * s + i = s + (j * s + i) := by rw [Nat.succ_mul]; omega
    simp only [List.flatten_cons, List.getElem_cons_succ]
    rw [e, List.getElem?_append_right (by omega), hc, Nat.add_sub_cancel_left]
    exact flat_at (fun x hx => hs x (by simp [hx])) hj' hi
theorem PRow.only {d : Nat} {U : Nat → Prop} {w w' : World} {sv : Value} {fns : List TF} {X : Nat → Prop} (h : PRow d U w sv fns) (ho : Only X w w') (hx : ∀ k, U k → ¬ X k) : PRow d U w' sv fns := by
  obtain ⟨css, h1, h2, h3, h4⟩ := h
  exact ⟨css, ownsRow_only h1 ho (fun k hk => hx k (h3 k hk)), h2, h3, fun j g g' => (h4 j g g').only ho hx⟩
/-- A function of the row, its cells. -/
theorem PRow.get {d : Nat} {U : Nat → Prop} {w : World} {g l c : Nat} {fns : List TF} (h : PRow d U w (.slice (some ⟨g, 0, none⟩) l c) fns) {j : Nat} (hj : j < fns.length) :
    ∃ (av sv : Value), (∀ i, i < 5 → w.cell? ⟨g, j * 5 + i, none⟩ = (fnC fns[j] av sv)[i]?) ∧ w.ownsRow 0 197 2 av fns[j].params.length (nmsCells fns[j].params) ∧ (∀ k, av.ownBlock = some k → U k) ∧ TRow d U w sv fns[j].sts := by
  obtain ⟨css, h1, h2, h3, h4⟩ := h
  have hvl := own_len h1
  subst hvl
  have hj' : j < css.length := by omega
  obtain ⟨av, sv, e, r1, r2, r3⟩ := h4 j hj hj'
  have hs : ∀ x, x ∈ css → x.length = 5 := by
    intro x hx
    obtain ⟨i, hi, rfl⟩ := List.mem_iff_getElem.1 hx
    obtain ⟨_, _, e', _⟩ := h4 i (by omega) hi
    rw [e']; rfl
  refine ⟨av, sv, fun i hi => ?_, r1, r2, r3⟩
  have hc := h1.cellAt (j * 5 + i) (by omega)
  rw [hc, flat_at hs hj' hi, e]
  simp
/-- The map of the functions' names leads into the row. -/
def FnsIn (F : DataW Unit) (N : Nat) : Prop := ∀ s, Maps.has F (keyS s) = true → ∃ j : Nat, j < N ∧ F.atKey (keyS s) (.lit (.int .i64 0)) = .lit (.int .i64 j)
def idxOf (F : DataW Unit) (s : ByteArray) : Nat := match F.atKey (keyS s) (.lit (.int .i64 0)) with | .lit (.int _ z) => z.toNat | _ => 0
def parN (fns : List TF) (j : Nat) : Nat := (fns[j]?.map (fun t => t.params.length)).getD 0
/-- A call of a name with so many arguments. -/
def calledC (F : DataW Unit) (fns : List TF) (t : PT) (a : Nat) (c : CS) : CS :=
  if Maps.has F (keyS t.text) then (if parN fns (idxOf F t.text) = a then c else repC 7 t.place c) else repC 6 t.place c

set_option maxRecDepth 100000 in
set_option maxHeartbeats 1000000 in
theorem called_any (b d : Nat) (U : Nat → Prop) (fs : Value) (fns : List TF) (stop : Int) (mv : Value) (m n : Nat) (F : DataW Unit) (c : CS) (t : PT) (a : Nat) (w : World) (hr : CkBlk b fs stop (.map (some m)) mv c w) (hm : MapAt m n F w) (hp : PRow d U w fs fns) (hN : FnsIn F fns.length) (hl : t.text.size ≤ 4000) (hk : fns.length ≤ 4001) :
    Calls Tryz.prog 235 #[.pointer (some ⟨b, 0, none⟩), nmV t, .int .i64 a] w fun e w' => e = .returned (.tuple #[]) ∧ CkBlk b fs stop (.map (some m)) mv (calledC F fns t a c) w' ∧ Only (fun k => k = b) w w' := by
  have r0 := blk_cell hr 0
  have r2 := blk_cell hr 2
  simp only [List.getElem?_toArray, List.getElem?_cons_zero, List.getElem?_cons_succ] at r0 r2
  have lr := blk_lt hr
  obtain ⟨z, hrun, hat, _⟩ := look_any (w := (w.alloc (.cells #[.string t.text, .int .i64 t.place] 197)).drew) (hm.only (((Only.refl (fun _ => False) w).alloc _).drew) (fun q => q)) hl
  have HR := hide1 hr
  clear hr hm
  unfold nmV
  cases hh : Maps.has F (keyS t.text) with
  | false =>
    rw [hh] at hrun
    have e0 : calledC F fns t a c = repC 6 t.place c := by simp [calledC, hh]
    rw [e0]
    clear e0 hh hp r0
    go_enter Tryz.func235, Tryz.ntmps235
    go_wp2
    go_region
    go_wp2_with (go_at_call 122; refine (report_any b 6 t.place fs stop (.map (some m)) mv c _ (HR.out.only (((Only.refl (fun _ => False) w).alloc _).drew) (fun q => q))).mono ?_)
    rintro e w2 ⟨rfl, hr2, ho2⟩
    go_wp2
    refine bodyPost_ret (v := .tuple #[]) (by simp [results, Tryz.results235, go_sem]) rfl ⟨rfl, hr2, (((Only.refl _ w).alloc _).drew).trans ho2⟩
  | true =>
    rw [hh] at hrun
    obtain ⟨j, hj, hatj⟩ := hN _ hh
    have hz : z = (j : Int) := by rw [hatj] at hat; simpa using hat.symm
    have hix : idxOf F t.text = j := by simp [idxOf, hatj]
    have hpn : parN fns j = fns[j].params.length := by simp [parN, hj]
    subst hz
    have hfl := hp
    obtain ⟨css, p1, _⟩ := hfl
    obtain ⟨va, vl, vc, rfl⟩ := owns_form p1
    obtain ⟨g, rfl⟩ := own_some p1 (by omega)
    have hvl := own_len p1
    subst hvl
    have lg := (p1.lt g rfl).2
    obtain ⟨av, sv, hcell, hav, _, _⟩ := hp.get hj
    obtain ⟨aa, al, ac, rfl⟩ := owns_form hav
    have hal := own_len hav
    subst hal
    have f2 := hcell 2 (by omega)
    have f0 := hcell 0 (by omega)
    have f1 := hcell 1 (by omega)
    have f3 := hcell 3 (by omega)
    have f4 := hcell 4 (by omega)
    simp only [fnC, List.getElem?_toArray, List.getElem?_cons_zero, List.getElem?_cons_succ, Nat.add_zero] at f0 f1 f2 f3 f4
    clear p1 hav hcell hp hat hatj
    by_cases hq : fns[j].params.length = a
    · have e0 : calledC F fns t a c = c := by simp [calledC, hh, hix, hpn, hq]
      rw [e0]
      have hq' : ((fns[j].params.length : Int) != (a : Int)) = false := by simp [hq]
      clear e0 hh hix hpn hq
      go_enter Tryz.func235, Tryz.ntmps235
      go_wp2
      go_region
      go_wp2
      go_end0
      exact ⟨rfl, HR.out.only (((Only.refl (fun _ => False) w).alloc _).drew) (fun q => q), ((Only.refl _ w).alloc _).drew⟩
    · have e0 : calledC F fns t a c = repC 7 t.place c := by simp [calledC, hh, hix, hpn, hq]
      rw [e0]
      have hq' : ((fns[j].params.length : Int) != (a : Int)) = true := by simp; omega
      clear e0 hh hix hpn hq
      go_enter Tryz.func235, Tryz.ntmps235
      go_wp2
      go_region
      go_wp2_with (go_at_call 122; refine (report_any b 7 t.place _ stop (.map (some m)) mv c _ (HR.out.only (((Only.refl (fun _ => False) w).alloc _).drew) (fun q => q))).mono ?_)
      rintro e w2 ⟨rfl, hr2, ho2⟩
      go_wp2
      go_end0
      exact ⟨rfl, hr2, (((Only.refl _ w).alloc _).drew).trans ho2⟩

end Go.Proofs.YtgbmakpdjdigmaaGreatDoor

/- The program's checker: firstFunctions, hasMain. -/
namespace Go.Proofs.YtgbmakpdjdigmaaGreatDoor
open Go.RowKit Go.Maps

theorem int_beq0 (n : Nat) : ((n : Int) == 0) = (n == 0) := by rw [Bool.eq_iff_iff]; simp
/-- The first function of each name. -/
def firstR : List TF → Nat → DataW Unit → DataW Unit
  | [], _, D => D
  | t :: l, k, D => firstR l (k + 1) (if Maps.has D (keyS t.name.text) then D else D.put (keyS t.name.text) (.lit (.int .i64 k)))
theorem firstR_step (fns : List TF) (k : Nat) (h : k < fns.length) (D : DataW Unit) : firstR (fns.drop k) k D = firstR (fns.drop (k + 1)) (k + 1) (if Maps.has D (keyS fns[k].name.text) then D else D.put (keyS fns[k].name.text) (.lit (.int .i64 k))) := by
  rw [List.drop_eq_getElem_cons h]; rfl

set_option maxRecDepth 100000 in
set_option maxHeartbeats 1000000 in
theorem firstFunctions_any (d : Nat) (U : Nat → Prop) (fs : Value) (fns : List TF) (stop : Int) (w : World) (hp : PRow d U w fs fns) (hl : ∀ t, t ∈ fns → t.name.text.size ≤ 4000) (hk : fns.length ≤ 4000) :
    Calls Tryz.prog 119 #[.agg #[fs, .int .i64 stop]] w fun e w' => ∃ M, e = .returned (.map (some M)) ∧ w.heap.size ≤ M ∧ MapAt M fns.length (firstR fns 0 (.map [])) w' ∧ Only (fun _ => False) w w' := by
  have hmm := @run_makeMap Tryz.prog
  have hfl := hp
  obtain ⟨css, p1, _⟩ := hfl
  obtain ⟨va, vl, vc, rfl⟩ := owns_form p1
  have hvl := own_len p1
  subst hvl
  generalize hV : firstR fns 0 (.map []) = V
  have HV : Hid (firstR (fns.drop 0) 0 (.map []) = V) := hV
  have HP := hide1 hp
  clear hV hp p1
  go_enter Tryz.func119, Tryz.ntmps119
  go_wp2
  go_loopw [12] (fun i wr => ∃ (k : Nat) (D : DataW Unit), k ≤ fns.length ∧ i = .int .i64 k ∧ Hid (MapAt (w.heap.size + 1) k D wr) ∧ Hid (Only (fun _ => False) w wr) ∧ Hid (firstR (fns.drop k) k D = V)) (fun i _ => fns.length - (intOf i).toNat)
  case atStart =>
    refine ⟨0, .map [], by omega, rfl, hide1 ?_, hide1 (((Only.refl _ w).alloc _).alloc _), HV⟩
    have := World.ownsMap_made (H := Unit) (w.alloc (.cells #[.slice va fns.length vc, .int .i64 stop] 98)) Tryz.prog 9 (plainElem Tryz.prog 3)
    simpa [MapAt] using this
  case round =>
    obtain ⟨k, D, hkl, rfl, hm1, ho1, hv1⟩ := hrel
    clear HV
    by_cases hlt : k < fns.length
    · have hp1 := HP.out.only ho1.out (fun _ _ q => q)
      have hfl := hp1
      obtain ⟨css1, p1, _⟩ := hfl
      obtain ⟨g, rfl⟩ := own_some p1 (by omega)
      have lg := (p1.lt g rfl).2
      obtain ⟨av, sv, hcell, hav, _, htr⟩ := hp1.get hlt
      obtain ⟨aa, al, ac, rfl⟩ := owns_form hav
      obtain ⟨css2, p2, _⟩ := htr
      obtain ⟨sa, sl, sc, rfl⟩ := owns_form p2
      have f0 := hcell 0 (by omega)
      have f1 := hcell 1 (by omega)
      have f2 := hcell 2 (by omega)
      have f3 := hcell 3 (by omega)
      have f4 := hcell 4 (by omega)
      simp only [fnC, List.getElem?_toArray, List.getElem?_cons_zero, List.getElem?_cons_succ, Nat.add_zero] at f0 f1 f2 f3 f4
      have hst := hide1 (firstR_step fns k hlt D)
      have hlk := hl fns[k] (List.getElem_mem _)
      clear p1 p2 hav hcell hp1
      generalize fns[k] = t at *
      have l1 := ho1.out.size
      have lm := World.ownsMap.lt hm1.out
      obtain ⟨z, hrun, _, _⟩ := look_any (w := wr.alloc (.cells #[.string t.name.text, .int .i64 t.name.place, .slice aa al ac, .int .i64 t.place, .slice sa sl sc] 203)) (hm1.out.only ((Only.refl (fun _ => False) wr).alloc _) (fun q => q)) hlk
      cases hh : Maps.has D (keyS t.name.text) with
      | true =>
        rw [hh] at hrun
        have HH := hide1 hh
        clear hh
        go_wp2
        go_round
        case rel =>
          refine ⟨k + 1, D, by omega, by go_num, hide1 ?_, hide1 (ho1.out.alloc _), hide1 ?_⟩
          · exact World.ownsMap.mono (hm1.out.only ((Only.refl (fun _ => False) wr).alloc _) (fun q => q)) (by omega)
          · have := hst.out; rw [if_pos HH.out] at this; exact this.symm.trans hv1.out
        case measure => simp [intOf]; omega
      | false =>
        rw [hh] at hrun
        have HH := hide1 hh
        clear hh
        obtain ⟨w2, hst2, hM2, hT2⟩ := store_any (p := k) (w := wr.alloc (.cells #[.string t.name.text, .int .i64 t.name.place, .slice aa al ac, .int .i64 t.place, .slice sa sl sc] 203)) (hm1.out.only ((Only.refl (fun _ => False) wr).alloc _) (fun q => q)) hlk (by omega) (by omega)
        go_wp2
        go_round
        case rel =>
          refine ⟨k + 1, _, by omega, by go_num, hide1 hM2, hide1 ?_, hide1 ?_⟩
          · have h3 := ho1.out.alloc (.cells #[.string t.name.text, .int .i64 t.name.place, .slice aa al ac, .int .i64 t.place, .slice sa sl sc] 203)
            exact ⟨hT2.os.trans h3.os, hT2.tape.trans h3.tape, hT2.output.trans h3.output, Nat.le_trans h3.size hT2.size, fun j hj _ => (hT2.block j (Nat.lt_of_lt_of_le hj h3.size) (by omega)).trans (h3.block j hj (fun q => q))⟩
          · have := hst.out; rw [if_neg (by rw [HH.out]; decide)] at this; exact this.symm.trans hv1.out
        case measure => simp [intOf]; omega
    · have e : k = fns.length := by omega
      subst e
      have hv2 : D = V := by have := hv1.out; simpa [firstR] using this
      subst hv2
      go_wp2
      go_ret
      exact ⟨_, rfl, by omega, hm1.out, ho1.out⟩

set_option maxRecDepth 100000 in
set_option maxHeartbeats 1000000 in
theorem hasMain_any (b d : Nat) (U : Nat → Prop) (fs : Value) (fns : List TF) (stop : Int) (mv : Value) (m n : Nat) (F : DataW Unit) (c : CS) (w : World) (hr : CkBlk b fs stop (.map (some m)) mv c w) (hm : MapAt m n F w) (hp : PRow d U w fs fns) (hN : FnsIn F fns.length) (hk : fns.length ≤ 4001) :
    Calls Tryz.prog 121 #[.pointer (some ⟨b, 0, none⟩)] w fun e w' => e = .returned (.bool (Maps.has F (keyS ⟨#[109, 97, 105, 110]⟩) && parN fns (idxOf F ⟨#[109, 97, 105, 110]⟩) == 0)) ∧ Only (fun _ => False) w w' := by
  have r0 := blk_cell hr 0
  have r2 := blk_cell hr 2
  simp only [List.getElem?_toArray, List.getElem?_cons_zero, List.getElem?_cons_succ] at r0 r2
  have lr := blk_lt hr
  obtain ⟨z, hrun, hat, _⟩ := look_any (w := w) (s := ⟨#[109, 97, 105, 110]⟩) hm (by decide)
  clear hr hm
  cases hh : Maps.has F (keyS ⟨#[109, 97, 105, 110]⟩) with
  | false =>
    rw [hh] at hrun
    clear hh hp r0
    go_enter Tryz.func121, Tryz.ntmps121
    go_wp2
    go_ret
    exact ⟨by simp, Only.refl _ _⟩
  | true =>
    rw [hh] at hrun
    obtain ⟨j, hj, hatj⟩ := hN _ hh
    have hz : z = (j : Int) := by rw [hatj] at hat; simpa using hat.symm
    have hix : idxOf F ⟨#[109, 97, 105, 110]⟩ = j := by simp [idxOf, hatj]
    have hpn : parN fns j = fns[j].params.length := by simp [parN, hj]
    subst hz
    have hfl := hp
    obtain ⟨css, p1, _⟩ := hfl
    obtain ⟨va, vl, vc, rfl⟩ := owns_form p1
    obtain ⟨g, rfl⟩ := own_some p1 (by omega)
    have hvl := own_len p1
    subst hvl
    have lg := (p1.lt g rfl).2
    obtain ⟨av, sv, hcell, hav, _, _⟩ := hp.get hj
    obtain ⟨aa, al, ac, rfl⟩ := owns_form hav
    have hal := own_len hav
    subst hal
    have f2 := hcell 2 (by omega)
    simp only [fnC, List.getElem?_toArray, List.getElem?_cons_zero, List.getElem?_cons_succ] at f2
    rw [hix, hpn]
    clear p1 hav hcell hp hat hatj hix hpn hh
    go_enter Tryz.func121, Tryz.ntmps121
    go_wp2
    go_ret
    exact ⟨by simp [int_beq0], Only.refl _ _⟩

end Go.Proofs.YtgbmakpdjdigmaaGreatDoor

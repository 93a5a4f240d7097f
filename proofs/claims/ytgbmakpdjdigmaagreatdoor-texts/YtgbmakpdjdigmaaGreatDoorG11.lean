/- TrL TrM TrN: told at each. -/
import Derived.Test.YtgbmakpdjdigmaaGreatDoorG10

/- The program's parser: function: its tree, and the parser behind it; out of field's contract. -/
namespace Go.Proofs.YtgbmakpdjdigmaaGreatDoor
open Go.RowKit

/-- A function. -/
structure TF where
  name : PT
  params : List PT
  place : Nat
  sts : List TS
/-- Function, from a state on. -/
def fnP (toks : List PT) (n : Nat) (x : PS) : TF × PS :=
  let x1 := takeP toks n 3 x
  let x2 := takeP toks n 1 x1
  let y := namesP toks n x2
  let r := stmtsP toks n (2 * n + 1) (takeP toks n 12 y.2) []
  (⟨takeV toks 1 x1, y.1, (takeV toks 12 y.2).place, r.1⟩, takeP toks n 13 r.2)
def fnC (t : TF) (av sv : Value) : Array Value := #[.string t.name.text, .int .i64 t.name.place, av, .int .i64 t.place, sv]
/-- A function's cells. -/
def FRep (d : Nat) (U : Nat → Prop) (w : World) (t : TF) (c : List Value) : Prop := ∃ av sv, c = (fnC t av sv).toList ∧ w.ownsRow 0 197 2 av t.params.length (nmsCells t.params) ∧ (∀ k, av.ownBlock = some k → U k) ∧ TRow d U w sv t.sts
theorem FRep.only {d : Nat} {U : Nat → Prop} {w w' : World} {t : TF} {c : List Value} {X : Nat → Prop} (h : FRep d U w t c) (ho : Only X w w') (hx : ∀ k, U k → ¬ X k) : FRep d U w' t c := by
  obtain ⟨av, sv, h1, h2, h3, h4⟩ := h
  exact ⟨av, sv, h1, ownsRow_only h2 ho (fun k hk => hx k (h3 k hk)), h3, h4.only ho hx⟩
theorem FRep.more {d : Nat} {U U' : Nat → Prop} {w : World} {t : TF} {c : List Value} (h : FRep d U w t c) (hu : ∀ k, U k → U' k) : FRep d U' w t c := by
  obtain ⟨av, sv, h1, h2, h3, h4⟩ := h
  exact ⟨av, sv, h1, h2, fun k hk => hu k (h3 k hk), h4.more hu⟩
theorem FRep.upTo {d e : Nat} {U : Nat → Prop} {w : World} {t : TF} {c : List Value} (h : FRep d U w t c) (he : d ≤ e) : FRep e U w t c := by
  obtain ⟨av, sv, h1, h2, h3, h4⟩ := h
  exact ⟨av, sv, h1, h2, h3, h4.upTo he⟩
/-- What function leaves. -/
def fPost (b g n cap : Nat) (w : World) (r : TF × PS) (e : Ending) (w' : World) : Prop :=
  ∃ (d : Nat) (U : Nat → Prop) (a : Option Addr) (l c : Nat) (a' : Option Addr) (l' c' : Nat), e = .returned (.agg (fnC r.1 (.slice a l c) (.slice a' l' c'))) ∧ FRep d U w' r.1 (fnC r.1 (.slice a l c) (.slice a' l' c')).toList ∧ (∀ k, U k → w.heap.size ≤ k ∧ k < w'.heap.size) ∧ PaBlk b g n cap r.2 w' ∧ Only (fun k => k = b) w w'
theorem fnP_goes {toks : List PT} {n : Nat} (hz : (ptAt toks (n - 1)).kind = 0) {x : PS} (hc : x.next < n) : Goes n x (fnP toks n x).2 := by
  have h1 := takeP_goes hz 3 hc
  have h2 := h1.trans (takeP_goes hz 1 h1.2)
  have h3 := h2.trans (namesP_goes hz h2.2)
  have h4 := h3.trans (takeP_goes hz 12 h3.2)
  have h5 := h4.trans (stmtsP_goes hz (2 * n + 1) _ [] h4.2)
  exact h5.trans (takeP_goes hz 13 h5.2)
theorem fnP_more {toks : List PT} {n : Nat} (hz : (ptAt toks (n - 1)).kind = 0) {x : PS} (hc : x.next < n) (hk : (ptAt toks x.next).kind = 3) : x.next + 1 ≤ (fnP toks n x).2.next := by
  have h1 := takeP_goes hz 3 hc
  have e := takeP_more (n := n) hk (by omega)
  have h2 := takeP_goes hz 1 h1.2
  have h3 := h2.trans (namesP_goes hz h2.2)
  have h4 := h3.trans (takeP_goes hz 12 h3.2)
  have h5 := h4.trans (stmtsP_goes hz (2 * n + 1) _ [] h4.2)
  have h6 := h5.trans (takeP_goes hz 13 h5.2)
  have := h6.1
  unfold fnP
  simp only
  omega

abbrev fn0 : Array Value := #[.string { data := #[] }, .int .i64 0, .slice none 0 0, .int .i64 0, .slice none 0 0]
set_option maxRecDepth 100000 in
set_option maxHeartbeats 2000000 in
theorem function_all (B0 : Nat) (w00 : World) (hF : FieldOk B0 w00) (b g n cap : Nat) (x0 : PS) (toks : List PT) (w : World) (hb : B0 ≤ b) (hG : Below B0 w00 w) (hB : B0 ≤ w.heap.size) (hr : PaBlk b g n cap x0 w) (ht : PtRow g n cap toks w) (hc0 : x0.next < n) (hz : (ptAt toks (n - 1)).kind = 0) :
    Calls Tryz.prog 172 #[.pointer (some ⟨b, 0, none⟩)] w fun e w' => fPost b g n cap w (fnP toks n x0) e w' := by
  have lr := blk_lt hr
  have lg := ht.lt
  have hne := ht.ne hr (by decide)
  obtain ⟨x1, h1⟩ : ∃ y, takeP toks n 3 x0 = y := ⟨_, rfl⟩
  obtain ⟨x2, h2⟩ : ∃ y, takeP toks n 1 x1 = y := ⟨_, rfl⟩
  obtain ⟨t2, k2⟩ : ∃ y, takeV toks 1 x1 = y := ⟨_, rfl⟩
  obtain ⟨l3, x3, h3⟩ : ∃ l y, namesP toks n x2 = (l, y) := ⟨_, _, rfl⟩
  obtain ⟨p4, k4⟩ : ∃ y, (takeV toks 12 x3).place = y := ⟨_, rfl⟩
  obtain ⟨l4, y4, h4⟩ : ∃ l y, stmtsP toks n (2 * n + 1) (takeP toks n 12 x3) [] = (l, y) := ⟨_, _, rfl⟩
  obtain ⟨x5, h5⟩ : ∃ y, takeP toks n 13 y4 = y := ⟨_, rfl⟩
  have hv : fnP toks n x0 = (⟨t2, l3, p4, l4⟩, x5) := by simp only [fnP, h1, h2, k2, h3, k4, h4, h5]
  rw [hv]
  have hc1 : x1.next < n := by rw [← h1]; exact takeP_lt hz hc0
  have hc2 : x2.next < n := by rw [← h2]; exact takeP_lt hz hc1
  have hc3 : x3.next < n := by have := namesP_lt hz hc2; rw [h3] at this; exact this
  have IH := hide1 (statement_all B0 w00 hF (2 * n + 1))
  have HG := hide1 hG
  have HZ := hide1 hz
  have X1 := hide1 h1
  have X2 := hide1 h2
  have K2 := hide1 k2
  have X3 := hide1 h3
  have K4 := hide1 k4
  have X4 := hide1 h4
  have X5 := hide1 h5
  clear h1 h2 k2 h3 k4 h4 h5 hv hz hG hF
  go_enter Tryz.func172, Tryz.ntmps172
  go_wp2_with fail
  refine (ptake_any b g n cap 3 x0 toks _ (Box.alloc hr _) (ht.only ((Only.refl (fun _ => False) _).alloc _) (fun q => q)) hc0).mono ?_
  rw [X1.out]
  rintro e w2 ⟨rfl, hr2, ho2⟩
  have HB2 := hide1 ((Box.new w fn0 203).only ho2 (by omega))
  have HO2 := hide1 (((Only.refl (fun k => k = b) w).alloc (.cells fn0 203)).trans ho2)
  have HT2 := hide1 ((ht.only ((Only.refl (fun _ => False) _).alloc (.cells fn0 203)) (fun q => q)).only ho2 hne)
  have HR2 := hide1 hr2
  clear hr2 ho2 hr ht
  go_wp2_with fail
  refine (name_any b g n cap x1 toks _ HR2.out HT2.out hc1).mono ?_
  rw [X2.out, K2.out]
  rintro e w3 ⟨rfl, hr3, ho3⟩
  have HB3 := hide1 (HB2.out.only ho3 (by omega))
  have HO3 := hide1 (HO2.out.trans ho3)
  have HT3 := hide1 (HT2.out.only ho3 hne)
  have HR3 := hide1 hr3
  have l3' := blk_lt HB3.out
  have lb3 := blk_lt hr3
  clear hr3 ho3 HB2 HO2 HT2 HR2
  unfold nmV
  go_wp2_with fail
  refine (names_any b g n cap x2 toks _ (Box.alloc HR3.out _) (HT3.out.only ((Only.refl (fun _ => False) _).alloc _) (fun q => q)) hc2 HZ.out).mono ?_
  rw [X3.out]
  rintro e w4 ⟨v, rfl, hown, hr4, ho4⟩
  obtain ⟨va, vl, vc, rfl⟩ := owns_form hown
  have HN4 := hide1 ((Box.new w3 #[.string t2.text, .int .i64 t2.place] 197).only ho4 (by omega))
  have HB4 := hide1 ((HB3.out.alloc (.cells #[.string t2.text, .int .i64 t2.place] 197)).only ho4 (by omega))
  have HO4 := hide1 ((HO3.out.alloc (.cells #[.string t2.text, .int .i64 t2.place] 197)).trans ho4)
  have HT4 := hide1 ((HT3.out.only ((Only.refl (fun _ => False) _).alloc (.cells #[.string t2.text, .int .i64 t2.place] 197)) (fun q => q)).only ho4 hne)
  have HR4 := hide1 hr4
  have HW4 := hide1 hown
  have n0 := HN4.out.cell 0
  have n1 := HN4.out.cell 1
  have b0 := HB4.out.cell 0
  have b1 := HB4.out.cell 1
  have b2 := HB4.out.cell 2
  have b3 := HB4.out.cell 3
  have b4 := HB4.out.cell 4
  have bf := HB4.out.frozen
  simp only [List.getElem?_toArray, List.getElem?_cons_zero, List.getElem?_cons_succ] at n0 n1 b0 b1 b2 b3 b4
  have l4' := blk_lt HN4.out
  have l4b := blk_lt HB4.out
  have hz4 := HO4.out.size
  have hf4 : 2 * (n - (takeP toks n 12 x3).next) + 1 ≤ 2 * n + 1 := by omega
  clear hr4 ho4 hown HB3 HO3 HT3 HR3
  go_wp2_with fail
  go_region_with (go_at_call 209; refine (block_all B0 w00 (2 * n + 1) IH.out b g n cap x3 toks _ hb (Only.keeps HG.out (HO4.out.tr0 (by repeat (first | exact Only.refl _ _ | refine Only.drew ?_ | refine Only.drewN ?_ _ | refine Only.alloc ?_ _))) hB hb) (by simp; omega) (Box.only (X := fun _ => False) HR4.out (by repeat (first | exact Only.refl _ _ | refine Only.drew ?_ | refine Only.drewN ?_ _ | refine Only.alloc ?_ _)) (fun q => q)) (HT4.out.only (X := fun _ => False) (by repeat (first | exact Only.refl _ _ | refine Only.drew ?_ | refine Only.drewN ?_ _ | refine Only.alloc ?_ _)) (fun q => q)) hc3 HZ.out hf4).mono ?_; rw [K4.out, X4.out]; simp only; rw [X5.out]; rintro e w5 ⟨d5, U5, sv5, rfl, hT5, hU5, hr5, ho5⟩; have hT' := hT5; obtain ⟨css5, hrow5, _⟩ := hT'; obtain ⟨wa, wl, wc', rfl⟩ := owns_form hrow5; have hk5 := Only.trans (X := fun k => k = b) (a := w4) (by repeat (first | exact Only.refl _ _ | refine Only.drew ?_ | refine Only.drewN ?_ _ | refine Only.alloc ?_ _)) ho5; have HN5 := hide1 (HN4.out.only hk5 (by omega)); have HB5 := hide1 (HB4.out.only hk5 (by omega)); have HW5 := hide1 (ownsRow_only HW4.out hk5 (fun k hk => by have := (HW4.out.lt k hk).1; simp at this; omega)); have m0 := HN5.out.cell 0; have m1 := HN5.out.cell 1; have d0 := HB5.out.cell 0; have d1 := HB5.out.cell 1; have d2 := HB5.out.cell 2; have d3 := HB5.out.cell 3; have d4 := HB5.out.cell 4; have df := HB5.out.frozen; simp only [List.getElem?_toArray, List.getElem?_cons_zero, List.getElem?_cons_succ] at m0 m1 d0 d1 d2 d3 d4; have HT5 := hide1 hT5; have HU5 := hide1 hU5; have HO5 := hide1 (HO4.out.trans hk5); have HR5 := hide1 hr5; have hz5 := hk5.size; clear hT5 hU5 hr5 ho5 hk5 hrow5)
  all_goals
    go_wp2
    refine bodyPost_ret (v := .agg (fnC ⟨t2, l3, p4, l4⟩ (.slice va vl vc) (.slice wa wl wc'))) (by simp [results, Tryz.results172, go_sem, fnC, d0, d1, d2, d3, d4]) rfl ?_
    refine ⟨d5, fun k => U5 k ∨ Value.ownBlock (.slice va vl vc) = some k, va, vl, vc, wa, wl, wc', rfl, ?_, ?_, ?_, ?_⟩
    · refine FRep.only (X := fun k => k = w.heap.size) (w := w5) ⟨_, _, rfl, ownsRow_base HW5.out (Nat.zero_le _), fun k hk => .inr hk, HT5.out.more (fun k hk => .inl hk)⟩ ?_ ?_
      · iterate 5 refine Only.set_at ?_ _ _
        exact Only.refl _ _
      · intro k hk
        rcases hk with hk | hk
        · have := (HU5.out k hk).1; simp at this; omega
        · have := (HW4.out.lt k hk).1; simp at this; omega
    · intro k hk
      simp only [World.size_setCell]
      rcases hk with hk | hk
      · have := HU5.out k hk; simp at this; omega
      · have h1 := (HW4.out.lt k hk).1; have h2 := (HW5.out.lt k hk).2; simp at h1; omega
    · refine Box.only (X := fun k => k = w.heap.size) HR5.out ?_ (by omega)
      iterate 5 refine Only.set_at ?_ _ _
      exact Only.refl _ _
    · iterate 5 refine Only.set_new ?_ _ _ (Nat.le_refl _)
      exact HO5.out

end Go.Proofs.YtgbmakpdjdigmaaGreatDoor

/- The program's parser: program and Parse: the tree of a program, or ErrParse and the place of the first token that cannot stand where it does; out of field's contract. -/
namespace Go.Proofs.YtgbmakpdjdigmaaGreatDoor
open Go.RowKit

theorem Tryz.infoTF : (Tryz.prog.info? 203).map (fun i => (i.zero, i.size, i.bytes)) = some (some (.agg fn0), 5, 80) := by kernel_rfl

def fnsP (toks : List PT) (n : Nat) : Nat → PS → List TF → List TF × PS
  | 0, x, acc => (acc, x)
  | f + 1, x, acc => if (ptAt toks x.next).kind = 3 then fnsP toks n f (fnP toks n x).2 (acc ++ [(fnP toks n x).1]) else (acc, x)
/-- The program's functions, the place of its end, the state behind. -/
def progP (toks : List PT) (n : Nat) (x : PS) : List TF × Nat × PS :=
  let r := fnsP toks n n (fnP toks n x).2 [(fnP toks n x).1]
  (r.1, (takeV toks 0 r.2).place, takeP toks n 0 r.2)
/-- A row of functions. -/
def PRow (d : Nat) (U : Nat → Prop) (w : World) (sv : Value) (fns : List TF) : Prop := ∃ css : List (List Value), w.ownsRow 0 203 5 sv fns.length css.flatten ∧ css.length = fns.length ∧ (∀ k, sv.ownBlock = some k → U k) ∧ ∀ j (g : j < fns.length) (g' : j < css.length), FRep d U w fns[j] css[j]
/-- What program leaves. -/
def pPost (b g n cap : Nat) (w : World) (r : List TF × Nat × PS) (e : Ending) (w' : World) : Prop :=
  ∃ (d : Nat) (U : Nat → Prop) (a : Option Addr) (l c : Nat), e = .returned (.agg #[.slice a l c, .int .i64 r.2.1]) ∧ PRow d U w' (.slice a l c) r.1 ∧ (∀ k, U k → w.heap.size ≤ k ∧ k < w'.heap.size) ∧ PaBlk b g n cap r.2.2 w' ∧ Only (fun k => k = b) w w'
/-- The row of functions as it grows. -/
structure FW (lo lb d : Nat) (U : Nat → Prop) (w : World) (sv : Value) (acc : List TF) (css : List (List Value)) : Prop where
  row : w.ownsRow lo 203 5 sv acc.length css.flatten
  len : css.length = acc.length
  rep : ∀ j (g : j < acc.length) (g' : j < css.length), FRep d U w acc[j] css[j]
  u : ∀ k, U k → lo ≤ k ∧ k < w.heap.size ∧ k ≠ lb
  apart : ∀ k, sv.ownBlock = some k → ¬ U k ∧ k ≠ lb
theorem FW.only {lo lb d : Nat} {U : Nat → Prop} {w w' : World} {sv : Value} {acc : List TF} {css : List (List Value)} {X : Nat → Prop} (h : FW lo lb d U w sv acc css) (ho : Only X w w') (hx : ∀ k, lo ≤ k → k < w.heap.size → k ≠ lb → ¬ X k) : FW lo lb d U w' sv acc css :=
  ⟨ownsRow_only h.row ho (fun k hk => hx k (h.row.lt k hk).1 (h.row.lt k hk).2 (h.apart k hk).2), h.len, fun j g g' => (h.rep j g g').only ho (fun k hk => hx k (h.u k hk).1 (h.u k hk).2.1 (h.u k hk).2.2), fun k hk => ⟨(h.u k hk).1, Nat.lt_of_lt_of_le (h.u k hk).2.1 ho.size, (h.u k hk).2.2⟩, h.apart⟩
theorem FW.push {lo lb d d1 : Nat} {U U1 : Nat → Prop} {w W w5 : World} {sv sv' u : Value} {acc : List TF} {css : List (List Value)} {t : TF} {c : List Value} (h : FW lo lb d U w sv acc css) (hlb : lb < w.heap.size) (ht : FRep d1 U1 w t c) (hU : ∀ k, U1 k → lo ≤ k ∧ k < w.heap.size ∧ k ≠ lb ∧ ¬ sv.ownBlock = some k) (hW : Only (fun _ => False) w W)
    (hown : w5.ownsRow lo 203 5 sv' (acc.length + 1) (css.flatten ++ c)) (hg : W.grownBy w5 sv.ownBlock) (hnew : ∀ k, sv'.ownBlock = some k → sv.ownBlock = some k ∨ w.heap.size ≤ k) :
    FW lo lb (max d d1) (fun k => U k ∨ U1 k) (w5.setCell ⟨lb, 0, none⟩ u) sv' (acc ++ [t]) (css ++ [c]) := by
  have ho5 : Only (fun k => sv.ownBlock = some k) w w5 := Only.grown (hW.mono (fun _ _ q => q.elim)) hg (fun k hk => .inl hk)
  have hs := (Only.refl (fun k => k = lb) w5).set_at 0 u
  have hl := h.len
  have hap : ∀ k, sv'.ownBlock = some k → k ≠ lb := fun k hk => by
    rcases hnew k hk with e | e
    · exact (h.apart k e).2
    · omega
  refine ⟨?_, by simp [hl], ?_, ?_, ?_⟩
  · have := ownsRow_only hown hs hap
    simpa using this
  · intro j g1 g2
    by_cases hj : j < acc.length
    · rw [List.getElem_append_left hj, List.getElem_append_left (by omega)]
      exact ((((h.rep j hj (by omega)).only ho5 (fun k hk q => (h.apart k q).1 hk)).only hs (fun k hk => (h.u k hk).2.2)).more (fun k hk => .inl hk)).upTo (Nat.le_max_left _ _)
    · have e : j = acc.length := by simp at g1; omega
      subst e
      rw [List.getElem_append_right (by omega), List.getElem_append_right (by omega)]
      simp only [Nat.sub_self, hl, List.getElem_cons_zero]
      exact (((ht.only ho5 (fun k hk => (hU k hk).2.2.2)).only hs (fun k hk => (hU k hk).2.2.1)).more (fun k hk => .inr hk)).upTo (Nat.le_max_right _ _)
  · intro k hk
    have h5 := ho5.size
    have h6 := hs.size
    rcases hk with hk | hk
    · have := h.u k hk; exact ⟨this.1, by omega, this.2.2⟩
    · have := hU k hk; exact ⟨this.1, by omega, this.2.2.1⟩
  · intro k hk
    refine ⟨fun q => ?_, hap k hk⟩
    rcases hnew k hk with e | e
    · rcases q with q | q
      · exact (h.apart k e).1 q
      · exact (hU k q).2.2.2 e
    · rcases q with q | q
      · have := (h.u k q).2.1; omega
      · have := (hU k q).2.1; omega
theorem fnC_one (t : TF) (a a' : Option Addr) (l l' c c' : Nat) : ∀ u ∈ (fnC t (.slice a l c) (.slice a' l' c')).toList, u.oneCell' = true := by
  intro u hu
  simp [fnC] at hu
  rcases hu with rfl | rfl | rfl | rfl | rfl <;> rfl
theorem own_fn1 {w : World} (cs : Array Value) (h5 : cs.size = 5) : (w.alloc (.cells cs 203)).ownsRow w.heap.size 203 5 (.slice (some ⟨w.heap.size, 0, none⟩) 1 1) 1 cs.toList :=
  ⟨by simpa using h5, .inr ⟨w.heap.size, 1, cs, rfl, Nat.le_refl _, heap_alloc_new w _, Nat.le_refl _, by unfold maxLen; omega, by simpa using h5, by rw [List.take_of_length_le (by simp; omega)]⟩⟩

set_option maxRecDepth 100000 in
set_option maxHeartbeats 2000000 in
theorem program_all (B0 : Nat) (w00 : World) (hF : FieldOk B0 w00) (b g n cap : Nat) (x0 : PS) (toks : List PT) (w : World) (hb : B0 ≤ b) (hG : Below B0 w00 w) (hB : B0 ≤ w.heap.size) (hr : PaBlk b g n cap x0 w) (ht : PtRow g n cap toks w) (hc0 : x0.next < n) (hz : (ptAt toks (n - 1)).kind = 0) :
    Calls Tryz.prog 118 #[.pointer (some ⟨b, 0, none⟩)] w fun e w' => pPost b g n cap w (progP toks n x0) e w' := by
  obtain ⟨i0, hi, hz0, hz1, hz2⟩ := info_parts Tryz.infoTF
  have lr := blk_lt hr
  have lg := ht.lt
  have hn := ht.2.2.1
  have hne := ht.ne hr (by decide)
  have g1 := fnP_goes hz hc0
  obtain ⟨t1, x1, h1⟩ : ∃ t y, fnP toks n x0 = (t, y) := ⟨_, _, rfl⟩
  rw [h1] at g1
  have hc1 := g1.2
  obtain ⟨l2, x2, h2⟩ : ∃ l y, fnsP toks n n x1 [t1] = (l, y) := ⟨_, _, rfl⟩
  have hv : progP toks n x0 = (l2, (takeV toks 0 x2).place, takeP toks n 0 x2) := by simp only [progP, h1, h2]
  rw [hv]
  have HG := hide1 hG
  have HZ := hide1 hz
  have HF := hide1 hF
  have X1 := hide1 h1
  have X2 := hide1 h2
  clear h1 h2 hv hz hG hF g1
  go_enter Tryz.func118, Tryz.ntmps118
  go_wp2_with fail
  refine (function_all B0 w00 HF.out b g n cap x0 toks _ hb (Only.keeps HG.out ((Only.refl (fun k => k = b) w).alloc _) hB hb) (by simp; omega) (Box.alloc hr _) (ht.only ((Only.refl (fun _ => False) _).alloc _) (fun q => q)) hc0 HZ.out).mono ?_
  rw [X1.out]
  rintro e w2 ⟨d2, U2, fa, fl, fc, fa', fl', fc', rfl, hrep2, hU2, hr2, ho2⟩
  have hzw := ho2.size
  simp at hzw
  have HB2 : Hid (Box w.heap.size #[.slice none 0 0, .int .i64 0] 98 w2) := (Box.new w _ _).only ho2 (by omega)
  have HO2 := hide1 (((Only.refl (fun k => k = b) w).alloc _).trans ho2)
  have HT2 := hide1 ((ht.only ((Only.refl (fun _ => False) _).alloc (.cells #[.slice none 0 0, .int .i64 0] 98)) (fun q => q)).only ho2 hne)
  have HR2 := hide1 hr2
  have HREP2 := hide1 hrep2
  have HU2 := hide1 hU2
  have lb2 := blk_lt hr2
  clear hr2 ho2 hr ht hrep2 hU2
  unfold fnC
  go_wp2_with fail
  go_loopw [] (fun wr => ∃ (x : PS) (f d : Nat) (U : Nat → Prop) (sv : Value) (acc : List TF) (css : List (List Value)), x.next < n ∧ acc.length ≤ x.next + 1 ∧ n - x.next ≤ f ∧ Hid (PaBlk b g n cap x wr) ∧ Hid (PtRow g n cap toks wr) ∧ Hid (Box w.heap.size #[.slice none 0 0, .int .i64 0] 98 wr) ∧ Hid (Box (w2.heap.size + 1) #[sv, .int .i64 0] 98 wr) ∧ Hid (FW (w.heap.size + 1) (w2.heap.size + 1) d U wr sv acc css) ∧ Hid (Only (fun k => k = b) w wr) ∧ Hid (fnsP toks n f x acc = (l2, x2))) (fun wr => n - paNext b wr)
  case atStart =>
    refine ⟨x1, n, d2, U2, .slice (some ⟨w2.heap.size, 0, none⟩) 1 1, [t1], [(fnC t1 (.slice fa fl fc) (.slice fa' fl' fc')).toList], hc1, by simp, by omega, Box.alloc (Box.alloc HR2.out _) _, HT2.out.only (((Only.refl (fun _ => False) _).alloc _).alloc _) (fun q => q), Box.alloc (Box.alloc HB2.out _) _, ?_, ?_, (HO2.out.alloc _).alloc _, X2⟩
    · refine hide1 ?_
      have := Box.new (w2.alloc (.cells #[.string t1.name.text, .int .i64 t1.name.place, .slice fa fl fc, .int .i64 t1.place, .slice fa' fl' fc'] 203)) #[.slice (some ⟨w2.heap.size, 0, none⟩) 1 1, .int .i64 0] 98
      simpa using this
    · refine hide1 ⟨?_, rfl, ?_, ?_, ?_⟩
      · have := (own_fn1 (w := w2) (fnC t1 (.slice fa fl fc) (.slice fa' fl' fc')) rfl).alloc (.cells #[.slice (some ⟨w2.heap.size, 0, none⟩) 1 1, .int .i64 0] 98)
        exact ownsRow_base (by simpa [fnC] using this) (by omega)
      · intro j g1 g2
        have e : j = 0 := by simp at g1; omega
        subst e
        exact HREP2.out.only (((Only.refl (fun _ => False) _).alloc _).alloc _) (fun _ _ q => q)
      · intro k hk
        have := HU2.out k hk
        simp at this ⊢
        omega
      · intro k hk
        simp [Value.ownBlock] at hk
        refine ⟨fun q => ?_, by omega⟩
        have := HU2.out k q
        omega
  case round =>
    clear HR2 HT2 HB2 HO2 X2 HREP2 HU2
    obtain ⟨x, f, d, U, sv, acc, css, hx, hacc, hf, hR, hT, hBx, hC, hFW, hO, HC⟩ := hrel
    have HCR := hide1 (paNext_of hR.out)
    by_cases hk3 : (ptAt toks x.next).kind = 3
    · obtain ⟨f2, rfl⟩ : ∃ f2, f = f2 + 1 := ⟨f - 1, by omega⟩
      obtain ⟨t3, x3, h3⟩ : ∃ t y, fnP toks n x = (t, y) := ⟨_, _, rfl⟩
      have hC' : fnsP toks n f2 x3 (acc ++ [t3]) = (l2, x2) := by
        have := HC.out
        rw [fnsP, if_pos hk3, h3] at this
        exact this
      have hx3 : x.next + 1 ≤ x3.next ∧ x3.next < n := by
        have g1 := fnP_goes (n := n) HZ.out hx
        have g2 := fnP_more HZ.out hx hk3
        rw [h3] at g1 g2
        exact ⟨g2, g1.2⟩
      have X3 := hide1 h3
      have HC2 := hide1 hC'
      have HK := hide1 hk3
      clear HC h3 hC' hk3
      go_wp2_with fail
      refine (kind_any b g n cap x toks _ hR.out hT.out hx).mono ?_
      rw [HK.out]
      rintro e wk ⟨rfl, hok⟩
      have R1 := hide1 (Box.only hR.out hok (fun q => q))
      have T1 := hide1 (hT.out.only hok (fun q => q))
      have A1 := hide1 (hBx.out.only hok (fun q => q))
      have C1 := hide1 (hC.out.only hok (fun q => q))
      have B1 := hide1 (hFW.out.only hok (fun _ _ _ _ q => q))
      have O1 := hide1 (hO.out.tr0 hok)
      clear hR hT hBx hC hFW hO hok
      obtain ⟨va, vl, vc, rfl⟩ := owns_form B1.out.row
      have c0 := C1.out.cell 0
      have cf := C1.out.frozen 0
      have lc := blk_lt C1.out
      have lbk := blk_lt R1.out
      have hzk := O1.out.size
      simp only [List.getElem?_toArray, List.getElem?_cons_zero] at c0
      have NC := hide1 (fun k (hk : Value.ownBlock (.slice va vl vc) = some k) => (⟨(B1.out.row.lt k hk).1, (B1.out.apart k hk).2⟩ : w.heap.size + 1 ≤ k ∧ k ≠ w2.heap.size + 1))
      go_wp2_with fail
      go_region_law (first
        | (refine step_append_own rfl _ _ 96 rfl (w.heap.size + 1) 203 i0 (.agg fn0) 5 80 Tryz.underlying96 hi hz0 hz1 hz2 rfl (by decide) _ _ _ rfl (B4.out.row.alloc _) ⟨w4.heap.size, 0, none⟩ 1 1 (fnC t3 (.slice aa al ac) (.slice ba bl bc)).toList rfl rfl (cells_new rfl _ _) (fnC_one _ _ _ _ _ _ _) (by decide) (by unfold maxLen; omega) (by omega) (by simp; omega) ?_; intro v' w5 hown' hgrow5 hnew5; have q1 : w5.cell? ⟨w2.heap.size + 1, 0, none⟩ = some (.slice va vl vc) := (World.cell?_of_block (hgrow5.block (w2.heap.size + 1) (by simp; omega) (fun h => (NC.out _ h.symm).2 rfl))).trans (by rw [← c0']; exact World.cell?_of_block (Below.heap_alloc _ _ _ lc')); have q2 : w5.frozen? ⟨w2.heap.size + 1, 0, none⟩ = false := (World.frozen?_of_block (hgrow5.block (w2.heap.size + 1) (by simp; omega) (fun h => (NC.out _ h.symm).2 rfl))).trans (by rw [← cf']; exact World.frozen?_of_block (Below.heap_alloc _ _ _ lc')); obtain ⟨va', vl', vc', rfl⟩ := owns_form hown')
        | (go_simp; go_at_call 172; refine (function_all B0 w00 HF.out b g n cap x toks _ hb (Only.keeps HG.out (O1.out.tr0 (by repeat (first | exact Only.refl _ _ | refine Only.drew ?_ | refine Only.drewN ?_ _ | refine Only.alloc ?_ _))) hB hb) (by simp; omega) (Box.only (X := fun _ => False) R1.out (by repeat (first | exact Only.refl _ _ | refine Only.drew ?_ | refine Only.drewN ?_ _ | refine Only.alloc ?_ _)) (fun q => q)) (T1.out.only (X := fun _ => False) (by repeat (first | exact Only.refl _ _ | refine Only.drew ?_ | refine Only.drewN ?_ _ | refine Only.alloc ?_ _)) (fun q => q)) hx HZ.out).mono ?_; rw [X3.out]; rintro e w4 ⟨d4, U4, aa, al, ac, ba, bl, bc, rfl, hrep, hU4, hr4, ho4⟩; have ho5 := Only.trans (X := fun k => k = b) (a := wk) (by repeat (first | exact Only.refl _ _ | refine Only.drew ?_ | refine Only.drewN ?_ _ | refine Only.alloc ?_ _)) ho4; have B4 := hide1 (B1.out.only ho5 (fun k h _ _ => by omega)); have C4 := hide1 (C1.out.only ho5 (by omega)); have c0' := C4.out.cell 0; have cf' := C4.out.frozen 0; have lc' := blk_lt C4.out; simp only [List.getElem?_toArray, List.getElem?_cons_zero] at c0'; have hz4 := ho5.size; have HREP := hide1 hrep; have HU4 := hide1 hU4; have R4 := hide1 hr4; have O5 := hide1 ho5; clear hrep hU4 hr4 ho4 ho5; unfold fnC; dsimp only))
      all_goals
        have h45 : Only (fun k => Value.ownBlock (.slice va vl vc) = some k) w4 w5 := Only.grown ((Only.refl _ _).alloc _) hgrow5 (fun k hk => .inl hk)
        have hst := (Only.refl (fun k => k = w2.heap.size + 1) w5).set_at 0 (.slice va' vl' vc')
        have hfar : ∀ j, j < w.heap.size + 1 → ¬ Value.ownBlock (.slice va vl vc) = some j := fun j hj q => by have := (NC.out j q).1; omega
        have hP := FW.push (u := .slice va' vl' vc') B4.out lc' HREP.out (fun k hk => by have h1 := HU4.out k hk; simp only [World.size_drew] at h1; exact ⟨by omega, h1.2, by omega, fun q => by have := (B1.out.row.lt k q).2; omega⟩) ((Only.refl _ _).alloc _) hown' hgrow5 (fun k hk => (hnew5 k hk).imp id (fun q => by simp at q; omega))
        have hRF : PaBlk b g n cap x3 (w5.setCell ⟨w2.heap.size + 1, 0, none⟩ (.slice va' vl' vc')) := (R4.out.only h45 (hfar b (by omega))).only hst (by omega)
        have hTF : PtRow g n cap toks (w5.setCell ⟨w2.heap.size + 1, 0, none⟩ (.slice va' vl' vc')) := ((T1.out.only O5.out hne).only h45 (hfar g (by omega))).only hst (by omega)
        have hAF := ((A1.out.only O5.out (by omega)).only h45 (hfar w.heap.size (by omega))).only hst (by omega)
        have hCF : Box (w2.heap.size + 1) #[.slice va' vl' vc', .int .i64 0] 98 (w5.setCell ⟨w2.heap.size + 1, 0, none⟩ (.slice va' vl' vc')) := by
          have := (C4.out.only h45 (fun q => (NC.out _ q).2 rfl)).set 0 (.slice va' vl' vc')
          simpa using this
        have hOF : Only (fun k => k = b) w (w5.setCell ⟨w2.heap.size + 1, 0, none⟩ (.slice va' vl' vc')) := (Only.grown ((O1.out.trans O5.out).alloc _) hgrow5 (fun k hk => .inr (by have := (NC.out k hk).1; omega))).set_new 0 _ (by omega)
        have hNF := paNext_of hRF
        clear hown' hgrow5 hnew5 q1 q2 HREP HU4 B4 C4 R4 h45 hst
        go_wp2_with fail
        go_roundw
        case rel => exact ⟨x3, f2, _, _, _, acc ++ [t3], _, hx3.2, by simp; omega, by omega, hRF, hTF, hAF, hCF, hP, hOF, HC2⟩
        case measure => rw [hNF, HCR.out]; omega
    · have hv : (acc, x) = (l2, x2) := by
        rw [← HC.out]
        cases f with
        | zero => rfl
        | succ f => rw [fnsP, if_neg hk3]
      simp only [Prod.mk.injEq] at hv
      obtain ⟨rfl, rfl⟩ := hv
      have hk3' : (((ptAt toks x.next).kind : Int) == 3) = false := by simp; omega
      clear HC hk3
      go_wp2_with fail
      refine (kind_any b g n cap x toks _ hR.out hT.out hx).mono ?_
      rintro e wk ⟨rfl, hok⟩
      have R1 := hide1 (Box.only hR.out hok (fun q => q))
      have T1 := hide1 (hT.out.only hok (fun q => q))
      have A1 := hide1 (hBx.out.only hok (fun q => q))
      have C1 := hide1 (hC.out.only hok (fun q => q))
      have B1 := hide1 (hFW.out.only hok (fun _ _ _ _ q => q))
      have O1 := hide1 (hO.out.tr0 hok)
      clear hR hT hBx hC hFW hO hok
      go_wp2_with fail
      refine (ptake_any b g n cap 0 x toks _ R1.out T1.out hx).mono ?_
      rintro e w4 ⟨rfl, hr4, ho4⟩
      have A4 := hide1 (A1.out.only ho4 (by omega))
      have C4 := hide1 (C1.out.only ho4 (by omega))
      have B4 := hide1 (B1.out.only ho4 (fun k h _ _ => by omega))
      have O4 := hide1 (O1.out.trans ho4)
      have R4 := hide1 hr4
      clear R1 T1 A1 C1 B1 O1 hr4 ho4
      obtain ⟨va, vl, vc, rfl⟩ := owns_form B4.out.row
      have b0 := A4.out.cell 0
      have b1 := A4.out.cell 1
      have bf := A4.out.frozen
      have d0 := C4.out.cell 0
      have d1 := C4.out.cell 1
      have df := C4.out.frozen
      have lB := blk_lt A4.out
      have lC := blk_lt C4.out
      simp only [List.getElem?_toArray, List.getElem?_cons_zero, List.getElem?_cons_succ] at b0 b1 d0 d1
      obtain ⟨t, k1⟩ : ∃ y, takeV toks 0 x = y := ⟨_, rfl⟩
      rw [k1]
      have K1 := hide1 k1
      clear k1
      unfold ptV
      have hfd := Tryz.placeOf
      go_wp2
      refine bodyPost_ret (v := .agg #[.slice va vl vc, .int .i64 t.place]) (by simp [results, Tryz.results118, go_sem, b0, b1]) rfl ?_
      have hs := (((Only.refl (fun k => k = w.heap.size ∨ k = w2.heap.size + 1) w4).setCell (p := ⟨w2.heap.size + 1, 1, none⟩) (.inl (.inr rfl)) (.int .i64 t.place)).setCell (p := ⟨w.heap.size, 0, none⟩) (.inl (.inl rfl)) (.slice va vl vc)).setCell (p := ⟨w.heap.size, 1, none⟩) (.inl (.inl rfl)) (.int .i64 t.place)
      have hB5 := B4.out.only hs (fun k h1 _ h3 => by omega)
      refine ⟨d, fun k => U k ∨ Value.ownBlock (.slice va vl vc) = some k, va, vl, vc, by rw [K1.out], ⟨css, ownsRow_base hB5.row (Nat.zero_le _), hB5.len, fun k hk => .inr hk, fun j g1 g2 => (hB5.rep j g1 g2).more (fun k hk => .inl hk)⟩, ?_, R4.out.only hs (by omega), ((O4.out.set_new 1 _ (by omega)).set_new 0 _ (Nat.le_refl _)).set_new 1 _ (Nat.le_refl _)⟩
      intro k hk
      rcases hk with hk | hk
      · have := hB5.u k hk; exact ⟨by omega, this.2.1⟩
      · have := hB5.row.lt k hk; exact ⟨by omega, this.2⟩

end Go.Proofs.YtgbmakpdjdigmaaGreatDoor

/- The program's Parse: the tree of a program in new memory, or ErrParse and a place; nothing old is turned; out of field's contract. -/
namespace Go.Proofs.YtgbmakpdjdigmaaGreatDoor
open Go.RowKit

/-- What Parse leaves. -/
def paPost (w : World) (r : List TF × Nat × PS) (e : Ending) (w' : World) : Prop :=
  (r.2.2.failed = true ∧ e = .returned (.tuple #[.agg #[.slice none 0 0, .int .i64 0], .int .i64 3, .int .i64 r.2.2.wrong]) ∧ Below w.heap.size w w') ∨
  (r.2.2.failed = false ∧ ∃ (d : Nat) (U : Nat → Prop) (a : Option Addr) (l c : Nat), e = .returned (.tuple #[.agg #[.slice a l c, .int .i64 r.2.1], .int .i64 0, .int .i64 0]) ∧ PRow d U w' (.slice a l c) r.1 ∧ (∀ k, U k → w.heap.size ≤ k ∧ k < w'.heap.size) ∧ Below w.heap.size w w')
theorem PRow.keep {d : Nat} {U : Nat → Prop} {w w' : World} {sv : Value} {fns : List TF} {X : Nat → Prop} (h : PRow d U w sv fns) (ho : Only X w w') (hx : ∀ k, U k → ¬ X k) : PRow d U w' sv fns := by
  obtain ⟨css, h1, h2, h3, h4⟩ := h
  exact ⟨css, ownsRow_only h1 ho (fun k hk => hx k (h3 k hk)), h2, h3, fun j g g' => (h4 j g g').only ho hx⟩

set_option maxRecDepth 100000 in
set_option maxHeartbeats 2000000 in
theorem parse_all (B0 : Nat) (w00 : World) (hF : FieldOk B0 w00) (g n cap : Nat) (toks : List PT) (w : World) (hG : Below B0 w00 w) (hB : B0 ≤ w.heap.size) (ht : PtRow g n cap toks w) (hn : 0 < n) (hz : (ptAt toks (n - 1)).kind = 0) :
    Calls Tryz.prog 79 #[.slice (some ⟨g, 0, none⟩) n cap] w fun e w' => paPost w (progP toks n ⟨0, false, 0⟩) e w' := by
  have lg := ht.lt
  obtain ⟨l1, p1, y, h1⟩ : ∃ l p y, progP toks n ⟨0, false, 0⟩ = (l, p, y) := ⟨_, _, _, rfl⟩
  rw [h1]
  have X1 := hide1 h1
  have HZ := hide1 hz
  have HG := hide1 hG
  have HF := hide1 hF
  clear h1 hz hG hF
  cases hf : y.failed with
  | true =>
    have HY := hide1 hf
    clear hf
    go_enter Tryz.func79, Tryz.ntmps79
    go_wp2_with fail
    have hb' : PaBlk (w.heap.size + 1) g n cap ⟨0, false, 0⟩ ((w.alloc (.cells #[.slice none 0 0, .int .i64 0] 98)).alloc (.cells #[.slice (some ⟨g, 0, none⟩) n cap, .int .i64 0, .bool false, .int .i64 0] 236)) := by
      have hb := Box.new (w.alloc (.cells #[.slice none 0 0, .int .i64 0] 98)) #[.slice (some ⟨g, 0, none⟩) n cap, .int .i64 0, .bool false, .int .i64 0] 236
      simp only [World.size_alloc] at hb
      simpa [PaBlk] using hb
    refine (program_all B0 w00 HF.out (w.heap.size + 1) g n cap ⟨0, false, 0⟩ toks _ (by omega) ((HG.out.alloc hB _).alloc (by simp; omega) _) (by simp; omega) hb' (ht.only (((Only.refl (fun _ => False) _).alloc _).alloc _) (fun q => q)) hn HZ.out).mono ?_
    rw [X1.out]
    rintro e w2 ⟨d, U, a, l, c, rfl, hP, hU, hr2, ho2⟩
    have hB2 : Box w.heap.size #[.slice none 0 0, .int .i64 0] 98 w2 := ((Box.new w #[.slice none 0 0, .int .i64 0] 98).alloc _).only ho2 (by omega)
    have HO2 := hide1 ((((Below.refl w.heap.size w).alloc (Nat.le_refl _) _).alloc (by simp) _).trans (ho2.belowB (B := w.heap.size) (by simp; omega) (fun k hk => by omega)))
    have b0 := hB2.cell 0
    have b1 := hB2.cell 1
    have bf := hB2.frozen
    have r2 := Box.cell hr2 2
    have r3 := Box.cell hr2 3
    simp only [List.getElem?_toArray, List.getElem?_cons_zero, List.getElem?_cons_succ, HY.out] at b0 b1 r2 r3
    have lB := blk_lt hB2
    have lR := blk_lt hr2
    clear hr2 ho2 hB2 ht hb' hP hU
    go_wp2
    go_region
    go_wp2
    refine bodyPost_ret (v := .tuple #[.agg #[.slice none 0 0, .int .i64 0], .int .i64 3, .int .i64 y.wrong]) (by simp [results, Tryz.results79, go_sem, b0, b1, lB]) rfl (.inl ⟨HY.out, rfl, ?_⟩)
    exact ((((HO2.out.setCell (p := ⟨w.heap.size, 0, none⟩) (Nat.le_refl _) _).setCell (p := ⟨w.heap.size, 1, none⟩) (Nat.le_refl _) _).alloc (by simp; omega) _)).trans ⟨rfl, rfl, rfl, Nat.le_refl _, fun _ _ => rfl⟩
  | false =>
    have HY := hide1 hf
    clear hf
    go_enter Tryz.func79, Tryz.ntmps79
    go_wp2_with fail
    have hb' : PaBlk (w.heap.size + 1) g n cap ⟨0, false, 0⟩ ((w.alloc (.cells #[.slice none 0 0, .int .i64 0] 98)).alloc (.cells #[.slice (some ⟨g, 0, none⟩) n cap, .int .i64 0, .bool false, .int .i64 0] 236)) := by
      have hb := Box.new (w.alloc (.cells #[.slice none 0 0, .int .i64 0] 98)) #[.slice (some ⟨g, 0, none⟩) n cap, .int .i64 0, .bool false, .int .i64 0] 236
      simp only [World.size_alloc] at hb
      simpa [PaBlk] using hb
    refine (program_all B0 w00 HF.out (w.heap.size + 1) g n cap ⟨0, false, 0⟩ toks _ (by omega) ((HG.out.alloc hB _).alloc (by simp; omega) _) (by simp; omega) hb' (ht.only (((Only.refl (fun _ => False) _).alloc _).alloc _) (fun q => q)) hn HZ.out).mono ?_
    rw [X1.out]
    rintro e w2 ⟨d, U, a, l, c, rfl, hP, hU, hr2, ho2⟩
    have hB2 : Box w.heap.size #[.slice none 0 0, .int .i64 0] 98 w2 := ((Box.new w #[.slice none 0 0, .int .i64 0] 98).alloc _).only ho2 (by omega)
    have HO2 := hide1 ((((Below.refl w.heap.size w).alloc (Nat.le_refl _) _).alloc (by simp) _).trans (ho2.belowB (B := w.heap.size) (by simp; omega) (fun k hk => by omega)))
    have b0 := hB2.cell 0
    have b1 := hB2.cell 1
    have bf := hB2.frozen
    have r2 := Box.cell hr2 2
    simp only [List.getElem?_toArray, List.getElem?_cons_zero, List.getElem?_cons_succ, HY.out] at b0 b1 r2
    have lB := blk_lt hB2
    have lR := blk_lt hr2
    have HP := hide1 hP
    have HU := hide1 hU
    have hzz := ho2.size
    simp at hzz
    clear hr2 ho2 hB2 ht hb' hP hU
    go_wp2
    refine bodyPost_ret (v := .tuple #[.agg #[.slice a l c, .int .i64 p1], .int .i64 0, .int .i64 0]) (by simp [results, Tryz.results79, go_sem, b0, b1, lB]) rfl (.inr ⟨HY.out, d, U, a, l, c, rfl, ?_, ?_, ?_⟩)
    · refine HP.out.keep (X := fun k => k = w.heap.size) ?_ (fun k hk => by have := (HU.out k hk).1; simp at this; omega)
      refine Only.alloc ?_ _
      iterate 2 refine Only.set_at ?_ _ _
      exact Only.refl _ _
    · intro k hk
      have := HU.out k hk
      simp at this ⊢
      omega
    · exact ((HO2.out.setCell (p := ⟨w.heap.size, 0, none⟩) (Nat.le_refl _) _).setCell (p := ⟨w.heap.size, 1, none⟩) (Nat.le_refl _) _).alloc (by simp; omega) _

end Go.Proofs.YtgbmakpdjdigmaaGreatDoor

/- TrA TrB: told at each. -/
import Derived.Test.YtgbmakpdjdigmaaGreatDoorG04
import Derived.Deep.RegionWith

/- The program's parser: statements without blocks, as numbers and names (VS); what a walk of its methods stands in (PFm); callThrough. -/
namespace Go.Proofs.YtgbmakpdjdigmaaGreatDoor
open Go.RowKit

/-- A statement without blocks. -/
structure VS where
  kind : Nat
  tg : PT
  sr : PT
  field : Nat
  args : List PT
def vsC (s : VS) (av : Value) : Array Value := #[.int .i64 s.kind, .string s.tg.text, .int .i64 s.tg.place, .string s.sr.text, .int .i64 s.sr.place, .int .i64 s.field, av, .slice none 0 0]
abbrev vs0 : Array Value := #[.int .i64 0, .string { data := #[] }, .int .i64 0, .string { data := #[] }, .int .i64 0, .int .i64 0, .slice none 0 0, .slice none 0 0]
/-- What the walk of a method stands in: the parser, its tokens, the result's box. -/
structure PFm (b g n cap : Nat) (toks : List PT) (x : PS) (w0 w : World) : Prop where
  pa : PaBlk b g n cap x w
  pt : PtRow g n cap toks w
  res : Box w0.heap.size vs0 318 w
  only : Only (fun k => k = b) w0 w
  bl : b < w0.heap.size
theorem PFm.start {b g n cap : Nat} {toks : List PT} {x : PS} {w : World} (hr : PaBlk b g n cap x w) (ht : PtRow g n cap toks w) : PFm b g n cap toks x w (w.alloc (.cells vs0 318)) :=
  ⟨Box.alloc hr _, ht.only ((Only.refl (fun _ => False) _).alloc _) (fun q => q), Box.new _ _ _, (Only.refl _ _).alloc _, blk_lt hr⟩
theorem PFm.call {b g n cap : Nat} {toks : List PT} {x x' : PS} {w0 w w' : World} (h : PFm b g n cap toks x w0 w) (hr : PaBlk b g n cap x' w') (ho : Only (fun k => k = b) w w') : PFm b g n cap toks x' w0 w' :=
  ⟨hr, h.pt.only ho (h.pt.ne h.pa (by decide)), h.res.only ho (by have := h.bl; omega), h.only.trans ho, h.bl⟩
theorem PFm.quiet {b g n cap : Nat} {toks : List PT} {x : PS} {w0 w w' : World} (h : PFm b g n cap toks x w0 w) (ho : Only (fun _ => False) w w') : PFm b g n cap toks x w0 w' :=
  ⟨Box.only h.pa ho (fun q => q), h.pt.only ho (fun q => q), h.res.only ho (fun q => q), h.only.tr0 ho, h.bl⟩
/-- What such a method leaves. -/
def vPost (b g n cap : Nat) (w : World) (r : VS × PS) (e : Ending) (w' : World) : Prop :=
  ∃ av, e = .returned (.agg (vsC r.1 av)) ∧ w'.ownsRow w.heap.size 197 2 av r.1.args.length (nmsCells r.1.args) ∧ PaBlk b g n cap r.2 w' ∧ Only (fun k => k = b) w w'

def callP (toks : List PT) (n : Nat) (x : PS) : VS × PS :=
  let x2 := takeP toks n 17 (takeP toks n 10 x)
  let x4 := takeP toks n 11 (takeP toks n 1 x2)
  (⟨8, ptNo, takeV toks 1 x2, 0, (namesP toks n x4).1⟩, (namesP toks n x4).2)

set_option maxRecDepth 100000 in
set_option maxHeartbeats 1000000 in
theorem callThrough_any (b g n cap : Nat) (x0 : PS) (toks : List PT) (w : World) (hr : PaBlk b g n cap x0 w) (ht : PtRow g n cap toks w) (hc0 : x0.next < n) (hz : (ptAt toks (n - 1)).kind = 0) :
    Calls Tryz.prog 258 #[.pointer (some ⟨b, 0, none⟩)] w fun e w' => vPost b g n cap w (callP toks n x0) e w' := by
  obtain ⟨x1, h1⟩ : ∃ y, takeP toks n 10 x0 = y := ⟨_, rfl⟩
  obtain ⟨x2, h2⟩ : ∃ y, takeP toks n 17 x1 = y := ⟨_, rfl⟩
  obtain ⟨x3, h3⟩ : ∃ y, takeP toks n 1 x2 = y := ⟨_, rfl⟩
  obtain ⟨t3, k3⟩ : ∃ y, takeV toks 1 x2 = y := ⟨_, rfl⟩
  obtain ⟨x4, h4⟩ : ∃ y, takeP toks n 11 x3 = y := ⟨_, rfl⟩
  obtain ⟨l5, x5, h5⟩ : ∃ l y, namesP toks n x4 = (l, y) := ⟨_, _, rfl⟩
  have hc1 : x1.next < n := by rw [← h1]; exact takeP_lt hz hc0
  have hc2 : x2.next < n := by rw [← h2]; exact takeP_lt hz hc1
  have hc3 : x3.next < n := by rw [← h3]; exact takeP_lt hz hc2
  have hc4 : x4.next < n := by rw [← h4]; exact takeP_lt hz hc3
  have hv : callP toks n x0 = (⟨8, ptNo, t3, 0, l5⟩, x5) := by simp only [callP, h1, h2, h3, k3, h4, h5]
  rw [hv]
  have F0 := hide1 (PFm.start hr ht)
  have X1 := hide1 h1
  have X2 := hide1 h2
  have X3 := hide1 h3
  have K3 := hide1 k3
  have X4 := hide1 h4
  have X5 := hide1 h5
  have HZ := hide1 hz
  clear h1 h2 h3 k3 h4 h5 hv hz hr ht
  go_enter Tryz.func258, Tryz.ntmps258
  go_wp2_with fail
  refine (ptake_any b g n cap 10 x0 toks _ F0.out.pa F0.out.pt hc0).mono ?_
  rw [X1.out]
  rintro e w1 ⟨rfl, hr, ho⟩
  have F1 := hide1 (F0.out.call hr ho)
  clear hr ho F0
  go_wp2_with fail
  refine (ptake_any b g n cap 17 x1 toks _ F1.out.pa F1.out.pt hc1).mono ?_
  rw [X2.out]
  rintro e w2 ⟨rfl, hr, ho⟩
  have F2 := hide1 (F1.out.call hr ho)
  clear hr ho F1
  go_wp2_with fail
  refine (name_any b g n cap x2 toks _ F2.out.pa F2.out.pt hc2).mono ?_
  rw [X3.out, K3.out]
  rintro e w3 ⟨rfl, hr, ho⟩
  have F3 := hide1 (F2.out.call hr ho)
  clear hr ho F2
  unfold nmV
  have hl3 := blk_lt F3.out.pa
  have B3 := hide1 (Box.new w3 #[.string t3.text, .int .i64 t3.place] 197)
  have G3 := hide1 (F3.out.quiet ((Only.refl _ _).alloc (.cells #[.string t3.text, .int .i64 t3.place] 197)))
  clear F3
  go_wp2_with fail
  refine (ptake_any b g n cap 11 x3 toks _ G3.out.pa G3.out.pt hc3).mono ?_
  rw [X4.out]
  rintro e w4 ⟨rfl, hr, ho⟩
  have F4 := hide1 (G3.out.call hr ho)
  have B4 := hide1 (B3.out.only ho (by omega))
  clear hr ho G3 B3
  have n0 := B4.out.cell 0
  have n1 := B4.out.cell 1
  simp only [List.getElem?_toArray, List.getElem?_cons_zero, List.getElem?_cons_succ] at n0 n1
  have l4 := blk_lt B4.out
  have q0 := F4.out.res.cell 0
  have q1 := F4.out.res.cell 1
  have q2 := F4.out.res.cell 2
  have q3 := F4.out.res.cell 3
  have q4 := F4.out.res.cell 4
  have q5 := F4.out.res.cell 5
  have q6 := F4.out.res.cell 6
  have q7 := F4.out.res.cell 7
  have qf := F4.out.res.frozen
  have ql := blk_lt F4.out.res
  simp only [List.getElem?_toArray, List.getElem?_cons_zero, List.getElem?_cons_succ] at q0 q1 q2 q3 q4 q5 q6 q7
  go_wp2_with fail
  go_region_with (go_at_call 208; refine (names_any b g n cap x4 toks _ (F4.out.quiet (by repeat (first | exact Only.refl _ _ | refine Only.drew ?_ | refine Only.drewN ?_ _ | refine Only.alloc ?_ _))).pa (F4.out.quiet (by repeat (first | exact Only.refl _ _ | refine Only.drew ?_ | refine Only.drewN ?_ _ | refine Only.alloc ?_ _))).pt hc4 HZ.out).mono ?_; rw [X5.out]; rintro e w5 ⟨v5, rfl, hown, hr, ho⟩; obtain ⟨va, vl, vc, rfl⟩ := owns_form hown; have F5 := hide1 ((F4.out.quiet (by repeat (first | exact Only.refl _ _ | refine Only.drew ?_ | refine Only.drewN ?_ _ | refine Only.alloc ?_ _))).call hr ho); have B5 := hide1 ((Box.only (X := fun _ => False) B4.out (by repeat (first | exact Only.refl _ _ | refine Only.drew ?_ | refine Only.drewN ?_ _ | refine Only.alloc ?_ _)) (fun q => q)).only ho (by omega)); have HW := hide1 (ownsRow_base hown (B' := w.heap.size) (by have := F4.out.only.size; simp; omega)); have n0' := B5.out.cell 0; have n1' := B5.out.cell 1; simp only [List.getElem?_toArray, List.getElem?_cons_zero, List.getElem?_cons_succ] at n0' n1'; clear hr ho hown q0 q1 q2 q3 q4 q5 q6 q7 qf ql; have q0 := F5.out.res.cell 0; have q1 := F5.out.res.cell 1; have q2 := F5.out.res.cell 2; have q3 := F5.out.res.cell 3; have q4 := F5.out.res.cell 4; have q5 := F5.out.res.cell 5; have q6 := F5.out.res.cell 6; have q7 := F5.out.res.cell 7; have qf := F5.out.res.frozen; have ql := blk_lt F5.out.res; simp only [List.getElem?_toArray, List.getElem?_cons_zero, List.getElem?_cons_succ] at q0 q1 q2 q3 q4 q5 q6 q7)
  all_goals
    go_wp2
    refine bodyPost_ret (v := .agg (vsC ⟨8, ptNo, t3, 0, l5⟩ (.slice va vl vc))) (by simp [results, Tryz.results258, go_sem, vsC, ptNo, q0, q1, q2, q3, q4, q5, q6, q7]; try rfl) rfl ⟨(.slice va vl vc), rfl, ?_, ?_, ?_⟩
    · refine ownsRow_only (X := fun k => k = w.heap.size) HW.out ?_ (own_ne HW.out F5.out.res (by decide))
      iterate 8 refine Only.set_at ?_ _ _
      exact Only.refl _ _
    · refine Box.only (X := fun k => k = w.heap.size) F5.out.pa ?_ (by have := F5.out.bl; omega)
      iterate 8 refine Only.set_at ?_ _ _
      exact Only.refl _ _
    · iterate 8 refine Only.set_new ?_ _ _ (Nat.le_refl _)
      exact F5.out.only

end Go.Proofs.YtgbmakpdjdigmaaGreatDoor

/- The program's parser: address and value, out of the contract of field (FieldOk: it reads a package-level variable of the library's where the digit lacks). -/
namespace Go.Proofs.YtgbmakpdjdigmaaGreatDoor
open Go.RowKit

/-- A digit's number; 0 where there is none. -/
def digN (t : PT) : Nat := if t.text.toList = [49] then 1 else if t.text.toList = [50] then 2 else if t.text.toList = [51] then 3 else 0
/-- The contract of field, in worlds that are as w00 was below B0. -/
def FieldOk (B0 : Nat) (w00 : World) : Prop := ∀ (b g n cap : Nat) (x : PS) (toks : List PT) (w : World), B0 ≤ b → Below B0 w00 w → PaBlk b g n cap x w → PtRow g n cap toks w → x.next < n →
  Calls Tryz.prog 259 #[.pointer (some ⟨b, 0, none⟩)] w fun e w' => e = .returned (.int .i64 (digN (takeV toks 2 x))) ∧ PaBlk b g n cap (takeP toks n 2 x) w' ∧ Only (fun k => k = b) w w'
theorem Only.keeps {B0 b : Nat} {w00 w w' : World} (h : Below B0 w00 w) (ho : Only (fun k => k = b) w w') (hB : B0 ≤ w.heap.size) (hb : B0 ≤ b) : Below B0 w00 w' := h.trans (ho.belowB hB (fun k hk => by omega))

def addrP (toks : List PT) (n : Nat) (x : PS) : VS × PS :=
  let x1 := takeP toks n 16 x
  let x2 := takeP toks n 1 x1
  if (ptAt toks x2.next).kind = 19 then
    let x3 := takeP toks n 19 x2
    (⟨3, ptNo, takeV toks 1 x1, digN (takeV toks 2 x3), []⟩, takeP toks n 2 x3)
  else (⟨2, ptNo, takeV toks 1 x1, 0, []⟩, x2)

set_option maxRecDepth 100000 in
set_option maxHeartbeats 1000000 in
theorem address_any (B0 : Nat) (w00 : World) (hF : FieldOk B0 w00) (b g n cap : Nat) (x0 : PS) (toks : List PT) (w : World) (hb : B0 ≤ b) (hG : Below B0 w00 w) (hB : B0 ≤ w.heap.size) (hr : PaBlk b g n cap x0 w) (ht : PtRow g n cap toks w) (hc0 : x0.next < n) (hz : (ptAt toks (n - 1)).kind = 0) :
    Calls Tryz.prog 257 #[.pointer (some ⟨b, 0, none⟩)] w fun e w' => vPost b g n cap w (addrP toks n x0) e w' := by
  obtain ⟨x1, h1⟩ : ∃ y, takeP toks n 16 x0 = y := ⟨_, rfl⟩
  obtain ⟨x2, h2⟩ : ∃ y, takeP toks n 1 x1 = y := ⟨_, rfl⟩
  obtain ⟨t2, k2⟩ : ∃ y, takeV toks 1 x1 = y := ⟨_, rfl⟩
  obtain ⟨x3, h3⟩ : ∃ y, takeP toks n 19 x2 = y := ⟨_, rfl⟩
  obtain ⟨x4, h4⟩ : ∃ y, takeP toks n 2 x3 = y := ⟨_, rfl⟩
  obtain ⟨d4, k4⟩ : ∃ y, digN (takeV toks 2 x3) = y := ⟨_, rfl⟩
  have hc1 : x1.next < n := by rw [← h1]; exact takeP_lt hz hc0
  have hc2 : x2.next < n := by rw [← h2]; exact takeP_lt hz hc1
  have hc3 : x3.next < n := by rw [← h3]; exact takeP_lt hz hc2
  have F0 := hide1 (PFm.start hr ht)
  have HG := hide1 hG
  have HF := hide1 hF
  have X1 := hide1 h1
  have X2 := hide1 h2
  have K2 := hide1 k2
  have X3 := hide1 h3
  have X4 := hide1 h4
  have K4 := hide1 k4
  by_cases hd : (ptAt toks x2.next).kind = 19
  · have hv : addrP toks n x0 = (⟨3, ptNo, t2, d4, []⟩, x4) := by simp only [addrP, h1, h2, k2, h3, k4, h4, if_pos hd]
    rw [hv]
    have hd' : (((ptAt toks x2.next).kind : Int) != 19) = false := by simp [hd]
    clear h1 h2 k2 h3 h4 k4 hv hz hr ht hd hG hF
    go_enter Tryz.func257, Tryz.ntmps257
    go_wp2_with fail
    refine (ptake_any b g n cap 16 x0 toks _ F0.out.pa F0.out.pt hc0).mono ?_
    rw [X1.out]
    rintro e w1 ⟨rfl, hr, ho⟩
    have F1 := hide1 (F0.out.call hr ho)
    clear hr ho F0
    go_wp2_with fail
    refine (name_any b g n cap x1 toks _ F1.out.pa F1.out.pt hc1).mono ?_
    rw [X2.out, K2.out]
    rintro e w2 ⟨rfl, hr, ho⟩
    have F2 := hide1 (F1.out.call hr ho)
    clear hr ho F1
    unfold nmV
    have hl2 := blk_lt F2.out.pa
    have B2 := hide1 (Box.new w2 #[.string t2.text, .int .i64 t2.place] 197)
    have G2 := hide1 (F2.out.quiet ((Only.refl _ _).alloc (.cells #[.string t2.text, .int .i64 t2.place] 197)))
    clear F2
    go_wp2_with fail
    refine (kind_any b g n cap x2 toks _ G2.out.pa G2.out.pt hc2).mono ?_
    rintro e wk ⟨rfl, ho⟩
    have F2 := hide1 (G2.out.quiet ho)
    have C2 := hide1 (B2.out.only ho (fun q => q))
    clear ho G2 B2
    go_wp2_with fail
    refine (ptake_any b g n cap 19 x2 toks _ F2.out.pa F2.out.pt hc2).mono ?_
    rw [X3.out]
    rintro e w3 ⟨rfl, hr, ho⟩
    have F3 := hide1 (F2.out.call hr ho)
    have B3 := hide1 (C2.out.only ho (by omega))
    clear hr ho F2 C2
    have n0 := B3.out.cell 0
    have n1 := B3.out.cell 1
    simp only [List.getElem?_toArray, List.getElem?_cons_zero, List.getElem?_cons_succ] at n0 n1
    have l3 := blk_lt B3.out
    have hz3 := F3.out.only.size
    have q0 := F3.out.res.cell 0
    have q1 := F3.out.res.cell 1
    have q2 := F3.out.res.cell 2
    have q3 := F3.out.res.cell 3
    have q4 := F3.out.res.cell 4
    have q5 := F3.out.res.cell 5
    have q6 := F3.out.res.cell 6
    have q7 := F3.out.res.cell 7
    have qf := F3.out.res.frozen
    have ql := blk_lt F3.out.res
    simp only [List.getElem?_toArray, List.getElem?_cons_zero, List.getElem?_cons_succ] at q0 q1 q2 q3 q4 q5 q6 q7
    go_wp2_with fail
    go_region_with (go_at_call 259; refine (HF.out b g n cap x3 toks _ hb (Only.keeps HG.out (F3.out.quiet (by repeat (first | exact Only.refl _ _ | refine Only.drew ?_ | refine Only.drewN ?_ _ | refine Only.alloc ?_ _))).only hB hb) (F3.out.quiet (by repeat (first | exact Only.refl _ _ | refine Only.drew ?_ | refine Only.drewN ?_ _ | refine Only.alloc ?_ _))).pa (F3.out.quiet (by repeat (first | exact Only.refl _ _ | refine Only.drew ?_ | refine Only.drewN ?_ _ | refine Only.alloc ?_ _))).pt hc3).mono ?_; rw [X4.out, K4.out]; rintro e w5 ⟨rfl, hr, ho⟩; have F5 := hide1 ((F3.out.quiet (by repeat (first | exact Only.refl _ _ | refine Only.drew ?_ | refine Only.drewN ?_ _ | refine Only.alloc ?_ _))).call hr ho); have B5 := hide1 ((Box.only (X := fun _ => False) B3.out (by repeat (first | exact Only.refl _ _ | refine Only.drew ?_ | refine Only.drewN ?_ _ | refine Only.alloc ?_ _)) (fun q => q)).only ho (by omega)); have n0' := B5.out.cell 0; have n1' := B5.out.cell 1; simp only [List.getElem?_toArray, List.getElem?_cons_zero, List.getElem?_cons_succ] at n0' n1'; clear hr ho q0 q1 q2 q3 q4 q5 q6 q7 qf ql; have q0 := F5.out.res.cell 0; have q1 := F5.out.res.cell 1; have q2 := F5.out.res.cell 2; have q3 := F5.out.res.cell 3; have q4 := F5.out.res.cell 4; have q5 := F5.out.res.cell 5; have q6 := F5.out.res.cell 6; have q7 := F5.out.res.cell 7; have qf := F5.out.res.frozen; have ql := blk_lt F5.out.res; simp only [List.getElem?_toArray, List.getElem?_cons_zero, List.getElem?_cons_succ] at q0 q1 q2 q3 q4 q5 q6 q7)
    all_goals
      go_wp2
      have R : w5.ownsRow w.heap.size 197 2 (.slice none 0 0) 0 [] := World.ownsRow_nil _ _ _ _
      refine bodyPost_ret (v := .agg (vsC ⟨3, ptNo, t2, d4, []⟩ (.slice none 0 0))) (by simp [results, Tryz.results257, go_sem, vsC, ptNo, q0, q1, q2, q3, q4, q5, q6, q7]; try rfl) rfl ⟨(.slice none 0 0), rfl, ?_, ?_, ?_⟩
      · refine ownsRow_only (X := fun k => k = w.heap.size) R ?_ (own_ne R F5.out.res (by decide))
        iterate 8 refine Only.set_at ?_ _ _
        exact Only.refl _ _
      · refine Box.only (X := fun k => k = w.heap.size) F5.out.pa ?_ (by have := F5.out.bl; omega)
        iterate 8 refine Only.set_at ?_ _ _
        exact Only.refl _ _
      · iterate 8 refine Only.set_new ?_ _ _ (Nat.le_refl _)
        exact F5.out.only
  · have hv : addrP toks n x0 = (⟨2, ptNo, t2, 0, []⟩, x2) := by simp only [addrP, h1, h2, k2, if_neg hd]
    rw [hv]
    have hd' : (((ptAt toks x2.next).kind : Int) != 19) = true := by simp; omega
    clear h1 h2 k2 h3 h4 k4 hv hz hr ht hd hG hF
    go_enter Tryz.func257, Tryz.ntmps257
    go_wp2_with fail
    refine (ptake_any b g n cap 16 x0 toks _ F0.out.pa F0.out.pt hc0).mono ?_
    rw [X1.out]
    rintro e w1 ⟨rfl, hr, ho⟩
    have F1 := hide1 (F0.out.call hr ho)
    clear hr ho F0
    go_wp2_with fail
    refine (name_any b g n cap x1 toks _ F1.out.pa F1.out.pt hc1).mono ?_
    rw [X2.out, K2.out]
    rintro e w2 ⟨rfl, hr, ho⟩
    have F2 := hide1 (F1.out.call hr ho)
    clear hr ho F1
    unfold nmV
    have hl2 := blk_lt F2.out.pa
    have B2 := hide1 (Box.new w2 #[.string t2.text, .int .i64 t2.place] 197)
    have G2 := hide1 (F2.out.quiet ((Only.refl _ _).alloc (.cells #[.string t2.text, .int .i64 t2.place] 197)))
    clear F2
    go_wp2_with fail
    refine (kind_any b g n cap x2 toks _ G2.out.pa G2.out.pt hc2).mono ?_
    rintro e wk ⟨rfl, ho⟩
    have F2 := hide1 (G2.out.quiet ho)
    have C2 := hide1 (B2.out.only ho (fun q => q))
    clear ho G2 B2
    have n0 := C2.out.cell 0
    have n1 := C2.out.cell 1
    simp only [List.getElem?_toArray, List.getElem?_cons_zero, List.getElem?_cons_succ] at n0 n1
    have q0 := F2.out.res.cell 0
    have q1 := F2.out.res.cell 1
    have q2 := F2.out.res.cell 2
    have q3 := F2.out.res.cell 3
    have q4 := F2.out.res.cell 4
    have q5 := F2.out.res.cell 5
    have q6 := F2.out.res.cell 6
    have q7 := F2.out.res.cell 7
    have qf := F2.out.res.frozen
    have ql := blk_lt F2.out.res
    simp only [List.getElem?_toArray, List.getElem?_cons_zero, List.getElem?_cons_succ] at q0 q1 q2 q3 q4 q5 q6 q7
    go_wp2
    have R : wk.ownsRow w.heap.size 197 2 (.slice none 0 0) 0 [] := World.ownsRow_nil _ _ _ _
    refine bodyPost_ret (v := .agg (vsC ⟨2, ptNo, t2, 0, []⟩ (.slice none 0 0))) (by simp [results, Tryz.results257, go_sem, vsC, ptNo, q0, q1, q2, q3, q4, q5, q6, q7]; try rfl) rfl ⟨(.slice none 0 0), rfl, ?_, ?_, ?_⟩
    · refine ownsRow_only (X := fun k => k = w.heap.size) R ?_ (own_ne R F2.out.res (by decide))
      iterate 8 refine Only.set_at ?_ _ _
      exact Only.refl _ _
    · refine Box.only (X := fun k => k = w.heap.size) F2.out.pa ?_ (by have := F2.out.bl; omega)
      iterate 8 refine Only.set_at ?_ _ _
      exact Only.refl _ _
    · iterate 8 refine Only.set_new ?_ _ _ (Nat.le_refl _)
      exact F2.out.only

end Go.Proofs.YtgbmakpdjdigmaaGreatDoor

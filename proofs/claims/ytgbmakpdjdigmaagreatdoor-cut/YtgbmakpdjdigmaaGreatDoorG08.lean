/- PaD PaE PaF: told at each. -/
import Derived.Test.YtgbmakpdjdigmaaGreatDoorG04

/- The program's parser at the end of the tokens: beginsStatement, block, function, program, Parse: where the first token that cannot stand is the end, Parse tells ErrParse and its place. -/
namespace Go.Proofs.YtgbmakpdjdigmaaGreatDoor
open Go.RowKit

theorem Tryz.placeOf (a : Int) (s : ByteArray) (p : Int) (w : World) : (Instr.field 165 (.agg #[.int .i64 a, .string s, .int .i64 p]) 2).run Tryz.prog w = .ok (.int .i64 p) w := by kernel_rfl
/-- At the end of the tokens. -/
structure AtEnd (toks : List PT) (n : Nat) (x : PS) : Prop where
  next : x.next = n - 1
  kind : (ptAt toks (n - 1)).kind = 0
  pos : 0 < n
theorem AtEnd.fail {toks : List PT} {n : Nat} {x : PS} (h : AtEnd toks n x) : AtEnd toks n (failP toks n x) := ⟨rfl, h.kind, h.pos⟩
theorem AtEnd.take {toks : List PT} {n k : Nat} {x : PS} (h : AtEnd toks n x) (hk : k ≠ 0) : takeP toks n k x = failP toks n x := by
  unfold takeP
  rw [if_neg]
  rw [h.next, h.kind]; omega
theorem AtEnd.lt {toks : List PT} {n : Nat} {x : PS} (h : AtEnd toks n x) : x.next < n := by have := h.next; have := h.pos; omega
theorem failP_twice (toks : List PT) (n : Nat) (x : PS) : failP toks n (failP toks n x) = failP toks n x := by simp [failP]

set_option maxRecDepth 100000 in
set_option maxHeartbeats 400000 in
theorem begins_end (b g n cap : Nat) (x : PS) (toks : List PT) (w : World) (hr : PaBlk b g n cap x w) (ht : PtRow g n cap toks w) (he : AtEnd toks n x) :
    Calls Tryz.prog 231 #[.pointer (some ⟨b, 0, none⟩)] w fun e w' => e = .returned (.bool false) ∧ Only (fun _ => False) w w' := by
  have hk : (ptAt toks x.next).kind = 0 := by rw [he.next]; exact he.kind
  have HK := hide1 hk
  have hc := he.lt
  clear hk
  go_enter Tryz.func231, Tryz.ntmps231
  go_wp2_with (go_at_call 173; refine (kind_any b g n cap x toks _ hr ht hc).mono ?_; rw [HK.out]; rintro e w1 ⟨rfl, ho1⟩)
  go_ret
  exact ⟨rfl, ho1⟩

set_option maxRecDepth 100000 in
set_option maxHeartbeats 1000000 in
theorem block_end (b g n cap : Nat) (x : PS) (toks : List PT) (w : World) (hr : PaBlk b g n cap x w) (ht : PtRow g n cap toks w) (he : AtEnd toks n x) :
    Calls Tryz.prog 209 #[.pointer (some ⟨b, 0, none⟩)] w fun e w' => (∃ p : Int, e = .returned (.agg #[.int .i64 p, .slice none 0 0])) ∧ PaBlk b g n cap (failP toks n x) w' ∧ Only (fun k => k = b) w w' := by
  have lr := blk_lt hr
  have lg := ht.lt
  have hne := ht.ne hr (by decide)
  have hc := he.lt
  have h12 := he.take (k := 12) (by decide)
  have h13 := he.fail.take (k := 13) (by decide)
  rw [failP_twice] at h13
  have H12 := hide1 h12
  have H13 := hide1 h13
  have HE := hide1 he
  clear h12 h13 he
  go_enter Tryz.func209, Tryz.ntmps209
  go_wp2_with fail
  refine (ptake_any b g n cap 12 x toks _ (Box.alloc hr _) (ht.only ((Only.refl (fun _ => False) _).alloc _) (fun q => q)) hc).mono ?_
  rw [H12.out]
  rintro e w2 ⟨rfl, hr2, ho2⟩
  have hz2 := ho2.size
  simp at hz2
  have ht2 := (ht.only ((Only.refl (fun _ => False) _).alloc (.cells #[.int .i64 0, .slice none 0 0] 201)) (fun q => q)).only ho2 hne
  have hB2 : Box w.heap.size #[.int .i64 0, .slice none 0 0] 201 w2 := (Box.new w _ _).only ho2 (by omega)
  have HO2 := hide1 (((Only.refl (fun k => k = b) w).alloc _).trans ho2)
  have HR2 := hide1 hr2
  have HT2 := hide1 ht2
  have HB2 := hide1 hB2
  have lb2 : b < w2.heap.size := by omega
  have hg2 : g < w2.heap.size := by omega
  clear hr2 ho2 ht2 hB2 hr ht
  generalize takeV toks 12 x = t
  unfold ptV
  have hfd := Tryz.placeOf
  go_wp2_with fail
  clear hfd
  go_loopw [] (fun wr => Hid (PaBlk b g n cap (failP toks n x) wr) ∧ Hid (PtRow g n cap toks wr) ∧ Hid (Box w.heap.size #[.int .i64 0, .slice none 0 0] 201 wr) ∧ Hid (Box w2.heap.size #[.int .i64 t.place, .slice none 0 0] 201 wr) ∧ Hid (Only (fun k => k = b) w wr)) (fun _ => 0)
  case atStart =>
    refine ⟨Box.alloc HR2.out _, HT2.out.only ((Only.refl (fun _ => False) _).alloc _) (fun q => q), Box.alloc HB2.out _, Box.new _ _ _, HO2.out.alloc _⟩
  case round =>
    obtain ⟨hr, ht, hB, hC, ho⟩ := hrel
    clear HR2 HT2 HB2 HO2
    go_wp2_with fail
    refine (begins_end b g n cap (failP toks n x) toks _ hr.out ht.out HE.out.fail).mono ?_
    rintro e w3 ⟨rfl, ho3⟩
    have hr3 := hide1 (Box.only hr.out ho3 (fun q => q))
    have ht3 := hide1 (ht.out.only ho3 (fun q => q))
    have hB3 := hide1 (Box.only hB.out ho3 (fun q => q))
    have hC3 := hide1 (Box.only hC.out ho3 (fun q => q))
    have hO3 := hide1 (ho.out.tr0 ho3)
    clear hr ht hB hC ho ho3
    go_wp2_with fail
    refine (ptake_any b g n cap 13 (failP toks n x) toks _ hr3.out ht3.out HE.out.fail.lt).mono ?_
    rw [H13.out]
    rintro e w4 ⟨rfl, hr4, ho4⟩
    have hB4 := Box.only hB3.out ho4 (by omega)
    have hC4 := Box.only hC3.out ho4 (by omega)
    have HO4 := hide1 (hO3.out.trans ho4)
    have HR4 := hide1 hr4
    have b0 := hB4.cell 0
    have b1 := hB4.cell 1
    have bf := hB4.frozen
    have d0 := hC4.cell 0
    have d1 := hC4.cell 1
    have lB := blk_lt hB4
    have lC := blk_lt hC4
    simp only [List.getElem?_toArray, List.getElem?_cons_zero, List.getElem?_cons_succ] at b0 b1 d0 d1
    clear hB4 hC4 ho4 hr4 hr3 ht3 hB3 hC3 hO3
    go_wp2
    refine bodyPost_ret (v := .agg #[.int .i64 t.place, .slice none 0 0]) (by simp [results, Tryz.results209, go_sem, b0, b1]) rfl ⟨⟨_, rfl⟩, ?_, ?_⟩
    · exact Box.only (X := fun k => k = w.heap.size) HR4.out (by repeat (first | exact Only.refl _ _ | refine Only.drew ?_ | refine Only.alloc ?_ _ | refine Only.set_at ?_ _ _)) (by omega)
    · repeat (first | exact HO4.out | refine Only.drew ?_ | refine Only.alloc ?_ _ | refine Only.set_new ?_ _ _ (Nat.le_refl _))


set_option maxRecDepth 100000 in
set_option maxHeartbeats 1000000 in
theorem function_end (b g n cap : Nat) (x : PS) (toks : List PT) (w : World) (hr : PaBlk b g n cap x w) (ht : PtRow g n cap toks w) (hc : x.next < n) (hz : (ptAt toks (n - 1)).kind = 0) (he : AtEnd toks n (namesP toks n (takeP toks n 1 (takeP toks n 3 x))).2) :
    Calls Tryz.prog 172 #[.pointer (some ⟨b, 0, none⟩)] w fun e w' => (∃ (s : ByteArray) (p q : Int) (va : Option Addr) (vl vc : Nat), e = .returned (.agg #[.string s, .int .i64 p, .slice va vl vc, .int .i64 q, .slice none 0 0])) ∧ PaBlk b g n cap (failP toks n (namesP toks n (takeP toks n 1 (takeP toks n 3 x))).2) w' ∧ Only (fun k => k = b) w w' := by
  have lr := blk_lt hr
  have lg := ht.lt
  have hne := ht.ne hr (by decide)
  have hc1 := takeP_lt (k := 3) hz hc
  have hc2 := takeP_lt (k := 1) hz hc1
  have HZ := hide1 hz
  obtain ⟨x1, hx1⟩ : ∃ y, takeP toks n 3 x = y := ⟨_, rfl⟩
  rw [hx1] at he hc1 hc2 ⊢
  obtain ⟨x2, hx2⟩ : ∃ y, takeP toks n 1 x1 = y := ⟨_, rfl⟩
  rw [hx2] at he hc2 ⊢
  obtain ⟨x3, hx3⟩ : ∃ y, (namesP toks n x2).2 = y := ⟨_, rfl⟩
  rw [hx3] at he ⊢
  have HE := hide1 he
  have X1 := hide1 hx1
  have X2 := hide1 hx2
  have X3 := hide1 hx3
  clear he hz hx1 hx2 hx3
  go_enter Tryz.func172, Tryz.ntmps172
  go_wp2_with fail
  refine (ptake_any b g n cap 3 x toks _ (Box.alloc hr _) (ht.only ((Only.refl (fun _ => False) _).alloc _) (fun q => q)) hc).mono ?_
  rw [X1.out]
  rintro e w2 ⟨rfl, hr2, ho2⟩
  have hB2 : Box w.heap.size #[.string { data := #[] }, .int .i64 0, .slice none 0 0, .int .i64 0, .slice none 0 0] 203 w2 := (Box.new w _ _).only ho2 (by omega)
  have HB2 := hide1 hB2
  have HO2 := hide1 (((Only.refl (fun k => k = b) w).alloc _).trans ho2)
  have ht2 := hide1 ((ht.only ((Only.refl (fun _ => False) _).alloc (.cells #[.string { data := #[] }, .int .i64 0, .slice none 0 0, .int .i64 0, .slice none 0 0] 203)) (fun q => q)).only ho2 hne)
  have HR2 := hide1 hr2
  clear hr2 ho2 hB2 hr ht
  generalize takeV toks 3 x = t
  go_wp2_with fail
  refine (name_any b g n cap x1 toks _ HR2.out ht2.out hc1).mono ?_
  rw [X2.out]
  rintro e w3 ⟨rfl, hr3, ho3⟩
  have HB3 := hide1 (HB2.out.only ho3 (by omega))
  have HO3 := hide1 (HO2.out.trans ho3)
  have HT3 := hide1 (ht2.out.only ho3 hne)
  have HR3 := hide1 hr3
  have l3 := HO3.out.size
  have l3' := blk_lt HB3.out
  clear hr3 ho3 HB2 HO2 ht2 HR2
  generalize takeV toks 1 x1 = t1
  unfold nmV
  go_wp2_with fail
  refine (names_any b g n cap x2 toks _ (Box.alloc HR3.out _) (HT3.out.only ((Only.refl (fun _ => False) _).alloc _) (fun q => q)) hc2 HZ.out).mono ?_
  rw [X3.out]
  rintro e w4 ⟨v, rfl, hown, hr4, ho4⟩
  obtain ⟨va, vl, vc, rfl⟩ := owns_form hown
  have HN4 := hide1 ((Box.new w3 #[.string t1.text, .int .i64 t1.place] 197).only ho4 (by omega))
  have HB4 := hide1 ((HB3.out.alloc (.cells #[.string t1.text, .int .i64 t1.place] 197)).only ho4 (by omega))
  have HO4 := hide1 ((HO3.out.alloc (.cells #[.string t1.text, .int .i64 t1.place] 197)).trans ho4)
  have HT4 := hide1 ((HT3.out.only ((Only.refl (fun _ => False) _).alloc (.cells #[.string t1.text, .int .i64 t1.place] 197)) (fun q => q)).only ho4 hne)
  have HR4 := hide1 hr4
  have n0 := HN4.out.cell 0
  have n1 := HN4.out.cell 1
  have b0 := HB4.out.cell 0
  have b1 := HB4.out.cell 1
  have b2 := HB4.out.cell 2
  have b3 := HB4.out.cell 3
  have b4 := HB4.out.cell 4
  have bf := HB4.out.frozen
  simp only [List.getElem?_toArray, List.getElem?_cons_zero, List.getElem?_cons_succ] at n0 n1 b0 b1 b2 b3 b4
  have l4 := blk_lt HN4.out
  have l4' := blk_lt HB4.out
  clear hr4 ho4 hown HB3 HO3 HT3 HR3
  go_wp2_with fail
  go_region_with (go_at_call 209; refine (block_end b g n cap x3 toks _ (Box.only (X := fun _ => False) HR4.out (by repeat (first | exact Only.refl _ _ | refine Only.drew ?_ | refine Only.drewN ?_ _ | refine Only.alloc ?_ _)) (fun q => q)) (HT4.out.only (X := fun _ => False) (by repeat (first | exact Only.refl _ _ | refine Only.drew ?_ | refine Only.drewN ?_ _ | refine Only.alloc ?_ _)) (fun q => q)) HE.out).mono ?_; rintro e w5 ⟨⟨p5, rfl⟩, hr5, ho5⟩; have HN5 := Box.only (Box.only (X := fun _ => False) HN4.out (by repeat (first | exact Only.refl _ _ | refine Only.drew ?_ | refine Only.drewN ?_ _ | refine Only.alloc ?_ _)) (fun q => q)) ho5 (by omega); have HB5 := Box.only (Box.only (X := fun _ => False) HB4.out (by repeat (first | exact Only.refl _ _ | refine Only.drew ?_ | refine Only.drewN ?_ _ | refine Only.alloc ?_ _)) (fun q => q)) ho5 (by omega); have m0 := HN5.cell 0; have m1 := HN5.cell 1; have d0 := HB5.cell 0; have d1 := HB5.cell 1; have d2 := HB5.cell 2; have d3 := HB5.cell 3; have d4 := HB5.cell 4; have df := HB5.frozen; simp only [List.getElem?_toArray, List.getElem?_cons_zero, List.getElem?_cons_succ] at m0 m1 d0 d1 d2 d3 d4; have l5 := blk_lt HN5; have l5' := blk_lt HB5; have HO5 := hide1 (((HO4.out.trans (by repeat (first | exact Only.refl _ _ | refine Only.drew ?_ | refine Only.drewN ?_ _ | refine Only.alloc ?_ _))).trans ho5)); have HR5 := hide1 hr5; clear hr5 ho5 HN5 HB5)
  all_goals
    go_wp2
    refine bodyPost_ret (v := .agg #[.string t1.text, .int .i64 t1.place, .slice va vl vc, .int .i64 p5, .slice none 0 0]) (by simp [results, Tryz.results172, go_sem, d0, d1, d2, d3, d4]) rfl ⟨⟨_, _, _, _, _, _, rfl⟩, ?_, ?_⟩
    · refine Box.only (X := fun k => k = w.heap.size) HR5.out ?_ (by omega)
      iterate 5 refine Only.set_at ?_ _ _
      exact Only.refl _ _
    · iterate 5 refine Only.set_new ?_ _ _ (Nat.le_refl _)
      exact HO5.out

end Go.Proofs.YtgbmakpdjdigmaaGreatDoor

/- The program's parser at the end of the tokens: program and Parse: where the first token that cannot stand is the end, Parse tells ErrParse and a place. -/
namespace Go.Proofs.YtgbmakpdjdigmaaGreatDoor
open Go.RowKit

set_option maxRecDepth 100000 in
set_option maxHeartbeats 1000000 in
theorem program_end (b g n cap : Nat) (x x3 : PS) (toks : List PT) (w : World) (hr : PaBlk b g n cap x w) (ht : PtRow g n cap toks w) (hc : x.next < n) (hz : (ptAt toks (n - 1)).kind = 0) (hx3 : (namesP toks n (takeP toks n 1 (takeP toks n 3 x))).2 = x3) (he : AtEnd toks n x3) :
    Calls Tryz.prog 118 #[.pointer (some ⟨b, 0, none⟩)] w fun e w' => (∃ (p : Int) (va : Option Addr) (vl vc : Nat), e = .returned (.agg #[.slice va vl vc, .int .i64 p])) ∧ PaBlk b g n cap (failP toks n x3) w' ∧ Only (fun k => k = b) w w' := by
  have lr := blk_lt hr
  have lg := ht.lt
  have hne := ht.ne hr (by decide)
  have HE := hide1 he
  have HZ := hide1 hz
  have X3 := hide1 hx3
  have hk : (ptAt toks (failP toks n x3).next).kind = 0 := hz
  have h0 : takeP toks n 0 (failP toks n x3) = failP toks n x3 := by simp [takeP, hk]
  have HK := hide1 hk
  have H0 := hide1 h0
  clear he hz hx3 hk h0
  obtain ⟨y, hy⟩ : ∃ y, failP toks n x3 = y := ⟨_, rfl⟩
  have hyn : y.next < n := by rw [← hy]; exact HE.out.fail.lt
  rw [hy] at HK H0 ⊢
  have HY := hide1 hy
  clear hy
  go_enter Tryz.func118, Tryz.ntmps118
  go_wp2_with fail
  refine (function_end b g n cap x toks _ (Box.alloc hr _) (ht.only ((Only.refl (fun _ => False) _).alloc _) (fun q => q)) hc HZ.out (by rw [X3.out]; exact HE.out)).mono ?_
  rw [X3.out, HY.out]
  rintro e w2 ⟨⟨s2, p2, q2, va, vl, vc, rfl⟩, hr2, ho2⟩
  have hB2 : Box w.heap.size #[.slice none 0 0, .int .i64 0] 98 w2 := (Box.new w _ _).only ho2 (by omega)
  have HB2 := hide1 hB2
  have HO2 := hide1 (((Only.refl (fun k => k = b) w).alloc _).trans ho2)
  have HT2 := hide1 ((ht.only ((Only.refl (fun _ => False) _).alloc (.cells #[.slice none 0 0, .int .i64 0] 98)) (fun q => q)).only ho2 hne)
  have HR2 := hide1 hr2
  have l2 := blk_lt hB2
  have l2' := blk_lt hr2
  clear hr2 ho2 hB2 hr ht
  go_wp2_with fail
  go_loopw [] (fun wr => Hid (PaBlk b g n cap y wr) ∧ Hid (PtRow g n cap toks wr) ∧ Hid (Box w.heap.size #[.slice none 0 0, .int .i64 0] 98 wr) ∧ Hid (Box (w2.heap.size + 1) #[.slice (some ⟨w2.heap.size, 0, none⟩) 1 1, .int .i64 0] 98 wr) ∧ Hid (Only (fun k => k = b) w wr)) (fun _ => 0)
  case atStart =>
    refine ⟨Box.alloc (Box.alloc HR2.out _) _, HT2.out.only (((Only.refl (fun _ => False) _).alloc _).alloc _) (fun q => q), Box.alloc (Box.alloc HB2.out _) _, ?_, (HO2.out.alloc _).alloc _⟩
    have := Box.new (w2.alloc (.cells #[.string s2, .int .i64 p2, .slice va vl vc, .int .i64 q2, .slice none 0 0] 203)) #[.slice (some ⟨w2.heap.size, 0, none⟩) 1 1, .int .i64 0] 98
    refine hide1 ?_
    simpa using this
  case round =>
    obtain ⟨hr, ht, hB, hC, ho⟩ := hrel
    clear HR2 HT2 HB2 HO2
    go_wp2_with fail
    refine (kind_any b g n cap y toks _ hr.out ht.out hyn).mono ?_
    rw [HK.out]
    rintro e w3 ⟨rfl, ho3⟩
    have hr3 := hide1 (Box.only hr.out ho3 (fun q => q))
    have ht3 := hide1 (ht.out.only ho3 (fun q => q))
    have hB3 := hide1 (Box.only hB.out ho3 (fun q => q))
    have hC3 := hide1 (Box.only hC.out ho3 (fun q => q))
    have hO3 := hide1 (ho.out.tr0 ho3)
    clear hr ht hB hC ho ho3
    go_wp2_with fail
    refine (ptake_any b g n cap 0 y toks _ hr3.out ht3.out hyn).mono ?_
    rw [H0.out]
    rintro e w4 ⟨rfl, hr4, ho4⟩
    have hB4 := Box.only hB3.out ho4 (by omega)
    have hC4 := Box.only hC3.out ho4 (by omega)
    have HO4 := hide1 (hO3.out.trans ho4)
    have HR4 := hide1 hr4
    have b0 := hB4.cell 0
    have b1 := hB4.cell 1
    have bf := hB4.frozen
    have d0 := hC4.cell 0
    have d1 := hC4.cell 1
    have df := hC4.frozen
    have lB := blk_lt hB4
    have lC := blk_lt hC4
    simp only [List.getElem?_toArray, List.getElem?_cons_zero, List.getElem?_cons_succ] at b0 b1 d0 d1
    clear hB4 hC4 ho4 hr4 hr3 ht3 hB3 hC3 hO3
    generalize takeV toks 0 y = t
    unfold ptV
    have hfd := Tryz.placeOf
    go_wp2
    refine bodyPost_ret (v := .agg #[.slice (some ⟨w2.heap.size, 0, none⟩) 1 1, .int .i64 t.place]) (by simp [results, Tryz.results118, go_sem, b0, b1]) rfl ⟨⟨_, _, _, _, rfl⟩, ?_, ?_⟩
    · refine Box.only (X := fun k => k = w.heap.size ∨ k = w2.heap.size + 1) HR4.out ?_ (by omega)
      exact ((((Only.refl _ w4).setCell (.inl (.inr rfl)) _).setCell (.inl (.inl rfl)) _).setCell (.inl (.inl rfl)) _)
    · exact ((HO4.out.set_new _ _ (by omega)).set_new _ _ (Nat.le_refl _)).set_new _ _ (Nat.le_refl _)


set_option maxRecDepth 100000 in
set_option maxHeartbeats 1000000 in
theorem parse_end (g n cap : Nat) (x3 : PS) (toks : List PT) (w : World) (ht : PtRow g n cap toks w) (hn : 0 < n) (hz : (ptAt toks (n - 1)).kind = 0) (hx3 : (namesP toks n (takeP toks n 1 (takeP toks n 3 ⟨0, false, 0⟩))).2 = x3) (he : AtEnd toks n x3) :
    Calls Tryz.prog 79 #[.slice (some ⟨g, 0, none⟩) n cap] w fun e w' => e = .returned (.tuple #[.agg #[.slice none 0 0, .int .i64 0], .int .i64 3, .int .i64 (failP toks n x3).wrong]) ∧ Below w.heap.size w w' := by
  have lg := ht.lt
  have HE := hide1 he
  have HZ := hide1 hz
  have X3 := hide1 hx3
  have hf : (failP toks n x3).failed = true := rfl
  obtain ⟨y, hy⟩ : ∃ y, failP toks n x3 = y := ⟨_, rfl⟩
  rw [hy] at hf ⊢
  have HY := hide1 hy
  have HF := hide1 hf
  clear hy hf hz hx3 he
  go_enter Tryz.func79, Tryz.ntmps79
  go_wp2_with fail
  have hb := Box.new (w.alloc (.cells #[.slice none 0 0, .int .i64 0] 98)) #[.slice (some ⟨g, 0, none⟩) n cap, .int .i64 0, .bool false, .int .i64 0] 236
  simp only [World.size_alloc] at hb
  have hb' : PaBlk (w.heap.size + 1) g n cap ⟨0, false, 0⟩ ((w.alloc (.cells #[.slice none 0 0, .int .i64 0] 98)).alloc (.cells #[.slice (some ⟨g, 0, none⟩) n cap, .int .i64 0, .bool false, .int .i64 0] 236)) := by simpa [PaBlk] using hb
  refine (program_end (w.heap.size + 1) g n cap ⟨0, false, 0⟩ x3 toks _ hb' (ht.only (((Only.refl (fun _ => False) _).alloc _).alloc _) (fun q => q)) hn HZ.out X3.out HE.out).mono ?_
  rw [HY.out]
  rintro e w2 ⟨⟨p2, va, vl, vc, rfl⟩, hr2, ho2⟩
  have hB2 : Box w.heap.size #[.slice none 0 0, .int .i64 0] 98 w2 := ((Box.new w #[.slice none 0 0, .int .i64 0] 98).alloc _).only ho2 (by omega)
  have HO2 := hide1 ((((Below.refl w.heap.size w).alloc (Nat.le_refl _) _).alloc (by simp) _).trans (ho2.belowB (B := w.heap.size) (by simp; omega) (fun k hk => by omega)))
  have b0 := hB2.cell 0
  have b1 := hB2.cell 1
  have bf := hB2.frozen
  have r2 := Box.cell hr2 2
  have r3 := Box.cell hr2 3
  simp only [List.getElem?_toArray, List.getElem?_cons_zero, List.getElem?_cons_succ, HF.out] at b0 b1 r2 r3
  have lB := blk_lt hB2
  have lR := blk_lt hr2
  clear hr2 ho2 hB2 ht hb hb'
  go_wp2
  go_region
  go_wp2
  refine bodyPost_ret (v := .tuple #[.agg #[.slice none 0 0, .int .i64 0], .int .i64 3, .int .i64 y.wrong]) (by simp [results, Tryz.results79, go_sem, b0, b1, lB]) rfl ⟨rfl, ?_⟩
  exact ((((HO2.out.setCell (p := ⟨w.heap.size, 0, none⟩) (Nat.le_refl _) _).setCell (p := ⟨w.heap.size, 1, none⟩) (Nat.le_refl _) _).alloc (by simp; omega) _)).trans ⟨rfl, rfl, rfl, Nat.le_refl _, fun _ _ => rfl⟩

end Go.Proofs.YtgbmakpdjdigmaaGreatDoor

/- Where a text is refused by its tokens, or at their end by the parser, Print, Run and Analyse tell the error and the place, and nothing else; nothing old is turned. Texts of at most 4000 bytes. -/
namespace Go.Proofs.YtgbmakpdjdigmaaGreatDoor
open Go.RowKit

abbrev zPr : Value := .agg #[.slice none 0 0, .int .i64 0]
/-- The text is refused by readText, whatever memory is. -/
def Refused (s : ByteArray) (err place : Nat) : Prop := ∀ w : World, Calls Tryz.prog 42 #[.string s] w fun e w' => e = .returned (.tuple #[.slice none 0 0, zPr, .int .i64 err, .int .i64 place]) ∧ Below w.heap.size w w'

set_option maxRecDepth 100000 in
set_option maxHeartbeats 1000000 in
theorem refused_text (s : ByteArray) (p : Nat) (hs : s.size ≤ 4000) (h : scanRun s s.size 0 x0 = .inl p) : Refused s 2 p := by
  intro w
  have H := hide1 h
  clear h
  go_enter Tryz.func42, Tryz.ntmps42
  go_wp2_with fail
  refine (tokens_any s hs _).mono ?_
  rw [H.out]
  rintro e w2 ⟨rfl, hb⟩
  have hz := hb.size
  simp at hz
  have hb2 : Below w.heap.size w w2 := ((Below.refl _ _).alloc (Nat.le_refl _) _).trans (hb.mono (by simp))
  have hB2 : Box w.heap.size #[.slice none 0 0, .int .i64 0] 98 w2 := by
    show w2.heap[w.heap.size]? = _
    rw [hb.block _ (by simp)]
    exact heap_alloc_new w _
  have b0 := hB2.cell 0
  have b1 := hB2.cell 1
  have bf := hB2.frozen
  simp only [List.getElem?_toArray, List.getElem?_cons_zero, List.getElem?_cons_succ] at b0 b1
  clear hb hB2
  go_wp2
  refine bodyPost_ret (v := .tuple #[.slice none 0 0, zPr, .int .i64 2, .int .i64 p]) (by simp [results, Tryz.results42, go_sem, b0, b1]) rfl ⟨rfl, ?_⟩
  exact (hb2.setCell (p := ⟨w.heap.size, 0, none⟩) (Nat.le_refl _) _).setCell (p := ⟨w.heap.size, 1, none⟩) (Nat.le_refl _) _

set_option maxRecDepth 100000 in
set_option maxHeartbeats 1000000 in
theorem refused_parse (s : ByteArray) (x : Sc) (x3 : PS) (hs : s.size ≤ 4000) (h : scanRun s s.size 0 x0 = .inr x) (hz : (ptAt (scanEnd s x) ((scanEnd s x).length - 1)).kind = 0)
    (hx3 : (namesP (scanEnd s x) (scanEnd s x).length (takeP (scanEnd s x) (scanEnd s x).length 1 (takeP (scanEnd s x) (scanEnd s x).length 3 ⟨0, false, 0⟩))).2 = x3) (he : AtEnd (scanEnd s x) (scanEnd s x).length x3) : Refused s 3 (failP (scanEnd s x) (scanEnd s x).length x3).wrong := by
  intro w
  have H := hide1 h
  have HZ := hide1 hz
  have HE := hide1 he
  have X3 := hide1 hx3
  have hl : 0 < (scanEnd s x).length := by simp [scanEnd]
  have HD := hide1 (scanEnd_dig h)
  clear h hz he hx3
  obtain ⟨q, hq⟩ : ∃ q, (failP (scanEnd s x) (scanEnd s x).length x3).wrong = q := ⟨_, rfl⟩
  rw [hq]
  have HQ := hide1 hq
  clear hq
  generalize hT : scanEnd s x = toks at *
  have HT := hide1 hT
  clear hT
  go_enter Tryz.func42, Tryz.ntmps42
  go_wp2_with fail
  refine (tokens_any s hs _).mono ?_
  rw [H.out]
  rintro e w2 ⟨v, rfl, hown, hlen, hb⟩
  rw [HT.out] at hown hlen
  have hz := hb.size
  simp at hz
  have hb2 : Below w.heap.size w w2 := ((Below.refl _ _).alloc (Nat.le_refl _) _).trans (hb.mono (by simp))
  have hB2 : Box w.heap.size #[.slice none 0 0, .int .i64 0] 98 w2 := by
    show w2.heap[w.heap.size]? = _
    rw [hb.block _ (by simp)]
    exact heap_alloc_new w _
  obtain ⟨va, vl, vc, rfl⟩ := owns_form hown
  obtain ⟨g, rfl⟩ := own_some hown hl
  have hvl := own_len hown
  subst hvl
  have hrow : PtRow g toks.length vc toks w2 := ⟨ownsRow_base hown (by omega), rfl, hlen, HD.out⟩
  have HB2 := hide1 hB2
  have HW2 := hide1 hb2
  clear hb hB2 hb2 hown
  go_wp2_with fail
  refine (parse_end g toks.length vc x3 toks w2 hrow hl HZ.out X3.out HE.out).mono ?_
  rw [HQ.out]
  rintro e w3 ⟨rfl, hb3⟩
  have hz3 := hb3.size
  have hB3 : Box w.heap.size #[.slice none 0 0, .int .i64 0] 98 w3 := by
    show w3.heap[w.heap.size]? = _
    rw [hb3.block _ (by omega)]
    exact HB2.out
  have HW3 := hide1 (HW2.out.trans (hb3.mono (by omega)))
  have b0 := hB3.cell 0
  have b1 := hB3.cell 1
  have bf := hB3.frozen
  simp only [List.getElem?_toArray, List.getElem?_cons_zero, List.getElem?_cons_succ] at b0 b1
  have l3 := blk_lt hB3
  clear hb3 hB3 HB2 HW2 hrow
  go_wp2
  refine bodyPost_ret (v := .tuple #[.slice none 0 0, zPr, .int .i64 3, .int .i64 q]) (by simp [results, Tryz.results42, go_sem, b0, b1, l3]) rfl ⟨rfl, ?_⟩
  exact ((HW3.out.setCell (p := ⟨w.heap.size, 0, none⟩) (Nat.le_refl _) _).setCell (p := ⟨w.heap.size, 1, none⟩) (Nat.le_refl _) _).alloc (by simp; omega) _

set_option maxRecDepth 100000 in
set_option maxHeartbeats 1000000 in
theorem print_refused (s : ByteArray) (err p : Nat) (h : Refused s err p) (he : err ≠ 0) (w : World) :
    Calls Tryz.prog 15 #[.string s] w fun e w' => e = .returned (.tuple #[.string { data := #[] }, .int .i64 err, .int .i64 p]) ∧ Below w.heap.size w w' := by
  have he' : ((err : Int) != 0) = true := by simp; omega
  go_enter Tryz.func15, Tryz.ntmps15
  go_wp2_with fail
  refine (h _).mono ?_
  rintro e w2 ⟨rfl, hb⟩
  have hz := hb.size
  go_wp2
  go_ret3
  exact ⟨rfl, hb.alloc (by omega) _⟩

set_option maxRecDepth 100000 in
set_option maxHeartbeats 1000000 in
theorem run_refused (s c : ByteArray) (k : Int) (err p : Nat) (h : Refused s err p) (he : err ≠ 0) (w : World) :
    Calls Tryz.prog 19 #[.string s, .string c, .int .i64 k] w fun e w' => e = .returned (.tuple #[.agg #[.int .i64 0, .int .i64 0, .slice none 0 0], .int .i64 err, .int .i64 p]) ∧ Below w.heap.size w w' := by
  have he' : ((err : Int) != 0) = true := by simp; omega
  go_enter Tryz.func19, Tryz.ntmps19
  go_wp2_with fail
  refine (h _).mono ?_
  rintro e w2 ⟨rfl, hb⟩
  have hz := hb.size
  simp at hz
  have hb2 : Below w.heap.size w w2 := ((Below.refl _ _).alloc (Nat.le_refl _) _).trans (hb.mono (by simp))
  have hB2 : Box w.heap.size #[.int .i64 0, .int .i64 0, .slice none 0 0] 35 w2 := by
    show w2.heap[w.heap.size]? = _
    rw [hb.block _ (by simp)]
    exact heap_alloc_new w _
  have b0 := hB2.cell 0
  have b1 := hB2.cell 1
  have b2 := hB2.cell 2
  have bf := hB2.frozen
  simp only [List.getElem?_toArray, List.getElem?_cons_zero, List.getElem?_cons_succ] at b0 b1 b2
  have l3 := blk_lt hB2
  clear hb hB2
  go_wp2
  refine bodyPost_ret (v := .tuple #[.agg #[.int .i64 0, .int .i64 0, .slice none 0 0], .int .i64 err, .int .i64 p]) (by simp [results, Tryz.results19, go_sem, b0, b1, b2, l3]) rfl ⟨rfl, ?_⟩
  exact (((hb2.setCell (p := ⟨w.heap.size, 0, none⟩) (Nat.le_refl _) _).setCell (p := ⟨w.heap.size, 1, none⟩) (Nat.le_refl _) _).setCell (p := ⟨w.heap.size, 2, none⟩) (Nat.le_refl _) _).alloc (by simp; omega) _

set_option maxRecDepth 100000 in
set_option maxHeartbeats 1000000 in
theorem analyse_refused (s : ByteArray) (err p : Nat) (h : Refused s err p) (he : err ≠ 0) (w : World) :
    Calls Tryz.prog 31 #[.string s] w fun e w' => e = .returned (.tuple #[.pointer none, .int .i64 err, .int .i64 p]) ∧ Below w.heap.size w w' := by
  have he' : ((err : Int) != 0) = true := by simp; omega
  go_enter Tryz.func31, Tryz.ntmps31
  go_wp2_with fail
  refine (h _).mono ?_
  rintro e w2 ⟨rfl, hb⟩
  have hz := hb.size
  go_wp2
  go_ret3
  exact ⟨rfl, hb.alloc (by omega) _⟩

end Go.Proofs.YtgbmakpdjdigmaaGreatDoor

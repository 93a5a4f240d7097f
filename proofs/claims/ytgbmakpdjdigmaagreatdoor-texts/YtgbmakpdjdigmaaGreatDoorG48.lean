/- FdA JoA RtA ChI PrA PrB TxA: told at each. -/
import Derived.Test.YtgbmakpdjdigmaaGreatDoorG05
import Derived.Test.YtgbmakpdjdigmaaGreatDoorShelf
import Derived.Test.YtgbmakpdjdigmaaGreatDoorG04
import Derived.Test.YtgbmakpdjdigmaaGreatDoorG40
import Derived.OwnWalk
import Derived.Test.YtgbmakpdjdigmaaGreatDoorG11
import Derived.Test.YtgbmakpdjdigmaaGreatDoorG17
import Derived.Test.YtgbmakpdjdigmaaGreatDoorG08
import Derived.Test.YtgbmakpdjdigmaaGreatDoorG22
import Derived.Test.YtgbmakpdjdigmaaGreatDoorG46
import Derived.Test.YtgbmakpdjdigmaaGreatDoorG47

/- The program's parser: field: strconv.Atoi by its contract (the shelf's, laid at this dump: Derived.Test.<alias>Shelf); so FieldOk, where strconv.ErrSyntax holds an error. -/
namespace Go.Proofs.YtgbmakpdjdigmaaGreatDoor
open Go.RowKit

theorem Tryz.textOf (a : Int) (s : ByteArray) (p : Int) (w : World) : (Instr.field 165 (.agg #[.int .i64 a, .string s, .int .i64 p]) 1).run Tryz.prog w = .ok (.string s) w := by kernel_rfl
theorem Below.quiet {w w' : World} (h : Below w.heap.size w w') : Only (fun _ => False) w w' := ⟨h.os, h.tape, h.output, h.size, fun k hk _ => h.block k hk⟩

/-- strconv.Atoi at the empty text and at the four digits. -/
theorem atoi_dig (t : ByteArray) (w : World) (ev : Value) (hv : w.cell? ⟨4, 0, none⟩ = some ev) (hev : ev = .nilIface ∨ ∃ te pe, ev = .iface te pe)
    (ht : t = ⟨#[]⟩ ∨ t = ⟨#[48]⟩ ∨ t = ⟨#[49]⟩ ∨ t = ⟨#[50]⟩ ∨ t = ⟨#[51]⟩) :
    Calls Tryz.prog 260 #[.string t] w fun e w' => ∃ x, e = .returned (.tuple #[.int .i64 (digN ⟨2, t, 0⟩), x]) ∧ Only (fun _ => False) w w' := by
  have good : ∀ (d : Nat), t.size ≤ 18 → Lib.atoi t.data.toList = some (d : Int) → digN ⟨2, t, 0⟩ = d → Calls Tryz.prog 260 #[.string t] w fun e w' => ∃ x, e = .returned (.tuple #[.int .i64 (digN ⟨2, t, 0⟩), x]) ∧ Only (fun _ => False) w w' := by
    intro d hl h hd
    rw [hd]
    refine (Tryz.strconv_Atoi t d hl h w).mono ?_
    rintro e w' ⟨rfl, u, rfl⟩
    exact ⟨_, rfl, Below.quiet (Lib.bytesWorld_below _ _ _)⟩
  rcases ht with h | h | h | h | h
  · have hd : digN ⟨2, t, 0⟩ = 0 := by subst h; decide +kernel
    rw [hd]
    refine (Tryz.strconv_Atoi_err t (by subst h; decide) (by subst h; decide) ev w hv hev).mono ?_
    rintro e w' ⟨N, rfl, _, _, hb⟩
    exact ⟨_, rfl, Below.quiet hb⟩
  · exact good 0 (by subst h; decide) (by subst h; decide) (by subst h; decide +kernel)
  · exact good 1 (by subst h; decide) (by subst h; decide) (by subst h; decide +kernel)
  · exact good 2 (by subst h; decide) (by subst h; decide) (by subst h; decide +kernel)
  · exact good 3 (by subst h; decide) (by subst h; decide) (by subst h; decide +kernel)

theorem ptAt_mem {l : List PT} {i : Nat} (h : i < l.length) : ptAt l i ∈ l := by
  unfold ptAt
  rw [List.getElem?_eq_getElem h]
  exact List.getElem_mem h
theorem takeV_dig {toks : List PT} {x : PS} (hd : DigOk toks) (hx : x.next < toks.length) :
    (takeV toks 2 x).text = ⟨#[]⟩ ∨ (takeV toks 2 x).text = ⟨#[48]⟩ ∨ (takeV toks 2 x).text = ⟨#[49]⟩ ∨ (takeV toks 2 x).text = ⟨#[50]⟩ ∨ (takeV toks 2 x).text = ⟨#[51]⟩ := by
  unfold takeV
  split
  · rename_i hk
    exact .inr (hd _ (ptAt_mem hx) hk)
  · exact .inl rfl

set_option maxRecDepth 100000 in
set_option maxHeartbeats 1000000 in
theorem field_any (B0 : Nat) (w00 : World) (h4 : 4 < B0) (ev : Value) (hv : w00.cell? ⟨4, 0, none⟩ = some ev) (hev : ev = .nilIface ∨ ∃ te pe, ev = .iface te pe) : FieldOk B0 w00 := by
  intro b g n cap x toks w hb hG hr ht hc
  have hdg := takeV_dig (x := x) ht.2.2.2 (by have := ht.2.1; omega)
  have hdn : digN (takeV toks 2 x) = digN ⟨2, (takeV toks 2 x).text, 0⟩ := rfl
  rw [hdn]
  obtain ⟨t, ht'⟩ : ∃ t, takeV toks 2 x = t := ⟨_, rfl⟩
  obtain ⟨y, hy'⟩ : ∃ y, takeP toks n 2 x = y := ⟨_, rfl⟩
  rw [ht'] at hdg
  rw [ht', hy']
  have hcell : w.cell? ⟨4, 0, none⟩ = some ev := by rw [hG.cell h4]; exact hv
  have HT' := hide1 ht'
  have HY' := hide1 hy'
  have HD := hide1 hdg
  clear ht' hy' hdg hdn
  go_enter Tryz.func259, Tryz.ntmps259
  go_wp2_with fail
  refine (ptake_any b g n cap 2 x toks _ hr ht hc).mono ?_
  rw [HT'.out, HY'.out]
  rintro e w2 ⟨rfl, hr2, ho2⟩
  have hc2 : w2.cell? ⟨4, 0, none⟩ = some ev := by
    have hl : 4 < w.heap.size := Lib.lt_of_cell hcell
    rw [World.cell?_of_block (w := w) (ho2.block 4 hl (by omega))]
    exact hcell
  have HR2 := hide1 hr2
  have HO2 := hide1 ho2
  have HC2 := hide1 hc2
  have HE := hide1 hev
  clear hr2 ho2 hc2 hr ht hev hcell hv hG
  unfold ptV
  have hfd := Tryz.textOf t.kind t.text t.place
  go_wp2_with (go_at_call 260; refine (atoi_dig t.text _ ev HC2.out HE.out HD.out).mono ?_)
  rintro e w3 ⟨z, rfl, ho3⟩
  have HO3 := hide1 ho3
  clear ho3
  go_wp2
  go_ret
  exact ⟨rfl, HR2.out.only HO3.out (fun q => q), HO2.out.trans (HO3.out.mono (fun _ _ q => q.elim))⟩

end Go.Proofs.YtgbmakpdjdigmaaGreatDoor

/- The program's joinTokens: the tokens' texts but the end's, a space between each two; nothing old is turned. -/
namespace Go.Proofs.YtgbmakpdjdigmaaGreatDoor
open Go.RowKit

/-- The texts of the tokens that are no end. -/
def txts (l : List PT) : List ByteArray := (l.filter (fun t => t.kind ≠ 0)).map (fun t => t.text)
theorem txts_snoc (l : List PT) (t : PT) : txts (l ++ [t]) = if t.kind = 0 then txts l else txts l ++ [t.text] := by
  unfold txts
  rw [List.filter_append, List.map_append]
  by_cases h : t.kind = 0
  · simp [h]
  · simp [h]
theorem txts_len (l : List PT) : (txts l).length ≤ l.length := by
  unfold txts
  rw [List.length_map]
  exact List.length_filter_le _ _
theorem take_at {l : List PT} {k : Nat} (h : k < l.length) : l.take (k + 1) = l.take k ++ [ptAt l k] := by
  rw [List.take_succ_eq_append_getElem h]
  unfold ptAt
  rw [List.getElem?_eq_getElem h]; rfl
theorem lens_le : ∀ (xs : List ByteArray), (∀ x, x ∈ xs → x.size ≤ 4000) → Lib.lens (xs.map (fun x => x.data.toList)) ≤ 4000 * xs.length
  | [], _ => by simp [Lib.lens]
  | x :: xs, h => by
    have h1 := lens_le xs (fun y hy => h y (List.mem_cons_of_mem _ hy))
    have h2 := h x (List.mem_cons_self ..)
    have h3 : x.data.toList.length = x.size := by simp
    simp only [Lib.lens, List.map_cons, List.sum_cons, List.length_cons] at h1 ⊢
    omega
theorem join_le (xs : List ByteArray) (h : ∀ x, x ∈ xs → x.size ≤ 4000) (hl : xs.length ≤ 4001) : (Lib.join (xs.map (fun x => x.data.toList)) [32]).length ≤ 140737488355328 := by
  cases xs with
  | nil => simp [Lib.join_nil]
  | cons x xs =>
    have := lens_le (x :: xs) h
    rw [List.map_cons, Lib.join_length]
    simp only [List.map_cons, List.length_cons, List.length_map, List.length_nil] at this hl ⊢
    omega

set_option maxRecDepth 100000 in
set_option maxHeartbeats 2000000 in
theorem join_any (g n cap : Nat) (toks : List PT) (w : World) (ht : PtRow g n cap toks w) (hs : ∀ t, t ∈ toks → t.text.size ≤ 4000) :
    Calls Tryz.prog 43 #[.slice (some ⟨g, 0, none⟩) n cap] w fun e w' => (∃ s : ByteArray, e = .returned (.string s) ∧ s.data.toList = Lib.join ((txts toks).map (fun x => x.data.toList)) [32]) ∧ Below w.heap.size w w' := by
  obtain ⟨i0, hi0, hz0, hz1, hz2⟩ := info_parts Tryz.infoStr
  have hnl := ht.2.1
  have hn := ht.2.2.1
  obtain ⟨m, hm⟩ : ∃ m, toks.length = m := ⟨_, rfl⟩
  rw [hm] at hnl
  subst hnl
  have HM := hide1 hm
  clear hm
  have lg := ht.lt
  have HT := hide1 ht
  have HS := hide1 hs
  clear ht hs
  go_enter Tryz.func43, Tryz.ntmps43
  go_wp2_with (at_make; refine wpList_make_own _ rfl _ _ 33 rfl w.heap.size 9 i0 (.string ByteArray.empty) 1 Tryz.underlying33 hi0 hz0 hz1 .i64 .i64 (n : Int) n rfl rfl rfl (by rw [hz2]; omega) (by unfold maxLen; omega) (Nat.le_refl _) ?_; intro w1 hown1 hgrow1)
  have HO1 := hide1 hown1
  have HG1 : Hid (Only (fun _ => False) w w1) := Only.grown (Only.refl _ w) hgrow1 (fun k hk => by cases hk)
  clear hown1 hgrow1
  go_loopw [3, 11] (fun v i wr => ∃ (k : Nat), k ≤ n ∧ i = .int .i64 k ∧ Hid (StrsAt w.heap.size wr v (txts (toks.take k))) ∧ Hid (Only (fun _ => False) w wr)) (fun _ i _ => n - (intOf i).toNat)
  case atStart => exact ⟨0, by omega, rfl, HO1, HG1⟩
  case round =>
    clear HO1 HG1
    obtain ⟨k, hk, rfl, HV, HO⟩ := hrel
    have hlen := txts_len (toks.take k)
    rw [List.length_take, HM.out] at hlen
    by_cases hlt : k < n
    · have hrow : PtRow g n cap toks wr := HT.out.only HO.out (fun q => q)
      obtain ⟨t0, t1, t2⟩ := hrow.cells hlt
      have lgr := hrow.lt
      have hta := take_at (l := toks) (k := k) (by rw [HM.out]; omega)
      have hsz : (ptAt toks k).text.size ≤ 4000 := by
        unfold ptAt
        rw [List.getElem?_eq_getElem (by rw [HM.out]; omega)]
        exact HS.out _ (List.getElem_mem _)
      have hsn := txts_snoc (toks.take k) (ptAt toks k)
      rw [← hta] at hsn
      generalize ptAt toks k = t at *
      have hkl : (k : Int) < (n : Int) := by omega
      obtain ⟨va, vl, vc, rfl⟩ := owns_form HV.out
      have hvl := own_len HV.out
      subst hvl
      have hsz2 := HO.out.size
      by_cases hk0 : t.kind = 0
      · have hk0' : ((t.kind : Int) != 0) = false := by simp [hk0]
        rw [if_pos hk0] at hsn
        have HSN := hide1 hsn
        clear hrow hta hsn hk0
        go_wp2
        go_roundw
        case rel => exact ⟨k + 1, by omega, by go_num, hide1 (by rw [HSN.out]; exact ownsRow_only HV.out ((Only.refl (fun _ => False) wr).alloc _) (fun _ _ q => q)), HO.out.alloc _⟩
        case measure => simp [intOf]; omega
      · have hk0' : ((t.kind : Int) != 0) = true := by simp [hk0]
        rw [if_neg hk0] at hsn
        have HSN := hide1 hsn
        have HV2 := hide1 (ownsRow_only HV.out ((Only.refl (fun _ => False) wr).alloc (.cells #[.int .i64 t.kind, .string t.text, .int .i64 t.place] 165)) (fun _ _ q => q))
        clear hrow hta hsn hk0
        go_wp2_with (at_builtin; refine wpList_append_own _ rfl _ _ 33 rfl w.heap.size 9 i0 (.string ByteArray.empty) 1 16 Tryz.underlying33 hi0 hz0 hz1 hz2 rfl (by decide) _ _ _ rfl (HV2.out.alloc _) ⟨wr.heap.size + 1, 0, none⟩ 1 1 [.string t.text] rfl rfl (cells_new (by simp) _ _) (fun x hx => by simp at hx; subst hx; rfl) (by unfold maxLen; omega) (by omega) (by simp; omega) ?_; intro v' w3 hown' hgrow3 hnil3)
        have O3 : Only (fun _ => False) w w3 := Only.grown ((HO.out.alloc _).alloc _) hgrow3 (fun j hj => .inr (HV.out.lt j hj).1)
        have HX : Hid (StrsAt w.heap.size w3 v' (txts (toks.take (k + 1)))) := by
          rw [HSN.out]
          unfold StrsAt
          rw [List.length_append, List.map_append]
          exact hown'
        clear hgrow3 hnil3 hown'
        go_wp2
        go_roundw
        case rel => exact ⟨k + 1, by omega, by go_num, HX, O3⟩
        case measure => simp [intOf]; omega
    · have e : k = n := by omega
      have hall : toks.take k = toks := List.take_of_length_le (by rw [HM.out]; omega)
      rw [hall] at hlen
      have hkl : decide ((k : Int) < (n : Int)) = false := by simp; omega
      have hv := HV.out
      rw [hall] at hv
      obtain ⟨va, vl, vc, rfl⟩ := owns_form hv
      have hvl := own_len hv
      subst hvl
      have hss : ∀ x, x ∈ txts toks → x.size ≤ 4000 := by
        intro x hx
        unfold txts at hx
        obtain ⟨t, ht, rfl⟩ := List.mem_map.1 hx
        exact HS.out t (List.mem_filter.1 ht).1
      have hjl := join_le (txts toks) hss (by omega)
      have hsz2 := HO.out.size
      have HVV := hide1 hv
      clear HV hv
      by_cases h0 : txts toks = []
      · rw [h0]
        go_wp2_with fail
        refine (Tryz.strings_Join_none va vc ⟨#[32]⟩ wr).mono ?_
        rintro e w2 ⟨rfl, rfl⟩
        go_wp2
        go_ret
        exact ⟨⟨_, rfl, by rw [h0]; simp [Lib.join_nil]⟩, (HO.out.below (fun _ q => q.elim))⟩
      · have hpos : 0 < (txts toks).length := List.length_pos_iff.2 h0
        obtain ⟨gv, rfl⟩ := own_some HVV.out hpos
        have lv := (HVV.out.lt gv rfl).2
        have hcap : (txts toks).length ≤ vc := by
          rcases HVV.out.2 with ⟨q, _⟩ | ⟨g', cap', cur', q, _, _, hc, _⟩
          · simp at q
          · simp only [Value.slice.injEq] at q
            omega
        go_wp2_with fail
        refine (Tryz.strings_Join gv 0 vc (txts toks) ⟨#[32]⟩ wr (fun j x hx => ?_) lv (by omega) hcap hjl).mono ?_
        · have hj : j < (txts toks).length := by
            rcases Nat.lt_or_ge j (txts toks).length with q | q
            · exact q
            · rw [List.getElem?_eq_none q] at hx; cases hx
          have := HVV.out.cellAt j (by omega)
          rw [List.getElem?_map, hx] at this
          simpa using this
        rintro e w2 ⟨rfl, hb2⟩
        go_wp2
        go_ret
        exact ⟨⟨_, rfl, by simp⟩, (HO.out.below (fun _ q => q.elim)).trans (hb2.mono hsz2)⟩

end Go.Proofs.YtgbmakpdjdigmaaGreatDoor

/- The program's readText as a whole, out of field's contract: what it answers of a text of at most 4000 bytes whose bytes are tokens. -/
namespace Go.Proofs.YtgbmakpdjdigmaaGreatDoor
open Go.RowKit

set_option maxRecDepth 100000 in
set_option maxHeartbeats 2000000 in
theorem readText_parse (B0 : Nat) (w00 : World) (hF : FieldOk B0 w00) (s : ByteArray) (y : Sc) (hs : s.size ≤ 4000) (h : scanRun s s.size 0 x0 = .inr y) (fns : List TF) (stop : Nat) (x : PS) (hP : progP (scanEnd s y) (scanEnd s y).length ⟨0, false, 0⟩ = (fns, stop, x)) (hx : x.failed = true) (w : World) (hG : Below B0 w00 w) (hB : B0 ≤ w.heap.size) (hz : (ptAt (scanEnd s y) ((scanEnd s y).length - 1)).kind = 0) :
    Calls Tryz.prog 42 #[.string s] w fun e w' => e = .returned (.tuple #[.slice none 0 0, zPr, .int .i64 3, .int .i64 x.wrong]) ∧ Below w.heap.size w w' := by
  have H := hide1 h
  have HZ := hide1 hz
  have HG := hide1 hG
  have HF := hide1 hF
  have HP := hide1 hP
  have hl : 0 < (scanEnd s y).length := by simp [scanEnd]
  have HD := hide1 (scanEnd_dig h)
  clear h hz hG hF hP
  generalize hT : scanEnd s y = toks at *
  have HT := hide1 hT
  clear hT
  go_enter Tryz.func42, Tryz.ntmps42
  go_wp2_with fail
  refine (tokens_any s hs _).mono ?_
  rw [H.out]
  rintro e w2 ⟨v, rfl, hown, hlen, hb⟩
  rw [HT.out] at hown hlen
  have hz := hb.size
  simp at hz
  have hb2 : Below w.heap.size w w2 := ((Below.refl _ _).alloc (Nat.le_refl _) _).trans (hb.mono (by simp))
  have hB2 : Box w.heap.size #[.slice none 0 0, .int .i64 0] 98 w2 := by
    show w2.heap[w.heap.size]? = _
    rw [hb.block _ (by simp)]
    exact heap_alloc_new w _
  obtain ⟨va, vl, vc, rfl⟩ := owns_form hown
  obtain ⟨g, rfl⟩ := own_some hown hl
  have hvl := own_len hown
  subst hvl
  have hgb := (hown.lt g rfl).1
  simp at hgb
  have hrow : PtRow g toks.length vc toks w2 := ⟨ownsRow_base hown (by omega), rfl, hlen, HD.out⟩
  have HR2 := hide1 hrow
  have HB2 := hide1 hB2
  have HW2 := hide1 hb2
  clear hb hB2 hb2 hown
  go_wp2_with fail
  refine (parse_all B0 w00 HF.out g toks.length vc toks w2 (HG.out.trans (HW2.out.mono hB)) (by omega) hrow hl HZ.out).mono ?_
  rw [HP.out]
  rintro e w3 (⟨_, rfl, hb3⟩ | ⟨q, _⟩)
  · have hz3 := hb3.size
    have hB3 : Box w.heap.size #[.slice none 0 0, .int .i64 0] 98 w3 := by
      show w3.heap[w.heap.size]? = _
      rw [hb3.block _ (by omega)]
      exact HB2.out
    have HW3 := hide1 (HW2.out.trans (hb3.mono (by omega)))
    have b0 := hB3.cell 0
    have b1 := hB3.cell 1
    have bf := hB3.frozen
    simp only [List.getElem?_toArray, List.getElem?_cons_zero, List.getElem?_cons_succ] at b0 b1
    have l3 := blk_lt hB3
    clear hb3 hB3 HB2 HW2 hrow HR2
    simp only
    go_wp2
    refine bodyPost_ret (v := .tuple #[.slice none 0 0, zPr, .int .i64 3, .int .i64 x.wrong]) (by simp [results, Tryz.results42, go_sem, b0, b1, l3]) rfl ⟨rfl, ?_⟩
    exact ((HW3.out.setCell (p := ⟨w.heap.size, 0, none⟩) (Nat.le_refl _) _).setCell (p := ⟨w.heap.size, 1, none⟩) (Nat.le_refl _) _).alloc (by simp; omega) _
  · exact absurd (hx.symm.trans q) (by decide)

set_option maxRecDepth 100000 in
set_option maxHeartbeats 2000000 in
theorem readText_bad (B0 : Nat) (w00 : World) (hF : FieldOk B0 w00) (s : ByteArray) (y : Sc) (hs : s.size ≤ 4000) (h : scanRun s s.size 0 x0 = .inr y) (fns : List TF) (stop : Nat) (x : PS) (hP : progP (scanEnd s y) (scanEnd s y).length ⟨0, false, 0⟩ = (fns, stop, x)) (hx : x.failed = false) (w : World) (hG : Below B0 w00 w) (hB : B0 ≤ w.heap.size) (hz : (ptAt (scanEnd s y) ((scanEnd s y).length - 1)).kind = 0)
    (dd : Nat) (hlow : ∀ d U w v, PRow d U w v fns → PRow dd U w v fns) (hy : THyp dd fns) (C : CS) (hC : chkC fns dd stop = C) (hc : C.fault ≠ 0) :
    Calls Tryz.prog 42 #[.string s] w fun e w' => e = .returned (.tuple #[.slice none 0 0, zPr, .int .i64 C.fault, .int .i64 C.place]) ∧ Below w.heap.size w w' := by
  have hc' : ((C.fault : Int) != 0) = true := by simp; omega
  have HC := hide1 hC
  clear hc hC
  have H := hide1 h
  have HZ := hide1 hz
  have HG := hide1 hG
  have HF := hide1 hF
  have HP := hide1 hP
  have hl : 0 < (scanEnd s y).length := by simp [scanEnd]
  have HD := hide1 (scanEnd_dig h)
  clear h hz hG hF hP
  generalize hT : scanEnd s y = toks at *
  have HT := hide1 hT
  clear hT
  go_enter Tryz.func42, Tryz.ntmps42
  go_wp2_with fail
  refine (tokens_any s hs _).mono ?_
  rw [H.out]
  rintro e w2 ⟨v, rfl, hown, hlen, hb⟩
  rw [HT.out] at hown hlen
  have hz := hb.size
  simp at hz
  have hb2 : Below w.heap.size w w2 := ((Below.refl _ _).alloc (Nat.le_refl _) _).trans (hb.mono (by simp))
  have hB2 : Box w.heap.size #[.slice none 0 0, .int .i64 0] 98 w2 := by
    show w2.heap[w.heap.size]? = _
    rw [hb.block _ (by simp)]
    exact heap_alloc_new w _
  obtain ⟨va, vl, vc, rfl⟩ := owns_form hown
  obtain ⟨g, rfl⟩ := own_some hown hl
  have hvl := own_len hown
  subst hvl
  have hgb := (hown.lt g rfl).1
  simp at hgb
  have hrow : PtRow g toks.length vc toks w2 := ⟨ownsRow_base hown (by omega), rfl, hlen, HD.out⟩
  have HR2 := hide1 hrow
  have HB2 := hide1 hB2
  have HW2 := hide1 hb2
  clear hb hB2 hb2 hown
  go_wp2_with fail
  refine (parse_all B0 w00 HF.out g toks.length vc toks w2 (HG.out.trans (HW2.out.mono hB)) (by omega) hrow hl HZ.out).mono ?_
  rw [HP.out]
  rintro e w3 (⟨q, _⟩ | ⟨_, d, U, a, l, c, rfl, hpr, hu, hb3⟩)
  · exact absurd (hx.symm.trans q) (by decide)
  · simp only at hpr ⊢
    have hz3 := hb3.size
    have hB3 : Box w.heap.size #[.slice none 0 0, .int .i64 0] 98 w3 := by
      show w3.heap[w.heap.size]? = _
      rw [hb3.block _ (by omega)]
      exact HB2.out
    have HW3 := hide1 (HW2.out.trans (hb3.mono (by omega)))
    have b0 := hB3.cell 0
    have b1 := hB3.cell 1
    have bf := hB3.frozen
    simp only [List.getElem?_toArray, List.getElem?_cons_zero, List.getElem?_cons_succ] at b0 b1
    have l3 := blk_lt hB3
    have hlo := hlow d U w3 (.slice a l c) hpr
    have HPR := hide1 (hlo.only ((Only.refl (fun _ => False) w3).alloc (.cells #[.slice a l c, .int .i64 stop] 98)) (fun _ _ q => q))
    clear hb3 HB2 HW2 hrow HR2 hpr hlo
    go_wp2_with fail
    refine (check_any dd U _ fns stop _ HPR.out (fun k hk => by have := (hu k hk).2; simp; omega) hy).mono ?_
    rw [HC.out]
    rintro e w4 ⟨rfl, ho4⟩
    have hB4 := (hB3.alloc _).only ho4 (fun q => q)
    have z4 := ho4.size
    simp at z4
    have HW4 : Hid (Below w.heap.size w w4) := (HW3.out.alloc (by omega) _).trans (ho4.belowB (by simp; omega) (fun _ q => q.elim))
    clear b0 b1 bf
    have b0 := hB4.cell 0
    have b1 := hB4.cell 1
    have bf := hB4.frozen
    have l4 := blk_lt hB4
    simp only [List.getElem?_toArray, List.getElem?_cons_zero, List.getElem?_cons_succ] at b0 b1
    clear ho4 hB4 hB3
    go_wp2
    refine bodyPost_ret (v := .tuple #[.slice none 0 0, zPr, .int .i64 C.fault, .int .i64 C.place]) (by simp [results, Tryz.results42, go_sem, b0, b1]) rfl ⟨rfl, ?_⟩
    exact (HW4.out.setCell (p := ⟨w.heap.size, 0, none⟩) (Nat.le_refl _) _).setCell (p := ⟨w.heap.size, 1, none⟩) (Nat.le_refl _) _

set_option maxRecDepth 100000 in
set_option maxHeartbeats 2000000 in
theorem readText_ok (B0 : Nat) (w00 : World) (hF : FieldOk B0 w00) (s : ByteArray) (y : Sc) (hs : s.size ≤ 4000) (h : scanRun s s.size 0 x0 = .inr y) (fns : List TF) (stop : Nat) (x : PS) (hP : progP (scanEnd s y) (scanEnd s y).length ⟨0, false, 0⟩ = (fns, stop, x)) (hx : x.failed = false) (w : World) (hG : Below B0 w00 w) (hB : B0 ≤ w.heap.size) (hz : (ptAt (scanEnd s y) ((scanEnd s y).length - 1)).kind = 0)
    (dd : Nat) (hlow : ∀ d U w v, PRow d U w v fns → PRow dd U w v fns) (hy : THyp dd fns) (C : CS) (hC : chkC fns dd stop = C) (hc : C.fault = 0) :
    Calls Tryz.prog 42 #[.string s] w fun e w' => ∃ (g cap : Nat) (a : Option Addr) (l c : Nat) (U : Nat → Prop), e = .returned (.tuple #[.slice (some ⟨g, 0, none⟩) (scanEnd s y).length cap, .agg #[.slice a l c, .int .i64 stop], .int .i64 0, .int .i64 0]) ∧ PtRow g (scanEnd s y).length cap (scanEnd s y) w' ∧ w.heap.size ≤ g ∧ PRow dd U w' (.slice a l c) fns ∧ (∀ k, U k → w.heap.size ≤ k ∧ k < w'.heap.size) ∧ Below w.heap.size w w' := by
  have hc' : ((C.fault : Int) != 0) = false := by simp [hc]
  have HC := hide1 hC
  clear hc hC
  have H := hide1 h
  have HZ := hide1 hz
  have HG := hide1 hG
  have HF := hide1 hF
  have HP := hide1 hP
  have hl : 0 < (scanEnd s y).length := by simp [scanEnd]
  have HD := hide1 (scanEnd_dig h)
  clear h hz hG hF hP
  generalize hT : scanEnd s y = toks at *
  have HT := hide1 hT
  clear hT
  go_enter Tryz.func42, Tryz.ntmps42
  go_wp2_with fail
  refine (tokens_any s hs _).mono ?_
  rw [H.out]
  rintro e w2 ⟨v, rfl, hown, hlen, hb⟩
  rw [HT.out] at hown hlen
  have hz := hb.size
  simp at hz
  have hb2 : Below w.heap.size w w2 := ((Below.refl _ _).alloc (Nat.le_refl _) _).trans (hb.mono (by simp))
  have hB2 : Box w.heap.size #[.slice none 0 0, .int .i64 0] 98 w2 := by
    show w2.heap[w.heap.size]? = _
    rw [hb.block _ (by simp)]
    exact heap_alloc_new w _
  obtain ⟨va, vl, vc, rfl⟩ := owns_form hown
  obtain ⟨g, rfl⟩ := own_some hown hl
  have hvl := own_len hown
  subst hvl
  have hgb := (hown.lt g rfl).1
  simp at hgb
  have hrow : PtRow g toks.length vc toks w2 := ⟨ownsRow_base hown (by omega), rfl, hlen, HD.out⟩
  have HR2 := hide1 hrow
  have HB2 := hide1 hB2
  have HW2 := hide1 hb2
  clear hb hB2 hb2 hown
  go_wp2_with fail
  refine (parse_all B0 w00 HF.out g toks.length vc toks w2 (HG.out.trans (HW2.out.mono hB)) (by omega) hrow hl HZ.out).mono ?_
  rw [HP.out]
  rintro e w3 (⟨q, _⟩ | ⟨_, d, U, a, l, c, rfl, hpr, hu, hb3⟩)
  · exact absurd (hx.symm.trans q) (by decide)
  · simp only at hpr ⊢
    have hz3 := hb3.size
    have hB3 : Box w.heap.size #[.slice none 0 0, .int .i64 0] 98 w3 := by
      show w3.heap[w.heap.size]? = _
      rw [hb3.block _ (by omega)]
      exact HB2.out
    have HW3 := hide1 (HW2.out.trans (hb3.mono (by omega)))
    have b0 := hB3.cell 0
    have b1 := hB3.cell 1
    have bf := hB3.frozen
    simp only [List.getElem?_toArray, List.getElem?_cons_zero, List.getElem?_cons_succ] at b0 b1
    have l3 := blk_lt hB3
    have hlo := hlow d U w3 (.slice a l c) hpr
    have HPR := hide1 (hlo.only ((Only.refl (fun _ => False) w3).alloc (.cells #[.slice a l c, .int .i64 stop] 98)) (fun _ _ q => q))
    have HR3 : Hid (PtRow g toks.length vc toks w3) := HR2.out.only (X := fun _ => False) ⟨hb3.os, hb3.tape, hb3.output, hb3.size, fun k hk _ => hb3.block k hk⟩ (fun q => q)
    have X3 := hide1 (Box.new w3 #[.slice a l c, .int .i64 stop] 98)
    clear hb3 HB2 HW2 hrow HR2 hpr hlo
    go_wp2_with fail
    refine (check_any dd U _ fns stop _ HPR.out (fun k hk => by have := (hu k hk).2; simp; omega) hy).mono ?_
    rw [HC.out]
    rintro e w4 ⟨rfl, ho4⟩
    have hB4 := (hB3.alloc _).only ho4 (fun q => q)
    have X4 := X3.out.only ho4 (fun q => q)
    have z4 := ho4.size
    simp at z4
    have HW4 : Hid (Below w.heap.size w w4) := (HW3.out.alloc (by omega) _).trans (ho4.belowB (by simp; omega) (fun _ q => q.elim))
    have HPR4 := hide1 (HPR.out.only ho4 (fun _ _ q => q))
    have HR4 : Hid (PtRow g toks.length vc toks w4) := (HR3.out.only ((Only.refl (fun _ => False) w3).alloc _) (fun q => q)).only ho4 (fun q => q)
    clear b0 b1 bf
    have b0 := hB4.cell 0
    have b1 := hB4.cell 1
    have bf := hB4.frozen
    have x0' := X4.cell 0
    have x1' := X4.cell 1
    have l4 := blk_lt hB4
    have l5 := blk_lt X4
    simp only [List.getElem?_toArray, List.getElem?_cons_zero, List.getElem?_cons_succ] at b0 b1 x0' x1'
    have hne : w3.heap.size ≠ w.heap.size := by omega
    clear ho4 hB4 hB3 X4
    go_wp2
    go_region
    go_wp2
    refine bodyPost_ret (v := .tuple #[.slice (some ⟨g, 0, none⟩) toks.length vc, .agg #[.slice a l c, .int .i64 stop], .int .i64 0, .int .i64 0]) (by simp [results, Tryz.results42, go_sem, b0, b1]) rfl ?_
    have hS : Only (fun k => k = w.heap.size) w4 (((w4.setCell ⟨w.heap.size, 0, none⟩ (.slice a l c)).setCell ⟨w.heap.size, 1, none⟩ (.int .i64 stop)).drew) := (((Only.refl _ w4).set_at 0 _).set_at 1 _).drew
    have hsz := hS.size
    refine ⟨g, vc, a, l, c, U, rfl, HR4.out.only hS (by omega), by omega, HPR4.out.only hS (fun k hk q => by have := (hu k hk).1; omega), fun k hk => ⟨by have := (hu k hk).1; omega, by have := (hu k hk).2; omega⟩, ?_⟩
    exact HW4.out.trans (hS.belowB (by omega) (fun k q => by omega))

end Go.Proofs.YtgbmakpdjdigmaaGreatDoor

/- The reference's Print: the tokens' texts, a space between each two; nothing is turned. -/
namespace Go.Proofs.YtgbmakpdjdigmaaGreatDoor
open Go.RowKit

/-- The text of the first tokens. -/
def prS (toks : List Tk) : Nat → List UInt8
  | 0 => []
  | i + 1 => prS toks i ++ (if 0 < i then [32] else []) ++ (tokAt toks i).text.data.toList

set_option maxRecDepth 100000 in
set_option maxHeartbeats 1000000 in
theorem refprint_any (g n cap : Nat) (toks : List Tk) (w : World) (ht : TokRow g n cap toks w) (hn0 : 0 < n) (hs : ∀ t, t ∈ toks → t.text.size ≤ 4000) :
    Calls Tryz.prog 18 #[.slice (some ⟨g, 0, none⟩) n cap] w fun e w' => (∃ s : ByteArray, e = .returned (.string s) ∧ s.data.toList = prS toks (n - 1)) ∧ w' = w := by
  have hn := ht.2.2
  have hnl := ht.2.1
  have lg : g < w.heap.size := (ht.1.lt g rfl).2
  have h32 : ByteArray.size { data := #[32] } = 1 := rfl
  have HT := hide1 ht
  clear ht
  go_enter Tryz.func18, Tryz.ntmps18
  go_wp2
  go_loopw [3, 4] (fun t i wr => ∃ (k : Nat) (s : ByteArray), k ≤ n - 1 ∧ i = .int .i64 k ∧ t = .string s ∧ wr = w ∧ Hid (s.data.toList = prS toks k) ∧ s.size ≤ 4001 * k) (fun _ i _ => n - 1 - (intOf i).toNat)
  case atStart => exact ⟨0, { data := #[] }, by omega, rfl, rfl, rfl, rfl, by decide⟩
  case round =>
    obtain ⟨k, s, hk, rfl, rfl, rfl, hsx, hsz⟩ := hrel
    by_cases hlt : k < n - 1
    · obtain ⟨t0, _, _⟩ := HT.out.cells (i := k) (by omega)
      have hts : (tokAt toks k).text.size ≤ 4000 := by
        unfold tokAt
        rw [List.getElem?_eq_getElem (by omega)]
        exact hs _ (List.getElem_mem _)
      have hp : prS toks (k + 1) = prS toks k ++ (if 0 < k then [32] else []) ++ (tokAt toks k).text.data.toList := rfl
      have HP := hide1 hp
      have hlt' : (k : Int) < (n : Int) - 1 := by omega
      clear hp
      generalize tokAt toks k = t at *
      by_cases hk0 : 0 < k
      · have hk0' : decide ((0 : Int) < (k : Int)) = true := by simp [hk0]
        go_wp2
        go_roundw
        case rel => exact ⟨k + 1, _, by omega, by go_num, rfl, by trivial, hide1 (by rw [HP.out]; simp [hsx.out, hk0]), by simp; omega⟩
        case measure => simp [intOf]; omega
      · have hk0' : decide ((0 : Int) < (k : Int)) = false := by simp; omega
        go_wp2
        go_roundw
        case rel => exact ⟨k + 1, _, by omega, by go_num, rfl, by trivial, hide1 (by rw [HP.out]; simp [hsx.out, hk0]), by simp; omega⟩
        case measure => simp [intOf]; omega
    · have e : k = n - 1 := by omega
      have hlt' : decide ((k : Int) < (n : Int) - 1) = false := by simp; omega
      go_wp2
      go_ret
      exact ⟨⟨s, rfl, by rw [hsx.out, e]⟩, rfl⟩

end Go.Proofs.YtgbmakpdjdigmaaGreatDoor

/- The program's Print, and the document's Read and Print: they tell the same, of every text. -/
namespace Go.Proofs.YtgbmakpdjdigmaaGreatDoor
open Go.RowKit

set_option maxRecDepth 100000 in
set_option maxHeartbeats 1000000 in
theorem print_bad (s : ByteArray) (err p : Nat) (w : World) (h : Calls Tryz.prog 42 #[.string s] w fun e w' => e = .returned (.tuple #[.slice none 0 0, zPr, .int .i64 err, .int .i64 p]) ∧ Below w.heap.size w w') (he : err ≠ 0) :
    Calls Tryz.prog 15 #[.string s] w fun e w' => e = .returned (.tuple #[.string { data := #[] }, .int .i64 err, .int .i64 p]) ∧ Below w.heap.size w w' := by
  have he' : ((err : Int) != 0) = true := by simp; omega
  have HH := hide1 h
  clear h
  go_enter Tryz.func15, Tryz.ntmps15
  go_wp2_with fail
  refine HH.out.mono ?_
  rintro e w2 ⟨rfl, hb⟩
  have hz := hb.size
  go_wp2
  go_ret3
  exact ⟨rfl, hb.alloc (by omega) _⟩

set_option maxRecDepth 100000 in
set_option maxHeartbeats 1000000 in
theorem print_good (s : ByteArray) (toks : List PT) (w : World) (J : List UInt8) (hJ : Lib.join ((txts toks).map (fun x => x.data.toList)) [32] = J) (hs : ∀ t, t ∈ toks → t.text.size ≤ 4000)
    (h : Calls Tryz.prog 42 #[.string s] w fun e w' => ∃ (g cap : Nat) (a : Option Addr) (l c stop : Nat), e = .returned (.tuple #[.slice (some ⟨g, 0, none⟩) toks.length cap, .agg #[.slice a l c, .int .i64 stop], .int .i64 0, .int .i64 0]) ∧ PtRow g toks.length cap toks w' ∧ Below w.heap.size w w') :
    Calls Tryz.prog 15 #[.string s] w fun e w' => (∃ u : ByteArray, e = .returned (.tuple #[.string u, .int .i64 0, .int .i64 0]) ∧ u.data.toList = J) ∧ Below w.heap.size w w' := by
  have HH := hide1 h
  have HJ := hide1 hJ
  have HS := hide1 hs
  clear h hJ hs
  go_enter Tryz.func15, Tryz.ntmps15
  go_wp2_with fail
  refine HH.out.mono ?_
  rintro e w2 ⟨g, cap, a, l, c, stop, rfl, hrow, hb⟩
  have hz := hb.size
  have HR := hide1 (hrow.only ((Only.refl (fun _ => False) w2).alloc (.cells #[.slice a l c, .int .i64 stop] 98)) (fun q => q))
  have HB := hide1 hb
  clear hrow hb
  go_wp2_with fail
  refine (join_any g toks.length cap toks _ HR.out HS.out).mono ?_
  rw [HJ.out]
  rintro e w3 ⟨⟨u, rfl, hu⟩, hb3⟩
  have HU := hide1 hu
  clear hu
  go_wp2
  go_ret3
  exact ⟨⟨u, rfl, HU.out⟩, (HB.out.alloc (by omega) _).trans (hb3.mono (by simp; omega))⟩

/-- What both tell of a text. -/
def telling (s : ByteArray) : Nat × Nat × List UInt8 :=
  if 4000 < s.size then (1, 0, []) else
  match scanRun s s.size 0 x0 with
  | .inl p => (2, p, [])
  | .inr y =>
    if (progP (scanEnd s y) (scanEnd s y).length ⟨0, false, 0⟩).2.2.failed = true then (3, (progP (scanEnd s y) (scanEnd s y).length ⟨0, false, 0⟩).2.2.wrong, [])
    else if (chkC (progP (scanEnd s y) (scanEnd s y).length ⟨0, false, 0⟩).1 4000 (progP (scanEnd s y) (scanEnd s y).length ⟨0, false, 0⟩).2.1).fault = 0 then (0, 0, Lib.join ((txts (scanEnd s y)).map (fun x => x.data.toList)) [32])
    else ((chkC (progP (scanEnd s y) (scanEnd s y).length ⟨0, false, 0⟩).1 4000 (progP (scanEnd s y) (scanEnd s y).length ⟨0, false, 0⟩).2.1).fault, (chkC (progP (scanEnd s y) (scanEnd s y).length ⟨0, false, 0⟩).1 4000 (progP (scanEnd s y) (scanEnd s y).length ⟨0, false, 0⟩).2.1).place, [])

set_option maxRecDepth 100000 in
set_option maxHeartbeats 1000000 in
theorem long_text (s : ByteArray) (hs : 4000 < s.size) (hm : s.size ≤ maxLen) (w : World) : Calls Tryz.prog 42 #[.string s] w fun e w' => e = .returned (.tuple #[.slice none 0 0, zPr, .int .i64 1, .int .i64 0]) ∧ Below w.heap.size w w' := by
  have HS := hide1 hs
  have HM := hide1 hm
  clear hs hm
  go_enter Tryz.func42, Tryz.ntmps42
  go_wp2_with fail
  refine (tokens_long s HS.out HM.out _).mono ?_
  rintro e w2 ⟨rfl, hw⟩
  have hw := hw.symm
  subst hw
  have hB2 := Box.new w #[.slice none 0 0, .int .i64 0] 98
  have b0 := hB2.cell 0
  have b1 := hB2.cell 1
  have bf := hB2.frozen
  simp only [List.getElem?_toArray, List.getElem?_cons_zero, List.getElem?_cons_succ] at b0 b1
  clear hB2
  go_wp2
  refine bodyPost_ret (v := .tuple #[.slice none 0 0, zPr, .int .i64 1, .int .i64 0]) (by simp [results, Tryz.results42, go_sem]) rfl ⟨rfl, ?_⟩
  exact (Below.refl w.heap.size w).alloc (Nat.le_refl _) _

end Go.Proofs.YtgbmakpdjdigmaaGreatDoor

/- The program's Print and the document's Read and Print tell the same of every text (telling). -/
namespace Go.Proofs.YtgbmakpdjdigmaaGreatDoor
open Go.RowKit

theorem join_snoc (xs : List (List UInt8)) (x sep : List UInt8) : Lib.join (xs ++ [x]) sep = if xs = [] then x else Lib.join xs sep ++ sep ++ x := by
  cases xs with
  | nil => simp [Lib.join_one]
  | cons y ys =>
    rw [List.cons_append, Lib.join_cons, Lib.join_cons, if_neg (by simp)]
    simp [Lib.joinTail]
theorem prS_join (toks : List PT) : ∀ k, k ≤ toks.length → prS (toks.map toTk) k = Lib.join ((toks.take k).map (fun t => t.text.data.toList)) [32]
  | 0, _ => by simp [prS, Lib.join_nil]
  | k + 1, h => by
    rw [prS, prS_join toks k (by omega), take_at (by omega), List.map_append, List.map_singleton, join_snoc, tokAt_map]
    have e : ((toks.take k).map fun t => t.text.data.toList) = [] ↔ k = 0 := by
      rw [List.map_eq_nil_iff, List.take_eq_nil_iff]
      constructor
      · rintro (q | q)
        · exact q
        · rw [q] at h; simp at h
      · exact .inl
    by_cases hk : k = 0
    · subst hk; simp [toTk, Lib.join_nil]
    · rw [if_pos (by omega), if_neg (fun q => hk (e.1 q))]
      rfl
theorem txts_all {N : Nat} {toks : List PT} (H : TksOk N toks) : txts toks = (toks.take (toks.length - 1)).map (fun t => t.text) := by
  have hp := H.pos
  obtain ⟨tl, l1, l2, l3, l4⟩ := H.last
  have e : toks = toks.take (toks.length - 1) ++ [tl] := by
    have h1 := take_at (l := toks) (k := toks.length - 1) (by omega)
    rw [show toks.length - 1 + 1 = toks.length by omega, List.take_length] at h1
    have h2 : ptAt toks (toks.length - 1) = tl := by unfold ptAt; rw [l1]; rfl
    rw [h2] at h1
    exact h1
  have hall : ∀ t, t ∈ toks.take (toks.length - 1) → t.kind ≠ 0 := by
    intro t ht
    obtain ⟨i, hi, rfl⟩ := List.mem_iff_getElem.1 ht
    rw [List.length_take] at hi
    rw [List.getElem_take]
    exact H.only i _ (by omega) (List.getElem?_eq_getElem (by omega))
  conv => lhs; rw [e]
  rw [txts_snoc, if_pos l2]
  unfold txts
  rw [List.filter_eq_self.2 (fun t ht => by simpa using hall t ht)]
theorem refT_scan (s : ByteArray) (y : Sc) : refT s ((endW s s.size y).toks.map toTk) = (scanEnd s y).map toTk := by
  unfold refT scanEnd
  rw [List.map_append, List.map_singleton, extract_none]
  rfl

/-- All that is known of a text whose bytes are tokens. -/
structure Known (s : ByteArray) (y : Sc) : Prop where
  ok : TksOk s.size (scanEnd s y)
  dig : DigOk (scanEnd s y)
  len : (scanEnd s y).length ≤ 4001
  lex : lexRun s s.size 0 [] = .inr ((endW s s.size y).toks.map toTk)
  num : ((endW s s.size y).toks.map toTk).length + 1 = (scanEnd s y).length
theorem known_of {s : ByteArray} {y : Sc} (hs : s.size ≤ 4000) (h : scanRun s s.size 0 x0 = .inr y) : Known s y := by
  have hl : lexRun s s.size 0 [] = .inr ((endW s s.size y).toks.map toTk) := by
    rw [lex_is_scan]
    have h' : scanRun s s.size 0 ⟨[], false, 0, 0⟩ = .inr y := h
    rw [h']; rfl
  have hn : ((endW s s.size y).toks.map toTk).length + 1 = (scanEnd s y).length := by simp [scanEnd]
  have := lexRun_len s s.size 0 [] _ (Nat.zero_le _) hl
  simp only [List.length_nil] at this
  exact ⟨scanEnd_ok h, scanEnd_dig h, by omega, hl, hn⟩

theorem print_tells (B0 : Nat) (w00 : World) (hF : FieldOk B0 w00) (s : ByteArray) (hm : s.size ≤ maxLen) (w : World) (hG : Below B0 w00 w) (hB : B0 ≤ w.heap.size) :
    Calls Tryz.prog 15 #[.string s] w fun e w' => (∃ u : ByteArray, e = .returned (.tuple #[.string u, .int .i64 (telling s).1, .int .i64 (telling s).2.1]) ∧ u.data.toList = (telling s).2.2) ∧ Below w.heap.size w w' := by
  unfold telling
  by_cases h4 : 4000 < s.size
  · rw [if_pos h4]
    refine (print_bad s 1 0 w (long_text s h4 hm w) (by decide)).mono ?_
    rintro e w' ⟨rfl, hb⟩
    exact ⟨⟨_, rfl, rfl⟩, hb⟩
  rw [if_neg h4]
  have hs : s.size ≤ 4000 := by omega
  cases hV : scanRun s s.size 0 x0 with
  | inl p =>
    refine (print_bad s 2 p w (refused_text s p hs hV w) (by decide)).mono ?_
    rintro e w' ⟨rfl, hb⟩
    exact ⟨⟨_, rfl, rfl⟩, hb⟩
  | inr y =>
    have K := known_of hs hV
    have hz := K.ok.end_
    obtain ⟨fns, stop, x, hP⟩ : ∃ a b c, progP (scanEnd s y) (scanEnd s y).length ⟨0, false, 0⟩ = (a, b, c) := ⟨_, _, _, rfl⟩
    obtain ⟨rf, yy, fs, hR⟩ : ∃ a b c, fnsR ((scanEnd s y).map toTk) (2 * (scanEnd s y).length) (scanEnd s y).length ⟨0, none, 0, 0⟩ [] [] = (a, b, c) := ⟨_, _, _, rfl⟩
    obtain ⟨p1, p2⟩ := prog_same K.ok K.dig hs K.len fns stop x hP rf yy fs hR
    simp only [hP]
    cases hx : x.failed with
    | true =>
      simp only [if_true]
      refine (print_bad s 3 x.wrong w (readText_parse B0 w00 hF s y hs hV fns stop x hP hx w hG hB hz) (by decide)).mono ?_
      rintro e w' ⟨rfl, hb⟩
      exact ⟨⟨_, rfl, rfl⟩, hb⟩
    | false =>
      obtain ⟨q1, q2, q3, q4, q5⟩ := p2 hx
      rw [if_neg (by decide)]
      by_cases hc : (chkC fns 4000 stop).fault = 0
      · rw [if_pos hc]
        refine (print_good s (scanEnd s y) w _ rfl (fun t ht => Nat.le_trans (K.ok.len t ht).1 hs) ((readText_ok B0 w00 hF s y hs hV fns stop x hP hx w hG hB hz 4000 q4 q3 _ rfl hc).mono ?_)).mono ?_
        · rintro e w' ⟨g, cap, a, l, c, U, rfl, hrow, _, _, _, hb⟩
          exact ⟨g, cap, a, l, c, stop, rfl, hrow, hb⟩
        · rintro e w' ⟨⟨u, rfl, hu⟩, hb⟩
          exact ⟨⟨u, rfl, hu⟩, hb⟩
      · rw [if_neg hc]
        refine (print_bad s _ _ w (readText_bad B0 w00 hF s y hs hV fns stop x hP hx w hG hB hz 4000 q4 q3 _ rfl hc) hc).mono ?_
        rintro e w' ⟨rfl, hb⟩
        exact ⟨⟨_, rfl, rfl⟩, hb⟩

set_option maxRecDepth 100000 in
set_option maxHeartbeats 1000000 in
theorem reflong (s : ByteArray) (hs : 4000 < s.size) (hm : s.size ≤ maxLen) (w : World) :
    Calls Tryz.prog 16 #[.string s] w fun e w' => e = .returned (.tuple #[.pointer none, .slice none 0 0, .int .i64 1, .int .i64 0]) ∧ w' = w := by
  unfold maxLen at hm
  have h4 : decide ((4000 : Int) < (s.size : Int)) = true := by simp; omega
  go_enter Tryz.func16, Tryz.ntmps16
  go_wp2
  exact bodyPost_ret (v := .tuple #[.pointer none, .slice none 0 0, .int .i64 1, .int .i64 0]) (by simp [results, Tryz.results16, go_sem]) rfl ⟨rfl, rfl⟩

theorem read_tells (s : ByteArray) (hm : s.size ≤ maxLen) (w : World) :
    Calls Tryz.prog 16 #[.string s] w fun e w' => (∃ pv tv, (∃ pa, pv = .pointer pa) ∧ (∃ a l c, tv = .slice a l c) ∧ e = .returned (.tuple #[pv, tv, .int .i64 (telling s).1, .int .i64 (telling s).2.1]) ∧ ((telling s).1 = 0 → ∃ g n cap toks, tv = .slice (some ⟨g, 0, none⟩) n cap ∧ TokRow g n cap toks w' ∧ 0 < n ∧ (∀ t, t ∈ toks → t.text.size ≤ 4000) ∧ prS toks (n - 1) = (telling s).2.2) ∧ ((telling s).1 ≠ 0 → (telling s).2.2 = [])) ∧ Below w.heap.size w w' := by
  unfold telling
  by_cases h4 : 4000 < s.size
  · rw [if_pos h4]
    refine (reflong s h4 hm w).mono ?_
    rintro e w' ⟨rfl, rfl⟩
    exact ⟨⟨_, _, ⟨_, rfl⟩, ⟨_, _, _, rfl⟩, rfl, fun h => absurd h (by decide), fun _ => rfl⟩, Below.refl _ _⟩
  rw [if_neg h4]
  have hs : s.size ≤ 4000 := by omega
  cases hV : scanRun s s.size 0 x0 with
  | inl p =>
    have hl : lexRun s s.size 0 [] = .inl p := by
      rw [lex_is_scan]
      have h' : scanRun s s.size 0 ⟨[], false, 0, 0⟩ = .inl p := hV
      rw [h']; rfl
    refine (refread_any s hs w 0 [] (fun l h => by rw [hl] at h; cases h)).mono ?_
    intro e w' hq
    unfold rdPost at hq
    rw [hl] at hq
    obtain ⟨rfl, hb⟩ := hq
    exact ⟨⟨_, _, ⟨_, rfl⟩, ⟨_, _, _, rfl⟩, rfl, fun h => absurd h (by simp), fun _ => rfl⟩, hb⟩
  | inr y =>
    have K := known_of hs hV
    obtain ⟨fns, stop, x, hP⟩ : ∃ a b c, progP (scanEnd s y) (scanEnd s y).length ⟨0, false, 0⟩ = (a, b, c) := ⟨_, _, _, rfl⟩
    obtain ⟨rf, yy, fs, hR⟩ : ∃ a b c, fnsR ((scanEnd s y).map toTk) (2 * (scanEnd s y).length) (scanEnd s y).length ⟨0, none, 0, 0⟩ [] [] = (a, b, c) := ⟨_, _, _, rfl⟩
    obtain ⟨p1, p2⟩ := prog_same K.ok K.dig hs K.len fns stop x hP rf yy fs hR
    have hRP : refP s ((endW s s.size y).toks.map toTk) = (rf, yy, fs) := by
      unfold refP
      rw [refT_scan, K.num]
      exact hR
    simp only [hP]
    cases hx : x.failed with
    | true =>
      simp only [if_true]
      have hyb := p1 hx
      refine (refread_any s hs w 0 [] (fun l h => by
        rw [K.lex] at h
        cases h
        rw [hRP]
        intro q
        simp only at q
        rw [hyb] at q
        cases q)).mono ?_
      intro e w' hq
      unfold rdPost at hq
      rw [K.lex] at hq
      simp only [hRP, hyb] at hq
      obtain ⟨rfl, hb⟩ := hq
      exact ⟨⟨_, _, ⟨_, rfl⟩, ⟨_, _, _, rfl⟩, rfl, fun h => absurd h (by simp), fun _ => trivial⟩, hb⟩
    | false =>
      obtain ⟨q1, q2, q3, q4, q5⟩ := p2 hx
      rw [if_neg (by decide)]
      refine (refread_any s hs w 4000 fns (fun l h => by
        rw [K.lex] at h
        cases h
        rw [hRP]
        intro _
        exact q2)).mono ?_
      intro e w' hq
      unfold rdPost at hq
      rw [K.lex] at hq
      have hA : refA s ((endW s s.size y).toks.map toTk) 4000 fns = rallC rf 4000 fns 0 (rf, ⟨0, 0⟩) := by unfold refA; rw [hRP]
      have hC : refC s ((endW s s.size y).toks.map toTk) 4000 fns = chkC fns 4000 stop := by unfold refC; rw [hA, hRP]; exact q5.symm
      simp only [hRP, q1, hA, hC] at hq
      unfold rdFin at hq
      by_cases hc : (chkC fns 4000 stop).fault = 0
      · rw [if_pos hc] at hq ⊢
        obtain ⟨pb, B, g, cap, U, fv, sv, rfl, ht, _, _, _, _, _, _, hb⟩ := hq
        rw [K.num, refT_scan] at ht
        refine ⟨⟨_, _, ⟨_, rfl⟩, ⟨_, _, _, rfl⟩, rfl, fun _ => ⟨g, _, cap, (scanEnd s y).map toTk, rfl, by rw [K.num]; exact ht, by omega, fun t htm => ?_, ?_⟩, fun h => absurd rfl h⟩, hb⟩
        · obtain ⟨p, hp, rfl⟩ := List.mem_map.1 htm
          exact Nat.le_trans (K.ok.len p hp).1 hs
        · rw [K.num, prS_join _ _ (by omega), txts_all K.ok, List.map_map]
          rfl
      · rw [if_neg hc] at hq ⊢
        obtain ⟨rfl, hb⟩ := hq
        exact ⟨⟨_, _, ⟨_, rfl⟩, ⟨_, _, _, rfl⟩, rfl, fun h => absurd h hc, fun _ => rfl⟩, hb⟩

end Go.Proofs.YtgbmakpdjdigmaaGreatDoor

/- The law Texts: it returns true, of every text, where field's contract stands. -/
namespace Go.Proofs.YtgbmakpdjdigmaaGreatDoor
open Go.RowKit

abbrev knT : ByteArray := ⟨#[102, 110, 32, 109, 97, 105, 110, 40, 41, 123, 118, 97, 114, 32, 112, 59, 112, 61, 38, 112, 46, 51, 59, 125, 35, 32, 120]⟩
abbrev knL : List UInt8 := [102, 110, 32, 109, 97, 105, 110, 32, 40, 32, 41, 32, 123, 32, 118, 97, 114, 32, 112, 32, 59, 32, 112, 32, 61, 32, 38, 32, 112, 32, 46, 32, 51, 32, 59, 32, 125]
theorem kn_tell : telling knT = (0, 0, knL) := by decide +kernel

set_option maxRecDepth 100000 in
set_option maxHeartbeats 1000000 in
theorem num_any (n : Int) (w : World) : Calls Tryz.prog 17 #[.int .i64 n] w fun e w' => e = .returned (.int .i64 n) ∧ w' = w := by
  go_enter Tryz.func17, Tryz.ntmps17
  go_wp2
  go_ret
  exact ⟨rfl, rfl⟩

set_option maxRecDepth 100000 in
set_option maxHeartbeats 1000000 in
theorem known_any (B0 : Nat) (w00 : World) (hF : FieldOk B0 w00) (w : World) (hG : Below B0 w00 w) (hB : B0 ≤ w.heap.size) :
    Calls Tryz.prog 14 #[] w fun e w' => e = .returned (.bool true) ∧ Below w.heap.size w w' := by
  have HH := hide1 (print_tells B0 w00 hF knT (by unfold maxLen; decide) w hG hB)
  rw [kn_tell] at HH
  clear hF hG hB
  go_enter Tryz.func14, Tryz.ntmps14
  go_wp2_with fail
  refine HH.out.mono ?_
  rintro e w2 ⟨⟨u, rfl, hu⟩, hb⟩
  have hu' : (u.toList == ({ data := #[102, 110, 32, 109, 97, 105, 110, 32, 40, 32, 41, 32, 123, 32, 118, 97, 114, 32, 112, 32, 59, 32, 112, 32, 61, 32, 38, 32, 112, 32, 46, 32, 51, 32, 59, 32, 125] } : ByteArray).toList) = true := by
    rw [ByteArray.toList_eq, ByteArray.toList_eq, hu]
    decide
  have hu2 : (u.toList == knL) = true := by
    rw [ByteArray.toList_eq, hu]
    decide
  have HB := hide1 hb
  clear hu hb
  go_wp2
  go_ret
  exact ⟨rfl, HB.out⟩

set_option maxRecDepth 100000 in
set_option maxHeartbeats 2000000 in
theorem texts_any (s : ByteArray) (hm : s.size ≤ maxLen) (w : World) (hF : FieldOk w.heap.size w) :
    Calls Tryz.prog 3 #[.string s] w fun e w' => e = .returned (.bool true) ∧ Below w.heap.size w w' := by
  obtain ⟨f, p, J, hT⟩ : ∃ f p J, telling s = (f, p, J) := ⟨_, _, _, rfl⟩
  have hff : ((f : Int) != (f : Int)) = false := by simp
  have hpp : ((p : Int) != (p : Int)) = false := by simp
  by_cases h0 : f = 0
  · have hf0 : ((f : Int) != 0) = false := by simp [h0]
    have HF0 := hide1 h0
    clear h0
    have HF := hide1 hF
    have HT := hide1 hT
    have HM := hide1 hm
    clear hF hT hm
    go_enter Tryz.func3, Tryz.ntmps3
    go_wp2_with fail
    refine (known_any w.heap.size w HF.out w (Below.refl _ _) (Nat.le_refl _)).mono ?_
    rintro e w1 ⟨rfl, hb1⟩
    have z1 := hb1.size
    have HB1 := hide1 hb1
    clear hb1
    go_wp2_with fail
    refine (print_tells w.heap.size w HF.out s HM.out w1 HB1.out z1).mono ?_
    rw [HT.out]
    rintro e w2 ⟨⟨u, rfl, hu⟩, hb2⟩
    have z2 := hb2.size
    have HB2 := hide1 (HB1.out.trans (hb2.mono z1))
    have HU := hide1 hu
    clear hb2 hu
    go_wp2_with fail
    refine (read_tells s HM.out w2).mono ?_
    rw [HT.out]
    rintro e w3 ⟨⟨pv, tv, ⟨pa, rfl⟩, ⟨ta, tl, tc, rfl⟩, rfl, hok, hbad⟩, hb3⟩
    have HB3 := hide1 (HB2.out.trans (hb3.mono (by omega)))
    have HOK := hide1 hok
    have HBAD := hide1 hbad
    clear hb3 hok hbad
    simp only at HU HOK HBAD
    go_wp2_with (go_at_call 17; refine (num_any _ _).mono ?_; rintro e w' ⟨rfl, hw⟩; have hw := hw.symm; subst hw)
    obtain ⟨g, n, cap, toks, htv, ht, hn0, hs, hj⟩ := HOK.out HF0.out
    rw [Value.slice.injEq] at htv
    obtain ⟨rfl, rfl, rfl⟩ := htv
    refine (refprint_any g tl tc toks w3 ht hn0 hs).mono ?_
    rintro e w4 ⟨⟨v, rfl, hv⟩, hw⟩
    have hw := hw.symm
    subst hw
    have hq : (u.toList == v.toList) = true := by
      rw [ByteArray.toList_eq, ByteArray.toList_eq, HU.out, hv, hj]
      simp
    clear hv hj ht
    go_wp2
    go_ret
    exact ⟨rfl, HB3.out⟩
  · have hf0 : ((f : Int) != 0) = true := by simp [h0]
    have HF0 := hide1 h0
    clear h0
    have HF := hide1 hF
    have HT := hide1 hT
    have HM := hide1 hm
    clear hF hT hm
    go_enter Tryz.func3, Tryz.ntmps3
    go_wp2_with fail
    refine (known_any w.heap.size w HF.out w (Below.refl _ _) (Nat.le_refl _)).mono ?_
    rintro e w1 ⟨rfl, hb1⟩
    have z1 := hb1.size
    have HB1 := hide1 hb1
    clear hb1
    go_wp2_with fail
    refine (print_tells w.heap.size w HF.out s HM.out w1 HB1.out z1).mono ?_
    rw [HT.out]
    rintro e w2 ⟨⟨u, rfl, hu⟩, hb2⟩
    have z2 := hb2.size
    have HB2 := hide1 (HB1.out.trans (hb2.mono z1))
    have HU := hide1 hu
    clear hb2 hu
    go_wp2_with fail
    refine (read_tells s HM.out w2).mono ?_
    rw [HT.out]
    rintro e w3 ⟨⟨pv, tv, ⟨pa, rfl⟩, ⟨ta, tl, tc, rfl⟩, rfl, hok, hbad⟩, hb3⟩
    have HB3 := hide1 (HB2.out.trans (hb3.mono (by omega)))
    have HOK := hide1 hok
    have HBAD := hide1 hbad
    clear hb3 hok hbad
    simp only at HU HOK HBAD
    have hq : (u.toList == ({ data := #[] } : ByteArray).toList) = true := by
      rw [ByteArray.toList_eq, ByteArray.toList_eq, HU.out, HBAD.out HF0.out]
      simp
    have hq2 : (u.toList == []) = true := by
      rw [ByteArray.toList_eq, HU.out, HBAD.out HF0.out]
      simp
    go_wp2_with (go_at_call 17; refine (num_any _ _).mono ?_; rintro e w' ⟨rfl, hw⟩; have hw := hw.symm; subst hw)
    go_ret
    exact ⟨rfl, HB3.out⟩

end Go.Proofs.YtgbmakpdjdigmaaGreatDoor

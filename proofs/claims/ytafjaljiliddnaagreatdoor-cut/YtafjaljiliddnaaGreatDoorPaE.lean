/- The program's parser at the end of the tokens: program and Parse: where the first token that cannot stand is the end, Parse tells ErrParse and a place. -/
import Derived.Test.YtafjaljiliddnaaGreatDoorPaD
namespace Go.Proofs.YtafjaljiliddnaaGreatDoor
open Go.RowKit

set_option maxRecDepth 100000 in
set_option maxHeartbeats 1000000 in
theorem program_end (b g n cap : Nat) (x x3 : PS) (toks : List PT) (w : World) (hr : PaBlk b g n cap x w) (ht : PtRow g n cap toks w) (hc : x.next < n) (hz : (ptAt toks (n - 1)).kind = 0) (hx3 : (namesP toks n (takeP toks n 1 (takeP toks n 3 x))).2 = x3) (he : AtEnd toks n x3) :
    Calls Tryz.prog 102 #[.pointer (some ⟨b, 0, none⟩)] w fun e w' => (∃ (p : Int) (va : Option Addr) (vl vc : Nat), e = .returned (.agg #[.slice va vl vc, .int .i64 p])) ∧ PaBlk b g n cap (failP toks n x3) w' ∧ Only (fun k => k = b) w w' := by
  have lr := blk_lt hr
  have lg := ht.lt
  have hne := ht.ne hr (by decide)
  have HE := hide1 he
  have HZ := hide1 hz
  have X3 := hide1 hx3
  have hk : (ptAt toks (failP toks n x3).next).kind = 0 := hz
  have h0 : takeP toks n 0 (failP toks n x3) = failP toks n x3 := by simp [takeP, hk]
  have HK := hide1 hk
  have H0 := hide1 h0
  clear he hz hx3 hk h0
  obtain ⟨y, hy⟩ : ∃ y, failP toks n x3 = y := ⟨_, rfl⟩
  have hyn : y.next < n := by rw [← hy]; exact HE.out.fail.lt
  rw [hy] at HK H0 ⊢
  have HY := hide1 hy
  clear hy
  go_enter Tryz.func102, Tryz.ntmps102
  go_wp2_with fail
  refine (function_end b g n cap x toks _ (Box.alloc hr _) (ht.only ((Only.refl (fun _ => False) _).alloc _) (fun q => q)) hc HZ.out (by rw [X3.out]; exact HE.out)).mono ?_
  rw [X3.out, HY.out]
  rintro e w2 ⟨⟨s2, p2, q2, va, vl, vc, rfl⟩, hr2, ho2⟩
  have hB2 : Box w.heap.size #[.slice none 0 0, .int .i64 0] 85 w2 := (Box.new w _ _).only ho2 (by omega)
  have HB2 := hide1 hB2
  have HO2 := hide1 (((Only.refl (fun k => k = b) w).alloc _).trans ho2)
  have HT2 := hide1 ((ht.only ((Only.refl (fun _ => False) _).alloc (.cells #[.slice none 0 0, .int .i64 0] 85)) (fun q => q)).only ho2 hne)
  have HR2 := hide1 hr2
  have l2 := blk_lt hB2
  have l2' := blk_lt hr2
  clear hr2 ho2 hB2 hr ht
  go_wp2_with fail
  go_loopw [] (fun wr => Hid (PaBlk b g n cap y wr) ∧ Hid (PtRow g n cap toks wr) ∧ Hid (Box w.heap.size #[.slice none 0 0, .int .i64 0] 85 wr) ∧ Hid (Box (w2.heap.size + 1) #[.slice (some ⟨w2.heap.size, 0, none⟩) 1 1, .int .i64 0] 85 wr) ∧ Hid (Only (fun k => k = b) w wr)) (fun _ => 0)
  case atStart =>
    refine ⟨Box.alloc (Box.alloc HR2.out _) _, HT2.out.only (((Only.refl (fun _ => False) _).alloc _).alloc _) (fun q => q), Box.alloc (Box.alloc HB2.out _) _, ?_, (HO2.out.alloc _).alloc _⟩
    have := Box.new (w2.alloc (.cells #[.string s2, .int .i64 p2, .slice va vl vc, .int .i64 q2, .slice none 0 0] 184)) #[.slice (some ⟨w2.heap.size, 0, none⟩) 1 1, .int .i64 0] 85
    refine hide1 ?_
    simpa using this
  case round =>
    obtain ⟨hr, ht, hB, hC, ho⟩ := hrel
    clear HR2 HT2 HB2 HO2
    go_wp2_with fail
    refine (kind_any b g n cap y toks _ hr.out ht.out hyn).mono ?_
    rw [HK.out]
    rintro e w3 ⟨rfl, ho3⟩
    have hr3 := hide1 (Box.only hr.out ho3 (fun q => q))
    have ht3 := hide1 (ht.out.only ho3 (fun q => q))
    have hB3 := hide1 (Box.only hB.out ho3 (fun q => q))
    have hC3 := hide1 (Box.only hC.out ho3 (fun q => q))
    have hO3 := hide1 (ho.out.tr0 ho3)
    clear hr ht hB hC ho ho3
    go_wp2_with fail
    refine (ptake_any b g n cap 0 y toks _ hr3.out ht3.out hyn).mono ?_
    rw [H0.out]
    rintro e w4 ⟨rfl, hr4, ho4⟩
    have hB4 := Box.only hB3.out ho4 (by omega)
    have hC4 := Box.only hC3.out ho4 (by omega)
    have HO4 := hide1 (hO3.out.trans ho4)
    have HR4 := hide1 hr4
    have b0 := hB4.cell 0
    have b1 := hB4.cell 1
    have bf := hB4.frozen
    have d0 := hC4.cell 0
    have d1 := hC4.cell 1
    have df := hC4.frozen
    have lB := blk_lt hB4
    have lC := blk_lt hC4
    simp only [List.getElem?_toArray, List.getElem?_cons_zero, List.getElem?_cons_succ] at b0 b1 d0 d1
    clear hB4 hC4 ho4 hr4 hr3 ht3 hB3 hC3 hO3
    generalize takeV toks 0 y = t
    unfold ptV
    have hfd := Tryz.placeOf
    go_wp2
    refine bodyPost_ret (v := .agg #[.slice (some ⟨w2.heap.size, 0, none⟩) 1 1, .int .i64 t.place]) (by simp [results, Tryz.results102, go_sem, b0, b1]) rfl ⟨⟨_, _, _, _, rfl⟩, ?_, ?_⟩
    · refine Box.only (X := fun k => k = w.heap.size ∨ k = w2.heap.size + 1) HR4.out ?_ (by omega)
      exact ((((Only.refl _ w4).setCell (.inl (.inr rfl)) _).setCell (.inl (.inl rfl)) _).setCell (.inl (.inl rfl)) _)
    · exact ((HO4.out.set_new _ _ (by omega)).set_new _ _ (Nat.le_refl _)).set_new _ _ (Nat.le_refl _)


set_option maxRecDepth 100000 in
set_option maxHeartbeats 1000000 in
theorem parse_end (g n cap : Nat) (x3 : PS) (toks : List PT) (w : World) (ht : PtRow g n cap toks w) (hn : 0 < n) (hz : (ptAt toks (n - 1)).kind = 0) (hx3 : (namesP toks n (takeP toks n 1 (takeP toks n 3 ⟨0, false, 0⟩))).2 = x3) (he : AtEnd toks n x3) :
    Calls Tryz.prog 57 #[.slice (some ⟨g, 0, none⟩) n cap] w fun e w' => e = .returned (.tuple #[.agg #[.slice none 0 0, .int .i64 0], .int .i64 3, .int .i64 (failP toks n x3).wrong]) ∧ Below w.heap.size w w' := by
  have lg := ht.lt
  have HE := hide1 he
  have HZ := hide1 hz
  have X3 := hide1 hx3
  have hf : (failP toks n x3).failed = true := rfl
  obtain ⟨y, hy⟩ : ∃ y, failP toks n x3 = y := ⟨_, rfl⟩
  rw [hy] at hf ⊢
  have HY := hide1 hy
  have HF := hide1 hf
  clear hy hf hz hx3 he
  go_enter Tryz.func57, Tryz.ntmps57
  go_wp2_with fail
  have hb := Box.new (w.alloc (.cells #[.slice none 0 0, .int .i64 0] 85)) #[.slice (some ⟨g, 0, none⟩) n cap, .int .i64 0, .bool false, .int .i64 0] 220
  simp only [World.size_alloc] at hb
  have hb' : PaBlk (w.heap.size + 1) g n cap ⟨0, false, 0⟩ ((w.alloc (.cells #[.slice none 0 0, .int .i64 0] 85)).alloc (.cells #[.slice (some ⟨g, 0, none⟩) n cap, .int .i64 0, .bool false, .int .i64 0] 220)) := by simpa [PaBlk] using hb
  refine (program_end (w.heap.size + 1) g n cap ⟨0, false, 0⟩ x3 toks _ hb' (ht.only (((Only.refl (fun _ => False) _).alloc _).alloc _) (fun q => q)) hn HZ.out X3.out HE.out).mono ?_
  rw [HY.out]
  rintro e w2 ⟨⟨p2, va, vl, vc, rfl⟩, hr2, ho2⟩
  have hB2 : Box w.heap.size #[.slice none 0 0, .int .i64 0] 85 w2 := ((Box.new w #[.slice none 0 0, .int .i64 0] 85).alloc _).only ho2 (by omega)
  have HO2 := hide1 ((((Below.refl w.heap.size w).alloc (Nat.le_refl _) _).alloc (by simp) _).trans (ho2.belowB (B := w.heap.size) (by simp; omega) (fun k hk => by omega)))
  have b0 := hB2.cell 0
  have b1 := hB2.cell 1
  have bf := hB2.frozen
  have r2 := Box.cell hr2 2
  have r3 := Box.cell hr2 3
  simp only [List.getElem?_toArray, List.getElem?_cons_zero, List.getElem?_cons_succ, HF.out] at b0 b1 r2 r3
  have lB := blk_lt hB2
  have lR := blk_lt hr2
  clear hr2 ho2 hB2 ht hb hb'
  go_wp2
  go_region
  go_wp2
  refine bodyPost_ret (v := .tuple #[.agg #[.slice none 0 0, .int .i64 0], .int .i64 3, .int .i64 y.wrong]) (by simp [results, Tryz.results57, go_sem, b0, b1, lB]) rfl ⟨rfl, ?_⟩
  exact ((((HO2.out.setCell (p := ⟨w.heap.size, 0, none⟩) (Nat.le_refl _) _).setCell (p := ⟨w.heap.size, 1, none⟩) (Nat.le_refl _) _).alloc (by simp; omega) _)).trans ⟨rfl, rfl, rfl, Nat.le_refl _, fun _ _ => rfl⟩

end Go.Proofs.YtafjaljiliddnaaGreatDoor

/- pointsmankeep's made: a line's statement; its arguments, at most two, lie in new memory; nothing old is turned. -/
import Derived.Test.YtgbmakpdjdigmaaGreatDoorKpB
import Derived.Deep.RegionHeld3
namespace Go.Proofs.YtgbmakpdjdigmaaGreatDoor
open Go.RowKit

/-- A line's six numbers. -/
structure Ln where
  a0 : Int
  a1 : Int
  a2 : Int
  a3 : Int
  a4 : Int
  a5 : Int
def i64ok (a : Int) : Prop := -9223372036854775808 ≤ a ∧ a ≤ 9223372036854775807
structure Ln.Ok (l : Ln) : Prop where
  k0 : i64ok l.a0
  k1 : i64ok l.a1
  k2 : i64ok l.a2
  k3 : i64ok l.a3
  k4 : i64ok l.a4
  k5 : i64ok l.a5
abbrev lnA (l : Ln) : Array Value := #[.int .i64 l.a0, .int .i64 l.a1, .int .i64 l.a2, .int .i64 l.a3, .int .i64 l.a4, .int .i64 l.a5]
abbrev sm0 : Array Value := #[.int .i64 0, .int .i64 0, .int .i64 0, .int .i64 0, .int .i64 0, .int .i64 0, .int .i64 0, .slice none 0 0]
def smA (l : Ln) (v : Value) : Array Value := #[.int .i64 (pickN l.a0 4), .int .i64 (pickN l.a1 10), .int .i64 (pickN l.a2 4), .int .i64 (pickN l.a3 4), .int .i64 (pickN l.a4 4), .int .i64 (pickN l.a4 4), .int .i64 0, v]

theorem wrapI (x : Int) : -9223372036854775808 ≤ IntKind.i64.wrap x ∧ IntKind.i64.wrap x ≤ 9223372036854775807 := by
  rw [IntKind.wrap_i64]; omega
theorem made_grow {a0 a1 a2 a3 a4 a5 : Int} {p0 p1 p2 p3 p4 x : Nat} {va va' : Option Addr} {vl vc vl' vc' : Nat} {args : List Nat} {w wr W w3 : World} (hI : IntRow w.heap.size wr (.slice va vl vc) args)
    (b0 : Box w.heap.size #[.int .i64 a0, .int .i64 a1, .int .i64 a2, .int .i64 a3, .int .i64 a4, .int .i64 a5] 73 wr) (b1 : Box (w.heap.size + 1) sm0 68 wr)
    (b2 : Box (w.heap.size + 2) #[.int .i64 p0, .int .i64 p1, .int .i64 p2, .int .i64 p3, .int .i64 p4, .int .i64 p4, .int .i64 0, .slice va vl vc] 68 wr) (ho : Only (fun _ => False) w wr) (hW : Only (fun _ => False) wr W)
    (hown : w3.ownsRow w.heap.size 3 1 (.slice va' vl' vc') (args.length + 1) (args.map (fun i : Nat => Value.int .i64 (i : Int)) ++ [.int .i64 x])) (hg : W.grownBy w3 (Value.slice va vl vc).ownBlock) :
    IntRow w.heap.size (w3.setCell ⟨w.heap.size + 2, 7, none⟩ (.slice va' vl' vc')) (.slice va' vl' vc') (args ++ [x]) ∧ Box w.heap.size #[.int .i64 a0, .int .i64 a1, .int .i64 a2, .int .i64 a3, .int .i64 a4, .int .i64 a5] 73 (w3.setCell ⟨w.heap.size + 2, 7, none⟩ (.slice va' vl' vc')) ∧ Box (w.heap.size + 1) sm0 68 (w3.setCell ⟨w.heap.size + 2, 7, none⟩ (.slice va' vl' vc')) ∧ Box (w.heap.size + 2) #[.int .i64 p0, .int .i64 p1, .int .i64 p2, .int .i64 p3, .int .i64 p4, .int .i64 p4, .int .i64 0, .slice va' vl' vc'] 68 (w3.setCell ⟨w.heap.size + 2, 7, none⟩ (.slice va' vl' vc')) ∧ Only (fun _ => False) w (w3.setCell ⟨w.heap.size + 2, 7, none⟩ (.slice va' vl' vc')) := by
  have ho3 : Only (fun k => (Value.slice va vl vc).ownBlock = some k) wr w3 := Only.grown (hW.mono (fun _ _ q => q.elim)) hg (fun k hk => .inl hk)
  have o2 : Box (w.heap.size + 2) _ 68 w3 := b2.only ho3 (fun q => own_ne hI b2 (by decide) _ q rfl)
  have o1 : Box (w.heap.size + 1) _ 68 w3 := b1.only ho3 (fun q => own_ne hI b1 (by decide) _ q rfl)
  have o0 : Box w.heap.size _ 73 w3 := b0.only ho3 (fun q => own_ne hI b0 (by decide) _ q rfl)
  have hs := (Only.refl (fun k => k = w.heap.size + 2) w3).set_at 7 (.slice va' vl' vc')
  refine ⟨?_, o0.only hs (by omega), o1.only hs (by omega), ?_, ?_⟩
  · have := ownsRow_only hown hs (own_ne hown o2 (by decide))
    simpa [IntRow] using this
  · have := o2.set 7 (.slice va' vl' vc')
    simpa using this
  · have hz := ho.size
    refine ⟨hs.os.trans (ho3.os.trans ho.os), hs.tape.trans (ho3.tape.trans ho.tape), hs.output.trans (ho3.output.trans ho.output), Nat.le_trans hz (Nat.le_trans ho3.size hs.size), fun k hk _ => ?_⟩
    rw [hs.block k (Nat.lt_of_lt_of_le hk (Nat.le_trans hz ho3.size)) (by omega), ho3.block k (Nat.lt_of_lt_of_le hk hz) (fun q => by have := (hI.lt k q).1; omega)]
    exact ho.block k hk (fun q => q)
set_option maxRecDepth 100000 in
set_option maxHeartbeats 2000000 in
theorem made_any (l : Ln) (hl : l.Ok) (w : World) :
    Calls Tryz.prog 28 #[.agg (lnA l)] w fun e w' => ∃ (v : Value) (args : List Nat), e = .returned (.agg (smA l v)) ∧ IntRow w.heap.size w' v args ∧ args.length ≤ 2 ∧ (∀ i ∈ args, i < 4) ∧ Only (fun _ => False) w w' := by
  obtain ⟨p0, h0⟩ : ∃ p, pickN l.a0 4 = p := ⟨_, rfl⟩
  obtain ⟨p1, h1⟩ : ∃ p, pickN l.a1 10 = p := ⟨_, rfl⟩
  obtain ⟨p2, h2⟩ : ∃ p, pickN l.a2 4 = p := ⟨_, rfl⟩
  obtain ⟨p3, h3⟩ : ∃ p, pickN l.a3 4 = p := ⟨_, rfl⟩
  obtain ⟨p4, h4⟩ : ∃ p, pickN l.a4 4 = p := ⟨_, rfl⟩
  unfold smA
  rw [h0, h1, h2, h3, h4]
  have b4 : p4 < 4 := by rw [← h4]; exact pickN_lt _ _ (by omega)
  have H0 := hide1 h0
  have H1 := hide1 h1
  have H2 := hide1 h2
  have H3 := hide1 h3
  have H4 := hide1 h4
  have HL := hide1 hl
  have k0 := hl.k0
  have k1 := hl.k1
  have k2 := hl.k2
  have k3 := hl.k3
  have k4 := hl.k4
  clear h0 h1 h2 h3 h4 hl
  obtain ⟨a0, a1, a2, a3, a4, a5⟩ := l
  simp only at *
  go_enter Tryz.func28, Tryz.ntmps28
  go_wp2
  go_cut [3] (fun s wx => s = .pointer (some ⟨w.heap.size + 2, 0, none⟩) ∧ Box w.heap.size #[.int .i64 a0, .int .i64 a1, .int .i64 a2, .int .i64 a3, .int .i64 a4, .int .i64 a5] 73 wx ∧ Box (w.heap.size + 1) sm0 68 wx ∧ Box (w.heap.size + 2) #[.int .i64 p0, .int .i64 p1, .int .i64 p2, .int .i64 p3, .int .i64 p4, .int .i64 p4, .int .i64 0, .slice none 0 0] 68 wx ∧ Only (fun _ => False) w wx)
  case first =>
    go_region_held3 (fun w' => w'.cell? ⟨w.heap.size, 0, none⟩ = some (.int .i64 a0) ∧ w'.cell? ⟨w.heap.size, 1, none⟩ = some (.int .i64 a1) ∧ w'.cell? ⟨w.heap.size, 2, none⟩ = some (.int .i64 a2) ∧ w'.cell? ⟨w.heap.size, 3, none⟩ = some (.int .i64 a3) ∧ w'.cell? ⟨w.heap.size, 4, none⟩ = some (.int .i64 a4)) (go_keep)
      (first | (go_at_call_of 27 (a0); refine (pick_any a0 4 k0.1 k0.2 (by omega) (by omega) _).mono ?_; rw [H0.out]; rintro e w' ⟨rfl, hw⟩; have hw := hw.symm; subst hw) | (go_at_call_of 27 (a1); refine (pick_any a1 10 k1.1 k1.2 (by omega) (by omega) _).mono ?_; rw [H1.out]; rintro e w' ⟨rfl, hw⟩; have hw := hw.symm; subst hw) | (go_at_call_of 27 (a2); refine (pick_any a2 4 k2.1 k2.2 (by omega) (by omega) _).mono ?_; rw [H2.out]; rintro e w' ⟨rfl, hw⟩; have hw := hw.symm; subst hw) | (go_at_call_of 27 (a3); refine (pick_any a3 4 k3.1 k3.2 (by omega) (by omega) _).mono ?_; rw [H3.out]; rintro e w' ⟨rfl, hw⟩; have hw := hw.symm; subst hw) | (go_at_call_of 27 (a4); refine (pick_any a4 4 k4.1 k4.2 (by omega) (by omega) _).mono ?_; rw [H4.out]; rintro e w' ⟨rfl, hw⟩; have hw := hw.symm; subst hw))
    all_goals
      go_wp2_with fail
      go_meet
      case rel =>
        refine ⟨rfl, ?_, ?_, ?_, (by repeat (first | exact Only.refl _ _ | refine Only.drew ?_ | refine Only.drewN ?_ _ | refine Only.alloc ?_ _))⟩
        · exact Box.only (X := fun _ => False) (Box.alloc (Box.alloc (Box.new w _ _) _) _) ((Only.refl _ _).drew) (fun q => q)
        · have := Box.alloc (Box.new (w.alloc (.cells #[.int .i64 a0, .int .i64 a1, .int .i64 a2, .int .i64 a3, .int .i64 a4, .int .i64 a5] 73)) sm0 68) (.cells #[.int .i64 p0, .int .i64 p1, .int .i64 p2, .int .i64 p3, .int .i64 p4, .int .i64 p4, .int .i64 0, .slice none 0 0] 68)
          simp only [World.size_alloc] at this
          exact this.only ((Only.refl (fun _ => False) _).drew) (fun q => q)
        · have := Box.new ((w.alloc (.cells #[.int .i64 a0, .int .i64 a1, .int .i64 a2, .int .i64 a3, .int .i64 a4, .int .i64 a5] 73)).alloc (.cells sm0 68)) #[.int .i64 p0, .int .i64 p1, .int .i64 p2, .int .i64 p3, .int .i64 p4, .int .i64 p4, .int .i64 0, .slice none 0 0] 68
          simp only [World.size_alloc] at this
          exact this.only ((Only.refl (fun _ => False) _).drew) (fun q => q)
  case rest =>
    obtain ⟨rfl, hb0, hb1, hb2, ho⟩ := hcut
    have l0 := blk_lt hb0
    have l1 := blk_lt hb1
    have l2 := blk_lt hb2
    have c4 := hb0.cell 4
    have d1 := hb2.cell 1
    have d4 := hb2.cell 4
    simp only [List.getElem?_toArray, List.getElem?_cons_zero, List.getElem?_cons_succ] at c4 d1 d4
    have B0 := hide1 hb0
    have B1 := hide1 hb1
    have B2 := hide1 hb2
    have HO := hide1 ho
    clear hb0 hb1 hb2 ho
    by_cases e78 : p1 = 7 ∨ p1 = 8
    · obtain ⟨n, hn2, hn⟩ : ∃ n : Nat, n ≤ 2 ∧ n = (if p1 = 8 then pickN a4 3 else p4 % 3) := ⟨_, by split; have := pickN_lt a4 3 (by omega); omega; omega, rfl⟩
      have HN := hide1 hn
      clear hn
      obtain ⟨i0, hi, hz0, hz1, hz2⟩ := info_parts Tryz.infoInt
      by_cases e8 : p1 = 8
      · have f8 : ((p1 : Int) == 8) = true := by simp [e8]
        have f7 : ((p1 : Int) == 7) = false := by simp [e8]
        have hn4 : pickN a4 3 = n := by rw [HN.out]; simp [e8]
        have HN4 := hide1 hn4
        clear hn4 HN e8 e78
        go_wp2_with (first | (go_at_call 54; refine (takes_any p4 b4 _).mono ?_; rintro e w' ⟨rfl, hw⟩; have hw := hw.symm; subst hw) | (go_at_call 27; refine (pick_any a4 3 k4.1 k4.2 (by omega) (by omega) _).mono ?_; rw [HN4.out]; rintro e w' ⟨rfl, hw⟩; have hw := hw.symm; subst hw))
        go_loopw [5] (fun i wr => ∃ (k : Nat) (v : Value) (args : List Nat), i = .int .i64 k ∧ k ≤ n ∧ args.length = k ∧ (∀ j ∈ args, j < 4) ∧ Hid (IntRow w.heap.size wr v args) ∧ Hid (Box w.heap.size #[.int .i64 a0, .int .i64 a1, .int .i64 a2, .int .i64 a3, .int .i64 a4, .int .i64 a5] 73 wr) ∧ Hid (Box (w.heap.size + 1) sm0 68 wr) ∧ Hid (Box (w.heap.size + 2) #[.int .i64 p0, .int .i64 p1, .int .i64 p2, .int .i64 p3, .int .i64 p4, .int .i64 p4, .int .i64 0, v] 68 wr) ∧ Hid (Only (fun _ => False) w wr)) (fun i _ => n - (intOf i).toNat)
        case atStart => exact ⟨0, .slice none 0 0, [], rfl, by omega, rfl, by simp, World.ownsRow_nil _ _ _ _, B0, B1, B2, HO⟩
        case round =>
          clear B0 B1 B2 HO l0 l1 l2 c4 d1 d4
          obtain ⟨k, v, args, rfl, hk, hal, ha4, HI, B0, B1, B2, HO⟩ := hrel
          have l0 := blk_lt B0.out
          have l1 := blk_lt B1.out
          have l2 := blk_lt B2.out
          obtain ⟨va, vl, vc, rfl⟩ := owns_form HI.out
          by_cases hlt : k < n
          · have c2 := B0.out.cell 2
            have c3 := B0.out.cell 3
            have d7 := B2.out.cell 7
            have df := B2.out.frozen 7
            simp only [List.getElem?_toArray, List.getElem?_cons_zero, List.getElem?_cons_succ] at c2 c3 d7
            obtain ⟨x, hx⟩ : ∃ x, pickN (IntKind.i64.wrap (IntKind.i64.wrap (a2 + ↑k) + a3)) 4 = x := ⟨_, rfl⟩
            have hx4 : x < 4 := by rw [← hx]; exact pickN_lt _ _ (by omega)
            have HX := hide1 hx
            have N2 := hide1 (own_ne HI.out B2.out (by decide))
            have N0 := hide1 (own_ne HI.out B0.out (by decide))
            have hrow := HI.out
            unfold IntRow at hrow
            have hgo : w.heap.size ≤ wr.heap.size := HO.out.size
            clear hx
            go_wp2
            go_region_law (first | (refine step_append_own rfl _ _ 66 rfl w.heap.size 3 i0 (.int .i64 0) 1 8 Tryz.underlying66 hi hz0 hz1 hz2 rfl (by decide) _ _ _ rfl (World.ownsRow.alloc (w := wr.drew) hrow _) ⟨wr.heap.size, 0, none⟩ 1 1 [.int .i64 x] rfl rfl (cells_new rfl _ _) (fun u hu => by simp at hu; subst hu; rfl) (by decide) (by unfold maxLen; omega) (by omega) (by simp; omega) ?_; intro v' w3 hown' hgrow3 hnew3; have q7 : w3.cell? ⟨w.heap.size + 2, 7, none⟩ = some (.slice va vl vc) := (World.cell?_of_block (hgrow3.block (w.heap.size + 2) (by simp; omega) (fun h => N2.out _ h.symm rfl))).trans (by rw [← d7]; exact World.cell?_of_block (Below.heap_alloc _ _ _ l2)); have q2 : w3.cell? ⟨w.heap.size, 2, none⟩ = some (.int .i64 a2) := (World.cell?_of_block (hgrow3.block w.heap.size (by simp; omega) (fun h => N0.out _ h.symm rfl))).trans (by rw [← c2]; exact World.cell?_of_block (Below.heap_alloc _ _ _ l0)); have q3 : w3.cell? ⟨w.heap.size, 3, none⟩ = some (.int .i64 a3) := (World.cell?_of_block (hgrow3.block w.heap.size (by simp; omega) (fun h => N0.out _ h.symm rfl))).trans (by rw [← c3]; exact World.cell?_of_block (Below.heap_alloc _ _ _ l0)); have qf : w3.frozen? ⟨w.heap.size + 2, 7, none⟩ = false := (World.frozen?_of_block (hgrow3.block (w.heap.size + 2) (by simp; omega) (fun h => N2.out _ h.symm rfl))).trans (by rw [← df]; exact World.frozen?_of_block (Below.heap_alloc _ _ _ l2)); obtain ⟨va', vl', vc', rfl⟩ := owns_form hown') | (go_simp; go_at_call 27; refine (pick_any _ 4 (wrapI _).1 (wrapI _).2 (by omega) (by omega) _).mono ?_; rw [HX.out]; rintro e w' ⟨rfl, hw⟩; have hw := hw.symm; subst hw; dsimp only))
            all_goals
              go_wp2_with fail
              go_roundw
              case rel =>
                obtain ⟨g1, g2, g3, g4, g5⟩ := made_grow HI.out B0.out B1.out B2.out HO.out (((Only.refl _ _).alloc _).drew) hown' hgrow3
                exact ⟨k + 1, .slice va' vl' vc', args ++ [x], by go_num, by omega, by simp; omega, by simp; intro j hj; rcases hj with hj | hj; exact ha4 j hj; omega, g1, g2, g3, g4, g5⟩
              case measure => simp [intOf]; omega
          · have e : k = n := by omega
            subst e
            have HR := HI.out
            have hb1 := B1.out
            have hb2 := B2.out
            have m0 := hb2.cell 0
            have m1 := hb2.cell 1
            have m2 := hb2.cell 2
            have m3 := hb2.cell 3
            have m4 := hb2.cell 4
            have m5 := hb2.cell 5
            have m6 := hb2.cell 6
            have m7 := hb2.cell 7
            have r0 := hb1.cell 0
            have r1 := hb1.cell 1
            have r2 := hb1.cell 2
            have r3 := hb1.cell 3
            have r4 := hb1.cell 4
            have r5 := hb1.cell 5
            have r6 := hb1.cell 6
            have r7 := hb1.cell 7
            have rf := hb1.frozen
            simp only [List.getElem?_toArray, List.getElem?_cons_zero, List.getElem?_cons_succ] at m0 m1 m2 m3 m4 m5 m6 m7 r0 r1 r2 r3 r4 r5 r6 r7
            clear hb1 hb2
            go_wp2
            refine bodyPost_ret (v := .agg #[.int .i64 p0, .int .i64 p1, .int .i64 p2, .int .i64 p3, .int .i64 p4, .int .i64 p4, .int .i64 0, .slice va vl vc]) (by simp [results, Tryz.results28, go_sem, r0, r1, r2, r3, r4, r5, r6, r7]) rfl ⟨.slice va vl vc, args, rfl, ?_, by omega, ha4, ?_⟩
            · refine ownsRow_only (X := fun k => k = w.heap.size + 1) HR ?_ (own_ne HR B1.out (by decide))
              iterate 8 refine Only.set_at ?_ _ _
              exact Only.refl _ _
            · iterate 8 refine Only.set_new ?_ _ _ (by omega)
              exact HO.out
      · have f8 : ((p1 : Int) == 8) = false := by simp; omega
        have f7 : ((p1 : Int) == 7) = true := by simp; omega
        have hn4 : p4 % 3 = n := by rw [HN.out]; simp [e8]
        have HN4 := hide1 hn4
        clear hn4 HN e8 e78
        go_wp2_with (first | (go_at_call 54; refine (takes_any p4 b4 _).mono ?_; rw [HN4.out]; rintro e w' ⟨rfl, hw⟩; have hw := hw.symm; subst hw))
        go_loopw [5] (fun i wr => ∃ (k : Nat) (v : Value) (args : List Nat), i = .int .i64 k ∧ k ≤ n ∧ args.length = k ∧ (∀ j ∈ args, j < 4) ∧ Hid (IntRow w.heap.size wr v args) ∧ Hid (Box w.heap.size #[.int .i64 a0, .int .i64 a1, .int .i64 a2, .int .i64 a3, .int .i64 a4, .int .i64 a5] 73 wr) ∧ Hid (Box (w.heap.size + 1) sm0 68 wr) ∧ Hid (Box (w.heap.size + 2) #[.int .i64 p0, .int .i64 p1, .int .i64 p2, .int .i64 p3, .int .i64 p4, .int .i64 p4, .int .i64 0, v] 68 wr) ∧ Hid (Only (fun _ => False) w wr)) (fun i _ => n - (intOf i).toNat)
        case atStart => exact ⟨0, .slice none 0 0, [], rfl, by omega, rfl, by simp, World.ownsRow_nil _ _ _ _, B0, B1, B2, HO⟩
        case round =>
          clear B0 B1 B2 HO l0 l1 l2 c4 d1 d4
          obtain ⟨k, v, args, rfl, hk, hal, ha4, HI, B0, B1, B2, HO⟩ := hrel
          have l0 := blk_lt B0.out
          have l1 := blk_lt B1.out
          have l2 := blk_lt B2.out
          obtain ⟨va, vl, vc, rfl⟩ := owns_form HI.out
          by_cases hlt : k < n
          · have c2 := B0.out.cell 2
            have c3 := B0.out.cell 3
            have d7 := B2.out.cell 7
            have df := B2.out.frozen 7
            simp only [List.getElem?_toArray, List.getElem?_cons_zero, List.getElem?_cons_succ] at c2 c3 d7
            obtain ⟨x, hx⟩ : ∃ x, pickN (IntKind.i64.wrap (IntKind.i64.wrap (a2 + ↑k) + a3)) 4 = x := ⟨_, rfl⟩
            have hx4 : x < 4 := by rw [← hx]; exact pickN_lt _ _ (by omega)
            have HX := hide1 hx
            have N2 := hide1 (own_ne HI.out B2.out (by decide))
            have N0 := hide1 (own_ne HI.out B0.out (by decide))
            have hrow := HI.out
            unfold IntRow at hrow
            have hgo : w.heap.size ≤ wr.heap.size := HO.out.size
            clear hx
            go_wp2
            go_region_law (first | (refine step_append_own rfl _ _ 66 rfl w.heap.size 3 i0 (.int .i64 0) 1 8 Tryz.underlying66 hi hz0 hz1 hz2 rfl (by decide) _ _ _ rfl (World.ownsRow.alloc (w := wr.drew) hrow _) ⟨wr.heap.size, 0, none⟩ 1 1 [.int .i64 x] rfl rfl (cells_new rfl _ _) (fun u hu => by simp at hu; subst hu; rfl) (by decide) (by unfold maxLen; omega) (by omega) (by simp; omega) ?_; intro v' w3 hown' hgrow3 hnew3; have q7 : w3.cell? ⟨w.heap.size + 2, 7, none⟩ = some (.slice va vl vc) := (World.cell?_of_block (hgrow3.block (w.heap.size + 2) (by simp; omega) (fun h => N2.out _ h.symm rfl))).trans (by rw [← d7]; exact World.cell?_of_block (Below.heap_alloc _ _ _ l2)); have q2 : w3.cell? ⟨w.heap.size, 2, none⟩ = some (.int .i64 a2) := (World.cell?_of_block (hgrow3.block w.heap.size (by simp; omega) (fun h => N0.out _ h.symm rfl))).trans (by rw [← c2]; exact World.cell?_of_block (Below.heap_alloc _ _ _ l0)); have q3 : w3.cell? ⟨w.heap.size, 3, none⟩ = some (.int .i64 a3) := (World.cell?_of_block (hgrow3.block w.heap.size (by simp; omega) (fun h => N0.out _ h.symm rfl))).trans (by rw [← c3]; exact World.cell?_of_block (Below.heap_alloc _ _ _ l0)); have qf : w3.frozen? ⟨w.heap.size + 2, 7, none⟩ = false := (World.frozen?_of_block (hgrow3.block (w.heap.size + 2) (by simp; omega) (fun h => N2.out _ h.symm rfl))).trans (by rw [← df]; exact World.frozen?_of_block (Below.heap_alloc _ _ _ l2)); obtain ⟨va', vl', vc', rfl⟩ := owns_form hown') | (go_simp; go_at_call 27; refine (pick_any _ 4 (wrapI _).1 (wrapI _).2 (by omega) (by omega) _).mono ?_; rw [HX.out]; rintro e w' ⟨rfl, hw⟩; have hw := hw.symm; subst hw; dsimp only))
            all_goals
              go_wp2_with fail
              go_roundw
              case rel =>
                obtain ⟨g1, g2, g3, g4, g5⟩ := made_grow HI.out B0.out B1.out B2.out HO.out (((Only.refl _ _).alloc _).drew) hown' hgrow3
                exact ⟨k + 1, .slice va' vl' vc', args ++ [x], by go_num, by omega, by simp; omega, by simp; intro j hj; rcases hj with hj | hj; exact ha4 j hj; omega, g1, g2, g3, g4, g5⟩
              case measure => simp [intOf]; omega
          · have e : k = n := by omega
            subst e
            have HR := HI.out
            have hb1 := B1.out
            have hb2 := B2.out
            have m0 := hb2.cell 0
            have m1 := hb2.cell 1
            have m2 := hb2.cell 2
            have m3 := hb2.cell 3
            have m4 := hb2.cell 4
            have m5 := hb2.cell 5
            have m6 := hb2.cell 6
            have m7 := hb2.cell 7
            have r0 := hb1.cell 0
            have r1 := hb1.cell 1
            have r2 := hb1.cell 2
            have r3 := hb1.cell 3
            have r4 := hb1.cell 4
            have r5 := hb1.cell 5
            have r6 := hb1.cell 6
            have r7 := hb1.cell 7
            have rf := hb1.frozen
            simp only [List.getElem?_toArray, List.getElem?_cons_zero, List.getElem?_cons_succ] at m0 m1 m2 m3 m4 m5 m6 m7 r0 r1 r2 r3 r4 r5 r6 r7
            clear hb1 hb2
            go_wp2
            refine bodyPost_ret (v := .agg #[.int .i64 p0, .int .i64 p1, .int .i64 p2, .int .i64 p3, .int .i64 p4, .int .i64 p4, .int .i64 0, .slice va vl vc]) (by simp [results, Tryz.results28, go_sem, r0, r1, r2, r3, r4, r5, r6, r7]) rfl ⟨.slice va vl vc, args, rfl, ?_, by omega, ha4, ?_⟩
            · refine ownsRow_only (X := fun k => k = w.heap.size + 1) HR ?_ (own_ne HR B1.out (by decide))
              iterate 8 refine Only.set_at ?_ _ _
              exact Only.refl _ _
            · iterate 8 refine Only.set_new ?_ _ _ (by omega)
              exact HO.out
    · have f7 : ((p1 : Int) == 7) = false := by simp; omega
      have f8 : ((p1 : Int) == 8) = false := by simp; omega
      have hb1 := B1.out
      have hb2 := B2.out
      have m0 := hb2.cell 0
      have m1 := hb2.cell 1
      have m2 := hb2.cell 2
      have m3 := hb2.cell 3
      have m4 := hb2.cell 4
      have m5 := hb2.cell 5
      have m6 := hb2.cell 6
      have m7 := hb2.cell 7
      have r0 := hb1.cell 0
      have r1 := hb1.cell 1
      have r2 := hb1.cell 2
      have r3 := hb1.cell 3
      have r4 := hb1.cell 4
      have r5 := hb1.cell 5
      have r6 := hb1.cell 6
      have r7 := hb1.cell 7
      have rf := hb1.frozen
      simp only [List.getElem?_toArray, List.getElem?_cons_zero, List.getElem?_cons_succ] at m0 m1 m2 m3 m4 m5 m6 m7 r0 r1 r2 r3 r4 r5 r6 r7
      clear hb1 hb2
      go_wp2_with (first | (go_at_call 54; refine (takes_any p4 b4 _).mono ?_; rintro e w' ⟨rfl, hw⟩; have hw := hw.symm; subst hw))
      have R : wc.ownsRow w.heap.size 3 1 (.slice none 0 0) 0 [] := World.ownsRow_nil _ _ _ _
      refine bodyPost_ret (v := .agg #[.int .i64 p0, .int .i64 p1, .int .i64 p2, .int .i64 p3, .int .i64 p4, .int .i64 p4, .int .i64 0, .slice none 0 0]) (by simp [results, Tryz.results28, go_sem, r0, r1, r2, r3, r4, r5, r6, r7]) rfl ⟨.slice none 0 0, [], rfl, ?_, by simp, by simp, ?_⟩
      · refine ownsRow_only (X := fun k => k = w.heap.size + 1) R ?_ (own_ne R B1.out (by decide))
        iterate 8 refine Only.set_at ?_ _ _
        exact Only.refl _ _
      · iterate 8 refine Only.set_new ?_ _ _ (by omega)
        exact HO.out

end Go.Proofs.YtgbmakpdjdigmaaGreatDoor

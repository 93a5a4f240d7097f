/- pointsmankeep's prog: the text that it makes is good (runA), begins with the head of main, and has at most 2400 bytes; nothing old is turned. -/
import Derived.Test.YtgbmakpdjdigmaaGreatDoorKpR
namespace Go.Proofs.YtgbmakpdjdigmaaGreatDoor
open Go.RowKit

theorem size_list (s : ByteArray) : s.size = s.data.toList.length := by simp
/-- What holds of the text behind the head of function f, and k names. -/
structure TxB (ls : List Ln) (f k : Nat) (l : List UInt8) : Prop where
  run : ∃ j, j ≤ 1 ∧ runA 0 l = some j
  len : l.length ≤ 60 * f + 36 * cntA ls f + 8 + 2 * k
  head : (f = 0 ∧ k = 0 ∧ l = [102, 110, 32, 109, 97, 105, 110, 40]) ∨ headL <+: l
theorem TxA.fn {ls : List Ln} {f : Nat} {l : List UInt8} (h : TxA ls f l) : TxB ls f 0 (l ++ [102, 110, 32] ++ fnA f ++ [40]) := by
  obtain ⟨j, _, hj⟩ := fnA_run f
  have hl := fnA_len f
  refine ⟨⟨0, by omega, runA_join (runA_join (runA_join h.run (j := 0) rfl) hj) rfl⟩, ?_, ?_⟩
  · have := h.len
    simp only [List.length_append, List.length_cons, List.length_nil]; omega
  · by_cases hf : f = 0
    · subst hf
      rw [h.nil rfl]
      exact .inl ⟨rfl, rfl, rfl⟩
    · refine .inr ?_
      rw [List.append_assoc, List.append_assoc]
      exact (h.head (by omega)).trans (List.prefix_append _ _)
theorem TxB.name {ls : List Ln} {f k v : Nat} {l : List UInt8} (h : TxB ls f k l) (hf : f ≠ 0) : TxB ls f (k + 1) (l ++ [32] ++ vnA v) := by
  obtain ⟨j, _, hj⟩ := h.run
  refine ⟨⟨1, by omega, runA_join (runA_join hj (j := 0) rfl) (vnA_run v 0 (by omega))⟩, ?_, ?_⟩
  · have := h.len
    simp only [List.length_append, List.length_cons, List.length_nil, vnA_len]; omega
  · rcases h.head with ⟨h0, _⟩ | h1
    · exact absurd h0 hf
    · refine .inr ?_
      rw [List.append_assoc]
      exact h1.trans (List.prefix_append _ _)
/-- Behind that function's names, and k bytes more at most. -/
structure TxC (ls : List Ln) (f k : Nat) (l : List UInt8) : Prop where
  run : runA 0 l = some 0
  len : l.length ≤ 60 * f + 36 * cntA ls f + k
  head : headL <+: l
theorem TxB.close {ls : List Ln} {f k : Nat} {l : List UInt8} (h : TxB ls f k l) (hk : k ≤ 2) : TxC ls f 15 (l ++ [41, 32, 123]) := by
  obtain ⟨j, _, hj⟩ := h.run
  refine ⟨runA_join hj rfl, ?_, ?_⟩
  · have := h.len
    simp only [List.length_append, List.length_cons, List.length_nil]; omega
  · rcases h.head with ⟨_, _, h0⟩ | h1
    · rw [h0]; exact ⟨[32, 123], rfl⟩
    · exact h1.trans (List.prefix_append _ _)
theorem TxC.more {ls : List Ln} {f k n : Nat} {l x : List UInt8} (h : TxC ls f k l) (hx : runA 0 x = some 0) (hn : x.length ≤ n) : TxC ls f (k + n) (l ++ x) := by
  refine ⟨runA_join h.run hx, ?_, h.head.trans (List.prefix_append _ _)⟩
  have := h.len
  simp only [List.length_append]; omega
theorem TxC.mono {ls : List Ln} {f k n : Nat} {l : List UInt8} (h : TxC ls f k l) (hn : k ≤ n) : TxC ls f n l := ⟨h.run, Nat.le_trans h.len (by omega), h.head⟩
theorem var_run (v : Nat) : runA 0 ([32, 118, 97, 114, 32] ++ vnA v ++ [59]) = some 0 := runA_join (runA_join (i := 0) rfl (vnA_run v 0 (by omega))) rfl

/-- A line's statement, in its box, beside the program that is being made. -/
structure QF (w : World) (s : ByteArray) (v : Value) (pl ca : Int) (m g off : Nat) (ls : List Ln) (sb p0 p1 p2 p3 p4 : Nat) (num : Int) (av : Value) (args : List Nat) (wx : World) : Prop where
  pf : PF w s v pl ca m wx
  bx : Box sb #[.int .i64 p0, .int .i64 p1, .int .i64 p2, .int .i64 p3, .int .i64 p4, .int .i64 p4, .int .i64 num, av] 68 wx
  row : IntRow 0 wx av args
  ln : LnRow g off ls wx
  far : w.heap.size + 2 ≤ sb
  gl : ls ≠ [] → g < w.heap.size
theorem LnRow.set {g off b i : Nat} {ls : List Ln} {wx : World} {u : Value} (h : LnRow g off ls wx) (hb : ls ≠ [] → g ≠ b) : LnRow g off ls (wx.setCell ⟨b, i, none⟩ u) := by
  have ho := (Only.refl (fun k => k = b) wx).set_at i u
  have k : ∀ o, ls ≠ [] → (wx.setCell ⟨b, i, none⟩ u).cell? ⟨g, o, none⟩ = wx.cell? ⟨g, o, none⟩ := fun o hn => World.cell?_of_block (ho.block g (h.lt hn) (hb hn))
  have e : ∀ i, i < ls.length → ls ≠ [] := fun i hi e => by subst e; simp at hi
  exact ⟨fun hn => Nat.lt_of_lt_of_le (h.lt hn) ho.size, fun i hi => (k _ (e i hi)).trans (h.c0 i hi), fun i hi => (k _ (e i hi)).trans (h.c1 i hi), fun i hi => (k _ (e i hi)).trans (h.c2 i hi), fun i hi => (k _ (e i hi)).trans (h.c3 i hi), fun i hi => (k _ (e i hi)).trans (h.c4 i hi), fun i hi => (k _ (e i hi)).trans (h.c5 i hi)⟩
theorem QF.setO {w : World} {s s' : ByteArray} {v v' : Value} {pl ca pl' ca' num : Int} {m m' g off : Nat} {ls : List Ln} {sb p0 p1 p2 p3 p4 : Nat} {av : Value} {args : List Nat} {wx : World} {i : Nat} {u : Value} (h : QF w s v pl ca m g off ls sb p0 p1 p2 p3 p4 num av args wx) (hp : PF w s' v' pl' ca' m' (wx.setCell ⟨w.heap.size + 1, i, none⟩ u)) : QF w s' v' pl' ca' m' g off ls sb p0 p1 p2 p3 p4 num av args (wx.setCell ⟨w.heap.size + 1, i, none⟩ u) := by
  have ho := (Only.refl (fun k => k = w.heap.size + 1) wx).set_at i u
  have hf := h.far
  refine ⟨hp, h.bx.only ho (by omega), ownsRow_only h.row ho (own_ne h.row h.pf.out (by decide)), h.ln.set (fun hn => by have := h.gl hn; omega), h.far, h.gl⟩
theorem PF.other {w : World} {s : ByteArray} {v : Value} {pl ca : Int} {m b i : Nat} {u : Value} {wx : World} (h : PF w s v pl ca m wx) (hb : w.heap.size + 2 ≤ b) (hn : ∀ k, v.ownBlock = some k → k ≠ b) : PF w s v pl ca m (wx.setCell ⟨b, i, none⟩ u) := by
  have ho := (Only.refl (fun k => k = b) wx).set_at i u
  obtain ⟨xs, hr⟩ := h.row
  exact ⟨h.out.only ho (by omega), h.res.only ho (by omega), ⟨xs, ownsRow_only hr ho hn⟩, h.only.set_far (by omega)⟩
theorem QF.num {w : World} {s : ByteArray} {v : Value} {pl ca num : Int} {m g off : Nat} {ls : List Ln} {sb p0 p1 p2 p3 p4 : Nat} {av : Value} {args : List Nat} {wx : World} (h : QF w s v pl ca m g off ls sb p0 p1 p2 p3 p4 num av args wx) (hn : ∀ k, v.ownBlock = some k → k ≠ sb) (n : Int) : QF w s v pl ca m g off ls sb p0 p1 p2 p3 p4 n av args (wx.setCell ⟨sb, 6, none⟩ (.int .i64 n)) := by
  have ho := (Only.refl (fun k => k = sb) wx).set_at 6 (.int .i64 n)
  have hf := h.far
  refine ⟨h.pf.other hf hn, ?_, ownsRow_only h.row ho (own_ne h.row h.bx (by decide)), h.ln.set (fun hn => by have := h.gl hn; omega), h.far, h.gl⟩
  have := h.bx.set 6 (.int .i64 n)
  simpa using this

theorem Tryz.infoSm : (Tryz.prog.info? 68).map (fun i => (i.zero, i.size, i.bytes)) = some (some (.agg sm0), 8, 80) := by kernel_rfl
theorem QF.grow {w : World} {s : ByteArray} {v v' : Value} {pl ca num : Int} {m g off : Nat} {ls : List Ln} {sb p0 p1 p2 p3 p4 : Nat} {av : Value} {args : List Nat} {wx W w5 : World} {xs : List Value} (h : QF w s v pl ca m g off ls sb p0 p1 p2 p3 p4 num av args wx) (hn : ∀ k, v.ownBlock = some k → k ≠ sb) (hW : Only (fun _ => False) wx W)
    (hown : w5.ownsRow w.heap.size 68 8 v' (m + 1) xs) (hg : W.grownBy w5 v.ownBlock) : QF w s v' pl ca (m + 1) g off ls sb p0 p1 p2 p3 p4 num av args (w5.setCell ⟨w.heap.size + 1, 1, none⟩ v') := by
  obtain ⟨ys, hr⟩ := h.pf.row
  have ho5 : Only (fun k => v.ownBlock = some k) wx w5 := Only.grown (hW.mono (fun _ _ q => q.elim)) hg (fun k hk => .inl hk)
  have b1 := h.pf.out.only ho5 (fun q => own_ne hr h.pf.out (by decide) _ q rfl)
  have b2 := h.pf.res.only ho5 (fun q => own_ne hr h.pf.res (by decide) _ q rfl)
  have b3 := h.bx.only ho5 (fun q => hn _ q rfl)
  have hfar := h.far
  have hs := (Only.refl (fun k => k = w.heap.size + 1) w5).set_at 1 v'
  have hz := h.pf.only.size
  have hz5 := ho5.size
  have ho : Only (fun _ => False) w (w5.setCell ⟨w.heap.size + 1, 1, none⟩ v') := by
    refine ⟨hs.os.trans (ho5.os.trans h.pf.only.os), hs.tape.trans (ho5.tape.trans h.pf.only.tape), hs.output.trans (ho5.output.trans h.pf.only.output), Nat.le_trans hz (Nat.le_trans hz5 hs.size), fun k hk _ => ?_⟩
    rw [hs.block k (Nat.lt_of_lt_of_le hk (Nat.le_trans hz hz5)) (by omega), ho5.block k (Nat.lt_of_lt_of_le hk hz) (fun q => by have := (hr.lt k q).1; omega)]
    exact h.pf.only.block k hk (fun q => q)
  have e : ∀ i, i < ls.length → ls ≠ [] := fun i hi e => by subst e; simp at hi
  have hk : ∀ o, ls ≠ [] → (w5.setCell ⟨w.heap.size + 1, 1, none⟩ v').cell? ⟨g, o, none⟩ = wx.cell? ⟨g, o, none⟩ := fun o hne => by
    have hgl := h.gl hne
    exact World.cell?_of_block ((hs.block g (by omega) (by omega)).trans (ho5.block g (by omega) (fun q => by have := (hr.lt g q).1; omega)))
  refine ⟨⟨?_, b2.only hs (by omega), ⟨xs, ownsRow_only hown hs (own_ne hown b1 (by decide))⟩, ho⟩, b3.only hs (by omega), ?_, ?_, h.far, h.gl⟩
  · have := b1.set 1 v'
    simpa using this
  · exact ownsRow_only (ownsRow_typed h.row ho5 (own_typ hr (by decide))) hs (own_ne (ownsRow_typed h.row ho5 (own_typ hr (by decide))) b1 (by decide))
  · exact ⟨fun hne => by have := h.gl hne; have := hs.size; omega, fun i hi => (hk _ (e i hi)).trans (h.ln.c0 i hi), fun i hi => (hk _ (e i hi)).trans (h.ln.c1 i hi), fun i hi => (hk _ (e i hi)).trans (h.ln.c2 i hi), fun i hi => (hk _ (e i hi)).trans (h.ln.c3 i hi), fun i hi => (hk _ (e i hi)).trans (h.ln.c4 i hi), fun i hi => (hk _ (e i hi)).trans (h.ln.c5 i hi)⟩
theorem QF.quiet {w : World} {s : ByteArray} {v : Value} {pl ca num : Int} {m g off : Nat} {ls : List Ln} {sb p0 p1 p2 p3 p4 : Nat} {av : Value} {args : List Nat} {wx wy : World} (h : QF w s v pl ca m g off ls sb p0 p1 p2 p3 p4 num av args wx) (ho : Only (fun _ => False) wx wy) : QF w s v pl ca m g off ls sb p0 p1 p2 p3 p4 num av args wy :=
  ⟨h.pf.quiet ho, h.bx.only ho (fun q => q), ownsRow_only h.row ho (fun _ _ q => q), h.ln.only ho, h.far, h.gl⟩

/-- What prog leaves. -/
def prPost (w : World) (e : Ending) (w' : World) : Prop :=
  (∃ (s : ByteArray) (va : Option Addr) (vl vc : Nat) (pl ca : Int), e = .returned (.agg #[.string s, .slice va vl vc, .int .i64 pl, .int .i64 ca]) ∧ runA 0 s.data.toList = some 0 ∧ s.size ≤ 2400 ∧ headL <+: s.data.toList) ∧ Only (fun _ => False) w w'

set_option maxRecDepth 100000 in
set_option maxHeartbeats 4000000 in
theorem prog_any (lv : Value) (ls : List Ln) (w : World) (hl : LnAt lv ls w) (hok : ∀ l ∈ ls, l.Ok) :
    Calls Tryz.prog 24 #[lv] w fun e w' => prPost w e w' := by
  obtain ⟨a, cap, rfl, hcap, hrow⟩ := hl
  have HROW := hide1 hrow
  have HOK := hide1 hok
  clear hrow hok
  go_enter Tryz.func24, Tryz.ntmps24
  go_wp2
  go_loopw [4] (fun i wr => ∃ (f : Nat) (s : ByteArray) (v : Value) (pl ca : Int) (m : Nat), i = .int .i64 f ∧ f ≤ 4 ∧ m ≤ 60 * f ∧ Hid (PF w s v pl ca m wr) ∧ Hid (TxA ls f s.data.toList)) (fun i _ => 4 - (intOf i).toNat)
  case atStart =>
    refine ⟨0, { data := #[] }, .slice none 0 0, 0, 0, 0, rfl, by omega, by omega, ⟨?_, ?_, ⟨[], World.ownsRow_nil _ _ _ _⟩, ((Only.refl _ _).alloc _).alloc _⟩, ⟨rfl, by simp, by omega, fun _ => rfl⟩⟩
    · have := Box.new (w.alloc (.cells pr0 56)) pr0 56
      simpa using this
    · exact (Box.new w pr0 56).alloc _
  case round =>
    obtain ⟨f, s, v, pl, ca, m, rfl, hf4, hm, P0, T0⟩ := hrel
    by_cases hf : f < 4
    · have hca := cntA_le ls f
      have hsz : s.size ≤ 2400 := by have := T0.out.len; rw [size_list]; omega
      have o0 := P0.out.out.cell 0
      have of := P0.out.out.frozen
      have lo := blk_lt P0.out.out
      simp only [List.getElem?_toArray, List.getElem?_cons_zero] at o0
      go_wp2
      go_cut [] (fun wx => ∃ s1 : ByteArray, PF w s1 v pl ca m wx ∧ s1.data.toList = s.data.toList ++ [102, 110, 32] ++ fnA f ++ [40])
      case first =>
        go_region_with (go_at_call 38; refine (fname_any f hf _).mono ?_; rintro e w' ⟨⟨u, rfl, hu, hu4⟩, hw⟩; have hw := hw.symm; subst hw)
        all_goals
          go_wp2_with fail
          go_meet
          case rel => exact ⟨_, (P0.out.set _).quiet (by repeat (first | exact Only.refl _ _ | refine Only.drew ?_ | refine Only.drewN ?_ _ | refine Only.alloc ?_ _)), by simp [hu]⟩
      case rest =>
        obtain ⟨s1, P1, e1⟩ := hcut
        have T1 : Hid (TxB ls f 0 s1.data.toList) := by rw [e1]; exact T0.out.fn
        have P1 := hide1 P1
        clear P0 T0 e1 o0 of lo hsz
        go_wp2_with fail
        go_loopw [5] (fun i wr => ∃ (k : Nat) (s : ByteArray), i = .int .i64 k ∧ k ≤ f % 3 ∧ Hid (PF w s v pl ca m wr) ∧ Hid (TxB ls f k s.data.toList)) (fun i _ => f % 3 - (intOf i).toNat)
        case atStart => exact ⟨0, s1, rfl, by omega, P1, T1⟩
        case round =>
          clear P1 T1
          obtain ⟨k, s, rfl, hk, P1, T1⟩ := hrel
          have hsz : s.size ≤ 2400 := by have := T1.out.len; rw [size_list]; omega
          have o0 := P1.out.out.cell 0
          have of := P1.out.out.frozen
          have lo := blk_lt P1.out.out
          simp only [List.getElem?_toArray, List.getElem?_cons_zero] at o0
          obtain ⟨q, hq⟩ : ∃ q, f % 3 = q := ⟨_, rfl⟩
          rw [hq] at hk
          have HQ := hide1 hq
          have hq3 : q ≤ 2 := by omega
          clear hq
          by_cases hkf : k < q
          · have hf0 : f ≠ 0 := by have := HQ.out; omega
            go_wp2_with (go_at_call 54; refine (takes_any f hf _).mono ?_; rw [HQ.out]; rintro e w' ⟨rfl, hw⟩; have hw := hw.symm; subst hw)
            go_region_with (go_at_call 55; refine (vname_any k (by omega) _).mono ?_; rintro e w' ⟨⟨u, rfl, hu, hu1⟩, hw⟩; have hw := hw.symm; subst hw)
            all_goals
              go_wp2_with fail
              go_roundw
              case rel => exact ⟨k + 1, _, by go_num, by have := HQ.out; omega, (P1.out.set _).quiet (by repeat (first | exact Only.refl _ _ | refine Only.drew ?_ | refine Only.drewN ?_ _ | refine Only.alloc ?_ _)), by show TxB _ _ _ _; rw [show (s ++ ({ data := #[32] } : ByteArray) ++ u).data.toList = s.data.toList ++ [32] ++ vnA k from by simp [hu]]; exact T1.out.name hf0⟩
              case measure => have := HQ.out; simp [intOf]; omega
          · go_wp2_with (go_at_call 54; refine (takes_any f hf _).mono ?_; rw [HQ.out]; rintro e w' ⟨rfl, hw⟩; have hw := hw.symm; subst hw)
            have P2 := hide1 (P1.out.set (s ++ { data := #[41, 32, 123] }))
            have T2 : Hid (TxC ls f (15 + 7 * q) (s ++ ({ data := #[41, 32, 123] } : ByteArray)).data.toList) := by
              show TxC _ _ _ _
              rw [show (s ++ ({ data := #[41, 32, 123] } : ByteArray)).data.toList = s.data.toList ++ [41, 32, 123] from by simp]
              exact (T1.out.close (by omega)).mono (by omega)
            generalize (s ++ ({ data := #[41, 32, 123] } : ByteArray)) = s2 at P2 T2 ⊢
            clear P1 T1 o0 of lo hsz hkf
            go_loopw [6] (fun i wr => ∃ (k : Nat) (s : ByteArray), i = .int .i64 k ∧ k ≤ 4 ∧ Hid (PF w s v pl ca m wr) ∧ Hid (TxC ls f (15 + 7 * k) s.data.toList)) (fun i _ => 4 - (intOf i).toNat)
            case atStart => exact ⟨q, s2, rfl, by omega, P2, T2⟩
            case round =>
              clear P2 T2
              obtain ⟨k, s, rfl, hk, P2, T2⟩ := hrel
              have hsz : s.size ≤ 2460 := by have := T2.out.len; rw [size_list]; omega
              have o0 := P2.out.out.cell 0
              have of := P2.out.out.frozen
              have lo := blk_lt P2.out.out
              simp only [List.getElem?_toArray, List.getElem?_cons_zero] at o0
              by_cases hk4 : k < 4
              · go_wp2
                go_region_with (go_at_call 55; refine (vname_any k (by omega) _).mono ?_; rintro e w' ⟨⟨u, rfl, hu, hu1⟩, hw⟩; have hw := hw.symm; subst hw)
                all_goals
                  go_wp2_with fail
                  go_roundw
                  case rel => exact ⟨k + 1, _, by go_num, by omega, (P2.out.set _).quiet (by repeat (first | exact Only.refl _ _ | refine Only.drew ?_ | refine Only.drewN ?_ _ | refine Only.alloc ?_ _)), by show TxC _ _ _ _; rw [show (s ++ ({ data := #[32, 118, 97, 114, 32] } : ByteArray) ++ u ++ ({ data := #[59] } : ByteArray)).data.toList = s.data.toList ++ ([32, 118, 97, 114, 32] ++ vnA k ++ [59]) from by simp [hu]]; exact (T2.out.more (n := 7) (var_run k) (by simp [vnA_len])).mono (by omega)⟩
                  case measure => simp [intOf]; omega
              · go_wp2
                have hk44 : k = 4 := by omega
                have T3 : Hid (TxC ls f (43 + 36 * cntB ls f 0) s.data.toList) := by rw [hk44] at T2; exact T2.out
                clear T2 o0 of lo hsz hk4 hk hk44
                go_loopw [7] (fun i wr => ∃ (k : Nat) (s : ByteArray) (v : Value) (pl ca : Int) (m : Nat), i = .int .i64 k ∧ k ≤ 60 ∧ m ≤ 60 * f + k ∧ Hid (PF w s v pl ca m wr) ∧ Hid (TxC ls f (43 + 36 * cntB ls f k) s.data.toList)) (fun i _ => 60 - (intOf i).toNat)
                case atStart => exact ⟨0, s, v, pl, ca, m, rfl, by omega, by omega, P2, T3⟩
                case round =>
                  clear P2 T3
                  obtain ⟨k, s, v, pl, ca, m, rfl, hk, hm, P2, T3⟩ := hrel
                  by_cases hlt : k < ls.length ∧ k < 60
                  · obtain ⟨hk1, hk2⟩ := hlt
                    have hrow : ∃ g off, a = some ⟨g, off, none⟩ ∧ LnRow g off ls w := by
                      rcases HROW.out with h0 | h1
                      · rw [h0] at hk1; simp at hk1
                      · exact h1
                    obtain ⟨g, off, ha, hR⟩ := hrow
                    subst ha
                    have R0 := hide1 (hR.only P2.out.only)
                    have d0 := R0.out.c0 k hk1
                    have d1 := R0.out.c1 k hk1
                    have d2 := R0.out.c2 k hk1
                    have d3 := R0.out.c3 k hk1
                    have d4 := R0.out.c4 k hk1
                    have d5 := R0.out.c5 k hk1
                    have lg : g < wr.heap.size := R0.out.lt (fun e => by rw [e] at hk1; simp at hk1)
                    have hln := HOK.out ls[k] (List.getElem_mem _)
                    have hB := cntB_snoc ls f k hk1
                    have HB := hide1 hB
                    have HG := hide1 hR.lt
                    clear hR hB
                    obtain ⟨ln, hln'⟩ : ∃ l, ls[k] = l := ⟨_, rfl⟩
                    rw [hln'] at d0 d1 d2 d3 d4 d5 hln HB
                    go_wp2_with fail
                    refine (made_any ln hln _).mono ?_
                    rintro e w2 ⟨av, args, rfl, hI, hal, ha4, ho2⟩
                    have P3 := hide1 (P2.out.quiet ho2)
                    have R2 := hide1 (R0.out.only ho2)
                    have HI := hide1 hI
                    obtain ⟨aa, al, ac, rfl⟩ := owns_form hI
                    clear hI ho2 P2 R0 d0 d1 d2 d3 d4 d5 lg
                    unfold smA
                    by_cases hin : pickN ln.a0 4 = f
                    · have hin' : (((pickN ln.a0 4 : Nat) : Int) != (f : Int)) = false := by simp [hin]
                      obtain ⟨p0, e0⟩ : ∃ p, pickN ln.a0 4 = p := ⟨_, rfl⟩
                      obtain ⟨p1, e1⟩ : ∃ p, pickN ln.a1 10 = p := ⟨_, rfl⟩
                      obtain ⟨p2, e2⟩ : ∃ p, pickN ln.a2 4 = p := ⟨_, rfl⟩
                      obtain ⟨p3, e3⟩ : ∃ p, pickN ln.a3 4 = p := ⟨_, rfl⟩
                      obtain ⟨p4, e4⟩ : ∃ p, pickN ln.a4 4 = p := ⟨_, rfl⟩
                      have b1 : p1 < 10 := by rw [← e1]; exact pickN_lt _ _ (by omega)
                      have b2 : p2 < 4 := by rw [← e2]; exact pickN_lt _ _ (by omega)
                      have b3 : p3 < 4 := by rw [← e3]; exact pickN_lt _ _ (by omega)
                      have b4 : p4 < 4 := by rw [← e4]; exact pickN_lt _ _ (by omega)
                      rw [e0] at hin'
                      rw [e0, e1, e2, e3, e4]
                      have E0 := hide1 e0
                      have E1 := hide1 e1
                      have HIN := hide1 hin
                      clear e0 e1 e2 e3 e4 hin
                      have o2 := P3.out.out.cell 2
                      have o3 := P3.out.out.cell 3
                      have of := P3.out.out.frozen
                      have lo := blk_lt P3.out.out
                      simp only [List.getElem?_toArray, List.getElem?_cons_zero, List.getElem?_cons_succ] at o2 o3
                      have hA := (Only.refl (fun _ => False) w2).alloc (.cells #[.int .i64 p0, .int .i64 p1, .int .i64 p2, .int .i64 p3, .int .i64 p4, .int .i64 p4, .int .i64 0, .slice aa al ac] 68)
                      have hsv : ∀ k, v.ownBlock = some k → k ≠ w2.heap.size := by
                        intro k hk e
                        obtain ⟨xs, hr⟩ := P3.out.row
                        have := (hr.lt k hk).2
                        omega
                      have Q0 : Hid (QF w s v pl ca m g off ls w2.heap.size p0 p1 p2 p3 p4 0 (.slice aa al ac) args (w2.alloc (.cells #[.int .i64 p0, .int .i64 p1, .int .i64 p2, .int .i64 p3, .int .i64 p4, .int .i64 p4, .int .i64 0, .slice aa al ac] 68))) :=
                        ⟨P3.out.quiet hA, Box.new w2 _ _, ownsRow_base (ownsRow_only HI.out hA (fun _ _ q => q)) (Nat.zero_le _), R2.out.only hA, by omega, fun hn => by have := HG.out hn; omega⟩
                      clear P3 R2 HI hA
                      have d1 := Q0.out.bx.cell 1
                      simp only [List.getElem?_toArray, List.getElem?_cons_zero, List.getElem?_cons_succ] at d1
                      go_upto_if 73 with fail
                      generalize w2.alloc (.cells #[.int .i64 p0, .int .i64 p1, .int .i64 p2, .int .i64 p3, .int .i64 p4, .int .i64 p4, .int .i64 0, .slice aa al ac] 68) = w4 at Q0 d1 ⊢
                      have HSV := hide1 hsv
                      generalize w2.heap.size = sb at Q0 HSV d1 ⊢
                      clear o2 o3 of lo hsv
                      go_cut [] (fun wx => ∃ pl' num, QF w s v pl' ca m g off ls sb p0 p1 p2 p3 p4 num (.slice aa al ac) args wx)
                      case first =>
                        by_cases h0 : p1 = 0
                        · have h0' : ((p1 : Int) == 0) = true := by simp [h0]
                          have o2 := Q0.out.pf.out.cell 2
                          have of := Q0.out.pf.out.frozen
                          have lo := blk_lt Q0.out.pf.out
                          have d6 := Q0.out.bx.cell 6
                          have df := Q0.out.bx.frozen
                          have ld := blk_lt Q0.out.bx
                          have hfar := Q0.out.far
                          simp only [List.getElem?_toArray, List.getElem?_cons_zero, List.getElem?_cons_succ] at o2 d6
                          clear h0
                          go_wp2
                          go_meet
                          case rel => exact ⟨_, _, (Q0.out.setO (Q0.out.pf.set2 _)).num HSV.out _⟩
                        · have h0' : ((p1 : Int) == 0) = false := by simp; omega
                          go_wp2
                          go_meet
                          case rel => exact ⟨_, _, Q0.out⟩
                      case rest =>
                        obtain ⟨pl', num, hQ⟩ := hcut
                        have Q1 := hide1 hQ
                        clear hQ Q0 d1
                        have d1 := Q1.out.bx.cell 1
                        simp only [List.getElem?_toArray, List.getElem?_cons_zero, List.getElem?_cons_succ] at d1
                        go_upto_if 83 with fail
                        go_cut [] (fun wx => ∃ ca' num, QF w s v pl' ca' m g off ls sb p0 p1 p2 p3 p4 num (.slice aa al ac) args wx)
                        case first =>
                          by_cases h0 : p1 = 8
                          · have h0' : ((p1 : Int) == 8) = true := by simp [h0]
                            have o2 := Q1.out.pf.out.cell 3
                            have of := Q1.out.pf.out.frozen
                            have lo := blk_lt Q1.out.pf.out
                            have d6 := Q1.out.bx.cell 6
                            have df := Q1.out.bx.frozen
                            have ld := blk_lt Q1.out.bx
                            have hfar := Q1.out.far
                            simp only [List.getElem?_toArray, List.getElem?_cons_zero, List.getElem?_cons_succ] at o2 d6
                            clear h0
                            go_wp2
                            go_meet
                            case rel => exact ⟨_, _, (Q1.out.setO (Q1.out.pf.set3 _)).num HSV.out _⟩
                          · have h0' : ((p1 : Int) == 8) = false := by simp; omega
                            go_wp2
                            go_meet
                            case rel => exact ⟨_, _, Q1.out⟩
                        case rest =>
                          obtain ⟨ca', num, hQ⟩ := hcut
                          clear Q1 d1
                          obtain ⟨xs, hr⟩ := hQ.pf.row
                          obtain ⟨va, vl, vc, rfl⟩ := owns_form hr
                          have o1 := hQ.pf.out.cell 1
                          have of := hQ.pf.out.frozen 1
                          have lo := blk_lt hQ.pf.out
                          have m0 := hQ.bx.cell 0
                          have m1 := hQ.bx.cell 1
                          have m2 := hQ.bx.cell 2
                          have m3 := hQ.bx.cell 3
                          have m4 := hQ.bx.cell 4
                          have m5 := hQ.bx.cell 5
                          have m6 := hQ.bx.cell 6
                          have m7 := hQ.bx.cell 7
                          have lb := blk_lt hQ.bx
                          simp only [List.getElem?_toArray, List.getElem?_cons_zero, List.getElem?_cons_succ] at o1 m0 m1 m2 m3 m4 m5 m6 m7
                          have NO := hide1 (own_ne hr hQ.pf.out (by decide))
                          have hzw := hQ.pf.only.size
                          have Q2 := hide1 hQ
                          clear hQ
                          obtain ⟨i1, hi, hz0, hz1, hz2⟩ := info_parts Tryz.infoSm
                          go_wp2_with (at_builtin; refine wpList_append_own _ rfl _ _ 54 rfl w.heap.size 68 i1 (.agg sm0) 8 80 Tryz.underlying54 hi hz0 hz1 hz2 rfl (by decide) _ _ _ rfl (hr.alloc _) ⟨wc.heap.size, 0, none⟩ 1 1 [.int .i64 p0, .int .i64 p1, .int .i64 p2, .int .i64 p3, .int .i64 p4, .int .i64 p4, .int .i64 num, .slice aa al ac] rfl rfl (cells_new rfl _ _) (fun x hx => by simp at hx; rcases hx with rfl | rfl | rfl | rfl | rfl | rfl | rfl | rfl <;> rfl) (by unfold maxLen; omega) (by omega) (by simp; omega) ?_; intro v' w5 hown' hgrow5 hnil5; have q1 : w5.cell? ⟨w.heap.size + 1, 1, none⟩ = some (.slice va vl vc) := (World.cell?_of_block (hgrow5.block (w.heap.size + 1) (by simp; omega) (fun h => NO.out _ h.symm rfl))).trans (by rw [← o1]; exact World.cell?_of_block (Below.heap_alloc _ _ _ lo)); have q2 : w5.frozen? ⟨w.heap.size + 1, 1, none⟩ = false := (World.frozen?_of_block (hgrow5.block (w.heap.size + 1) (by simp; omega) (fun h => NO.out _ h.symm rfl))).trans (by rw [← of]; exact World.frozen?_of_block (Below.heap_alloc _ _ _ lo)); obtain ⟨va', vl', vc', rfl⟩ := owns_form hown')
                          have Q3 := hide1 (Q2.out.grow HSV.out ((Only.refl _ _).alloc _) hown' hgrow5)
                          generalize w5.setCell ⟨w.heap.size + 1, 1, none⟩ (.slice va' vl' vc') = w6 at Q3 ⊢
                          clear Q2 hr o1 of lo m0 m1 m2 m3 m4 m5 m6 m7 lb NO hzw hown' hgrow5 hnil5 q1 q2 hi hz0 hz1 hz2 HSV
                          have o0 := Q3.out.pf.out.cell 0
                          have of := Q3.out.pf.out.frozen
                          have lo := blk_lt Q3.out.pf.out
                          have m0 := Q3.out.bx.cell 0
                          have m1 := Q3.out.bx.cell 1
                          have m2 := Q3.out.bx.cell 2
                          have m3 := Q3.out.bx.cell 3
                          have m4 := Q3.out.bx.cell 4
                          have m5 := Q3.out.bx.cell 5
                          have m6 := Q3.out.bx.cell 6
                          have m7 := Q3.out.bx.cell 7
                          have d5 := Q3.out.ln.c5 k hk1
                          have lg : g < w6.heap.size := Q3.out.ln.lt (fun e => by rw [e] at hk1; simp at hk1)
                          simp only [List.getElem?_toArray, List.getElem?_cons_zero, List.getElem?_cons_succ, hln'] at o0 m0 m1 m2 m3 m4 m5 m6 m7 d5
                          have hsz : s.size ≤ 4603 := by have := T3.out.len; have := cntA_le ls f; have : cntB ls f k ≤ k := Nat.le_trans List.countP_le_length (by simp; omega); rw [size_list]; omega
                          refine wp_onN ?_
                          refine region27 _ g off ls.length cap (w.heap.size + 1) sb k p0 p1 p2 p3 p4 num ln.a5 aa al ac args s w6 Q3.out.row hal ha4 b1 b2 b3 b4 hln.k5 hk1 hsz o0 (of 0) lo m0 m1 m2 m3 m4 m5 m6 m7 d5 lg ?_
                          intro t u w7 ht hu ho7
                          have Q7 := hide1 (Q3.out.quiet ho7)
                          have hu34 := wr_size hu
                          have ht16 := st_size ht
                          have T5 : Hid (TxC ls f (43 + 36 * cntB ls f (k + 1)) (s ++ ({ data := #[32] } : ByteArray) ++ u).data.toList) := by
                            show TxC _ _ _ _
                            rw [show (s ++ ({ data := #[32] } : ByteArray) ++ u).data.toList = s.data.toList ++ ([32] ++ u.data.toList) from by simp]
                            exact (T3.out.more (n := 36) (by rw [hu, ht]; exact runA_join (i := 0) rfl (wrA_run _ _ (stA_run _ _ _ _ _ _))) (by have := size_list u; simp only [List.length_append, List.length_cons, List.length_nil]; omega)).mono (by rw [HB.out, if_pos HIN.out]; omega)
                          clear o0 of lo m0 m1 m2 m3 m4 m5 m6 m7 d5 lg ht hu ho7
                          go_wp2_with fail
                          go_roundw
                          case rel => exact ⟨k + 1, _, .slice va' vl' vc', pl', ca', m + 1, by go_num, by omega, by omega, Q7.out.pf.set _, T5⟩
                          case measure => simp [intOf]; omega
                    · have hin' : (((pickN ln.a0 4 : Nat) : Int) != (f : Int)) = true := by simp; omega
                      go_wp2_with fail
                      go_roundw
                      case rel => exact ⟨k + 1, s, v, pl, ca, m, by go_num, by omega, by omega, P3.out.quiet (by repeat (first | exact Only.refl _ _ | refine Only.drew ?_ | refine Only.drewN ?_ _ | refine Only.alloc ?_ _)), by show TxC _ _ _ _; rw [HB.out, if_neg hin]; exact T3.out⟩
                      case measure => simp [intOf]; omega
                  · have hsz : s.size ≤ 4603 := by have := T3.out.len; have := cntA_le ls (f + 1); have := cnt_sum ls f; have := cntB_end ls f k hlt hk; rw [size_list]; omega
                    have o0 := P2.out.out.cell 0
                    have of := P2.out.out.frozen
                    have lo := blk_lt P2.out.out
                    simp only [List.getElem?_toArray, List.getElem?_cons_zero] at o0
                    have T4 : Hid (TxA ls (f + 1) (s ++ ({ data := #[32, 125, 10] } : ByteArray)).data.toList) := by
                      show TxA _ _ _
                      rw [show (s ++ ({ data := #[32, 125, 10] } : ByteArray)).data.toList = s.data.toList ++ [32, 125, 10] from by simp]
                      have h1 := cnt_sum ls f
                      have h2 := cntB_end ls f k hlt hk
                      have h3 := T3.out.len
                      exact ⟨runA_join T3.out.run rfl, by simp only [List.length_append, List.length_cons, List.length_nil]; omega, fun _ => T3.out.head.trans (List.prefix_append _ _), fun h => by omega⟩
                    by_cases hk1 : k < ls.length
                    · have hk2 : ¬ k < 60 := fun h => hlt ⟨hk1, h⟩
                      go_wp2
                      go_roundw
                      case rel => exact ⟨f + 1, _, v, pl, ca, m, by go_num, by omega, by omega, P2.out.set _, T4⟩
                      case measure => simp [intOf]; omega
                    · go_wp2
                      go_roundw
                      case rel => exact ⟨f + 1, _, v, pl, ca, m, by go_num, by omega, by omega, P2.out.set _, T4⟩
                      case measure => simp [intOf]; omega
    · have hf44 : f = 4 := by omega
      have hca := cntA_le ls f
      have o0 := P0.out.out.cell 0
      have o1 := P0.out.out.cell 1
      have o2 := P0.out.out.cell 2
      have o3 := P0.out.out.cell 3
      have r0 := P0.out.res.cell 0
      have r1 := P0.out.res.cell 1
      have r2 := P0.out.res.cell 2
      have r3 := P0.out.res.cell 3
      have rf := P0.out.res.frozen
      have lo := blk_lt P0.out.out
      have lr := blk_lt P0.out.res
      obtain ⟨xs, hr⟩ := P0.out.row
      obtain ⟨va, vl, vc, rfl⟩ := owns_form hr
      simp only [List.getElem?_toArray, List.getElem?_cons_zero, List.getElem?_cons_succ] at o0 o1 o2 o3 r0 r1 r2 r3
      have hsz : s.size ≤ 2400 := by have := T0.out.len; rw [size_list]; omega
      go_wp2
      refine bodyPost_ret (v := .agg #[.string s, .slice va vl vc, .int .i64 pl, .int .i64 ca]) (by simp [results, Tryz.results24, go_sem, r0, r1, r2, r3]) rfl ⟨⟨s, va, vl, vc, pl, ca, rfl, T0.out.run, hsz, T0.out.head (by omega)⟩, ?_⟩
      iterate 4 refine Only.set_far ?_ (Nat.le_refl _)
      exact P0.out.only

end Go.Proofs.YtgbmakpdjdigmaaGreatDoor

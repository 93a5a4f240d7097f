/- The program's Tokens: of a text it returns ErrLong, or ErrText and the place that scanRun tells, or a new slice that holds its tokens and the end; nothing old is turned. -/
import Derived.Test.YtafjaljiliddnaaGreatDoorScH
import Derived.Test.YtafjaljiliddnaaGreatDoorScB
import Derived.Lib.OthersKept
namespace Go.Proofs.YtafjaljiliddnaaGreatDoor
open Go.RowKit

/-- What Tokens leaves. -/
def ptPost (w : World) (s : ByteArray) (V : Nat ⊕ Sc) (e : Ending) (w' : World) : Prop :=
  match V with
  | .inl p => e = .returned (.tuple #[.slice none 0 0, .int .i64 2, .int .i64 p]) ∧ Below w.heap.size w w'
  | .inr x => ∃ v, e = .returned (.tuple #[v, .int .i64 0, .int .i64 0]) ∧ w'.ownsRow w.heap.size 145 3 v (scanEnd s x).length (ptsCells (scanEnd s x)) ∧ (scanEnd s x).length ≤ 4001 ∧ Below w.heap.size w w'

theorem iter_pos {w : World} {k : Nat} {s : ByteArray} {p : Nat} (h : w.heap[k]? = some (.stringIter s p)) : w.iterPos k = p := by simp [World.iterPos, h]
theorem only_iterAt (w : World) (k : Nat) (s : ByteArray) (p : Nat) : Only (fun j => j = k) w (w.iterAt k s p) := by
  have h := Lib.below_iterAt (Below.refl 0 w) (k := k) (Nat.zero_le _) s p
  exact ⟨h.os, h.tape, h.output, h.size, fun j _ hj => Lib.iterAt_other _ _ _ _ _ (fun e => hj e)⟩
theorem own_iter {w : World} {B : Nat} {e : TypeId} {size : Nat} {v : Value} {n : Nat} {xs : List Value} (h : w.ownsRow B e size v n xs) {b : Nat} {s : ByteArray} {p : Nat} (hb : w.heap[b]? = some (.stringIter s p)) : ∀ k, v.ownBlock = some k → k ≠ b := by
  rintro k hk rfl
  rcases h.2 with ⟨h2, _⟩ | ⟨g', cap', cur', hv, _, hh, _⟩
  · rw [h2] at hk; simp [Value.ownBlock] at hk
  · rw [hv] at hk
    simp [Value.ownBlock] at hk
    subst hk
    rw [hb] at hh
    cases hh
theorem ScS.iter {B b k : Nat} {s t : ByteArray} {v : Value} {x : Sc} {w : World} {p q : Nat} (h : ScS B b s v x w) (hk : w.heap[k]? = some (.stringIter t p)) (hb : b ≠ k) : ScS B b s v x (w.iterAt k t q) :=
  ⟨h.1.only (only_iterAt _ _ _ _) hb, ownsRow_only h.2 (only_iterAt _ _ _ _) (own_iter h.2 hk)⟩
theorem Fr.iter {b k : Nat} {B : Nat} {s t : ByteArray} {v v' : Value} {x : Sc} {w w' : World} {p : Nat} (h : Fr b v v' w w') (hs : ScS B b s v x w) (hk : w.heap[k]? = some (.stringIter t p)) (hb : b ≠ k) : w'.heap[k]? = some (.stringIter t p) := by
  rw [h.only.block k (blk_lt hk) ?_]
  · exact hk
  · rintro (q | q)
    · exact hb q.symm
    · exact own_iter hs.2 hk k q rfl
theorem Fr.below {b : Nat} {B : Nat} {s : ByteArray} {v v' : Value} {x : Sc} {w w' : World} (h : Fr b v v' w w') (hs : ScS B b s v x w) (hB : B ≤ w.heap.size) (hb : B ≤ b) : Below B w w' :=
  h.only.belowB hB (fun k hk => hk.elim (fun e => by omega) (fun q => (hs.2.lt k q).1))

set_option maxRecDepth 100000 in
set_option maxHeartbeats 1000000 in
theorem tokens_long (s : ByteArray) (hs : 4000 < s.size) (hm : s.size ≤ maxLen) (w : World) :
    Calls Tryz.prog 56 #[.string s] w fun e w' => e = .returned (.tuple #[.slice none 0 0, .int .i64 1, .int .i64 0]) ∧ w' = w := by
  unfold maxLen at hm
  go_enter Tryz.func56, Tryz.ntmps56
  go_wp2
  go_ret3
  exact ⟨rfl, rfl⟩

set_option maxRecDepth 100000 in
set_option maxHeartbeats 1000000 in
theorem tokens_any (s : ByteArray) (hs : s.size ≤ 4000) (w : World) :
    Calls Tryz.prog 56 #[.string s] w fun e w' => ptPost w s (scanRun s s.size 0 x0) e w' := by
  generalize hV : scanRun s s.size 0 x0 = V
  have HV : Hid (scanRun s s.size 0 x0 = V) := hV
  clear hV
  go_enter Tryz.func56, Tryz.ntmps56
  go_wp2
  go_loopw [6, 7, 8, 9] (fun _ _ _ _ wr => ∃ (pos q f : Nat) (v : Value) (x : Sc), wr.heap[w.heap.size + 1]? = some (.stringIter s pos) ∧ ScS w.heap.size w.heap.size s v x wr ∧ Below w.heap.size w wr ∧ s.size - pos ≤ f ∧ ScOk q x ∧ q ≤ pos ∧ q ≤ s.size ∧ Hid (scanRun s f pos x = V)) (fun _ _ _ _ wr => s.size - wr.iterPos (w.heap.size + 1))
  case atStart =>
    refine ⟨0, 0, s.size, .slice none 0 0, x0, ?_, ?_, ?_, by omega, ⟨Nat.le_refl _, by simp, by simp⟩, Nat.le_refl _, Nat.zero_le _, HV⟩
    · have := World.iter_heap (w.alloc (.cells #[.string s, .slice none 0 0, .bool false, .int .i64 0, .int .i64 0] 215)) s 0
      simpa using this
    · exact ⟨(Box.new w #[.string s, .slice none 0 0, .bool false, .int .i64 0, .int .i64 0] 215).alloc _, World.ownsRow_nil _ _ _ _⟩
    · exact ((Below.refl _ _).alloc (Nat.le_refl _) _).alloc (by simp) _
  case round =>
    obtain ⟨pos, q, f, v, x, hit, hsc, hbw, hf, hok, hq1, hq2, HC⟩ := hrel
    clear HV
    have hpos0 := iter_pos hit
    have hzw := hbw.size
    by_cases hp : pos < s.size
    · have hnx : ∀ ty, (Instr.next (.pointer (some ⟨w.heap.size + 1, 0, none⟩)) true ty).run Tryz.prog wr = _ := fun ty => Lib.run_next_any_at wr (w.heap.size + 1) s pos ty hit hp
      have hit2 := Lib.iterAt_heap wr (w.heap.size + 1) s pos (pos + (Utf8.decode s pos).2) hit
      have hbw2 := Lib.below_iterAt hbw (k := w.heap.size + 1) (by omega) s (pos + (Utf8.decode s pos).2)
      have hsc2 := hsc.iter (q := pos + (Utf8.decode s pos).2) hit (by omega)
      have hwd := decode_pos s pos hp
      have hok2 := hok.more hq1
      generalize wr.iterAt (w.heap.size + 1) s (pos + (Utf8.decode s pos).2) = W1 at *
      have hz1 := hbw2.size
      obtain ⟨y, hy⟩ : ∃ y, takeS s pos (Utf8.decode s pos).1 x = y := ⟨_, rfl⟩
      have HY := hide1 hy
      have HOK := hide1 hok2
      have HSC := hide1 hsc2
      have HIT := hide1 hit2
      have HBW := hide1 hbw2
      clear hit hsc hbw hok hok2 hsc2 hit2 hbw2 hy
      obtain ⟨y1, y2, y3⟩ := y
      cases y3 with
      | true =>
        go_wp2_with (go_at_call 99; refine (take_any w.heap.size w.heap.size s v x pos (Utf8.decode s pos).1 _ hs HSC.out hz1 hp HOK.out).mono ?_; rw [HY.out]; rintro e w2 ⟨rfl, v2, h1, h2⟩)
        obtain ⟨f', hf', he⟩ := scanRun_go (x := x) hf hp (by rw [HY.out])
        rw [HY.out] at he
        have hok3 : ScOk (pos + 1) y1 := by have := takeS_ok (s := s) (r := (Utf8.decode s pos).1) HOK.out (by rw [HY.out]); rw [HY.out] at this; exact this
        have hit3 := h2.iter HSC.out HIT.out (by omega)
        go_roundw
        case rel => exact ⟨pos + (Utf8.decode s pos).2, pos + 1, f', v2, y1, hit3, h1, HBW.out.trans (h2.below HSC.out hz1 (Nat.le_refl _)), hf', hok3, by omega, by omega, by show _ = _; rw [← he]; exact HC.out⟩
        case measure => rw [iter_pos hit3, hpos0]; omega
      | false =>
        go_wp2_with (go_at_call 99; refine (take_any w.heap.size w.heap.size s v x pos (Utf8.decode s pos).1 _ hs HSC.out hz1 hp HOK.out).mono ?_; rw [HY.out]; rintro e w2 ⟨rfl, v2, h1, h2⟩)
        go_ret3
        have hv : V = .inl y2 := by
          have := scanRun_bad (x := x) hf hp (by rw [HY.out])
          rw [HY.out] at this
          rw [← HC.out, this]
        subst hv
        exact ⟨rfl, HBW.out.trans (h2.below HSC.out hz1 (Nat.le_refl _))⟩
    · have hnx : ∀ ty, (Instr.next (.pointer (some ⟨w.heap.size + 1, 0, none⟩)) true ty).run Tryz.prog wr = _ := fun ty => Lib.run_next_end_at wr (w.heap.size + 1) s pos ty hit hp
      have hv : V = .inr x := by rw [← HC.out, scanRun_end hp]
      subst hv
      have HSC := hide1 hsc
      have HBW := hide1 hbw
      have hoke := hok.more hq2
      have HOK := hide1 hoke
      clear hit hsc hbw hok HC hoke
      have hm3 := (HOK.out.endW (s := s)).many
      go_wp2_with (first
        | (go_at_call 100; refine (endWord_any w.heap.size w.heap.size s v x s.size _ hs HSC.out hzw (Nat.le_refl _) HOK.out).mono ?_; rintro e w1 ⟨rfl, v1, h1, h2⟩; have hz2 := h2.only.size)
        | (go_at_call 101; refine (add_any w.heap.size w.heap.size s v1 (endW s s.size x) 0 s.size s.size _ hs h1 (by omega) (Nat.le_refl _) (Nat.le_refl _) (by omega)).mono ?_; rintro e w2 ⟨rfl, v2, h3, h4⟩; have c1 := h3.1.cell 1; simp only [List.getElem?_toArray, List.getElem?_cons_zero, List.getElem?_cons_succ] at c1; obtain ⟨va, vl, vc, rfl⟩ := owns_form h3.2))
      go_ret3
      refine ⟨_, rfl, ?_, ?_, ?_⟩
      · have := h3.2
        simpa [scanEnd, pushT] using this
      · simp [scanEnd]; omega
      · exact (HBW.out.trans (h2.below HSC.out hzw (Nat.le_refl _))).trans (h4.below h1 (by omega) (Nat.le_refl _))

end Go.Proofs.YtafjaljiliddnaaGreatDoor

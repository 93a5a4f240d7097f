/- The program's scanner: take: what it answers of a character, and the scanner behind it. Texts of at most 4000 bytes. -/
import Derived.Test.YtafjaljiliddnaaGreatDoorScG
namespace Go.Proofs.YtafjaljiliddnaaGreatDoor
open Go.RowKit

set_option maxRecDepth 100000 in
set_option maxHeartbeats 1000000 in
theorem take_any (B b : Nat) (s : ByteArray) (v : Value) (x : Sc) (p r : Nat) (w : World) (hs : s.size ≤ 4000) (h : ScS B b s v x w) (hB : B ≤ w.heap.size) (hp : p < s.size) (hok : ScOk p x) :
    Calls Tryz.prog 99 #[.pointer (some ⟨b, 0, none⟩), .int .i64 p, .int .i32 r] w fun e w' => e = .returned (.tuple #[.int .i64 (takeS s p r x).2.1, .bool (takeS s p r x).2.2]) ∧ ∃ v', ScS B b s v' (takeS s p r x).1 w' ∧ Fr b v v' w w' := by
  have c0 := h.1.cell 0
  have c2 := h.1.cell 2
  have ff := h.1.frozen
  simp only [List.getElem?_toArray, List.getElem?_cons_zero, List.getElem?_cons_succ] at c0 c2
  have lb := blk_lt h.1
  have HS := hide1 h
  have HOK := hide1 hok
  clear h hok
  cases hb : brokenB s p r with
  | true =>
    have ht : takeS s p r x = (x, p, false) := by simp [takeS, hb]
    rw [ht]
    have HB := hide1 hb
    clear hb
    go_enter Tryz.func99, Tryz.ntmps99
    go_wp2_with (first | (go_at_call 149; refine (isBroken_any _ _ _ hs (by omega) _).mono ?_; rw [HB.out]; rintro e w' ⟨rfl, hw⟩; have hw := hw.symm; subst hw))
    go_ret2
    exact ⟨rfl, v, HS.out, Fr.refl _ _ _⟩
  | false =>
    have HB := hide1 hb
    cases hr : x.rem with
    | true =>
      have ht : takeS s p r x = (⟨x.toks, r != 10, x.start, x.letters⟩, 0, true) := by simp [takeS, hb, hr]
      rw [ht]
      rw [hr] at c2
      have hx : ((r : Int) != 10) = (r != 10) := by rw [Bool.eq_iff_iff]; simp; omega
      have HX := hide1 hx
      clear hb hr hx
      go_enter Tryz.func99, Tryz.ntmps99
      go_wp2_with (first | (go_at_call 149; refine (isBroken_any _ _ _ hs (by omega) _).mono ?_; rw [HB.out]; rintro e w' ⟨rfl, hw⟩; have hw := hw.symm; subst hw))
      go_ret2
      refine ⟨rfl, v, ⟨?_, ?_⟩, (Fr.refl _ _ _).set 2 _⟩
      · have := HS.out.1.set 2 (.bool ((r : Int) != 10))
        rw [HX.out] at this ⊢
        simpa using this
      · exact ownsRow_only HS.out.2 ((Only.refl (fun k => k = b) _).set_at 2 _) HS.out.ne
    | false =>
      rw [hr] at c2
      cases hl : letR r with
      | true =>
        have HL := hide1 hl
        have ht : takeS s p r x = (takeL p x, (if 8 < x.letters + 1 then (takeL p x).start else 0), !decide (8 < x.letters + 1)) := by
          simp only [takeS, hb, hr, hl]
          by_cases h8 : 8 < x.letters + 1 <;> simp [h8]
        rw [ht]
        clear hb hr hl ht
        obtain ⟨q, hq⟩ : ∃ q, (if 8 < x.letters + 1 then (takeL p x).start else 0) = q := ⟨_, rfl⟩
        obtain ⟨d, hd⟩ : ∃ d, (!decide (8 < x.letters + 1)) = d := ⟨_, rfl⟩
        have HQ := hide1 hq
        have HD := hide1 hd
        rw [hq, hd]
        clear hq hd
        go_enter Tryz.func99, Tryz.ntmps99
        go_wp2_with (first | (go_at_call 149; refine (isBroken_any _ _ _ hs (by omega) _).mono ?_; rw [HB.out]; rintro e w' ⟨rfl, hw⟩; have hw := hw.symm; subst hw) | (go_at_call 150; refine (isLetter_any _ _).mono ?_; rw [HL.out]; rintro e w' ⟨rfl, hw⟩; have hw := hw.symm; subst hw) | (go_at_call 151; refine (takeLetter_any B b s v x p _ HS.out HOK.out.letters).mono ?_; rw [HQ.out, HD.out]; rintro e w1 ⟨rfl, h1, h2⟩))
        go_ret2
        exact ⟨rfl, v, h1, h2⟩
      | false =>
        have HL := hide1 hl
        have ht : takeS s p r x = takeM s p r (endW s p x) := by simp [takeS, hb, hr, hl]
        rw [ht]
        clear hb hr hl ht
        go_enter Tryz.func99, Tryz.ntmps99
        go_wp2_with (first | (go_at_call 149; refine (isBroken_any _ _ _ hs (by omega) _).mono ?_; rw [HB.out]; rintro e w' ⟨rfl, hw⟩; have hw := hw.symm; subst hw) | (go_at_call 150; refine (isLetter_any _ _).mono ?_; rw [HL.out]; rintro e w' ⟨rfl, hw⟩; have hw := hw.symm; subst hw) | (go_at_call 100; refine (endWord_any B b s v x p _ hs HS.out hB (by omega) HOK.out).mono ?_; rintro e w1 ⟨rfl, v1, h1, h2⟩; have hz := h2.only.size; have hq := (HOK.out.endW (s := s)).many) | (go_at_call 152; refine (takeMark_any B b s v1 (endW s p x) p r _ hs h1 (by omega) hp (by omega)).mono ?_; rintro e w2 ⟨rfl, v2, h3, h4⟩))
        go_ret2
        exact ⟨rfl, v2, h3, h2.trans h4⟩

end Go.Proofs.YtafjaljiliddnaaGreatDoor

/- The program's scanner: takeLetter, takeMark: what each answers, and the scanner behind it. Texts of at most 4000 bytes. -/
import Derived.Test.YtafjaljiliddnaaGreatDoorScF
namespace Go.Proofs.YtafjaljiliddnaaGreatDoor
open Go.RowKit

set_option maxRecDepth 100000 in
set_option maxHeartbeats 1000000 in
theorem takeLetter_any (B b : Nat) (s : ByteArray) (v : Value) (x : Sc) (p : Nat) (w : World) (h : ScS B b s v x w) (hl : x.letters ≤ 8) :
    Calls Tryz.prog 151 #[.pointer (some ⟨b, 0, none⟩), .int .i64 p] w fun e w' => e = .returned (.tuple #[.int .i64 ((if 8 < x.letters + 1 then (takeL p x).start else 0 : Nat) : Int), .bool (!decide (8 < x.letters + 1))]) ∧ ScS B b s v (takeL p x) w' ∧ Fr b v v w w' := by
  have c3 := h.1.cell 3
  have c4 := h.1.cell 4
  have ff := h.1.frozen
  simp only [List.getElem?_toArray, List.getElem?_cons_zero, List.getElem?_cons_succ] at c3 c4
  have lb := blk_lt h.1
  have HS := hide1 h
  clear h
  by_cases h0 : x.letters = 0
  · have h0' : ((x.letters : Int) == 0) = true := by simp [h0]
    have ht : takeL p x = ⟨x.toks, x.rem, p, 1⟩ := by simp [takeL, h0]
    rw [ht, h0]
    rw [h0] at c4
    clear h0 h0'
    go_enter Tryz.func151, Tryz.ntmps151
    go_wp2
    go_ret2
    refine ⟨rfl, ⟨?_, ?_⟩, ((Fr.refl _ _ _).set 3 _).set 4 _⟩
    · have := (HS.out.1.set 3 (.int .i64 p)).set 4 (.int .i64 1)
      simpa using this
    · exact ownsRow_only HS.out.2 (((Only.refl (fun k => k = b) _).set_at 3 _).set_at 4 _) HS.out.ne
  · have h0' : ((x.letters : Int) == 0) = false := by simp [h0]
    have ht : takeL p x = ⟨x.toks, x.rem, x.start, x.letters + 1⟩ := by simp [takeL, h0]
    rw [ht]
    by_cases h8 : x.letters = 8
    · rw [h8]
      rw [h8] at c4
      clear h0 h0' hl
      go_enter Tryz.func151, Tryz.ntmps151
      go_wp2
      go_ret2
      refine ⟨rfl, ⟨?_, ?_⟩, (Fr.refl _ _ _).set 4 _⟩
      · have := HS.out.1.set 4 (.int .i64 9)
        simpa using this
      · exact ownsRow_only HS.out.2 ((Only.refl (fun k => k = b) _).set_at 4 _) HS.out.ne
    · have h9 : decide ((8 : Int) < (x.letters : Int) + 1) = false := by simp; omega
      have h9' : ¬ 8 < x.letters + 1 := by omega
      simp only [h9', if_false, decide_false, Bool.not_false]
      clear h9'
      go_enter Tryz.func151, Tryz.ntmps151
      go_wp2
      go_ret2
      refine ⟨rfl, ⟨?_, ?_⟩, (Fr.refl _ _ _).set 4 _⟩
      · have := HS.out.1.set 4 (.int .i64 ((x.letters : Int) + 1))
        simpa using this
      · exact ownsRow_only HS.out.2 ((Only.refl (fun k => k = b) _).set_at 4 _) HS.out.ne

set_option maxRecDepth 100000 in
set_option maxHeartbeats 1000000 in
theorem takeMark_any (B b : Nat) (s : ByteArray) (v : Value) (x : Sc) (p r : Nat) (w : World) (hs : s.size ≤ 4000) (h : ScS B b s v x w) (hB : B ≤ w.heap.size) (hp : p < s.size) (hm : x.toks.length ≤ 4000) :
    Calls Tryz.prog 152 #[.pointer (some ⟨b, 0, none⟩), .int .i64 p, .int .i32 r] w fun e w' => e = .returned (.tuple #[.int .i64 (takeM s p r x).2.1, .bool (takeM s p r x).2.2]) ∧ ∃ v', ScS B b s v' (takeM s p r x).1 w' ∧ Fr b v v' w w' := by
  have c2 := h.1.cell 2
  have ff := h.1.frozen
  simp only [List.getElem?_toArray, List.getElem?_cons_zero, List.getElem?_cons_succ] at c2
  have lb := blk_lt h.1
  have HS := hide1 h
  clear h
  by_cases hbl : r = 32 ∨ r = 9 ∨ r = 10
  · have ht : takeM s p r x = (x, 0, true) := by simp [takeM, hbl]
    rw [ht]
    rcases hbl with hbl | hbl | hbl
    all_goals
      subst hbl
      go_enter Tryz.func152, Tryz.ntmps152
      go_wp2
      go_ret2
      exact ⟨rfl, v, HS.out, Fr.refl _ _ _⟩
  · have e1 : ((r : Int) == 32) = false := by simp; omega
    have e2 : ((r : Int) == 9) = false := by simp; omega
    have e3 : ((r : Int) == 10) = false := by simp; omega
    by_cases h35 : r = 35
    · have ht : takeM s p r x = (⟨x.toks, true, x.start, x.letters⟩, 0, true) := by simp [takeM, h35]
      rw [ht]
      subst h35
      clear e1 e2 e3
      go_enter Tryz.func152, Tryz.ntmps152
      go_wp2
      go_ret2
      refine ⟨rfl, v, ⟨?_, ?_⟩, (Fr.refl _ _ _).set 2 _⟩
      · have := HS.out.1.set 2 (.bool true)
        simpa using this
      · exact ownsRow_only HS.out.2 ((Only.refl (fun k => k = b) _).set_at 2 _) HS.out.ne
    · have e4 : ((r : Int) == 35) = false := by simp; omega
      by_cases hk : markK r = 0
      · have ht : takeM s p r x = (x, p, false) := by simp [takeM, hbl, h35, hk]
        rw [ht]
        have HK : Hid (markK r = 0) := hk
        clear hbl h35 hk
        go_enter Tryz.func152, Tryz.ntmps152
        go_wp2_with (go_at_call 190; refine (markKind_any _ _).mono ?_; rw [HK.out]; rintro e w' ⟨rfl, hw⟩; have hw := hw.symm; subst hw)
        go_ret2
        exact ⟨rfl, v, HS.out, Fr.refl _ _ _⟩
      · have ht : takeM s p r x = (pushT x ⟨markK r, s.extract p (p + 1), p⟩, 0, true) := by simp [takeM, hbl, h35, hk, pushT]
        rw [ht]
        have hk' : (markK r != 0) = true := by simp [hk]
        obtain ⟨m, hm'⟩ : ∃ m, markK r = m := ⟨_, rfl⟩
        rw [hm'] at hk' ⊢
        have HM := hide1 hm'
        have HK := hide1 hk'
        clear hbl h35 hk hk' hm'
        go_enter Tryz.func152, Tryz.ntmps152
        go_wp2_with (first
          | (go_at_call 190; refine (markKind_any _ _).mono ?_; rw [HM.out, HK.out]; rintro e w' ⟨rfl, hw⟩; have hw := hw.symm; subst hw)
          | (go_at_call 101; refine (add_any B b s v x m p (p + 1) _ hs HS.out hB (by omega) (by omega) (by omega)).mono ?_; rintro e w1 ⟨rfl, v1, h1, h2⟩))
        go_ret2
        exact ⟨rfl, v1, h1, h2⟩

end Go.Proofs.YtafjaljiliddnaaGreatDoor

/- The program's scanner: endWord: the word at hand, if there is one, is a token more. Texts of at most 4000 bytes. -/
import Derived.Test.YtafjaljiliddnaaGreatDoorScE
namespace Go.Proofs.YtafjaljiliddnaaGreatDoor
open Go.RowKit

set_option maxRecDepth 100000 in
set_option maxHeartbeats 1000000 in
theorem endWord_any (B b : Nat) (s : ByteArray) (v : Value) (x : Sc) (en : Nat) (w : World) (hs : s.size ≤ 4000) (h : ScS B b s v x w) (hB : B ≤ w.heap.size) (hen : en ≤ s.size) (hok : ScOk en x) :
    Calls Tryz.prog 100 #[.pointer (some ⟨b, 0, none⟩), .int .i64 en] w fun e w' => e = .returned (.tuple #[]) ∧ ∃ v', ScS B b s v' (endW s en x) w' ∧ Fr b v v' w w' := by
  have c0 := h.1.cell 0
  have c3 := h.1.cell 3
  have c4 := h.1.cell 4
  have f4 := h.1.frozen 4
  simp only [List.getElem?_toArray, List.getElem?_cons_zero, List.getElem?_cons_succ] at c0 c3 c4
  have lb := blk_lt h.1
  have ho1 := hok.start
  have ho2 := hok.letters
  have ho3 := hok.many
  have HS := hide1 h
  clear h hok
  by_cases hl : 0 < x.letters
  · have he : endW s en x = ⟨x.toks ++ [⟨wordK (s.extract x.start en).toList, s.extract x.start en, x.start⟩], x.rem, x.start, 0⟩ := by simp [endW, hl]
    rw [he]
    have hl' : decide ((0 : Int) < (x.letters : Int)) = true := by simp; omega
    go_enter Tryz.func100, Tryz.ntmps100
    go_wp2
    go_cut [] (fun wx => ∃ v', ScS B b s v' (pushT x ⟨wordK (s.extract x.start en).toList, s.extract x.start en, x.start⟩) wx ∧ Fr b v v' w wx)
    case first =>
      go_region_with (first
        | (go_at_call 153; refine (wordKind_any _ _).mono ?_; rintro e w' ⟨rfl, hw⟩; have hw := hw.symm; subst hw)
        | (go_at_call 101; refine (add_any B b s v x (wordK (s.extract x.start en).toList) x.start en _ hs (HS.out.only (by repeat (first | exact Only.refl _ _ | refine Only.drew ?_ | refine Only.drewN ?_ _ | refine Only.alloc ?_ _))) (by simpa using hB) ho1 hen (by omega)).mono ?_; rintro e w1 ⟨rfl, v1, h1, h2⟩))
      all_goals
        go_wp2_with fail
        go_meet
        case rel => exact ⟨v1, h1, Fr.trans ⟨(by repeat (first | exact Only.refl _ _ | refine Only.drew ?_ | refine Only.drewN ?_ _ | refine Only.alloc ?_ _)), fun _ h => .inl h⟩ h2⟩
    case rest =>
      obtain ⟨v1, h1, h2⟩ := hcut
      have f4 := h1.1.frozen 4
      have c4 := h1.1.cell 4
      simp only [List.getElem?_toArray, List.getElem?_cons_zero, List.getElem?_cons_succ] at c4
      go_wp2
      go_end0
      refine ⟨rfl, v1, ⟨?_, ?_⟩, h2.set 4 _⟩
      · have := h1.1.set 4 (.int .i64 0)
        simpa [pushT] using this
      · exact ownsRow_only h1.2 ((Only.refl (fun k => k = b) _).set_at 4 _) h1.ne
  · have he : endW s en x = ⟨x.toks, x.rem, x.start, 0⟩ := by simp [endW, hl]
    rw [he]
    have hl' : decide ((0 : Int) < (x.letters : Int)) = false := by simp; omega
    go_enter Tryz.func100, Tryz.ntmps100
    go_wp2
    go_end0
    refine ⟨rfl, v, ⟨?_, ?_⟩, (Fr.refl _ _ _).set 4 _⟩
    · have := HS.out.1.set 4 (.int .i64 0)
      simpa using this
    · exact ownsRow_only HS.out.2 ((Only.refl (fun k => k = b) _).set_at 4 _) HS.out.ne

end Go.Proofs.YtafjaljiliddnaaGreatDoor

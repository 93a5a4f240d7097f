/- Plain facts for Cut: the head of a text, and a byte 255 laid into a good one. -/
import Derived.Test.YtgbmakpdjdigmaaGreatDoorPaG
namespace Go.Proofs.YtgbmakpdjdigmaaGreatDoor
open Go.RowKit

theorem head_take {s : ByteArray} {n : Nat} (h : headL <+: s.data.toList) (hn : n ≤ 9) : (s.extract 0 n).data.toList = headL.take n := by
  obtain ⟨t, ht⟩ := h
  have : s.data.toList.take n = headL.take n := by
    rw [← ht, List.take_append_of_le_length (by simpa using hn)]
  rw [← this]
  simp
theorem head_size {s : ByteArray} (h : headL <+: s.data.toList) : 9 ≤ s.size := by
  have := h.length_le
  simpa using this
theorem list_of (b : ByteArray) (i : Nat) (h : i < b.size) (x : UInt8) (l : List UInt8) (k : List UInt8) (e : b.data.toList = l ++ x :: k) (hi : l.length = i) : b[i]'h = x := by
  have h1 : b.data.toList[i]? = some x := by rw [e, List.getElem?_append_right (by omega)]; simp [hi]
  have h2 : i < b.data.size := h
  have h3 : b.data.toList[i]? = some (b[i]'h) := by simp [Array.getElem?_eq_getElem h2]; rfl
  rw [h1] at h3
  exact (Option.some.inj h3).symm
theorem ff_text {s : ByteArray} {i : Nat} (hi : i ≤ s.size) (hz : s.size ≤ 2400) (hr : runA 0 s.data.toList = some 0) : Refused (s.extract 0 i ++ ({ data := #[255] } : ByteArray) ++ s.extract i s.size) 2 i := by
  have e1 : (s.extract 0 i ++ ({ data := #[255] } : ByteArray) ++ s.extract i s.size).data.toList = s.data.toList.take i ++ 255 :: s.data.toList.drop i := by
    simp [List.take_of_length_le]
  generalize s.extract 0 i ++ ({ data := #[255] } : ByteArray) ++ s.extract i s.size = b at e1 ⊢
  have hl : (s.data.toList.take i).length = i := by simp; omega
  have hb : b.size = s.size + 1 := by
    have h1 : b.size = b.data.toList.length := by simp
    rw [h1, e1]; simp; omega
  have hlt : i < b.size := by omega
  obtain ⟨j, hj, _⟩ := runA_left (a := s.data.toList.take i) (b := s.data.toList.drop i) (by rw [List.take_append_drop]; exact hr)
  refine refused_ff b i j hlt (list_of b i hlt 255 _ _ e1 hl) (by omega) ?_
  rw [e1, List.take_append_of_le_length (by omega), List.take_of_length_le (by omega)]
  exact hj

end Go.Proofs.YtgbmakpdjdigmaaGreatDoor

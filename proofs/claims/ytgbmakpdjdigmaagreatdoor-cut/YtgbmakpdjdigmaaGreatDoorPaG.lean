/- A text that ends within 'fn main()' is refused as ErrParse at its end; a good text with a byte 255 in it is refused as ErrText there. -/
import Derived.Test.YtgbmakpdjdigmaaGreatDoorG08
namespace Go.Proofs.YtgbmakpdjdigmaaGreatDoor
open Go.RowKit

theorem head_parse (toks : List PT) (n : Nat) (h2 : 2 ≤ n) (h9 : n ≤ 9) (h : toks.map (fun t => (t.kind, t.place)) = kpHead n) :
    ∃ x3, (namesP toks toks.length (takeP toks toks.length 1 (takeP toks toks.length 3 ⟨0, false, 0⟩))).2 = x3 ∧ AtEnd toks toks.length x3 ∧ (failP toks toks.length x3).wrong = n ∧ (ptAt toks (toks.length - 1)).kind = 0 := by
  have hn : n = 2 ∨ n = 3 ∨ n = 4 ∨ n = 5 ∨ n = 6 ∨ n = 7 ∨ n = 8 ∨ n = 9 := by omega
  refine ⟨_, rfl, ?_⟩
  rcases toks with _ | ⟨a, _ | ⟨b, _ | ⟨c, _ | ⟨d, _ | ⟨e, _ | ⟨f, t⟩⟩⟩⟩⟩⟩
  all_goals (rcases hn with rfl | rfl | rfl | rfl | rfl | rfl | rfl | rfl)
  all_goals (simp [kpHead] at h)
  all_goals
    refine ⟨⟨?_, ?_, ?_⟩, ?_, ?_⟩
    all_goals simp [namesP, nmsR, takeP, failP, ptAt, h]

theorem refused_head (s : ByteArray) (n : Nat) (h2 : 2 ≤ n) (h9 : n ≤ 9) (hs : s.data.toList = headL.take n) : Refused s 3 n := by
  have hk := kp_cut s n h2 h9 hs
  have hz : s.size ≤ 4000 := by
    have : s.data.toList.length = (headL.take n).length := by rw [hs]
    have h1 : s.size = s.data.toList.length := by simp
    have h3 : (headL.take n).length ≤ 9 := by simp; omega
    omega
  unfold kpOf at hk
  split at hk
  · cases hk
  · rename_i x hx
    simp only [Option.some.injEq] at hk
    obtain ⟨x3, e1, e2, e3, e4⟩ := head_parse (scanEnd s x) n h2 h9 hk
    have := refused_parse s x x3 hz hx e4 e1 e2
    rwa [e3] at this
theorem refused_ff (s : ByteArray) (i j : Nat) (hi : i < s.size) (hc : s[i]'hi = 255) (hz : s.size ≤ 4000) (hg : runA 0 (s.data.toList.take i) = some j) : Refused s 2 i :=
  refused_text s i hz (scanRun_cut s i hi (broken_ff s i hi hc) i 0 s.size x0 j (by omega) (by omega) rfl (by simpa using hg))

end Go.Proofs.YtgbmakpdjdigmaaGreatDoor

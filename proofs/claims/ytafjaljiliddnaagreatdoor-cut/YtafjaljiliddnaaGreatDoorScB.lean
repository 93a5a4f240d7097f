/- Plain mathematics: the tokens (kinds and places) of a text that ends within 'fn main()'. No condition. -/
import Derived.Test.YtafjaljiliddnaaGreatDoorScA
namespace Go.Proofs.YtafjaljiliddnaaGreatDoor

abbrev x0 : Sc := ⟨[], false, 0, 0⟩
def kpOf (s : ByteArray) : Option (List (Nat × Nat)) := match scanRun s s.size 0 x0 with
  | .inl _ => none
  | .inr x => some ((scanEnd s x).map fun t => (t.kind, t.place))
abbrev headL : List UInt8 := [102, 110, 32, 109, 97, 105, 110, 40, 41]
def kpHead (n : Nat) : List (Nat × Nat) :=
  if n ≤ 3 then [(3, 0), (0, n)] else if n ≤ 7 then [(3, 0), (1, 3), (0, n)] else if n = 8 then [(3, 0), (1, 3), (10, 7), (0, 8)] else [(3, 0), (1, 3), (10, 7), (11, 8), (0, 9)]
theorem kp_head : ∀ n : Fin 8, kpOf ⟨⟨headL.take (n + 2)⟩⟩ = some (kpHead (n + 2)) := by decide +kernel
theorem kp_cut (s : ByteArray) (n : Nat) (h2 : 2 ≤ n) (h9 : n ≤ 9) (hs : s.data.toList = headL.take n) : kpOf s = some (kpHead n) := by
  have h := kp_head ⟨n - 2, by omega⟩
  simp only [show n - 2 + 2 = n from by omega] at h
  have e : s = ⟨⟨headL.take n⟩⟩ := by
    rw [← hs]
  rw [e]; exact h

end Go.Proofs.YtafjaljiliddnaaGreatDoor

/- Contracts of the smallest functions of pointsmankeep (pick, vname, fname, takes, digits, wrapped): each returns what the plain functions say; memory untouched. -/
import Derived.Test.YtgbmakpdjdigmaaGreatDoorG02
import Derived.Test.YtgbmakpdjdigmaaGreatDoorG01
namespace Go.Proofs.YtgbmakpdjdigmaaGreatDoor
open Go.RowKit

def pickN (c : Int) (n : Nat) : Nat := (if c < 0 then (-(c + 1)) % n else c % n).toNat
theorem pickN_lt (c : Int) (n : Nat) (hn : 0 < n) : pickN c n < n := by
  unfold pickN
  split
  · have := Int.emod_lt_of_pos (-(c + 1)) (by omega : (0 : Int) < n)
    have := Int.emod_nonneg (-(c + 1)) (by omega : (n : Int) ≠ 0)
    omega
  · have := Int.emod_lt_of_pos c (by omega : (0 : Int) < n)
    have := Int.emod_nonneg c (by omega : (n : Int) ≠ 0)
    omega
theorem kret_int {k : IntKind} {a b : Int} (h : a = b) : Ending.returned (.int k a) = .returned (.int k b) := by rw [h]

set_option maxHeartbeats 400000 in
theorem pick_any (c : Int) (n : Nat) (h1 : -9223372036854775808 ≤ c) (h2 : c ≤ 9223372036854775807) (hn : 0 < n) (hn' : n ≤ 100000) (w : World) :
    Calls Tryz.prog 27 #[.int .i64 c, .int .i64 n] w fun e w' => e = .returned (.int .i64 (pickN c n)) ∧ w' = w := by
  generalize hv : pickN c n = v
  have HV := hide1 hv
  clear hv
  by_cases hc : c < 0
  · have hp : 0 ≤ -(c + 1) := by omega
    go_enter Tryz.func27, Tryz.ntmps27
    go_wp2
    go_ret
    refine ⟨kret_int ?_, rfl⟩
    rw [← HV.out]
    have := Int.emod_nonneg (-(c + 1)) (by omega : (n : Int) ≠ 0)
    simp only [pickN, if_pos hc]
    rw [← Int.neg_tmod, Int.tmod_eq_emod_of_nonneg hp, Int.toNat_of_nonneg this]
  · go_enter Tryz.func27, Tryz.ntmps27
    go_wp2
    go_ret
    refine ⟨kret_int ?_, rfl⟩
    rw [← HV.out]
    have := Int.emod_nonneg c (by omega : (n : Int) ≠ 0)
    simp only [pickN]
    rw [if_neg (by omega), Int.toNat_of_nonneg this]

set_option maxHeartbeats 400000 in
theorem vname_any (v : Nat) (hv : v < 4) (w : World) :
    Calls Tryz.prog 55 #[.int .i64 v] w fun e w' => (∃ s : ByteArray, e = .returned (.string s) ∧ s.data.toList = vnA v ∧ s.size = 1) ∧ w' = w := by
  have h : v = 0 ∨ v = 1 ∨ v = 2 ∨ v = 3 := by omega
  rcases h with rfl | rfl | rfl | rfl
  all_goals
    go_enter Tryz.func55, Tryz.ntmps55
    go_wp2
    go_ret
    exact ⟨⟨_, rfl, by decide +kernel, by decide +kernel⟩, rfl⟩

set_option maxHeartbeats 400000 in
theorem fname_any (v : Nat) (hv : v < 4) (w : World) :
    Calls Tryz.prog 38 #[.int .i64 v] w fun e w' => (∃ s : ByteArray, e = .returned (.string s) ∧ s.data.toList = fnA v ∧ s.size ≤ 4) ∧ w' = w := by
  have h : v = 0 ∨ v = 1 ∨ v = 2 ∨ v = 3 := by omega
  rcases h with rfl | rfl | rfl | rfl
  all_goals
    go_enter Tryz.func38, Tryz.ntmps38
    go_wp2
    go_ret
    exact ⟨⟨_, rfl, by decide +kernel, by decide +kernel⟩, rfl⟩

set_option maxHeartbeats 400000 in
theorem digits_any (v : Nat) (hv : v < 4) (w : World) :
    Calls Tryz.prog 36 #[.int .i64 v] w fun e w' => (∃ s : ByteArray, e = .returned (.string s) ∧ s.data.toList = digA v ∧ s.size = 1) ∧ w' = w := by
  have h : v = 0 ∨ v = 1 ∨ v = 2 ∨ v = 3 := by omega
  rcases h with rfl | rfl | rfl | rfl
  all_goals
    go_enter Tryz.func36, Tryz.ntmps36
    go_wp2
    go_ret
    exact ⟨⟨_, rfl, by decide +kernel, by decide +kernel⟩, rfl⟩

set_option maxHeartbeats 400000 in
theorem takes_any (v : Nat) (hv : v < 4) (w : World) :
    Calls Tryz.prog 54 #[.int .i64 v] w fun e w' => e = .returned (.int .i64 (v % 3 : Nat)) ∧ w' = w := by
  have h : v = 0 ∨ v = 1 ∨ v = 2 ∨ v = 3 := by omega
  rcases h with rfl | rfl | rfl | rfl
  all_goals
    go_enter Tryz.func54, Tryz.ntmps54
    go_wp2
    go_ret
    exact ⟨rfl, rfl⟩

set_option maxHeartbeats 400000 in
theorem wrapped_any (t : ByteArray) (b : Int) (ht : t.size ≤ 100) (h1 : -9223372036854775808 ≤ b) (h2 : b ≤ 9223372036854775807) (w : World) :
    Calls Tryz.prog 56 #[.string t, .int .i64 b] w fun e w' => (∃ s : ByteArray, e = .returned (.string s) ∧ s.data.toList = wrA (pickN b 5) t.data.toList) ∧ w' = w := by
  have hp := pickN_lt b 5 (by omega)
  generalize hv : pickN b 5 = v at *
  have HV := hide1 hv
  clear hv
  have h : v = 0 ∨ v = 1 ∨ v = 2 ∨ v = 3 ∨ v = 4 := by omega
  rcases h with rfl | rfl | rfl | rfl | rfl
  all_goals
    go_enter Tryz.func56, Tryz.ntmps56
    go_wp2_with (go_at_call 27; refine (pick_any b 5 h1 h2 (by omega) (by omega) _).mono ?_; rw [HV.out]; rintro e w' ⟨rfl, hw⟩; have hw := hw.symm; subst hw)
    go_ret
    exact ⟨⟨_, rfl, by simp [wrA]⟩, rfl⟩

end Go.Proofs.YtgbmakpdjdigmaaGreatDoor

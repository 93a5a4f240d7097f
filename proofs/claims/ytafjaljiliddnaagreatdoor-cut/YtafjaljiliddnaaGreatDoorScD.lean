/- Contracts of strings.HasPrefix and of the program's isBroken: each returns its test; memory untouched. Texts of at most 4001 bytes. -/
import Derived.Test.YtafjaljiliddnaaGreatDoorScC
import Derived.Test.YtafjaljiliddnaaGreatDoorMem
namespace Go.Proofs.YtafjaljiliddnaaGreatDoor
open Go.RowKit

def hpB (s p : ByteArray) : Bool := decide (p.size ≤ s.size) && ((s.extract 0 p.size).toList == p.toList)

set_option maxHeartbeats 400000 in
theorem hasPrefixL_any (s p : ByteArray) (_hs : s.size ≤ 4001) (_hp : p.size ≤ 4001) (w : World) :
    Calls Tryz.prog 216 #[.string s, .string p] w fun e w' => e = .returned (.bool (hpB s p)) ∧ w' = w := by
  generalize hv : hpB s p = v
  have HV : Hid (hpB s p = v) := hv
  clear hv
  by_cases h : p.size ≤ s.size
  · cases hq : ((s.extract 0 p.size).toList == p.toList) with
    | true =>
      go_enter Tryz.func216, Tryz.ntmps216
      go_wp2
      go_ret
      exact ⟨sret_bool (by rw [← HV.out]; simp only [hpB, hq]; simp [h]), rfl⟩
    | false =>
      go_enter Tryz.func216, Tryz.ntmps216
      go_wp2
      go_ret
      exact ⟨sret_bool (by rw [← HV.out]; simp only [hpB, hq]; simp), rfl⟩
  · have h' : s.size < p.size := by omega
    go_enter Tryz.func216, Tryz.ntmps216
    go_wp2
    go_ret
    exact ⟨sret_bool (by rw [← HV.out]; simp [hpB, h]), rfl⟩

set_option maxHeartbeats 400000 in
theorem hasPrefix_any (s p : ByteArray) (hs : s.size ≤ 4001) (hp : p.size ≤ 4001) (w : World) :
    Calls Tryz.prog 189 #[.string s, .string p] w fun e w' => e = .returned (.bool (hpB s p)) ∧ w' = w := by
  go_enter Tryz.func189, Tryz.ntmps189
  go_wp2_with (go_at_call 216; refine (hasPrefixL_any _ _ hs hp _).mono ?_; rintro e w' ⟨rfl, hw⟩; have hw := hw.symm; subst hw)
  go_ret
  exact ⟨rfl, rfl⟩

theorem hpB_rest (s : ByteArray) (p : Nat) (hp : p ≤ s.size) : hpB (s.extract p s.size) { data := #[239, 191, 189] } = (decide (p + 3 ≤ s.size) && (s.extract p (p + 3)).toList == [239, 191, 189]) := by
  have e1 : (s.extract p s.size).size = s.size - p := by simp
  have e2 : ByteArray.size { data := #[239, 191, 189] } = 3 := rfl
  have e3 : ByteArray.toList { data := #[239, 191, 189] } = [239, 191, 189] := by rw [ByteArray.toList_eq]
  unfold hpB
  rw [e1, e2, e3]
  by_cases h : p + 3 ≤ s.size
  · have h1 : 3 ≤ s.size - p := by omega
    have e4 : (s.extract p s.size).extract 0 3 = s.extract p (p + 3) := by
      rw [ByteArray.extract_extract]
      congr 1
      omega
    rw [e4]
    simp [h, h1]
  · have h1 : ¬ 3 ≤ s.size - p := by omega
    simp [h, h1]

set_option maxHeartbeats 400000 in
theorem isBroken_any (s : ByteArray) (p r : Nat) (hs : s.size ≤ 4000) (hp : p ≤ s.size) (w : World) :
    Calls Tryz.prog 149 #[.string s, .int .i64 p, .int .i32 r] w fun e w' => e = .returned (.bool (brokenB s p r)) ∧ w' = w := by
  have HB := hide1 (hpB_rest s p hp)
  generalize hv : brokenB s p r = v
  have HV : Hid (brokenB s p r = v) := hv
  clear hv
  by_cases h : r = 65533
  · have h' : (((r : Nat) : Int) == 65533) = true := by simp; omega
    go_enter Tryz.func149, Tryz.ntmps149
    go_wp2_with (go_at_call 189; refine (hasPrefix_any _ _ (by simp; omega) (by decide) _).mono ?_; rintro e w' ⟨rfl, hw⟩; have hw := hw.symm; subst hw)
    go_ret
    exact ⟨sret_bool (by rw [← HV.out, HB.out]; simp [brokenB, h]), rfl⟩
  · have h' : (((r : Nat) : Int) == 65533) = false := by simp; omega
    go_enter Tryz.func149, Tryz.ntmps149
    go_wp2
    go_ret
    exact ⟨sret_bool (by rw [← HV.out]; simp [brokenB, h]), rfl⟩

end Go.Proofs.YtafjaljiliddnaaGreatDoor

/- Contracts of the program's smallest functions of package scan (isLetter, markKind, wordKind, isBroken): each returns its test; memory untouched. -/
import Derived.Test.YtafjaljiliddnaaGreatDoorProg
import Derived.Test.YtafjaljiliddnaaGreatDoorScA
import Derived.WalkKit
import Derived.WalkSpells
import Derived.WalkLawsBesides
namespace Go.Proofs.YtafjaljiliddnaaGreatDoor
open Go.RowKit

theorem sret_bool {a b : Bool} (h : a = b) : Ending.returned (.bool a) = .returned (.bool b) := by rw [h]
theorem sret_int {k : IntKind} {a b : Int} (h : a = b) : Ending.returned (.int k a) = .returned (.int k b) := by rw [h]
theorem sret_ib {a c : Int} {b d : Bool} (h : a = c) (k : b = d) : Ending.returned (.tuple #[.int .i64 a, .bool b]) = .returned (.tuple #[.int .i64 c, .bool d]) := by rw [h, k]

set_option maxHeartbeats 400000 in
theorem isLetter_any (r : Nat) (w : World) :
    Calls Tryz.prog 150 #[.int .i32 r] w fun e w' => e = .returned (.bool (letR r)) ∧ w' = w := by
  by_cases h : (r : Int) = 247
  · have h' : r = 247 := by omega
    subst h'
    go_enter Tryz.func150, Tryz.ntmps150
    go_wp2
    go_ret
    exact ⟨rfl, rfl⟩
  · have h' : (((r : Nat) : Int) == 247) = false := by simpa using h
    go_enter Tryz.func150, Tryz.ntmps150
    go_wp2
    all_goals
      go_ret
      exact ⟨sret_bool (by rw [Bool.eq_iff_iff]; simp [letR]; omega), rfl⟩

theorem markK_zero {r : Nat} (h1 : r ≠ 48) (h2 : r ≠ 49) (h3 : r ≠ 50) (h4 : r ≠ 51) (h5 : r ≠ 40) (h6 : r ≠ 41) (h7 : r ≠ 123) (h8 : r ≠ 125) (h9 : r ≠ 59) (h10 : r ≠ 61) (h11 : r ≠ 38) (h12 : r ≠ 42) (h13 : r ≠ 64) (h14 : r ≠ 46) (h15 : r ≠ 63) : markK r = 0 := by
  simp [markK, *]
set_option maxHeartbeats 400000 in
theorem markKind_any (r : Nat) (w : World) :
    Calls Tryz.prog 190 #[.int .i32 r] w fun e w' => e = .returned (.tuple #[.int .i64 (markK r), .bool (markK r != 0)]) ∧ w' = w := by
  generalize hm : markK r = m
  have HM : Hid (markK r = m) := hm
  clear hm
  go_enter Tryz.func190, Tryz.ntmps190
  go_wp2
  all_goals
    go_ret2
    refine ⟨?_, rfl⟩
    have hm := HM.out
    simp only [beq_iff_eq, beq_eq_false_iff_ne, ne_eq] at *
    first
      | (have hr : r = 48 := by omega
         subst hr; subst hm; rfl)
      | (have hr : r = 49 := by omega
         subst hr; subst hm; rfl)
      | (have hr : r = 50 := by omega
         subst hr; subst hm; rfl)
      | (have hr : r = 51 := by omega
         subst hr; subst hm; rfl)
      | (have hr : r = 40 := by omega
         subst hr; subst hm; rfl)
      | (have hr : r = 41 := by omega
         subst hr; subst hm; rfl)
      | (have hr : r = 123 := by omega
         subst hr; subst hm; rfl)
      | (have hr : r = 125 := by omega
         subst hr; subst hm; rfl)
      | (have hr : r = 59 := by omega
         subst hr; subst hm; rfl)
      | (have hr : r = 61 := by omega
         subst hr; subst hm; rfl)
      | (have hr : r = 38 := by omega
         subst hr; subst hm; rfl)
      | (have hr : r = 42 := by omega
         subst hr; subst hm; rfl)
      | (have hr : r = 64 := by omega
         subst hr; subst hm; rfl)
      | (have hr : r = 46 := by omega
         subst hr; subst hm; rfl)
      | (have hr : r = 63 := by omega
         subst hr; subst hm; rfl)
      | (have e : m = 0 := by
           rw [← hm]
           exact markK_zero (by omega) (by omega) (by omega) (by omega) (by omega) (by omega) (by omega) (by omega) (by omega) (by omega) (by omega) (by omega) (by omega) (by omega) (by omega)
         subst e; rfl)

set_option maxHeartbeats 400000 in
theorem wordKind_any (s : ByteArray) (w : World) :
    Calls Tryz.prog 153 #[.string s] w fun e w' => e = .returned (.int .i64 (wordK s.toList)) ∧ w' = w := by
  go_enter Tryz.func153, Tryz.ntmps153
  go_wp2
  all_goals
    go_ret
    refine ⟨sret_int ?_, rfl⟩
    first
      | (simp [wordK, *]; done)
      | (simp_all [wordK]; done)

end Go.Proofs.YtafjaljiliddnaaGreatDoor

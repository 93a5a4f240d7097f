/- Contracts of pointsmankeep's list and text: a statement's text is what stA says; nothing old is turned. -/
import Derived.Test.YtgbmakpdjdigmaaGreatDoorKpA
namespace Go.Proofs.YtgbmakpdjdigmaaGreatDoor
open Go.RowKit

/-- A row of numbers. -/
def IntRow (B : Nat) (w : World) (v : Value) (l : List Nat) : Prop := w.ownsRow B 3 1 v l.length (l.map fun i : Nat => Value.int .i64 (i : Int))
def preA : List Nat → Nat → List UInt8
  | _, 0 => [40]
  | l, k + 1 => preA l k ++ (if 0 < k then [32] else []) ++ vnA (l[k]?.getD 0)
theorem preA_end (l : List Nat) (h : l.length ≤ 2) : preA l l.length ++ [41] = argA l := by
  rcases l with _ | ⟨a, _ | ⟨b, _ | ⟨c, t⟩⟩⟩
  · rfl
  · simp [preA, argA]
  · simp [preA, argA]
  · simp at h
theorem preA_len (l : List Nat) : ∀ k, (preA l k).length ≤ 1 + 2 * k
  | 0 => by simp [preA]
  | k + 1 => by
    have := preA_len l k
    simp only [preA, List.length_append, vnA_len]
    split <;> simp <;> omega

set_option maxRecDepth 100000 in
set_option maxHeartbeats 1000000 in
theorem list_any' (B : Nat) (v : Value) (l : List Nat) (w : World) (h : IntRow B w v l) (hl : l.length ≤ 2) (h4 : ∀ i ∈ l, i < 4) :
    Calls Tryz.prog 103 #[v] w fun e w' => (∃ s : ByteArray, e = .returned (.string s) ∧ s.data.toList = argA l) ∧ w' = w := by
  obtain ⟨va, vl, vc, rfl⟩ := owns_form h
  have hvl := own_len h
  subst hvl
  have h32 : ByteArray.size { data := #[32] } = 1 := rfl
  go_enter Tryz.func103, Tryz.ntmps103
  go_wp2
  go_loop [3, 4] (fun t i => ∃ (k : Nat) (s : ByteArray), k ≤ l.length ∧ i = .int .i64 k ∧ t = .string s ∧ s.data.toList = preA l k ∧ s.size ≤ 1 + 2 * k) (fun _ i => l.length - (intOf i).toNat)
  case atStart => exact ⟨0, { data := #[40] }, by omega, rfl, rfl, rfl, by decide⟩
  case round =>
    obtain ⟨k, s, hk, rfl, rfl, hs, hsz⟩ := hrel
    by_cases hlt : k < l.length
    · obtain ⟨g, rfl⟩ := own_some h (by omega)
      have hc : w.cell? ⟨g, k, none⟩ = some (.int .i64 (l[k] : Nat)) := by
        have := h.cellAt (k * 1) (by omega)
        rw [Nat.mul_one] at this
        rw [this]; simp [hlt]
      have h4k := h4 l[k] (List.getElem_mem _)
      have hp : preA l (k + 1) = preA l k ++ (if 0 < k then [32] else []) ++ vnA l[k] := by simp [preA, hlt]
      have HP := hide1 hp
      clear hp
      by_cases hk0 : 0 < k
      all_goals
        go_wp2_with (go_at_call 55; refine (vname_any _ h4k _).mono ?_; rintro e w' ⟨⟨u, rfl, hu, hu1⟩, hw⟩; have hw := hw.symm; subst hw)
        go_round
        case rel => exact ⟨k + 1, _, by omega, by go_num, rfl, by rw [HP.out]; simp [hs, hu, hk0], by simp; omega⟩
        case measure => simp [intOf]; omega
    · have e : k = l.length := by omega
      subst e
      go_wp2
      go_ret
      exact ⟨⟨_, rfl, by rw [← preA_end l hl]; simp [hs]⟩, rfl⟩


set_option maxRecDepth 100000 in
set_option maxHeartbeats 2000000 in
theorem text_any (B : Nat) (v : Value) (inn num : Int) (kind p q g k : Nat) (args : List Nat) (w : World) (h : IntRow B w v args) (hl : args.length ≤ 2) (h4 : ∀ i ∈ args, i < 4) (hk : kind < 10) (hp : p < 4) (hq : q < 4) (hg : g < 4) (hf : k < 4) :
    Calls Tryz.prog 57 #[.agg #[.int .i64 inn, .int .i64 kind, .int .i64 p, .int .i64 q, .int .i64 g, .int .i64 k, .int .i64 num, v]] w fun e w' => (∃ s : ByteArray, e = .returned (.string s) ∧ s.data.toList = stA kind p q g k args) ∧ Only (fun _ => False) w w' := by
  obtain ⟨va, vl, vc, rfl⟩ := owns_form h
  have H := hide1 h
  clear h
  have hkk : kind = 0 ∨ kind = 1 ∨ kind = 2 ∨ kind = 3 ∨ kind = 4 ∨ kind = 5 ∨ kind = 6 ∨ kind = 7 ∨ kind = 8 ∨ kind = 9 := by omega
  rcases hkk with rfl | rfl | rfl | rfl | rfl | rfl | rfl | rfl | rfl | rfl
  all_goals
    go_enter Tryz.func57, Tryz.ntmps57
    go_wp2_with fail
    refine (vname_any _ hp _).mono ?_
    rintro e w' ⟨⟨sp, rfl, hsp, zsp⟩, hw⟩
    have hw := hw.symm; subst hw
    go_wp2_with fail
    refine (vname_any _ hq _).mono ?_
    rintro e w' ⟨⟨sq, rfl, hsq, zsq⟩, hw⟩
    have hw := hw.symm; subst hw
    go_wp2_with fail
    refine (fname_any _ hg _).mono ?_
    rintro e w' ⟨⟨sg, rfl, hsg, zsg⟩, hw⟩
    have hw := hw.symm; subst hw
    go_wp2_with (first
      | (go_at_call 36; refine (digits_any _ hf _).mono ?_; rintro e w' ⟨⟨sd, rfl, hsd, zsd⟩, hw⟩; have hw := hw.symm; subst hw)
      | (go_at_call 103; refine (list_any' B _ args _ (World.ownsRow.alloc H.out _) hl h4).mono ?_; rintro e w' ⟨⟨sl, rfl, hsl⟩, hw⟩; have hw := hw.symm; subst hw; have zsl : sl.size ≤ 5 := by (have := argA_len args; rw [← hsl] at this; simpa using this)))
    go_ret
    refine ⟨⟨_, rfl, ?_⟩, (by repeat (first | exact Only.refl _ _ | refine Only.drew ?_ | refine Only.drewN ?_ _ | refine Only.alloc ?_ _))⟩
    simp [stA, *]

end Go.Proofs.YtgbmakpdjdigmaaGreatDoor

/- Plain LexA: told at each. -/
import Derived.Below
import Derived.Test.YtgbmakpdjdigmaaGreatDoorProg
import Derived.WalkKit
import Derived.WalkSpells
import Derived.WalkLawsBesides

/- Plain mathematics, no program: the characters of a text (chr), as the document's UTF-8. No condition. -/
namespace Go.Proofs.YtgbmakpdjdigmaaGreatDoor

/-- The byte at a place, as a number (0 behind the end). -/
def bt (s : ByteArray) (i : Nat) : Nat := (s.data[i]?.getD 0).toNat
theorem bt_lt (s : ByteArray) (i : Nat) : bt s i < 256 := by unfold bt; exact UInt8.toNat_lt _
theorem bt_get (s : ByteArray) (i : Nat) (h : i < s.size) : bt s i = (s[i]'h).toNat := by
  unfold bt
  have h' : i < s.data.size := h
  rw [Array.getElem?_eq_getElem h']
  rfl

/-- The bytes behind the first one, m of them, taken into a character's number; none: one of them is no such byte. -/
def contN (s : ByteArray) (i : Nat) (c0 : Nat) : Nat → Option Nat
  | 0 => some c0
  | m + 1 => match contN s i c0 m with
    | none => none
    | some c => if bt s (i + 1 + m) < 128 ∨ 191 < bt s (i + 1 + m) then none else some (c * 64 + bt s (i + 1 + m) - 128)

theorem contN_none {s : ByteArray} {i c0 m : Nat} (h : contN s i c0 m = none) : ∀ k, contN s i c0 (m + k) = none
  | 0 => h
  | k + 1 => by show contN s i c0 ((m + k) + 1) = none; simp only [contN, contN_none h k]
theorem contN_none_le {s : ByteArray} {i c0 m n : Nat} (h : contN s i c0 m = none) (hn : m ≤ n) : contN s i c0 n = none := by
  have := contN_none h (n - m)
  rwa [show m + (n - m) = n from by omega] at this
theorem contN_bad {s : ByteArray} {i c0 m c : Nat} (h : contN s i c0 m = some c) (hb : bt s (i + 1 + m) < 128 ∨ 191 < bt s (i + 1 + m)) : contN s i c0 (m + 1) = none := by
  simp only [contN, h, if_pos hb]
theorem contN_good {s : ByteArray} {i c0 m c : Nat} (h : contN s i c0 m = some c) (h1 : 128 ≤ bt s (i + 1 + m)) (h2 : bt s (i + 1 + m) ≤ 191) : contN s i c0 (m + 1) = some (c * 64 + bt s (i + 1 + m) - 128) := by
  simp only [contN, h]; rw [if_neg (by omega)]
theorem contN_step {s : ByteArray} {i c0 m c : Nat} (h : contN s i c0 (m + 1) = some c) : ∃ c', contN s i c0 m = some c' ∧ 128 ≤ bt s (i + 1 + m) ∧ bt s (i + 1 + m) ≤ 191 ∧ c = c' * 64 + bt s (i + 1 + m) - 128 := by
  simp only [contN] at h
  split at h
  · cases h
  · rename_i c' hc
    split at h
    · cases h
    · rename_i hb
      simp only [Option.some.injEq] at h
      exact ⟨c', hc, by omega, by omega, h.symm⟩
theorem contN_bd' {s : ByteArray} {i c0 : Nat} : ∀ {m c : Nat}, contN s i c0 m = some c → c + 1 ≤ (c0 + 1) * 64 ^ m
  | 0, c, h => by simp only [contN, Option.some.injEq] at h; simp [h]
  | m + 1, c, h => by
    obtain ⟨c', h', h1, h2, hc⟩ := contN_step h
    have ih := contN_bd' h'
    have : (c' + 1) * 64 ≤ (c0 + 1) * 64 ^ m * 64 := Nat.mul_le_mul_right 64 ih
    rw [Nat.pow_succ, ← Nat.mul_assoc]
    omega
def chrTop : Nat := 8388607
theorem contN_bd {s : ByteArray} {i c0 m c : Nat} (h0 : c0 ≤ 31) (hm : m ≤ 3) (h : contN s i c0 m = some c) : c ≤ chrTop := by
  have h1 := contN_bd' h
  have h2 : 64 ^ m ≤ 64 ^ 3 := Nat.pow_le_pow_right (by omega) hm
  have h3 : (c0 + 1) * 64 ^ m ≤ 32 * 64 ^ 3 := Nat.mul_le_mul (by omega) h2
  unfold chrTop
  simp only [Nat.reducePow, Nat.reduceMul] at h3
  omega

/-- A character of n bytes, whose first one gives c0; least: the least number that has so many. -/
def chrN (s : ByteArray) (i n least c0 : Nat) : Nat × Nat :=
  if s.size < i + n then (0, 0) else
  match contN s i c0 (n - 1) with
  | none => (0, 0)
  | some c => if c < least ∨ 1114111 < c ∨ (55296 ≤ c ∧ c < 57344) then (0, 0) else (c, n)
theorem chrN_short {s : ByteArray} {i n least c0 : Nat} (h : s.size < i + n) : chrN s i n least c0 = (0, 0) := by simp only [chrN, if_pos h]
theorem chrN_none {s : ByteArray} {i n least c0 : Nat} (h : contN s i c0 (n - 1) = none) : chrN s i n least c0 = (0, 0) := by
  simp only [chrN, h]; split <;> rfl
theorem chrN_out {s : ByteArray} {i n least c0 c : Nat} (h : contN s i c0 (n - 1) = some c) (hb : c < least ∨ 1114111 < c ∨ (55296 ≤ c ∧ c < 57344)) : chrN s i n least c0 = (0, 0) := by
  simp only [chrN, h, if_pos hb]; split <;> rfl
theorem chrN_in {s : ByteArray} {i n least c0 c : Nat} (hs : i + n ≤ s.size) (h : contN s i c0 (n - 1) = some c) (hb : ¬ (c < least ∨ 1114111 < c ∨ (55296 ≤ c ∧ c < 57344))) : chrN s i n least c0 = (c, n) := by
  simp only [chrN, h]; rw [if_neg (by omega), if_neg hb]

/-- The character that begins at a place, and how many bytes it has; 0 bytes: none does. -/
def chr (s : ByteArray) (i : Nat) : Nat × Nat :=
  if bt s i < 128 then (bt s i, 1)
  else if 194 ≤ bt s i ∧ bt s i < 224 then chrN s i 2 128 (bt s i - 192)
  else if 224 ≤ bt s i ∧ bt s i < 240 then chrN s i 3 2048 (bt s i - 224)
  else if 240 ≤ bt s i ∧ bt s i < 245 then chrN s i 4 65536 (bt s i - 240)
  else (0, 0)

theorem chrN_le (s : ByteArray) (i n least c0 : Nat) : chrN s i n least c0 = (0, 0) ∨ ∃ c, chrN s i n least c0 = (c, n) ∧ i + n ≤ s.size ∧ least ≤ c ∧ c ≤ 1114111 := by
  unfold chrN
  split
  · exact .inl rfl
  · split
    · exact .inl rfl
    · split
      · exact .inl rfl
      · exact .inr ⟨_, rfl, by omega, by omega, by omega⟩
theorem chr_le (s : ByteArray) (i : Nat) (hi : i < s.size) : i + (chr s i).2 ≤ s.size ∧ (chr s i).2 ≤ 4 ∧ (chr s i).1 ≤ 1114111 := by
  unfold chr
  split
  · have := bt_lt s i; simp only; omega
  · split
    · rcases chrN_le s i 2 128 (bt s i - 192) with h | ⟨c, h, _⟩ <;> rw [h] <;> simp only <;> omega
    · split
      · rcases chrN_le s i 3 2048 (bt s i - 224) with h | ⟨c, h, _⟩ <;> rw [h] <;> simp only <;> omega
      · split
        · rcases chrN_le s i 4 65536 (bt s i - 240) with h | ⟨c, h, _⟩ <;> rw [h] <;> simp only <;> omega
        · simp only; omega

end Go.Proofs.YtgbmakpdjdigmaaGreatDoor

/- Contracts of the reference's smallest functions (letter, sign, keyword, char): each returns its test or its character, memory untouched; char asks for a place within the text. -/
namespace Go.Proofs.YtgbmakpdjdigmaaGreatDoor
open Go.RowKit

theorem ret_bool {a b : Bool} (h : a = b) : Ending.returned (.bool a) = .returned (.bool b) := by rw [h]
theorem ret_ii {a b c d : Int} (h : a = c) (k : b = d) : Ending.returned (.tuple #[.int .i64 a, .int .i64 b]) = .returned (.tuple #[.int .i64 c, .int .i64 d]) := by rw [h, k]

def letB (c : Int) : Bool := (decide (97 ≤ c) && decide (c ≤ 122)) || (decide (224 ≤ c) && decide (c ≤ 255) && (c != 247))
def signB (c : Int) : Bool := c == 40 || c == 41 || c == 123 || c == 125 || c == 59 || c == 61 || c == 38 || c == 42 || c == 64 || c == 46 || c == 63

set_option maxHeartbeats 400000 in
theorem letter_any (c : Int) (w : World) :
    Calls Tryz.prog 83 #[.int .i64 c] w fun e w' => e = .returned (.bool (letB c)) ∧ w' = w := by
  go_enter Tryz.func83, Tryz.ntmps83
  go_wp2
  all_goals
    go_ret
    exact ⟨ret_bool (by rw [Bool.eq_iff_iff]; simp [letB]; omega), rfl⟩

set_option maxHeartbeats 400000 in
theorem sign_any (c : Int) (w : World) :
    Calls Tryz.prog 84 #[.int .i64 c] w fun e w' => e = .returned (.bool (signB c)) ∧ w' = w := by
  go_enter Tryz.func84, Tryz.ntmps84
  go_wp2
  all_goals
    go_ret
    refine ⟨ret_bool ?_, rfl⟩
    first
      | (unfold signB; rfl)
      | (simp [signB, *]; done)

def kwB (l : List UInt8) : Bool := l == [102, 110] || l == [118, 97, 114] || l == [110, 101, 119] || l == [114, 101, 116, 117, 114, 110] || l == [105, 102] || l == [101, 108, 115, 101] || l == [119, 104, 105, 108, 101]

set_option maxHeartbeats 400000 in
theorem keyword_any (s : ByteArray) (w : World) :
    Calls Tryz.prog 87 #[.string s] w fun e w' => e = .returned (.bool (kwB s.toList)) ∧ w' = w := by
  go_enter Tryz.func87, Tryz.ntmps87
  go_wp2
  all_goals
    go_ret
    refine ⟨ret_bool ?_, rfl⟩
    first
      | (unfold kwB; rfl)
      | (simp [kwB, *]; done)

set_option maxRecDepth 100000 in
set_option maxHeartbeats 400000 in
theorem char_ascii (s : ByteArray) (i : Nat) (hi : i < s.size) (_hs : s.size ≤ 4000) (hc : bt s i < 128) (w : World) :
    Calls Tryz.prog 82 #[.string s, .int .i64 i] w fun e w' => e = .returned (.tuple #[.int .i64 (chr s i).1, .int .i64 (chr s i).2]) ∧ w' = w := by
  have hx : chr s i = (bt s i, 1) := by simp only [chr, if_pos hc]
  have hb := bt_get s i hi
  rw [hx]
  clear hx
  rw [hb] at hc ⊢
  clear hb
  go_enter Tryz.func82, Tryz.ntmps82
  go_wp2
  go_ret2
  exact ⟨rfl, rfl⟩

set_option maxRecDepth 100000 in
set_option maxHeartbeats 400000 in
theorem char_odd (s : ByteArray) (i : Nat) (hi : i < s.size) (_hs : s.size ≤ 4000) (hc : 128 ≤ bt s i) (hd : bt s i < 194 ∨ 245 ≤ bt s i) (w : World) :
    Calls Tryz.prog 82 #[.string s, .int .i64 i] w fun e w' => e = .returned (.tuple #[.int .i64 (chr s i).1, .int .i64 (chr s i).2]) ∧ w' = w := by
  have hx : chr s i = (0, 0) := by
    simp only [chr]
    rw [if_neg (by omega), if_neg (by omega), if_neg (by omega), if_neg (by omega)]
  have hb := bt_get s i hi
  have hq := bt_lt s i
  rw [hx]
  clear hx
  rw [hb] at hc hd hq
  clear hb
  rcases hd with hd | hd
  all_goals
    go_enter Tryz.func82, Tryz.ntmps82
    go_wp2
    go_ret2
    exact ⟨rfl, rfl⟩

end Go.Proofs.YtgbmakpdjdigmaaGreatDoor

/- LexC LexD LexE: told at each. -/
import Derived.Test.YtgbmakpdjdigmaaGreatDoorG19

/- The reference's char, comment and word: each returns what the plain functions chr, cmt, wrd say; memory untouched; the place lies within a text of at most 4000 bytes. -/
namespace Go.Proofs.YtgbmakpdjdigmaaGreatDoor
open Go.RowKit

theorem char_any (s : ByteArray) (i : Nat) (hi : i < s.size) (hs : s.size ≤ 4000) (w : World) :
    Calls Tryz.prog 82 #[.string s, .int .i64 i] w fun e w' => e = .returned (.tuple #[.int .i64 (chr s i).1, .int .i64 (chr s i).2]) ∧ w' = w := by
  by_cases h1 : bt s i < 128
  · exact char_ascii s i hi hs h1 w
  · by_cases h2 : bt s i < 194 ∨ 245 ≤ bt s i
    · exact char_odd s i hi hs (by omega) h2 w
    · by_cases h3 : bt s i < 224
      · exact char_two s i hi hs (by omega) h3 w
      · by_cases h4 : bt s i < 240
        · exact char_three s i hi hs (by omega) h4 w
        · exact char_four s i hi hs (by omega) (by omega) w

/-- The place behind a comment that goes on at i; false: the place of a byte in it that is no character's. -/
def cmt (s : ByteArray) : Nat → Nat → Nat × Bool
  | 0, i => (i, true)
  | f + 1, i => if i < s.size ∧ bt s i ≠ 10 then (if (chr s i).2 = 0 then (i, false) else cmt s f (i + (chr s i).2)) else (i, true)
theorem cmt_end {s : ByteArray} {f i : Nat} (h : ¬ (i < s.size ∧ bt s i ≠ 10)) : cmt s f i = (i, true) := by
  cases f with
  | zero => rfl
  | succ f => simp only [cmt, if_neg h]
theorem cmt_bad {s : ByteArray} {f i : Nat} (hf : s.size - i ≤ f) (h : i < s.size) (h10 : bt s i ≠ 10) (hn : (chr s i).2 = 0) : cmt s f i = (i, false) := by
  cases f with
  | zero => omega
  | succ f => simp only [cmt, if_pos (And.intro h h10), if_pos hn]
theorem cmt_go {s : ByteArray} {f i : Nat} (hf : s.size - i ≤ f) (h : i < s.size) (h10 : bt s i ≠ 10) (hn : (chr s i).2 ≠ 0) : ∃ f', s.size - (i + (chr s i).2) ≤ f' ∧ cmt s f i = cmt s f' (i + (chr s i).2) := by
  cases f with
  | zero => omega
  | succ f => exact ⟨f, by omega, by simp only [cmt, if_pos (And.intro h h10), if_neg hn]⟩

set_option maxRecDepth 100000 in
set_option maxHeartbeats 400000 in
theorem comment_any (s : ByteArray) (i f0 : Nat) (hi : i ≤ s.size) (hs : s.size ≤ 4000) (hf : s.size - i ≤ f0) (w : World) :
    Calls Tryz.prog 85 #[.string s, .int .i64 i] w fun e w' => e = .returned (.tuple #[.int .i64 (cmt s f0 i).1, .bool (cmt s f0 i).2]) ∧ w' = w := by
  generalize hv : cmt s f0 i = v
  have HV : Hid (cmt s f0 i = v) := hv
  clear hv
  go_enter Tryz.func85, Tryz.ntmps85
  go_wp2
  go_loop [1, 6, 7] (fun j _ _ => ∃ k f : Nat, k ≤ s.size ∧ j = .int .i64 k ∧ s.size - k ≤ f ∧ cmt s f k = v) (fun j _ _ => s.size - (intOf j).toNat)
  case atStart => exact ⟨i, f0, hi, rfl, hf, HV.out⟩
  case round =>
    obtain ⟨k, f, hk, rfl, hf', hc⟩ := hrel
    have HC : Hid (cmt s f k = v) := hc
    clear hc HV
    by_cases hlt : k < s.size
    · have hbk := bt_get s k hlt
      by_cases h10 : bt s k = 10
      · have hv : v = (k, true) := by rw [← HC.out, cmt_end (by omega)]
        subst hv
        clear HC
        have h10' : (((s[k].toNat : Nat) : Int) != 10) = false := by rw [hbk] at h10; simp; omega
        clear hbk h10
        go_wp2
        go_ret2
        exact ⟨rfl, rfl⟩
      · have h10' : (((s[k].toNat : Nat) : Int) != 10) = true := by rw [hbk] at h10; simp; omega
        have hle := chr_le s k hlt
        by_cases hn : (chr s k).2 = 0
        · have hv : v = (k, false) := by rw [← HC.out, cmt_bad hf' hlt h10 hn]
          subst hv
          have hn' : (((chr s k).2 : Int) == 0) = true := by simp [hn]
          clear HC hbk h10 hn
          go_wp2_with (go_at_call 82; refine (char_any _ _ ?_ ?_ _).mono ?_; exact hlt; exact hs; rintro e w' ⟨rfl, rfl⟩)
          go_ret2
          exact ⟨rfl, rfl⟩
        · obtain ⟨f', hf1, hf2⟩ := cmt_go hf' hlt h10 hn
          have HF : Hid (cmt s f' (k + (chr s k).2) = v) := by rw [← hf2]; exact HC.out
          have hn' : (((chr s k).2 : Int) == 0) = false := by simp [hn]
          clear HC hbk h10 hf2
          go_wp2_with (go_at_call 82; refine (char_any _ _ ?_ ?_ _).mono ?_; exact hlt; exact hs; rintro e w' ⟨rfl, rfl⟩)
          go_round
          case rel => exact ⟨k + (chr s k).2, f', by omega, by go_num, hf1, HF.out⟩
          case measure => simp [intOf]; omega
    · have hv : v = (k, true) := by rw [← HC.out, cmt_end (by omega)]
      subst hv
      clear HC
      go_wp2
      go_ret2
      exact ⟨rfl, rfl⟩

end Go.Proofs.YtgbmakpdjdigmaaGreatDoor

/- The reference's word: it returns what the plain function wrd says; memory untouched; the place lies within a text of at most 4000 bytes. -/
namespace Go.Proofs.YtgbmakpdjdigmaaGreatDoor
open Go.RowKit

/-- The place behind the letters that go on at i, k of them taken before; how many in all. -/
def wrd (s : ByteArray) : Nat → Nat → Nat → Nat × Nat
  | 0, i, k => (i, k)
  | f + 1, i, k => if i < s.size ∧ (chr s i).2 ≠ 0 ∧ letB (chr s i).1 = true then wrd s f (i + (chr s i).2) (k + 1) else (i, k)
theorem wrd_end {s : ByteArray} {f i k : Nat} (h : ¬ (i < s.size ∧ (chr s i).2 ≠ 0 ∧ letB (chr s i).1 = true)) : wrd s f i k = (i, k) := by
  cases f with
  | zero => rfl
  | succ f => simp only [wrd, if_neg h]
theorem wrd_go {s : ByteArray} {f i k : Nat} (hf : s.size - i ≤ f) (h : i < s.size) (hn : (chr s i).2 ≠ 0) (hl : letB (chr s i).1 = true) : ∃ f', s.size - (i + (chr s i).2) ≤ f' ∧ wrd s f i k = wrd s f' (i + (chr s i).2) (k + 1) := by
  cases f with
  | zero => omega
  | succ f => exact ⟨f, by omega, by simp only [wrd]; rw [if_pos ⟨h, hn, hl⟩]⟩
theorem wrd_le (s : ByteArray) : ∀ (f i k : Nat), i ≤ s.size → i ≤ (wrd s f i k).1 ∧ (wrd s f i k).1 ≤ s.size ∧ k ≤ (wrd s f i k).2 ∧ (wrd s f i k).2 + i ≤ k + (wrd s f i k).1
  | 0, i, k, h => by simp only [wrd]; omega
  | f + 1, i, k, h => by
    simp only [wrd]
    split
    · rename_i hc
      have h1 := chr_le s i hc.1
      have h2 := wrd_le s f (i + (chr s i).2) (k + 1) (by omega)
      have h3 := hc.2.1
      omega
    · simp only; omega
theorem cmt_le (s : ByteArray) : ∀ (f i : Nat), i ≤ s.size → i ≤ (cmt s f i).1 ∧ (cmt s f i).1 ≤ s.size
  | 0, i, h => by simp only [cmt]; omega
  | f + 1, i, h => by
    simp only [cmt]
    split
    · rename_i hc
      have h1 := chr_le s i hc.1
      split
      · simp only; omega
      · have h2 := cmt_le s f (i + (chr s i).2) (by omega)
        omega
    · simp only; omega

set_option maxRecDepth 100000 in
set_option maxHeartbeats 400000 in
theorem word_any (s : ByteArray) (i f0 : Nat) (hi : i ≤ s.size) (hs : s.size ≤ 4000) (hf : s.size - i ≤ f0) (w : World) :
    Calls Tryz.prog 86 #[.string s, .int .i64 i] w fun e w' => e = .returned (.tuple #[.int .i64 (wrd s f0 i 0).1, .int .i64 (wrd s f0 i 0).2]) ∧ w' = w := by
  generalize hv : wrd s f0 i 0 = v
  have HV : Hid (wrd s f0 i 0 = v) := hv
  clear hv
  go_enter Tryz.func86, Tryz.ntmps86
  go_wp2
  go_loop [1, 6, 7, 8, 9] (fun j m _ _ _ => ∃ k f q : Nat, k ≤ s.size ∧ q ≤ k ∧ j = .int .i64 k ∧ m = .int .i64 q ∧ s.size - k ≤ f ∧ wrd s f k q = v) (fun j _ _ _ _ => s.size - (intOf j).toNat)
  case atStart => exact ⟨i, f0, 0, hi, Nat.zero_le _, rfl, rfl, hf, HV.out⟩
  case round =>
    obtain ⟨k, f, q, hk, hq, rfl, rfl, hf', hc⟩ := hrel
    have HC : Hid (wrd s f k q = v) := hc
    clear hc HV
    by_cases hlt : k < s.size
    · have hle := chr_le s k hlt
      by_cases hn : (chr s k).2 = 0
      · have hv : v = (k, q) := by rw [← HC.out, wrd_end (by omega)]
        subst hv
        have hn' : (((chr s k).2 : Int) == 0) = true := by simp [hn]
        clear HC hn
        go_wp2_with (first | (go_at_call 82; refine (char_any _ _ ?_ ?_ _).mono ?_; exact hlt; exact hs; rintro e w' ⟨rfl, rfl⟩) | (go_at_call 83; refine (letter_any _ _).mono ?_; rintro e w' ⟨rfl, rfl⟩))
        go_ret2
        exact ⟨rfl, rfl⟩
      · have hn' : (((chr s k).2 : Int) == 0) = false := by simp [hn]
        by_cases hl : letB (chr s k).1 = true
        · obtain ⟨f', hf1, hf2⟩ := wrd_go (k := q) hf' hlt hn hl
          have HF : Hid (wrd s f' (k + (chr s k).2) (q + 1) = v) := by rw [← hf2]; exact HC.out
          clear HC hf2
          go_wp2_with (first | (go_at_call 82; refine (char_any _ _ ?_ ?_ _).mono ?_; exact hlt; exact hs; rintro e w' ⟨rfl, rfl⟩) | (go_at_call 83; refine (letter_any _ _).mono ?_; rintro e w' ⟨rfl, rfl⟩))
          go_round
          case rel => exact ⟨k + (chr s k).2, f', q + 1, by omega, by omega, by go_num, by go_num, hf1, HF.out⟩
          case measure => simp [intOf]; omega
        · have hv : v = (k, q) := by rw [← HC.out, wrd_end (fun h => hl h.2.2)]
          subst hv
          have hl' : letB (chr s k).1 = false := by simpa using hl
          clear HC hl
          go_wp2_with (first | (go_at_call 82; refine (char_any _ _ ?_ ?_ _).mono ?_; exact hlt; exact hs; rintro e w' ⟨rfl, rfl⟩) | (go_at_call 83; refine (letter_any _ _).mono ?_; rintro e w' ⟨rfl, rfl⟩))
          go_ret2
          exact ⟨rfl, rfl⟩
    · have hv : v = (k, q) := by rw [← HC.out, wrd_end (by omega)]
      subst hv
      clear HC
      go_wp2
      go_ret2
      exact ⟨rfl, rfl⟩

end Go.Proofs.YtgbmakpdjdigmaaGreatDoor

/- Plain mathematics: the tokens of a text (lexStep, lexRun), after the document; that each step goes on, within the text. No condition. -/
namespace Go.Proofs.YtgbmakpdjdigmaaGreatDoor
open Go.RowKit

/-- A token: its bytes, where they begin, its sort (1 a name, 2 a keyword, 3 a digit, 4 a sign, 0 the end). -/
structure Tk where
  text : ByteArray
  pos : Nat
  sort : Nat
def tkCells (t : Tk) : List Value := [.string t.text, .int .i64 t.pos, .int .i64 t.sort]
def tksCells (l : List Tk) : List Value := l.flatMap tkCells
theorem tksCells_snoc (l : List Tk) (t : Tk) : tksCells (l ++ [t]) = tksCells l ++ tkCells t := by simp [tksCells]
theorem tksCells_length (l : List Tk) : (tksCells l).length = l.length * 3 := by
  induction l with
  | nil => rfl
  | cons t l ih => simp only [tksCells, List.flatMap_cons, List.length_append, List.length_cons] at ih ⊢; rw [ih]; simp [tkCells]; omega

/-- At a place of a text: the place at which no token begins; or the token, if there is one, and the place behind it. -/
def lexStep (s : ByteArray) (i : Nat) : Nat ⊕ (Option Tk × Nat) :=
  if (chr s i).2 = 0 then .inl i
  else if (chr s i).1 = 32 ∨ (chr s i).1 = 9 ∨ (chr s i).1 = 10 then .inr (none, i + 1)
  else if (chr s i).1 = 35 then (if (cmt s s.size i).2 = true then .inr (none, (cmt s s.size i).1) else .inl (cmt s s.size i).1)
  else if letB (chr s i).1 = true then
    (if kwB (s.extract i (wrd s s.size i 0).1).toList = true then .inr (some ⟨s.extract i (wrd s s.size i 0).1, i, 2⟩, (wrd s s.size i 0).1)
     else if 8 < (wrd s s.size i 0).2 then .inl i else .inr (some ⟨s.extract i (wrd s s.size i 0).1, i, 1⟩, (wrd s s.size i 0).1))
  else if 48 ≤ (chr s i).1 ∧ (chr s i).1 ≤ 51 then .inr (some ⟨s.extract i (i + 1), i, 3⟩, i + 1)
  else if signB (chr s i).1 = true then .inr (some ⟨s.extract i (i + 1), i, 4⟩, i + 1)
  else .inl i

theorem cmt_first {s : ByteArray} {i : Nat} (h : i < s.size) (hn : (chr s i).2 ≠ 0) (h10 : bt s i ≠ 10) : i < (cmt s s.size i).1 := by
  obtain ⟨f', _, h2⟩ := cmt_go (f := s.size) (by omega) h h10 hn
  have hle := chr_le s i h
  have := cmt_le s f' (i + (chr s i).2) (by omega)
  rw [h2]; omega
theorem wrd_first {s : ByteArray} {i : Nat} (h : i < s.size) (hn : (chr s i).2 ≠ 0) (hl : letB (chr s i).1 = true) : i < (wrd s s.size i 0).1 := by
  obtain ⟨f', _, h2⟩ := wrd_go (f := s.size) (k := 0) (by omega) h hn hl
  have hle := chr_le s i h
  have := wrd_le s f' (i + (chr s i).2) (0 + 1) (by omega)
  rw [h2]; omega
theorem chr_low {s : ByteArray} {i : Nat} (hn : (chr s i).2 ≠ 0) (hc : (chr s i).1 < 128) : bt s i = (chr s i).1 ∧ (chr s i).2 = 1 := by
  unfold chr at hn hc ⊢
  split
  · exact ⟨rfl, rfl⟩
  · rename_i h1
    rw [if_neg h1] at hn hc
    split
    · rename_i h2
      rw [if_pos h2] at hn hc
      rcases chrN_le s i 2 128 (bt s i - 192) with h | ⟨c, h, _⟩ <;> rw [h] at hn hc <;> simp only at hn hc <;> omega
    · rename_i h2
      rw [if_neg h2] at hn hc
      split
      · rename_i h3
        rw [if_pos h3] at hn hc
        rcases chrN_le s i 3 2048 (bt s i - 224) with h | ⟨c, h, _⟩ <;> rw [h] at hn hc <;> simp only at hn hc <;> omega
      · rename_i h3
        rw [if_neg h3] at hn hc
        split
        · rename_i h4
          rw [if_pos h4] at hn hc
          rcases chrN_le s i 4 65536 (bt s i - 240) with h | ⟨c, h, _⟩ <;> rw [h] at hn hc <;> simp only at hn hc <;> omega
        · rename_i h4
          rw [if_neg h4] at hn
          simp only at hn
          omega

theorem lexStep_adv {s : ByteArray} {i j : Nat} {t : Option Tk} (hi : i < s.size) (h : lexStep s i = .inr (t, j)) : i < j ∧ j ≤ s.size := by
  unfold lexStep at h
  split at h
  · cases h
  · rename_i hn
    have hle := chr_le s i hi
    split at h
    · simp only [Sum.inr.injEq, Prod.mk.injEq] at h; omega
    · split at h
      · rename_i h35
        have hlow := chr_low hn (by omega)
        split at h
        · simp only [Sum.inr.injEq, Prod.mk.injEq] at h
          have h1 := cmt_first hi hn (by omega)
          have h2 := cmt_le s s.size i (by omega)
          omega
        · cases h
      · split at h
        · rename_i hl
          have h1 := wrd_first hi hn hl
          have h2 := wrd_le s s.size i 0 (by omega)
          split at h
          · simp only [Sum.inr.injEq, Prod.mk.injEq] at h; omega
          · split at h
            · cases h
            · simp only [Sum.inr.injEq, Prod.mk.injEq] at h; omega
        · split at h
          · simp only [Sum.inr.injEq, Prod.mk.injEq] at h; omega
          · split at h
            · simp only [Sum.inr.injEq, Prod.mk.injEq] at h; omega
            · cases h

/-- The tokens from a place on, behind those that are there; or the place at which none begins. -/
def lexRun (s : ByteArray) : Nat → Nat → List Tk → Nat ⊕ List Tk
  | 0, _, acc => .inr acc
  | f + 1, i, acc => if i < s.size then
      (match lexStep s i with
      | .inl p => .inl p
      | .inr (t, j) => lexRun s f j (acc ++ t.toList)) else .inr acc
theorem lexRun_end {s : ByteArray} {f i : Nat} {acc : List Tk} (h : ¬ i < s.size) : lexRun s f i acc = .inr acc := by
  cases f with
  | zero => rfl
  | succ f => simp only [lexRun, if_neg h]
theorem lexRun_bad {s : ByteArray} {f i p : Nat} {acc : List Tk} (hf : s.size - i ≤ f) (h : i < s.size) (hl : lexStep s i = .inl p) : lexRun s f i acc = .inl p := by
  cases f with
  | zero => omega
  | succ f => simp only [lexRun, if_pos h, hl]
theorem lexRun_go {s : ByteArray} {f i j : Nat} {acc : List Tk} {t : Option Tk} (hf : s.size - i ≤ f) (h : i < s.size) (hl : lexStep s i = .inr (t, j)) :
    ∃ f', s.size - j ≤ f' ∧ lexRun s f i acc = lexRun s f' j (acc ++ t.toList) := by
  have ha := lexStep_adv h hl
  cases f with
  | zero => omega
  | succ f => exact ⟨f, by omega, by simp only [lexRun, if_pos h, hl]⟩

end Go.Proofs.YtgbmakpdjdigmaaGreatDoor

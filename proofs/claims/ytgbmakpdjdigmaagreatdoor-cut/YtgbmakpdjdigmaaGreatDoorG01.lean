/- CtP ScA ScB ScJ: told at each. -/
import Derived.Below
import Derived.Laws.RangeAny
import Derived.Laws.Strings

/- Plain mathematics for Cut: texts that are good (runA: letters a to z, at most 8 behind one another, marks, digits 0 to 3, blanks, ends of line), and the texts of made statements. No condition. -/
namespace Go.Proofs.YtgbmakpdjdigmaaGreatDoor

def letC (c : UInt8) : Bool := 97 ≤ c && c ≤ 122
def markC (c : UInt8) : Bool := c == 40 || c == 41 || c == 123 || c == 125 || c == 59 || c == 61 || c == 38 || c == 42 || c == 64 || c == 46 || c == 63
def blankC (c : UInt8) : Bool := c == 32 || c == 10
def digC (c : UInt8) : Bool := c == 48 || c == 49 || c == 50 || c == 51
/-- How many letters stand at the end, if all that was read is good; k: how many stand ahead. -/
def runA : Nat → List UInt8 → Option Nat
  | k, [] => some k
  | k, c :: t => if letC c then (if k < 8 then runA (k + 1) t else none) else if markC c || blankC c || digC c then runA 0 t else none

theorem runA_append (a b : List UInt8) : ∀ k, runA k (a ++ b) = (runA k a).bind (fun j => runA j b) := by
  induction a with
  | nil => intro k; rfl
  | cons c t ih =>
    intro k
    simp only [List.cons_append, runA]
    split
    · split
      · exact ih _
      · rfl
    · split
      · exact ih _
      · rfl
theorem runA_left {a b : List UInt8} {k j : Nat} (h : runA k (a ++ b) = some j) : ∃ i, runA k a = some i ∧ runA i b = some j := by
  rw [runA_append] at h
  cases hx : runA k a with
  | none => rw [hx] at h; cases h
  | some i => rw [hx] at h; exact ⟨i, rfl, h⟩
theorem runA_join {a b : List UInt8} {k i j : Nat} (h : runA k a = some i) (h' : runA i b = some j) : runA k (a ++ b) = some j := by
  rw [runA_append, h]; exact h'

/-- Variables' and functions' names. -/
def vnA : Nat → List UInt8
  | 0 => [97]
  | 1 => [98]
  | 2 => [99]
  | _ => [100]
def fnA : Nat → List UInt8
  | 0 => [109, 97, 105, 110]
  | 1 => [120]
  | 2 => [121]
  | _ => [122]
def digA (n : Nat) : List UInt8 := match n with
  | 0 => [48]
  | 1 => [49]
  | 2 => [50]
  | _ => [51]
/-- Arguments within parentheses. -/
def argA : List Nat → List UInt8
  | [] => [40, 41]
  | [a] => [40] ++ vnA a ++ [41]
  | a :: b :: _ => [40] ++ vnA a ++ [32] ++ vnA b ++ [41]
/-- A statement's text. -/
def stA (kind p q g k : Nat) (args : List Nat) : List UInt8 :=
  match kind with
  | 0 => vnA p ++ [32, 61, 32, 110, 101, 119, 59]
  | 1 => vnA p ++ [32, 61, 32, 38] ++ vnA q ++ [59]
  | 2 => vnA p ++ [32, 61, 32, 64] ++ fnA g ++ [59]
  | 3 => vnA p ++ [32, 61, 32] ++ vnA q ++ [59]
  | 4 => vnA p ++ [32, 61, 32, 38] ++ vnA q ++ [46] ++ digA k ++ [59]
  | 5 => vnA p ++ [32, 61, 32, 42] ++ vnA q ++ [59]
  | 6 => [42] ++ vnA p ++ [32, 61, 32] ++ vnA q ++ [59]
  | 7 => vnA p ++ [32, 61, 32] ++ fnA g ++ argA args ++ [59]
  | 8 => vnA p ++ [32, 61, 32, 40, 42] ++ vnA q ++ [41] ++ argA args ++ [59]
  | _ => [114, 101, 116, 117, 114, 110, 32] ++ vnA q ++ [59]

theorem vnA_run (v k : Nat) (h : k < 8) : runA k (vnA v) = some (k + 1) := by
  unfold vnA; split <;> simp [runA, letC, h]
theorem fnA_run (f : Nat) : ∃ j, j ≤ 4 ∧ runA 0 (fnA f) = some j := by
  unfold fnA
  split
  · exact ⟨4, by omega, rfl⟩
  all_goals exact ⟨1, by omega, rfl⟩
theorem digA_run (n k : Nat) : runA k (digA n) = some 0 := by
  unfold digA; split <;> rfl
theorem argA_run (l : List Nat) (k : Nat) : runA k (argA l) = some 0 := by
  have hv := vnA_run
  unfold argA
  split
  · rfl
  · exact runA_join (runA_join (i := 0) rfl (vnA_run _ 0 (by omega))) rfl
  · exact runA_join (runA_join (runA_join (runA_join (i := 0) rfl (vnA_run _ 0 (by omega))) (j := 0) rfl) (vnA_run _ 0 (by omega))) rfl
theorem stA_run (kind p q g k : Nat) (args : List Nat) : runA 0 (stA kind p q g k args) = some 0 := by
  have vv := fun v => vnA_run v 0 (by omega)
  obtain ⟨j, _, hf⟩ := fnA_run g
  unfold stA
  split
  · exact runA_join (vv p) rfl
  · exact runA_join (runA_join (runA_join (vv p) (j := 0) rfl) (vv q)) rfl
  · exact runA_join (runA_join (runA_join (vv p) (j := 0) rfl) hf) rfl
  · exact runA_join (runA_join (runA_join (vv p) (j := 0) rfl) (vv q)) rfl
  · exact runA_join (runA_join (runA_join (runA_join (runA_join (vv p) (j := 0) rfl) (vv q)) (j := 0) rfl) (digA_run _ _)) rfl
  · exact runA_join (runA_join (runA_join (vv p) (j := 0) rfl) (vv q)) rfl
  · exact runA_join (runA_join (runA_join (runA_join (i := 0) rfl (vv p)) (j := 0) rfl) (vv q)) rfl
  · exact runA_join (runA_join (runA_join (runA_join (vv p) (j := 0) rfl) hf) (argA_run _ _)) rfl
  · exact runA_join (runA_join (runA_join (runA_join (runA_join (vv p) (j := 0) rfl) (vv q)) (j := 0) rfl) (argA_run _ _)) rfl
  · exact runA_join (runA_join (i := 0) rfl (vv q)) rfl
theorem vnA_len (v : Nat) : (vnA v).length = 1 := by unfold vnA; split <;> rfl
theorem fnA_len (v : Nat) : (fnA v).length ≤ 4 := by unfold fnA; split <;> simp
theorem digA_len (v : Nat) : (digA v).length = 1 := by unfold digA; split <;> rfl
theorem argA_len (l : List Nat) : (argA l).length ≤ 5 := by unfold argA; split <;> simp [vnA_len]
theorem stA_len (kind p q g k : Nat) (args : List Nat) : (stA kind p q g k args).length ≤ 16 := by
  have h1 := fnA_len g
  have h2 := argA_len args
  unfold stA
  split <;> simp only [List.length_append, vnA_len, digA_len, List.length_cons, List.length_nil] <;> omega

/-- A statement's text within a block or none. -/
def wrA (b : Nat) (t : List UInt8) : List UInt8 :=
  match b with
  | 1 => [105, 102, 32, 63, 32, 123, 32] ++ t ++ [32, 125]
  | 2 => [105, 102, 32, 63, 32, 123, 32, 125, 32, 101, 108, 115, 101, 32, 123, 32] ++ t ++ [32, 125]
  | 3 => [119, 104, 105, 108, 101, 32, 63, 32, 123, 32] ++ t ++ [32, 125]
  | _ => t
theorem wrA_run (b : Nat) (t : List UInt8) (h : runA 0 t = some 0) : runA 0 (wrA b t) = some 0 := by
  unfold wrA
  split
  · exact runA_join (runA_join (i := 0) rfl h) rfl
  · exact runA_join (runA_join (i := 0) rfl h) rfl
  · exact runA_join (runA_join (i := 0) rfl h) rfl
  · exact h
theorem wrA_len (b : Nat) (t : List UInt8) : (wrA b t).length ≤ t.length + 18 := by
  unfold wrA
  split <;> simp <;> omega

end Go.Proofs.YtgbmakpdjdigmaaGreatDoor

/- Plain mathematics: the program's scanner, character by character (takeS, scanRun), over the model's own reading of characters. No condition. -/
namespace Go.Proofs.YtgbmakpdjdigmaaGreatDoor

/-- A token of the program's. -/
structure PT where
  kind : Nat
  text : ByteArray
  place : Nat
/-- The scanner between two characters. -/
structure Sc where
  toks : List PT
  rem : Bool
  start : Nat
  letters : Nat
def wordK (l : List UInt8) : Nat :=
  if l = [102, 110] then 3 else if l = [118, 97, 114] then 4 else if l = [110, 101, 119] then 5 else if l = [114, 101, 116, 117, 114, 110] then 6 else if l = [105, 102] then 7 else if l = [101, 108, 115, 101] then 8 else if l = [119, 104, 105, 108, 101] then 9 else 1
def markK (r : Nat) : Nat :=
  if r = 48 ∨ r = 49 ∨ r = 50 ∨ r = 51 then 2 else if r = 40 then 10 else if r = 41 then 11 else if r = 123 then 12 else if r = 125 then 13 else if r = 59 then 14 else if r = 61 then 15 else if r = 38 then 16 else if r = 42 then 17 else if r = 64 then 18 else if r = 46 then 19 else if r = 63 then 20 else 0
def letR (r : Nat) : Bool := (decide (97 ≤ r) && decide (r ≤ 122)) || (decide (224 ≤ r) && decide (r ≤ 255) && (r != 247))
/-- A byte that is no character's: the reader says U+FFFD, and that is not written there. -/
def brokenB (s : ByteArray) (p r : Nat) : Bool := r == 65533 && !(decide (p + 3 ≤ s.size) && (s.extract p (p + 3)).toList == [239, 191, 189])
def endW (s : ByteArray) (e : Nat) (x : Sc) : Sc :=
  if 0 < x.letters then ⟨x.toks ++ [⟨wordK (s.extract x.start e).toList, s.extract x.start e, x.start⟩], x.rem, x.start, 0⟩ else ⟨x.toks, x.rem, x.start, 0⟩
def takeL (p : Nat) (x : Sc) : Sc := ⟨x.toks, x.rem, if x.letters = 0 then p else x.start, x.letters + 1⟩
def takeM (s : ByteArray) (p r : Nat) (x : Sc) : Sc × Nat × Bool :=
  if r = 32 ∨ r = 9 ∨ r = 10 then (x, 0, true)
  else if r = 35 then (⟨x.toks, true, x.start, x.letters⟩, 0, true)
  else if markK r = 0 then (x, p, false)
  else (⟨x.toks ++ [⟨markK r, s.extract p (p + 1), p⟩], x.rem, x.start, x.letters⟩, 0, true)
def takeS (s : ByteArray) (p r : Nat) (x : Sc) : Sc × Nat × Bool :=
  if brokenB s p r then (x, p, false)
  else if x.rem then (⟨x.toks, r != 10, x.start, x.letters⟩, 0, true)
  else if letR r then (if 8 < x.letters + 1 then (takeL p x, (takeL p x).start, false) else (takeL p x, 0, true))
  else takeM s p r (endW s p x)
def scanRun (s : ByteArray) : Nat → Nat → Sc → Nat ⊕ Sc
  | 0, _, x => .inr x
  | f + 1, p, x => if p < s.size then
      (if (takeS s p (Utf8.decode s p).1 x).2.2 then scanRun s f (p + (Utf8.decode s p).2) (takeS s p (Utf8.decode s p).1 x).1
       else .inl (takeS s p (Utf8.decode s p).1 x).2.1)
    else .inr x
def scanEnd (s : ByteArray) (x : Sc) : List PT := (endW s s.size x).toks ++ [⟨0, s.extract s.size s.size, s.size⟩]

theorem scanRun_end {s : ByteArray} {f p : Nat} {x : Sc} (h : ¬ p < s.size) : scanRun s f p x = .inr x := by
  cases f with
  | zero => rfl
  | succ f => simp only [scanRun, if_neg h]
theorem scanRun_bad {s : ByteArray} {f p : Nat} {x : Sc} (hf : s.size - p ≤ f) (h : p < s.size) (ht : (takeS s p (Utf8.decode s p).1 x).2.2 = false) : scanRun s f p x = .inl (takeS s p (Utf8.decode s p).1 x).2.1 := by
  cases f with
  | zero => omega
  | succ f => simp [scanRun, if_pos h, ht]
theorem decode_pos (s : ByteArray) (p : Nat) (h : p < s.size) : 1 ≤ (Utf8.decode s p).2 := by
  by_cases ha : (s[p]'h).toNat < 128
  · rw [decode_ascii s p h ha]; exact Nat.le_refl _
  · exact (decode_high s p h (by omega)).2
theorem scanRun_go {s : ByteArray} {f p : Nat} {x : Sc} (hf : s.size - p ≤ f) (h : p < s.size) (ht : (takeS s p (Utf8.decode s p).1 x).2.2 = true) :
    ∃ f', s.size - (p + (Utf8.decode s p).2) ≤ f' ∧ scanRun s f p x = scanRun s f' (p + (Utf8.decode s p).2) (takeS s p (Utf8.decode s p).1 x).1 := by
  have hd := decode_pos s p h
  cases f with
  | zero => omega
  | succ f => exact ⟨f, by omega, by simp [scanRun, if_pos h, ht]⟩
/-- What holds between two characters, at place p. -/
structure ScOk (p : Nat) (x : Sc) : Prop where
  start : x.start ≤ p
  letters : x.letters ≤ 8
  many : x.toks.length + x.letters ≤ p
theorem ScOk.more {p q : Nat} {x : Sc} (h : ScOk p x) (hq : p ≤ q) : ScOk q x := ⟨Nat.le_trans h.start hq, h.letters, Nat.le_trans h.many hq⟩
theorem ScOk.endW {s : ByteArray} {p : Nat} {x : Sc} (h : ScOk p x) : ScOk p (endW s p x) := by
  have h1 := h.start
  have h2 := h.many
  unfold Proofs.YtgbmakpdjdigmaaGreatDoor.endW
  split
  · exact ⟨h1, by simp, by simp; omega⟩
  · exact ⟨h1, by simp, by simp; omega⟩
theorem endW_letters (s : ByteArray) (p : Nat) (x : Sc) : (endW s p x).letters = 0 := by unfold endW; split <;> rfl
theorem endW_rem (s : ByteArray) (p : Nat) (x : Sc) : (endW s p x).rem = x.rem := by unfold endW; split <;> rfl
theorem endW_start (s : ByteArray) (p : Nat) (x : Sc) : (endW s p x).start = x.start := by unfold endW; split <;> rfl
theorem takeS_ok {s : ByteArray} {p r : Nat} {x : Sc} (h : ScOk p x) (ht : (takeS s p r x).2.2 = true) : ScOk (p + 1) (takeS s p r x).1 := by
  have h1 := h.start
  have h2 := h.many
  have h3 := h.letters
  unfold takeS at ht ⊢
  split
  · rename_i hb; simp [hb] at ht
  · rename_i hb
    simp only [hb] at ht
    split
    · exact ⟨by simp; omega, by simp; omega, by simp; omega⟩
    · rename_i hr
      simp only [hr] at ht
      split
      · rename_i hl
        simp only [hl, if_true] at ht
        split
        · rename_i h8; simp [h8] at ht
        · exact ⟨by simp only [takeL]; split <;> omega, by simp only [takeL]; omega, by simp only [takeL]; omega⟩
      · have he := h.endW (s := s)
        have e1 := he.start
        have e2 := he.many
        have e3 := endW_letters s p x
        unfold takeM
        split
        · exact he.more (by omega)
        · split
          · exact ⟨by simp; omega, by simp [e3], by simp; omega⟩
          · split
            · exact he.more (by omega)
            · exact ⟨by simp; omega, by simp [e3], by simp; omega⟩


theorem markK_good {c : UInt8} (hm : (markC c || blankC c || digC c) = true) : letR c.toNat = false ∧ ((c.toNat = 32 ∨ c.toNat = 9 ∨ c.toNat = 10) ∨ markK c.toNat ≠ 0) ∧ c.toNat ≠ 35 := by
  revert hm
  have : ∀ n : Fin 256, (markC (UInt8.ofNat n) || blankC (UInt8.ofNat n) || digC (UInt8.ofNat n)) = true → letR n = false ∧ (((n : Nat) = 32 ∨ (n : Nat) = 9 ∨ (n : Nat) = 10) ∨ markK n ≠ 0) ∧ (n : Nat) ≠ 35 := by decide +kernel
  have h := this ⟨c.toNat, c.toNat_lt⟩
  simpa using h
theorem letC_good {c : UInt8} (hm : letC c = true) : letR c.toNat = true := by
  revert hm
  have : ∀ n : Fin 256, letC (UInt8.ofNat n) = true → letR n = true := by decide +kernel
  have h := this ⟨c.toNat, c.toNat_lt⟩
  simpa using h
theorem low_good {c : UInt8} (hm : letC c = true ∨ (markC c || blankC c || digC c) = true) : c.toNat < 128 := by
  revert hm
  have : ∀ n : Fin 256, letC (UInt8.ofNat n) = true ∨ (markC (UInt8.ofNat n) || blankC (UInt8.ofNat n) || digC (UInt8.ofNat n)) = true → (n : Nat) < 128 := by decide +kernel
  have h := this ⟨c.toNat, c.toNat_lt⟩
  simpa using h
theorem broken_low (s : ByteArray) (p r : Nat) (h : r < 65533) : brokenB s p r = false := by
  have : (r == 65533) = false := by simp; omega
  simp [brokenB, this]
theorem broken_ff (s : ByteArray) (p : Nat) (h : p < s.size) (hc : s[p]'h = 255) : brokenB s p (Utf8.decode s p).1 = true := by
  have hd : (Utf8.decode s p).1 = 65533 := by simp only [Utf8.decode, get_at s p h, hc]; simp [Utf8.runeError]
  rw [hd]
  have hx : ∀ t, (s.extract p (p + 3)).toList ≠ 239 :: t := by
    intro t e
    rw [ByteArray.toList_eq] at e
    have e0 : (s.extract p (p + 3)).data.toList[0]? = some 239 := by rw [e]; rfl
    have hz : p < s.data.size := h
    simp [ByteArray.data_extract, Array.getElem?_eq_getElem hz] at e0
    have e1 : s[p]'h = 239 := by
      rw [← e0]; rfl
    rw [hc] at e1
    cases e1
  have : ((s.extract p (p + 3)).toList == [239, 191, 189]) = false := by simp [hx]
  simp [brokenB, this]
/-- A good text up to a byte that no character begins with is refused there. -/
theorem scanRun_cut (s : ByteArray) (i : Nat) (hi : i < s.size) (hb : brokenB s i (Utf8.decode s i).1 = true) :
    ∀ (m p f : Nat) (x : Sc) (j : Nat), p + m = i → s.size - p ≤ f → x.rem = false → runA x.letters ((s.data.toList.drop p).take m) = some j → scanRun s f p x = .inl i := by
  intro m
  induction m with
  | zero =>
    intro p f x j hp hf hr _
    have e : p = i := by omega
    subst e
    have ht : takeS s p (Utf8.decode s p).1 x = (x, p, false) := by simp [takeS, hb]
    rw [scanRun_bad hf hi (by rw [ht]), ht]
  | succ m ih =>
    intro p f x j hp hf hr hg
    have hlt : p < s.size := by omega
    have hl : p < s.data.toList.length := by simpa using hlt
    rw [List.drop_eq_getElem_cons hl, List.take_succ_cons] at hg
    have hc : s.data.toList[p] = s[p]'hlt := by simp; rfl
    rw [hc] at hg
    generalize hcc : s[p]'hlt = c at *
    have go : ∀ x', (c.toNat < 128) → takeS s p c.toNat x = (x', 0, true) → x'.rem = false → runA x'.letters (List.take m (List.drop (p + 1) s.data.toList)) = some j → scanRun s f p x = .inl i := by
      intro x' hlow ht hr' hg'
      have hd : Utf8.decode s p = (c.toNat, 1) := by rw [← hcc]; exact decode_ascii s p hlt (by rw [hcc]; exact hlow)
      obtain ⟨f', hf', he⟩ := scanRun_go (x := x) hf hlt (by rw [hd, ht])
      rw [he, hd, ht]
      rw [hd] at hf'
      exact ih (p + 1) f' x' j (by omega) hf' hr' hg'
    simp only [runA] at hg
    split at hg
    · rename_i hlet
      split at hg
      · rename_i h8
        have hlow := low_good (.inl hlet)
        refine go (takeL p x) hlow ?_ (by simp [takeL, hr]) (by simpa [takeL] using hg)
        have hx : ¬ 8 < x.letters + 1 := by omega
        simp [takeS, broken_low s p c.toNat (by omega), hr, letC_good hlet, hx]
      · cases hg
    · split at hg
      · rename_i hnl hm
        have hlow := low_good (.inr hm)
        obtain ⟨m1, m2, m3⟩ := markK_good hm
        have e1 : takeS s p c.toNat x = takeM s p c.toNat (endW s p x) := by simp [takeS, broken_low s p c.toNat (by omega), hr, m1]
        by_cases hbl : c.toNat = 32 ∨ c.toNat = 9 ∨ c.toNat = 10
        · refine go (endW s p x) hlow ?_ (by rw [endW_rem, hr]) (by rw [endW_letters]; exact hg)
          rw [e1, takeM, if_pos hbl]
        · have hk : markK c.toNat ≠ 0 := m2.resolve_left hbl
          refine go ⟨(endW s p x).toks ++ [⟨markK c.toNat, s.extract p (p + 1), p⟩], (endW s p x).rem, (endW s p x).start, (endW s p x).letters⟩ hlow ?_ (by simp only; rw [endW_rem, hr]) (by simp only; rw [endW_letters]; exact hg)
          rw [e1, takeM, if_neg hbl, if_neg m3, if_neg hk]
      · cases hg

end Go.Proofs.YtgbmakpdjdigmaaGreatDoor

/- Plain mathematics: the tokens (kinds and places) of a text that ends within 'fn main()'. No condition. -/
namespace Go.Proofs.YtgbmakpdjdigmaaGreatDoor

abbrev x0 : Sc := ⟨[], false, 0, 0⟩
def kpOf (s : ByteArray) : Option (List (Nat × Nat)) := match scanRun s s.size 0 x0 with
  | .inl _ => none
  | .inr x => some ((scanEnd s x).map fun t => (t.kind, t.place))
abbrev headL : List UInt8 := [102, 110, 32, 109, 97, 105, 110, 40, 41]
def kpHead (n : Nat) : List (Nat × Nat) :=
  if n ≤ 3 then [(3, 0), (0, n)] else if n ≤ 7 then [(3, 0), (1, 3), (0, n)] else if n = 8 then [(3, 0), (1, 3), (10, 7), (0, 8)] else [(3, 0), (1, 3), (10, 7), (11, 8), (0, 9)]
theorem kp_head : ∀ n : Fin 8, kpOf ⟨⟨headL.take (n + 2)⟩⟩ = some (kpHead (n + 2)) := by decide +kernel
theorem kp_cut (s : ByteArray) (n : Nat) (h2 : 2 ≤ n) (h9 : n ≤ 9) (hs : s.data.toList = headL.take n) : kpOf s = some (kpHead n) := by
  have h := kp_head ⟨n - 2, by omega⟩
  simp only [show n - 2 + 2 = n from by omega] at h
  have e : s = ⟨⟨headL.take n⟩⟩ := by
    rw [← hs]
  rw [e]; exact h

end Go.Proofs.YtgbmakpdjdigmaaGreatDoor

/- Plain mathematics: a digit's token is one of four texts. -/
namespace Go.Proofs.YtgbmakpdjdigmaaGreatDoor

def DigT (t : PT) : Prop := t.kind = 2 → t.text = ⟨#[48]⟩ ∨ t.text = ⟨#[49]⟩ ∨ t.text = ⟨#[50]⟩ ∨ t.text = ⟨#[51]⟩
/-- Every digit's token of a row is one of the four digits. -/
def DigOk (l : List PT) : Prop := ∀ t, t ∈ l → DigT t
theorem DigOk.snoc {l : List PT} {t : PT} (h : DigOk l) (ht : DigT t) : DigOk (l ++ [t]) := by
  intro u hu
  rcases List.mem_append.1 hu with h1 | h1
  · exact h u h1
  · rw [List.mem_singleton.1 h1]; exact ht
theorem wordK_ne (l : List UInt8) : wordK l ≠ 2 := by unfold wordK; repeat' split
                                                      all_goals decide
theorem DigOk.endW {s : ByteArray} {e : Nat} {x : Sc} (h : DigOk x.toks) : DigOk (endW s e x).toks := by
  unfold Proofs.YtgbmakpdjdigmaaGreatDoor.endW
  split
  · exact h.snoc (fun hk => absurd hk (wordK_ne _))
  · exact h
theorem markK_two {r : Nat} (h : markK r = 2) : r = 48 ∨ r = 49 ∨ r = 50 ∨ r = 51 := by
  unfold markK at h
  split at h
  · assumption
  · exfalso
    revert h
    repeat' split
    all_goals decide
theorem digit_text {s : ByteArray} {p : Nat} (hp : p < s.size) (h : markK (Utf8.decode s p).1 = 2) : s.extract p (p + 1) = ⟨#[48]⟩ ∨ s.extract p (p + 1) = ⟨#[49]⟩ ∨ s.extract p (p + 1) = ⟨#[50]⟩ ∨ s.extract p (p + 1) = ⟨#[51]⟩ := by
  have hr := markK_two h
  have hlow : (s[p]'hp).toNat < 128 := by
    by_cases ha : (s[p]'hp).toNat < 128
    · exact ha
    · have := (decode_high s p hp (by omega)).1
      omega
  rw [decode_ascii s p hp hlow] at hr
  have he : s.extract p (p + 1) = ⟨#[s[p]'hp]⟩ := by
    apply ByteArray.ext
    rw [ByteArray.data_extract]
    have hz : p < s.data.size := hp
    apply Array.ext
    · simp; omega
    · intro i h1 h2
      have hi : i = 0 := by simp at h2; omega
      subst hi
      simp
      rfl
  have hc : ∀ n : Nat, n < 256 → (s[p]'hp).toNat = n → s[p]'hp = UInt8.ofNat n := by
    intro n hn e
    rw [← e]
    simp
  rw [he]
  rcases hr with q | q | q | q
  · exact .inl (by rw [hc _ (by decide) q]; rfl)
  · exact .inr (.inl (by rw [hc _ (by decide) q]; rfl))
  · exact .inr (.inr (.inl (by rw [hc _ (by decide) q]; rfl)))
  · exact .inr (.inr (.inr (by rw [hc _ (by decide) q]; rfl)))
theorem takeS_dig {s : ByteArray} {p : Nat} {x : Sc} (hp : p < s.size) (h : DigOk x.toks) : DigOk (takeS s p (Utf8.decode s p).1 x).1.toks := by
  unfold takeS
  split
  · exact h
  · split
    · exact h
    · split
      · split
        · exact h
        · exact h
      · have he := h.endW (s := s) (e := p)
        unfold takeM
        split
        · exact he
        · split
          · exact he
          · split
            · exact he
            · exact he.snoc (fun hk => digit_text hp hk)
theorem scanRun_dig (s : ByteArray) : ∀ (f p : Nat) (x y : Sc), DigOk x.toks → scanRun s f p x = .inr y → DigOk y.toks
  | 0, _, x, y, h, e => by
    have := Sum.inr.inj e
    subst this
    exact h
  | f + 1, p, x, y, h, e => by
    unfold scanRun at e
    split at e
    · rename_i hp
      split at e
      · exact scanRun_dig s f _ _ y (takeS_dig hp h) e
      · cases e
    · have := Sum.inr.inj e
      subst this
      exact h
theorem scanEnd_dig {s : ByteArray} {y : Sc} (h : scanRun s s.size 0 ⟨[], false, 0, 0⟩ = .inr y) : DigOk (scanEnd s y) :=
  (scanRun_dig s _ _ _ _ (fun _ hu => absurd hu (by simp)) h).endW.snoc (fun hk => absurd (show (0 : Nat) = 2 from hk) (by decide))

end Go.Proofs.YtgbmakpdjdigmaaGreatDoor

/- EqA EqC EqB: told at each. -/
import Derived.Test.YtgbmakpdjdigmaaGreatDoorG18
import Derived.Test.YtgbmakpdjdigmaaGreatDoorG01
import Derived.Test.YtgbmakpdjdigmaaGreatDoorG20

/- Plain mathematics: the model's own reading of a character (Utf8.decode) and the document's (chr) are the same; a byte is broken just where no character begins. No condition. -/
namespace Go.Proofs.YtgbmakpdjdigmaaGreatDoor

theorem get_bt (s : ByteArray) (k : Nat) : (s.get! k).toNat = bt s k := by
  unfold bt
  congr 1
  show s.data[k]! = _
  rw [getElem!_def]
  cases s.data[k]? <;> rfl
theorem bt_out (s : ByteArray) (k : Nat) (h : s.size ≤ k) : bt s k = 0 := by
  unfold bt
  have : s.data[k]? = none := by simp; exact h
  rw [this]; rfl
theorem cont_iff (s : ByteArray) (p k : Nat) : ((decide (p + k < s.size) && (bt s (p + k) / 64 == 2)) = true) ↔ (128 ≤ bt s (p + k) ∧ bt s (p + k) ≤ 191) := by
  have hb := bt_lt s (p + k)
  simp only [Bool.and_eq_true, decide_eq_true_eq, beq_iff_eq]
  constructor
  · rintro ⟨_, h⟩; omega
  · intro h
    refine ⟨?_, by omega⟩
    by_cases hs : p + k < s.size
    · exact hs
    · have := bt_out s (p + k) (by omega); omega
theorem valid_nat (c : Nat) : Utf8.valid (c : Int) = true ↔ (c < 55296 ∨ (57344 ≤ c ∧ c ≤ 1114111)) := by
  unfold Utf8.valid
  simp only [Bool.or_eq_true, Bool.and_eq_true, decide_eq_true_eq]
  omega
/-- Decoding, in the document's bytes. -/
theorem decode_bt (s : ByteArray) (p : Nat) : Utf8.decode s p =
    (if bt s p < 128 then (bt s p, 1)
     else if bt s p / 32 = 6 ∧ (128 ≤ bt s (p + 1) ∧ bt s (p + 1) ≤ 191) then
       (if 128 ≤ bt s p % 32 * 64 + bt s (p + 1) % 64 then (bt s p % 32 * 64 + bt s (p + 1) % 64, 2) else (65533, 1))
     else if bt s p / 16 = 14 ∧ (128 ≤ bt s (p + 1) ∧ bt s (p + 1) ≤ 191) ∧ (128 ≤ bt s (p + 2) ∧ bt s (p + 2) ≤ 191) then
       (if 2048 ≤ bt s p % 16 * 4096 + bt s (p + 1) % 64 * 64 + bt s (p + 2) % 64 ∧ (bt s p % 16 * 4096 + bt s (p + 1) % 64 * 64 + bt s (p + 2) % 64 < 55296 ∨ (57344 ≤ bt s p % 16 * 4096 + bt s (p + 1) % 64 * 64 + bt s (p + 2) % 64 ∧ bt s p % 16 * 4096 + bt s (p + 1) % 64 * 64 + bt s (p + 2) % 64 ≤ 1114111))
        then (bt s p % 16 * 4096 + bt s (p + 1) % 64 * 64 + bt s (p + 2) % 64, 3) else (65533, 1))
     else if bt s p / 8 = 30 ∧ (128 ≤ bt s (p + 1) ∧ bt s (p + 1) ≤ 191) ∧ (128 ≤ bt s (p + 2) ∧ bt s (p + 2) ≤ 191) ∧ (128 ≤ bt s (p + 3) ∧ bt s (p + 3) ≤ 191) then
       (if 65536 ≤ bt s p % 8 * 262144 + bt s (p + 1) % 64 * 4096 + bt s (p + 2) % 64 * 64 + bt s (p + 3) % 64 ∧ (bt s p % 8 * 262144 + bt s (p + 1) % 64 * 4096 + bt s (p + 2) % 64 * 64 + bt s (p + 3) % 64 < 55296 ∨ (57344 ≤ bt s p % 8 * 262144 + bt s (p + 1) % 64 * 4096 + bt s (p + 2) % 64 * 64 + bt s (p + 3) % 64 ∧ bt s p % 8 * 262144 + bt s (p + 1) % 64 * 4096 + bt s (p + 2) % 64 * 64 + bt s (p + 3) % 64 ≤ 1114111))
        then (bt s p % 8 * 262144 + bt s (p + 1) % 64 * 4096 + bt s (p + 2) % 64 * 64 + bt s (p + 3) % 64, 4) else (65533, 1))
     else (65533, 1)) := by
  have c1 := cont_iff s p 1
  have c2 := cont_iff s p 2
  have c3 := cont_iff s p 3
  unfold Utf8.decode
  simp only [get_bt, Nat.add_zero, Utf8.runeError]
  generalize hk1 : (decide (p + 1 < s.size) && (bt s (p + 1) / 64 == 2)) = k1 at *
  generalize hk2 : (decide (p + 2 < s.size) && (bt s (p + 2) / 64 == 2)) = k2 at *
  generalize hk3 : (decide (p + 3 < s.size) && (bt s (p + 3) / 64 == 2)) = k3 at *
  clear hk1 hk2 hk3
  simp only [Bool.and_eq_true, beq_iff_eq, decide_eq_true_eq, c1, c2, c3, ge_iff_le, and_assoc, valid_nat]
theorem chrN_some {s : ByteArray} {i n least c0 : Nat} (h : (chrN s i n least c0).2 ≠ 0) : ∃ c, contN s i c0 (n - 1) = some c ∧ least ≤ c ∧ c ≤ 1114111 ∧ (c < 55296 ∨ 57344 ≤ c) ∧ chrN s i n least c0 = (c, n) ∧ i + n ≤ s.size := by
  unfold chrN at h ⊢
  split at h
  · exact absurd rfl h
  · rename_i hs
    rw [if_neg hs]
    split at h
    · exact absurd rfl h
    · rename_i c hc
      split at h
      · exact absurd rfl h
      · rename_i hb
        exact ⟨c, hc, by omega, by omega, by omega, by simp only [if_neg hb], by omega⟩
theorem contN_one {s : ByteArray} {i c0 c : Nat} (h : contN s i c0 1 = some c) : 128 ≤ bt s (i + 1) ∧ bt s (i + 1) ≤ 191 ∧ c = c0 * 64 + (bt s (i + 1) - 128) := by
  obtain ⟨c', h0, h1, h2, h3⟩ := contN_step (m := 0) h
  simp only [contN, Option.some.injEq] at h0
  subst h0
  exact ⟨h1, h2, by rw [h3]; simp only [Nat.add_zero]; simp only [Nat.add_zero] at h1; omega⟩
theorem contN_two {s : ByteArray} {i c0 c : Nat} (h : contN s i c0 2 = some c) : 128 ≤ bt s (i + 1) ∧ bt s (i + 1) ≤ 191 ∧ 128 ≤ bt s (i + 2) ∧ bt s (i + 2) ≤ 191 ∧ c = (c0 * 64 + (bt s (i + 1) - 128)) * 64 + (bt s (i + 2) - 128) := by
  obtain ⟨c', h0, h1, h2, h3⟩ := contN_step (m := 1) h
  obtain ⟨k1, k2, k3⟩ := contN_one h0
  exact ⟨k1, k2, h1, h2, by rw [h3, k3]; simp only [Nat.add_assoc, Nat.reduceAdd] at h1 ⊢; omega⟩
theorem contN_three {s : ByteArray} {i c0 c : Nat} (h : contN s i c0 3 = some c) : 128 ≤ bt s (i + 1) ∧ bt s (i + 1) ≤ 191 ∧ 128 ≤ bt s (i + 2) ∧ bt s (i + 2) ≤ 191 ∧ 128 ≤ bt s (i + 3) ∧ bt s (i + 3) ≤ 191 ∧ c = ((c0 * 64 + (bt s (i + 1) - 128)) * 64 + (bt s (i + 2) - 128)) * 64 + (bt s (i + 3) - 128) := by
  obtain ⟨c', h0, h1, h2, h3⟩ := contN_step (m := 2) h
  obtain ⟨k1, k2, k3, k4, k5⟩ := contN_two h0
  exact ⟨k1, k2, k3, k4, h1, h2, by rw [h3, k5]; simp only [Nat.add_assoc, Nat.reduceAdd] at h1 ⊢; omega⟩
theorem contN_one' {s : ByteArray} {i c0 : Nat} (h1 : 128 ≤ bt s (i + 1) ∧ bt s (i + 1) ≤ 191) : contN s i c0 1 = some (c0 * 64 + (bt s (i + 1) - 128)) := by
  rw [contN_good (m := 0) (c := c0) rfl h1.1 h1.2]
  simp only [Nat.add_zero]
  exact congrArg some (by omega)
theorem contN_two' {s : ByteArray} {i c0 : Nat} (h1 : 128 ≤ bt s (i + 1) ∧ bt s (i + 1) ≤ 191) (h2 : 128 ≤ bt s (i + 2) ∧ bt s (i + 2) ≤ 191) : contN s i c0 2 = some ((c0 * 64 + (bt s (i + 1) - 128)) * 64 + (bt s (i + 2) - 128)) := by
  rw [contN_good (m := 1) (contN_one' h1) h2.1 h2.2]
  simp only [Nat.add_assoc, Nat.reduceAdd]
  exact congrArg some (by omega)
theorem contN_three' {s : ByteArray} {i c0 : Nat} (h1 : 128 ≤ bt s (i + 1) ∧ bt s (i + 1) ≤ 191) (h2 : 128 ≤ bt s (i + 2) ∧ bt s (i + 2) ≤ 191) (h3 : 128 ≤ bt s (i + 3) ∧ bt s (i + 3) ≤ 191) : contN s i c0 3 = some (((c0 * 64 + (bt s (i + 1) - 128)) * 64 + (bt s (i + 2) - 128)) * 64 + (bt s (i + 3) - 128)) := by
  rw [contN_good (m := 2) (contN_two' h1 h2) h3.1 h3.2]
  simp only [Nat.add_assoc, Nat.reduceAdd]
  exact congrArg some (by omega)
theorem extract_three {s : ByteArray} {p : Nat} (h : p + 3 ≤ s.size) : ((s.extract p (p + 3)).toList = [239, 191, 189]) ↔ (bt s p = 239 ∧ bt s (p + 1) = 191 ∧ bt s (p + 2) = 189) := by
  have hs : s.data.size = s.size := rfl
  have g0 := bt_get s p (by omega)
  have g1 := bt_get s (p + 1) (by omega)
  have g2 := bt_get s (p + 2) (by omega)
  have e : (s.extract p (p + 3)).toList = [s[p]'(by omega), s[p + 1]'(by omega), s[p + 2]'(by omega)] := by
    rw [ByteArray.toList_eq, ByteArray.data_extract]
    apply List.ext_getElem?
    intro i
    have q : ∀ k, (hk : p + k < s.size) → s.data[p + k]? = some (s[p + k]'hk) := fun k hk => Array.getElem?_eq_getElem (xs := s.data) hk
    have m3 : min (p + 3) s.size - p = 3 := by omega
    rcases i with _ | _ | _ | i
    · have := q 0 (by omega); simpa using this
    · have := q 1 (by omega); simpa using this
    · have := q 2 (by omega); simpa using this
    · simp; omega
  rw [e, g0, g1, g2]
  simp only [List.cons.injEq, and_true]
  have u : ∀ (a b : UInt8), a = b ↔ a.toNat = b.toNat := fun a b => ⟨fun h => by rw [h], fun h => UInt8.toNat_inj.mp h⟩
  rw [u, u, u]
  rfl
/-- A character is there: both read the same, and it is not broken. -/
theorem decode_good {s : ByteArray} {p : Nat} (hn : (chr s p).2 ≠ 0) : Utf8.decode s p = chr s p ∧ brokenB s p (chr s p).1 = false := by
  have b0 := bt_lt s p
  rw [decode_bt]
  unfold chr at hn ⊢
  split at hn
  · rename_i h
    simp only [if_pos h]
    exact ⟨trivial, broken_low s p _ (by omega)⟩
  rename_i h
  simp only [if_neg h]
  split at hn
  · rename_i h2
    simp only [if_pos h2]
    obtain ⟨c, hc, l1, l2, l3, he, hs⟩ := chrN_some hn
    obtain ⟨k1, k2, k3⟩ := contN_one hc
    rw [he, if_pos (by omega), if_pos (by omega)]
    exact ⟨by simp only [Prod.mk.injEq, and_true]; omega, broken_low s p _ (by simp only; omega)⟩
  rename_i h2
  simp only [if_neg h2]
  split at hn
  · rename_i h3
    simp only [if_pos h3]
    obtain ⟨c, hc, l1, l2, l3, he, hs⟩ := chrN_some hn
    obtain ⟨k1, k2, k3, k4, k5⟩ := contN_two hc
    rw [he, if_neg (by omega), if_pos (by omega), if_pos (by omega)]
    refine ⟨by simp only [Prod.mk.injEq, and_true]; omega, ?_⟩
    simp only
    unfold brokenB
    by_cases hq : c = 65533
    · have := (extract_three hs).2 (by omega)
      simp [this, hs]
    · simp [hq]
  rename_i h3
  simp only [if_neg h3]
  split at hn
  · rename_i h4
    simp only [if_pos h4]
    obtain ⟨c, hc, l1, l2, l3, he, hs⟩ := chrN_some hn
    obtain ⟨k1, k2, k3, k4, k5, k6, k7⟩ := contN_three hc
    rw [he, if_neg (by omega), if_neg (by omega), if_pos (by omega), if_pos (by omega)]
    refine ⟨by simp only [Prod.mk.injEq, and_true]; omega, ?_⟩
    simp only
    have : (c == 65533) = false := by simp; omega
    simp [brokenB, this]
  · exact absurd rfl hn
theorem decode_bad {s : ByteArray} {p : Nat} (hn : (chr s p).2 = 0) : brokenB s p (Utf8.decode s p).1 = true ∧ Utf8.decode s p = (65533, 1) := by
  have b0 := bt_lt s p
  have o1 := fun h => bt_out s (p + 1) h
  have o2 := fun h => bt_out s (p + 2) h
  have o3 := fun h => bt_out s (p + 3) h
  have key : ∀ n least c0 c, contN s p c0 (n - 1) = some c → n ≠ 0 → p + n ≤ s.size → chr s p = chrN s p n least c0 → ¬ (c < least ∨ 1114111 < c ∨ (55296 ≤ c ∧ c < 57344)) → False := by
    intro n least c0 c h1 h2 h3 h4 h5
    rw [h4, chrN_in h3 h1 h5] at hn
    exact h2 hn
  have hd : Utf8.decode s p = (65533, 1) := by
    rw [decode_bt]
    have h0 : ¬ bt s p < 128 := fun h => by simp [chr, h] at hn
    rw [if_neg h0]
    split
    · rename_i h
      split
      · exfalso
        refine key 2 128 (bt s p - 192) _ (contN_one' h.2) (by decide) ?_ ?_ ?_
        · by_cases hh : p + 2 ≤ s.size
          · exact hh
          · have := o1 (by omega); omega
        · unfold chr; rw [if_neg h0, if_pos (by omega)]
        · omega
      · rfl
    · split
      · rename_i _ h
        split
        · exfalso
          refine key 3 2048 (bt s p - 224) _ (contN_two' h.2.1 h.2.2) (by decide) ?_ ?_ ?_
          · by_cases hh : p + 3 ≤ s.size
            · exact hh
            · have := o2 (by omega); omega
          · unfold chr; rw [if_neg h0, if_neg (by omega), if_pos (by omega)]
          · omega
        · rfl
      · split
        · rename_i _ h
          split
          · exfalso
            refine key 4 65536 (bt s p - 240) _ (contN_three' h.2.1 h.2.2.1 h.2.2.2) (by decide) ?_ ?_ ?_
            · by_cases hh : p + 4 ≤ s.size
              · exact hh
              · have := o3 (by omega); omega
            · unfold chr; rw [if_neg h0, if_neg (by omega), if_neg (by omega), if_pos (by omega)]
            · omega
          · rfl
        · rfl
  refine ⟨?_, hd⟩
  rw [hd]
  unfold brokenB
  by_cases hp : p + 3 ≤ s.size
  · by_cases he : (s.extract p (p + 3)).toList = [239, 191, 189]
    · exfalso
      have k := (extract_three hp).1 he
      refine key 3 2048 (bt s p - 224) _ (contN_two' (by omega) (by omega)) (by decide) hp ?_ ?_
      · unfold chr; rw [if_neg (by omega), if_neg (by omega), if_pos (by omega)]
      · omega
    · simp [he]
  · simp [hp]
end Go.Proofs.YtgbmakpdjdigmaaGreatDoor

/- Plain mathematics: of the tokens that the program's scanner finds: a kind beyond names and digits says the text; the places rise; only the last one is the end. No condition. -/
namespace Go.Proofs.YtgbmakpdjdigmaaGreatDoor

/-- The text of a keyword's or a sign's kind. -/
def litK (k : Nat) : List UInt8 :=
  if k = 3 then [102, 110] else if k = 4 then [118, 97, 114] else if k = 5 then [110, 101, 119] else if k = 6 then [114, 101, 116, 117, 114, 110] else if k = 7 then [105, 102] else if k = 8 then [101, 108, 115, 101] else if k = 9 then [119, 104, 105, 108, 101]
  else if k = 10 then [40] else if k = 11 then [41] else if k = 12 then [123] else if k = 13 then [125] else if k = 14 then [59] else if k = 15 then [61] else if k = 16 then [38] else if k = 17 then [42] else if k = 18 then [64] else if k = 19 then [46] else if k = 20 then [63] else []
def LitT (t : PT) : Prop := t.kind ≤ 20 ∧ (3 ≤ t.kind → t.text.toList = litK t.kind)
theorem litK_inj : ∀ a, a ≤ 20 → 3 ≤ a → ∀ b, b ≤ 20 → 3 ≤ b → litK a = litK b → a = b := by
  intro a ha ha3 b hb hb3 h
  have : ∀ a b : Fin 21, 3 ≤ a.val → 3 ≤ b.val → litK a = litK b → a = b := by decide +kernel
  have := this ⟨a, by omega⟩ ⟨b, by omega⟩ ha3 hb3 h
  exact congrArg Fin.val this
theorem wordK_lit (l : List UInt8) : wordK l ≤ 20 ∧ wordK l ≠ 0 ∧ (3 ≤ wordK l → l = litK (wordK l)) := by
  unfold wordK
  repeat' split
  all_goals (refine ⟨by decide, by decide, fun h => ?_⟩)
  all_goals first | (rename_i e; rw [e]; rfl) | omega
theorem markK_le (r : Nat) : markK r ≤ 20 := by
  unfold markK
  repeat' split
  all_goals decide
theorem mark_text {s : ByteArray} {p : Nat} (hp : p < s.size) (h : 3 ≤ markK (Utf8.decode s p).1) : (s.extract p (p + 1)).toList = litK (markK (Utf8.decode s p).1) := by
  have hr : (Utf8.decode s p).1 < 128 := by
    generalize (Utf8.decode s p).1 = r at *
    by_cases hh : r < 128
    · exact hh
    · exfalso
      unfold markK at h
      rw [if_neg (by omega), if_neg (by omega), if_neg (by omega), if_neg (by omega), if_neg (by omega), if_neg (by omega), if_neg (by omega), if_neg (by omega), if_neg (by omega), if_neg (by omega), if_neg (by omega), if_neg (by omega)] at h
      omega
  have hlow : (s[p]'hp).toNat < 128 := by
    by_cases ha : (s[p]'hp).toNat < 128
    · exact ha
    · have := (decode_high s p hp (by omega)).1
      omega
  have he : (s.extract p (p + 1)).toList = [s[p]'hp] := by
    rw [ByteArray.toList_eq, ByteArray.data_extract]
    have hz : p < s.data.size := hp
    apply List.ext_getElem?
    intro i
    rcases i with _ | i
    · have : s.data[p]? = some (s[p]'hp) := Array.getElem?_eq_getElem hz
      simpa using this
    · simp; omega
  have e2 : (Utf8.decode s p).1 = (s[p]'hp).toNat := by rw [decode_ascii s p hp hlow]
  rw [e2] at h ⊢
  rw [he]
  generalize s[p]'hp = c at *
  have : ∀ n : Fin 256, 3 ≤ markK n → [UInt8.ofNat n] = litK (markK n) := by decide +kernel
  have := this ⟨c.toNat, c.toNat_lt⟩ h
  simpa using this
/-- What holds of the scanner's tokens between two characters, at place p. -/
structure TkI (s : ByteArray) (p : Nat) (x : Sc) : Prop where
  lit : ∀ t, t ∈ x.toks → LitT t ∧ t.kind ≠ 0 ∧ t.text.size ≤ s.size
  asc : x.toks.Pairwise (fun a b => a.place < b.place)
  top : ∀ t, t ∈ x.toks → t.place < (if 0 < x.letters then x.start else p)
  st : 0 < x.letters → x.start < p
theorem TkI.more {s : ByteArray} {p q : Nat} {x : Sc} (h : TkI s p x) (hq : p ≤ q) : TkI s q x :=
  ⟨h.lit, h.asc, fun t ht => by have := h.top t ht; split at this <;> split <;> omega, fun h0 => by have := h.st h0; omega⟩
theorem extract_le (s : ByteArray) (a b : Nat) : (s.extract a b).size ≤ s.size := by
  have : (s.extract a b).data.size ≤ s.data.size := by rw [ByteArray.data_extract]; simp; omega
  exact this
theorem TkI.endW {s : ByteArray} {p : Nat} {x : Sc} (h : TkI s p x) : TkI s p (endW s p x) := by
  have ht := h.top
  unfold Proofs.YtgbmakpdjdigmaaGreatDoor.endW
  split
  · rename_i hl
    have h0 := h.st hl
    simp only [if_pos hl] at ht
    obtain ⟨w1, w2, w3⟩ := wordK_lit (s.extract x.start p).toList
    refine ⟨fun t hm => ?_, ?_, fun t hm => ?_, fun q => absurd q (by simp)⟩
    · rcases List.mem_append.1 hm with q | q
      · exact h.lit t q
      · rw [List.mem_singleton.1 q]
        exact ⟨⟨w1, w3⟩, w2, extract_le _ _ _⟩
    · refine List.pairwise_append.2 ⟨h.asc, by simp, fun a ha b hb => ?_⟩
      rw [List.mem_singleton.1 hb]
      exact ht a ha
    · simp only [Nat.lt_irrefl, if_false]
      rcases List.mem_append.1 hm with q | q
      · have := ht t q; omega
      · rw [List.mem_singleton.1 q]; exact h0
  · rename_i hl
    simp only [if_neg hl] at ht
    exact ⟨h.lit, h.asc, fun t hm => by simp only [Nat.lt_irrefl, if_false]; exact ht t hm, fun q => absurd q (by simp)⟩
theorem takeS_tk {s : ByteArray} {p : Nat} {x : Sc} (hp : p < s.size) (h : TkI s p x) (ht : (takeS s p (Utf8.decode s p).1 x).2.2 = true) : TkI s (p + 1) (takeS s p (Utf8.decode s p).1 x).1 := by
  unfold takeS at ht ⊢
  split
  · rename_i hb; simp [hb] at ht
  · split
    · have := h.more (Nat.le_succ p)
      exact ⟨this.lit, this.asc, this.top, this.st⟩
    · split
      · rename_i hb hr hl
        simp only [hb, hr, hl, if_true] at ht
        split
        · rename_i h8; simp [h8] at ht
        · refine ⟨h.lit, h.asc, fun t hm => ?_, fun _ => ?_⟩
          · have := h.top t hm
            simp only [takeL, Nat.zero_lt_succ, if_true]
            by_cases h0 : x.letters = 0
            · simp only [h0, if_true]
              rw [h0] at this
              exact this
            · simp only [if_neg h0]
              rwa [if_pos (by omega)] at this
          · simp only [takeL]
            split
            · omega
            · have := h.st (by omega); omega
      · rename_i hb hr hl
        simp only [hb, hr, hl] at ht
        have he := h.endW
        have e3 := endW_letters s p x
        have e4 := he.top
        rw [e3] at e4
        simp only [Nat.lt_irrefl, if_false] at e4
        unfold takeM
        split
        · exact he.more (by omega)
        · split
          · have := he.more (Nat.le_succ p)
            exact ⟨this.lit, this.asc, this.top, this.st⟩
          · split
            · exact he.more (by omega)
            · rename_i hk
              refine ⟨fun t hm => ?_, ?_, fun t hm => ?_, fun q => ?_⟩
              · rcases List.mem_append.1 hm with q | q
                · exact he.lit t q
                · rw [List.mem_singleton.1 q]
                  exact ⟨⟨markK_le _, fun g => mark_text hp g⟩, hk, extract_le _ _ _⟩
              · refine List.pairwise_append.2 ⟨he.asc, by simp, fun a ha b hb => ?_⟩
                rw [List.mem_singleton.1 hb]
                exact e4 a ha
              · simp only [e3, Nat.lt_irrefl, if_false]
                rcases List.mem_append.1 hm with q | q
                · have := e4 t q; omega
                · rw [List.mem_singleton.1 q]; exact Nat.lt_succ_self p
              · simp only [e3] at q; omega
theorem decode_to (s : ByteArray) (p : Nat) (hp : p < s.size) : p + (Utf8.decode s p).2 ≤ s.size := by
  by_cases hz : (chr s p).2 = 0
  · rw [(decode_bad hz).2]; exact hp
  · rw [(decode_good hz).1]; exact (chr_le s p hp).1
theorem scanRun_tk (s : ByteArray) : ∀ (f p : Nat) (x y : Sc), p ≤ s.size → TkI s p x → scanRun s f p x = .inr y → TkI s s.size y
  | 0, p, x, y, hp, h, e => by
    have := Sum.inr.inj e
    subst this
    exact h.more hp
  | f + 1, p, x, y, hp, h, e => by
    unfold scanRun at e
    split at e
    · rename_i hlt
      have hd := decode_pos s p hlt
      split at e
      · rename_i ht
        exact scanRun_tk s f _ _ y (decode_to s p hlt) ((takeS_tk hlt h ht).more (by omega)) e
      · cases e
    · have := Sum.inr.inj e
      subst this
      exact h.more hp
/-- All that is asked of a text's tokens: the last one is the end, and no other; kinds say texts; places rise. -/
structure TksOk (N : Nat) (l : List PT) : Prop where
  pos : 0 < l.length
  lit : ∀ t, t ∈ l → LitT t
  len : ∀ t, t ∈ l → t.text.size ≤ N ∧ t.place ≤ N
  asc : l.Pairwise (fun a b => a.place < b.place)
  last : ∃ t, l[l.length - 1]? = some t ∧ t.kind = 0 ∧ t.text = ByteArray.empty ∧ t.place = N
  only : ∀ i t, i < l.length - 1 → l[i]? = some t → t.kind ≠ 0
theorem extract_none (s : ByteArray) : s.extract s.size s.size = ByteArray.empty := by
  apply ByteArray.ext
  rw [ByteArray.data_extract]
  have : s.data.size = s.size := rfl
  apply Array.ext
  · simp
  · intro i h1 h2
    simp at h1
theorem scanEnd_ok {s : ByteArray} {y : Sc} (h : scanRun s s.size 0 ⟨[], false, 0, 0⟩ = .inr y) : TksOk s.size (scanEnd s y) := by
  have hk : TkI s s.size y := scanRun_tk s _ 0 _ _ (Nat.zero_le _) ⟨by simp, by simp, by simp, by simp⟩ h
  have he := hk.endW
  have e3 := endW_letters s s.size y
  have e4 := he.top
  rw [e3] at e4
  simp only [Nat.lt_irrefl, if_false] at e4
  unfold scanEnd
  rw [extract_none]
  refine ⟨by simp, fun t hm => ?_, fun t hm => ?_, ?_, ?_, fun i t hi hg => ?_⟩
  · rcases List.mem_append.1 hm with q | q
    · exact (he.lit t q).1
    · rw [List.mem_singleton.1 q]
      exact ⟨Nat.zero_le _, fun g => absurd (show 3 ≤ 0 from g) (by decide)⟩
  · rcases List.mem_append.1 hm with q | q
    · exact ⟨(he.lit t q).2.2, Nat.le_of_lt (e4 t q)⟩
    · rw [List.mem_singleton.1 q]
      exact ⟨Nat.zero_le _, Nat.le_refl _⟩
  · refine List.pairwise_append.2 ⟨he.asc, by simp, fun a ha b hb => ?_⟩
    rw [List.mem_singleton.1 hb]
    exact e4 a ha
  · exact ⟨⟨0, ByteArray.empty, s.size⟩, by simp, rfl, rfl, rfl⟩
  · simp only [List.length_append, List.length_singleton, Nat.add_sub_cancel] at hi
    rw [List.getElem?_append_left hi] at hg
    exact (he.lit t (List.mem_of_getElem? hg)).2.1
end Go.Proofs.YtgbmakpdjdigmaaGreatDoor

/- Plain mathematics: the program's scanner and the document's reader find the same tokens of every text, or the same place at which none begins. No condition. -/
namespace Go.Proofs.YtgbmakpdjdigmaaGreatDoor

/-- The document's sort of a kind of the program's. -/
def sortK (k : Nat) : Nat := if k = 0 then 0 else if k = 1 then 1 else if k = 2 then 3 else if k ≤ 9 then 2 else 4
def toTk (t : PT) : Tk := ⟨t.text, t.place, sortK t.kind⟩
def outS (s : ByteArray) : Nat ⊕ Sc → Nat ⊕ List Tk
  | .inl q => .inl q
  | .inr x => .inr ((endW s s.size x).toks.map toTk)

theorem letB_nat (r : Nat) : letB (r : Int) = letR r := by
  unfold letB letR
  have h1 : decide ((97 : Int) ≤ r) = decide (97 ≤ r) := decide_eq_decide.mpr (by omega)
  have h2 : decide ((r : Int) ≤ 122) = decide (r ≤ 122) := decide_eq_decide.mpr (by omega)
  have h3 : decide ((224 : Int) ≤ r) = decide (224 ≤ r) := decide_eq_decide.mpr (by omega)
  have h4 : decide ((r : Int) ≤ 255) = decide (r ≤ 255) := decide_eq_decide.mpr (by omega)
  have h5 : ((r : Int) != 247) = (r != 247) := by
    by_cases h : r = 247
    · subst h; rfl
    · have a : ((r : Int) != 247) = true := by simp; omega
      have b : (r != 247) = true := by simp [h]
      rw [a, b]
  rw [h1, h2, h3, h4, h5]
theorem signB_nat (r : Nat) : signB (r : Int) = true ↔ (r = 40 ∨ r = 41 ∨ r = 123 ∨ r = 125 ∨ r = 59 ∨ r = 61 ∨ r = 38 ∨ r = 42 ∨ r = 64 ∨ r = 46 ∨ r = 63) := by
  unfold signB
  simp only [Bool.or_eq_true, beq_iff_eq]
  omega
theorem markK_sign {r : Nat} (h : signB (r : Int) = true) : sortK (markK r) = 4 ∧ markK r ≠ 0 := by
  rcases (signB_nat r).1 h with h | h | h | h | h | h | h | h | h | h | h <;> subst h <;> decide
theorem markK_digit {r : Nat} (h : 48 ≤ r ∧ r ≤ 51) : sortK (markK r) = 3 ∧ markK r ≠ 0 := by
  have : r = 48 ∨ r = 49 ∨ r = 50 ∨ r = 51 := by omega
  rcases this with h | h | h | h <;> subst h <;> decide
theorem markK_none {r : Nat} (h1 : ¬ signB (r : Int) = true) (h2 : ¬ (48 ≤ r ∧ r ≤ 51)) : markK r = 0 := by
  rw [signB_nat] at h1
  unfold markK
  simp only [not_or] at h1
  rw [if_neg (by omega)]
  simp [h1]
theorem wordK_sort (l : List UInt8) : sortK (wordK l) = if kwB l = true then 2 else 1 := by
  unfold wordK kwB
  simp only [Bool.or_eq_true, beq_iff_eq]
  by_cases h1 : l = [102, 110]
  · simp [h1, sortK]
  by_cases h2 : l = [118, 97, 114]
  · simp [h2, sortK]
  by_cases h3 : l = [110, 101, 119]
  · simp [h3, sortK]
  by_cases h4 : l = [114, 101, 116, 117, 114, 110]
  · simp [h4, sortK]
  by_cases h5 : l = [105, 102]
  · simp [h5, sortK]
  by_cases h6 : l = [101, 108, 115, 101]
  · simp [h6, sortK]
  by_cases h7 : l = [119, 104, 105, 108, 101]
  · simp [h7, sortK]
  simp [h1, h2, h3, h4, h5, h6, h7, sortK]
theorem kwB_len {l : List UInt8} (h : kwB l = true) : l.length ≤ 6 := by
  unfold kwB at h
  simp only [Bool.or_eq_true, beq_iff_eq] at h
  rcases h with (((((h | h) | h) | h) | h) | h) | h <;> subst h <;> decide

theorem endW_zero {s : ByteArray} {e : Nat} {x : Sc} (h : x.letters = 0) : endW s e x = x := by
  unfold endW
  rw [if_neg (by omega)]
  cases x; simp only at h; subst h; rfl
theorem takeS_broken {s : ByteArray} {p : Nat} {x : Sc} (h : (chr s p).2 = 0) : takeS s p (Utf8.decode s p).1 x = (x, p, false) := by
  simp [takeS, (decode_bad h).1]
/-- In what follows a '#'. -/
theorem scan_cmt (s : ByteArray) : ∀ (n p f g : Nat) (x : Sc), s.size - p ≤ n → s.size - p ≤ f → s.size - p ≤ g → x.rem = true →
    ((cmt s g p).2 = false → scanRun s f p x = .inl (cmt s g p).1) ∧
    ((cmt s g p).2 = true → ∃ f', s.size - (cmt s g p).1 ≤ f' ∧ scanRun s f p x = scanRun s f' (cmt s g p).1 x ∧ ((cmt s g p).1 < s.size → bt s (cmt s g p).1 = 10)) := by
  intro n
  induction n with
  | zero =>
    intro p f g x hn hf hg _
    rw [cmt_end (by omega)]
    exact ⟨fun h => by simp at h, fun _ => ⟨f, hf, rfl, fun h => by omega⟩⟩
  | succ n ih =>
    intro p f g x hn hf hg hr
    by_cases hc : p < s.size ∧ bt s p ≠ 10
    · by_cases hz : (chr s p).2 = 0
      · rw [cmt_bad hg hc.1 hc.2 hz]
        refine ⟨fun _ => ?_, fun h => by simp at h⟩
        rw [scanRun_bad hf hc.1 (by rw [takeS_broken hz]), takeS_broken hz]
      · obtain ⟨g', hg', e'⟩ := cmt_go hg hc.1 hc.2 hz
        obtain ⟨hd, hb⟩ := decode_good hz
        have h10 : (chr s p).1 ≠ 10 := fun h => by
          have := chr_low hz (by omega)
          omega
        have ht : takeS s p (Utf8.decode s p).1 x = (x, 0, true) := by
          rw [hd]
          simp only [takeS, hb, hr]
          cases x
          simp only at hr
          subst hr
          simp [h10]
        obtain ⟨f', hf', es⟩ := scanRun_go (x := x) hf hc.1 (by rw [ht])
        rw [ht, hd] at es
        rw [hd] at hf'
        have := ih (p + (chr s p).2) f' g' x (by omega) hf' hg' hr
        rw [e', es]
        exact this
    · rw [cmt_end hc]
      exact ⟨fun h => by simp at h, fun _ => ⟨f, hf, rfl, fun h => by
        by_cases h10 : bt s p = 10
        · exact h10
        · exact absurd ⟨h, h10⟩ hc⟩⟩
/-- Within a word. -/
theorem scan_wrd (s : ByteArray) : ∀ (n p f g : Nat) (x : Sc), s.size - p ≤ n → s.size - p ≤ f → s.size - p ≤ g → x.rem = false → 0 < x.letters → x.letters ≤ 8 →
    (8 < (wrd s g p x.letters).2 → scanRun s f p x = .inl x.start) ∧
    ((wrd s g p x.letters).2 ≤ 8 → ∃ f', s.size - (wrd s g p x.letters).1 ≤ f' ∧ scanRun s f p x = scanRun s f' (wrd s g p x.letters).1 ⟨x.toks, false, x.start, (wrd s g p x.letters).2⟩ ∧
      ¬ ((wrd s g p x.letters).1 < s.size ∧ (chr s (wrd s g p x.letters).1).2 ≠ 0 ∧ letB (chr s (wrd s g p x.letters).1).1 = true)) := by
  intro n
  induction n with
  | zero =>
    intro p f g x hn hf hg hr h0 h8
    rw [wrd_end (by omega)]
    refine ⟨fun h => by simp only at h; omega, fun _ => ⟨f, hf, ?_, fun h => by simp only at h; omega⟩⟩
    cases x; simp only at hr; subst hr; rfl
  | succ n ih =>
    intro p f g x hn hf hg hr h0 h8
    by_cases hc : p < s.size ∧ (chr s p).2 ≠ 0 ∧ letB (chr s p).1 = true
    · obtain ⟨hp, hz, hl⟩ := hc
      obtain ⟨g', hg', e'⟩ := wrd_go (k := x.letters) hg hp hz hl
      obtain ⟨hd, hb⟩ := decode_good hz
      have hle := chr_le s p hp
      rw [letB_nat] at hl
      by_cases h9 : 8 < x.letters + 1
      · have hw := wrd_le s g' (p + (chr s p).2) (x.letters + 1) (by omega)
        rw [e']
        refine ⟨fun _ => ?_, fun h => by omega⟩
        have ht : takeS s p (Utf8.decode s p).1 x = (takeL p x, x.start, false) := by
          rw [hd]
          simp only [takeS, hb, hr, hl, if_pos h9]
          simp only [takeL, if_neg (by omega : ¬ x.letters = 0)]
          simp
        rw [scanRun_bad hf hp (by rw [ht]), ht]
      · have ht : takeS s p (Utf8.decode s p).1 x = (takeL p x, 0, true) := by
          rw [hd]
          simp only [takeS, hb, hr, hl, if_neg h9]
          simp
        obtain ⟨f', hf', es⟩ := scanRun_go (x := x) hf hp (by rw [ht])
        rw [ht, hd] at es
        rw [hd] at hf'
        have := ih (p + (chr s p).2) f' g' (takeL p x) (by omega) hf' hg' (by simp [takeL, hr]) (by simp [takeL]) (by simp only [takeL]; omega)
        rw [e', es]
        have e1 : (takeL p x).letters = x.letters + 1 := rfl
        have e2 : (takeL p x).start = x.start := by simp only [takeL, if_neg (by omega : ¬ x.letters = 0)]
        have e3 : (takeL p x).toks = x.toks := rfl
        rw [e1, e2, e3] at this
        exact this
    · rw [wrd_end hc]
      refine ⟨fun h => by simp only at h; omega, fun _ => ⟨f, hf, ?_, hc⟩⟩
      cases x; simp only at hr; subst hr; rfl
/-- Behind a word. -/
theorem scan_end (s : ByteArray) (e f : Nat) (y : Sc) (he : e ≤ s.size) (hf : s.size - e ≤ f) (hr : y.rem = false) (hc : ¬ (e < s.size ∧ (chr s e).2 ≠ 0 ∧ letB (chr s e).1 = true)) :
    outS s (scanRun s f e y) = outS s (scanRun s f e (endW s e y)) := by
  by_cases hlt : e < s.size
  · have ht : (takeS s e (Utf8.decode s e).1 y).2 = (takeS s e (Utf8.decode s e).1 (endW s e y)).2 ∧ ((takeS s e (Utf8.decode s e).1 y).2.2 = true → takeS s e (Utf8.decode s e).1 y = takeS s e (Utf8.decode s e).1 (endW s e y)) := by
      by_cases hz : (chr s e).2 = 0
      · rw [takeS_broken hz, takeS_broken hz]; exact ⟨rfl, fun h => by simp at h⟩
      · obtain ⟨hd, hb⟩ := decode_good hz
        have hl : letR (chr s e).1 = false := by
          have : ¬ letB (chr s e).1 = true := fun h => hc ⟨hlt, hz, h⟩
          rw [letB_nat] at this
          simpa using this
        have h1 : takeS s e (Utf8.decode s e).1 y = takeS s e (Utf8.decode s e).1 (endW s e y) := by
          rw [hd]
          simp only [takeS, hb, hr, hl, endW_rem, endW_zero (endW_letters s e y)]
          simp
        exact ⟨by rw [h1], fun _ => h1⟩
    cases f with
    | zero => omega
    | succ f =>
      simp only [scanRun, if_pos hlt]
      rw [← ht.1]
      split
      · rename_i h; rw [← ht.2 h]
      · rfl
  · have : e = s.size := by omega
    subst this
    rw [scanRun_end hlt, scanRun_end hlt]
    simp only [outS, endW_zero (endW_letters s s.size y)]
/-- The same tokens, or the same place. -/
theorem lex_scan (s : ByteArray) : ∀ (n p f g : Nat) (x : Sc), s.size - p ≤ n → s.size - p ≤ f → s.size - p ≤ g → x.rem = false → x.letters = 0 →
    lexRun s g p (x.toks.map toTk) = outS s (scanRun s f p x) := by
  intro n
  induction n with
  | zero =>
    intro p f g x hn hf hg hr hl
    rw [lexRun_end (by omega), scanRun_end (by omega)]
    simp only [outS, endW_zero hl]
  | succ n ih =>
    intro p f g x hn hf hg hr hl
    by_cases hp : p < s.size
    case neg =>
      rw [lexRun_end hp, scanRun_end hp]
      simp only [outS, endW_zero hl]
    by_cases hz : (chr s p).2 = 0
    · rw [lexRun_bad (p := p) hg hp (by simp [lexStep, hz]), scanRun_bad hf hp (by rw [takeS_broken hz]), takeS_broken hz]
      rfl
    obtain ⟨hd, hb⟩ := decode_good hz
    have hle := chr_le s p hp
    by_cases hbl : (chr s p).1 = 32 ∨ (chr s p).1 = 9 ∨ (chr s p).1 = 10
    · obtain ⟨_, h1⟩ := chr_low hz (by omega)
      obtain ⟨g', hg', eg⟩ := lexRun_go (acc := x.toks.map toTk) (t := none) (j := p + 1) hg hp (by simp only [lexStep, if_neg hz, if_pos hbl])
      have hlr : letR (chr s p).1 = false := by
        rcases hbl with h | h | h <;> rw [h] <;> decide
      have ht : takeS s p (Utf8.decode s p).1 x = (x, 0, true) := by
        rw [hd]
        simp only [takeS, hb, hr, hlr, endW_zero hl, takeM, if_pos hbl]
        simp
      obtain ⟨f', hf', es⟩ := scanRun_go (x := x) hf hp (by rw [ht])
      rw [ht, hd, h1] at es
      rw [hd, h1] at hf'
      rw [eg, es]
      simp only [Option.toList, List.append_nil]
      exact ih (p + 1) f' g' x (by omega) hf' hg' hr hl
    by_cases h35 : (chr s p).1 = 35
    · obtain ⟨hbt, h1⟩ := chr_low hz (by omega)
      have hlr : letR (chr s p).1 = false := by rw [h35]; decide
      have ht : takeS s p (Utf8.decode s p).1 x = (⟨x.toks, true, x.start, x.letters⟩, 0, true) := by
        rw [hd]
        simp only [takeS, hb, hr, hlr, endW_zero hl, takeM, if_neg hbl, if_pos h35]
        simp
      obtain ⟨f', hf', es⟩ := scanRun_go (x := x) hf hp (by rw [ht])
      rw [ht, hd, h1] at es
      rw [hd, h1] at hf'
      obtain ⟨k, hk, ek⟩ := cmt_go (f := s.size) (by omega) hp (by omega) hz
      rw [h1] at hk ek
      have hw := cmt_le s k (p + 1) (by omega)
      obtain ⟨c1, c2⟩ := scan_cmt s n (p + 1) f' k ⟨x.toks, true, x.start, x.letters⟩ (by omega) hf' hk rfl
      by_cases hok : (cmt s k (p + 1)).2 = true
      · obtain ⟨f2, hf2, e2, hten⟩ := c2 hok
        obtain ⟨g', hg', eg⟩ := lexRun_go (acc := x.toks.map toTk) (t := none) (j := (cmt s k (p + 1)).1) hg hp (by simp only [lexStep, if_neg hz, if_neg hbl, if_pos h35, ek, if_pos hok])
        rw [eg, es, e2]
        simp only [Option.toList, List.append_nil]
        generalize (cmt s k (p + 1)).1 = q at *
        by_cases hq : q < s.size
        · have hten := hten hq
          have hcq : chr s q = (10, 1) := by unfold chr; rw [if_pos (by omega), hten]
          have hzq : (chr s q).2 ≠ 0 := by rw [hcq]; decide
          obtain ⟨hdq, hbq⟩ := decode_good hzq
          have htq : takeS s q (Utf8.decode s q).1 ⟨x.toks, true, x.start, x.letters⟩ = (⟨x.toks, false, x.start, x.letters⟩, 0, true) := by
            rw [hdq]
            simp only [takeS, hbq]
            simp [hcq]
          obtain ⟨f3, hf3, e3⟩ := scanRun_go (x := ⟨x.toks, true, x.start, x.letters⟩) hf2 hq (by rw [htq])
          obtain ⟨g3, hg3, eg3⟩ := lexRun_go (acc := x.toks.map toTk) (t := none) (j := q + 1) hg' hq (by simp [lexStep, hcq])
          rw [eg3, e3, htq, hdq, hcq]
          rw [hdq, hcq] at hf3
          simp only [Option.toList, List.append_nil]
          exact ih (q + 1) f3 g3 ⟨x.toks, false, x.start, x.letters⟩ (by omega) hf3 hg3 rfl hl
        · rw [lexRun_end hq, scanRun_end hq]
          simp only [outS]
          rw [endW_zero (by exact hl)]
      · have hno : (cmt s k (p + 1)).2 = false := by simpa using hok
        rw [es, c1 hno, lexRun_bad (p := (cmt s k (p + 1)).1) hg hp (by simp only [lexStep, if_neg hz, if_neg hbl, if_pos h35, ek, if_neg hok])]
        rfl
    by_cases hlb : letB (chr s p).1 = true
    · have hlr := hlb
      rw [letB_nat] at hlr
      have ht : takeS s p (Utf8.decode s p).1 x = (⟨x.toks, false, p, 1⟩, 0, true) := by
        rw [hd]
        simp only [takeS, hb, hr, hlr, takeL, hl]
        simp
      obtain ⟨f', hf', es⟩ := scanRun_go (x := x) hf hp (by rw [ht])
      rw [ht, hd] at es
      rw [hd] at hf'
      obtain ⟨k, hk, ek⟩ := wrd_go (f := s.size) (k := 0) (by omega) hp hz hlb
      have hw := wrd_le s k (p + (chr s p).2) (0 + 1) (by omega)
      have hwf := wrd_le s s.size p 0 (by omega)
      obtain ⟨c1, c2⟩ := scan_wrd s n (p + (chr s p).2) f' k ⟨x.toks, false, p, 1⟩ (by omega) hf' hk rfl Nat.one_pos (by simp only; omega)
      rw [← ek] at hw
      simp only at c1 c2
      rw [show (1 : Nat) = 0 + 1 from rfl, ← ek] at c1 c2
      have hkw : kwB (s.extract p (wrd s s.size p 0).1).toList = true → (wrd s s.size p 0).2 ≤ 8 := by
        intro h
        have := kwB_len h
        rw [ByteArray.toList_eq] at this
        simp at this
        have e : s.data.size = s.size := rfl
        omega
      by_cases h8 : 8 < (wrd s s.size p 0).2
      · rw [es, c1 h8, lexRun_bad (p := p) hg hp (by
          simp only [lexStep, if_neg hz, if_neg hbl, if_neg h35, if_pos hlb]
          rw [if_neg (fun h => by have := hkw h; omega), if_pos h8])]
        rfl
      · obtain ⟨f2, hf2, e2, hno⟩ := c2 (by omega)
        rw [es, e2]
        rw [scan_end s _ f2 _ hw.2.1 hf2 rfl hno]
        have hm : 0 < (wrd s s.size p 0).2 := by omega
        have hE : endW s (wrd s s.size p 0).1 ⟨x.toks, false, p, (wrd s s.size p 0).2⟩ = ⟨x.toks ++ [⟨wordK (s.extract p (wrd s s.size p 0).1).toList, s.extract p (wrd s s.size p 0).1, p⟩], false, p, 0⟩ := by
          simp only [endW, if_pos hm]
        rw [hE]
        have hlx : lexStep s p = .inr (some (toTk ⟨wordK (s.extract p (wrd s s.size p 0).1).toList, s.extract p (wrd s s.size p 0).1, p⟩), (wrd s s.size p 0).1) := by
          simp only [lexStep, if_neg hz, if_neg hbl, if_neg h35, if_pos hlb, toTk, wordK_sort]
          by_cases hk : kwB (s.extract p (wrd s s.size p 0).1).toList = true
          · simp only [if_pos hk]
          · simp only [if_neg hk, if_neg h8]
        obtain ⟨g', hg', eg⟩ := lexRun_go (acc := x.toks.map toTk) hg hp hlx
        rw [eg]
        have hn2 : s.size - (wrd s s.size p 0).1 ≤ n := by clear c1 c2 ih es e2 hno eg hlx; omega
        have := ih (wrd s s.size p 0).1 f2 g' ⟨x.toks ++ [⟨wordK (s.extract p (wrd s s.size p 0).1).toList, s.extract p (wrd s s.size p 0).1, p⟩], false, p, 0⟩ hn2 hf2 hg' rfl rfl
        rw [← this]
        simp
    have hlr : letR (chr s p).1 = false := by
      rw [letB_nat] at hlb
      simpa using hlb
    have mark : markK (chr s p).1 ≠ 0 → (chr s p).1 < 128 → lexStep s p = .inr (some (toTk ⟨markK (chr s p).1, s.extract p (p + 1), p⟩), p + 1) → lexRun s g p (x.toks.map toTk) = outS s (scanRun s f p x) := by
      intro hmk hlow hlx
      obtain ⟨_, h1⟩ := chr_low hz hlow
      have ht : takeS s p (Utf8.decode s p).1 x = (⟨x.toks ++ [⟨markK (chr s p).1, s.extract p (p + 1), p⟩], x.rem, x.start, x.letters⟩, 0, true) := by
        rw [hd]
        simp only [takeS, hb, hr, hlr, endW_zero hl, takeM, if_neg hbl, if_neg h35, if_neg hmk]
        simp
      obtain ⟨f', hf', es⟩ := scanRun_go (x := x) hf hp (by rw [ht])
      rw [ht, hd, h1] at es
      rw [hd, h1] at hf'
      obtain ⟨g', hg', eg⟩ := lexRun_go (acc := x.toks.map toTk) hg hp hlx
      rw [eg, es]
      have := ih (p + 1) f' g' ⟨x.toks ++ [⟨markK (chr s p).1, s.extract p (p + 1), p⟩], x.rem, x.start, x.letters⟩ (by omega) hf' hg' hr hl
      rw [← this]
      simp
    by_cases hdg : 48 ≤ (chr s p).1 ∧ (chr s p).1 ≤ 51
    · obtain ⟨m1, m2⟩ := markK_digit hdg
      exact mark m2 (by omega) (by simp only [lexStep, if_neg hz, if_neg hbl, if_neg h35, if_neg hlb, if_pos hdg, toTk, m1])
    by_cases hsg : signB (chr s p).1 = true
    · obtain ⟨m1, m2⟩ := markK_sign hsg
      exact mark m2 (by rcases (signB_nat _).1 hsg with h | h | h | h | h | h | h | h | h | h | h <;> omega) (by simp only [lexStep, if_neg hz, if_neg hbl, if_neg h35, if_neg hlb, if_neg hdg, if_pos hsg, toTk, m1])
    · have hmk := markK_none hsg hdg
      have ht : takeS s p (Utf8.decode s p).1 x = (x, p, false) := by
        rw [hd]
        simp only [takeS, hb, hr, hlr, endW_zero hl, takeM, if_neg hbl, if_neg h35, if_pos hmk]
        simp
      rw [lexRun_bad (p := p) hg hp (by simp only [lexStep, if_neg hz, if_neg hbl, if_neg h35, if_neg hlb, if_neg hdg, if_neg hsg]), scanRun_bad hf hp (by rw [ht]), ht]
      rfl
theorem lex_is_scan (s : ByteArray) : lexRun s s.size 0 [] = outS s (scanRun s s.size 0 ⟨[], false, 0, 0⟩) :=
  lex_scan s s.size 0 s.size s.size ⟨[], false, 0, 0⟩ (by omega) (by omega) (by omega) rfl rfl

end Go.Proofs.YtgbmakpdjdigmaaGreatDoor

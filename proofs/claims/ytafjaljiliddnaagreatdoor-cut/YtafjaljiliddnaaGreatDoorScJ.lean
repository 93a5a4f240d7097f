/- Plain mathematics: a digit's token is one of four texts. -/
import Derived.Test.YtafjaljiliddnaaGreatDoorScA
namespace Go.Proofs.YtafjaljiliddnaaGreatDoor

def DigT (t : PT) : Prop := t.kind = 2 → t.text = ⟨#[48]⟩ ∨ t.text = ⟨#[49]⟩ ∨ t.text = ⟨#[50]⟩ ∨ t.text = ⟨#[51]⟩
/-- Every digit's token of a row is one of the four digits. -/
def DigOk (l : List PT) : Prop := ∀ t, t ∈ l → DigT t
theorem DigOk.snoc {l : List PT} {t : PT} (h : DigOk l) (ht : DigT t) : DigOk (l ++ [t]) := by
  intro u hu
  rcases List.mem_append.1 hu with h1 | h1
  · exact h u h1
  · rw [List.mem_singleton.1 h1]; exact ht
theorem wordK_ne (l : List UInt8) : wordK l ≠ 2 := by unfold wordK; repeat' split
                                                      all_goals decide
theorem DigOk.endW {s : ByteArray} {e : Nat} {x : Sc} (h : DigOk x.toks) : DigOk (endW s e x).toks := by
  unfold Proofs.YtafjaljiliddnaaGreatDoor.endW
  split
  · exact h.snoc (fun hk => absurd hk (wordK_ne _))
  · exact h
theorem markK_two {r : Nat} (h : markK r = 2) : r = 48 ∨ r = 49 ∨ r = 50 ∨ r = 51 := by
  unfold markK at h
  split at h
  · assumption
  · exfalso
    revert h
    repeat' split
    all_goals decide
theorem digit_text {s : ByteArray} {p : Nat} (hp : p < s.size) (h : markK (Utf8.decode s p).1 = 2) : s.extract p (p + 1) = ⟨#[48]⟩ ∨ s.extract p (p + 1) = ⟨#[49]⟩ ∨ s.extract p (p + 1) = ⟨#[50]⟩ ∨ s.extract p (p + 1) = ⟨#[51]⟩ := by
  have hr := markK_two h
  have hlow : (s[p]'hp).toNat < 128 := by
    by_cases ha : (s[p]'hp).toNat < 128
    · exact ha
    · have := (decode_high s p hp (by omega)).1
      omega
  rw [decode_ascii s p hp hlow] at hr
  have he : s.extract p (p + 1) = ⟨#[s[p]'hp]⟩ := by
    apply ByteArray.ext
    rw [ByteArray.data_extract]
    have hz : p < s.data.size := hp
    apply Array.ext
    · simp; omega
    · intro i h1 h2
      have hi : i = 0 := by simp at h2; omega
      subst hi
      simp
      rfl
  have hc : ∀ n : Nat, n < 256 → (s[p]'hp).toNat = n → s[p]'hp = UInt8.ofNat n := by
    intro n hn e
    rw [← e]
    simp
  rw [he]
  rcases hr with q | q | q | q
  · exact .inl (by rw [hc _ (by decide) q]; rfl)
  · exact .inr (.inl (by rw [hc _ (by decide) q]; rfl))
  · exact .inr (.inr (.inl (by rw [hc _ (by decide) q]; rfl)))
  · exact .inr (.inr (.inr (by rw [hc _ (by decide) q]; rfl)))
theorem takeS_dig {s : ByteArray} {p : Nat} {x : Sc} (hp : p < s.size) (h : DigOk x.toks) : DigOk (takeS s p (Utf8.decode s p).1 x).1.toks := by
  unfold takeS
  split
  · exact h
  · split
    · exact h
    · split
      · split
        · exact h
        · exact h
      · have he := h.endW (s := s) (e := p)
        unfold takeM
        split
        · exact he
        · split
          · exact he
          · split
            · exact he
            · exact he.snoc (fun hk => digit_text hp hk)
theorem scanRun_dig (s : ByteArray) : ∀ (f p : Nat) (x y : Sc), DigOk x.toks → scanRun s f p x = .inr y → DigOk y.toks
  | 0, _, x, y, h, e => by
    have := Sum.inr.inj e
    subst this
    exact h
  | f + 1, p, x, y, h, e => by
    unfold scanRun at e
    split at e
    · rename_i hp
      split at e
      · exact scanRun_dig s f _ _ y (takeS_dig hp h) e
      · cases e
    · have := Sum.inr.inj e
      subst this
      exact h
theorem scanEnd_dig {s : ByteArray} {y : Sc} (h : scanRun s s.size 0 ⟨[], false, 0, 0⟩ = .inr y) : DigOk (scanEnd s y) :=
  (scanRun_dig s _ _ _ _ (fun _ hu => absurd hu (by simp)) h).endW.snoc (fun hk => absurd (show (0 : Nat) = 2 from hk) (by decide))

end Go.Proofs.YtafjaljiliddnaaGreatDoor

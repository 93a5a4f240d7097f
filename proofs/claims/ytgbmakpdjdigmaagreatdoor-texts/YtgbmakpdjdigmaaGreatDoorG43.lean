/- EqG: told at each. -/
import Derived.Test.YtgbmakpdjdigmaaGreatDoorG42
import Derived.Test.YtgbmakpdjdigmaaGreatDoorG15

/- Plain mathematics: what a parsed program keeps to: the places of its names rise; its trees are no deeper and no larger than its tokens. No condition. -/
namespace Go.Proofs.YtgbmakpdjdigmaaGreatDoor

def Asc : Nat → Nat → List Nat → Prop
  | i, j, [] => i ≤ j
  | i, j, p :: ps => i ≤ p ∧ Asc (p + 1) j ps
theorem Asc.left : ∀ {ps : List Nat} {i i' j : Nat}, Asc i j ps → i' ≤ i → Asc i' j ps
  | [], _, _, _, h, hi => Nat.le_trans hi h
  | _ :: _, _, _, _, h, hi => ⟨Nat.le_trans hi h.1, h.2⟩
theorem Asc.right : ∀ {ps : List Nat} {i j j' : Nat}, Asc i j ps → j ≤ j' → Asc i j' ps
  | [], _, _, _, h, hi => Nat.le_trans h hi
  | _ :: _, _, _, _, h, hi => ⟨h.1, h.2.right hi⟩
theorem Asc.le : ∀ {ps : List Nat} {i j : Nat}, Asc i j ps → i + ps.length ≤ j
  | [], _, _, h => h
  | p :: ps, i, j, h => by have := h.2.le; have := h.1; simp only [List.length_cons]; omega
theorem Asc.snoc : ∀ {ps : List Nat} {i j : Nat}, Asc i j ps → Asc i (j + 1) (ps ++ [j])
  | [], _, _, h => ⟨h, Nat.le_refl _⟩
  | _ :: _, _, _, h => ⟨h.1, h.2.snoc⟩
inductive ChnR {A : Type} (R : Nat → Nat → A → Prop) : Nat → Nat → List A → Prop
  | nil {i j : Nat} (h : i ≤ j) : ChnR R i j []
  | cons {i m j : Nat} {a : A} {l : List A} (h : R i m a) (t : ChnR R m j l) : ChnR R i j (a :: l)
theorem ChnR.snoc {A : Type} {R : Nat → Nat → A → Prop} {i m j : Nat} {l : List A} {a : A} (h : ChnR R i m l) (hl : ∀ i' i j a, R i j a → i' ≤ i → R i' j a) (r : R m j a) (hj : m ≤ j) : ChnR R i j (l ++ [a]) := by
  induction h with
  | nil h => exact .cons (hl _ _ _ _ r h) (.nil (Nat.le_refl _))
  | cons h _ ih => exact .cons h (ih r hj)
theorem ChnR.mono {A : Type} {R S : Nat → Nat → A → Prop} {i j : Nat} {l : List A} (h : ChnR R i j l) (k : ∀ i j a, R i j a → S i j a) : ChnR S i j l := by
  induction h with
  | nil h => exact .nil h
  | cons h _ ih => exact .cons (k _ _ _ h) ih
theorem ChnR.le {A : Type} {R : Nat → Nat → A → Prop} {i j : Nat} {l : List A} (h : ChnR R i j l) (k : ∀ i j a, R i j a → i < j) : i + l.length ≤ j := by
  induction h with
  | nil h => exact h
  | cons h _ ih => have := k _ _ _ h; simp only [List.length_cons]; omega
theorem ChnR.low {A : Type} {R S : Nat → Nat → A → Prop} {i j i0 j0 : Nat} {l : List A} (h : ChnR R i j l) (lt : ∀ i j a, R i j a → i < j) (k : ∀ a b x, i0 ≤ a → b ≤ j0 → R a b x → S a b x) (h1 : i0 ≤ i) (h2 : j ≤ j0) : ChnR S i j l := by
  induction h with
  | nil h => exact .nil h
  | cons h t ih =>
    have q := lt _ _ _ h
    have q2 := t.le lt
    exact .cons (k _ _ _ h1 (by omega) h) (ih (by omega) h2)

def vlN (v : VS) : List PT := if v.kind = 1 then [] else if v.kind = 7 ∨ v.kind = 8 then v.sr :: v.args else [v.sr]
/-- The names of a statement without blocks, in the order in which they are looked at. -/
def nmL (s : VS) : List PT := if s.kind = 0 ∨ s.kind = 1 then [s.tg] else if s.kind = 10 then [s.sr] else if s.kind = 7 ∨ s.kind = 8 then s.tg :: s.sr :: s.args else [s.tg, s.sr]
/-- The statement's tokens are those from i on, up to j. -/
def Good (toks : List PT) : Nat → Nat → Nat → TS → Prop
  | 0, _, _, _ => False
  | d + 1, i, j, .mk s bl => i < j ∧ j < toks.length ∧
    ((bl = [] ∧ s.kind ≤ 10 ∧ VOk s ∧ (s.kind ≠ 7 → s.kind ≠ 8 → s.args = []) ∧ ∃ ps, nmL s = ps.map (ptAt toks) ∧ Asc i j ps) ∨
     (∃ k ts m, bl = [((ptAt toks k).place, ts)] ∧ (s = vsK 11 ∨ s = vsK 12) ∧ i < k ∧ ChnR (Good toks d) (k + 1) m ts ∧ m < j) ∨
     (∃ k ts m k2 ts2 m2, bl = [((ptAt toks k).place, ts), ((ptAt toks k2).place, ts2)] ∧ s = vsK 11 ∧ i < k ∧ ChnR (Good toks d) (k + 1) m ts ∧ m < k2 ∧ ChnR (Good toks d) (k2 + 1) m2 ts2 ∧ m2 < j))
theorem Good.lt {toks : List PT} {d i j : Nat} {t : TS} (h : Good toks d i j t) : i < j := by
  match d, t, h with
  | d + 1, .mk s bl, h => exact h.1
theorem Good.left {toks : List PT} {d i i' j : Nat} {t : TS} (h : Good toks d i j t) (hi : i' ≤ i) : Good toks d i' j t := by
  match d, t, h with
  | d + 1, .mk s bl, h =>
    obtain ⟨h1, h2, h3⟩ := h
    refine ⟨by omega, h2, ?_⟩
    rcases h3 with ⟨a, b, c, g, ps, e, f⟩ | ⟨k, ts, m, a, b, c, e⟩ | ⟨k, ts, m, k2, ts2, m2, a, b, c, e⟩
    · exact .inl ⟨a, b, c, g, ps, e, f.left hi⟩
    · exact .inr (.inl ⟨k, ts, m, a, b, by omega, e⟩)
    · exact .inr (.inr ⟨k, ts, m, k2, ts2, m2, a, b, by omega, e⟩)
theorem Good.up {toks : List PT} : ∀ {d i j : Nat} {t : TS}, Good toks d i j t → Good toks (d + 1) i j t
  | 0, _, _, _, h => h.elim
  | d + 1, i, j, .mk s bl, h => by
    obtain ⟨h1, h2, h3⟩ := h
    refine ⟨h1, h2, ?_⟩
    rcases h3 with h | ⟨k, ts, m, a, b, c, e, f⟩ | ⟨k, ts, m, k2, ts2, m2, a, b, c, e, f, g, h⟩
    · exact .inl h
    · exact .inr (.inl ⟨k, ts, m, a, b, c, e.mono (fun _ _ _ r => r.up), f⟩)
    · exact .inr (.inr ⟨k, ts, m, k2, ts2, m2, a, b, c, e.mono (fun _ _ _ r => r.up), f, g.mono (fun _ _ _ r => r.up), h⟩)
/-- No deeper than its tokens. -/
theorem Good.lower {toks : List PT} : ∀ {d i j : Nat} {t : TS} (e : Nat), Good toks d i j t → j - i ≤ e → Good toks e i j t
  | 0, _, _, _, _, h, _ => h.elim
  | d + 1, i, j, .mk s bl, 0, h, he => by have := h.1; omega
  | d + 1, i, j, .mk s bl, e + 1, h, he => by
    obtain ⟨h1, h2, h3⟩ := h
    refine ⟨h1, h2, ?_⟩
    have L : ∀ (a b : Nat) (ts : List TS), i + 1 ≤ a → b ≤ j → ChnR (Good toks d) a b ts → ChnR (Good toks e) a b ts := fun a b ts ha hb r =>
      r.low (i0 := i + 1) (j0 := j) (fun _ _ _ q => q.lt) (fun a' b' x ha' hb' q => Good.lower e q (by omega)) ha hb
    rcases h3 with h | ⟨k, ts, m, a, b, c, q, f⟩ | ⟨k, ts, m, k2, ts2, m2, a, b, c, q, f, g, h⟩
    · exact .inl h
    · exact .inr (.inl ⟨k, ts, m, a, b, c, L _ _ _ (by omega) (by omega) q, f⟩)
    · have := g.le (fun _ _ _ q => q.lt)
      have := q.le (fun _ _ _ q => q.lt)
      exact .inr (.inr ⟨k, ts, m, k2, ts2, m2, a, b, c, L _ _ _ (by omega) (by omega) q, f, L _ _ _ (by omega) (by omega) g, h⟩)

theorem valP_args (toks : List PT) (n : Nat) (x : PS) : (valP toks n x).1.kind ≠ 7 → (valP toks n x).1.kind ≠ 8 → (valP toks n x).1.args = [] := by
  unfold valP
  split
  · intro _ _; rfl
  · split
    · unfold addrP
      simp only
      split <;> (intro _ _; rfl)
    · split
      · intro _ _; rfl
      · split
        · intro _ _; rfl
        · split
          · intro _ h; exact absurd rfl h
          · split
            · intro h; exact absurd rfl h
            · intro _ _; rfl
theorem plainP_args (toks : List PT) (n : Nat) (x : PS) : (plainP toks n x).1.kind ≠ 7 → (plainP toks n x).1.kind ≠ 8 → (plainP toks n x).1.args = [] := by
  unfold plainP
  split
  · intro _ _; rfl
  · split
    · intro _ _; rfl
    · split
      · intro _ _; rfl
      · exact valP_args _ _ _
section
variable {N : Nat} {toks : List PT} (H : TksOk N toks) (hN : N ≤ 4000) (hn : toks.length ≤ 4001)
include H
theorem pt_len (p : Nat) : (ptAt toks p).text.size ≤ N ∧ (ptAt toks p).place ≤ N := by
  rcases Nat.lt_or_ge p toks.length with q | q
  · exact H.len _ (ptAt_inm q)
  · unfold ptAt
    rw [List.getElem?_eq_none q]
    exact ⟨Nat.zero_le _, Nat.zero_le _⟩
theorem take_len (k : Nat) (x : PS) : (takeV toks k x).text.size ≤ N ∧ (takeV toks k x).place ≤ N := by
  unfold takeV
  split
  · exact pt_len H _
  · exact ⟨Nat.zero_le _, Nat.zero_le _⟩
omit H in
theorem nms_asc : ∀ (f : Nat) (x : PS) (acc : List PT), ∃ ps, (nmsR toks f x acc).1 = acc ++ ps.map (ptAt toks) ∧ Asc x.next (nmsR toks f x acc).2.next ps ∧ (nmsR toks f x acc).2.failed = x.failed
  | 0, x, acc => ⟨[], by simp [nmsR], Nat.le_refl _, rfl⟩
  | f + 1, x, acc => by
    rw [nmsR]
    split
    · obtain ⟨ps, h1, h2, h3⟩ := nms_asc f ⟨x.next + 1, x.failed, x.wrong⟩ (acc ++ [ptAt toks x.next])
      exact ⟨x.next :: ps, by rw [h1]; simp, ⟨Nat.le_refl _, h2⟩, h3⟩
    · exact ⟨[], by simp, Nat.le_refl _, rfl⟩
omit H in
theorem names_good {x : PS} (h : (namesP toks toks.length x).2.failed = false) : x.failed = false ∧ ∃ ps, (namesP toks toks.length x).1 = ps.map (ptAt toks) ∧ Asc (x.next + 1) (namesP toks toks.length x).2.next ps ∧ x.next + 2 ≤ (namesP toks toks.length x).2.next := by
  unfold namesP at h ⊢
  simp only at h ⊢
  obtain ⟨ps, a1, a2, a3⟩ := nms_asc (toks := toks) toks.length (takeP toks toks.length 10 x) []
  have t2 := take_next (k := 11) (by decide) h
  rw [a3] at t2
  have t1 := take_next (k := 10) (by decide) t2.1
  have := a2.le
  rw [t1.2.1] at a2 this
  exact ⟨t1.1, ps, by simpa using a1, a2.right (by rw [t2.2.1]; omega), by rw [t2.2.1]; omega⟩
theorem names_ok {x : PS} : ∀ t, t ∈ (namesP toks toks.length x).1 → t.text.size ≤ N ∧ t.place ≤ N := by
  intro t ht
  obtain ⟨ps, a1, _, _⟩ := nms_asc (toks := toks) toks.length (takeP toks toks.length 10 x) []
  have e : (namesP toks toks.length x).1 = ps.map (ptAt toks) := by unfold namesP; simpa using a1
  rw [e] at ht
  obtain ⟨p, _, rfl⟩ := List.mem_map.1 ht
  exact pt_len H p
theorem val_good {x : PS} (h : (valP toks toks.length x).2.failed = false) : x.failed = false ∧ x.next < (valP toks toks.length x).2.next ∧ (∃ ps, vlN (valP toks toks.length x).1 = ps.map (ptAt toks) ∧ Asc x.next (valP toks toks.length x).2.next ps) ∧ (valP toks toks.length x).1.sr.text.size ≤ N ∧ (∀ t, t ∈ (valP toks toks.length x).1.args → t.text.size ≤ N) ∧ x.next + (valP toks toks.length x).1.args.length ≤ (valP toks toks.length x).2.next := by
  have T := fun (k : Nat) (hk : k ≠ 0) {x : PS} (h : (takeP toks toks.length k x).failed = false) => take_next hk h
  have Z : (ptNo : PT).text.size ≤ N := Nat.zero_le _
  unfold valP at h ⊢
  split at h
  · rename_i hk
    rw [if_pos hk]
    have t := T 5 (by decide) h
    simp only at t ⊢
    exact ⟨t.1, by omega, ⟨[], rfl, show x.next ≤ _ by omega⟩, Z, by simp, by simp; omega⟩
  rename_i k5
  rw [if_neg k5]
  split at h
  · rename_i hk
    rw [if_pos hk]
    unfold addrP at h ⊢
    simp only at h ⊢
    split at h
    · rename_i k19
      rw [if_pos k19]
      have t4 := T 2 (by decide) h
      have t3 := T 19 (by decide) t4.1
      have t2 := T 1 (by decide) t3.1
      have t1 := T 16 (by decide) t2.1
      simp only
      refine ⟨t1.1, by omega, ⟨[(takeP toks toks.length 16 x).next], by simp [vlN, t2.2.2.1], ⟨by omega, show _ ≤ _ by omega⟩⟩, (take_len H _ _).1, by simp, by simp; omega⟩
    · rename_i k19
      rw [if_neg k19]
      have t2 := T 1 (by decide) h
      have t1 := T 16 (by decide) t2.1
      simp only
      refine ⟨t1.1, by omega, ⟨[(takeP toks toks.length 16 x).next], by simp [vlN, t2.2.2.1], ⟨by omega, show _ ≤ _ by omega⟩⟩, (take_len H _ _).1, by simp, by simp; omega⟩
  rename_i k16
  rw [if_neg k16]
  split at h
  · rename_i hk
    rw [if_pos hk]
    have t2 := T 1 (by decide) h
    have t1 := T 17 (by decide) t2.1
    simp only at t2 ⊢
    refine ⟨t1.1, by omega, ⟨[(takeP toks toks.length 17 x).next], by simp [vlN, t2.2.2.1], ⟨by omega, show _ ≤ _ by omega⟩⟩, (take_len H _ _).1, by simp, by simp; omega⟩
  rename_i k17
  rw [if_neg k17]
  split at h
  · rename_i hk
    rw [if_pos hk]
    have t2 := T 1 (by decide) h
    have t1 := T 18 (by decide) t2.1
    simp only at t2 ⊢
    refine ⟨t1.1, by omega, ⟨[(takeP toks toks.length 18 x).next], by simp [vlN, t2.2.2.1], ⟨by omega, show _ ≤ _ by omega⟩⟩, (take_len H _ _).1, by simp, by simp; omega⟩
  rename_i k18
  rw [if_neg k18]
  split at h
  · rename_i hk
    rw [if_pos hk]
    unfold callP at h ⊢
    simp only at h ⊢
    obtain ⟨n1, ps, n2, n3, n4⟩ := names_good h
    have t4 := T 11 (by decide) n1
    have t3 := T 1 (by decide) t4.1
    have t2 := T 17 (by decide) t3.1
    have t1 := T 10 (by decide) t2.1
    have q := n3.le
    have ql : (namesP toks toks.length (takeP toks toks.length 11 (takeP toks toks.length 1 (takeP toks toks.length 17 (takeP toks toks.length 10 x))))).1.length = ps.length := by rw [n2]; simp
    refine ⟨t1.1, by omega, ⟨(takeP toks toks.length 17 (takeP toks toks.length 10 x)).next :: ps, by simp [vlN, t3.2.2.1, n2], ⟨by omega, n3.left (by omega)⟩⟩, (take_len H _ _).1, fun t ht => (names_ok H t ht).1, by omega⟩
  rename_i k10
  rw [if_neg k10]
  split at h
  · rename_i hk
    rw [if_pos hk]
    simp only at h ⊢
    obtain ⟨n1, ps, n2, n3, n4⟩ := names_good h
    have t1 := T 1 (by decide) n1
    have q := n3.le
    have ql : (namesP toks toks.length (takeP toks toks.length 1 x)).1.length = ps.length := by rw [n2]; simp
    refine ⟨t1.1, by omega, ⟨x.next :: ps, by simp [vlN, t1.2.2.1, n2], ⟨by omega, n3.left (by omega)⟩⟩, (take_len H _ _).1, fun t ht => (names_ok H t ht).1, by omega⟩
  · rename_i hk
    rw [if_neg hk]
    have t1 := T 1 (by decide) h
    simp only at t1 ⊢
    refine ⟨t1.1, by omega, ⟨[x.next], by simp [vlN, t1.2.2.1], ⟨by omega, show _ ≤ _ by omega⟩⟩, (take_len H _ _).1, by simp, by simp; omega⟩
include hN hn
theorem plain_good {x : PS} (h : (plainP toks toks.length x).2.failed = false) (hl : (plainP toks toks.length x).2.next < toks.length) : x.failed = false ∧ x.next < (plainP toks toks.length x).2.next ∧ (plainP toks toks.length x).1.kind ≤ 10 ∧ VOk (plainP toks toks.length x).1 ∧ ∃ ps, nmL (plainP toks toks.length x).1 = ps.map (ptAt toks) ∧ Asc x.next (plainP toks toks.length x).2.next ps := by
  have T := fun (k : Nat) (hk : k ≠ 0) {x : PS} (h : (takeP toks toks.length k x).failed = false) => take_next hk h
  have Z1 : (ptNo : PT).text.size ≤ 4000 := Nat.zero_le _
  have Z2 : (ptNo : PT).place ≤ 4000 := Nat.zero_le _
  have L1 := fun (k : Nat) (x : PS) => Nat.le_trans (take_len H k x).1 hN
  have L2 := fun (k : Nat) (x : PS) => Nat.le_trans (take_len H k x).2 hN
  unfold plainP at h hl ⊢
  split at h
  · rename_i hk
    rw [if_pos hk]
    have t2 := T 1 (by decide) h
    have t1 := T 4 (by decide) t2.1
    simp only at t2 ⊢
    exact ⟨t1.1, by omega, by omega, ⟨L1 _ _, L2 _ _, Z1, by simp, by simp⟩, [(takeP toks toks.length 4 x).next], by simp [nmL, t2.2.2.1], ⟨by omega, show _ ≤ _ by omega⟩⟩
  rename_i k4
  rw [if_neg k4] at hl ⊢
  split at h
  · rename_i hk
    rw [if_pos hk]
    have t2 := T 1 (by decide) h
    have t1 := T 6 (by decide) t2.1
    simp only at t2 ⊢
    exact ⟨t1.1, by omega, by omega, ⟨Z1, Z2, L1 _ _, by simp, by simp⟩, [(takeP toks toks.length 6 x).next], by simp [nmL, t2.2.2.1], ⟨by omega, show _ ≤ _ by omega⟩⟩
  rename_i k6
  rw [if_neg k6] at hl ⊢
  split at h
  · rename_i hk
    rw [if_pos hk]
    have t4 := T 1 (by decide) h
    have t3 := T 15 (by decide) t4.1
    have t2 := T 1 (by decide) t3.1
    have t1 := T 17 (by decide) t2.1
    simp only at t4 ⊢
    exact ⟨t1.1, by omega, by omega, ⟨L1 _ _, L2 _ _, L1 _ _, by simp, by simp⟩, [(takeP toks toks.length 17 x).next, (takeP toks toks.length 15 (takeP toks toks.length 1 (takeP toks toks.length 17 x))).next], by simp [nmL, t2.2.2.1, t4.2.2.1], ⟨by omega, by omega, show _ ≤ _ by omega⟩⟩
  · rename_i k17
    rw [if_neg k17] at hl ⊢
    simp only at h hl ⊢
    have few := valP_few toks toks.length (takeP toks toks.length 15 (takeP toks toks.length 1 x))
    obtain ⟨v1, v2, ⟨ps, v3, v4⟩, v5, v6, v7⟩ := val_good H h
    have t2 := T 15 (by decide) v1
    have t1 := T 1 (by decide) t2.1
    generalize (valP toks toks.length (takeP toks toks.length 15 (takeP toks toks.length 1 x))).1 = v at *
    refine ⟨t1.1, by omega, by omega, ⟨L1 _ _, L2 _ _, Nat.le_trans v5 hN, fun t ht => Nat.le_trans (v6 t ht) hN, by simp only; omega⟩, x.next :: ps, ?_, ⟨by omega, v4.left (by omega)⟩⟩
    rw [List.map_cons, ← v3, t1.2.2.1]
    unfold nmL vlN
    simp only
    by_cases h1 : v.kind = 1
    · simp [h1]
    · rw [if_neg (by omega), if_neg (by omega), if_neg h1]
      by_cases h78 : v.kind = 7 ∨ v.kind = 8
      · rw [if_pos h78, if_pos h78]
      · rw [if_neg h78, if_neg h78]
omit H hN hn in
theorem begin_lt {p : Nat} (h : beginK (ptAt toks p).kind) : p < toks.length := by
  rcases Nat.lt_or_ge p toks.length with q | q
  · exact q
  · unfold ptAt at h
    rw [List.getElem?_eq_none q] at h
    simp [beginK, ptNo] at h
/-- A statement, and statements: their tokens. -/
theorem both_good : ∀ f : Nat,
    (∀ (x : PS) (acc : List TS), x.next < toks.length → 2 * (toks.length - x.next) + 1 ≤ f → (stmtsP toks toks.length f x acc).2.failed = false → x.failed = false ∧ ∃ ts, (stmtsP toks toks.length f x acc).1 = acc ++ ts ∧ ChnR (Good toks f) x.next (stmtsP toks toks.length f x acc).2.next ts) ∧
    (∀ (x : PS), x.next < toks.length → 2 * (toks.length - x.next) ≤ f → (stmtP toks toks.length f x).2.failed = false → x.failed = false ∧ Good toks f x.next (stmtP toks toks.length f x).2.next (stmtP toks toks.length f x).1) := by
  have T := fun (k : Nat) (hk : k ≠ 0) {x : PS} (h : (takeP toks toks.length k x).failed = false) => take_next hk h
  have TG := fun (k : Nat) {x : PS} (hc : x.next < toks.length) => takeP_goes (n := toks.length) H.end_ k hc
  intro f
  induction f with
  | zero => exact ⟨fun x acc hx hf => by omega, fun x hx hf => by omega⟩
  | succ f ih =>
    refine ⟨fun x acc hx hf h => ?_, fun x hx hf h => ?_⟩
    · rw [stmtsP] at h ⊢
      split at h
      · rename_i hb
        rw [if_pos hb]
        obtain ⟨e1, he1⟩ : ∃ e1, f = e1 + 1 := ⟨f - 1, by omega⟩
        have hm : x.next + 1 ≤ (stmtP toks toks.length f x).2.next := by subst he1; exact stmtP_more H.end_ e1 hx hb
        have hg := stmtP_goes H.end_ f x hx
        obtain ⟨a1, ts, a2, a3⟩ := ih.1 _ _ hg.2 (by omega) h
        obtain ⟨b1, b2⟩ := ih.2 x hx (by omega) a1
        exact ⟨b1, (stmtP toks toks.length f x).1 :: ts, by rw [a2]; simp, .cons b2.up (a3.mono (fun _ _ _ q => q.up))⟩
      · rename_i hb
        rw [if_neg hb]
        exact ⟨h, [], by simp, .nil (Nat.le_refl _)⟩
    · have hl := (stmtP_goes H.end_ (f + 1) x hx).2
      rw [stmtP] at h hl ⊢
      split at h
      · rename_i k7
        rw [if_pos k7] at hl ⊢
        simp only at h hl ⊢
        have m1 := takeP_more (n := toks.length) k7 (by decide)
        have g1 := TG 7 hx
        have g2 := TG 20 g1.2
        have g3 := TG 12 g2.2
        have g4 := stmtsP_goes H.end_ f _ [] g3.2
        have g5 := TG 13 g4.2
        have i1 := ih.1 (takeP toks toks.length 12 (takeP toks toks.length 20 (takeP toks toks.length 7 x))) [] g3.2 (by have := g2.1; have := g3.1; omega)
        have FIN : (takeP toks toks.length 13 (stmtsP toks toks.length f (takeP toks toks.length 12 (takeP toks toks.length 20 (takeP toks toks.length 7 x))) []).2).failed = false → x.failed = false ∧ x.next + 2 = (takeP toks toks.length 20 (takeP toks toks.length 7 x)).next ∧ (takeV toks 12 (takeP toks toks.length 20 (takeP toks toks.length 7 x))) = ptAt toks (takeP toks toks.length 20 (takeP toks toks.length 7 x)).next ∧ ChnR (Good toks f) ((takeP toks toks.length 20 (takeP toks toks.length 7 x)).next + 1) (stmtsP toks toks.length f (takeP toks toks.length 12 (takeP toks toks.length 20 (takeP toks toks.length 7 x))) []).2.next (stmtsP toks toks.length f (takeP toks toks.length 12 (takeP toks toks.length 20 (takeP toks toks.length 7 x))) []).1 ∧ (stmtsP toks toks.length f (takeP toks toks.length 12 (takeP toks toks.length 20 (takeP toks toks.length 7 x))) []).2.next + 1 = (takeP toks toks.length 13 (stmtsP toks toks.length f (takeP toks toks.length 12 (takeP toks toks.length 20 (takeP toks toks.length 7 x))) []).2).next := by
          intro h
          have t5 := T 13 (by decide) h
          obtain ⟨s4, ts, s5, s6⟩ := i1 t5.1
          have t3 := T 12 (by decide) s4
          have t2 := T 20 (by decide) t3.1
          have t1 := T 7 (by decide) t2.1
          simp only [List.nil_append] at s5
          rw [s5]
          rw [t3.2.1] at s6
          exact ⟨t1.1, by omega, t3.2.2.1, s6, by omega⟩
        have hx2 : x.next + 1 ≤ (takeP toks toks.length 13 (stmtsP toks toks.length f (takeP toks toks.length 12 (takeP toks toks.length 20 (takeP toks toks.length 7 x))) []).2).next := by have := g2.1; have := g3.1; have := g4.1; have := g5.1; omega
        generalize takeP toks toks.length 20 (takeP toks toks.length 7 x) = x2 at *
        generalize stmtsP toks toks.length f (takeP toks toks.length 12 x2) [] = r at *
        split at h
        · rename_i k8
          rw [if_pos k8] at hl ⊢
          simp only at h hl ⊢
          have u1 := TG 8 g5.2
          have u2 := TG 12 u1.2
          have i2 := ih.1 (takeP toks toks.length 12 (takeP toks toks.length 8 (takeP toks toks.length 13 r.2))) [] u2.2 (by have := u1.1; have := u2.1; omega)
          have w5 := T 13 (by decide) h
          obtain ⟨s4, ts2, s5, s6⟩ := i2 w5.1
          have w3 := T 12 (by decide) s4
          have w2 := T 8 (by decide) w3.1
          obtain ⟨f1, f2, f3, f4, f5⟩ := FIN w2.1
          simp only [List.nil_append] at s5
          rw [w3.2.1] at s6
          have l1 := f4.le (fun _ _ _ q => q.lt)
          have l2 := s6.le (fun _ _ _ q => q.lt)
          refine ⟨f1, by omega, hl, .inr (.inr ⟨x2.next, r.1, r.2.next, (takeP toks toks.length 8 (takeP toks toks.length 13 r.2)).next, ts2, _, ?_, rfl, by omega, f4, by omega, s6, by omega⟩)⟩
          rw [f3, w3.2.2.1, s5]
        · rename_i k8
          rw [if_neg k8] at hl ⊢
          simp only at h hl ⊢
          obtain ⟨f1, f2, f3, f4, f5⟩ := FIN h
          have l1 := f4.le (fun _ _ _ q => q.lt)
          refine ⟨f1, by omega, hl, .inr (.inl ⟨x2.next, r.1, r.2.next, ?_, .inl rfl, by omega, f4, by omega⟩)⟩
          rw [f3]
      · rename_i k7
        rw [if_neg k7] at hl ⊢
        split at h
        · rename_i k9
          rw [if_pos k9] at hl ⊢
          simp only at h hl ⊢
          have m1 := takeP_more (n := toks.length) k9 (by decide)
          have g1 := TG 9 hx
          have g2 := TG 20 g1.2
          have g3 := TG 12 g2.2
          have t5 := T 13 (by decide) h
          obtain ⟨s4, ts, s5, s6⟩ := ih.1 _ [] g3.2 (by have := g2.1; have := g3.1; omega) t5.1
          have t3 := T 12 (by decide) s4
          have t2 := T 20 (by decide) t3.1
          have t1 := T 9 (by decide) t2.1
          have l2 := s6.le (fun _ _ _ q => q.lt)
          simp only [List.nil_append] at s5
          rw [t3.2.1] at s6
          refine ⟨t1.1, by omega, hl, .inr (.inl ⟨(takeP toks toks.length 20 (takeP toks toks.length 9 x)).next, ts, _, ?_, .inr rfl, by omega, s6, by omega⟩)⟩
          rw [t3.2.2.1, s5]
        · rename_i k9
          rw [if_neg k9] at hl ⊢
          simp only at h hl ⊢
          have t1 := T 14 (by decide) h
          obtain ⟨a1, a2, a3, a4, ps, a5, a6⟩ := plain_good H hN hn t1.1 (by omega)
          exact ⟨a1, by omega, hl, .inl ⟨rfl, a3, a4, plainP_args _ _ _, ps, a5, a6.right (by omega)⟩⟩
end
end Go.Proofs.YtgbmakpdjdigmaaGreatDoor
